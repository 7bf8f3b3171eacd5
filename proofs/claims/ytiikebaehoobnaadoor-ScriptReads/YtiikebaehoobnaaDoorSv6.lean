/- Layer 20: are two moves the same: where they are. -/
import Derived.Test.YtiikebaehoobnaaDoorSv5
import Derived.Test.YtiikebaehoobnaaDoorSre
namespace Go.Proofs.YtiikebaehoobnaaDoor
set_option maxRecDepth 100000
open Go.RowKit Go.Maps
set_option maxRecDepth 100000
set_option linter.unusedVariables false
set_option maxHeartbeats 2000000 in
theorem rsameM (m : Mv) (a a' : Option Addr) (c c' : Nat) (w : World) (hr : Row8 w a m.l c m.b) (hr' : Row8 w a' m.l c' m.b) : Calls Tryd.prog 19 #[.agg #[.int .i64 m.k, .int .i64 m.c, .int .i64 m.s, .int .i64 m.f, .int .i64 m.a, .int .u32 (m.w : Nat), .int .i64 m.n, .bool m.h, .slice a m.l c], .agg #[.int .i64 m.k, .int .i64 m.c, .int .i64 m.s, .int .i64 m.f, .int .i64 m.a, .int .u32 (m.w : Nat), .int .i64 m.n, .bool m.h, .slice a' m.l c']] w fun r w' => r = .returned (.bool true) ∧ Below w.heap.size w w' := by
  have ba : Below w.heap.size w (w.alloc (.cells #[.int .i64 m.k, .int .i64 m.c, .int .i64 m.s, .int .i64 m.f, .int .i64 m.a, .int .u32 (m.w : Nat), .int .i64 m.n, .bool m.h, .slice a m.l c] 34)) := belA (Below.refl _ _) _
  have bb : Below w.heap.size w ((w.alloc (.cells #[.int .i64 m.k, .int .i64 m.c, .int .i64 m.s, .int .i64 m.f, .int .i64 m.a, .int .u32 (m.w : Nat), .int .i64 m.n, .bool m.h, .slice a m.l c] 34)).alloc (.cells #[.int .i64 m.k, .int .i64 m.c, .int .i64 m.s, .int .i64 m.f, .int .i64 m.a, .int .u32 (m.w : Nat), .int .i64 m.n, .bool m.h, .slice a' m.l c'] 34)) := belA ba _
  have c1 := conv_any a m.l c m.b _ (hr.below bb)
  have c2 := conv_any a' m.l c' m.b _ (hr'.below bb)
  have k1 : Bk ((w.alloc (.cells #[.int .i64 m.k, .int .i64 m.c, .int .i64 m.s, .int .i64 m.f, .int .i64 m.a, .int .u32 (m.w : Nat), .int .i64 m.n, .bool m.h, .slice a m.l c] 34)).alloc (.cells #[.int .i64 m.k, .int .i64 m.c, .int .i64 m.s, .int .i64 m.f, .int .i64 m.a, .int .u32 (m.w : Nat), .int .i64 m.n, .bool m.h, .slice a' m.l c'] 34)) w.heap.size #[.int .i64 m.k, .int .i64 m.c, .int .i64 m.s, .int .i64 m.f, .int .i64 m.a, .int .u32 (m.w : Nat), .int .i64 m.n, .bool m.h, .slice a m.l c] 34 := (Bk.new w _ _).off (l := []) (Off.alloc _ _ _) (by simp)
  have k2 := Bk.new (w.alloc (.cells #[.int .i64 m.k, .int .i64 m.c, .int .i64 m.s, .int .i64 m.f, .int .i64 m.a, .int .u32 (m.w : Nat), .int .i64 m.n, .bool m.h, .slice a m.l c] 34)) #[.int .i64 m.k, .int .i64 m.c, .int .i64 m.s, .int .i64 m.f, .int .i64 m.a, .int .u32 (m.w : Nat), .int .i64 m.n, .bool m.h, .slice a' m.l c'] 34
  have sz : (w.alloc (.cells #[.int .i64 m.k, .int .i64 m.c, .int .i64 m.s, .int .i64 m.f, .int .i64 m.a, .int .u32 (m.w : Nat), .int .i64 m.n, .bool m.h, .slice a m.l c] 34)).heap.size = w.heap.size + 1 := by simp
  rw [sz] at k2
  obtain ⟨W, hW⟩ : ∃ x, (w.alloc (.cells #[.int .i64 m.k, .int .i64 m.c, .int .i64 m.s, .int .i64 m.f, .int .i64 m.a, .int .u32 (m.w : Nat), .int .i64 m.n, .bool m.h, .slice a m.l c] 34)).alloc (.cells #[.int .i64 m.k, .int .i64 m.c, .int .i64 m.s, .int .i64 m.f, .int .i64 m.a, .int .u32 (m.w : Nat), .int .i64 m.n, .bool m.h, .slice a' m.l c'] 34) = x := ⟨_, rfl⟩
  rw [hW] at bb c1 c2 k1 k2
  have p0 : W.cell? ⟨w.heap.size, 0, none⟩ = some (.int .i64 m.k) := k1.cell 0
  have p1 : W.cell? ⟨w.heap.size, 1, none⟩ = some (.int .i64 m.c) := k1.cell 1
  have p2 : W.cell? ⟨w.heap.size, 2, none⟩ = some (.int .i64 m.s) := k1.cell 2
  have p3 : W.cell? ⟨w.heap.size, 3, none⟩ = some (.int .i64 m.f) := k1.cell 3
  have p4 : W.cell? ⟨w.heap.size, 4, none⟩ = some (.int .i64 m.a) := k1.cell 4
  have p5 : W.cell? ⟨w.heap.size, 5, none⟩ = some (.int .u32 (m.w : Nat)) := k1.cell 5
  have p6 : W.cell? ⟨w.heap.size, 6, none⟩ = some (.int .i64 m.n) := k1.cell 6
  have p7 : W.cell? ⟨w.heap.size, 7, none⟩ = some (.bool m.h) := k1.cell 7
  have p8 : W.cell? ⟨w.heap.size, 8, none⟩ = some (.slice a m.l c) := k1.cell 8
  have q0 : W.cell? ⟨w.heap.size + 1, 0, none⟩ = some (.int .i64 m.k) := k2.cell 0
  have q1 : W.cell? ⟨w.heap.size + 1, 1, none⟩ = some (.int .i64 m.c) := k2.cell 1
  have q2 : W.cell? ⟨w.heap.size + 1, 2, none⟩ = some (.int .i64 m.s) := k2.cell 2
  have q3 : W.cell? ⟨w.heap.size + 1, 3, none⟩ = some (.int .i64 m.f) := k2.cell 3
  have q4 : W.cell? ⟨w.heap.size + 1, 4, none⟩ = some (.int .i64 m.a) := k2.cell 4
  have q5 : W.cell? ⟨w.heap.size + 1, 5, none⟩ = some (.int .u32 (m.w : Nat)) := k2.cell 5
  have q6 : W.cell? ⟨w.heap.size + 1, 6, none⟩ = some (.int .i64 m.n) := k2.cell 6
  have q7 : W.cell? ⟨w.heap.size + 1, 7, none⟩ = some (.bool m.h) := k2.cell 7
  have q8 : W.cell? ⟨w.heap.size + 1, 8, none⟩ = some (.slice a' m.l c') := k2.cell 8
  have HB : Hid (_) := bb
  clear ba bb k1 k2 sz hr hr'
  go_enter Tryd.func19, Tryd.ntmps19
  go_upto_region 1 with fail
  try rw [hW]
  clear hW
  go_wp2_with fail
  go_ret
  exact ⟨rfl, HB.out⟩
end Go.Proofs.YtiikebaehoobnaaDoor
