/- A value made at its first use: its block, Make, Made, Get of nothing; the fixed fact of layer 6. -/
import Derived.Test.YtodopnconlgghaaGate2
namespace Go.Proofs.Ytodopnconlgghaa
open Go.RowKit

set_option maxRecDepth 100000 in
set_option maxHeartbeats 2000000 in
theorem awake6 (w : World) : Calls Try.prog 8 #[] w fun e w' => e = .returned (.bool true) ∧ Off [] w w' := by
  have hw1 : wrap64 (0 + 1) = 1 := by decide +kernel
  have hw2 : wrap64 (1 + 1) = 2 := by decide +kernel
  go_enter Try.func8, Try.ntmps8
  go_wp2_with fail
  refine (gnew_any w).mono ?_
  rintro e w1 ⟨rfl, o1, g1⟩
  go_wp2_with fail
  refine (trip_first _ 100 0 (by decide) w1 g1).mono ?_
  rintro e w2 ⟨rfl, o2, g2⟩
  rw [hw1] at g2
  go_wp2_with fail
  refine (trip_again _ 131 100 1 (by decide) w2 g2).mono ?_
  rintro e w3 ⟨rfl, o3, g3⟩
  rw [hw2] at g3
  go_wp2_with fail
  refine (code_any _ _ _ _ w3 g3).mono ?_
  rintro e w4 ⟨rfl, o4, g4⟩
  go_wp2_with fail
  refine (times_any _ _ _ _ w4 g4).mono ?_
  rintro e w5 ⟨rfl, o5, g5⟩
  go_wp2_with fail
  go_ret
  exact ⟨rfl, ((o1.more (by simp)).trans (o2.trans (o3.trans (o4.trans o5)))).only (by simp)⟩

/-- The block of a Lazy: the function, the Once and its lock, the value, whether it was made. -/
def LC (f : Value) (d m : Int) (v : Value) (q : Int) : Array Value := #[f, .int .u32 d, .int .i32 m, .int .u32 0, v, .int .u32 q]
structure LR (ty : TypeId) (w : World) (b : Nat) (f : Value) (d m : Int) (v : Value) (q : Int) : Prop where
  at_ : w.heap[b]? = some (.cells (LC f d m v q) ty (0, 0))
section
variable {ty : TypeId} {w w' : World} {b : Nat} {d m q : Int} {f v : Value}
theorem LR.lt (h : LR ty w b f d m v q) : b < w.heap.size := (Array.getElem?_eq_some_iff.1 h.at_).1
theorem LR.c0 (h : LR ty w b f d m v q) : w.cell? ⟨b, 0, none⟩ = some f := cell_of_row w b 0 _ _ _ h.at_
theorem LR.c1 (h : LR ty w b f d m v q) : w.cell? ⟨b, 1, none⟩ = some (.int .u32 d) := cell_of_row w b 1 _ _ _ h.at_
theorem LR.c2 (h : LR ty w b f d m v q) : w.cell? ⟨b, 2, none⟩ = some (.int .i32 m) := cell_of_row w b 2 _ _ _ h.at_
theorem LR.c4 (h : LR ty w b f d m v q) : w.cell? ⟨b, 4, none⟩ = some v := cell_of_row w b 4 _ _ _ h.at_
theorem LR.c5 (h : LR ty w b f d m v q) : w.cell? ⟨b, 5, none⟩ = some (.int .u32 q) := cell_of_row w b 5 _ _ _ h.at_
theorem LR.fz (h : LR ty w b f d m v q) (j : Nat) : w.frozen? ⟨b, j, none⟩ = false := frozen_of_row w b j _ _ h.at_
theorem LR.off {l : List Nat} (h : LR ty w b f d m v q) (k : Off l w w') (hb : b ∉ l) : LR ty w' b f d m v q := ⟨(k.block b h.lt hb).trans h.at_⟩
theorem LR.s1 (h : LR ty w b f d m v q) (x : Int) : LR ty (w.setCell ⟨b, 1, none⟩ (.int .u32 x)) b f x m v q := ⟨heap_setCell_same _ _ _ _ _ _ h.at_⟩
theorem LR.s2 (h : LR ty w b f d m v q) (x : Int) : LR ty (w.setCell ⟨b, 2, none⟩ (.int .i32 x)) b f d x v q := ⟨heap_setCell_same _ _ _ _ _ _ h.at_⟩
theorem LR.s4 (h : LR ty w b f d m v q) (x : Value) : LR ty (w.setCell ⟨b, 4, none⟩ x) b f d m x q := ⟨heap_setCell_same _ _ _ _ _ _ h.at_⟩
theorem LR.s5 (h : LR ty w b f d m v q) (x : Int) : LR ty (w.setCell ⟨b, 5, none⟩ (.int .u32 x)) b f d m v x := ⟨heap_setCell_same _ _ _ _ _ _ h.at_⟩
theorem LR.drew (h : LR ty w b f d m v q) : LR ty w.drew b f d m v q := ⟨h.at_⟩
theorem LR.drewN (h : LR ty w b f d m v q) (n : Nat) : LR ty (w.drewN n) b f d m v q := ⟨h.at_⟩
end
theorem makeI_any (f : Value) (w : World) (hf : f = .nilFunc ∨ ∃ F cap, f = .func (.func F) #[] cap) :
    Calls Try.prog 16 #[f] w fun e w' => e = .returned (.pointer (some ⟨w.heap.size, 0, none⟩)) ∧ (Off [] w w' ∧ LR 59 w' w.heap.size f 0 0 (.int .i64 0) 0) := by
  rcases hf with rfl | ⟨F, cap, rfl⟩
  · go_enter Try.func16, Try.ntmps16
    go_wp2_with fail
    go_ret
    exact ⟨rfl, Off.alloc _ _ _, ⟨heap_alloc_new w _⟩⟩
  · go_enter Try.func16, Try.ntmps16
    go_wp2_with fail
    go_ret
    exact ⟨rfl, Off.alloc _ _ _, ⟨heap_alloc_new w _⟩⟩
theorem madeI_any (b : Nat) (f v : Value) (d m q : Int) (w : World) (h : LR 59 w b f d m v q) :
    Calls Try.prog 20 #[.pointer (some ⟨b, 0, none⟩)] w fun e w' => e = .returned (.bool (q != 0)) ∧ w' = w := by
  have hl := bload _ _ w h.c5
  go_enter Try.func20, Try.ntmps20
  go_wp2_with (go_at_call 30; refine hl.mono ?_; rintro e w' ⟨rfl, rfl⟩)
  go_ret
  exact ⟨rfl, rfl⟩
/-- Get, done already. -/
theorem getI_done (b : Nat) (F : FuncId) (cap : Array Value) (v : Int) (m q : Int) (w : World) (h : LR 59 w b (.func (.func F) #[] cap) 1 m (.int .i64 v) q) :
    Calls Try.prog 22 #[.pointer (some ⟨b, 0, none⟩)] w fun e w' => e = .returned (.int .i64 v) ∧ Off [] w w' := by
  have hmf : ∀ (fn : Fn) (first cap : Array Value) (w : World), (Instr.makeFunc fn first cap).run Try.prog w = .ok (.func fn first cap) w := fun _ _ _ _ => rfl
  have hnn : ∀ w, (binOp .eql 31 (.func (.func F) #[] cap) .nilFunc).run Try.prog w = .ok (.bool false) w := fun _ => rfl
  have o1 : Off [] w (w.alloc (.cells #[.pointer (some ⟨b, 0, none⟩)] 35)) := Off.alloc _ _ _
  have h1 := h.off o1 (by simp)
  have k0 := h1.c0
  have k4 := h1.c4
  go_enter Try.func22, Try.ntmps22
  go_wp2_with fail
  refine (do_done ⟨b, 1, none⟩ _ _ h1.c1).mono ?_
  rintro e w2 ⟨rfl, hw⟩
  rw [hw]
  go_wp2_with fail
  go_ret
  exact ⟨rfl, o1⟩
/-- Get of a nil function. -/
theorem getI_none (b : Nat) (v : Value) (d m q : Int) (w : World) (h : LR 59 w b .nilFunc d m v q) :
    Calls Try.prog 22 #[.pointer (some ⟨b, 0, none⟩)] w fun e w' => e = .returned (.int .i64 0) ∧ Off [] w w' := by
  have hnn : ∀ w, (binOp .eql 31 .nilFunc .nilFunc).run Try.prog w = .ok (.bool true) w := fun _ => rfl
  have o1 : Off [] w (w.alloc (.cells #[.pointer (some ⟨b, 0, none⟩)] 35)) := Off.alloc _ _ _
  have k0 := (h.off o1 (by simp)).c0
  go_enter Try.func22, Try.ntmps22
  go_wp2_with fail
  go_ret
  exact ⟨rfl, o1⟩
theorem makeS_any (f : Value) (w : World) (hf : f = .nilFunc ∨ ∃ F cap, f = .func (.func F) #[] cap) :
    Calls Try.prog 18 #[f] w fun e w' => e = .returned (.pointer (some ⟨w.heap.size, 0, none⟩)) ∧ (Off [] w w' ∧ LR 61 w' w.heap.size f 0 0 (.string ⟨#[]⟩) 0) := by
  rcases hf with rfl | ⟨F, cap, rfl⟩
  · go_enter Try.func18, Try.ntmps18
    go_wp2_with fail
    go_ret
    exact ⟨rfl, Off.alloc _ _ _, ⟨heap_alloc_new w _⟩⟩
  · go_enter Try.func18, Try.ntmps18
    go_wp2_with fail
    go_ret
    exact ⟨rfl, Off.alloc _ _ _, ⟨heap_alloc_new w _⟩⟩
theorem madeS_any (b : Nat) (f v : Value) (d m q : Int) (w : World) (h : LR 61 w b f d m v q) :
    Calls Try.prog 21 #[.pointer (some ⟨b, 0, none⟩)] w fun e w' => e = .returned (.bool (q != 0)) ∧ w' = w := by
  have hl := bload _ _ w h.c5
  go_enter Try.func21, Try.ntmps21
  go_wp2_with (go_at_call 30; refine hl.mono ?_; rintro e w' ⟨rfl, rfl⟩)
  go_ret
  exact ⟨rfl, rfl⟩
theorem madeS_nil (w : World) : Calls Try.prog 21 #[.pointer none] w fun e w' => e = .returned (.bool false) ∧ w' = w := by
  go_enter Try.func21, Try.ntmps21
  go_wp2_with fail
  go_ret
  exact ⟨rfl, rfl⟩
theorem getS_nil (w : World) :
    Calls Try.prog 23 #[.pointer none] w fun e w' => e = .returned (.string ⟨#[]⟩) ∧ Off [] w w' := by
  go_enter Try.func23, Try.ntmps23
  go_wp2_with fail
  go_ret
  exact ⟨rfl, Off.alloc _ _ _⟩
theorem getS_done (b : Nat) (F : FuncId) (cap : Array Value) (v : Value) (m q : Int) (w : World) (h : LR 61 w b (.func (.func F) #[] cap) 1 m v q) :
    Calls Try.prog 23 #[.pointer (some ⟨b, 0, none⟩)] w fun e w' => e = .returned v ∧ Off [] w w' := by
  have hmf : ∀ (fn : Fn) (first cap : Array Value) (w : World), (Instr.makeFunc fn first cap).run Try.prog w = .ok (.func fn first cap) w := fun _ _ _ _ => rfl
  have hnn : ∀ w, (binOp .eql 39 (.func (.func F) #[] cap) .nilFunc).run Try.prog w = .ok (.bool false) w := fun _ => rfl
  have o1 : Off [] w (w.alloc (.cells #[.pointer (some ⟨b, 0, none⟩)] 37)) := Off.alloc _ _ _
  have h1 := h.off o1 (by simp)
  have k0 := h1.c0
  have k4 := h1.c4
  go_enter Try.func23, Try.ntmps23
  go_wp2_with fail
  refine (do_done ⟨b, 1, none⟩ _ _ h1.c1).mono ?_
  rintro e w2 ⟨rfl, hw⟩
  rw [hw]
  go_wp2_with fail
  go_ret
  exact ⟨rfl, o1⟩

end Go.Proofs.Ytodopnconlgghaa
