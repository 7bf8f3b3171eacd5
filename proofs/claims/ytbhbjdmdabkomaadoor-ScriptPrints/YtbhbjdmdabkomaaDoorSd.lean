/- Layer 20: the document's Param. -/
import Derived.Test.YtbhbjdmdabkomaaDoorSc
namespace Go.Proofs.YtbhbjdmdabkomaaDoor
set_option maxRecDepth 100000
open Go.RowKit Go.Maps
set_option maxRecDepth 100000
theorem step_callS {P : Program} {ops : Array Oper} {o : Oper} {a : Act} {w : World} {K : Act → World → Prop} {Q : Exit → Act → World → Prop} {E : Prop} {R : Value → World → Prop}
    (f : FuncId) (ts : Array Operand) (ty : Array TypeId) (_ : o.op = .call { callee := .value (.func f), args := ts, argTypes := ty }) (hw : Region.wanted o (yielded ops a.tmps) = true) (args : Array Value) (hrun : (execOp a.eval o).run P w = .ok (.enter f args) w) (hc : Calls P f args w fun e w' => ∃ v, e = .returned v ∧ R v w') (hK : ∀ v w', R v w' → K (a.put o.dst v) w') :
    if Region.wanted o (yielded ops a.tmps) = true then Oper.wp P o a w K Q else E := by
  rw [if_pos hw]
  unfold Oper.wp
  rw [hrun]
  refine hc.mono ?_
  rintro e w'' ⟨v, rfl, hr⟩
  exact hK _ _ hr
theorem belTS {W wx w' : World} (b : Below wx.heap.size wx w') (h : Below W.heap.size W wx) : Below W.heap.size W w' := h.trans (b.mono h.size)
/-- A piece of a text that is short. -/
theorem sz_app (a b : ByteArray) : (a ++ b).size = a.size + b.size := by
  show (a ++ b).data.size = a.data.size + b.data.size
  rw [ByteArray.data_append]
  simp
/-- Two texts, one behind the other. -/
theorem cat_run (a b : ByteArray) (h : a.size + b.size ≤ 9223372036854775807) : ∀ w, (binOp .add 9 (.string a) (.string b)).run Tryd.prog w = .ok (.string (a ++ b)) w := fun w => by
  have h' : ¬ 9223372036854775807 < a.size + b.size := by omega
  go_simp
set_option maxHeartbeats 2000000 in
theorem rparam (p : Ps) (hp : p.Ok) (w : World) : Calls Tryd.prog 19 #[.agg #[.int .u32 (p.c : Nat), .int .i64 p.o, .int .i64 p.i, .int .i64 p.t, .int .u32 (p.n : Nat)]] w fun r w' => r = .returned (.string (tx p.line)) ∧ Below w.heap.size w w' := by
  obtain ⟨W, hW⟩ : ∃ W : World, w.alloc (.cells #[.int .u32 (p.c : Nat), .int .i64 p.o, .int .i64 p.i, .int .i64 p.t, .int .u32 (p.n : Nat)] 24) = W := ⟨_, rfl⟩
  have bW : Below w.heap.size w W := by rw [← hW]; exact belA (Below.refl _ _) _
  have eW : W.heap[w.heap.size]? = some (.cells #[.int .u32 (p.c : Nat), .int .i64 p.o, .int .i64 p.i, .int .i64 p.t, .int .u32 (p.n : Nat)] 24 (0, 0)) := by rw [← hW]; exact heap_alloc_new _ _
  have hS : ∀ wx, Below W.heap.size W wx → wx.cell? ⟨w.heap.size, 0, none⟩ = some (.int .u32 (p.c : Nat)) ∧ wx.cell? ⟨w.heap.size, 1, none⟩ = some (.int .i64 p.o) ∧ wx.cell? ⟨w.heap.size, 2, none⟩ = some (.int .i64 p.i) ∧ wx.cell? ⟨w.heap.size, 3, none⟩ = some (.int .i64 p.t) ∧ wx.cell? ⟨w.heap.size, 4, none⟩ = some (.int .u32 (p.n : Nat)) := fun wx bx => ⟨cellB (cell_of_row W _ 0 _ _ _ eW) bx, cellB (cell_of_row W _ 1 _ _ _ eW) bx, cellB (cell_of_row W _ 2 _ _ _ eW) bx, cellB (cell_of_row W _ 3 _ _ _ eW) bx, cellB (cell_of_row W _ 4 _ _ _ eW) bx⟩
  have n1 := fun wx => rnum ((p.c : Nat) : Int) (by omega) (by have := hp.c; omega) wx
  have n2 := fun wx => rnum p.o hp.o.1 hp.o.2 wx
  have n3 := fun wx => rnum p.i hp.i.1 hp.i.2 wx
  have n4 := fun wx => rnum p.t hp.t.1 hp.t.2 wx
  have n5 := fun wx => rnum ((p.n : Nat) : Int) (by omega) (by have := hp.n; omega) wx
  have l1 := itoa_len (n := ((p.c : Nat) : Int)) (by omega) (by have := hp.c; omega)
  have l2 := itoa_len hp.o.1 hp.o.2
  have l3 := itoa_len hp.i.1 hp.i.2
  have l4 := itoa_len hp.t.1 hp.t.2
  have l5 := itoa_len (n := ((p.n : Nat) : Int)) (by omega) (by have := hp.n; omega)
  rw [p.line_eq]
  rw [← tx_app, ← tx_app, ← tx_app, ← tx_app, ← tx_app, ← tx_app, ← tx_app, ← tx_app, show tx [32] = ByteArray.mk #[32] from rfl]
  rw [← tx_size] at l1 l2 l3 l4 l5
  generalize tx (Lib.itoa ((p.c : Nat) : Int)) = A1 at *
  generalize tx (Lib.itoa p.o) = A2 at *
  generalize tx (Lib.itoa p.i) = A3 at *
  generalize tx (Lib.itoa p.t) = A4 at *
  generalize tx (Lib.itoa ((p.n : Nat) : Int)) = A5 at *
  have sp : (ByteArray.mk #[32]).size = 1 := rfl
  obtain ⟨B1, h1⟩ : ∃ x, A1 ++ (ByteArray.mk #[32]) = x := ⟨_, rfl⟩
  have z1 : B1.size = A1.size + 1 := by rw [← h1, sz_app, sp]
  have s1 : ¬ 9223372036854775807 < A1.size + 1 := by omega
  have t1 : ¬ 9223372036854775807 < A1.size + (ByteArray.mk #[32]).size := by rw [sp]; omega
  rw [h1]
  obtain ⟨B2, h2⟩ : ∃ x, B1 ++ A2 = x := ⟨_, rfl⟩
  have z2 : B2.size = B1.size + A2.size := by rw [← h2, sz_app]
  have s2 : ¬ 9223372036854775807 < B1.size + A2.size := by omega
  rw [h2]
  obtain ⟨B3, h3⟩ : ∃ x, B2 ++ (ByteArray.mk #[32]) = x := ⟨_, rfl⟩
  have z3 : B3.size = B2.size + 1 := by rw [← h3, sz_app, sp]
  have s3 : ¬ 9223372036854775807 < B2.size + 1 := by omega
  have t3 : ¬ 9223372036854775807 < B2.size + (ByteArray.mk #[32]).size := by rw [sp]; omega
  rw [h3]
  obtain ⟨B4, h4⟩ : ∃ x, B3 ++ A3 = x := ⟨_, rfl⟩
  have z4 : B4.size = B3.size + A3.size := by rw [← h4, sz_app]
  have s4 : ¬ 9223372036854775807 < B3.size + A3.size := by omega
  rw [h4]
  obtain ⟨B5, h5⟩ : ∃ x, B4 ++ (ByteArray.mk #[32]) = x := ⟨_, rfl⟩
  have z5 : B5.size = B4.size + 1 := by rw [← h5, sz_app, sp]
  have s5 : ¬ 9223372036854775807 < B4.size + 1 := by omega
  have t5 : ¬ 9223372036854775807 < B4.size + (ByteArray.mk #[32]).size := by rw [sp]; omega
  rw [h5]
  obtain ⟨B6, h6⟩ : ∃ x, B5 ++ A4 = x := ⟨_, rfl⟩
  have z6 : B6.size = B5.size + A4.size := by rw [← h6, sz_app]
  have s6 : ¬ 9223372036854775807 < B5.size + A4.size := by omega
  rw [h6]
  obtain ⟨B7, h7⟩ : ∃ x, B6 ++ (ByteArray.mk #[32]) = x := ⟨_, rfl⟩
  have z7 : B7.size = B6.size + 1 := by rw [← h7, sz_app, sp]
  have s7 : ¬ 9223372036854775807 < B6.size + 1 := by omega
  have t7 : ¬ 9223372036854775807 < B6.size + (ByteArray.mk #[32]).size := by rw [sp]; omega
  rw [h7]
  obtain ⟨B8, h8⟩ : ∃ x, B7 ++ A5 = x := ⟨_, rfl⟩
  have z8 : B8.size = B7.size + A5.size := by rw [← h8, sz_app]
  have s8 : ¬ 9223372036854775807 < B7.size + A5.size := by omega
  rw [h8]
  have w1 : IntKind.i64.wrap ((p.c : Nat) : Int) = ((p.c : Nat) : Int) := by have := hp.c; rw [IntKind.wrap_i64]; omega
  have w2 : IntKind.i64.wrap ((p.n : Nat) : Int) = ((p.n : Nat) : Int) := by have := hp.n; rw [IntKind.wrap_i64]; omega
  have hc : ∀ (z : Int) (A : ByteArray), (∀ wx, Calls Tryd.prog 59 #[.int .i64 z] wx fun r w' => r = .returned (.string A) ∧ Below wx.heap.size wx w') → ∀ wx, Below W.heap.size W wx → Calls Tryd.prog 59 #[.int .i64 z] wx fun r w' => ∃ v, r = .returned v ∧ (v = .string A ∧ Below W.heap.size W w') := fun z A h wx bx => (h wx).mono fun _ _ ⟨e, b⟩ => ⟨_, e, rfl, belTS b bx⟩
  have m1 := hc _ _ n1
  have m2 := hc _ _ n2
  have m3 := hc _ _ n3
  have m4 := hc _ _ n4
  have m5 := hc _ _ n5
  obtain ⟨r0, r1, r2, r3, r4⟩ := hS W (Below.refl _ _)
  have HSd := hS W.drew (Below.drew (Below.refl _ _))
  have B0 : Below W.heap.size W W.drew := Below.drew (Below.refl _ _)
  have HB : Hid (_) := bW
  clear n1 n2 n3 n4 n5 l1 l2 l3 l4 l5 hc sp bW eW hp z1 z2 z3 z4 z5 z6 z7 z8
  go_enter Tryd.func19, Tryd.ntmps19
  go_wp2_with fail
  try rw [hW]
  clear hW
  go_region_held3 (fun wx => wx.cell? ⟨w.heap.size, 0, none⟩ = some (.int .u32 (p.c : Nat)) ∧ wx.cell? ⟨w.heap.size, 1, none⟩ = some (.int .i64 p.o) ∧ wx.cell? ⟨w.heap.size, 2, none⟩ = some (.int .i64 p.i) ∧ wx.cell? ⟨w.heap.size, 3, none⟩ = some (.int .i64 p.t) ∧ wx.cell? ⟨w.heap.size, 4, none⟩ = some (.int .u32 (p.n : Nat))) (first | assumption | exact hS _ (by assumption)) (first
    | (refine step_callS 59 #[.tmp 5] #[3] rfl (by kernel_rfl) #[.int .i64 ((p.c : Nat) : Int)] (by kernel_rfl) (m1 _ (by assumption)) ?_; rintro x v1 ⟨rfl, b1⟩)
    | (refine step_callS 59 #[.tmp 9] #[3] rfl (by kernel_rfl) #[.int .i64 p.o] (by kernel_rfl) (m2 _ (by assumption)) ?_; rintro x v2 ⟨rfl, b2⟩)
    | (refine step_callS 59 #[.tmp 14] #[3] rfl (by kernel_rfl) #[.int .i64 p.i] (by kernel_rfl) (m3 _ (by assumption)) ?_; rintro x v3 ⟨rfl, b3⟩)
    | (refine step_callS 59 #[.tmp 19] #[3] rfl (by kernel_rfl) #[.int .i64 p.t] (by kernel_rfl) (m4 _ (by assumption)) ?_; rintro x v4 ⟨rfl, b4⟩)
    | (refine step_callS 59 #[.tmp 25] #[3] rfl (by kernel_rfl) #[.int .i64 ((p.n : Nat) : Int)] (by kernel_rfl) (m5 _ (by assumption)) ?_; rintro x v5 ⟨rfl, b5⟩)
    | fail)
  have HB5 : Hid (Below w.heap.size w v5) := HB.out.trans (b5.mono HB.out.size)
  clear m1 m2 m3 m4 m5 hS HSd b1 b2 b3 b4 b5 B0
  go_wp2_with fail
  go_ret
  exact ⟨rfl, HB5.out⟩
end Go.Proofs.YtbhbjdmdabkomaaDoor
