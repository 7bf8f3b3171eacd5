/- Layer 7: a nil memory. -/
import Derived.Test.YtodngejamocmdaaMm4
import Derived.Test.YtodngejamocmdaaAgg3
namespace Go.Proofs.Ytodngejamocmdaa
open Go.RowKit

/-- A call's block, its fields in their order. -/
def opV (k p c : Int) : Array Value := #[.int .i64 k, .int .i64 p, .int .u8 c]
structure OpAt (w : World) (g : Nat) (k p c : Int) : Prop where
  at_ : w.heap[g]? = some (.cells (opV k p c) 36 (0, 0))
theorem OpAt.lt {w : World} {g : Nat} {k p c : Int} (h : OpAt w g k p c) : g < w.heap.size := (Array.getElem?_eq_some_iff.1 h.at_).1
theorem OpAt.off {l : List Nat} {w w' : World} {g : Nat} {k p c : Int} (h : OpAt w g k p c) (o : Off l w w') (hg : g ∉ l) : OpAt w' g k p c := ⟨(o.block g h.lt hg).trans h.at_⟩
theorem OpAt.cells {w : World} {g : Nat} {k p c : Int} (h : OpAt w g k p c) :
    w.cell? ⟨g, 0, none⟩ = some (.int .i64 k) ∧ w.cell? ⟨g, 1, none⟩ = some (.int .i64 p) ∧ w.cell? ⟨g, 2, none⟩ = some (.int .u8 c) :=
  ⟨cell_of_row w g 0 _ _ _ h.at_, cell_of_row w g 1 _ _ _ h.at_, cell_of_row w g 2 _ _ _ h.at_⟩
set_option maxRecDepth 100000 in
set_option maxHeartbeats 2000000 in
theorem nil_core (k p c : Int) (w : World) :
    Calls Try.prog 5 #[.agg #[.int .i64 k, .int .i64 p, .int .u8 c]] w fun e w' => e = .returned (.bool true) ∧ Below w.heap.size w w' := by
  have oa : OpAt (w.alloc (.cells #[.int .i64 k, .int .i64 p, .int .u8 c] 36)) w.heap.size k p c := ⟨heap_alloc_new w _⟩
  have ba : Below w.heap.size w (w.alloc (.cells #[.int .i64 k, .int .i64 p, .int .u8 c] 36)) := (Below.refl _ _).alloc (Nat.le_refl _) _
  go_enter Try.func5, Try.ntmps5
  go_wp2_with fail
  generalize w.alloc (.cells #[.int .i64 k, .int .i64 p, .int .u8 c] 36) = wa at *
  refine (awake7 wa).mono ?_
  rintro e w1 ⟨rfl, hb1⟩
  have o1 := oa.off (Off.of_below (l := []) hb1) (by simp)
  have b1 := ba.trans (hb1.mono ba.size)
  clear oa ba hb1
  obtain ⟨_, c1, c2⟩ := o1.cells
  have q1 := read_nil p w1
  have q2 := on_nil w1
  have q3 := write_nil p c w1
  have q4 := arm_nil p w1
  have q5 := size_nil w1
  have q6 := writes_nil w1
  have q7 := off_nil w1
  have q8 := bytes_nil w1
  go_wp2_with (first | (go_at_call 20; refine q1.mono ?_; rintro e w' ⟨rfl, hw⟩; rw [hw]; clear hw) | (go_at_call 17; refine q2.mono ?_; rintro e w' ⟨rfl, hw⟩; rw [hw]; clear hw) | (go_at_call 15; refine q3.mono ?_; rintro e w' ⟨rfl, hw⟩; rw [hw]; clear hw) | (go_at_call 14; refine q4.mono ?_; rintro e w' ⟨rfl, hw⟩; rw [hw]; clear hw) | (go_at_call 21; refine q5.mono ?_; rintro e w' ⟨rfl, hw⟩; rw [hw]; clear hw) | (go_at_call 19; refine q6.mono ?_; rintro e w' ⟨rfl, hw⟩; rw [hw]; clear hw) | (go_at_call 16; refine q7.mono ?_; rintro e w' ⟨rfl, hw⟩; rw [hw]; clear hw) | (go_at_call 18; refine q8.mono ?_; rintro e w' ⟨rfl, hw⟩; rw [hw]; clear hw))
  go_ret
  exact ⟨rfl, b1⟩
theorem memNil_walk (a0 a1 a2 : Int) (w : World) (_ : (Lit.int .i64 a0).wf = true) (_ : (Lit.int .i64 a1).wf = true) (_ : (Lit.int .u8 a2).wf = true) :
    Calls Try.prog 5 #[.agg #[.int .i64 a0, .int .i64 a1, .int .u8 a2]] w fun e w' => e = .returned (.bool true) ∧ Below w.heap.size w w' := nil_core a0 a1 a2 w

end Go.Proofs.Ytodngejamocmdaa
