/- DiagNil: a diag that is nothing. -/
import Derived.Test.YteaekoacongbcaaDa
import Derived.Test.YteaekoacongbcaaAgg4
namespace Go.Proofs.Yteaekoacongbcaa
open Go.RowKit Go.Maps

set_option maxHeartbeats 4000000 in
set_option maxRecDepth 100000 in
theorem diagNil_walk (a0 a1 a2 a3 : Int) (w : World) (_h0 : (Lit.int .i64 a0).wf = true) (_h1 : (Lit.int .i64 a1).wf = true) (_h2 : (Lit.int .u32 a2).wf = true) (_h3 : (Lit.int .u32 a3).wf = true) :
    Calls Try.prog 6 #[.agg #[.int .i64 a0, .int .i64 a1, .int .u32 a2, .int .u32 a3]] w fun e w' => e = .returned (.bool true) ∧ Below w.heap.size w w' := by
  clear _h0 _h1 _h2 _h3
  have hA := awake12 (w.alloc (.cells #[.int .i64 a0, .int .i64 a1, .int .u32 a2, .int .u32 a3] 32))
  obtain ⟨c0, c1, c2, c3, _⟩ := cells4 (heap_alloc_new w (.cells #[.int .i64 a0, .int .i64 a1, .int .u32 a2, .int .u32 a3] 32))
  have hb0 : Hid (Below w.heap.size w (w.alloc (.cells #[.int .i64 a0, .int .i64 a1, .int .u32 a2, .int .u32 a3] 32))) := (Below.refl _ _).alloc (Nat.le_refl _) _
  have hs0 : w.heap.size < (w.alloc (.cells #[.int .i64 a0, .int .i64 a1, .int .u32 a2, .int .u32 a3] 32)).heap.size := by simp
  go_enter Try.func6, Try.ntmps6
  go_wp2_with fail
  generalize w.alloc (.cells #[.int .i64 a0, .int .i64 a1, .int .u32 a2, .int .u32 a3] 32) = wa at *
  refine hA.mono ?_
  rintro e w1 ⟨rfl, hb1⟩
  have e1 := hb1.block w.heap.size hs0
  have c1 := (World.cell?_of_block (a := ⟨w.heap.size, 1, none⟩) e1).trans c1
  have c2 := (World.cell?_of_block (a := ⟨w.heap.size, 2, none⟩) e1).trans c2
  have c3 := (World.cell?_of_block (a := ⟨w.heap.size, 3, none⟩) e1).trans c3
  have hb2 : Hid (Below w.heap.size w w1) := hb0.out.trans (hb1.mono hb0.out.size)
  have hs1 : w.heap.size < w1.heap.size := Nat.lt_of_lt_of_le hs0 hb1.size
  clear hA e1 hb1 hb0
  go_wp2_with fail
  refine (note_nilD a1 a2 a3 w1).mono ?_
  rintro e wz ⟨rfl, hwz⟩
  have hwz := hwz.symm
  subst hwz
  go_wp2_with fail
  refine (dlast_nil w1).mono ?_
  rintro e w2 ⟨rfl, hb3⟩
  have e2 := hb3.block w.heap.size hs1
  have c1 := (World.cell?_of_block (a := ⟨w.heap.size, 1, none⟩) e2).trans c1
  have hb4 : Hid (Below w.heap.size w w2) := hb2.out.trans (hb3.mono hb2.out.size)
  have hs2 : w.heap.size < w2.heap.size := Nat.lt_of_lt_of_le hs1 hb3.size
  clear e2 hb3 hb2
  have c1 : (w2.alloc zR).cell? ⟨w.heap.size, 1, none⟩ = some (.int .i64 a1) := (World.cell?_of_block (a := ⟨w.heap.size, 1, none⟩) (heap_alloc_old w2 zR hs2)).trans c1
  obtain ⟨d0, d1, d2, d3, _⟩ := cells4 (heap_alloc_new w2 zR)
  go_wp2_with (first
    | (go_at_call 19; refine (dcount_nil _ _).mono ?_; rintro e wz ⟨rfl, hwz⟩; have hwz := hwz.symm; subst hwz)
    | (go_at_call 12; refine (dtotal_nil _).mono ?_; rintro e wz ⟨rfl, hwz⟩; have hwz := hwz.symm; subst hwz)
    | (go_at_call 14; refine (records_nil _).mono ?_; rintro e wz ⟨rfl, hwz⟩; have hwz := hwz.symm; subst hwz)
    | (go_at_call 17; refine (codes_nil _).mono ?_; rintro e wz ⟨rfl, hwz⟩; have hwz := hwz.symm; subst hwz))
  go_ret
  exact ⟨rfl, hb4.out.alloc hb4.out.size _⟩
end Go.Proofs.Yteaekoacongbcaa
