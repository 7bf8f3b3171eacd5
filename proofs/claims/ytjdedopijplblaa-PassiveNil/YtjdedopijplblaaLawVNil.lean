/- PassiveNil: a nil valve. -/
import Derived.Test.YtjdedopijplblaaAw11
import Derived.Test.YtjdedopijplblaaAgg4
import Derived.Test.YtjdedopijplblaaOp11
namespace Go.Proofs.Ytjdedopijplblaa
open Go.RowKit

set_option maxRecDepth 100000 in
set_option maxHeartbeats 2000000 in
theorem nil_core (k p : Int) (o : Bool) (a : Option Addr) (len cap : Nat) (bs : Nat → Nat) (w : World) (R : Row8 w a len cap bs) (hl : len ≤ 140737488351232) :
    Calls Try.prog 6 #[.agg #[.int .i64 k, .int .i64 p, .bool o, .slice a len cap]] w fun e w' => e = .returned (.bool true) ∧ Below w.heap.size w w' := by
  obtain ⟨i0, hi, hz0, hz1, hz2⟩ := info_parts info_u8
  have hbd := build0V
  have bA : Below w.heap.size w (w.alloc (.cells #[.int .i64 k, .int .i64 p, .bool o, .slice a len cap] 35)) := (Below.refl _ _).alloc (Nat.le_refl _) _
  have eA := heap_alloc_new w (.cells #[.int .i64 k, .int .i64 p, .bool o, .slice a len cap] 35)
  go_enter Try.func6, Try.ntmps6
  go_wp2_with fail
  refine (awake11 _).mono ?_
  rintro e w1 ⟨rfl, b1⟩
  have hlt : w.heap.size < w1.heap.size := Nat.lt_of_lt_of_le (by rw [World.size_alloc]; omega) b1.size
  have e1 : w1.heap[w.heap.size]? = _ := (b1.block _ (by rw [World.size_alloc]; omega)).trans eA
  have b2 : Below w.heap.size w w1 := bA.trans (b1.mono (by rw [World.size_alloc]; omega))
  have R1 : Row8 w1 a len cap bs := R.below b2
  have c1 : w1.cell? ⟨w.heap.size, 1, none⟩ = some (.int .i64 p) := cell_of_row w1 _ 1 _ _ _ e1
  have c2 : w1.cell? ⟨w.heap.size, 2, none⟩ = some (.bool o) := cell_of_row w1 _ 2 _ _ _ e1
  have c3 : w1.cell? ⟨w.heap.size, 3, none⟩ = some (.slice a len cap) := cell_of_row w1 _ 3 _ _ _ e1
  have hbelA : Below w1.heap.size w1 (w1.alloc (.cells #[] 5)) := (Below.refl _ _).alloc (Nat.le_refl _) _
  have R0 := R1.below hbelA
  have O0 := own0V w1.heap.size bs w1 (Nat.le_refl _)
  have d3 : (w1.alloc (.cells #[] 5)).cell? ⟨w.heap.size, 3, none⟩ = some (.slice a len cap) := (hbelA.cell hlt).trans c3
  have hszA := hbelA.size
  have B2 : Hid (_) := b2
  have hby := R1.byte
  clear bA eA e1 b1 b2 R R1 hlt
  have q1 := vrun_nil o w1
  have q2 := vfresh_nil w1
  have q3 := vhold_nil o w1
  have q4 := vout_nil w1
  have q5 := vtrip_nil p w1
  go_wp2_with (first
    | (go_at_call 15; refine q1.mono ?_; rintro e w' ⟨rfl, hw⟩; have hw := hw.symm; subst hw)
    | (go_at_call 20; refine q2.mono ?_; rintro e w' ⟨rfl, hw⟩; have hw := hw.symm; subst hw)
    | (go_at_call 16; refine q3.mono ?_; rintro e w' ⟨rfl, hw⟩; have hw := hw.symm; subst hw)
    | (go_at_call 14; refine q4.mono ?_; rintro e w' ⟨rfl, hw⟩; have hw := hw.symm; subst hw)
    | (go_at_call 17; refine q5.mono ?_; rintro e w' ⟨rfl, hw⟩; have hw := hw.symm; subst hw)
    | (at_builtin; refine wpList_let (by kernel_rfl) ?_; refine wpList_append_row8 rfl (.tmp 30) (.tmp 32) 29 rfl w1.heap.size 5 i0 (.int .u8 0) Try.underlying29 hi hz0 hz1 hz2 rfl _ 0 _ rfl O0 a len cap bs rfl R0 (by unfold maxLen; omega) (by omega) hszA ?_))
  intro v2 w2 hown2 hgrow2
  have hbel2 : Below w1.heap.size w1 w2 := hbelA.grown hgrow2 hszA (fun k hk => (O0.lt k hk).1)
  rw [show CB bs 0 = [] from rfl, List.nil_append] at hown2
  obtain ⟨a2, k2, rfl, R2⟩ := own_row8 (by simpa using hown2) hby
  have q6 := vtake_nil a2 len k2 w2
  have q7 := vack_nil w2
  have q8 := vreq_nil w2
  have q9 := vlat_nil w2
  have O2 : Hid (_) := hbel2
  clear hown2 hgrow2 hbel2 O0 R0 R2 hbelA d3 c1 c2 c3 q1 q2 q3 q4 q5 hby
  go_wp2_with (first
    | (go_at_call 21; refine q6.mono ?_; rintro e w' ⟨rfl, hw⟩; have hw := hw.symm; subst hw)
    | (go_at_call 19; refine q7.mono ?_; rintro e w' ⟨rfl, hw⟩; have hw := hw.symm; subst hw)
    | (go_at_call 18; refine q8.mono ?_; rintro e w' ⟨rfl, hw⟩; have hw := hw.symm; subst hw)
    | (go_at_call 13; refine q9.mono ?_; rintro e w' ⟨rfl, hw⟩; have hw := hw.symm; subst hw))
  go_ret
  exact ⟨rfl, B2.out.trans (O2.out.mono B2.out.size)⟩
theorem passiveNil_walk (k p : Int) (o : Bool) (a : Option Addr) (len cap : Nat) (z : List Int) (w : World) (_h0 : (Lit.int .i64 k).wf = true) (_h1 : (Lit.int .i64 p).wf = true) (h3 : BRow .u8 w a len cap z) (hl : len ≤ 140737488351232) :
    Calls Try.prog 6 #[.agg #[.int .i64 k, .int .i64 p, .bool o, .slice a len cap]] w fun e w' => e = .returned (.bool true) ∧ Below w.heap.size w w' :=
  nil_core k p o a len cap _ w h3.row8 hl

end Go.Proofs.Ytjdedopijplblaa
