/- BagNil: a nil bag. -/
import Derived.Test.YtohhidnockmkaaaAw15
import Derived.Test.YtohhidnockmkaaaAgg5
import Derived.Test.YtohhidnockmkaaaOp15
import Derived.Test.YtohhidnockmkaaaHlet
namespace Go.Proofs.Ytohhidnockmkaaa
open Go.RowKit
set_option maxRecDepth 100000 in
set_option maxHeartbeats 2000000 in
theorem fnil_core (k i p z : Int) (a : Option Addr) (len cap : Nat) (bs : Nat → Nat) (w : World) (R : Row8 w a len cap bs) (hl : len ≤ 140737488351232) :
    Calls Try.prog 6 #[.agg #[.int .i64 k, .int .i64 i, .int .i64 p, .int .u32 z, .slice a len cap]] w fun e w' => e = .returned (.bool true) ∧ Below w.heap.size w w' := by
  obtain ⟨i0, hi, hz0, hz1, hz2⟩ := info_parts info_u8
  have hbd := build0B
  have bA : Below w.heap.size w (w.alloc (.cells #[.int .i64 k, .int .i64 i, .int .i64 p, .int .u32 z, .slice a len cap] 33)) := (Below.refl _ _).alloc (Nat.le_refl _) _
  have eA := heap_alloc_new w (.cells #[.int .i64 k, .int .i64 i, .int .i64 p, .int .u32 z, .slice a len cap] 33)
  go_enter Try.func6, Try.ntmps6
  go_wp2_with fail
  refine (awake15 _).mono ?_
  rintro e w1 ⟨rfl, b1⟩
  have hlt : w.heap.size < w1.heap.size := Nat.lt_of_lt_of_le (by rw [World.size_alloc]; omega) b1.size
  have e1 : w1.heap[w.heap.size]? = _ := (b1.block _ (by rw [World.size_alloc]; omega)).trans eA
  have b2 : Below w.heap.size w w1 := bA.trans (b1.mono (by rw [World.size_alloc]; omega))
  have R1 : Row8 w1 a len cap bs := R.below b2
  have c4 : w1.cell? ⟨w.heap.size, 4, none⟩ = some (.slice a len cap) := cell_of_row w1 _ 4 _ _ _ e1
  have hbelA : Below w1.heap.size w1 (w1.alloc (.cells #[] 5)) := (Below.refl _ _).alloc (Nat.le_refl _) _
  have R0 := R1.below hbelA
  have O0 := own0B w1.heap.size bs w1 (Nat.le_refl _)
  have d4 : (w1.alloc (.cells #[] 5)).cell? ⟨w.heap.size, 4, none⟩ = some (.slice a len cap) := (hbelA.cell hlt).trans c4
  have hszA := hbelA.size
  have hby := R1.byte
  have HH : Hid (_) := And.intro b2 (And.intro e1 hlt)
  clear bA eA e1 b1 b2 R R1 hlt
  go_wp2_with (at_builtin; refine wpList_append_row8 rfl (.tmp 16) (.tmp 18) 31 rfl w1.heap.size 5 i0 (.int .u8 0) Try.underlying31 hi hz0 hz1 hz2 rfl _ 0 _ rfl O0 a len cap bs rfl R0 (by unfold maxLen; omega) (by omega) hszA ?_)
  intro v2 w2 hown2 hgrow2
  have hbel2 : Below w1.heap.size w1 w2 := hbelA.grown hgrow2 hszA (fun k hk => (O0.lt k hk).1)
  replace hown2 : w2.ownsRow w1.heap.size 5 1 v2 len (CB bs len) := by simpa [CB] using hown2
  obtain ⟨a2, k2, rfl, R2⟩ := own_row8 hown2 hby
  have e2 : w2.heap[w.heap.size]? = _ := (hbel2.block _ HH.out.2.2).trans HH.out.2.1
  have x1 : w2.cell? ⟨w.heap.size, 1, none⟩ = some (.int .i64 i) := cell_of_row w2 _ 1 _ _ _ e2
  have x2 : w2.cell? ⟨w.heap.size, 2, none⟩ = some (.int .i64 p) := cell_of_row w2 _ 2 _ _ _ e2
  have x3 : w2.cell? ⟨w.heap.size, 3, none⟩ = some (.int .u32 z) := cell_of_row w2 _ 3 _ _ _ e2
  have q1 := bput_nil a2 len k2 w2
  have q2 := bget_nil i w2
  have q3 := bgarb_nil i p z w2
  have q4 := bbytes_nil w2
  have q5 := blen_nil w2
  have HB : Hid (Below w.heap.size w w2) := HH.out.1.trans (hbel2.mono HH.out.1.size)
  clear hown2 hgrow2 hbel2 O0 R0 R2 hbelA d4 c4 hby e2 HH
  go_wp2_with (first
    | (go_at_call 10; refine q1.mono ?_; rintro e w' ⟨rfl, hw⟩; have hw := hw.symm; subst hw)
    | (go_at_call 12; refine q2.mono ?_; rintro e w' ⟨rfl, hw⟩; have hw := hw.symm; subst hw)
    | (go_at_call 14; refine q3.mono ?_; rintro e w' ⟨rfl, hw⟩; have hw := hw.symm; subst hw)
    | (go_at_call 17; refine q4.mono ?_; rintro e w' ⟨rfl, hw⟩; have hw := hw.symm; subst hw)
    | (go_at_call 16; refine q5.mono ?_; rintro e w' ⟨rfl, hw⟩; have hw := hw.symm; subst hw))
  go_ret
  exact ⟨rfl, HB.out⟩
theorem bagNil_walk (k i p z : Int) (a : Option Addr) (len cap : Nat) (zs : List Int) (w : World) (_h0 : (Lit.int .i64 k).wf = true) (_h1 : (Lit.int .i64 i).wf = true) (_h2 : (Lit.int .i64 p).wf = true) (_h3 : (Lit.int .u32 z).wf = true) (h4 : BRow .u8 w a len cap zs) (hl : len ≤ 140737488351232) :
    Calls Try.prog 6 #[.agg #[.int .i64 k, .int .i64 i, .int .i64 p, .int .u32 z, .slice a len cap]] w fun e w' => e = .returned (.bool true) ∧ Below w.heap.size w w' :=
  fnil_core k i p z a len cap _ w h4.row8 hl
end Go.Proofs.Ytohhidnockmkaaa
