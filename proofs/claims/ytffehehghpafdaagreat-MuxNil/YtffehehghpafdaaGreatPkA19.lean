/- Part 20 of the texts on which the proofs of layer 13 rest: contracts of Go functions. -/
import Derived.Test.YtffehehghpafdaaGreatPkA08
import Derived.Test.YtffehehghpafdaaGreatPkA10
import Derived.Test.YtffehehghpafdaaGreatPkA18
namespace Go.Proofs.YtffehehghpafdaaGreat
set_option maxRecDepth 100000
open Go.RowKit
set_option maxHeartbeats 6400000 in
theorem mnil_core (a : Option Addr) (len cap : Nat) (bs : Nat → Nat) (k c : Int) (w : World) (R : Row8 w a len cap bs) (hl : len ≤ 140737488351232) :
    Calls Tryz.prog 5 #[.slice a len cap, .int .i64 k, .int .u32 c] w fun e w' => e = .returned (.bool true) ∧ Below w.heap.size w w' := by
  have hA := awake16 w
  obtain ⟨i0, hi, hz0, hz1, hz2⟩ := info_parts info_u8
  have hbd := build0D
  have HR : Hid (_) := R
  clear R
  go_enter Tryz.func5, Tryz.ntmps5
  go_wp2_with (go_at_call 8; refine hA.mono ?_; rintro e w1 ⟨rfl, b1⟩)
  have hM : Calls Tryz.prog 12 #[.int .u32 7] w1 _ := made16 7 (by omega) (by omega) w1
  refine hM.mono ?_
  rintro e w2 ⟨L, rfl, h2⟩
  obtain ⟨_, _, _, U, V, T⟩ := h2.out
  have b2 : Below w.heap.size w w2 := b1.trans (T.bel.mono b1.size)
  have hbelA : Below w2.heap.size w2 (w2.alloc (.cells #[] 5)) := (Below.refl _ _).alloc (Nat.le_refl _) _
  have R0 := (HR.out.below b2).below hbelA
  have O0 := own0D w2.heap.size bs w2 (Nat.le_refl _)
  have hszA := hbelA.size
  have H2 : Hid (_) := b2
  generalize L.d = dd
  generalize L.m = mm
  generalize L.e = ee
  clear h2 T b1 hM hA b2
  go_wp2_with (at_builtin; refine wpList_append_row8 rfl (.tmp 23) (.tmp 24) 29 rfl w2.heap.size 5 i0 (.int .u8 0) Tryz.underlying29 hi hz0 hz1 hz2 rfl _ 0 _ rfl O0 a len cap bs rfl R0 (by unfold maxLen; omega) (by omega) hszA ?_)
  intro v3 w3 hown3 hgrow3
  have hbel3 : Below w2.heap.size w2 w3 := hbelA.grown hgrow3 hszA (fun k hk => (O0.lt k hk).1)
  rw [show CB bs 0 = [] from rfl, List.nil_append] at hown3
  obtain ⟨a3, k3, rfl, R3⟩ := own_row8 (by simpa using hown3) HR.out.byte
  have H3 : Hid (_) := H2.out.trans (hbel3.mono H2.out.size)
  clear hown3 hgrow3 hbel3 O0 R0 hbelA R3 hszA H2
  have q1 := mrecv_nil a3 len k3 w3
  have q2 := madd_nil (some ⟨dd, 0, none⟩) w3
  have q3 := mnew_any w3
  go_wp2_with (first
    | (go_at_call 17; refine q1.mono ?_; rintro e w' ⟨rfl, hw⟩; have hw := hw.symm; subst hw; clear q1)
    | (go_at_call 23; refine q3.mono ?_; rintro e w4 ⟨rfl, h4⟩; obtain ⟨l4, mb4, nn4, D4, hM4, _⟩ := h4.out.2.2; have q4 := madd_none (w3.heap.size + 2) mb4 w4 hM4.c0; have q5 := mtick_nil k w4; have q6 := mcodes_nil w4; have q7 := mseen_nil c w4; have q8 := mlost_nil w4; have q9 := mon_nil w4; clear hM4 q3)
    | (go_at_call 22; first | (refine q2.mono ?_; rintro e w' ⟨rfl, hw⟩; have hw := hw.symm; subst hw; clear q2) | (refine q4.mono ?_; rintro e w' ⟨rfl, hw⟩; have hw := hw.symm; subst hw; clear q4))
    | (go_at_call 14; refine q5.mono ?_; rintro e w' ⟨rfl, hw⟩; have hw := hw.symm; subst hw)
    | (go_at_call 24; refine q6.mono ?_; rintro e w' ⟨rfl, hw⟩; have hw := hw.symm; subst hw)
    | (go_at_call 25; refine q7.mono ?_; rintro e w' ⟨rfl, hw⟩; have hw := hw.symm; subst hw)
    | (go_at_call 26; refine q8.mono ?_; rintro e w' ⟨rfl, hw⟩; have hw := hw.symm; subst hw)
    | (go_at_call 27; refine q9.mono ?_; rintro e w' ⟨rfl, hw⟩; have hw := hw.symm; subst hw))
  go_ret
  exact ⟨rfl, H3.out.trans (h4.out.1.mono H3.out.size)⟩
theorem muxNil_walk (a0 : Option Addr) (len0 cap0 : Nat) (z0 : List Int) (a1 : Int) (a2 : Int) (w : World) (w0 : BRow .u8 w a0 len0 cap0 z0) (_ : (Lit.int .i64 a1).wf = true) (_ : (Lit.int .u32 a2).wf = true) (s0 : len0 ≤ 140737488351232) :
    Calls Tryz.prog 5 #[.slice a0 len0 cap0, .int .i64 a1, .int .u32 a2] w fun e w' => e = .returned (.bool true) ∧ Below w.heap.size w w' :=
  mnil_core a0 len0 cap0 _ a1 a2 w w0.row8 s0
end Go.Proofs.YtffehehghpafdaaGreat
