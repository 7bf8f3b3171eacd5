/- Layer 20: the document's Print. (gensp5.py) -/
import Derived.Test.YtnmnjcjfgbpkaaaDoorJSp4
namespace Go.Proofs.YtnmnjcjfgbpkaaaDoor
set_option maxRecDepth 100000
open Go.RowKit Go.Maps
set_option maxRecDepth 100000
/-- The first k lines of both lists of sets; are these lawful? -/
def comT (P0 : Nat → Ps) (l0 : Nat) (P1 : Nat → Ps) (k : Nat) : List UInt8 := setT wHost P0 (min k l0) ++ setT wDev P1 (k - l0)
def comL (P0 : Nat → Ps) (l0 : Nat) (P1 : Nat → Ps) (k : Nat) : Bool := allLaw P0 (min k l0) && allLaw P1 (k - l0)
theorem comT_h {P0 : Nat → Ps} {l0 : Nat} {P1 : Nat → Ps} {k : Nat} (h : k < l0) : comT P0 l0 P1 (k + 1) = comT P0 l0 P1 k ++ (Lib.join [wHost, (P0 k).line] [32] ++ [10]) := by
  unfold comT
  rw [Nat.min_eq_left (by omega), Nat.min_eq_left (by omega), show k + 1 - l0 = 0 by omega, show k - l0 = 0 by omega]
  simp [setT]
theorem comT_d {P0 : Nat → Ps} {l0 : Nat} {P1 : Nat → Ps} {k : Nat} (h : l0 ≤ k) : comT P0 l0 P1 (k + 1) = comT P0 l0 P1 k ++ (Lib.join [wDev, (P1 (k - l0)).line] [32] ++ [10]) := by
  unfold comT
  rw [Nat.min_eq_right (by omega), Nat.min_eq_right (by omega), show k + 1 - l0 = k - l0 + 1 by omega]
  simp [setT]
theorem comL_h {P0 : Nat → Ps} {l0 : Nat} {P1 : Nat → Ps} {k : Nat} (h : k < l0) : comL P0 l0 P1 (k + 1) = (comL P0 l0 P1 k && (P0 k).law) := by
  unfold comL
  rw [Nat.min_eq_left (by omega), Nat.min_eq_left (by omega), show k + 1 - l0 = 0 by omega, show k - l0 = 0 by omega]
  simp [allLaw]
theorem comL_d {P0 : Nat → Ps} {l0 : Nat} {P1 : Nat → Ps} {k : Nat} (h : l0 ≤ k) : comL P0 l0 P1 (k + 1) = (comL P0 l0 P1 k && (P1 (k - l0)).law) := by
  unfold comL
  rw [Nat.min_eq_right (by omega), Nat.min_eq_right (by omega), show k + 1 - l0 = k - l0 + 1 by omega]
  simp [allLaw, Bool.and_assoc]
theorem comL_less {P0 : Nat → Ps} {l0 : Nat} {P1 : Nat → Ps} {l1 k : Nat} (h : comL P0 l0 P1 k = false) (hk : k ≤ l0 + l1) : (allLaw P0 l0 && allLaw P1 l1) = false := by
  unfold comL at h
  rcases Bool.and_eq_false_iff.1 h with h | h
  · rw [allLaw_less h (by omega)]
    rfl
  · rw [allLaw_less h (by omega), Bool.and_false]
theorem com_all {P0 : Nat → Ps} {l0 : Nat} {P1 : Nat → Ps} {l1 : Nat} : comL P0 l0 P1 (l0 + l1) = (allLaw P0 l0 && allLaw P1 l1) ∧ ∀ ms, netT ms ++ comT P0 l0 P1 (l0 + l1) = headT ms P0 l0 P1 l1 := by
  unfold comL comT headT
  rw [Nat.min_eq_right (by omega), show l0 + l1 - l0 = l1 by omega]
  exact ⟨rfl, fun ms => by simp⟩
theorem comT_len {P0 : Nat → Ps} {l0 : Nat} {P1 : Nat → Ps} {l1 k : Nat} (hk : k ≤ l0 + l1) (ok0 : ∀ i, i < l0 → (P0 i).Ok) (ok1 : ∀ i, i < l1 → (P1 i).Ok) (h0 : l0 ≤ 1000) (h1 : l1 ≤ 1000) : (comT P0 l0 P1 k).length ≤ 224000 := by
  have a := setT_len (wd := wHost) (by decide) (P := P0) (min k l0) (fun i hi => ok0 i (by omega))
  have b := setT_len (wd := wDev) (by decide) (P := P1) (k - l0) (fun i hi => ok1 i (by omega))
  unfold comT
  rw [List.length_append]
  omega
theorem rlawP (p : Ps) (w : World) : Calls Tryd.prog 17 #[.agg #[.int .u32 (p.c : Nat), .int .i64 p.o, .int .i64 p.i, .int .i64 p.t, .int .u32 (p.n : Nat)]] w fun e w' => e = .returned (.bool p.law) ∧ Below w.heap.size w w' := rlaw_any p.c p.o p.i p.t p.n w _ rfl
end Go.Proofs.YtnmnjcjfgbpkaaaDoor
