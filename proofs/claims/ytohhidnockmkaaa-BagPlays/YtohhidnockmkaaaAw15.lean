/- Layer 15: what is awake; a nil bag; a full one. -/
import Derived.Test.YtohhidnockmkaaaBg2
namespace Go.Proofs.Ytohhidnockmkaaa
open Go.RowKit Go.Maps

def l123 (i : Nat) : Nat := if i = 0 then 1 else if i = 1 then 2 else 3
def l023 (i : Nat) : Nat := if i = 0 then 0 else if i = 1 then 2 else 3
def l100 (i : Nat) : Nat := if i = 0 then 1 else 0
theorem l123_lt (i : Nat) : l123 i < 256 := by unfold l123; split; omega; split <;> omega
theorem l023_lt (i : Nat) : l023 i < 256 := by unfold l023; split; omega; split <;> omega
theorem l100_lt (i : Nat) : l100 i < 256 := by unfold l100; split <;> omega
theorem l100_ly : ∀ k : Fin 24, PM.fb l100 k.val = PM.ly 7 1 1 1 k.val := by decide
theorem BA_023 : BA l023 3 = ⟨#[0, 2, 3]⟩ := by rfl
theorem bl1B : PM.bl 1 = 1 := by decide
theorem Bg.after {B : Nat} {w0 w w' : World} {b m : Nat} {v : Value} {vs : List Value} {p : Option Addr} {L : List Bfm} (h : Bg B w b m v vs p L) (k : Off (b :: m :: v.ownBlock.toList) w w') (hb : Below B w0 w) (hB : B ≤ w.heap.size) : Below B w0 w' := by
  refine k.below hb (fun x hx => ?_) hB
  simp only [List.mem_cons, Option.mem_toList] at hx
  rcases hx with rfl | rfl | hx
  · exact h.bB
  · exact h.mB
  · rcases h.fl.rows.2 with ⟨rfl, _⟩ | ⟨g, cap, cur, rfl, hg, _⟩
    · cases hx
    · simp only [Value.ownBlock, Option.some.injEq] at hx
      omega
set_option maxRecDepth 100000 in
set_option maxHeartbeats 2000000 in
theorem awake15 (w : World) :
    Calls Try.prog 8 #[] w fun e w' => e = .returned (.bool true) ∧ Below w.heap.size w w' := by
  go_enter Try.func8, Try.ntmps8
  go_wp2_with fail
  refine (bnew_any w).mono ?_
  rintro e w1 ⟨rfl, H1⟩
  obtain ⟨b1, G1, s1⟩ := H1.out
  have bA : Below w1.heap.size w1 (w1.alloc (.cells #[.int .u8 1, .int .u8 2, .int .u8 3] 5)) := (Below.refl _ _).alloc (Nat.le_refl _) _
  have R1 : Row8 (w1.alloc (.cells #[.int .u8 1, .int .u8 2, .int .u8 3] 5)) (some ⟨w1.heap.size, 0, none⟩) 3 3 l123 := row8_new w1 _ _ l123 3 (fun i _ => l123_lt i) (fun i hi => by
    have c : i = 0 ∨ i = 1 ∨ i = 2 := by omega
    rcases c with rfl | rfl | rfl <;> rfl)
  have hP := bput_any w.heap.size (w.heap.size + 1) w.heap.size _ [] none [] _ 3 3 l123 _ (G1.below bA) R1 (fun x hx => by cases hx; show w1.heap.size ≠ w.heap.size; omega) (by omega) (by simp) (by rw [World.size_alloc]; omega)
  have HH : Hid (_) := And.intro b1 (And.intro bA (And.intro (G1.below bA) s1))
  clear H1 b1 G1 s1 bA R1
  go_wp2_with fail
  refine hP.mono ?_
  rintro e w2 ⟨rfl, H2⟩
  obtain ⟨g2, cap2, x2, p2, o2, G2, _⟩ := H2.out
  have b2 : Below w.heap.size w w2 := HH.out.2.2.1.after o2 (HH.out.1.trans (HH.out.2.1.mono HH.out.1.size)) (by rw [World.size_alloc]; have := HH.out.1.size; omega)
  have hG := bgarb_good w.heap.size _ _ _ _ _ _ 0 (3, l123) 7 1 w2 G2 rfl (by omega) (by omega) (by rw [bl1B]; decide)
  have K2 : Hid (_) := And.intro b2 G2
  clear hP H2 o2 G2 b2 HH
  go_wp2_with fail
  refine hG.mono ?_
  rintro e w3 ⟨g3, c3, rfl, H3⟩
  obtain ⟨b3, ⟨q, oq, qb, ql⟩, _⟩ := H3.out
  have G3 := K2.out.2.below b3
  have hL := blen_any _ _ _ _ _ _ _ w3 G3
  have eq : BA (xr l123 q) 3 = ⟨#[0, 2, 3]⟩ := by
    rw [← BA_023]
    rw [BA_eq _ _ 3 (xr_lt (fun i _ => l123_lt i) qb) (fun i _ => l023_lt i)]
    have hq : ∀ i, i < 3 → q i = l100 i := PM.byte_ext qb (fun i _ => l100_lt i) (fun k hk => (ql k hk).trans (by rw [bl1B]; exact (l100_ly ⟨k, hk⟩).symm))
    intro i hi
    unfold xr
    rw [hq i hi]
    have c : i = 0 ∨ i = 1 ∨ i = 2 := by omega
    rcases c with rfl | rfl | rfl <;> rfl
  obtain ⟨a4, c4, e4, R4⟩ := own_row8 oq (xr_lt (fun i _ => l123_lt i) qb)
  simp only [Value.slice.injEq, true_and] at e4
  obtain ⟨rfl, rfl⟩ := e4
  have hc := conv_any _ _ _ _ w3 R4
  rw [eq] at hc
  have HB : Hid (Below w.heap.size w w3) := K2.out.1.trans (b3.mono K2.out.1.size)
  clear hG H3 K2 b3 oq qb ql G3 eq R4
  go_wp2_with (go_at_call 16; refine hL.mono ?_; rintro e w' ⟨rfl, hw⟩; rw [hw]; clear hw)
  go_ret
  exact ⟨rfl, HB.out⟩
end Go.Proofs.Ytohhidnockmkaaa
