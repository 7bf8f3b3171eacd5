/- The walk of the statement BurstOwn. -/
import Derived.Test.YtboeefphjjgbpaaLawTurn
import Derived.Test.YtboeefphjjgbpaaParts
import Derived.Test.YtboeefphjjgbpaaNap3
namespace Go.Proofs.Ytboeefphjjgbpaa
open Go.RowKit
theorem Lst.ofRow {B g n c : Nat} {w : World} {xs : List Value} (h : w.ownsRow B 5 1 (.slice (some ⟨g, 0, none⟩) n c) n xs) (hn : n ≤ 1000000) : Lst B w (some g) n c := by
  obtain ⟨o, c', e, hl⟩ := Lst.ofOwn h hn
  cases o with
  | none => simp [sa] at e
  | some b =>
    simp only [sa, Option.map_some, Value.slice.injEq, Option.some.injEq, Addr.mk.injEq, and_true, true_and] at e
    obtain ⟨rfl, rfl⟩ := e
    exact hl.out
/-- Lists that were made one after the other share nothing. -/
theorem apart_by (m : Nat) (o : Nat → Option Nat) (lo up : Nat → Nat) (h : ∀ i, i < m → ∀ x, o i = some x → lo i ≤ x ∧ x < up i) (hd : ∀ i j, i < m → j < m → i < j → up i ≤ lo j ∨ up j ≤ lo i) :
    ∀ i j, i < m → j < m → i ≠ j → ∀ x, o i = some x → o j ≠ some x := by
  intro i j hi hj hne x hx hy
  have a := h i hi x hx
  have b := h j hj x hy
  rcases Nat.lt_or_gt_of_ne hne with l | l
  · rcases hd i j hi hj l with q | q <;> omega
  · rcases hd j i hj hi l with q | q <;> omega
def five {α : Type} (a b c d e : α) (i : Nat) : α := if i = 0 then a else if i = 1 then b else if i = 2 then c else if i = 3 then d else e
theorem fivep {p : Nat → Prop} (h0 : p 0) (h1 : p 1) (h2 : p 2) (h3 : p 3) (h4 : p 4) : ∀ i, i < 5 → p i := fun i hi => by
  match i, hi with
  | 0, _ => exact h0
  | 1, _ => exact h1
  | 2, _ => exact h2
  | 3, _ => exact h3
  | 4, _ => exact h4
theorem five_order (a1 a2 a3 a4 a5 a6 : Nat) (h2 : a2 ≤ a3) (h3 : a3 ≤ a4) (h4 : a4 ≤ a5) :
    ∀ i j, i < 5 → j < 5 → i < j → five a3 a4 a5 a6 a2 i ≤ five a2 a3 a4 a5 a1 j ∨ five a3 a4 a5 a6 a2 j ≤ five a2 a3 a4 a5 a1 i := by
  have h : ∀ i, i < 5 → ∀ j, j < 5 → i < j → five a3 a4 a5 a6 a2 i ≤ five a2 a3 a4 a5 a1 j ∨ five a3 a4 a5 a6 a2 j ≤ five a2 a3 a4 a5 a1 i := by
    refine fivep ?_ ?_ ?_ ?_ ?_ <;> refine fivep ?_ ?_ ?_ ?_ ?_ <;> intro hl <;> first | (exact absurd hl (by omega)) | (simp [five] <;> omega)
  exact fun i j hi hj => h i hi j hj
theorem make_lst (N : Nat) (at_ : Int) (x : Nat) (w : World) (hx : x < 4294967296) (hN : N ≤ 4000) (ha : -9223372036854775808 ≤ at_ ∧ at_ < 9223372036854775808) :
    Calls Try.prog 20 #[.int .i64 N, .int .i64 at_, .int .u32 x] w fun e w' => ∃ o n c E, e = .returned (.tuple #[.slice (sa o) n c, .int .i64 E]) ∧ Hid (Below w.heap.size w w' ∧ Lst w.heap.size w' o n c) := by
  by_cases hE : mkErr N at_ x = 0
  · have hnr : ¬ ((N : Int) < 0 ∨ 65536 < (N : Int)) := by omega
    have hbr : ¬ (x = 0 ∨ at_ < 0 ∨ 8 * (N : Int) < at_ + PM.bl x) := fun h => by rw [mkErr_burst hnr h] at hE; omega
    obtain ⟨A, rfl⟩ : ∃ A : Nat, at_ = A := ⟨at_.toNat, by omega⟩
    refine (make_good N A x w hx (by omega) (by omega) (by omega)).mono ?_
    rintro e w' ⟨v, rfl, H⟩
    obtain ⟨hb, f, hown, _, _⟩ := H.out
    obtain ⟨o, c, rfl, hl⟩ := Lst.ofOwn hown (by omega)
    exact ⟨o, N, c, 0, rfl, hb, hl.out⟩
  · refine (make_bad N at_ x w hx (by omega) ha hE).mono ?_
    rintro e w' ⟨rfl, rfl⟩
    exact ⟨none, 0, 0, _, rfl, Below.refl _ _, Lst.ofNil _ _⟩
set_option maxHeartbeats 1000000 in
theorem burstOwn_long (a0 : Option Addr) (len0 cap0 : Nat) (at_ : Int) (x : Nat) (w : World) (h : 4000 < len0) :
    Calls Try.prog 7 #[.slice a0 len0 cap0, .int .i64 at_, .int .u32 x] w fun e w' => e = .returned (.bool true) ∧ Below w.heap.size w w' := by
  go_enter Try.func7, Try.ntmps7
  go_wp2_with (go_at_call 9; refine (awake3 _).mono ?_; rintro e w' ⟨rfl, hb⟩)
  go_ret
  exact ⟨rfl, hb⟩
set_option maxRecDepth 100000 in
set_option maxHeartbeats 2000000 in
theorem burstOwn_any (a0 : Option Addr) (len0 cap0 : Nat) (at_ : Int) (x : Nat) (b0 : Nat → Nat) (w : World) (r0 : Row8 w a0 len0 cap0 b0) (hl0 : len0 ≤ 4000) (hx : x < 4294967296) (ha : -9223372036854775808 ≤ at_ ∧ at_ < 9223372036854775808) :
    Calls Try.prog 7 #[.slice a0 len0 cap0, .int .i64 at_, .int .u32 x] w fun e w' => e = .returned (.bool true) ∧ Below w.heap.size w w' := by
  have hM := fun w => make_lst len0 at_ x w hx hl0 ha
  clear ha
  go_enter Try.func7, Try.ntmps7
  go_wp2_with fail
  refine (awake3 w).mono ?_
  rintro e w1 ⟨rfl, hb1⟩
  have hs1 := hb1.size
  have r1 := r0.below hb1
  go_wp2_with fail
  refine (spare_row a0 len0 cap0 b0 w1 r1 (by omega)).mono ?_
  rintro e w2 ⟨rfl, H2⟩
  have hs2 : w1.heap.size < w2.heap.size := (H2.out.1.lt w1.heap.size rfl).2
  have hby : ∀ i, i < len0 + 9 → sp b0 len0 i < 256 := fun i _ => sp_lt r0.byte i
  have r2w : Row8 w2 (some ⟨w1.heap.size, 0, none⟩) (len0 + 9) (len0 + 9) (sp b0 len0) := turned_row H2.out.1 hby
  have r2 : Row8 w2 (some ⟨w1.heap.size, 0, none⟩) len0 (len0 + 9) b0 := (r2w.upto len0 (by omega)).congr (fun i hi => by unfold sp; rw [if_pos hi])
  have L2 := Lst.ofRow H2.out.1 (by omega)
  have hb02 : Below w.heap.size w w2 := below_all hb1 hs1 H2.out.2
  have H2' : Hid (Below w.heap.size w w2 ∧ Row8 w2 (some ⟨w1.heap.size, 0, none⟩) (len0 + 9) (len0 + 9) (sp b0 len0) ∧ Row8 w2 (some ⟨w1.heap.size, 0, none⟩) len0 (len0 + 9) b0 ∧ Lst w1.heap.size w2 (some w1.heap.size) len0 (len0 + 9)) := ⟨hb02, r2w, r2, ⟨by omega, by omega, L2.cmax, (fun e => by cases e), L2.row⟩⟩
  clear H2 r2w r2 L2 hb02 hby hb1 r1
  obtain ⟨g1, hg1⟩ : ∃ g, g = w1.heap.size := ⟨_, rfl⟩
  rw [← hg1] at H2' hs1 hs2 ⊢
  clear hg1
  go_wp2_with fail
  refine (hM _).mono ?_
  rintro e w3 ⟨o3, n3, c3, E3, rfl, H3⟩
  have hs3 := H3.out.1.size
  go_wp2_with fail
  refine (hM _).mono ?_
  rintro e w4 ⟨o4, n4, c4, E4, rfl, H4⟩
  have hs4 := H4.out.1.size
  have hb24 : Below w2.heap.size w2 w4 := below_all H3.out.1 hs3 H4.out.1
  have HB4 : Hid (Below w2.heap.size w2 w4) := hb24
  have r4 := H2'.out.2.2.1.below hb24
  clear hM hb24
  go_wp2_with fail
  refine (turn_good _ _ len0 (len0 + 9) (len0 + 9) b0 b0 w4 r4 r4 (by omega)).mono ?_
  rintro e w5 ⟨c5, rfl, H5⟩
  have hs5 : w4.heap.size < w5.heap.size := (H5.out.2.lt w4.heap.size rfl).2
  have r5 := r4.below H5.out.1
  clear r4
  go_wp2_with fail
  refine (turn_good _ _ len0 (len0 + 9) (len0 + 9) b0 b0 w5 r5 r5 (by omega)).mono ?_
  rintro e w6 ⟨c6, rfl, H6⟩
  have hs6 : w5.heap.size < w6.heap.size := (H6.out.2.lt w5.heap.size rfl).2
  have r6 := r5.below H6.out.1
  clear r5
  go_wp2_with fail
  refine (parts_row _ len0 (len0 + 9) b0 w6 r6 (by omega)).mono ?_
  rintro e w7 ⟨v7, rfl, H7⟩
  have hs7 := H7.out.1.size
  clear r6
  have hb67 := H7.out.1
  have hb57 : Below w5.heap.size w5 w7 := below_all H6.out.1 (by omega) hb67
  have hb47 : Below w4.heap.size w4 w7 := below_all H5.out.1 (by omega) hb57
  have hb37 : Below w3.heap.size w3 w7 := below_all H4.out.1 hs4 hb47
  have hb27 : Below w2.heap.size w2 w7 := below_all H3.out.1 hs3 hb37
  have hb07 : Below w.heap.size w w7 := below_all H2'.out.1 (by omega) hb27
  have hK := kept_row g1 a0 len0 cap0 b0 w7 (r0.below hb07) (by omega) (H2'.out.2.1.below hb27)
  have L1 := H2'.out.2.2.2.below hb27
  have L3 := H3.out.2.below hb37
  have L4 := H4.out.2.below hb47
  have L5 := (Lst.ofRow H5.out.2 (by omega)).below hb57
  have L6 := (Lst.ofRow H6.out.2 (by omega)).below hb67
  have k3 : ∀ y, o3 = some y → w2.heap.size ≤ y ∧ y < w3.heap.size := fun y hy => H3.out.2.lt hy
  have k4 : ∀ y, o4 = some y → w3.heap.size ≤ y ∧ y < w4.heap.size := fun y hy => H4.out.2.lt hy
  have hd := apart_by 5 (five o3 o4 (some w4.heap.size) (some w5.heap.size) (some g1)) (five w2.heap.size w3.heap.size w4.heap.size w5.heap.size g1) (five w3.heap.size w4.heap.size w5.heap.size w6.heap.size w2.heap.size)
    (fivep k3 k4 (fun y hy => by cases hy; exact ⟨Nat.le_refl _, hs5⟩) (fun y hy => by cases hy; exact ⟨Nat.le_refl _, hs6⟩) (fun y hy => by cases hy; exact ⟨Nat.le_refl _, hs2⟩))
    (five_order g1 w2.heap.size w3.heap.size w4.heap.size w5.heap.size w6.heap.size hs3 hs4 (by omega))
  have HD : Hid (_) := And.intro hb07 (And.intro hd (And.intro L1 (And.intro L3 (And.intro L4 (And.intro L5 L6)))))
  have hszs : w.heap.size ≤ g1 ∧ w.heap.size ≤ w2.heap.size ∧ w.heap.size ≤ w3.heap.size ∧ w.heap.size ≤ w4.heap.size ∧ w.heap.size ≤ w5.heap.size ∧ w.heap.size ≤ w6.heap.size ∧ w.heap.size ≤ w7.heap.size := by omega
  have HZ : Hid (_) := hszs
  clear hb07 hd L1 L3 L4 L5 L6 k3 k4 hb67 hb57 hb47 hb37 hb27 H2' H3 H4 H5 H6 H7 HB4 hs1 hs2 hs3 hs4 hs5 hs6 hs7 hszs r0
  go_wp2_with fail
  refine hK.mono ?_
  rintro e w8 ⟨rfl, m8, rfl⟩
  have hb78 : Below w7.heap.size w7 (w7.drewN m8) := below_drewN (Below.refl _ _) m8
  have hA := apart_lists w.heap.size 5 (five o3 o4 (some w4.heap.size) (some w5.heap.size) (some g1)) (five n3 n4 len0 len0 len0) (five c3 c4 c5 c6 (len0 + 9)) #[.slice (sa o3) n3 c3, .slice (sa o4) n4 c4, .slice (some ⟨w4.heap.size, 0, none⟩) len0 c5, .slice (some ⟨w5.heap.size, 0, none⟩) len0 c6, .slice (some ⟨g1, 0, none⟩) len0 (len0 + 9)] w (w7.drewN m8) rfl
    (fivep ((HD.out.2.2.2.1.below hb78).base HZ.out.2.1) ((HD.out.2.2.2.2.1.below hb78).base HZ.out.2.2.1) ((HD.out.2.2.2.2.2.1.below hb78).base HZ.out.2.2.2.1) ((HD.out.2.2.2.2.2.2.below hb78).base HZ.out.2.2.2.2.1) ((HD.out.2.2.1.below hb78).base HZ.out.1))
    HD.out.2.1 (by omega) (by omega) (below_drewN HD.out.1 m8) (Nat.le_refl _)
  rw [show (w7.drewN m8).heap.size = w7.heap.size by simp] at hA
  clear hb78 HD HZ hK
  generalize sa o3 = s3 at *
  generalize sa o4 = s4 at *
  go_wp2_with fail
  refine hA.mono ?_
  rintro e w9 ⟨rfl, hfin⟩
  go_wp2_with fail
  go_ret
  exact ⟨rfl, hfin⟩
theorem burstOwn_walk (a0 : Option Addr) (len0 cap0 : Nat) (z0 : List Int) (a1 : Int) (a2 : Int) (w : World) (w0 : BRow .u8 w a0 len0 cap0 z0) (w1 : (Lit.int .i64 a1).wf = true) (w2 : (Lit.int .u32 a2).wf = true) :
    Calls Try.prog 7 #[.slice a0 len0 cap0, .int .i64 a1, .int .u32 a2] w fun e w' => e = .returned (.bool true) ∧ Below w.heap.size w w' := by
  obtain ⟨x, rfl, hx⟩ := nat32B w2
  have h1 := bounds_i64 w1
  by_cases h : len0 ≤ 4000
  · exact burstOwn_any a0 len0 cap0 a1 x _ w w0.row8 h hx (by omega)
  · exact burstOwn_long a0 len0 cap0 a1 x w (by omega)

end Go.Proofs.Ytboeefphjjgbpaa
