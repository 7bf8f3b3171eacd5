/- What the statements on memory share: mark, Spare, Kept. -/
import Derived.Test.YtohhidnockmkaaaStrs
namespace Go.Proofs.Ytohhidnockmkaaa
open Go.RowKit

/-- The byte that a list has in a place. -/
def mrk (i k : Nat) : Nat := (17 * i + 5 * k + 3) % 256
theorem mrk_lt (i k : Nat) : mrk i k < 256 := Nat.mod_lt _ (by omega)
set_option maxHeartbeats 400000 in
theorem mark_any (i k : Nat) (w : World) (hi : i ≤ 1000000) (hk : k ≤ 1000000000) :
    Calls Try.prog 36 #[.int .i64 i, .int .i64 k] w fun e w' => e = .returned (.int .u8 (mrk i k : Nat)) ∧ w' = w := by
  go_enter Try.func36, Try.ntmps36
  go_wp2
  go_ret
  exact ⟨congrArg (fun x => Ending.returned (Value.int .u8 x)) (by unfold mrk; omega), rfl⟩
/-- The bytes, and behind them nine of their own. -/
def sp (bs : Nat → Nat) (n i : Nat) : Nat := if i < n then bs i else (201 + i) % 256
theorem sp_lt {bs : Nat → Nat} {n : Nat} (h : ∀ i, i < n → bs i < 256) (i : Nat) : sp bs n i < 256 := by
  unfold sp
  by_cases e : i < n
  · rw [if_pos e]; exact h i e
  · rw [if_neg e]; omega
theorem own_cut {w : World} {B e g n cap k : Nat} {xs : List Value} (h : w.ownsRow B e 1 (.slice (some ⟨g, 0, none⟩) n cap) n xs) (hk : k ≤ n) : w.ownsRow B e 1 (.slice (some ⟨g, 0, none⟩) k cap) k (xs.take k) := by
  rcases h.2 with ⟨h', _⟩ | ⟨g', cap', cur, h', hb, hg, hnc, hcm, hcs, ht⟩
  · simp at h'
  · simp only [Value.slice.injEq, Option.some.injEq, Addr.mk.injEq, and_true, true_and] at h'
    obtain ⟨rfl, rfl⟩ := h'
    refine ⟨by have := h.1; rw [List.length_take]; omega, .inr ⟨g, cap, cur, rfl, hb, hg, by omega, hcm, hcs, ?_⟩⟩
    rw [← ht, List.take_take, show min k (n * 1) = k * 1 by omega]
set_option maxRecDepth 100000 in
set_option maxHeartbeats 1000000 in
theorem spare_row (a : Option Addr) (len cap : Nat) (bs : Nat → Nat) (w : World) (hr : Row8 w a len cap bs) (hlen : len ≤ 140737488351232) :
    Calls Try.prog 21 #[.slice a len cap] w fun e w' => e = .returned (.tuple #[.slice (some ⟨w.heap.size, 0, none⟩) len (len + 9), .slice (some ⟨w.heap.size, 0, none⟩) (len + 9) (len + 9)]) ∧
      Hid (w'.ownsRow w.heap.size 5 1 (.slice (some ⟨w.heap.size, 0, none⟩) (len + 9) (len + 9)) (len + 9) (CB (sp bs len) (len + 9)) ∧ Below w.heap.size w w') := by
  obtain ⟨i0, hi, hz0, hz1, hz2⟩ := info_parts info_u8
  go_enter Try.func21, Try.ntmps21
  go_wp2_with (at_make; refine wpList_make8 _ rfl (.tmp 8) (.tmp 8) 31 rfl w.heap.size 5 i0 Try.underlying31 hi hz0 hz1 hz2 _ _ _ _ (len + 9) (len + 9) rfl rfl ?b0 ?b1 (Nat.le_refl _) (by omega) (Nat.le_refl _) ?_)
  case b0 => omega
  case b1 => omega
  intro w1 hown1 hbel1
  have R1 := hr.below hbel1
  go_wp2_with (refine wpList_copy8 rfl (.tmp 10) (.tmp 11) 31 31 rfl 5 Try.underlying31 size_u8 w.heap.size w.heap.size (len + 9) (len + 9) _ rfl hown1 a len cap bs rfl R1 w hbel1 ?_)
  intro w2 hown2 hbel2
  have hbs := hr.byte
  clear hown1 hbel1 R1 hr
  go_wp2_with fail
  go_loopw [5] (fun c wr => ∃ j, j ≤ 9 ∧ c = .int .i64 ((len + j : Nat) : Int) ∧ wr.ownsRow w.heap.size 5 1 (.slice (some ⟨w.heap.size, 0, none⟩) (len + 9) (len + 9)) (len + 9) (CB (fun i => if i < len + j then sp bs len i else 0) (len + 9)) ∧ Below w.heap.size w wr) (fun c _ => (len + 9) - (intOf c).toNat)
  case atStart => exact ⟨0, by omega, by simp, by
    rw [CB_congr _ (fun i => if i < len then bs i else 0) (len + 9) (fun i _ => by
      rw [Nat.add_zero]
      by_cases e : i < len
      · rw [if_pos e, if_pos e]; unfold sp; rw [if_pos e]
      · rw [if_neg e, if_neg e])]
    exact hown2, hbel2⟩
  case round =>
    clear hown2 hbel2
    obtain ⟨j, hj, rfl, hown, hbel⟩ := hrel
    obtain ⟨p, hp⟩ : ∃ p, p = len + j := ⟨_, rfl⟩
    rw [← hp] at hown ⊢
    by_cases hlt : j < 9
    · have hpl : p < len + 9 := by omega
      have hplI : (p : Int) < (len : Int) + 9 := by omega
      have hcx := hown.cellAt p (by omega)
      rw [CB_get _ _ p hpl] at hcx
      have hfx := hown.frozenAt p
      have hv : ((201 : Int) + (p : Int)) % 256 = ((sp bs len p : Nat) : Int) := by
        unfold sp
        rw [if_neg (by omega)]
        omega
      have hown3 := (hown.stored p (.int .u8 ((sp bs len p : Nat) : Int))).1
      rw [CB_set, CB_congr _ (fun i => if i < len + (j + 1) then sp bs len i else 0) (len + 9) (fun i _ => by
        by_cases e : i = p
        · rw [if_pos e, if_pos (by omega), e]
        · rw [if_neg e]
          by_cases e2 : i < p
          · rw [if_pos e2, if_pos (by omega)]
          · rw [if_neg e2, if_neg (by omega)])] at hown3
      have hbel3 := hbel.setCell (p := ⟨w.heap.size, p, none⟩) (Nat.le_refl _) (.int .u8 ((sp bs len p : Nat) : Int))
      have H3 : Hid (_) := And.intro hown3 hbel3
      have HP : Hid (p = len + j) := hp
      clear hown hbel hown3 hbel3 hp
      generalize sp bs len p = y at *
      go_wp2
      go_roundw
      case rel => exact ⟨j + 1, by omega, by rw [HP.out]; go_num, H3.out.1, H3.out.2⟩
      case measure => simp [intOf] <;> omega
    · obtain rfl : j = 9 := by omega
      have H3 : Hid (_) := And.intro hown hbel
      have hpl : ¬ p < len + 9 := by omega
      have hplI : ¬ (p : Int) < (len : Int) + 9 := by omega
      have HP : Hid (p = len + 9) := hp
      clear hown hbel hp
      go_wp2
      go_ret2
      refine ⟨rfl, ?_, H3.out.2⟩
      have h := H3.out.1
      rw [CB_congr _ (sp bs len) (len + 9) (fun i hi => by rw [HP.out]; exact if_pos hi)] at h
      exact h
set_option maxRecDepth 100000 in
set_option maxHeartbeats 1000000 in
theorem kept_row (g : Nat) (a : Option Addr) (len cap : Nat) (bs : Nat → Nat) (w : World) (hr : Row8 w a len cap bs) (hlen : len ≤ 140737488351232) (hW : Row8 w (some ⟨g, 0, none⟩) (len + 9) (len + 9) (sp bs len)) :
    Calls Try.prog 22 #[.slice (some ⟨g, 0, none⟩) (len + 9) (len + 9), .slice a len cap] w fun e w' => e = .returned (.bool true) ∧ ∃ m, w' = w.drewN m := by
  have hc1 : ∀ k, (convert 31 9 (.slice (some ⟨g, 0, none⟩) len (len + 9))).run Try.prog (w.drewN k) = .ok (.string (BA bs len)) (w.drewN k) := fun k =>
    conv_any _ len (len + 9) bs _ (((hW.drewN k).upto len (by omega)).congr (fun i hi => by unfold sp; rw [if_pos hi]))
  have hc2 : ∀ k, (convert 31 9 (.slice a len cap)).run Try.prog (w.drewN k) = .ok (.string (BA bs len)) (w.drewN k) := fun k => conv_any _ len cap bs _ (hr.drewN k)
  have hcell : ∀ i, i < len + 9 → w.cell? ⟨g, i, none⟩ = some (.int .u8 (sp bs len i : Nat)) := fun i hi => by
    have := hW.src _ rfl i hi
    rwa [Go.WideShapes.add_plain, Nat.zero_add] at this
  have hlI : (len : Int) ≤ (len : Int) + 9 := by omega
  generalize BA bs len = X at *
  clear hW hr
  go_enter Try.func22, Try.ntmps22
  go_wp2_with fail
  go_quiet (fail)
  clear hc1 hc2
  go_wp2_with fail
  go_loop [4, 5] (fun _ c => ∃ j, j ≤ 9 ∧ c = .int .i64 ((len + j : Nat) : Int)) (fun _ c => (len + 9) - (intOf c).toNat)
  case atStart => exact ⟨0, by omega, by simp⟩
  case round =>
    obtain ⟨j, hj, rfl⟩ := hrel
    obtain ⟨p, hp⟩ : ∃ p, p = len + j := ⟨_, rfl⟩
    rw [← hp]
    by_cases hlt : j < 9
    · have hpl : p < len + 9 := by omega
      have hplI : (p : Int) < (len : Int) + 9 := by omega
      have hcx := hcell p hpl
      have hv : ((201 : Int) + (p : Int)) % 256 = ((sp bs len p : Nat) : Int) := by
        unfold sp
        rw [if_neg (by omega)]
        omega
      have HP : Hid (p = len + j) := hp
      clear hp hcell
      generalize sp bs len p = y at *
      go_wp2
      go_round
      case rel => exact ⟨j + 1, by omega, by rw [HP.out]; go_num⟩
      case measure => simp [intOf] <;> omega
    · have hpl : ¬ p < len + 9 := by omega
      have hplI : ¬ (p : Int) < (len : Int) + 9 := by omega
      clear hp hcell
      go_wp2
      go_ret
      exact ⟨rfl, _, rfl⟩

end Go.Proofs.Ytohhidnockmkaaa
