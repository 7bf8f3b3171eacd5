/- What package burst's functions that read a pattern answer. -/
import Derived.Test.YtboeefphjjgbpaaRowo
import Derived.Test.YtboeefphjjgbpaaBits8
import Derived.Deep.QuietTactic
import Derived.BigQuiet
namespace Go.Proofs.Ytboeefphjjgbpaa
open Go.RowKit
set_option maxHeartbeats 400000 in
theorem first_any (b off len cap : Nat) (bs : Nat → Nat) (w : World) (hlen : len ≤ 1000000)
    (hc : ∀ i, i < len → bs i < 256 ∧ w.cell? ⟨b, off + i, none⟩ = some (.int .u8 (bs i))) :
    Calls Try.prog 13 #[.slice (some ⟨b, off, none⟩) len cap] w fun e w' => ∃ r : Int, e = .returned (.int .i64 r) ∧ w' = w ∧ PM.IsFirst (PM.fb bs) (8 * len) r := by
  go_enter Try.func13, Try.ntmps13
  go_wp2
  go_loop [2, 3, 4, 7] (fun _ _ _ c => ∃ i : Nat, i ≤ len ∧ c = .int .i64 i ∧ ∀ j, j < i → bs j = 0) (fun _ _ _ c => len - (intOf c).toNat)
  case atStart => exact ⟨0, by omega, rfl, fun j hj => by omega⟩
  case round =>
    obtain ⟨i, hi, rfl, hz⟩ := hrel
    have HZ : Hid (∀ j, j < i → bs j = 0) := hz
    clear hz
    by_cases hlt : i < len
    · obtain ⟨hb8, hcell⟩ := hc i hlt
      clear hc
      by_cases h0 : bs i = 0
      · rw [h0] at hcell
        go_wp2
        go_round
        case rel => exact ⟨i + 1, by omega, by go_num, fun j hj => by
                      by_cases e : j = i
                      · rw [e, h0]
                      · exact HZ.out j (by omega)⟩
        case measure => simp [intOf] <;> omega
      · have hne : ((bs i : Int) != 0) = true := by simp; omega
        have hL := lz8_any (bs i) w hb8
        have HF : Hid (PM.IsFirst (PM.fb bs) (8 * len) (8 * (i : Int) + (8 - (PM.bl (bs i) : Int)))) := PM.first_byte hlt HZ.out h0 hb8
        have hl : PM.bl (bs i) ≤ 8 := PM.bl_le (k := 8) hb8
        clear HZ
        generalize PM.bl (bs i) = l at *
        generalize bs i = x at *
        go_wp2_with (go_at_call 27; refine hL.mono ?_; rintro e w' ⟨rfl, rfl⟩)
        go_ret
        refine ⟨_, rfl, rfl, ?_⟩
        have := HF.out
        rw [show (8 * (i : Int) + (8 - (l : Int))) = 8 * (i : Int) + ((8 - l : Nat) : Int) by omega] at this
        exact this
    · clear hc
      go_wp2
      go_ret
      refine ⟨_, rfl, rfl, PM.first_none fun j hj => HZ.out j (by omega)⟩
set_option maxHeartbeats 400000 in
theorem last_any (b off len cap : Nat) (bs : Nat → Nat) (w : World) (hlen : len ≤ 1000000)
    (hc : ∀ i, i < len → bs i < 256 ∧ w.cell? ⟨b, off + i, none⟩ = some (.int .u8 (bs i))) :
    Calls Try.prog 15 #[.slice (some ⟨b, off, none⟩) len cap] w fun e w' => ∃ r : Int, e = .returned (.int .i64 r) ∧ w' = w ∧ PM.IsLast (PM.fb bs) (8 * len) r := by
  go_enter Try.func15, Try.ntmps15
  go_wp2
  go_loop [2, 3] (fun _ c => ∃ i : Nat, i ≤ len ∧ c = .int .i64 ((i : Int) - 1) ∧ ∀ j, i ≤ j → j < len → bs j = 0) (fun _ c => ((intOf c) + 1).toNat)
  case atStart => exact ⟨len, by omega, rfl, fun j hj hl => by omega⟩
  case round =>
    obtain ⟨i, hi, rfl, hz⟩ := hrel
    have HZ : Hid (∀ j, i ≤ j → j < len → bs j = 0) := hz
    clear hz
    by_cases hlt : 0 < i
    · obtain ⟨k, rfl⟩ : ∃ k, i = k + 1 := ⟨i - 1, by omega⟩
      obtain ⟨hb8, hcell⟩ := hc k (by omega)
      clear hc
      have hk : ((k + 1 : Nat) : Int) - 1 = (k : Int) := by omega
      rw [hk]
      clear hk
      by_cases h0 : bs k = 0
      · rw [h0] at hcell
        go_wp2
        go_round
        case rel => exact ⟨k, by omega, by go_num, fun j hj hl => by
                      by_cases e : j = k
                      · rw [e, h0]
                      · exact HZ.out j (by omega) hl⟩
        case measure => simp [intOf] <;> omega
      · have hne : ((bs k : Int) != 0) = true := by simp; omega
        obtain ⟨t, ht, hb, hzz, hT⟩ := tz8_any (bs k) w hb8 h0
        have HF : Hid (PM.IsLast (PM.fb bs) (8 * len) (8 * (k : Int) + 7 - (t : Int))) := PM.last_byte (by omega) (fun j h1 h2 => HZ.out j (by omega) h2) ht hb hzz
        clear HZ hb hzz
        generalize bs k = x at *
        go_wp2_with (go_at_call 28; refine hT.mono ?_; rintro e w' ⟨rfl, rfl⟩)
        go_ret
        exact ⟨_, rfl, rfl, HF.out⟩
    · obtain rfl : i = 0 := by omega
      clear hc
      go_wp2
      go_ret
      refine ⟨_, rfl, rfl, PM.last_none fun j hj => HZ.out j (by omega) hj⟩
set_option maxHeartbeats 400000 in
theorem weight_any (b off len cap : Nat) (bs : Nat → Nat) (w : World) (hlen : len ≤ 1000000)
    (hc : ∀ i, i < len → bs i < 256 ∧ w.cell? ⟨b, off + i, none⟩ = some (.int .u8 (bs i))) :
    Calls Try.prog 19 #[.slice (some ⟨b, off, none⟩) len cap] w fun e w' => e = .returned (.int .i64 (PM.cnt (PM.fb bs) (8 * len) : Nat)) ∧ w' = w := by
  go_enter Try.func19, Try.ntmps19
  go_wp2
  go_loop [3, 5, 8] (fun s _ c => ∃ i : Nat, i ≤ len ∧ c = .int .i64 i ∧ s = .int .i64 (PM.cnt (PM.fb bs) (8 * i) : Nat)) (fun _ _ c => len - (intOf c).toNat)
  case atStart => exact ⟨0, by omega, rfl, rfl⟩
  case round =>
    obtain ⟨i, hi, rfl, rfl⟩ := hrel
    by_cases hlt : i < len
    · obtain ⟨hb8, hcell⟩ := hc i hlt
      clear hc
      have hP := pop8_any (bs i) w hb8
      have hn := PM.cnt_byte bs i
      have hl := PM.wt_le (bs i) 8
      have hl2 := PM.cnt_le (PM.fb bs) (8 * i)
      have HN : Hid (PM.cnt (PM.fb bs) (8 * (i + 1)) = PM.cnt (PM.fb bs) (8 * i) + PM.wt (bs i) 8) := hn
      clear hn
      generalize PM.wt (bs i) 8 = v at *
      generalize PM.cnt (PM.fb bs) (8 * i) = u at *
      generalize bs i = x at *
      go_wp2_with (go_at_call 29; refine hP.mono ?_; rintro e w' ⟨rfl, rfl⟩)
      go_round
      case rel => exact ⟨i + 1, by omega, by go_num, by rw [HN.out]; go_num⟩
      case measure => simp [intOf] <;> omega
    · clear hc
      obtain rfl : i = len := by omega
      go_wp2
      go_ret
      exact ⟨rfl, rfl⟩
theorem first_nil (a : Option Addr) (cap : Nat) (bs : Nat → Nat) (w : World) :
    Calls Try.prog 13 #[.slice a 0 cap] w fun e w' => ∃ r : Int, e = .returned (.int .i64 r) ∧ w' = w ∧ PM.IsFirst (PM.fb bs) (8 * 0) r := by
  go_enter Try.func13, Try.ntmps13
  go_wp2
  refine wp_loop_rounds 1 ?_
  rw [rounds_succ]
  go_wp2
  go_ret
  exact ⟨_, rfl, rfl, PM.first_none fun j hj => by omega⟩
theorem first_row (a : Option Addr) (len cap : Nat) (bs : Nat → Nat) (w : World) (hr : Row8 w a len cap bs) (hlen : len ≤ 1000000) :
    Calls Try.prog 13 #[.slice a len cap] w fun e w' => ∃ r : Int, e = .returned (.int .i64 r) ∧ w' = w ∧ PM.IsFirst (PM.fb bs) (8 * len) r := by
  by_cases hz : len = 0
  · subst hz; exact first_nil a cap bs w
  · obtain ⟨b, off, rfl, _, hc⟩ := hr.plain (by omega)
    exact first_any b off len cap bs w hlen hc
theorem last_nil (a : Option Addr) (cap : Nat) (bs : Nat → Nat) (w : World) :
    Calls Try.prog 15 #[.slice a 0 cap] w fun e w' => ∃ r : Int, e = .returned (.int .i64 r) ∧ w' = w ∧ PM.IsLast (PM.fb bs) (8 * 0) r := by
  go_enter Try.func15, Try.ntmps15
  go_wp2
  refine wp_loop_rounds 1 ?_
  rw [rounds_succ]
  go_wp2
  go_ret
  exact ⟨_, rfl, rfl, PM.last_none fun j hj => by omega⟩
theorem last_row (a : Option Addr) (len cap : Nat) (bs : Nat → Nat) (w : World) (hr : Row8 w a len cap bs) (hlen : len ≤ 1000000) :
    Calls Try.prog 15 #[.slice a len cap] w fun e w' => ∃ r : Int, e = .returned (.int .i64 r) ∧ w' = w ∧ PM.IsLast (PM.fb bs) (8 * len) r := by
  by_cases hz : len = 0
  · subst hz; exact last_nil a cap bs w
  · obtain ⟨b, off, rfl, _, hc⟩ := hr.plain (by omega)
    exact last_any b off len cap bs w hlen hc
theorem weight_nil (a : Option Addr) (cap : Nat) (w : World) :
    Calls Try.prog 19 #[.slice a 0 cap] w fun e w' => e = .returned (.int .i64 0) ∧ w' = w := by
  go_enter Try.func19, Try.ntmps19
  go_wp2
  refine wp_loop_rounds 1 ?_
  rw [rounds_succ]
  go_wp2
  go_ret
  exact ⟨rfl, rfl⟩
theorem weight_row (a : Option Addr) (len cap : Nat) (bs : Nat → Nat) (w : World) (hr : Row8 w a len cap bs) (hlen : len ≤ 1000000) :
    Calls Try.prog 19 #[.slice a len cap] w fun e w' => e = .returned (.int .i64 (PM.cnt (PM.fb bs) (8 * len) : Nat)) ∧ w' = w := by
  by_cases hz : len = 0
  · subst hz; exact weight_nil a cap w
  · obtain ⟨b, off, rfl, _, hc⟩ := hr.plain (by omega)
    exact weight_any b off len cap bs w hlen hc
/-- How long: from the first to the last. -/
def spn (r s : Int) : Int := if r < 0 then 0 else s - r + 1
theorem span_row (a : Option Addr) (len cap : Nat) (bs : Nat → Nat) (w : World) (hr : Row8 w a len cap bs) (hlen : len ≤ 1000000) :
    Calls Try.prog 17 #[.slice a len cap] w fun e w' => ∃ r s : Int, e = .returned (.int .i64 (spn r s)) ∧ w' = w ∧ PM.IsFirst (PM.fb bs) (8 * len) r ∧ PM.IsLast (PM.fb bs) (8 * len) s := by
  go_enter Try.func17, Try.ntmps17
  go_wp2_with fail
  refine (first_row a len cap bs w hr hlen).mono ?_
  rintro e w1 ⟨r, rfl, rfl, HR⟩
  have HR : Hid (PM.IsFirst (PM.fb bs) (8 * len) r) := HR
  have hL := last_row a len cap bs w1 hr hlen
  have hex : ∃ s, PM.IsLast (PM.fb bs) (8 * len) s := by
    rcases PM.PT_last (PM.fb bs) (8 * len) with ⟨_, h⟩ | ⟨j, _, h⟩
    · exact ⟨_, h⟩
    · exact ⟨_, h⟩
  obtain ⟨s0, hs0⟩ := hex
  have hn := PM.IsFirst.neg HR.out hs0
  have HS : Hid (PM.IsLast (PM.fb bs) (8 * len) s0) := hs0
  clear hs0 hr
  by_cases hneg : r < 0
  · clear hL
    go_wp2_with fail
    go_ret
    refine ⟨r, s0, ?_, rfl, HR.out, HS.out⟩
    rw [show spn r s0 = 0 by unfold spn; rw [if_pos hneg]]
    rfl
  · have h1 := hn.2.1
    have h2 := hn.2.2.1
    have h3 := hn.2.2.2.1
    have h4 := hn.2.2.2.2.1
    clear hn
    go_wp2_with fail
    refine hL.mono ?_
    rintro e w2 ⟨s, rfl, rfl, hs⟩
    obtain rfl := PM.IsLast.one hs HS.out
    clear hL hs
    go_wp2_with fail
    go_ret
    refine ⟨r, s, ?_, rfl, HR.out, HS.out⟩
    rw [show spn r s = s - r + 1 by unfold spn; rw [if_neg (by omega)]]
    rfl

end Go.Proofs.Ytboeefphjjgbpaa
