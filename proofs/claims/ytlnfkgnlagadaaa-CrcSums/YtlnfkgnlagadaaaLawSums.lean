/- The walk of the statement CrcSums: checks of sums, and what keeps a sealed list valid. -/
import Derived.Test.YtlnfkgnlagadaaaLaw02
import Derived.Deep.DeepCutAuto
import Derived.RegionTactic
import Derived.Deep.RegionWith
namespace Go.Proofs.Ytlnfkgnlagadaaa
open Go.RowKit

/-- The first j bytes turned by g's. -/
def mix (f g : Nat → Nat) (j i : Nat) : Nat := if i < j then f i ^^^ g i else f i
theorem mix_zero (f g : Nat → Nat) : mix f g 0 = f := by funext i; simp [mix]
theorem mix_step (f g : Nat → Nat) (j i : Nat) : (if i = j then f j ^^^ g j else mix f g j i) = mix f g (j + 1) i := by
  unfold mix
  by_cases h : i = j
  · subst h; simp
  · by_cases h2 : i < j
    · simp [h, h2, show i < j + 1 by omega]
    · simp [h, h2, show ¬ i < j + 1 by omega]
theorem mix_at (f g : Nat → Nat) (j : Nat) : mix f g j j = f j := by simp [mix]
theorem mix_lt {f g : Nat → Nat} {j n : Nat} (hf : ∀ i, i < n → f i < 256) (hg : ∀ i, i < j → g i < 256) : ∀ i, i < n → mix f g j i < 256 := by
  intro i hi
  unfold mix
  by_cases h : i < j
  · rw [if_pos h]; exact Nat.xor_lt_two_pow (n := 8) (hf i hi) (hg i h)
  · rw [if_neg h]; exact hf i hi
theorem own_form {w : World} {B e n : Nat} {v : Value} {xs : List Value} (h : w.ownsRow B e 1 v n xs) : ∃ a cap, v = .slice a n cap ∧ (0 < n → ∃ g, a = some ⟨g, 0, none⟩ ∧ B ≤ g) := by
  rcases h.2 with ⟨rfl, rfl⟩ | ⟨g, cap, cur, hv, hg, _⟩
  · exact ⟨none, 0, rfl, fun h => by omega⟩
  · exact ⟨_, cap, hv, fun _ => ⟨g, rfl, hg⟩⟩
theorem xor8 (a b : Nat) (ha : a < 256) (hb : b < 256) : bits .xor .u8 (a : Int) (b : Int) = ((a ^^^ b : Nat) : Int) := u8_xor_nat a b ha hb
set_option maxRecDepth 100000 in
set_option maxHeartbeats 1500000 in
theorem crcSums_any (a0 : Option Addr) (len0 cap0 : Nat) (a1 : Option Addr) (len1 cap1 : Nat) (b0 b1 : Nat → Nat) (w : World) (r0 : Row8 w a0 len0 cap0 b0) (r1 : Row8 w a1 len1 cap1 b1) (hl0 : len0 ≤ 4000) (hl1 : len1 ≤ 4000) :
    Calls Try.prog 8 #[.slice a0 len0 cap0, .slice a1 len1 cap1] w fun e w' => e = .returned (.bool true) ∧ Below w.heap.size w w' := by
  obtain ⟨i0, hi, hz0, hz1, hz2⟩ := info_parts info_u8
  have hc0 := r0.le
  have hc1 := r1.le
  have hbd := build0
  go_enter Try.func8, Try.ntmps8
  go_wp2_with fail
  refine (awake2 _).mono ?_
  rintro e w1 ⟨rfl, hbel1⟩
  have hsz1 := hbel1.size
  go_upto_if 28 with fail
  go_cut [5] (fun s wx => s = .int .i64 (min len0 len1 : Nat) ∧ wx = w1)
  case first =>
    by_cases h : len1 < len0
    · go_wp2
      go_meet
      case rel => exact ⟨by rw [Nat.min_eq_right (by omega)], rfl⟩
    · go_wp2
      go_meet
      case rel => exact ⟨by rw [Nat.min_eq_left (by omega)], rfl⟩
  case rest =>
    obtain ⟨rfl, rfl⟩ := hcut
    obtain ⟨n, hn⟩ : ∃ n, n = min len0 len1 := ⟨_, rfl⟩
    rw [← hn]
    have hn0 : n ≤ len0 := by omega
    have hn1 : n ≤ len1 := by omega
    clear hn
    have hbelA : Below w.heap.size w (wc.alloc (.cells #[] 5)) := hbel1.alloc hsz1 _
    have R0 := (r0.below hbelA).upto n hn0
    have O0 : (wc.alloc (.cells #[] 5)).ownsRow w.heap.size 5 1 (.slice (some ⟨wc.heap.size, 0, none⟩) 0 0) 0 (CB b0 0) := World.ownsRow_made wc #[] 0 hsz1 (Nat.zero_le _) rfl
    have hszA := hbelA.size
    go_wp2_with (at_builtin; refine wpList_append_row8 rfl (.tmp 31) (.tmp 34) 22 rfl w.heap.size 5 i0 (.int .u8 0) Try.underlying22 hi hz0 hz1 hz2 rfl _ 0 _ rfl O0 a0 n cap0 b0 rfl R0 (by unfold maxLen; omega) (by omega) hszA ?_)
    intro v2 w2 hown2 hgrow2
    have hbel2 : Below w.heap.size w w2 := hbelA.grown hgrow2 hszA (fun k hk => (O0.lt k hk).1)
    rw [show CB b0 0 = [] from rfl, List.nil_append, ← mix_zero b0 b1] at hown2
    clear hgrow2 O0 R0 hbelA hbel1 hbd
    obtain ⟨ax, cx, rfl, hax⟩ := own_form hown2
    go_wp2_with fail
    go_loopw [7] (fun c wr => ∃ j : Nat, j ≤ n ∧ c = .int .i64 j ∧ wr.ownsRow w.heap.size 5 1 (.slice ax n cx) n (CB (mix b0 b1 j) n) ∧ Below w.heap.size w wr) (fun c _ => n - (intOf c).toNat)
    case atStart => exact ⟨0, by omega, rfl, hown2, hbel2⟩
    case round =>
      clear hown2 hbel2
      obtain ⟨j, hj, rfl, hown, hbel⟩ := hrel
      by_cases hlt : j < n
      · obtain ⟨gx, rfl, hgx⟩ := hax (by omega)
        have hcx := hown.cellAt j (by omega)
        rw [CB_get _ n j hlt, mix_at] at hcx
        have hfx := hown.frozenAt j
        obtain ⟨b, off, rfl, hb, hc⟩ := (r1.below hbel).plain (by omega)
        obtain ⟨hb8, hcell⟩ := hc j (by omega)
        have ha8 := r0.byte j (by omega)
        have hX := xor8 _ _ ha8 hb8
        have hown3 : (wr.drew.setCell ⟨gx, j, none⟩ (.int .u8 ((b0 j ^^^ b1 j : Nat) : Int))).ownsRow w.heap.size 5 1 (.slice (some ⟨gx, 0, none⟩) n cx) n (CB (mix b0 b1 (j + 1)) n) := by
          have h := ((show wr.drew.ownsRow w.heap.size 5 1 (.slice (some ⟨gx, 0, none⟩) n cx) n (CB (mix b0 b1 j) n) from hown).stored j (.int .u8 ((b0 j ^^^ b1 j : Nat) : Int))).1
          rw [CB_set, CB_congr _ (mix b0 b1 (j + 1)) n (fun i _ => mix_step b0 b1 j i)] at h
          exact h
        have hbel3 : Below w.heap.size w (wr.drew.setCell ⟨gx, j, none⟩ (.int .u8 ((b0 j ^^^ b1 j : Nat) : Int))) := hbel.drew.setCell (p := ⟨gx, j, none⟩) hgx _
        have HO : Hid (_) := hown3
        have HB : Hid (_) := hbel3
        clear hc hax r0 r1 hown hbel hown3 hbel3
        generalize b0 j ^^^ b1 j = y at *
        go_wp2_with fail
        go_region
        all_goals (go_wp2_with fail; go_roundw)
        case rel => exact ⟨j + 1, by omega, by go_num, HO.out, HB.out⟩
        case measure => simp [intOf] <;> omega
      · obtain rfl : j = n := by omega
        have hxb : ∀ i, i < j → mix b0 b1 j i < 256 := mix_lt (fun i hi => r0.byte i (by omega)) (fun i hi => r1.byte i (by omega))
        obtain ⟨ay, cy, hv, RX⟩ := own_row8 hown hxb
        cases hv
        have hBx := fun k => cbits_row _ _ _ _ _ (RX.drewN k) (by omega)
        have hBa := fun k => cbits_row _ _ _ _ _ (((r0.below hbel).upto j hn0).drewN k) (by omega)
        have hBb := fun k => cbits_row _ _ _ _ _ (((r1.below hbel).upto j hn1).drewN k) (by omega)
        have hKx : PM.K (mix b0 b1 j) j = PM.K b0 j ^^^ PM.K b1 j := by
          rw [PM.K_congr (mix b0 b1 j) (fun i => b0 i ^^^ b1 i) j (fun i hi => by simp [mix, hi])]
          unfold PM.K
          rw [PM.V_bytes_xor, PM.E_xor]
        have hX := xor32 _ _ (PM.K_lt b0 j) (PM.K_lt b1 j)
        rw [← hKx] at hX
        have hsz := hbel.size
        clear hax RX hown hxb hKx
        generalize PM.K (mix b0 b1 j) j = kx at *
        generalize PM.K b0 j = k0 at *
        generalize PM.K b1 j = k1 at *
        go_wp2_with fail
        go_quiet (first | (go_at_call_of 15 ax; refine Calls.quiet_of_same (hBx _)) | (go_at_call_of 15 a0; refine Calls.quiet_of_same (hBa _)) | (go_at_call_of 15 a1; refine Calls.quiet_of_same (hBb _)))
        have hbelq : Below w.heap.size w (wr.drewN nq) := below_drewN hbel nq
        have hszq := hbelq.size
        have hS := seal_row a0 len0 cap0 b0 _ (r0.below hbelq) (by omega)
        clear hBx hBa hBb hbel
        go_wp2_with fail
        refine hS.mono ?_
        rintro e w3 ⟨vs, rfl, hownS0, hbelS⟩
        have hownS := own_base hownS0 hszq
        have hbel3 := below_all hbelq hszq hbelS
        have hslb : ∀ i, i < len0 + 4 → PM.sl b0 len0 i < 256 := PM.ct_lt (k := 4) r0.byte (fun i _ => PM.w4_lt _ i)
        have HSL : Hid (PM.R PM.g 32 (PM.V (PM.fb (PM.sl b0 len0)) (8 * (len0 + 4))) = 0) := PM.V_sl b0 len0
        clear hS hownS0 hbelS hbelq hX
        generalize PM.sl b0 len0 = f at *
        rw [← mix_zero f b1] at hownS
        obtain ⟨asl, csl, rfl, hasl⟩ := own_form hownS
        go_wp2_with fail
        go_loopw [9] (fun c wr => ∃ j : Nat, j ≤ len0 + 4 ∧ j ≤ len1 ∧ c = .int .i64 j ∧ wr.ownsRow w.heap.size 5 1 (.slice asl (len0 + 4) csl) (len0 + 4) (CB (mix f b1 j) (len0 + 4)) ∧ Below w.heap.size w wr) (fun c _ => len1 - (intOf c).toNat)
        case atStart => exact ⟨0, by omega, by omega, rfl, hownS, hbel3⟩
        case round =>
          clear hownS hbel3
          obtain ⟨k, hk0, hk1, rfl, hown, hbel⟩ := hrel
          by_cases hlt : k < len0 + 4 ∧ k < len1
          · obtain ⟨hlt0, hlt1⟩ := hlt
            obtain ⟨gx, rfl, hgx⟩ := hasl (by omega)
            have hcx := hown.cellAt k (by omega)
            rw [CB_get _ _ k hlt0, mix_at] at hcx
            have hfx := hown.frozenAt k
            obtain ⟨b, off, rfl, hb, hc⟩ := (r1.below hbel).plain (by omega)
            obtain ⟨hb8, hcell⟩ := hc k (by omega)
            have ha8 := hslb k (by omega)
            have hX := xor8 _ _ ha8 hb8
            have hown3 : (wr.drew.setCell ⟨gx, k, none⟩ (.int .u8 ((f k ^^^ b1 k : Nat) : Int))).ownsRow w.heap.size 5 1 (.slice (some ⟨gx, 0, none⟩) (len0 + 4) csl) (len0 + 4) (CB (mix f b1 (k + 1)) (len0 + 4)) := by
              have h := ((show wr.drew.ownsRow w.heap.size 5 1 (.slice (some ⟨gx, 0, none⟩) (len0 + 4) csl) (len0 + 4) (CB (mix f b1 k) (len0 + 4)) from hown).stored k (.int .u8 ((f k ^^^ b1 k : Nat) : Int))).1
              rw [CB_set, CB_congr _ (mix f b1 (k + 1)) _ (fun i _ => mix_step f b1 k i)] at h
              exact h
            have hbel3 : Below w.heap.size w (wr.drew.setCell ⟨gx, k, none⟩ (.int .u8 ((f k ^^^ b1 k : Nat) : Int))) := hbel.drew.setCell (p := ⟨gx, k, none⟩) hgx _
            have HO : Hid (_) := hown3
            have HB : Hid (_) := hbel3
            clear hc hasl r0 r1 hown hbel hown3 hbel3 hslb
            generalize f k ^^^ b1 k = y at *
            go_wp2_with fail
            go_region
            all_goals (go_wp2_with fail; go_roundw)
            case rel => exact ⟨k + 1, by omega, by omega, by go_num, HO.out, HB.out⟩
            case measure => simp [intOf] <;> omega
          · have hszr := hbel.size
            have hmb : ∀ i, i < len0 + 4 → mix f b1 k i < 256 := mix_lt hslb (fun i hi => r1.byte i (by omega))
            have hE : PM.V (PM.fb (mix f b1 k)) (8 * (len0 + 4)) = PM.V (PM.fb f) (8 * (len0 + 4)) ^^^ PM.V (PM.fb (fun i => if i < len1 then b1 i else 0)) (8 * (len0 + 4)) := by
              rw [← PM.V_bytes_xor]
              apply PM.V_bytes_congr
              intro i hi
              unfold mix
              by_cases h1 : i < k
              · rw [if_pos h1, if_pos (by omega)]
              · rw [if_neg h1, if_neg (by omega), Nat.xor_zero]
            have hR : PM.R PM.g 32 (PM.V (PM.fb (mix f b1 k)) (8 * (len0 + 4))) = PM.R PM.g 32 (PM.V (PM.fb (fun i => if i < len1 then b1 i else 0)) (8 * (len0 + 4))) := by
              rw [hE, PM.R_xor, HSL.out, Nat.zero_xor]
            clear hE HSL hasl
            by_cases hq : k < len0 + 4
            · have hq2 : ¬ k < len1 := by omega
              clear hlt
              go_wp2_with (at_make; refine wpList_make8 _ rfl (.tmp 88) (.tmp 88) 22 rfl wr.heap.size 5 i0 Try.underlying22 hi hz0 hz1 hz2 _ _ _ _ (len0 + 4) (len0 + 4) rfl rfl (by omega) (by omega) (Nat.le_refl _) (by omega) (Nat.le_refl _) ?_)
              intro w5 hownE hbelE
              have R1 := r1.below (below_all hbel hszr hbelE)
              go_wp2_with (refine wpList_copy8 rfl (.tmp 90) (.tmp 91) 22 22 rfl 5 Try.underlying22 size_u8 wr.heap.size wr.heap.size (len0 + 4) (len0 + 4) _ rfl hownE a1 len1 cap1 b1 rfl R1 wr hbelE ?_)
              intro w6 hownE6 hbelE6
              have hown6 := own_below hown hbelE6
              have hbel6 := below_all hbel hszr hbelE6
              clear hownE hbelE R1 hown hbel
              obtain ⟨ae, ce, hve, RE⟩ := own_row8 hownE6 (fun i hi => by by_cases h : i < len1 <;> simp [h]; exact r1.byte i h)
              cases hve
              obtain ⟨av, cv, hvv, RS⟩ := own_row8 hown6 hmb
              cases hvv
              have hO := ofG _ _ _ _ w6 RE (by omega)
              have hV := valid_row _ _ _ _ w6 RS (by omega)
              rw [hR] at hV
              clear hownE6 hbelE6 hown6 RE RS hmb hR hslb r0 r1
              generalize PM.R PM.g 32 (PM.V (PM.fb (fun i => if i < len1 then b1 i else 0)) (8 * (len0 + 4))) = r at *
              have hd : decide (4 ≤ len0 + 4 ∧ r = 0) = ((r : Int) == 0) := by rw [Bool.eq_iff_iff]; simp
              rw [hd] at hV
              clear hd
              go_wp2_with (first | (go_at_call 17; refine (generator_any _).mono ?_; rintro e w'' ⟨rfl, rfl⟩) | (go_at_call 16; refine hO.mono ?_; rintro e w'' ⟨rfl, rfl⟩) | (go_at_call 22; refine hV.mono ?_; rintro e w'' ⟨rfl, m, rfl⟩))
              go_ret
              exact ⟨ret_bool (by simp), below_drewN hbel6 _⟩
            · clear hlt
              go_wp2_with (at_make; refine wpList_make8 _ rfl (.tmp 88) (.tmp 88) 22 rfl wr.heap.size 5 i0 Try.underlying22 hi hz0 hz1 hz2 _ _ _ _ (len0 + 4) (len0 + 4) rfl rfl (by omega) (by omega) (Nat.le_refl _) (by omega) (Nat.le_refl _) ?_)
              intro w5 hownE hbelE
              have R1 := r1.below (below_all hbel hszr hbelE)
              go_wp2_with (refine wpList_copy8 rfl (.tmp 90) (.tmp 91) 22 22 rfl 5 Try.underlying22 size_u8 wr.heap.size wr.heap.size (len0 + 4) (len0 + 4) _ rfl hownE a1 len1 cap1 b1 rfl R1 wr hbelE ?_)
              intro w6 hownE6 hbelE6
              have hown6 := own_below hown hbelE6
              have hbel6 := below_all hbel hszr hbelE6
              clear hownE hbelE R1 hown hbel
              obtain ⟨ae, ce, hve, RE⟩ := own_row8 hownE6 (fun i hi => by by_cases h : i < len1 <;> simp [h]; exact r1.byte i h)
              cases hve
              obtain ⟨av, cv, hvv, RS⟩ := own_row8 hown6 hmb
              cases hvv
              have hO := ofG _ _ _ _ w6 RE (by omega)
              have hV := valid_row _ _ _ _ w6 RS (by omega)
              rw [hR] at hV
              clear hownE6 hbelE6 hown6 RE RS hmb hR hslb r0 r1
              generalize PM.R PM.g 32 (PM.V (PM.fb (fun i => if i < len1 then b1 i else 0)) (8 * (len0 + 4))) = r at *
              have hd : decide (4 ≤ len0 + 4 ∧ r = 0) = ((r : Int) == 0) := by rw [Bool.eq_iff_iff]; simp
              rw [hd] at hV
              clear hd
              go_wp2_with (first | (go_at_call 17; refine (generator_any _).mono ?_; rintro e w'' ⟨rfl, rfl⟩) | (go_at_call 16; refine hO.mono ?_; rintro e w'' ⟨rfl, rfl⟩) | (go_at_call 22; refine hV.mono ?_; rintro e w'' ⟨rfl, m, rfl⟩))
              go_ret
              exact ⟨ret_bool (by simp), below_drewN hbel6 _⟩
set_option maxHeartbeats 1000000 in
theorem crcSums_long (a0 : Option Addr) (len0 cap0 : Nat) (a1 : Option Addr) (len1 cap1 : Nat) (w : World) (hl0 : len0 ≤ 9223372036854775807) (hl1 : len1 ≤ 9223372036854775807) (h : 4000 < len0 ∨ 4000 < len1) :
    Calls Try.prog 8 #[.slice a0 len0 cap0, .slice a1 len1 cap1] w fun e w' => e = .returned (.bool true) ∧ Below w.heap.size w w' := by
  by_cases h1 : 4000 < len0
  · clear h
    go_enter Try.func8, Try.ntmps8
    go_wp2_with (go_at_call 9; refine (awake2 _).mono ?_; rintro e w' ⟨rfl, hb⟩)
    go_ret
    exact ⟨rfl, hb⟩
  · have h2 : 4000 < len1 := by omega
    clear h
    go_enter Try.func8, Try.ntmps8
    go_wp2_with (go_at_call 9; refine (awake2 _).mono ?_; rintro e w' ⟨rfl, hb⟩)
    go_ret
    exact ⟨rfl, hb⟩
theorem crcSums_walk (a0 : Option Addr) (len0 cap0 : Nat) (z0 : List Int) (a1 : Option Addr) (len1 cap1 : Nat) (z1 : List Int) (w : World) (w0 : BRow .u8 w a0 len0 cap0 z0) (w1 : BRow .u8 w a1 len1 cap1 z1) :
    Calls Try.prog 8 #[.slice a0 len0 cap0, .slice a1 len1 cap1] w fun e w' => e = .returned (.bool true) ∧ Below w.heap.size w w' := by
  by_cases h : len0 ≤ 4000 ∧ len1 ≤ 4000
  · exact crcSums_any a0 len0 cap0 a1 len1 cap1 _ _ w w0.row8 w1.row8 h.1 h.2
  · exact crcSums_long a0 len0 cap0 a1 len1 cap1 w w0.len_le w1.len_le (by omega)

end Go.Proofs.Ytlnfkgnlagadaaa
