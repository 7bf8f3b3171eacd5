/- Layer 8: no number comes twice. -/
import Derived.Test.YtibnmbindfjnlaaLawCKeep
import Derived.Test.YtibnmbindfjnlaaRown
namespace Go.Proofs.Ytibnmbindfjnlaa
open Go.RowKit

/-- What a Next that writes leaves. -/
theorem go_pure {n : Nat} {s : Ms} (hn : 10 ≤ n) (ho : s.off = false) (hl : 0 ≤ s.l) (hv : vz s.bs + 1 < 4294967296) :
    (sqE n (six (tg s.bs) (vz s.bs + 1)) s = 0 ∧ vz (sqS n (six (tg s.bs) (vz s.bs + 1)) s).bs = vz s.bs + 1 ∧ (sqS n (six (tg s.bs) (vz s.bs + 1)) s).off = false ∧ (sqS n (six (tg s.bs) (vz s.bs + 1)) s).ar = s.ar ∧ (sqS n (six (tg s.bs) (vz s.bs + 1)) s).t = s.t + 6) ∨
    (sqE n (six (tg s.bs) (vz s.bs + 1)) s = 70 ∧ vz (sqS n (six (tg s.bs) (vz s.bs + 1)) s).bs = vz s.bs ∧ (sqS n (six (tg s.bs) (vz s.bs + 1)) s).off = true ∧ s.ar = true ∧ (sqS n (six (tg s.bs) (vz s.bs + 1)) s).t ≤ s.t + 6) := by
  have hin := six_in (tg s.bs) (vz s.bs + 1) n (tg_lt s.bs) hn
  rcases sq_all n (six (tg s.bs) (vz s.bs + 1)) s (fun x hx => (hin x hx).1) ho hl with ⟨hE, hS, _⟩ | ⟨hE, hS, ha, h4⟩
  · refine .inl ⟨hE, ?_, ?_, ?_, ?_⟩ <;> rw [hS]
    · exact vz_next s.bs _ hv (by omega)
    · rfl
  · have h5 : s.l < 6 := h4
    refine .inr ⟨hE, ?_, ?_, ha, ?_⟩ <;> rw [hS]
    · exact vz_cut s.bs _ _ (by omega)
    · show s.t + s.l ≤ s.t + 6
      omega
/-- What Open leaves. -/
theorem mend_pure {n : Nat} {s : Ms} (hn : 10 ≤ n) (ho : s.off = false) (hl : 0 ≤ s.l) (hz : Bz s.bs) :
    (sqE n (mend s.bs) s = 0 ∧ vz (sqS n (mend s.bs) s).bs = vz s.bs ∧ (sqS n (mend s.bs) s).off = false ∧ (sqS n (mend s.bs) s).ar = s.ar ∧ (sqS n (mend s.bs) s).t ≤ s.t + 6) ∨
    (sqE n (mend s.bs) s = 70 ∧ vz (sqS n (mend s.bs) s).bs = vz s.bs ∧ (sqS n (mend s.bs) s).off = true ∧ s.ar = true ∧ (sqS n (mend s.bs) s).t ≤ s.t + 6) := by
  have hin := mend_in s.bs n hn
  have hlen := mend_len s.bs
  rcases sq_all n (mend s.bs) s (fun x hx => (hin x hx).1) ho hl with ⟨hE, hS, _⟩ | ⟨hE, hS, ha, h4⟩
  · refine .inl ⟨hE, ?_, ?_, ?_, ?_⟩ <;> rw [hS]
    · exact vz_mended s.bs hz
    · show s.t + ((mend s.bs).length : Int) ≤ s.t + 6
      omega
  · refine .inr ⟨hE, ?_, ?_, ha, ?_⟩ <;> rw [hS]
    · exact vz_mend s.bs _ hz
    · show s.t + s.l ≤ s.t + 6
      omega
/-- How it stands behind Open or a Next: e its error, x the place of the cut. -/
def Std (wr : World) (c b mx : Nat) (s : Ms) (p : Option Addr) (x e : Int) : Prop :=
  (e = 0 ∧ p = some ⟨c, 0, none⟩ ∧ CS wr c b mx s.bs false ∧ s.off = false ∧ (x < 0 → s.ar = false)) ∨ (e = 80 ∧ p = some ⟨c, 0, none⟩ ∧ CS wr c b mx s.bs false ∧ mx ≤ vz s.bs) ∨ (e = 70 ∧ s.off = true ∧ 0 ≤ x)
set_option maxRecDepth 100000 in
set_option maxHeartbeats 4000000 in
theorem rises_out (a0 : Option Addr) (len0 cap0 mx : Nat) (v2 : Value) (w : World) (h : len0 < 10 ∨ 100 < len0 ∨ mx = 0) :
    Calls Try.prog 4 #[.slice a0 len0 cap0, .int .u32 (mx : Nat), v2] w fun e w' => e = .returned (.bool true) ∧ Below w.heap.size w w' := by
  by_cases h1 : len0 < 10
  · have i1 : decide ((len0 : Int) < 10) = true := by simp; omega
    go_enter Try.func4, Try.ntmps4
    go_wp2_with fail
    refine (awake8 w).mono ?_
    rintro e w1 ⟨rfl, b1⟩
    go_wp2_with fail
    go_ret
    exact ⟨rfl, b1⟩
  · have i1 : decide ((len0 : Int) < 10) = false := by simp; omega
    by_cases h2 : 100 < len0
    · have i2 : decide ((100 : Int) < (len0 : Int)) = true := by simp; omega
      go_enter Try.func4, Try.ntmps4
      go_wp2_with fail
      refine (awake8 w).mono ?_
      rintro e w1 ⟨rfl, b1⟩
      go_wp2_with fail
      go_ret
      exact ⟨rfl, b1⟩
    · have i2 : decide ((100 : Int) < (len0 : Int)) = false := by simp; omega
      obtain rfl : mx = 0 := by omega
      go_enter Try.func4, Try.ntmps4
      go_wp2_with fail
      refine (awake8 w).mono ?_
      rintro e w1 ⟨rfl, b1⟩
      go_wp2_with fail
      go_ret
      exact ⟨rfl, b1⟩
set_option maxRecDepth 100000 in
set_option maxHeartbeats 8000000 in
theorem rises_good (a0 : Option Addr) (len0 cap0 : Nat) (bs : Nat → Nat) (mx : Nat) (a2 : Option Addr) (len2 cap2 : Nat) (z : Nat → Int) (w : World) (R : Row8 w a0 len0 cap0 bs) (h1 : 10 ≤ len0) (h2 : len0 ≤ 100) (hm0 : mx ≠ 0) (hmx : mx < 4294967296)
    (hz : 0 < len2 → ∃ q off, a2 = some ⟨q, off, none⟩ ∧ q < w.heap.size ∧ ∀ i, i < len2 → w.cell? ⟨q, off + i, none⟩ = some (.int .i64 (z i)) ∧ z i ≤ 9223372036854775807) :
    Calls Try.prog 4 #[.slice a0 len0 cap0, .int .u32 (mx : Nat), .slice a2 len2 cap2] w fun e w' => e = .returned (.bool true) ∧ Below w.heap.size w w' := by
  obtain ⟨i0, hi, hz0, hz1, hz2⟩ := info_parts info_u8
  have i1 : decide ((len0 : Int) < 10) = false := by simp; omega
  have i2 : decide ((100 : Int) < (len0 : Int)) = false := by simp; omega
  have i3 : ((mx : Int) == 0) = false := by simpa using hm0
  have hby := R.byte
  go_enter Try.func4, Try.ntmps4
  go_wp2_with fail
  refine (awake8 w).mono ?_
  rintro e w1 ⟨rfl, b1⟩
  have k1 := b1.size
  have RA := (R.below b1).below ((Below.refl _ _).alloc (Nat.le_refl _) (.cells #[] 5))
  have hbelA : Below w1.heap.size w1 (w1.alloc (.cells #[] 5)) := (Below.refl _ _).alloc (Nat.le_refl _) _
  have O0 : (w1.alloc (.cells #[] 5)).ownsRow w1.heap.size 5 1 (.slice (some ⟨w1.heap.size, 0, none⟩) 0 0) 0 [] := World.ownsRow_made w1 #[] 0 (Nat.le_refl _) (Nat.zero_le _) rfl
  have hszA := hbelA.size
  go_wp2_with (at_builtin; refine wpList_append_row8 rfl (.tmp 30) (.tmp 31) 22 rfl w1.heap.size 5 i0 (.int .u8 0) Try.underlying22 hi hz0 hz1 hz2 rfl _ 0 _ rfl O0 a0 len0 cap0 bs rfl RA (by unfold maxLen; omega) (by omega) hszA ?_)
  intro v2 w2 hown2 hgrow2
  have hbel2 : Below w1.heap.size w1 w2 := hbelA.grown hgrow2 hszA (fun j hj => (O0.lt j hj).1)
  obtain ⟨a3, c3, rfl, R3⟩ := own_row8 hown2 hby
  have b2 : Below w.heap.size w w2 := b1.trans (hbel2.mono k1)
  have k2 := b2.size
  clear hown2 hgrow2 O0 RA hbelA hbel2 hszA b1 k1
  go_wp2_with fail
  refine (load_ok a3 len0 c3 bs w2 R3 (by omega)).mono ?_
  rintro e w3 ⟨b, g, rfl, H3⟩
  obtain ⟨lb, lg, o3, m3⟩ := H3.out
  have b3 : Below w.heap.size w w3 := o3.below b2 (by simp) k2
  have hBb : w.heap.size ≤ b := by omega
  have hBg : w.heap.size ≤ g := by omega
  clear H3 o3 R3 b2 k2 lb lg R hi hz0 hz1 hz2 hby
  go_wp2_with fail
  go_loopw [6, 9, 10, 11, 12, 13, 14] (fun _ cl ci _ _ _ _ wr => ∃ (i L : Nat) (s : Ms), i ≤ 200 ∧ ci = .int .i64 ((i : Nat) : Int) ∧ cl = .int .u32 ((L : Nat) : Int) ∧ L ≤ vz s.bs ∧ s.t ≤ 30 * (i : Int) ∧ MR wr b g len0 s ∧ Below w.heap.size w wr) (fun _ _ ci _ _ _ _ _ => 200 - (intOf ci).toNat)
  case atStart => exact ⟨0, 0, _, by omega, rfl, rfl, Nat.zero_le _, Int.le_refl _, m3, b3⟩
  case round =>
    clear m3 b3
    obtain ⟨i, L, s, hi, rfl, rfl, hL, hT, M, B⟩ := hrel
    by_cases hlt : i < len2 ∧ i < 200
    · obtain ⟨q, off, rfl, hq, hcells⟩ := hz (by omega)
      obtain ⟨hc0, hx1⟩ := hcells i hlt.1
      have d1 : decide ((i : Int) < (len2 : Int)) = true := by simp; omega
      have d2 : decide ((i : Int) < 200) = true := by simp; omega
      obtain ⟨x, hx⟩ : ∃ x, z i = x := ⟨_, rfl⟩
      rw [hx] at hc0 hx1
      have HZ : Hid (_) := hc0
      have lt1 := hlt.1
      have lt2 := hlt.2
      clear hz hcells hc0 hx hlt
      go_wp2_with fail
      refine (on_any b g len0 s wr M).mono ?_
      rintro e w4 ⟨rfl, o4, m4⟩
      have b4 : Below w.heap.size w w4 := byOff B o4 (by simp; omega) (Nat.le_refl _)
      have hcell := (b4.cell (p := ⟨q, off + i, none⟩) hq).trans HZ.out
      clear M B o4
      by_cases hx0 : 0 ≤ x
      · have dx : decide ((0 : Int) ≤ x) = true := by simpa using hx0
        obtain ⟨l, hl, hl20⟩ : ∃ l : Nat, x.tmod 20 = (l : Int) ∧ l < 20 := by
          have e1 := Int.tmod_eq_emod_of_nonneg (b := 20) hx0
          refine ⟨(x % 20).toNat, ?_, ?_⟩ <;> omega
        go_wp2_with fail
        refine (arm_any b g len0 _ (l : Nat) w4 m4 (by omega)).mono ?_
        rintro e w5 ⟨rfl, o5, m5⟩
        have b5 : Below w.heap.size w w5 := byOff b4 o5 (by simp; omega) (Nat.le_refl _)
        rw [show arE ((l : Nat) : Int) = 0 from if_neg (by omega)]
        rw [show arS { s with off := false, ar := false } ((l : Nat) : Int) = ⟨s.bs, false, true, (l : Nat), s.t⟩ from if_neg (by omega)] at m5
        clear m4 b4 o5 hcell hl
        obtain ⟨s5, hs5⟩ : ∃ s5 : Ms, s5 = ⟨s.bs, false, true, (l : Nat), s.t⟩ := ⟨_, rfl⟩
        rw [← hs5] at m5
        have f1 : s5.off = false := by rw [hs5]
        have f2 : x < 0 → s5.ar = false := fun h => by omega
        have f3 : L ≤ vz s5.bs := by rw [hs5]; exact hL
        have f4 : s5.t ≤ 30 * (i : Int) := by rw [hs5]; exact hT
        clear hs5 hL hT
        have lb5 := m5.lt
        have lg5 := m5.lg
        have s5z := b5.size
        have q6 := open_go b g len0 mx s5 w5 m5 h1 hm0 f1 (by omega)
        have hz5 : Bz s5.bs := fun j hj => m5.byte j (by omega)
        have P := mend_pure (n := len0) h1 f1 m5.l0 hz5
        obtain ⟨E, hE⟩ : ∃ E, sqE len0 (mend s5.bs) s5 = E := ⟨_, rfl⟩
        obtain ⟨S, hS⟩ : ∃ S, sqS len0 (mend s5.bs) s5 = S := ⟨_, rfl⟩
        simp only [hE, hS] at q6 P
        clear hE hS m5 hz5
        obtain ⟨c, hcd⟩ : ∃ c, w5.heap.size = c := ⟨_, rfl⟩
        simp only [hcd] at q6 lb5 lg5 s5z
        clear hcd
        go_wp2_with fail
        refine q6.mono ?_
        rintro e w6 ⟨p, rfl, H6⟩
        obtain ⟨o6, m6, c6, d6⟩ := H6.out
        have b6 : Below w.heap.size w w6 := byOff b5 o6 (by simp; omega) (Nat.le_refl _)
        have St0 : Std w6 c b mx S p x E := by
          rcases P with ⟨e0, _, g1, g2, _⟩ | ⟨e0, _, g1, g2, _⟩
          · obtain ⟨hp, hc⟩ := c6 e0
            exact .inl ⟨e0, hp, hc, g1, fun h => g2.trans (f2 h)⟩
          · refine .inr (.inr ⟨e0, g1, ?_⟩)
            by_cases h : x < 0
            · rw [f2 h] at g2
              simp at g2
            · omega
        have L0 : L ≤ vz S.bs := by rcases P with ⟨_, e1, _⟩ | ⟨_, e1, _⟩ <;> omega
        have T0 : S.t ≤ 30 * (i : Int) + 6 := by rcases P with ⟨_, _, _, _, e1⟩ | ⟨_, _, _, _, e1⟩ <;> omega
        clear q6 P H6 o6 c6 d6 b5 f1 f2 f3 f4
        go_wp2_with fail
        go_loopw [6, 9, 12, 13, 14] (fun _ cl ce ck _ wr => ∃ (k L : Nat) (s : Ms) (E : Int), k ≤ 4 ∧ ck = .int .i64 ((k : Nat) : Int) ∧ cl = .int .u32 ((L : Nat) : Int) ∧ ce = .int .i64 E ∧ L ≤ vz s.bs ∧ s.t ≤ 30 * (i : Int) + 6 + 6 * (k : Int) ∧ MR wr b g len0 s ∧ Below w.heap.size w wr ∧ Std wr c b mx s p x E) (fun _ _ _ ck _ _ => 4 - (intOf ck).toNat)
        case atStart => exact ⟨0, L, S, E, by omega, rfl, rfl, rfl, L0, by omega, m6, b6, St0⟩
        case round =>
          clear m6 b6 St0 L0 T0
          obtain ⟨k, L, s, E, hk, rfl, rfl, rfl, hL, hT, M, B, St⟩ := hrel
          rcases St with ⟨rfl, rfl, C, ho, har⟩ | ⟨rfl, rfl, C, hfull⟩ | ⟨rfl, ho, hx0'⟩
          · by_cases hk4 : k < 4
            · have hzz : Bz s.bs := fun j hj => M.byte j (by omega)
              have hvl := vz_lt hzz
              by_cases hf : mx ≤ vz s.bs
              · have q7 := next_full c b g len0 mx s.bs s wr M C hzz ho hf
                have H : Hid (_) := And.intro hL (And.intro M (And.intro B (And.intro C hf)))
                clear M C hL B hzz
                go_wp2_with fail
                refine q7.mono ?_
                rintro e w' ⟨rfl, hw⟩
                rw [hw]
                clear hw q7
                go_wp2_with fail
                go_roundw
                case rel => exact ⟨k + 1, L, s, 80, by omega, by go_num, rfl, rfl, H.out.1, by omega, H.out.2.1, H.out.2.2.1, .inr (.inl ⟨rfl, rfl, H.out.2.2.2.1, H.out.2.2.2.2⟩)⟩
                case measure => simp [intOf] <;> omega
              · have q7 := next_go c b g len0 mx s wr M C (by omega) (by omega) h1 hmx ho (by omega) (by omega)
                have P := go_pure (n := len0) h1 ho M.l0 (by omega)
                obtain ⟨E, hE⟩ : ∃ E, sqE len0 (six (tg s.bs) (vz s.bs + 1)) s = E := ⟨_, rfl⟩
                obtain ⟨S, hS⟩ : ∃ S, sqS len0 (six (tg s.bs) (vz s.bs + 1)) s = S := ⟨_, rfl⟩
                simp only [hE, hS] at q7 P
                clear hE hS M C
                rcases P with ⟨rfl, e1, g1, g2, g3⟩ | ⟨rfl, e1, g1, g2, g3⟩
                · rw [if_pos rfl] at q7
                  go_wp2_with fail
                  refine q7.mono ?_
                  rintro e w7 ⟨rfl, o7, m7, c7, _⟩
                  have C7 := c7 trivial
                  have b7 : Below w.heap.size w w7 := byOff B o7 (by simp; omega) (Nat.le_refl _)
                  have q8 := value_z c b mx S.bs false w7 C7 (fun j hj => m7.byte j (by omega))
                  rw [e1] at q8
                  have H : Hid (_) := And.intro e1 (And.intro m7 (And.intro b7 (And.intro C7 (And.intro g1 (fun h => g2.trans (har h))))))
                  obtain ⟨V, hV⟩ : ∃ V, vz s.bs = V := ⟨_, rfl⟩
                  rw [hV] at hL hf hvl H q8 ⊢
                  have hT2 : S.t ≤ 30 * (i : Int) + 6 + 6 * ((k + 1 : Nat) : Int) := by omega
                  have n1 : ¬ V + 1 ≤ L := by omega
                  have n2 : ¬ mx < V + 1 := by omega
                  have n3 : ¬ ((V + 1 : Nat) : Int) ≤ (L : Int) := by omega
                  have n4 : ¬ (mx : Int) < ((V + 1 : Nat) : Int) := by omega
                  have HT : Hid (_) := hT2
                  clear q7 c7 C7 m7 b7 o7 e1 g1 g2 g3 B har hV hzz hT2 hT
                  obtain ⟨U, hU⟩ : ∃ U, V + 1 = U := ⟨_, rfl⟩
                  rw [hU] at n1 n2 n3 n4 H q8 ⊢
                  clear hU hf hL hvl V
                  go_wp2_with (go_at_call 16; refine q8.mono ?_; rintro e w' ⟨rfl, hw⟩; rw [hw]; clear hw)
                  go_roundw
                  case rel => exact ⟨k + 1, U, S, 0, by omega, by go_num, rfl, rfl, Nat.le_of_eq H.out.1.symm, HT.out, H.out.2.1, H.out.2.2.1, .inl ⟨rfl, rfl, H.out.2.2.2⟩⟩
                  case measure => simp [intOf] <;> omega
                · rw [if_neg (by omega)] at q7
                  go_wp2_with fail
                  refine q7.mono ?_
                  rintro e w7 ⟨rfl, o7, m7, _, _⟩
                  have b7 : Below w.heap.size w w7 := byOff B o7 (by simp; omega) (Nat.le_refl _)
                  have hx2 : 0 ≤ x := by
                    by_cases h : x < 0
                    · rw [har h] at g2
                      simp at g2
                    · omega
                  have hT2 : S.t ≤ 30 * (i : Int) + 6 + 6 * ((k + 1 : Nat) : Int) := by omega
                  have H : Hid (_) := And.intro (show L ≤ vz S.bs by omega) (And.intro hT2 (And.intro m7 (And.intro b7 (And.intro g1 hx2))))
                  clear q7 m7 b7 o7 e1 g1 g2 g3 B har hzz hT2 hT hL hf hvl hx2
                  go_wp2_with fail
                  go_roundw
                  case rel => exact ⟨k + 1, L, S, 70, by omega, by go_num, rfl, rfl, H.out.1, H.out.2.1, H.out.2.2.1, H.out.2.2.2.1, .inr (.inr ⟨rfl, H.out.2.2.2.2⟩)⟩
                  case measure => simp [intOf] <;> omega
            · have H : Hid (_) := And.intro hL (And.intro (show s.t ≤ 30 * ((i + 1 : Nat) : Int) by omega) (And.intro M B))
              clear hL hT M B C ho har
              go_wp2_with fail
              go_roundw
              case rel => exact ⟨i + 1, L, s, by omega, by go_num, rfl, H.out⟩
              case measure => simp [intOf] <;> omega
          · have hzz : Bz s.bs := fun j hj => M.byte j (by omega)
            have q8 := value_z c b mx s.bs false wr C hzz
            obtain ⟨V, hV⟩ : ∃ V, vz s.bs = V := ⟨_, rfl⟩
            have H : Hid (_) := And.intro hL (And.intro (show s.t ≤ 30 * ((i + 1 : Nat) : Int) by omega) (And.intro M B))
            rw [hV] at q8 hfull hL
            have n1 : ¬ V < mx := by omega
            have n2 : ¬ V < L := by omega
            clear hV hT M B C hzz hfull hL
            go_wp2_with (go_at_call 16; refine q8.mono ?_; rintro e w' ⟨rfl, hw⟩; rw [hw]; clear hw)
            go_roundw
            case rel => exact ⟨i + 1, L, s, by omega, by go_num, rfl, H.out⟩
            case measure => simp [intOf] <;> omega
          · have q9 := off_any b g len0 s wr M
            rw [ho] at q9
            have hcell2 := (B.cell (p := ⟨q, off + i, none⟩) hq).trans HZ.out
            have H : Hid (_) := And.intro hL (And.intro (show s.t ≤ 30 * ((i + 1 : Nat) : Int) by omega) (And.intro M B))
            clear hL hT M B ho
            go_wp2_with (go_at_call 15; refine q9.mono ?_; rintro e w' ⟨rfl, hw⟩; rw [hw]; clear hw)
            go_roundw
            case rel => exact ⟨i + 1, L, s, by omega, by go_num, rfl, H.out⟩
            case measure => simp [intOf] <;> omega
      · have dx : decide ((0 : Int) ≤ x) = false := by simpa using hx0
        have b5 := b4
        have m5 := m4
        obtain ⟨s5, hs5⟩ : ∃ s5 : Ms, s5 = { s with off := false, ar := false } := ⟨_, rfl⟩
        rw [← hs5] at m5
        have f1 : s5.off = false := by rw [hs5]
        have f2 : x < 0 → s5.ar = false := fun h => by rw [hs5]
        have f3 : L ≤ vz s5.bs := by rw [hs5]; exact hL
        have f4 : s5.t ≤ 30 * (i : Int) := by rw [hs5]; exact hT
        clear hs5 hL hT m4 b4
        go_wp2_with fail
        have lb5 := m5.lt
        have lg5 := m5.lg
        have s5z := b5.size
        have q6 := open_go b g len0 mx s5 w4 m5 h1 hm0 f1 (by omega)
        have hz5 : Bz s5.bs := fun j hj => m5.byte j (by omega)
        have P := mend_pure (n := len0) h1 f1 m5.l0 hz5
        obtain ⟨E, hE⟩ : ∃ E, sqE len0 (mend s5.bs) s5 = E := ⟨_, rfl⟩
        obtain ⟨S, hS⟩ : ∃ S, sqS len0 (mend s5.bs) s5 = S := ⟨_, rfl⟩
        simp only [hE, hS] at q6 P
        clear hE hS m5 hz5
        obtain ⟨c, hcd⟩ : ∃ c, w4.heap.size = c := ⟨_, rfl⟩
        simp only [hcd] at q6 lb5 lg5 s5z
        clear hcd
        go_wp2_with fail
        refine q6.mono ?_
        rintro e w6 ⟨p, rfl, H6⟩
        obtain ⟨o6, m6, c6, d6⟩ := H6.out
        have b6 : Below w.heap.size w w6 := byOff b5 o6 (by simp; omega) (Nat.le_refl _)
        have St0 : Std w6 c b mx S p x E := by
          rcases P with ⟨e0, _, g1, g2, _⟩ | ⟨e0, _, g1, g2, _⟩
          · obtain ⟨hp, hc⟩ := c6 e0
            exact .inl ⟨e0, hp, hc, g1, fun h => g2.trans (f2 h)⟩
          · refine .inr (.inr ⟨e0, g1, ?_⟩)
            by_cases h : x < 0
            · rw [f2 h] at g2
              simp at g2
            · omega
        have L0 : L ≤ vz S.bs := by rcases P with ⟨_, e1, _⟩ | ⟨_, e1, _⟩ <;> omega
        have T0 : S.t ≤ 30 * (i : Int) + 6 := by rcases P with ⟨_, _, _, _, e1⟩ | ⟨_, _, _, _, e1⟩ <;> omega
        clear q6 P H6 o6 c6 d6 b5 f1 f2 f3 f4
        go_wp2_with fail
        go_loopw [6, 9, 12, 13, 14] (fun _ cl ce ck _ wr => ∃ (k L : Nat) (s : Ms) (E : Int), k ≤ 4 ∧ ck = .int .i64 ((k : Nat) : Int) ∧ cl = .int .u32 ((L : Nat) : Int) ∧ ce = .int .i64 E ∧ L ≤ vz s.bs ∧ s.t ≤ 30 * (i : Int) + 6 + 6 * (k : Int) ∧ MR wr b g len0 s ∧ Below w.heap.size w wr ∧ Std wr c b mx s p x E) (fun _ _ _ ck _ _ => 4 - (intOf ck).toNat)
        case atStart => exact ⟨0, L, S, E, by omega, rfl, rfl, rfl, L0, by omega, m6, b6, St0⟩
        case round =>
          clear m6 b6 St0 L0 T0
          obtain ⟨k, L, s, E, hk, rfl, rfl, rfl, hL, hT, M, B, St⟩ := hrel
          rcases St with ⟨rfl, rfl, C, ho, har⟩ | ⟨rfl, rfl, C, hfull⟩ | ⟨rfl, ho, hx0'⟩
          · by_cases hk4 : k < 4
            · have hzz : Bz s.bs := fun j hj => M.byte j (by omega)
              have hvl := vz_lt hzz
              by_cases hf : mx ≤ vz s.bs
              · have q7 := next_full c b g len0 mx s.bs s wr M C hzz ho hf
                have H : Hid (_) := And.intro hL (And.intro M (And.intro B (And.intro C hf)))
                clear M C hL B hzz
                go_wp2_with fail
                refine q7.mono ?_
                rintro e w' ⟨rfl, hw⟩
                rw [hw]
                clear hw q7
                go_wp2_with fail
                go_roundw
                case rel => exact ⟨k + 1, L, s, 80, by omega, by go_num, rfl, rfl, H.out.1, by omega, H.out.2.1, H.out.2.2.1, .inr (.inl ⟨rfl, rfl, H.out.2.2.2.1, H.out.2.2.2.2⟩)⟩
                case measure => simp [intOf] <;> omega
              · have q7 := next_go c b g len0 mx s wr M C (by omega) (by omega) h1 hmx ho (by omega) (by omega)
                have P := go_pure (n := len0) h1 ho M.l0 (by omega)
                obtain ⟨E, hE⟩ : ∃ E, sqE len0 (six (tg s.bs) (vz s.bs + 1)) s = E := ⟨_, rfl⟩
                obtain ⟨S, hS⟩ : ∃ S, sqS len0 (six (tg s.bs) (vz s.bs + 1)) s = S := ⟨_, rfl⟩
                simp only [hE, hS] at q7 P
                clear hE hS M C
                rcases P with ⟨rfl, e1, g1, g2, g3⟩ | ⟨rfl, e1, g1, g2, g3⟩
                · rw [if_pos rfl] at q7
                  go_wp2_with fail
                  refine q7.mono ?_
                  rintro e w7 ⟨rfl, o7, m7, c7, _⟩
                  have C7 := c7 trivial
                  have b7 : Below w.heap.size w w7 := byOff B o7 (by simp; omega) (Nat.le_refl _)
                  have q8 := value_z c b mx S.bs false w7 C7 (fun j hj => m7.byte j (by omega))
                  rw [e1] at q8
                  have H : Hid (_) := And.intro e1 (And.intro m7 (And.intro b7 (And.intro C7 (And.intro g1 (fun h => g2.trans (har h))))))
                  obtain ⟨V, hV⟩ : ∃ V, vz s.bs = V := ⟨_, rfl⟩
                  rw [hV] at hL hf hvl H q8 ⊢
                  have hT2 : S.t ≤ 30 * (i : Int) + 6 + 6 * ((k + 1 : Nat) : Int) := by omega
                  have n1 : ¬ V + 1 ≤ L := by omega
                  have n2 : ¬ mx < V + 1 := by omega
                  have n3 : ¬ ((V + 1 : Nat) : Int) ≤ (L : Int) := by omega
                  have n4 : ¬ (mx : Int) < ((V + 1 : Nat) : Int) := by omega
                  have HT : Hid (_) := hT2
                  clear q7 c7 C7 m7 b7 o7 e1 g1 g2 g3 B har hV hzz hT2 hT
                  obtain ⟨U, hU⟩ : ∃ U, V + 1 = U := ⟨_, rfl⟩
                  rw [hU] at n1 n2 n3 n4 H q8 ⊢
                  clear hU hf hL hvl V
                  go_wp2_with (go_at_call 16; refine q8.mono ?_; rintro e w' ⟨rfl, hw⟩; rw [hw]; clear hw)
                  go_roundw
                  case rel => exact ⟨k + 1, U, S, 0, by omega, by go_num, rfl, rfl, Nat.le_of_eq H.out.1.symm, HT.out, H.out.2.1, H.out.2.2.1, .inl ⟨rfl, rfl, H.out.2.2.2⟩⟩
                  case measure => simp [intOf] <;> omega
                · rw [if_neg (by omega)] at q7
                  go_wp2_with fail
                  refine q7.mono ?_
                  rintro e w7 ⟨rfl, o7, m7, _, _⟩
                  have b7 : Below w.heap.size w w7 := byOff B o7 (by simp; omega) (Nat.le_refl _)
                  have hx2 : 0 ≤ x := by
                    by_cases h : x < 0
                    · rw [har h] at g2
                      simp at g2
                    · omega
                  have hT2 : S.t ≤ 30 * (i : Int) + 6 + 6 * ((k + 1 : Nat) : Int) := by omega
                  have H : Hid (_) := And.intro (show L ≤ vz S.bs by omega) (And.intro hT2 (And.intro m7 (And.intro b7 (And.intro g1 hx2))))
                  clear q7 m7 b7 o7 e1 g1 g2 g3 B har hzz hT2 hT hL hf hvl hx2
                  go_wp2_with fail
                  go_roundw
                  case rel => exact ⟨k + 1, L, S, 70, by omega, by go_num, rfl, rfl, H.out.1, H.out.2.1, H.out.2.2.1, H.out.2.2.2.1, .inr (.inr ⟨rfl, H.out.2.2.2.2⟩)⟩
                  case measure => simp [intOf] <;> omega
            · have H : Hid (_) := And.intro hL (And.intro (show s.t ≤ 30 * ((i + 1 : Nat) : Int) by omega) (And.intro M B))
              clear hL hT M B C ho har
              go_wp2_with fail
              go_roundw
              case rel => exact ⟨i + 1, L, s, by omega, by go_num, rfl, H.out⟩
              case measure => simp [intOf] <;> omega
          · have hzz : Bz s.bs := fun j hj => M.byte j (by omega)
            have q8 := value_z c b mx s.bs false wr C hzz
            obtain ⟨V, hV⟩ : ∃ V, vz s.bs = V := ⟨_, rfl⟩
            have H : Hid (_) := And.intro hL (And.intro (show s.t ≤ 30 * ((i + 1 : Nat) : Int) by omega) (And.intro M B))
            rw [hV] at q8 hfull hL
            have n1 : ¬ V < mx := by omega
            have n2 : ¬ V < L := by omega
            clear hV hT M B C hzz hfull hL
            go_wp2_with (go_at_call 16; refine q8.mono ?_; rintro e w' ⟨rfl, hw⟩; rw [hw]; clear hw)
            go_roundw
            case rel => exact ⟨i + 1, L, s, by omega, by go_num, rfl, H.out⟩
            case measure => simp [intOf] <;> omega
          · omega
    · by_cases hl2 : i < len2
      · have d1 : decide ((i : Int) < (len2 : Int)) = true := by simp; omega
        have d2 : decide ((i : Int) < 200) = false := by simp; omega
        have HB : Hid (_) := B
        clear M B hL hT
        go_wp2_with fail
        go_ret
        exact ⟨rfl, HB.out⟩
      · have d1 : decide ((i : Int) < (len2 : Int)) = false := by simp; omega
        have HB : Hid (_) := B
        clear M B hL hT
        go_wp2_with fail
        go_ret
        exact ⟨rfl, HB.out⟩
theorem cellRises_walk (a0 : Option Addr) (len0 cap0 : Nat) (z0 : List Int) (a1 : Int) (a2 : Option Addr) (len2 cap2 : Nat) (z2 : List Int) (w : World) (w0 : BRow .u8 w a0 len0 cap0 z0) (w1 : (Lit.int .u32 a1).wf = true) (w2 : BRow .i64 w a2 len2 cap2 z2) :
    Calls Try.prog 4 #[.slice a0 len0 cap0, .int .u32 a1, .slice a2 len2 cap2] w fun e w' => e = .returned (.bool true) ∧ Below w.heap.size w w' := by
  have hr := bounds_u32 w1
  obtain ⟨mx, rfl⟩ := Int.eq_ofNat_of_zero_le hr.1
  by_cases h : len0 < 10 ∨ 100 < len0 ∨ mx = 0
  · exact rises_out a0 len0 cap0 mx _ w h
  · exact rises_good a0 len0 cap0 _ mx a2 len2 cap2 (fun i => z2.getD i 0) w w0.row8 (by omega) (by omega) (by omega) (by omega) (fun hp => by
      obtain ⟨q, off, e, hq, hc⟩ := w2.nums hp
      exact ⟨q, off, e, hq, fun i hi => ⟨(hc i hi).1, (bounds_i64 (hc i hi).2).2⟩⟩)

end Go.Proofs.Ytibnmbindfjnlaa
