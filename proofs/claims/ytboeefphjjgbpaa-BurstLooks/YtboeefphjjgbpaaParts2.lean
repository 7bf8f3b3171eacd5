/- The document's Parts, First, Last, Span; lists of places held against each other. -/
import Derived.Test.YtboeefphjjgbpaaParts
namespace Go.Proofs.Ytboeefphjjgbpaa
open Go.RowKit
set_option maxRecDepth 100000 in
set_option maxHeartbeats 1000000 in
theorem refParts_row (a0 : Option Addr) (len cap : Nat) (bs : Nat → Nat) (w : World) (hr : Row8 w a0 len cap bs) (hlen : len ≤ 100000) :
    Calls Try.prog 12 #[.slice a0 len cap] w fun e w' => ∃ v, e = .returned v ∧ Hid (Below w.heap.size w w' ∧ w'.ownsRow w.heap.size 3 1 v (PM.PT (PM.fb bs) (8 * len)).length (CL (PM.PT (PM.fb bs) (8 * len)))) := by
  obtain ⟨iI, hI, hI0, hI1, hI2⟩ := info_parts infoI
  go_enter Try.func12, Try.ntmps12
  go_wp2_with fail
  go_loopw [3, 4, 5] (fun v c _ wr => ∃ i, i ≤ len ∧ c = .int .i64 ((i : Nat) : Int) ∧ wr.ownsRow w.heap.size 3 1 v (PM.PT (PM.fb bs) (8 * i)).length (CL (PM.PT (PM.fb bs) (8 * i))) ∧ Below w.heap.size w wr) (fun _ c _ _ => len - (intOf c).toNat)
  case atStart => exact ⟨0, by omega, rfl, World.ownsRow_nil _ _ _ _, Below.refl _ _⟩
  case round =>
    obtain ⟨i, hi, rfl, hown, hbel⟩ := hrel
    by_cases hlt : i < len
    · obtain ⟨b, off, rfl, hb, hc⟩ := hr.plain (by omega)
      obtain ⟨hb8, hci⟩ := hc i hlt
      have HO : Hid (_) := And.intro hown hbel
      clear hown hbel hc hr
      go_wp2_with fail
      go_loopw [3, 5] (fun v c wr => ∃ q, q ≤ 8 ∧ c = .int .i64 ((q : Nat) : Int) ∧ wr.ownsRow w.heap.size 3 1 v (PM.PT (PM.fb bs) (8 * i + q)).length (CL (PM.PT (PM.fb bs) (8 * i + q))) ∧ Below w.heap.size w wr) (fun _ c _ => 8 - (intOf c).toNat)
      case atStart => exact ⟨0, by omega, rfl, HO.out.1, HO.out.2⟩
      case round =>
        clear HO
        obtain ⟨q, hq, rfl, hown, hbel⟩ := hrel
        have hcell := (hbel.cell (p := ⟨b, off + i, none⟩) hb).trans hci
        by_cases hlt2 : q < 8
        · have hbit := bit_fin ⟨bs i, hb8⟩ ⟨q, hlt2⟩
          simp only at hbit
          have hfb := PM.fb_at bs i q hlt2
          rw [← hfb] at hbit
          clear hfb
          have hdq : decide ((q : Int) < 8) = true := by simp; omega
          cases hB : PM.fb bs (8 * i + q)
          · rw [hB] at hbit
            have HP : Hid (PM.PT (PM.fb bs) (8 * i + (q + 1)) = PM.PT (PM.fb bs) (8 * i + q)) := PM.PT_false hB
            have HO : Hid (_) := And.intro hown hbel
            clear hown hbel hB
            go_wp2_with fail
            go_quiet (fail)
            go_wp2_with fail
            go_roundw
            case rel => exact ⟨q + 1, by omega, by go_num, by rw [HP.out]; exact HO.out.1, below_drewN HO.out.2 _⟩
            case measure => simp [intOf] <;> omega
          · rw [hB] at hbit
            have HP : Hid (PM.PT (PM.fb bs) (8 * i + (q + 1)) = PM.PT (PM.fb bs) (8 * i + q) ++ [8 * i + q]) := PM.PT_true hB
            have hlen2 : (PM.PT (PM.fb bs) (8 * i + q)).length ≤ 8 * i + q := by rw [PM.PT_length]; exact PM.cnt_le _ _
            obtain ⟨p, hp⟩ : ∃ p, p = 8 * i + q := ⟨_, rfl⟩
            have hp1 : 8 * (i : Int) + (q : Int) = (p : Int) := by omega
            obtain ⟨N, hN⟩ : ∃ N, N = (PM.PT (PM.fb bs) (8 * i + q)).length := ⟨_, rfl⟩
            rw [← hN] at hown hlen2
            rw [← hp] at HP hown hN hlen2
            have hpl : p ≤ 10000000 := by omega
            have HN : Hid (N = (PM.PT (PM.fb bs) p).length ∧ p = 8 * i + q) := ⟨hN, hp⟩
            have HO : Hid (wr.ownsRow w.heap.size 3 1 u3 N (CL (PM.PT (PM.fb bs) p)) ∧ Below w.heap.size w wr) := And.intro hown hbel
            clear hown hbel hB hN hp
            go_wp2_with fail
            go_quiet (fail)
            have hsz : w.heap.size ≤ (wr.drewN nq).heap.size := by simpa using HO.out.2.size
            have hown2 : ((wr.drewN nq).alloc (.cells #[.int .i64 (p : Int)] 3)).ownsRow w.heap.size 3 1 u3 N (CL (PM.PT (PM.fb bs) p)) := World.ownsRow.alloc (w := wr.drewN nq) HO.out.1 (.cells #[.int .i64 (p : Int)] 3)
            have hbel2 := (below_drewN HO.out.2 nq).alloc hsz (.cells #[.int .i64 (p : Int)] 3)
            have hsz2 : w.heap.size ≤ ((wr.drewN nq).alloc (.cells #[.int .i64 (p : Int)] 3)).heap.size := hbel2.size
            have hnew := new_one (wr.drewN nq) (.int .i64 (p : Int)) 3
            clear hcell
            generalize wr.drewN nq = w2 at *
            go_wp2_with (at_builtin; refine wpList_append_own _ rfl (.tmp 24) (.tmp 29) 24 rfl w.heap.size 3 iI (.int .i64 0) 1 8 Try.underlying24 hI hI0 hI1 hI2 rfl (by decide) _ N _ rfl hown2 ⟨w2.heap.size, 0, none⟩ 1 1 [.int .i64 (p : Int)] rfl rfl hnew (by intro u hu; simp at hu; subst hu; rfl) (by unfold maxLen; omega) (by omega) hsz2 ?_)
            intro v3 w3 hown3 hgrow3 _
            have hbel3 : Below w.heap.size w w3 := hbel2.grown hgrow3 hsz2 (fun j hj => (hown2.lt j hj).1)
            rw [CL_snoc] at hown3
            have HQ : Hid (w3.ownsRow w.heap.size 3 1 v3 (N + 1) (CL (PM.PT (PM.fb bs) p ++ [p])) ∧ Below w.heap.size w w3) := ⟨hown3, hbel3⟩
            clear hown3 hbel3 hgrow3 hown2 hbel2 hsz hsz2 hnew
            go_wp2_with fail
            go_roundw
            case rel =>
              refine ⟨q + 1, by omega, by go_num, ?_, HQ.out.2⟩
              rw [HP.out, List.length_append, ← HN.out.1]
              exact HQ.out.1
            case measure => simp [intOf] <;> omega
        · obtain rfl : q = 8 := by omega
          have HO : Hid (_) := And.intro hown hbel
          clear hown hbel
          go_wp2_with fail
          go_roundw
          case rel => exact ⟨i + 1, by omega, by go_num, HO.out.1, HO.out.2⟩
          case measure => simp [intOf] <;> omega
    · obtain rfl : i = len := by omega
      have HO : Hid (_) := And.intro hbel hown
      clear hown hbel hr
      go_wp2_with fail
      go_ret
      exact ⟨_, rfl, HO⟩
set_option maxHeartbeats 400000 in
theorem refFirst_row (a0 : Option Addr) (len cap : Nat) (bs : Nat → Nat) (w : World) (hr : Row8 w a0 len cap bs) (hlen : len ≤ 100000) :
    Calls Try.prog 14 #[.slice a0 len cap] w fun e w' => ∃ r : Int, e = .returned (.int .i64 r) ∧ Below w.heap.size w w' ∧ PM.IsFirst (PM.fb bs) (8 * len) r := by
  go_enter Try.func14, Try.ntmps14
  go_wp2_with fail
  refine (refParts_row a0 len cap bs w hr hlen).mono ?_
  rintro e w1 ⟨v, rfl, H⟩
  obtain ⟨a1, c1, rfl, R⟩ := own_rowL H.out.2
  have HB : Hid (Below w.heap.size w w1) := H.out.1
  clear H hr
  rcases PM.PT_first (PM.fb bs) (8 * len) with ⟨e, h⟩ | ⟨j, e, h⟩
  · have HF : Hid (PM.IsFirst (PM.fb bs) (8 * len) (-1)) := h
    rw [e]
    clear R e h
    go_wp2_with fail
    go_ret
    exact ⟨_, rfl, HB.out, HF.out⟩
  · have HF : Hid (PM.IsFirst (PM.fb bs) (8 * len) j) := h
    obtain ⟨hl, hg⟩ := List.getElem?_eq_some_iff.1 e
    obtain ⟨b, off, rfl, hc, _⟩ := R 0 hl
    rw [hg, Nat.add_zero] at hc
    have hl0 : ¬ (PM.PT (PM.fb bs) (8 * len)).length = 0 := by omega
    have hlb : (PM.PT (PM.fb bs) (8 * len)).length ≤ 8 * len := by rw [PM.PT_length]; exact PM.cnt_le _ _
    clear R e h hg
    generalize (PM.PT (PM.fb bs) (8 * len)).length = n at *
    have hn0 : ((n : Int) == 0) = false := by simp; omega
    go_wp2_with fail
    go_ret
    exact ⟨_, rfl, HB.out, HF.out⟩
set_option maxHeartbeats 400000 in
theorem refLast_row (a0 : Option Addr) (len cap : Nat) (bs : Nat → Nat) (w : World) (hr : Row8 w a0 len cap bs) (hlen : len ≤ 100000) :
    Calls Try.prog 16 #[.slice a0 len cap] w fun e w' => ∃ r : Int, e = .returned (.int .i64 r) ∧ Below w.heap.size w w' ∧ PM.IsLast (PM.fb bs) (8 * len) r := by
  go_enter Try.func16, Try.ntmps16
  go_wp2_with fail
  refine (refParts_row a0 len cap bs w hr hlen).mono ?_
  rintro e w1 ⟨v, rfl, H⟩
  obtain ⟨a1, c1, rfl, R⟩ := own_rowL H.out.2
  have HB : Hid (Below w.heap.size w w1) := H.out.1
  clear H hr
  rcases PM.PT_last (PM.fb bs) (8 * len) with ⟨e, h⟩ | ⟨j, e, h⟩
  · have HF : Hid (PM.IsLast (PM.fb bs) (8 * len) (-1)) := h
    rw [e]
    clear R e h
    go_wp2_with fail
    go_ret
    exact ⟨_, rfl, HB.out, HF.out⟩
  · have HF : Hid (PM.IsLast (PM.fb bs) (8 * len) j) := h
    obtain ⟨hl, hg⟩ := List.getElem?_eq_some_iff.1 e
    obtain ⟨b, off, rfl, hc, _⟩ := R _ hl
    rw [hg] at hc
    have hlb : (PM.PT (PM.fb bs) (8 * len)).length ≤ 8 * len := by rw [PM.PT_length]; exact PM.cnt_le _ _
    have hl0 : ¬ (PM.PT (PM.fb bs) (8 * len)).length = 0 := by omega
    clear R e h hg hl
    generalize (PM.PT (PM.fb bs) (8 * len)).length = n at *
    obtain ⟨m, rfl⟩ : ∃ m, n = m + 1 := ⟨n - 1, by omega⟩
    rw [Nat.add_sub_cancel] at hc
    have hm1 : ((m + 1 : Nat) : Int) - 1 = (m : Int) := by omega
    have hn0 : (((m + 1 : Nat) : Int) == 0) = false := by simp; omega
    have hml : (m : Int) < ((m + 1 : Nat) : Int) := by omega
    obtain ⟨n, hn⟩ : ∃ n, n = m + 1 := ⟨_, rfl⟩
    rw [← hn] at hm1 hn0 hml hlb ⊢
    clear hl0 hn
    go_wp2_with fail
    go_ret
    exact ⟨_, rfl, HB.out, HF.out⟩
set_option maxHeartbeats 400000 in
theorem refSpan_row (a0 : Option Addr) (len cap : Nat) (bs : Nat → Nat) (w : World) (hr : Row8 w a0 len cap bs) (hlen : len ≤ 100000) :
    Calls Try.prog 18 #[.slice a0 len cap] w fun e w' => ∃ r s : Int, e = .returned (.int .i64 (spn r s)) ∧ Below w.heap.size w w' ∧ PM.IsFirst (PM.fb bs) (8 * len) r ∧ PM.IsLast (PM.fb bs) (8 * len) s := by
  go_enter Try.func18, Try.ntmps18
  go_wp2_with fail
  refine (refFirst_row a0 len cap bs w hr hlen).mono ?_
  rintro e w1 ⟨r, rfl, hb1, hF⟩
  have hex : ∃ s, PM.IsLast (PM.fb bs) (8 * len) s := by
    rcases PM.PT_last (PM.fb bs) (8 * len) with ⟨_, h⟩ | ⟨j, _, h⟩
    · exact ⟨_, h⟩
    · exact ⟨_, h⟩
  obtain ⟨s0, hs0⟩ := hex
  have hn := PM.IsFirst.neg hF hs0
  have HF : Hid (PM.IsFirst (PM.fb bs) (8 * len) r ∧ PM.IsLast (PM.fb bs) (8 * len) s0) := ⟨hF, hs0⟩
  have HB : Hid (Below w.heap.size w w1) := hb1
  have hs1 := hb1.size
  have r1 := hr.below hb1
  clear hF hs0 hb1 hr
  by_cases hneg : r < 0
  · clear hn r1
    go_wp2_with fail
    go_ret
    refine ⟨r, s0, ?_, HB.out, HF.out.1, HF.out.2⟩
    rw [show spn r s0 = 0 by unfold spn; rw [if_pos hneg]]
    rfl
  · have h1 := hn.2.1
    have h2 := hn.2.2.1
    have h3 := hn.2.2.2.1
    have h4 := hn.2.2.2.2.1
    clear hn
    go_wp2_with fail
    refine (refLast_row a0 len cap bs w1 r1 hlen).mono ?_
    rintro e w2 ⟨s, rfl, hb2, hs⟩
    obtain rfl := PM.IsLast.one hs HF.out.2
    have r2 := r1.below hb2
    have HB2 : Hid (Below w.heap.size w w2) := below_all HB.out hs1 hb2
    clear hs hb2 r1
    go_wp2_with fail
    refine (refFirst_row a0 len cap bs w2 r2 hlen).mono ?_
    rintro e w3 ⟨r', rfl, hb3, hr'⟩
    obtain rfl := PM.IsFirst.one hr' HF.out.1
    have HB3 : Hid (Below w.heap.size w w3) := below_all HB2.out HB2.out.size hb3
    clear hr' hb3 r2
    go_wp2_with fail
    go_ret
    refine ⟨r', s, ?_, HB3.out, HF.out.1, HF.out.2⟩
    rw [show spn r' s = s - r' + 1 by unfold spn; rw [if_neg (by omega)]]
    rfl
set_option maxHeartbeats 400000 in
theorem equal_same (a1 a2 : Option Addr) (c1 c2 : Nat) (l : List Nat) (w : World) (h1 : RowL w a1 l) (h2 : RowL w a2 l) (hlen : l.length ≤ 1000000000) :
    Calls Try.prog 11 #[.slice a1 l.length c1, .slice a2 l.length c2] w fun e w' => e = .returned (.bool true) ∧ ∃ m, w' = w.drewN m := by
  obtain ⟨n, hn⟩ : ∃ n, n = l.length := ⟨_, rfl⟩
  have HN : Hid (n = l.length) := hn
  rw [← hn] at hlen ⊢
  clear hn
  go_enter Try.func11, Try.ntmps11
  go_wp2_with fail
  go_loopw [4, 5, 13] (fun _ _ c wr => ∃ i m, i ≤ n ∧ c = .int .i64 ((i : Nat) : Int) ∧ wr = w.drewN m) (fun _ _ c _ => n - (intOf c).toNat)
  case atStart => exact ⟨0, 0, by omega, rfl, rfl⟩
  case round =>
    obtain ⟨i, m, hi, rfl, rfl⟩ := hrel
    by_cases hlt : i < n
    · obtain ⟨b1, o1, rfl, q1, _⟩ := h1 i (by rw [← HN.out]; exact hlt)
      obtain ⟨b2, o2, rfl, q2, _⟩ := h2 i (by rw [← HN.out]; exact hlt)
      have e1 : (w.drewN m).cell? ⟨b1, o1 + i, none⟩ = some (.int .i64 ((l[i]'(by rw [← HN.out]; exact hlt) : Nat) : Int)) := q1
      have e2 : (w.drewN m).cell? ⟨b2, o2 + i, none⟩ = some (.int .i64 ((l[i]'(by rw [← HN.out]; exact hlt) : Nat) : Int)) := q2
      clear q1 q2 h1 h2
      generalize l[i]'(by rw [← HN.out]; exact hlt) = x at *
      generalize hwm : w.drewN m = wm at *
      go_wp2_with fail
      go_quiet (fail)
      go_wp2_with fail
      go_roundw
      case rel => exact ⟨i + 1, m + nq, by omega, by go_num, by rw [← hwm, World.drewN_drewN]⟩
      case measure => simp [intOf] <;> omega
    · clear h1 h2
      go_wp2_with fail
      go_ret
      exact ⟨rfl, m, rfl⟩

end Go.Proofs.Ytboeefphjjgbpaa
