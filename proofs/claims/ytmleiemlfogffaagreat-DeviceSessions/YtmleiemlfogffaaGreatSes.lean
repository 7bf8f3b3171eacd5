/- How the sessions rise: the numbers of a memory over wishes, cuts and resets. -/
import Derived.Test.YtmleiemlfogffaaGreatDe
namespace Go.Proofs.YtmleiemlfogffaaGreat
set_option maxRecDepth 100000
open Go.RowKit

theorem nx_vz {mx n : Nat} {s : Ms} (hn : 10 ≤ n) (ho : s.off = false) (hl : 0 ≤ s.l) (hmx : mx < 4294967296) :
    ((nx mx n s.bs false s).e = 0 → (nx mx n s.bs false s).v = vz s.bs + 1 ∧ vz (nx mx n s.bs false s).s.bs = vz s.bs + 1 ∧ vz s.bs < mx) ∧ ((nx mx n s.bs false s).e ≠ 0 → vz (nx mx n s.bs false s).s.bs = vz s.bs) := by
  unfold nx
  rw [if_neg (by simp [ho])]
  by_cases hm : mx ≤ vz s.bs
  · rw [if_pos hm]
    exact ⟨fun e => (by cases e), fun _ => rfl⟩
  · rw [if_neg hm]
    rcases sq_all n (six (tg s.bs) (vz s.bs + 1)) s (fun x hx => (six_in _ _ n (tg_lt _) hn x hx).1) ho hl with ⟨h1, h2, _⟩ | ⟨h1, h2, _, h4⟩
    · rw [if_pos h1]
      refine ⟨fun _ => ⟨rfl, ?_, by omega⟩, fun e => absurd rfl e⟩
      show vz (sqS n (six (tg s.bs) (vz s.bs + 1)) s).bs = _
      rw [h2]
      exact vz_next _ _ (by omega) (by omega)
    · rw [if_neg (by omega)]
      refine ⟨fun e => (by cases e), fun _ => ?_⟩
      show vz (sqS n (six (tg s.bs) (vz s.bs + 1)) s).bs = _
      rw [h2]
      refine vz_cut _ _ _ ?_
      have : (six (tg s.bs) (vz s.bs + 1)).length = 6 := rfl
      omega
theorem opS_vz {mx n : Nat} {s : Ms} (hl : 0 ≤ s.l) (hz : Bz s.bs) : vz (opS mx n s).bs = vz s.bs := by
  unfold opS
  by_cases h1 : mx = 0 ∨ n < 10
  · rw [if_pos h1]
  · rw [if_neg h1]
    by_cases h2 : s.off = true
    · rw [if_pos h2]
    · rw [if_neg h2]
      rcases sq_all n (mend s.bs) s (fun x hx => (mend_in s.bs n (by omega) x hx).1) (by simpa using h2) hl with ⟨_, e, _⟩ | ⟨_, e, _⟩
      · rw [e]
        have := vz_mend s.bs (mend s.bs).length hz
        rwa [List.take_length] at this
      · rw [e]
        exact vz_mend s.bs _ hz
theorem dodd_idle {s : Sd} (h : s.st = 1) : dodd s = s := by
  unfold dodd dbusy
  rw [h]
  rfl
theorem dwish_idle (P : Pm) (mx n : Nat) {s : Sd} (h : s.st = 1) : dwish P mx n s = dbegin P mx n s := by
  unfold dwish
  rw [dodd_idle h, h]
  rfl
theorem ses_begin (P : Pm) (mx n : Nat) {s : Sd} (hn : 10 ≤ n) (ho : s.ms.off = false) (hl : 0 ≤ s.ms.l) (hmx : mx < 4294967296) :
    ((dbegin P mx n s).e = 0 → (dbegin P mx n s).s.ss = vz s.ms.bs + 1 ∧ vz (dbegin P mx n s).s.ms.bs = vz s.ms.bs + 1) ∧ ((dbegin P mx n s).e ≠ 0 → vz (dbegin P mx n s).s.ms.bs = vz s.ms.bs) ∧ (dbegin P mx n s).s.ms.t ≤ s.ms.t + 6 := by
  have hv := nx_vz (mx := mx) hn ho hl hmx
  have ht := nx_t mx n s.ms.bs false s.ms hn hl
  unfold dbegin
  generalize nx mx n s.ms.bs false s.ms = x at *
  by_cases h1 : x.e = 80
  · rw [if_pos h1]
    have hm : (dleave (dlatch { s with ms := x.s } 80) 5).ms = x.s := by show (dlatch { s with ms := x.s } 80).ms = x.s; rw [dlatch_ms]
    refine ⟨fun e => (by cases e), fun _ => ?_, ?_⟩
    · show vz (dleave (dlatch { s with ms := x.s } 80) 5).ms.bs = _
      rw [hm]; exact hv.2 (by omega)
    · show (dleave (dlatch { s with ms := x.s } 80) 5).ms.t ≤ _
      rw [hm]; exact ht
  · rw [if_neg h1]
    by_cases h2 : x.e = 0
    · rw [if_neg (by omega)]
      exact ⟨fun _ => ⟨(hv.1 h2).1, (hv.1 h2).2.1⟩, fun e => absurd rfl e, ht⟩
    · rw [if_pos h2]
      exact ⟨fun e => absurd e h2, fun _ => hv.2 h2, ht⟩
theorem ses_recv (P : Pm) (hP : Pok P) (mx n : Nat) {s : Sd} (hs : s.st = 1) (hn : 10 ≤ n) (ho : s.ms.off = false) (hl : 0 ≤ s.ms.l) (hmx : mx < 4294967296) :
    ((drecv P mx n s (wishF P).1 (wishF P).2).e = 0 → (drecv P mx n s (wishF P).1 (wishF P).2).s.ss = vz s.ms.bs + 1 ∧ vz (drecv P mx n s (wishF P).1 (wishF P).2).s.ms.bs = vz s.ms.bs + 1) ∧ ((drecv P mx n s (wishF P).1 (wishF P).2).e ≠ 0 → vz (drecv P mx n s (wishF P).1 (wishF P).2).s.ms.bs = vz s.ms.bs) ∧
      (drecv P mx n s (wishF P).1 (wishF P).2).s.ms.t ≤ s.ms.t + 6 ∧ (drecv P mx n s (wishF P).1 (wishF P).2).s.L.length ≤ s.L.length + 3 := by
  have hb := ses_begin P mx n hn ho hl hmx
  have hL := dbegin_len P mx n s
  unfold drecv
  rw [if_neg (by omega), hear_wish P hP, dwish_idle P mx n hs]
  by_cases he : (dbegin P mx n s).e ≠ 0 ∧ (dbegin P mx n s).e ≠ 70
  · rw [if_pos he]
    refine ⟨fun e => absurd e he.1, fun _ => hb.2.1 he.1, hb.2.2, ?_⟩
    show ((dbegin P mx n s).s.L ++ [_]).length ≤ _
    simp; omega
  · rw [if_neg he]
    exact ⟨hb.1, hb.2.1, hb.2.2, by omega⟩
theorem rsM_zero (s : Ms) : rsM s 0 = { s with off := false, ar := false } := if_neg (by omega)
theorem reset_zero {mx n : Nat} (s : Sd) (hm : mx ≠ 0) (hn : 10 ≤ n) (hl : 0 ≤ s.ms.l) : dresetE mx n s 0 = 0 := by
  unfold dresetE
  rw [if_neg (by omega), rsM_zero]
  unfold opE
  rw [if_neg (by omega), if_neg (by simp)]
  rcases sq_all n (mend s.ms.bs) { s.ms with off := false, ar := false } (fun x hx => (mend_in s.ms.bs n hn x hx).1) rfl hl with ⟨e, _⟩ | ⟨_, _, e, _⟩
  · exact e
  · cases e
theorem reset_vz {mx n : Nat} (s : Sd) (k : Int) (hz : Bz s.ms.bs) (hl : 0 ≤ s.ms.l) : vz (dresetS mx n s k).ms.bs = vz s.ms.bs ∧ (dresetS mx n s k).ms.t ≤ s.ms.t + 6 ∧ (dresetS mx n s k).L = s.L := by
  unfold dresetS
  by_cases hk : k < 0
  · rw [if_pos hk]; exact ⟨rfl, by omega, rfl⟩
  · rw [if_neg hk]
    have hb : (rsM s.ms k).bs = s.ms.bs ∧ (rsM s.ms k).t = s.ms.t ∧ 0 ≤ (rsM s.ms k).l := by
      unfold rsM arS
      split
      · split
        · exact ⟨rfl, rfl, hl⟩
        · exact ⟨rfl, rfl, by show 0 ≤ k - 1; omega⟩
      · exact ⟨rfl, rfl, hl⟩
    refine ⟨?_, ?_, rfl⟩
    · show vz (opS mx n (rsM s.ms k)).bs = _
      rw [opS_vz hb.2.2 (by rw [hb.1]; exact hz), hb.1]
    · have := opS_t mx n (rsM s.ms k) hb.2.2
      show (opS mx n (rsM s.ms k)).t ≤ _
      omega
theorem reset_idle {mx n : Nat} (s : Sd) (h : dresetE mx n s 0 = 0) : (dresetS mx n s 0).st = 1 ∧ (dresetS mx n s 0).sn = 0 ∧ (dresetS mx n s 0).od = 0 := by
  unfold dresetE at h
  rw [if_neg (by omega)] at h
  unfold dresetS
  rw [if_neg (by omega), if_pos h]
  exact ⟨rfl, rfl, rfl⟩
theorem DV.facts {w : World} {d m g n mx : Nat} {P : Pm} {U : List Nat} {s : Sd} (h : DV w d m g n mx P U s) : Bz s.ms.bs ∧ 0 ≤ s.ms.l ∧ 10 ≤ n ∧ mx ≠ 0 ∧ mx < 4294967296 ∧ (s.st ≠ 6 → s.ms.off = false) := by
  obtain ⟨B, x⟩ := h
  exact ⟨fun i hi => x.mem.byte i (by have := x.n10; omega), x.mem.l0, x.n10, x.mx0, x.mxl, fun hs => (x.cel hs).2.2⟩
/-- The memory is armed from outside. -/
theorem dvarm_any (d m g n mx : Nat) (P : Pm) (U : List Nat) (s : Sd) (p : Int) (w : World) (h : DV w d m g n mx P U s) (hp : p ≤ 9223372036854775807) :
    Calls Tryz.prog 28 #[.pointer (some ⟨m, 0, none⟩), .int .i64 p] w fun e w' => e = .returned (.int .i64 (arE p)) ∧ Hid (∃ U', Gr U w U' w' ∧ DV w' d m g n mx P U' { s with ms := arS s.ms p }) := by
  obtain ⟨B, x⟩ := h
  refine (arm_any m g n s.ms p w x.mem hp).mono ?_
  rintro e w' ⟨rfl, o, m'⟩
  refine ⟨rfl, U, Gr.same (o.more (m := [m, g, B.c]) (by simp)) x.memU, B, x.memd (o.more (by simp)) m' (A' := s.st ≠ 6) (fun hs => ?_)⟩
  obtain ⟨c1, c2, c3⟩ := x.cel hs
  have hne : B.c ∉ [m] := fun hm => by simp at hm; have := x.kc.1; rw [hm, x.km.1] at this; omega
  have e1 : (arS s.ms p).bs = s.ms.bs := by unfold arS; split <;> rfl
  have e2 : (arS s.ms p).off = s.ms.off := by unfold arS; split <;> rfl
  rw [e1, e2]
  exact ⟨c1, c2.off o hne, c3⟩

end Go.Proofs.YtmleiemlfogffaaGreat
