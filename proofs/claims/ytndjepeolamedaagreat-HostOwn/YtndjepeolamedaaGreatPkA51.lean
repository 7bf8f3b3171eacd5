/- Part 52 of the texts on which the proofs of layer 13 rest: contracts of Go functions. -/
import Derived.Test.YtndjepeolamedaaGreatPkA29
import Derived.Test.YtndjepeolamedaaGreatPkA46
namespace Go.Proofs.YtndjepeolamedaaGreat
set_option maxRecDepth 100000
open Go.RowKit
theorem lw_k17 {c s : Nat} (hc : c ≠ 0) (hs : s ≠ 0) : LW ((17 : Nat) : Int) c s (0 : Nat) (0 : Nat) (4 : Nat) (4 : Nat) = 0 := by
  unfold LW
  rw [if_neg (by decide), if_neg (by omega), if_neg (by decide), if_neg ?_, if_neg (by decide), if_neg (by decide)]
  show ¬ mSess 17 s = false
  unfold mSess
  simp
  exact hs
theorem lw_k18 {c s : Nat} (hc : c ≠ 0) (hs : s ≠ 0) : LW ((18 : Nat) : Int) c s (0 : Nat) (0 : Nat) (0 : Nat) (0 : Nat) = 0 := by
  unfold LW
  rw [if_neg (by decide), if_neg (by omega), if_neg (by decide), if_neg ?_, if_neg (by decide), if_neg (by decide)]
  show ¬ mSess 18 s = false
  unfold mSess
  simp
  exact hs
theorem lw_k19 {c s : Nat} (hc : c ≠ 0) (hs : s ≠ 0) : LW ((19 : Nat) : Int) c s (0 : Nat) (0 : Nat) (0 : Nat) (0 : Nat) = 0 := by
  unfold LW
  rw [if_neg (by decide), if_neg (by omega), if_neg (by decide), if_neg ?_, if_neg (by decide), if_neg (by decide)]
  show ¬ mSess 19 s = false
  unfold mSess
  simp
  exact hs
theorem lw_k20 {c s n f len : Nat} (hc : c ≠ 0) (hs : s ≠ 0) (hn : n ≠ 0) (hf : f ≤ 15) (h1 : 1 ≤ len) (h8 : len ≤ 8) : LW ((20 : Nat) : Int) c s n f len len = 0 := by
  have e1 : mFl ((20 : Nat) : Int) = 15 := by decide
  have e2 : hNum ((20 : Nat) : Int) = true := by decide
  have e3 : mData ((20 : Nat) : Int) len = decide ((1 : Int) ≤ len ∧ (len : Int) ≤ 8) := rfl
  unfold LW
  rw [if_neg (by decide), if_neg (by omega), if_neg ?_, if_neg ?_, if_neg ?_, if_neg ?_]
  · rw [e1]; omega
  · rw [e2]; simp; exact hn
  · show ¬ mSess 20 s = false
    unfold mSess
    simp
    exact hs
  · rw [e3]; simp; omega
theorem recv_told {P : Pm} {s : Sh} {F : Fm} {k c S n f len : Nat} {bs : Nat → Nat} (t : Told F k c S n f len bs) : hrecvE P s F.1 F.2 = hrefE P s k c S n len (fun i => F.2 (15 + i)) ∧
    (hrefE P s k c S n len (fun i => F.2 (15 + i)) = 0 → hrecvS P s F.1 F.2 = htake s k S n f (fun i => F.2 (15 + i))) ∧ (hrefE P s k c S n len (fun i => F.2 (15 + i)) ≠ 0 → hrecvS P s F.1 F.2 = hnote s (hrefE P s k c S n len (fun i => F.2 (15 + i)))) := by
  have e : hrecvE P s F.1 F.2 = hrefE P s k c S n len (fun i => F.2 (15 + i)) := by unfold hrecvE; rw [if_neg (by rw [t.de]; omega), t.k, t.c, t.s, t.n, t.ln]
  refine ⟨e, fun h => ?_, fun h => ?_⟩
  · unfold hrecvS; rw [e, if_neg (by omega), t.k, t.s, t.n, t.f]
  · unfold hrecvS; rw [e, if_pos h]
structure Hg (s : Sh) (S st nm : Nat) : Prop where
  st : s.st = st
  ss : s.ss = S
  nm : s.nm = nm
  sn : s.sn = 0
  wt : s.wt = false
  ms : s.ms = 0
  lat : s.v.lat = 0
theorem vtake_latH (v : Vs) (bs : Nat → Nat) : (vtake v bs).lat = v.lat := by unfold vtake; split <;> rfl
theorem sig_of {bs' : Nat → Nat} (hb : ∀ j, j < 4 → bs' j = osig P0 false j) : dsigned P0 4 bs' = true := by
  rw [osig_f] at hb
  exact decide_eq_true (BA_congr _ _ 4 hb)
theorem hg1 {S : Nat} (h1 : 1 ≤ S) (hS : S ≤ 2147483648) {f : Fm} (hf : f = encI 17 P0.c (hofs hnew (S : Int)) 0 0 4 (osig P0 false)) : Hg (hrecvS P0 hnew f.1 f.2) S 2 0 := by
  have ho : hofs hnew (S : Int) = S := by unfold hofs; show (0 + _) % _ = S; omega
  rw [ho] at hf
  have t : Told f 17 P0.c S 0 0 4 (osig P0 false) := by rw [hf]; exact told_enc P0_ok.c (by omega) (by omega) (lw_k17 (by decide) (by omega))
  obtain ⟨_, e0, _⟩ := recv_told (P := P0) (s := hnew) t
  have hr : hrefE P0 hnew 17 P0.c S 0 4 (fun i => f.2 (15 + i)) = 0 := by
    unfold hrefE
    rw [if_neg (by decide), if_neg (by simp), if_pos (show hnew.st = 1 from rfl)]
    unfold hoffE
    rw [if_neg (by show ¬ (17 ≠ 17 ∨ S ≤ 0); omega), if_pos (sig_of t.bs)]
  rw [e0 hr]
  exact ⟨rfl, rfl, rfl, rfl, rfl, rfl, rfl⟩
theorem hg2 {s : Sh} {S : Nat} (h1 : 1 ≤ S) (hS : S ≤ 2147483648) (h : Hg s S 2 0) {f : Fm} (hf : f = encI 18 P0.c (hses s false) 0 0 0 (fun _ => 0)) : Hg (hrecvS P0 s f.1 f.2) S 3 0 := by
  rw [hses_false, h.ss] at hf
  have t : Told f 18 P0.c S 0 0 0 (fun _ => 0) := by rw [hf]; exact told_enc P0_ok.c (by omega) (by omega) (lw_k18 (by decide) (by omega))
  obtain ⟨_, e0, _⟩ := recv_told (P := P0) (s := s) t
  have hst := h.st
  have hss := h.ss
  have hr : hrefE P0 s 18 P0.c S 0 0 (fun i => f.2 (15 + i)) = 0 := by
    unfold hrefE
    rw [if_neg (by decide), if_neg (by simp), if_neg (by omega), if_neg ?_]
    rintro (k | k)
    · omega
    · unfold hawaits at k; have := of_decide_eq_false k; omega
  rw [e0 hr]
  exact ⟨rfl, h.ss, h.nm, h.sn, rfl, rfl, h.lat⟩
theorem hg3 {s : Sh} {S : Nat} (h1 : 1 ≤ S) (hS : S ≤ 2147483648) (h : Hg s S 3 0) {f : Fm} (hf : f = encI 19 P0.c (hses s false) 0 0 0 (fun _ => 0)) : Hg (hrecvS P0 s f.1 f.2) S 4 0 := by
  rw [hses_false, h.ss] at hf
  have t : Told f 19 P0.c S 0 0 0 (fun _ => 0) := by rw [hf]; exact told_enc P0_ok.c (by omega) (by omega) (lw_k19 (by decide) (by omega))
  obtain ⟨_, e0, _⟩ := recv_told (P := P0) (s := s) t
  have hst := h.st
  have hss := h.ss
  have hr : hrefE P0 s 19 P0.c S 0 0 (fun i => f.2 (15 + i)) = 0 := by
    unfold hrefE
    rw [if_neg (by decide), if_neg (by simp), if_neg (by omega), if_neg ?_]
    rintro (k | k)
    · omega
    · unfold hawaits at k; have := of_decide_eq_false k; omega
  rw [e0 hr]
  exact ⟨rfl, h.ss, h.nm, h.sn, rfl, rfl, (vrun_latH s.v true).trans h.lat⟩
theorem hg4 {s : Sh} {S : Nat} (h1 : 1 ≤ S) (hS : S ≤ 2147483648) (h : Hg s S 4 0) {bs : Nat → Nat} {f : Fm} (hf : f = encI 20 P0.c (hses s false) (hnum s 1) 0 1 bs) : Hg (hrecvS P0 s f.1 f.2) S 4 1 := by
  have hn : hnum s 1 = 1 := by unfold hnum; rw [h.nm]; rfl
  rw [hses_false, h.ss, hn] at hf
  have t : Told f 20 P0.c S 1 0 1 bs := by rw [hf]; exact told_enc (f := 0) P0_ok.c (by omega) (by omega) (lw_k20 (f := 0) (by decide) (by omega) (by omega) (Nat.zero_le _) (by omega) (by omega))
  obtain ⟨_, e0, _⟩ := recv_told (P := P0) (s := s) t
  have hst := h.st
  have hss := h.ss
  have hnm := h.nm
  have hr : hrefE P0 s 20 P0.c S 1 1 (fun i => f.2 (15 + i)) = 0 := by
    unfold hrefE
    rw [if_neg (by decide), if_neg (by simp), if_neg (by omega), if_neg ?_]
    rintro (k | k)
    · omega
    · unfold hawaits at k
      have e : P0.n = 9 := rfl
      have e2 : P0.i = 1 := rfl
      have := of_decide_eq_false k
      omega
  rw [e0 hr]
  refine ⟨h.st, h.ss, rfl, h.sn, rfl, rfl, ?_⟩
  show (vtake (vhold (vfresh s.v) _) _).lat = 0
  rw [vtake_latH]; exact h.lat
structure Hs (s : Sh) (S st i : Nat) : Prop where
  st : s.st = st
  ss : s.ss = S
  sn : s.sn ≤ i
  wt : s.wt = decide (0 < i)
  ms : s.ms = i - 1
  lat : s.v.lat = 0
theorem Hg.hs {s : Sh} {S st nm : Nat} (h : Hg s S st nm) : Hs s S st 0 := ⟨h.st, h.ss, by have := h.sn; omega, h.wt, h.ms, h.lat⟩
theorem hs_step {s : Sh} {S st i : Nat} (hst : st = 2 ∨ st = 3 ∨ st = 4) (h : Hs s S st i) (hi : i < 4) : hsendE s = 0 ∧ Hs (hsendS P0 s) S st (i + 1) := by
  have h5 : s.st ≠ 5 := by have := h.st; omega
  have hs1 := h.st
  have hm : (hmiss s).st = st ∧ (hmiss s).ss = S ∧ (hmiss s).v = s.v ∧ (hmiss s).sn = s.sn ∧ (hmiss s).ms = i := by
    unfold hmiss
    by_cases h0 : i = 0
    · rw [if_pos (.inr (by rw [h.wt, h0]; rfl))]
      exact ⟨h.st, h.ss, rfl, rfl, by have := h.ms; omega⟩
    · have hms := h.ms
      rw [if_neg (by rintro (k | k); · omega
                     · rw [h.wt] at k; have := of_decide_eq_false k; omega), if_pos (by omega)]
      exact ⟨h.st, h.ss, rfl, rfl, by show s.ms + 1 = i; omega⟩
  refine ⟨by unfold hsendE; rw [if_neg h5], ?_⟩
  have eS : hsendS P0 s = { (hnext P0 (hmiss s)).1 with wt := true } := by unfold hsendS; rw [if_neg h5]
  rw [eS]
  generalize hmiss s = m at *
  obtain ⟨m1, m2, m3, m4, m5⟩ := hm
  have hl := h.lat
  have hsn := h.sn
  have hn9 : P0.n = 9 := rfl
  unfold hnext
  rcases hst with rfl | rfl | rfl
  · rw [if_neg (by omega), if_pos m1]
    exact ⟨m1, m2, by show m.sn ≤ _; omega, by simp, by show m.ms = _; omega, by show m.v.lat = 0; rw [m3]; exact hl⟩
  · rw [if_neg (by omega), if_neg (by omega), if_pos m1]
    exact ⟨m1, m2, by show m.sn ≤ _; omega, by simp, by show m.ms = _; omega, by show m.v.lat = 0; rw [m3]; exact hl⟩
  · rw [if_neg (by omega), if_neg (by omega), if_neg (by omega), if_neg (by omega)]
    exact ⟨m1, m2, by show m.sn + 1 ≤ _; omega, by simp, by show m.ms = _; omega, by show m.v.lat = 0; rw [m3]; exact hl⟩
theorem hs_end {s : Sh} {S st : Nat} (hst : st = 2 ∨ st = 3 ∨ st = 4) (h : Hs s S st 4) : hsendE s = 0 ∧ Told (hsendF P0 s) 1 P0.c 0 0 0 4 (dsg P0) ∧ (hsendS P0 s).st = 1 ∧ (hsendS P0 s).ss = S ∧ von (hsendS P0 s).v = false ∧ (hsendS P0 s).v.lat = (if st = 4 then 131 else 0) := by
  have h5 : s.st ≠ 5 := by have := h.st; omega
  have hs1 := h.st
  have hms := h.ms
  have hwt : s.wt = true := h.wt
  have hm : hmiss s = hgive (if s.st = 4 then hlatch { s with ms := s.ms + 1 } 131 else { s with ms := s.ms + 1 }) := by
    unfold hmiss
    rw [if_neg (by rintro (k | k); · omega
                   · rw [hwt] at k; cases k), if_neg (by omega)]
  have eS : hsendS P0 s = { (hnext P0 (hmiss s)).1 with wt := true } := by unfold hsendS; rw [if_neg h5]
  have eF : hsendF P0 s = (hnext P0 (hmiss s)).2 := by unfold hsendF; rw [if_neg h5]
  have en : hnext P0 (hmiss s) = (hmiss s, encF 1 P0.c 0 0 0 4 (dsg P0)) := by unfold hnext; rw [if_pos (by rw [hm]; rfl)]
  refine ⟨by unfold hsendE; rw [if_neg h5], ?_, ?_, ?_, ?_, ?_⟩
  · rw [eF, en]; exact told_enc P0_ok.c (by omega) (by omega) (lw_k1 (by decide))
  · rw [eS, en, hm]; rfl
  · rw [eS, en, hm]
    show (if s.st = 4 then hlatch { s with ms := s.ms + 1 } 131 else { s with ms := s.ms + 1 }).ss = S
    split
    · exact (hlatch_flds _ _).2.1.trans h.ss
    · exact h.ss
  · rw [eS, en, hm]; exact vrun_off _
  · rw [eS, en, hm]
    show (vrun (if s.st = 4 then hlatch { s with ms := s.ms + 1 } 131 else { s with ms := s.ms + 1 }).v false).lat = _
    rw [vrun_latH, h.st]
    split
    · rw [hlatch_v]
      show (vtrip s.v 131).lat = 131
      unfold vtrip
      rw [if_neg (by omega)]
      show (if s.v.lat = 0 then 131 else s.v.lat) = 131
      rw [if_pos h.lat]
    · exact h.lat
theorem hs_same {s : Sh} {S : Nat} (h1 : 1 ≤ S) (hS : S ≤ 2147483648) (hst : s.st = 1) (hss : s.ss = S) {f : Fm} (hf : f = encI 17 P0.c (hofs s 0) 0 0 4 (osig P0 false)) : hrecvE P0 s f.1 f.2 = 130 ∧ hrecvS P0 s f.1 f.2 = hnote s 130 := by
  have ho : hofs s 0 = S := by unfold hofs; rw [hss]; show (S + 0) % _ = S; omega
  rw [ho] at hf
  have t : Told f 17 P0.c S 0 0 4 (osig P0 false) := by rw [hf]; exact told_enc P0_ok.c (by omega) (by omega) (lw_k17 (by decide) (by omega))
  obtain ⟨e1, _, e2⟩ := recv_told (P := P0) (s := s) t
  have hr : hrefE P0 s 17 P0.c S 0 4 (fun i => f.2 (15 + i)) = 130 := by
    unfold hrefE
    rw [if_neg (by decide), if_neg (by simp), if_pos hst]
    unfold hoffE
    rw [if_pos (.inr (by omega))]
  rw [hr] at e1 e2
  exact ⟨e1, e2 (by omega)⟩
theorem hs_above {s s' : Sh} {S : Nat} (h1 : 1 ≤ S) (hS : S ≤ 2147483648) (hst : s.st = 1) (hss : s.ss = S) (hs' : s'.ss = S) {f : Fm} (hf : f = encI 17 P0.c (hofs s' 1) 0 0 4 (osig P0 false)) : hrecvE P0 s f.1 f.2 = 0 ∧ (hrecvS P0 s f.1 f.2).ss = S + 1 := by
  have ho : hofs s' 1 = S + 1 := by unfold hofs; rw [hs']; show (S + 1) % _ = S + 1; omega
  rw [ho] at hf
  have t : Told f 17 P0.c (S + 1) 0 0 4 (osig P0 false) := by rw [hf]; exact told_enc P0_ok.c (by omega) (by omega) (lw_k17 (by decide) (by omega))
  obtain ⟨e1, e0, _⟩ := recv_told (P := P0) (s := s) t
  have hr : hrefE P0 s 17 P0.c (S + 1) 0 4 (fun i => f.2 (15 + i)) = 0 := by
    unfold hrefE
    rw [if_neg (by decide), if_neg (by simp), if_pos hst]
    unfold hoffE
    rw [if_neg (by omega), if_pos (sig_of t.bs)]
  rw [hr] at e1
  refine ⟨e1, ?_⟩
  rw [e0 hr]
  rfl
end Go.Proofs.YtndjepeolamedaaGreat
