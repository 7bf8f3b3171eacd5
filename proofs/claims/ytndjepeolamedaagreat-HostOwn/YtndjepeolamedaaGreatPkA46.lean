/- Part 47 of the texts on which the proofs of layer 13 rest: contracts of Go functions. -/
import Derived.Test.YtndjepeolamedaaGreatPkA15
import Derived.Test.YtndjepeolamedaaGreatPkA16
import Derived.Test.YtndjepeolamedaaGreatPkA41
namespace Go.Proofs.YtndjepeolamedaaGreat
set_option maxRecDepth 100000
open Go.RowKit
def Ak (v v' : Vs) : Prop := von v' = true → von v = true ∧ v'.bs = v.bs
theorem Ak.refl (v : Vs) : Ak v v := fun h => ⟨h, rfl⟩
theorem Ak.trans {a b c : Vs} (h : Ak a b) (k : Ak b c) : Ak a c := fun e => ⟨(h (k e).1).1, (k e).2.trans (h (k e).1).2⟩
theorem Ak.off {a b : Vs} (h : von b = false) : Ak a b := fun e => by rw [h] at e; cases e
theorem ak_trip (v : Vs) (x : Int) : Ak v (vtrip v x) := by
  unfold vtrip
  split
  · exact Ak.refl v
  · exact Ak.off (by unfold von; simp)
theorem ak_run (v : Vs) (o : Bool) : Ak v (vrun v o) := by
  unfold vrun
  split
  · exact Ak.refl v
  · exact Ak.off (by unfold von; simp)
theorem ak_fresh (v : Vs) : Ak v (vfresh v) := fun e => ⟨e, rfl⟩
theorem ak_ack (v : Vs) : Ak v (vack v) := by
  unfold vack
  split
  · exact fun e => ⟨e, rfl⟩
  · exact Ak.refl v
theorem von_run {v : Vs} (h : von v = true) : v.run = true ∧ v.sm = true := by
  unfold von at h
  revert h
  cases v.run <;> cases v.held <;> cases v.sm <;> decide
theorem Iv.on {P : Pm} {s : Sd} (h : Iv P s) (ho : von s.v = true) : s.st = 4 ∧ s.v.lat = 0 := by
  obtain ⟨h1, h2⟩ := von_run ho
  rw [h.vr] at h1
  exact ⟨of_decide_eq_true h1, h.vok.sm h2⟩
structure Nt (s s' : Sd) : Prop where
  nm : s'.ss = s.ss → s'.nm = s.nm
  zz : vz s.ms.bs ≤ vz s'.ms.bs
  up : s'.ss = s.ss ∨ s'.ss = 0 ∨ vz s.ms.bs < s'.ss
  ak : Ak s.v s'.v
theorem Nt.refl (s : Sd) : Nt s s := ⟨fun _ => rfl, Nat.le_refl _, .inl rfl, Ak.refl _⟩
theorem Nt.same {s s' : Sd} (h1 : s'.ss = s.ss) (h2 : s'.nm = s.nm) (h3 : s'.ms.bs = s.ms.bs) (h4 : Ak s.v s'.v) : Nt s s' := ⟨fun _ => h2, by rw [h3]; exact Nat.le_refl _, .inl h1, h4⟩
theorem Nt.zero {P : Pm} {s s' : Sd} (h : Iv P s) (h1 : s'.ss = 0) (h2 : s'.nm = 0) (h3 : vz s.ms.bs ≤ vz s'.ms.bs) (h4 : Ak s.v s'.v) : Nt s s' := ⟨fun e => by rw [h2, h.s0 (by omega)], h3, .inr (.inl h1), h4⟩
theorem Nt.latch (s : Sd) (x : Int) : Nt s (dlatch s x) := by
  obtain ⟨_, l2, l3, _, _, l6, _, _⟩ := dlatch_flds s x
  exact Nt.same l2 l3 (by rw [l6]) (by rw [dlatch_v]; exact ak_trip _ _)
theorem vrun_off (v : Vs) : von (vrun v false) = false := by unfold von; rw [vrun_run]; rfl
theorem von_new : von vnew = false := rfl
theorem Nt.odd {P : Pm} {s : Sd} (h : Iv P s) : Nt s (dodd s) := by
  have hm : (dodd s).ms.bs = s.ms.bs := by rw [dodd_ms]
  revert hm
  unfold dodd
  split
  · split
    · exact fun _ => Nt.same rfl rfl rfl (Ak.refl _)
    · exact fun hm => Nt.zero h rfl rfl (by rw [hm]; exact Nat.le_refl _) (Ak.off (vrun_off _))
  · exact fun _ => Nt.refl _
theorem Nt.begin_ {P : Pm} {mx n : Nat} {s : Sd} (h : Iv P s) (M : Mo mx n s) (hu : s.st ≠ 6) : Nt s (dbegin P mx n s).s := by
  have hv := nx_vz (mx := mx) (n := n) (s := s.ms) M.n10 (M.off hu) M.l0 M.mxl
  unfold dbegin
  generalize nx mx n s.ms.bs false s.ms = X at *
  split
  · rename_i h80
    refine Nt.zero h rfl rfl ?_ (Ak.off (vrun_off _))
    show _ ≤ vz (dlatch { s with ms := X.s } 80).ms.bs
    rw [dlatch_ms]
    show _ ≤ vz X.s.bs
    rw [hv.2 (by omega)]; exact Nat.le_refl _
  · split
    · rename_i h0
      refine Nt.zero h rfl rfl ?_ (Ak.off von_new)
      show _ ≤ vz X.s.bs
      rw [hv.2 h0]; exact Nat.le_refl _
    · rename_i e0
      have e0 : X.e = 0 := by simpa using e0
      obtain ⟨v1, v2, v3⟩ := hv.1 e0
      have hz := h.z
      refine ⟨fun e => ?_, ?_, .inr (.inr ?_), Ak.off (vrun_off _)⟩
      · have e : X.v = s.ss := e
        omega
      · show _ ≤ vz X.s.bs
        omega
      · show _ < X.v
        omega
theorem Nt.trans_odd {P : Pm} {s s' : Sd} (h : Iv P s) (k : Nt (dodd s) s') : Nt s s' := by
  have o := Nt.odd h
  have hm : vz (dodd s).ms.bs = vz s.ms.bs := by rw [dodd_ms]
  have hs : (dodd s).ss = s.ss ∧ (dodd s).nm = s.nm ∨ (dodd s).ss = 0 ∧ (dodd s).nm = 0 := by
    unfold dodd
    split
    · split
      · exact .inl ⟨rfl, rfl⟩
      · exact .inr ⟨rfl, rfl⟩
    · exact .inl ⟨rfl, rfl⟩
  have kv := k.zz
  have ku := k.up
  have hz := h.z
  have h0 := h.s0
  refine ⟨fun e => ?_, by omega, ?_, o.ak.trans k.ak⟩
  · rcases hs with ⟨a, b⟩ | ⟨a, b⟩
    · rw [← b]; exact k.nm (by omega)
    · by_cases z : s.ss = 0
      · rw [k.nm (by omega), b, h0 z]
      · exfalso; omega
  · rcases hs with ⟨a, b⟩ | ⟨a, b⟩ <;> omega
theorem Nt.wish {P : Pm} {mx n : Nat} {s : Sd} (h : Iv P s) (M : Mo mx n s) (hu : s.st ≠ 6) : Nt s (dwish P mx n s).s := by
  unfold dwish
  split
  · exact Nt.odd h
  · split
    · exact Nt.odd h
    · exact Nt.trans_odd h (Nt.begin_ h.odd M.odd (dodd_up hu))
theorem Nt.echo (s : Sd) : Nt s (dechoS s) := by
  unfold dechoS
  split
  · exact Nt.same rfl rfl rfl (ak_fresh _)
  · exact Nt.refl _
theorem Nt.start (s : Sd) : Nt s (dstartS s) := by
  unfold dstartS
  split
  · exact Nt.same rfl rfl rfl ((ak_run s.v true).trans (ak_fresh _))
  · exact Nt.refl _
theorem Nt.write {P : Pm} (s : Sd) (len : Nat) (bs : Nat → Nat) (o : Bool) : Nt s (dwriteS P s len bs o) := by
  unfold dwriteS
  split
  · exact Nt.refl _
  · split
    · exact Nt.same rfl rfl rfl (Ak.refl _)
    · exact Nt.refl _
theorem Nt.tick {P : Pm} (s : Sd) (k : Int) : Nt s (dtickS P s k) := by
  unfold dtickS
  split
  · exact Nt.refl _
  · split
    · exact Nt.refl _
    · split
      · have := Nt.latch { s with dc := tk P.t s.dc k.toNat } 100
        exact ⟨this.nm, this.zz, this.up, this.ak⟩
      · exact Nt.same rfl rfl rfl (Ak.refl _)
theorem Nt.ack (s : Sd) : Nt s (dackS s) := by
  unfold dackS
  split
  · exact Nt.refl _
  · exact Nt.same rfl rfl rfl (ak_ack _)
structure Lh (s : Sd) (a b : Nat) : Prop where
  sa : a ≤ vz s.ms.bs
  nb : s.ss ≠ 0 → s.ss = a → b ≤ s.nm
theorem Lh.nt {s s' : Sd} {a b : Nat} (h : Lh s a b) (k : Nt s s') : Lh s' a b := by
  have h1 := h.sa
  have h2 := k.zz
  refine ⟨by omega, fun e0 e => ?_⟩
  rcases k.up with u | u | u
  · rw [k.nm u]; exact h.nb (by omega) (by omega)
  · exact absurd u e0
  · omega
end Go.Proofs.YtndjepeolamedaaGreat
namespace Go.Proofs.YtndjepeolamedaaGreat
set_option maxRecDepth 100000
open Go.RowKit
theorem lw_k1 {c : Nat} (hc : c ≠ 0) : LW ((1 : Nat) : Int) c (0 : Nat) (0 : Nat) (0 : Nat) (4 : Nat) (4 : Nat) = 0 := by
  unfold LW
  rw [if_neg (by decide), if_neg (by omega), if_neg (by decide), if_neg (by decide), if_neg (by decide), if_neg (by decide)]
theorem lw_k2 {c s : Nat} (hc : c ≠ 0) (hs : s ≠ 0) : LW ((2 : Nat) : Int) c s (0 : Nat) (0 : Nat) (4 : Nat) (4 : Nat) = 0 := by
  unfold LW
  rw [if_neg (by decide), if_neg (by omega), if_neg (by decide), if_neg ?_, if_neg (by decide), if_neg (by decide)]
  show ¬ mSess 2 s = false
  unfold mSess
  simp
  exact hs
theorem lw_k3 {c s : Nat} (hc : c ≠ 0) (hs : s ≠ 0) : LW ((3 : Nat) : Int) c s (0 : Nat) (0 : Nat) (0 : Nat) (0 : Nat) = 0 := by
  unfold LW
  rw [if_neg (by decide), if_neg (by omega), if_neg (by decide), if_neg ?_, if_neg (by decide), if_neg (by decide)]
  show ¬ mSess 3 s = false
  unfold mSess
  simp
  exact hs
theorem lw_k4 {c s n f len : Nat} (hc : c ≠ 0) (hs : s ≠ 0) (hn : n ≠ 0) (hf : f ≤ 15) (h1 : 1 ≤ len) (h8 : len ≤ 8) : LW ((4 : Nat) : Int) c s n f len len = 0 := by
  have e1 : mFl ((4 : Nat) : Int) = 15 := by decide
  have e2 : hNum ((4 : Nat) : Int) = true := by decide
  have e3 : mData ((4 : Nat) : Int) len = decide ((1 : Int) ≤ len ∧ (len : Int) ≤ 8) := rfl
  unfold LW
  rw [if_neg (by decide), if_neg (by omega), if_neg ?_, if_neg ?_, if_neg ?_, if_neg ?_]
  · rw [e1]; omega
  · rw [e2]; simp; exact hn
  · show ¬ mSess 4 s = false
    unfold mSess
    simp
    exact hs
  · rw [e3]; simp; omega
theorem lw_k5 {c s n : Nat} (hc : c ≠ 0) (hs : s ≠ 0) (hn : n ≠ 0) : LW ((5 : Nat) : Int) c s n (0 : Nat) (0 : Nat) (0 : Nat) = 0 := by
  have e2 : hNum ((5 : Nat) : Int) = true := by decide
  unfold LW
  rw [if_neg (by decide), if_neg (by omega), if_neg (by decide), if_neg ?_, if_neg ?_, if_neg (by decide)]
  · rw [e2]; simp; exact hn
  · show ¬ mSess 5 s = false
    unfold mSess
    simp
    exact hs
theorem hflags_le (s : Sh) : hflags s ≤ 15 := by
  unfold hflags
  split <;> split <;> split <;> split <;> omega
structure Told (F : Fm) (k c s n f len : Nat) (bs : Nat → Nat) : Prop where
  de : DE F.2 F.1 = 0
  ln : F.1 - 19 = len
  k : F.2 0 = k
  c : w4v F.2 1 = c
  s : w4v F.2 5 = s
  n : w4v F.2 9 = n
  f : F.2 13 = f
  bs : ∀ j, j < len → F.2 (15 + j) = bs j
theorem told_enc {k c s n f len : Nat} {bs : Nat → Nat} (hc : c < 4294967296) (hs : s < 4294967296) (hn : n < 4294967296) (h : LW k c s n f len len = 0) : Told (encF k c s n f len bs) k c s n f len bs := by
  have hl : len ≤ 8 := by have := (LW_zero h).2.2.2.1; omega
  obtain ⟨e1, e2, e3, e4, e5, e6, e7⟩ := DE_back k c s n f len bs hc hs hn hl h
  have hF : encF k c s n f len bs = (15 + len + 4, PM.sl (fr k c s n f len bs) (15 + len)) := if_pos h
  rw [hF]
  exact ⟨e1, by show 15 + len + 4 - 19 = len; omega, e2, e3, e4, e5, e6, e7⟩
section
variable {P : Pm} {s : Sh}
theorem hmiss_cases (s : Sh) : ((hmiss s).st = s.st ∧ (hmiss s).ss = s.ss ∧ (hmiss s).sn = s.sn ∧ (hmiss s).v = s.v ∧ (hmiss s).hd = s.hd ∧ (hmiss s).ap = s.ap ∧ (hmiss s).nm = s.nm) ∨ ((hmiss s).st = 1 ∧ (hmiss s).ss = s.ss ∧ (hmiss s).nm = 0 ∧ von (hmiss s).v = false) := by
  unfold hmiss
  split
  · exact .inl ⟨rfl, rfl, rfl, rfl, rfl, rfl, rfl⟩
  · split
    · exact .inl ⟨rfl, rfl, rfl, rfl, rfl, rfl, rfl⟩
    · refine .inr ⟨rfl, ?_, rfl, vrun_off _⟩
      show (if s.st = 4 then hlatch { s with ms := s.ms + 1 } 131 else { s with ms := s.ms + 1 }).ss = s.ss
      split
      · exact (hlatch_flds _ _).2.1
      · rfl
theorem hsend_cases (hP : Pok P) (hv : Ih P s) (h5 : s.st ≠ 5) : hsendE s = 0 ∧
    ((∃ k S, (k = 1 ∨ k = 2 ∨ k = 3) ∧ (∃ len bs, Told (hsendF P s) k P.c S 0 0 len bs) ∧ (hsendS P s).st = k ∧ (hsendS P s).ss = s.ss ∧ ((hsendS P s).st = s.st ∨ (hsendS P s).st = 1)) ∨
     (s.st = 4 ∧ s.sn + 1 < P.n ∧ Told (hsendF P s) 4 P.c s.ss (s.sn + 1) (hflags s) P.o s.ap ∧ (hsendS P s).st = 4 ∧ (hsendS P s).ss = s.ss ∧ (hsendS P s).sn = s.sn + 1) ∨
     (s.st = 4 ∧ s.sn + 1 = P.n ∧ (∃ len bs, Told (hsendF P s) 5 P.c s.ss (s.sn + 1) 0 len bs) ∧ (hsendS P s).st = 5 ∧ (hsendS P s).ss = s.ss ∧ von (hsendS P s).v = false ∧ (hsendS P s).v.lat ≠ 0)) := by
  have hc : P.c ≠ 0 := by have := hP.ok.1; omega
  have hm := hv.miss
  have hm5 := hmiss_st5 h5
  have hmc := hmiss_cases s
  have eS : hsendS P s = { (hnext P (hmiss s)).1 with wt := true } := by unfold hsendS; rw [if_neg h5]
  have eF : hsendF P s = (hnext P (hmiss s)).2 := by unfold hsendF; rw [if_neg h5]
  refine ⟨by unfold hsendE; rw [if_neg h5], ?_⟩
  rw [eS, eF]
  generalize hmiss s = m at *
  have hms := hm.st1
  have hm4 := hm.st5
  have hmss : m.ss = s.ss := by rcases hmc with h | h <;> exact h.2.1
  have hmst : m.st = s.st ∨ m.st = 1 := by
    rcases hmc with h | h
    · exact .inl h.1
    · exact .inr h.1
  by_cases c1 : m.st = 1
  · have en : hnext P m = (m, encF 1 P.c 0 0 0 4 (dsg P)) := by unfold hnext; rw [if_pos c1]
    rw [en]
    exact .inl ⟨1, 0, .inl rfl, ⟨_, _, told_enc hP.c (by omega) (by omega) (lw_k1 hc)⟩, c1, hmss, .inr c1⟩
  · by_cases c2 : m.st = 2
    · have en : hnext P m = (m, encF 2 P.c m.ss 0 0 4 (dsg P)) := by unfold hnext; rw [if_neg c1, if_pos c2]
      rw [en]
      exact .inl ⟨2, m.ss, .inr (.inl rfl), ⟨_, _, told_enc hP.c hm.ss (by omega) (lw_k2 hc (hm.s4 (.inl c2)))⟩, c2, hmss, hmst⟩
    · by_cases c3 : m.st = 3
      · have en : hnext P m = (m, encF 3 P.c m.ss 0 0 0 (fun _ => 0)) := by unfold hnext; rw [if_neg c1, if_neg c2, if_pos c3]
        rw [en]
        exact .inl ⟨3, m.ss, .inr (.inr rfl), ⟨_, _, told_enc hP.c hm.ss (by omega) (lw_k3 hc (hm.s4 (.inr (.inl c3))))⟩, c3, hmss, hmst⟩
      · have h4 : m.st = 4 := by omega
        have hs0 := hm.s4 (.inr (.inr h4))
        have hrn := (hm.run h4).1
        have hn := hP.n
        obtain ⟨m1, m2, m3, m4, m5, m6, m7⟩ : m.st = s.st ∧ m.ss = s.ss ∧ m.sn = s.sn ∧ m.v = s.v ∧ m.hd = s.hd ∧ m.ap = s.ap ∧ m.nm = s.nm := by
          rcases hmc with h | h
          · exact h
          · exact absurd h.1 c1
        have hs4 : s.st = 4 := m1 ▸ h4
        by_cases c4 : m.sn + 1 = P.n
        · have en : hnext P m = (hexh { m with sn := m.sn + 1 }, encF 5 P.c m.ss (m.sn + 1) 0 0 (fun _ => 0)) := by unfold hnext; rw [if_neg c1, if_neg c2, if_neg c3, if_pos c4]
          rw [en]
          refine .inr (.inr ⟨hs4, by omega, ⟨0, fun _ => 0, ?_⟩, rfl, ?_, ?_, ?_⟩)
          · rw [← m2, ← m3]; exact told_enc hP.c hm.ss (by omega) (lw_k5 hc hs0 (by omega))
          · show (hlatch { m with sn := m.sn + 1 } 80).ss = s.ss
            rw [(hlatch_flds _ _).2.1]; exact m2
          · exact vrun_off _
          · show (vrun (hlatch { m with sn := m.sn + 1 } 80).v false).lat ≠ 0
            rw [vrun_latH, hlatch_v]
            exact vtrip_lat (by omega)
        · have en : hnext P m = ({ m with sn := m.sn + 1 }, encF 4 P.c m.ss (m.sn + 1) (hflags m) P.o m.ap) := by unfold hnext; rw [if_neg c1, if_neg c2, if_neg c3, if_neg c4]
          have ef : hflags m = hflags s := by unfold hflags; rw [m4, m5]
          rw [en]
          refine .inr (.inl ⟨hs4, by omega, ?_, h4, m2, by show m.sn + 1 = _; omega⟩)
          rw [← m2, ← m3, ← m6, ← ef]
          exact told_enc hP.c hm.ss (by omega) (lw_k4 hc hs0 (by omega) (hflags_le m) hP.o1 hP.o8)
theorem hrecv_cases (P : Pm) (s : Sh) (len : Nat) (bs : Nat → Nat) : (hrecvE P s len bs ≠ 0 ∧ hrecvS P s len bs = hnote s (hrecvE P s len bs)) ∨ (hrecvE P s len bs = 0 ∧ DE bs len = 0 ∧
    ((bs 0 = 17 ∧ s.st = 1 ∧ s.ss < w4v bs 5 ∧ hrecvS P s len bs = hon { s with st := 2, ss := w4v bs 5 }) ∨ (bs 0 = 18 ∧ s.st = 2 ∧ w4v bs 5 = s.ss ∧ hrecvS P s len bs = hon { s with st := 3 }) ∨ (bs 0 = 19 ∧ s.st = 3 ∧ w4v bs 5 = s.ss ∧ hrecvS P s len bs = hon { s with st := 4, v := vrun s.v true }) ∨
     (bs 0 = 20 ∧ s.st = 4 ∧ w4v bs 5 = s.ss ∧ s.nm < w4v bs 9 ∧ w4v bs 9 < P.n ∧ len - 19 = P.i ∧ hrecvS P s len bs = { hon { s with nm := w4v bs 9 } with v := vtake (vhold (vfresh s.v) (decide (8 ≤ bs 13))) (fun i => bs (15 + i)) }) ∨ (bs 0 = 21 ∧ s.st = 4 ∧ w4v bs 5 = s.ss ∧ s.nm < w4v bs 9 ∧ w4v bs 9 = P.n ∧ hrecvS P s len bs = hexh (hon { s with nm := w4v bs 9 })))) := by
  by_cases hE : hrecvE P s len bs = 0
  · refine .inr ⟨hE, ?_⟩
    have eS : hrecvS P s len bs = htake s (bs 0) (w4v bs 5) (w4v bs 9) (bs 13) (fun i => bs (15 + i)) := by unfold hrecvS; rw [if_neg (by omega)]
    rw [eS]
    unfold hrecvE at hE
    by_cases hD : DE bs len ≠ 0
    · rw [if_pos hD] at hE; exact absurd hE hD
    · rw [if_neg hD] at hE
      refine ⟨by omega, ?_⟩
      clear eS hD
      generalize w4v bs 5 = ss at *
      generalize w4v bs 9 = num at *
      generalize (fun i => bs (15 + i)) = ds at *
      generalize bs 13 = fl at *
      generalize bs 0 = k at *
      unfold hrefE at hE
      by_cases hK : devK (k : Int) = false
      · rw [if_pos hK] at hE; omega
      · rw [if_neg hK] at hE
        by_cases hC : w4v bs 1 ≠ P.c
        · rw [if_pos hC] at hE; omega
        · rw [if_neg hC] at hE
          by_cases h1 : s.st = 1
          · rw [if_pos h1] at hE
            unfold hoffE at hE
            by_cases hk : k ≠ 17 ∨ ss ≤ s.ss
            · rw [if_pos hk] at hE; omega
            · obtain rfl : k = 17 := by omega
              exact .inl ⟨rfl, h1, by omega, by unfold htake; rw [if_pos rfl]⟩
          · rw [if_neg h1] at hE
            by_cases ha : ss ≠ s.ss ∨ hawaits P s k num (len - 19) = false
            · rw [if_pos ha] at hE; omega
            · have ha2 : hawaits P s k num (len - 19) = true := by
                cases hh : hawaits P s k num (len - 19) with
                | true => rfl
                | false => exact absurd (.inr hh) ha
              have hss : ss = s.ss := by omega
              unfold hawaits at ha2
              have ha3 := of_decide_eq_true ha2
              rcases ha3 with ⟨rfl, h2⟩ | ⟨rfl, h3⟩ | ⟨rfl, ⟨⟨h4, hm⟩, hp⟩, hi⟩ | ⟨rfl, ⟨h4, hm⟩, hp⟩
              · exact .inr (.inl ⟨rfl, h2, hss, by unfold htake; rw [if_neg (by omega), if_pos rfl]⟩)
              · exact .inr (.inr (.inl ⟨rfl, h3, hss, by unfold htake; rw [if_neg (by omega), if_neg (by omega), if_pos rfl]⟩))
              · exact .inr (.inr (.inr (.inl ⟨rfl, h4, hss, hm, hp, hi, by unfold htake; rw [if_neg (by omega), if_neg (by omega), if_neg (by omega), if_pos rfl]⟩)))
              · exact .inr (.inr (.inr (.inr ⟨rfl, h4, hss, hm, hp, by unfold htake; rw [if_neg (by omega), if_neg (by omega), if_neg (by omega), if_neg (by omega), if_pos rfl]⟩)))
  · exact .inl ⟨hE, by unfold hrecvS; rw [if_pos hE]⟩
theorem hexh_flds (s : Sh) : (hexh s).st = 5 ∧ (hexh s).ss = s.ss ∧ (hexh s).nm = s.nm ∧ (hexh s).sn = s.sn ∧ von (hexh s).v = false := by
  obtain ⟨_, f2, f3, f4, _⟩ := hlatch_flds s 80
  exact ⟨rfl, f2, f3, f4, vrun_off _⟩
structure Nh (s : Sh) (A B : Nat) : Prop where
  le : A ≤ s.ss
  lt : s.st = 2 ∨ s.st = 3 → A < s.ss
  rn : s.st = 4 → A = s.ss → B ≤ s.sn
theorem Nh.new_ : Nh hnew 0 0 := ⟨Nat.zero_le _, fun h => by have h : (1 : Nat) = 2 ∨ (1 : Nat) = 3 := h; omega, fun h => by have h : (1 : Nat) = 4 := h; omega⟩
theorem Nh.life (s : Sh) : Nh (hlife s) 0 0 := ⟨Nat.zero_le _, fun h => by have h : (1 : Nat) = 2 ∨ (1 : Nat) = 3 := h; omega, fun h => by have h : (1 : Nat) = 4 := h; omega⟩
theorem Nh.same {s s' : Sh} {A B : Nat} (h : Nh s A B) (h1 : s'.st = s.st) (h2 : s'.ss = s.ss) (h3 : s'.sn = s.sn) : Nh s' A B := ⟨by rw [h2]; exact h.le, by rw [h1, h2]; exact h.lt, by rw [h1, h2, h3]; exact h.rn⟩
theorem Nh.recv {A B : Nat} (h : Nh s A B) (len : Nat) (bs : Nat → Nat) : Nh (hrecvS P s len bs) A B := by
  have hle := h.le
  rcases hrecv_cases P s len bs with ⟨_, e⟩ | ⟨_, _, ⟨_, h1, h2, e⟩ | ⟨_, h1, h2, e⟩ | ⟨_, h1, h2, e⟩ | ⟨_, h1, h2, _, _, _, e⟩ | ⟨_, h1, h2, _, _, e⟩⟩
  · rw [e]; exact h.same rfl rfl rfl
  · rw [e]; exact ⟨by show A ≤ w4v bs 5; omega, fun _ => by show A < w4v bs 5; omega, fun k => by have k : (2 : Nat) = 4 := k; omega⟩
  · rw [e]; exact ⟨hle, fun _ => h.lt (.inl h1), fun k => by have k : (3 : Nat) = 4 := k; omega⟩
  · rw [e]; exact ⟨hle, fun k => by have k : (4 : Nat) = 2 ∨ (4 : Nat) = 3 := k; omega, fun _ k => by have := h.lt (.inr h1); have k : A = s.ss := k; omega⟩
  · rw [e]; exact h.same rfl rfl rfl
  · rw [e]
    obtain ⟨f1, f2, _, _, _⟩ := hexh_flds (hon { s with nm := w4v bs 9 })
    exact ⟨by rw [f2]; exact hle, fun k => by rw [f1] at k; omega, fun k => by rw [f1] at k; omega⟩
theorem Nh.tick {A B : Nat} (h : Nh s A B) (k : Int) : Nh (htickS P s k) A B := by
  unfold htickS
  split
  · exact h
  · split
    · obtain ⟨f1, f2, _, f4, _⟩ := hlatch_flds { s with dc := tk P.t s.dc k.toNat } 100
      exact h.same f1 f2 f4
    · exact h.same rfl rfl rfl
theorem Nh.write {A B : Nat} (h : Nh s A B) (len : Nat) (bs : Nat → Nat) (o : Bool) : Nh (hwriteS P s len bs o) A B := by
  unfold hwriteS
  split
  · exact h.same rfl rfl rfl
  · exact h
theorem Ih.on {P : Pm} {s : Sh} (h : Ih P s) (hk : Vok s.v) (ho : von s.v = true) : s.st = 4 ∧ s.v.lat = 0 := by
  obtain ⟨h1, h2⟩ := von_run ho
  rw [h.vr] at h1
  exact ⟨of_decide_eq_true h1, hk.sm h2⟩
end
end Go.Proofs.YtndjepeolamedaaGreat
namespace Go.Proofs.YtndjepeolamedaaGreat
set_option maxRecDepth 100000
open Go.RowKit
def Snt (w0 w : World) (L : Plh) (s : Sh) (a : Option Addr) (c : Nat) : Prop :=
  Calls Tryz.prog 39 #[.pointer (some ⟨L.e, 0, none⟩)] w fun e w' => ∃ v, e = .returned (.tuple #[v, .int .i64 (hsendE s)]) ∧ Hid (Twh w0 w' L (hsendS L.P s) ∧ Row8 w' a (hsendF L.P s).1 c (hsendF L.P s).2)
theorem ksend_any (w0 w : World) (L : Plh) (s : Sh) (h : Twh w0 w L s) (hv : Ih L.P s) (hL : s.L.length < 700000) :
    Calls Tryz.prog 38 #[.pointer (some ⟨L.d, 0, none⟩)] w fun e w' => ∃ a c, e = .returned (.tuple #[.slice a (hsendF L.P s).1 c, .int .i64 (hsendE s)]) ∧ Hid (Snt w0 w' L s a c ∧ Ih L.P (hsendS L.P s) ∧ (hsendS L.P s).L.length ≤ s.L.length + 2) := by
  obtain ⟨U, V, T⟩ := h
  obtain ⟨B, y⟩ := id T.dv
  have hP := y.pok
  have hby := hsend_byte L.P s y.apb
  refine (hsend_any L.d L.P U s w T.dv hv.ms ⟨hv.st1, hv.st5⟩ (hv.sent hP) hL).mono ?_
  rintro e w3 ⟨vx, rfl, h3⟩
  obtain ⟨U3, g3, x3, fx, kx⟩ := h3.out
  have T3 := T.dev g3 x3
  obtain ⟨ax, cx, rfl, _⟩ := fx.row hby
  refine ⟨ax, cx, rfl, ?_, hv.send hP, hsend_len L.P s⟩
  refine (hrsend_any L.e L.P V s w3 T3.rw hv (by omega)).mono ?_
  rintro e w5 ⟨vy, rfl, h5⟩
  obtain ⟨V5, g5, x5, fy, ky⟩ := h5.out
  have T5 := T3.ref g5 x5
  have fx5 : Fr w5 w.heap.size (.slice ax (hsendF L.P s).1 cx) (hsendF L.P s) := own_offk fx g5.off (fun k hk hm => by
    have := fx.ge k hk
    have := T.rw.ult k hm
    omega)
  obtain ⟨ax', cx', ex, rx⟩ := fx5.row hby
  simp only [Value.slice.injEq, true_and] at ex
  obtain ⟨rfl, rfl⟩ := ex
  exact ⟨vy, rfl, ⟨U3, V5, T5⟩, rx⟩
end Go.Proofs.YtndjepeolamedaaGreat
