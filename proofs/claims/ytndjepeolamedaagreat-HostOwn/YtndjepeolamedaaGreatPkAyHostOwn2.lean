/- Part 2 of the texts of HostOwn beside the packed ones: lists of lists, Apart, the law itself. -/
import Derived.Test.YtndjepeolamedaaGreatPkA46
import Derived.Test.YtndjepeolamedaaGreatPkAyHostOwn1
import Derived.Test.YtndjepeolamedaaGreatPkA51
namespace Go.Proofs.YtndjepeolamedaaGreat
set_option maxRecDepth 100000
open Go.RowKit
section
variable {w0 w w' : World} {L : Plh} {s t : Sh} {U V l : List Nat}
theorem Bth.others (h : Bth w0 w L s t [] U V) (q : Off l w w') (hU : ∀ k, k ∈ U → k ∉ l) (hV : ∀ k, k ∈ V → k ∉ l) (hl : ∀ k, k ∈ l → w0.heap.size ≤ k) (K : List (Nat × Option Obj)) (hK : ∀ x, x ∈ K → (x.1 < w'.heap.size ∧ x.1 ∉ U ∧ x.1 ∉ V) ∧ w'.heap[x.1]? = x.2) : Bth w0 w' { L with K := K } s t [] U V :=
  ⟨q.below h.bel hl h.bel.size, h.dv.off q hU, h.rw.off q hV, h.uv, h.vb, fun k hk => by simp at hk, hK⟩
end
def Snt2 (w0 wb w : World) (L : Plh) (s : Sh) (o : Option Nat) (c : Nat) : Prop :=
  Calls Tryz.prog 39 #[.pointer (some ⟨L.e, 0, none⟩)] w fun e w' => ∃ v, e = .returned (.tuple #[v, .int .i64 (hsendE s)]) ∧ Hid (∃ U V, Bth w0 w' L (hsendS L.P s) (hsendS L.P s) [] U V ∧ Lst 0 w' o (hsendF L.P s).1 c ∧ ∀ x, o = some x → wb.heap.size ≤ x ∧ x < w'.heap.size ∧ x ∉ U ∧ x ∉ V)
theorem hsendF_len (P : Pm) (s : Sh) : (hsendF P s).1 ≤ 27 := by
  have he : ∀ k c s n f len bs, (encF k c s n f len bs).1 ≤ 27 := fun k c s n f len bs => encI_len k c s n f len bs
  unfold hsendF hnext
  split
  · show 0 ≤ 27; omega
  · split
    · exact he _ _ _ _ _ _ _
    · split
      · exact he _ _ _ _ _ _ _
      · split
        · exact he _ _ _ _ _ _ _
        · split
          · exact he _ _ _ _ _ _ _
          · exact he _ _ _ _ _ _ _
theorem ksend2_any (w0 w : World) (L : Plh) (s : Sh) (U V : List Nat) (T : Bth w0 w L s s [] U V) (hv : Ih L.P s) (hL : s.L.length < 700000) :
    Calls Tryz.prog 38 #[.pointer (some ⟨L.d, 0, none⟩)] w fun e w' => ∃ o c, e = .returned (.tuple #[.slice (sa o) (hsendF L.P s).1 c, .int .i64 (hsendE s)]) ∧ Hid (Snt2 w0 w w' L s o c) := by
  obtain ⟨B, y⟩ := id T.dv
  have hP := y.pok
  refine (hsend_any L.d L.P U s w T.dv hv.ms ⟨hv.st1, hv.st5⟩ (hv.sent hP) hL).mono ?_
  rintro e w3 ⟨vx, rfl, h3⟩
  obtain ⟨U3, g3, x3, fx, kx⟩ := h3.out
  have T3 := T.dev g3 x3
  have fxo : w3.ownsRow w.heap.size 5 1 vx (hsendF L.P s).1 (CB (hsendF L.P s).2 (hsendF L.P s).1) := fx
  have hl27 := hsendF_len L.P s
  obtain ⟨o, c, rfl, hLs⟩ := Lst.ofOwn fxo (by omega)
  refine ⟨o, c, rfl, ?_⟩
  refine (hrsend_any L.e L.P V s w3 T3.rw hv (by omega)).mono ?_
  rintro e w5 ⟨vy, rfl, h5⟩
  obtain ⟨V5, g5, x5, fy, ky⟩ := h5.out
  have T5 := T3.ref g5 x5
  have far : ∀ x, o = some x → w.heap.size ≤ x ∧ x < w3.heap.size ∧ x ∉ U3 ∧ x ∉ V := fun x hx => by
    have h := hLs.out.lt hx
    exact ⟨h.1, h.2, kx x (by rw [hx]; rfl), fun hm => by have := T.rw.ult x hm; omega⟩
  refine ⟨vy, rfl, U3, V5, T5, (hLs.out.base (Nat.zero_le _)).keepO (fun x hx => g5.off.block x (far x hx).2.1 (far x hx).2.2.2), fun x hx => ?_⟩
  have f := far x hx
  exact ⟨f.1, Nat.lt_of_lt_of_le f.2.1 g5.off.size, f.2.2.1, g5.out f.2.1 f.2.2.2⟩
end Go.Proofs.YtndjepeolamedaaGreat
namespace Go.Proofs.YtndjepeolamedaaGreat
set_option maxRecDepth 100000
open Go.RowKit
structure Hk (s : Sh) (S st : Nat) : Prop where
  st : s.st = st
  ss : s.ss = S
  nm : s.nm = 0
  lat : s.v.lat = 0
def Hh (k : Nat) (s : Sh) : Prop := Hk s (if k = 1 then 0 else 1) k ∧ s.wt = false ∧ s.ms = 0 ∧ s.sn = 0
theorem hh_start (bs : Nat → Nat) : hwriteE P0 2 = 0 ∧ Hh 1 (hwriteS P0 hnew 2 bs false) := ⟨rfl, ⟨rfl, rfl, rfl, rfl⟩, rfl, rfl, rfl⟩
theorem hh_send {k : Nat} {s : Sh} (hk : 1 ≤ k ∧ k ≤ 4) (h : Hh k s) : hsendE s = 0 ∧ Hk (hsendS P0 s) (if k = 1 then 0 else 1) k ∧ (k ≤ 3 → (hsendS P0 s).sn = 0) := by
  obtain ⟨⟨h1, h2, h3, h4⟩, hw, hms, hsn⟩ := h
  have h5 : s.st ≠ 5 := by omega
  have hm : hmiss s = s := by unfold hmiss; rw [if_pos (.inr hw)]
  have eS : hsendS P0 s = { (hnext P0 s).1 with wt := true } := by unfold hsendS; rw [if_neg h5, hm]
  refine ⟨by unfold hsendE; rw [if_neg h5], ?_⟩
  rw [eS]
  have hn9 : P0.n = 9 := rfl
  unfold hnext
  have : k = 1 ∨ k = 2 ∨ k = 3 ∨ k = 4 := by omega
  rcases this with rfl | rfl | rfl | rfl
  · rw [if_pos h1]; exact ⟨⟨h1, h2, h3, h4⟩, fun _ => hsn⟩
  · rw [if_neg (by omega), if_pos h1]; exact ⟨⟨h1, h2, h3, h4⟩, fun _ => hsn⟩
  · rw [if_neg (by omega), if_neg (by omega), if_pos h1]; exact ⟨⟨h1, h2, h3, h4⟩, fun _ => hsn⟩
  · rw [if_neg (by omega), if_neg (by omega), if_neg (by omega), if_neg (by omega)]; exact ⟨⟨h1, h2, h3, h4⟩, fun e => by omega⟩
theorem hh_recv {k : Nat} {s : Sh} (hk : 1 ≤ k ∧ k ≤ 4) (hv : Ih P0 s) (h : Hk s (if k = 1 then 0 else 1) k) (hsn : k ≤ 3 → s.sn = 0) {bs : Nat → Nat} {f : Fm} {x : Nat} (fo : Fh P0 s (k : Int) 1 0 false 1 bs x f) :
    hrecvE P0 s f.1 f.2 = 0 ∧ (k ≤ 3 → Hh (k + 1) (hrecvS P0 s f.1 f.2)) ∧ (k = 4 → von (hrecvS P0 s f.1 f.2).v = true ∧ ∀ i, i < 1 → vout (hrecvS P0 s f.1 f.2).v i = bs i) := by
  obtain ⟨h1, h2, h3, h4⟩ := h
  have : k = 1 ∨ k = 2 ∨ k = 3 ∨ k = 4 := by omega
  rcases this with rfl | rfl | rfl | rfl
  · have h2 : s.ss = 0 := h2
    have hf := fo.1 rfl
    rw [show hofs s 1 = 1 by unfold hofs; rw [h2]; rfl] at hf
    have t : Told f 17 P0.c 1 0 0 4 (osig P0 false) := by rw [hf]; exact told_enc P0_ok.c (by omega) (by omega) (lw_k17 (by decide) (by omega))
    obtain ⟨e1, e0, _⟩ := recv_told (P := P0) (s := s) t
    have hr : hrefE P0 s 17 P0.c 1 0 4 (fun i => f.2 (15 + i)) = 0 := by
      unfold hrefE
      rw [if_neg (by decide), if_neg (by simp), if_pos h1]
      unfold hoffE
      rw [if_neg (by omega), if_pos (sig_of t.bs)]
    refine ⟨e1.trans hr, fun _ => ?_, fun e => by omega⟩
    rw [e0 hr]
    exact ⟨⟨rfl, rfl, h3, h4⟩, rfl, rfl, hsn (by omega)⟩
  · have h2 : s.ss = 1 := h2
    have hf := fo.2.1 rfl
    rw [hses_false, h2] at hf
    have t : Told f 18 P0.c 1 0 0 0 (fun _ => 0) := by rw [hf]; exact told_enc P0_ok.c (by omega) (by omega) (lw_k18 (by decide) (by omega))
    obtain ⟨e1, e0, _⟩ := recv_told (P := P0) (s := s) t
    have hr : hrefE P0 s 18 P0.c 1 0 0 (fun i => f.2 (15 + i)) = 0 := by
      unfold hrefE
      rw [if_neg (by decide), if_neg (by simp), if_neg (by omega), if_neg ?_]
      rintro (k | k)
      · omega
      · unfold hawaits at k; have := of_decide_eq_false k; omega
    refine ⟨e1.trans hr, fun _ => ?_, fun e => by omega⟩
    rw [e0 hr]
    exact ⟨⟨rfl, h2, h3, h4⟩, rfl, rfl, hsn (by omega)⟩
  · have h2 : s.ss = 1 := h2
    have hf := fo.2.2.1 rfl
    rw [hses_false, h2] at hf
    have t : Told f 19 P0.c 1 0 0 0 (fun _ => 0) := by rw [hf]; exact told_enc P0_ok.c (by omega) (by omega) (lw_k19 (by decide) (by omega))
    obtain ⟨e1, e0, _⟩ := recv_told (P := P0) (s := s) t
    have hr : hrefE P0 s 19 P0.c 1 0 0 (fun i => f.2 (15 + i)) = 0 := by
      unfold hrefE
      rw [if_neg (by decide), if_neg (by simp), if_neg (by omega), if_neg ?_]
      rintro (k | k)
      · omega
      · unfold hawaits at k; have := of_decide_eq_false k; omega
    refine ⟨e1.trans hr, fun _ => ?_, fun e => by omega⟩
    rw [e0 hr]
    exact ⟨⟨rfl, h2, h3, (vrun_latH s.v true).trans h4⟩, rfl, rfl, hsn (by omega)⟩
  · have h2 : s.ss = 1 := h2
    have hf := fo.2.2.2.1 rfl
    rw [hses_false, h2, show hnum s 1 = 1 by unfold hnum; rw [h3]; rfl] at hf
    have t : Told f 20 P0.c 1 1 0 1 bs := by rw [hf]; exact told_enc (f := 0) P0_ok.c (by omega) (by omega) (lw_k20 (f := 0) (by decide) (by omega) (by omega) (Nat.zero_le _) (by omega) (by omega))
    obtain ⟨e1, e0, _⟩ := recv_told (P := P0) (s := s) t
    have hr : hrefE P0 s 20 P0.c 1 1 1 (fun i => f.2 (15 + i)) = 0 := by
      unfold hrefE
      rw [if_neg (by decide), if_neg (by simp), if_neg (by omega), if_neg ?_]
      rintro (k | k)
      · omega
      · unfold hawaits at k
        have e : P0.n = 9 := rfl
        have e2 : P0.i = 1 := rfl
        have := of_decide_eq_false k
        omega
    refine ⟨e1.trans hr, fun e => by omega, fun _ => ?_⟩
    rw [e0 hr]
    have hrun : s.v.run = true := by rw [hv.vr, h1]; rfl
    have hE : (htake s 20 1 1 0 (fun i => f.2 (15 + i))).v = vtake (vhold (vfresh s.v) false) (fun i => f.2 (15 + i)) := rfl
    rw [hE]
    have hb : vtake (vhold (vfresh s.v) false) (fun i => f.2 (15 + i)) = { vhold (vfresh s.v) false with sm := true, bs := fun i => f.2 (15 + i) } := by
      unfold vtake
      rw [if_pos ⟨hrun, h4⟩]
    have ho : von (vtake (vhold (vfresh s.v) false) (fun i => f.2 (15 + i))) = true := by
      rw [hb]
      unfold von
      show (s.v.run && (!(false && s.v.run) && true)) = true
      rw [hrun]; rfl
    refine ⟨ho, fun i hi => ?_⟩
    unfold vout
    rw [ho, if_pos rfl, hb]
    exact t.bs i hi
end Go.Proofs.YtndjepeolamedaaGreat
