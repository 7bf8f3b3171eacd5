/- Part 2 of the texts of DeviceOwn beside the packed ones: lists of lists, Apart, the law itself. -/
import Derived.Test.YtndjepeolamedaaGreatPkB36
import Derived.Test.YtndjepeolamedaaGreatPkByDeviceOwn1
namespace Go.Proofs.YtndjepeolamedaaGreat
set_option maxRecDepth 100000
open Go.RowKit
structure Dk (s : Sd) (k : Nat) : Prop where
  st : s.st = k
  ms : k = 1 → s.ms = M0
  ss : 2 ≤ k → s.ss = 1
  nm : s.nm = 0
  lat : s.v.lat = 0
theorem dk_start (bs : Nat → Nat) : dwriteE P0 (dnew M0) 1 = 0 ∧ Dk (dwriteS P0 (dnew M0) 1 bs false) 1 := ⟨rfl, rfl, fun _ => rfl, fun e => by omega, rfl, rfl⟩
theorem dk_recv {k : Nat} {s : Sd} (hk : 1 ≤ k ∧ k ≤ 4) (hv : Iv P0 s) (h : Dk s k) {bs : Nat → Nat} {f : Fm} {x : Nat} (fo : Fo P0 s (k : Int) 1 0 false 2 bs x f) :
    (drecv P0 9 16 s f.1 f.2).e = 0 ∧ (k ≤ 3 → Dk (drecv P0 9 16 s f.1 f.2).s (k + 1)) ∧ (k = 4 → von (drecv P0 9 16 s f.1 f.2).s.v = true ∧ ∀ i, i < 2 → vout (drecv P0 9 16 s f.1 f.2).s.v i = bs i) := by
  obtain ⟨h1, hms, h2, h3, h4⟩ := h
  have : k = 1 ∨ k = 2 ∨ k = 3 ∨ k = 4 := by omega
  rcases this with rfl | rfl | rfl | rfl
  · have hf := fo.1 rfl
    have hM := hms rfl
    obtain ⟨n1, n2⟩ := nx_ar (mx := 9) (n := 16) (s := M0) (by omega) rfl (by decide) rfl (by decide)
    have hvz := (nx_vz (mx := 9) (n := 16) (s := M0) (by omega) rfl (by decide) (by omega)).1 n1
    have hz : vz M0.bs = 0 := by decide
    have hX : (nx 9 16 M0.bs false M0).v = 1 := by omega
    have hd : dodd s = s := by
      unfold dodd
      rw [if_neg (by unfold dbusy; simp; omega)]
    have hw : dwish P0 9 16 s = dbegin P0 9 16 s := by
      unfold dwish
      rw [hd, if_neg (by omega), if_neg (by omega)]
    have hb : dbegin P0 9 16 s = ⟨{ dleave { s with ms := (nx 9 16 M0.bs false M0).s } 2 with ss := (nx 9 16 M0.bs false M0).v }, doffer P0 { dleave { s with ms := (nx 9 16 M0.bs false M0).s } 2 with ss := (nx 9 16 M0.bs false M0).v }, 0⟩ := by
      unfold dbegin
      rw [hM, if_neg (by rw [n1]; decide), if_neg (by rw [n1]; decide)]
    have e : drecv P0 9 16 s f.1 f.2 = dbegin P0 9 16 s := by
      rw [hf, wish_F]
      unfold drecv
      rw [if_neg (by omega), hear_wish P0 P0_ok, hw, hb, if_neg (by rintro ⟨e, _⟩; exact e rfl)]
    rw [e, hb, hX]
    exact ⟨rfl, fun _ => ⟨rfl, fun e => by omega, fun _ => rfl, rfl, (vrun_lat _ _).trans h4⟩, fun e => by omega⟩
  · have hss := h2 (by omega)
    obtain ⟨a, b, c⟩ := rp2 (k := 1) (od := s.od) (.inl rfl) ⟨h1, hss, rfl, h3⟩ (fo.2.1 rfl rfl)
    refine ⟨a, fun _ => ?_, fun e => by omega⟩
    rw [c, show dechoS s = don { s with st := 3 } from if_pos h1]
    exact ⟨rfl, fun e => by omega, fun _ => hss, h3, h4⟩
  · have hss := h2 (by omega)
    obtain ⟨a, b, c⟩ := rp3 (k := 2) (od := s.od) (.inl rfl) ⟨h1, hss, rfl, h3⟩ (fo.2.2.1 rfl)
    refine ⟨a, fun _ => ?_, fun e => by omega⟩
    rw [c, show dstartS s = don { s with st := 4, v := vrun s.v true } from if_pos h1]
    exact ⟨rfl, fun e => by omega, fun _ => hss, h3, (vrun_lat _ _).trans h4⟩
  · have hss := h2 (by omega)
    have hf := fo.2.2.2.1 rfl
    have hn : onum s 1 = 1 := by unfold onum; rw [h3]; rfl
    rw [oses_false, hss, hn] at hf
    obtain ⟨bs', hb, e⟩ := drecv_encR P0 P0_ok 9 16 s 4 1 1 0 2 bs rfl (by decide) (by omega) (by omega) (by omega)
    have ht : dtake P0 9 16 s 4 1 1 0 2 bs' = ⟨ddataS s 1 0 bs', dsay P0 (ddataS s 1 0 bs') 20 (s.sn + 1) (dflags (ddataS s 1 0 bs')) P0.i s.ap, 0⟩ := by
      unfold dtake
      rw [if_neg (by omega), if_neg (by omega), if_neg (by omega), if_pos ⟨rfl, ⟨hss.symm, h1, by omega⟩, by decide, rfl⟩]
    rw [ht, if_neg (by rintro ⟨e, _⟩; exact e rfl)] at e
    have e' : drecv P0 9 16 s (encI 4 P0.c 1 1 0 2 bs).1 (encI 4 P0.c 1 1 0 2 bs).2 = ⟨ddataS s 1 0 bs', dsay P0 (ddataS s 1 0 bs') 20 (s.sn + 1) (dflags (ddataS s 1 0 bs')) P0.i s.ap, 0⟩ := e
    rw [hf, e']
    refine ⟨rfl, fun e => by omega, fun _ => ?_⟩
    have hrun : s.v.run = true := by rw [hv.vr, h1]; rfl
    have hE : (ddataS s 1 0 bs').v = vtake (vhold (vfresh s.v) false) bs' := rfl
    show von (ddataS s 1 0 bs').v = true ∧ ∀ i, i < 2 → vout (ddataS s 1 0 bs').v i = bs i
    rw [hE]
    have hbb : vtake (vhold (vfresh s.v) false) bs' = { vhold (vfresh s.v) false with sm := true, bs := bs' } := by
      unfold vtake
      rw [if_pos ⟨hrun, h4⟩]
    have ho : von (vtake (vhold (vfresh s.v) false) bs') = true := by
      rw [hbb]
      unfold von
      show (s.v.run && (!(false && s.v.run) && true)) = true
      rw [hrun]; rfl
    refine ⟨ho, fun i hi => ?_⟩
    unfold vout
    rw [ho, if_pos rfl, hbb]
    exact hb i hi
end Go.Proofs.YtndjepeolamedaaGreat
