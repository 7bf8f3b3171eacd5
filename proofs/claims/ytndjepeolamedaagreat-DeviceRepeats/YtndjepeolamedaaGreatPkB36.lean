/- Part 37 of the texts on which the proofs of layer 13 rest: contracts of Go functions. -/
import Derived.Test.YtndjepeolamedaaGreatPkB34
namespace Go.Proofs.YtndjepeolamedaaGreat
set_option maxRecDepth 100000
open Go.RowKit
theorem drecv_enc (P : Pm) (hP : Pok P) (mx n : Nat) (s : Sd) (k ss num fl len : Nat) (bs : Nat → Nat) (hk : hostK k = true) (hE : LW k P.c ss num fl len len = 0) (hss : ss < 4294967296) (hnum : num < 4294967296) (hu : s.st ≠ 6) :
    ∃ bs' : Nat → Nat, (∀ i, i < len → bs' i = bs i) ∧ (drecv P mx n s (encF k P.c ss num fl len bs).1 (encF k P.c ss num fl len bs).2).s = (if (dtake P mx n s k ss num fl len bs').e ≠ 0 ∧ (dtake P mx n s k ss num fl len bs').e ≠ 70 then dnote (dtake P mx n s k ss num fl len bs').s (dtake P mx n s k ss num fl len bs').e else (dtake P mx n s k ss num fl len bs').s) := by
  have hl : len ≤ 8 := by have := (LW_zero hE).2.2.2.1; omega
  obtain ⟨e1, e2, e3, e4, e5, e6, e7⟩ := DE_back k P.c ss num fl len bs hP.c hss hnum hl hE
  have hF : encF k P.c ss num fl len bs = (15 + len + 4, PM.sl (fr k P.c ss num fl len bs) (15 + len)) := if_pos hE
  rw [hF]
  generalize PM.sl (fr k P.c ss num fl len bs) (15 + len) = SL at *
  refine ⟨fun i => SL (15 + i), e7, ?_⟩
  have hh : dhear P mx n s (15 + len + 4) SL = dtake P mx n s k ss num fl len (fun i => SL (15 + i)) := by
    unfold dhear
    rw [if_neg (by omega), if_neg (by rw [e2, hk]; simp), if_neg (by omega), e2, e4, e5, e6, show 15 + len + 4 - 19 = len by omega]
  show (drecv P mx n s (15 + len + 4) SL).s = _
  unfold drecv
  rw [if_neg hu, hh]
  split <;> rfl
structure Gp (s : Sd) (st od nm : Nat) : Prop where
  st : s.st = st
  ss : s.ss = 1
  od : s.od = od
  nm : s.nm = nm
  vz : vz s.ms.bs = 1
  ar : s.ms.ar = false
  lat : s.v.lat = 0
theorem nx_ar {mx n : Nat} {s : Ms} (hn : 10 ≤ n) (ho : s.off = false) (hl : 0 ≤ s.l) (ha : s.ar = false) (hm : vz s.bs < mx) : (nx mx n s.bs false s).e = 0 ∧ (nx mx n s.bs false s).s.ar = false := by
  unfold nx
  rw [if_neg (by simp [ho]), if_neg (by omega)]
  rcases sq_all n (six (tg s.bs) (vz s.bs + 1)) s (fun x hx => (six_in _ _ n (tg_lt _) hn x hx).1) ho hl with ⟨h1, h2, _⟩ | ⟨_, _, h3, _⟩
  · rw [if_pos h1]
    refine ⟨rfl, ?_⟩
    show (sqS n (six (tg s.bs) (vz s.bs + 1)) s).ar = false
    rw [h2]; exact ha
  · rw [ha] at h3; cases h3
theorem vrun_lat (v : Vs) (o : Bool) : (vrun v o).lat = v.lat := by unfold vrun; split <;> rfl
theorem vtake_lat (v : Vs) (bs : Nat → Nat) : (vtake v bs).lat = v.lat := by unfold vtake; split <;> rfl
theorem wish_F : encI 1 P0.c 0 0 0 4 (osig P0 false) = wishF P0 := by rw [osig_f]; exact wish_enc P0 P0_ok
theorem g1 {f : Fm} (hf : f = encI 1 P0.c 0 0 0 4 (osig P0 false)) : Gp (drecv P0 99 16 (dnew M0) f.1 f.2).s 2 0 0 := by
  rw [hf, wish_F]
  obtain ⟨n1, n2⟩ := nx_ar (mx := 99) (n := 16) (s := M0) (by omega) rfl (by decide) rfl (by decide)
  have hv := (nx_vz (mx := 99) (n := 16) (s := M0) (by omega) rfl (by decide) (by omega)).1 n1
  have hz : vz M0.bs = 0 := by decide
  have hb : dbegin P0 99 16 (dnew M0) = ⟨{ dleave { dnew M0 with ms := (nx 99 16 M0.bs false M0).s } 2 with ss := (nx 99 16 M0.bs false M0).v }, doffer P0 { dleave { dnew M0 with ms := (nx 99 16 M0.bs false M0).s } 2 with ss := (nx 99 16 M0.bs false M0).v }, 0⟩ := by
    unfold dbegin
    have e1 : (nx 99 16 (dnew M0).ms.bs false (dnew M0).ms).e = 0 := n1
    rw [if_neg (by rw [e1]; decide), if_neg (by rw [e1]; decide)]
    rfl
  have hw : dwish P0 99 16 (dnew M0) = dbegin P0 99 16 (dnew M0) := rfl
  unfold drecv
  rw [if_neg (by show (1 : Nat) ≠ 6; omega), hear_wish P0 P0_ok, hw, hb, if_neg (by rintro ⟨e, _⟩; exact e rfl)]
  generalize nx 99 16 M0.bs false M0 = X at *
  exact ⟨rfl, by show X.v = 1; omega, rfl, rfl, by show vz X.s.bs = 1; omega, n2, rfl⟩
theorem g2 {s : Sd} (h : Gp s 2 0 0) {f : Fm} (hf : f = encI 2 P0.c s.ss 0 0 4 (dsg P0)) : Gp (drecv P0 99 16 s f.1 f.2).s 3 0 0 := by
  rw [hf, h.ss]
  obtain ⟨bs', hb, e⟩ := drecv_enc P0 P0_ok 99 16 s 2 1 0 0 4 (dsg P0) rfl (by decide) (by omega) (by omega) (by rw [h.st]; omega)
  have hs : dsigned P0 4 bs' = true := decide_eq_true (BA_congr _ _ 4 hb)
  have ht : dtake P0 99 16 s 2 1 0 0 4 bs' = ⟨dechoS s, dsay P0 (dechoS s) 18 0 0 0 (fun _ => 0), 0⟩ := by
    unfold dtake
    rw [if_neg (by omega), if_pos ⟨rfl, h.ss.symm, .inl h.st⟩, if_pos hs]
  rw [ht, if_neg (by rintro ⟨e, _⟩; exact e rfl)] at e
  have e' : (drecv P0 99 16 s (encI 2 P0.c 1 0 0 4 (dsg P0)).1 (encI 2 P0.c 1 0 0 4 (dsg P0)).2).s = dechoS s := e
  rw [e', show dechoS s = don { s with st := 3 } from if_pos h.st]
  exact ⟨rfl, h.ss, rfl, h.nm, h.vz, h.ar, h.lat⟩
theorem g3 {s : Sd} (h : Gp s 3 0 0) {f : Fm} (hf : f = encI 3 P0.c (oses s false) 0 0 0 (fun _ => 0)) : Gp (drecv P0 99 16 s f.1 f.2).s 4 0 0 := by
  rw [hf, oses_false, h.ss]
  obtain ⟨bs', hb, e⟩ := drecv_enc P0 P0_ok 99 16 s 3 1 0 0 0 (fun _ => 0) rfl (by decide) (by omega) (by omega) (by rw [h.st]; omega)
  have ht : dtake P0 99 16 s 3 1 0 0 0 bs' = ⟨dstartS s, dsay P0 (dstartS s) 19 0 0 0 (fun _ => 0), 0⟩ := by
    unfold dtake
    rw [if_neg (by omega), if_neg (by omega), if_pos ⟨rfl, h.ss.symm, .inl h.st⟩]
  rw [ht, if_neg (by rintro ⟨e, _⟩; exact e rfl)] at e
  have e' : (drecv P0 99 16 s (encI 3 P0.c 1 0 0 0 (fun _ => 0)).1 (encI 3 P0.c 1 0 0 0 (fun _ => 0)).2).s = dstartS s := e
  rw [e', show dstartS s = don { s with st := 4, v := vrun s.v true } from if_pos h.st]
  exact ⟨rfl, h.ss, rfl, h.nm, h.vz, h.ar, (vrun_lat _ _).trans h.lat⟩
theorem g4 {s : Sd} (h : Gp s 4 0 0) {f : Fm} {bs : Nat → Nat} (hf : f = encI 4 P0.c (oses s false) (onum s 1) 0 2 bs) : Gp (drecv P0 99 16 s f.1 f.2).s 4 0 1 := by
  have hn : onum s 1 = 1 := by unfold onum; rw [h.nm]; rfl
  rw [hf, oses_false, h.ss, hn]
  obtain ⟨bs', hb, e⟩ := drecv_enc P0 P0_ok 99 16 s 4 1 1 0 2 bs rfl (by decide) (by omega) (by omega) (by rw [h.st]; omega)
  have ht : dtake P0 99 16 s 4 1 1 0 2 bs' = ⟨ddataS s 1 0 bs', dsay P0 (ddataS s 1 0 bs') 20 (s.sn + 1) (dflags (ddataS s 1 0 bs')) P0.i s.ap, 0⟩ := by
    unfold dtake
    rw [if_neg (by omega), if_neg (by omega), if_neg (by omega), if_pos ⟨rfl, ⟨h.ss.symm, h.st, by rw [h.nm]; omega⟩, by decide, rfl⟩]
  rw [ht, if_neg (by rintro ⟨e, _⟩; exact e rfl)] at e
  have e' : (drecv P0 99 16 s (encI 4 P0.c 1 1 0 2 bs).1 (encI 4 P0.c 1 1 0 2 bs).2).s = ddataS s 1 0 bs' := e
  rw [e']
  exact ⟨h.st, h.ss, rfl, rfl, h.vz, h.ar, (vtake_lat _ _).trans h.lat⟩
theorem dodd_more {s : Sd} {st od nm : Nat} (h : Gp s st od nm) (hst : st = 2 ∨ st = 3 ∨ st = 4) (ho : od < 3) : dodd s = { s with od := od + 1 } := by
  have hb : dbusy s = true := decide_eq_true (by rw [h.st]; exact hst)
  unfold dodd
  rw [if_pos hb, if_pos (by rw [h.od]; omega), h.od]
theorem godd {s : Sd} {st od nm : Nat} (h : Gp s st od nm) (hst : st = 2 ∨ st = 3 ∨ st = 4) (ho : od < 3) {f : Fm} (hf : f = encI 3 P0.c (oses s true) 0 0 0 (fun _ => 0)) : Gp (drecv P0 99 16 s f.1 f.2).s st (od + 1) nm := by
  have hs : oses s true = 2 := by unfold oses; rw [if_pos rfl, h.ss]
  rw [hf, hs]
  obtain ⟨bs', hb, e⟩ := drecv_enc P0 P0_ok 99 16 s 3 2 0 0 0 (fun _ => 0) rfl (by decide) (by omega) (by omega) (by rw [h.st]; omega)
  have h1 := h.ss
  have ht : dtake P0 99 16 s 3 2 0 0 0 bs' = drefuse P0 s 130 := by
    unfold dtake
    rw [if_neg (by omega), if_neg (by omega), if_neg (by omega), if_neg (by omega), if_neg (by omega)]
  rw [ht, if_pos ⟨by show (130 : Int) ≠ 0; omega, by show (130 : Int) ≠ 70; omega⟩] at e
  have e' : (drecv P0 99 16 s (encI 3 P0.c 2 0 0 0 (fun _ => 0)).1 (encI 3 P0.c 2 0 0 0 (fun _ => 0)).2).s = dnote (dodd s) 130 := e
  rw [e', dodd_more h hst ho]
  exact ⟨h.st, h.ss, rfl, h.nm, h.vz, h.ar, h.lat⟩
theorem gwish {s : Sd} {st od nm : Nat} (h : Gp s st od nm) (hst : st = 2 ∨ st = 3 ∨ st = 4) (ho : od < 3) {f : Fm} (hf : f = encI 1 P0.c 0 0 0 4 (osig P0 false)) : Gp (drecv P0 99 16 s f.1 f.2).s st (od + 1) nm := by
  rw [hf, wish_F]
  have hd := dodd_more h hst ho
  have hds : (dodd s).st = st := by rw [hd]; exact h.st
  have hw : (dwish P0 99 16 s).s = dodd s ∧ (dwish P0 99 16 s).e = 130 := by
    unfold dwish
    by_cases h2 : (dodd s).st = 2
    · rw [if_pos h2]; exact ⟨rfl, rfl⟩
    · rw [if_neg h2, if_pos (by omega)]; exact ⟨rfl, rfl⟩
  have e : (drecv P0 99 16 s (wishF P0).1 (wishF P0).2).s = dnote (dodd s) 130 := by
    unfold drecv
    rw [if_neg (by rw [h.st]; omega), hear_wish P0 P0_ok, if_pos ⟨by rw [hw.2]; omega, by rw [hw.2]; omega⟩]
    show dnote (dwish P0 99 16 s).s (dwish P0 99 16 s).e = _
    rw [hw.1, hw.2]
  rw [e, hd]
  exact ⟨h.st, h.ss, rfl, h.nm, h.vz, h.ar, h.lat⟩
structure Ge (s : Sd) (st : Nat) : Prop where
  st2 : s.st = 2
  ss2 : s.ss = 2
  lat : s.v.lat = if st = 4 then 131 else 0
theorem gend {s : Sd} {st nm : Nat} (h : Gp s st 3 nm) (hst : st = 2 ∨ st = 3 ∨ st = 4) (M : Mo 99 16 s) {f : Fm} (hf : f = encI 1 P0.c 0 0 0 4 (osig P0 false)) : Ge (drecv P0 99 16 s f.1 f.2).s st := by
  rw [hf, wish_F]
  have hu : s.st ≠ 6 := by rw [h.st]; omega
  have hb : dbusy s = true := decide_eq_true (by rw [h.st]; exact hst)
  have hd : dodd s = dleave (if s.st = 4 then dlatch { s with od := 4 } 131 else { s with od := 4 }) 1 := by
    unfold dodd
    rw [if_pos hb, if_neg (by rw [h.od]; omega), h.od]
  have hds : (dodd s).st = 1 := by rw [hd]; rfl
  have hdm := dodd_ms s
  have hdl : (dodd s).v.lat = if st = 4 then 131 else 0 := by
    rw [hd]
    show (vrun (if s.st = 4 then dlatch { s with od := 4 } 131 else { s with od := 4 }).v false).lat = _
    rw [vrun_lat]
    by_cases h4 : st = 4
    · rw [if_pos (by rw [h.st]; exact h4), if_pos h4, dlatch_v]
      unfold vtrip
      rw [if_neg (by omega)]
      show (if s.v.lat = 0 then (131 : Int) else s.v.lat) = 131
      rw [if_pos h.lat]
    · rw [if_neg (by rw [h.st]; exact h4), if_neg h4]
      exact h.lat
  have hvz : vz (dodd s).ms.bs = 1 := by rw [hdm]; exact h.vz
  obtain ⟨n1, _⟩ := nx_ar (mx := 99) (n := 16) (s := (dodd s).ms) (by omega) (by rw [hdm]; exact M.off hu) (by rw [hdm]; exact M.l0) (by rw [hdm]; exact h.ar) (by omega)
  have hv := (nx_vz (mx := 99) (n := 16) (s := (dodd s).ms) (by omega) (by rw [hdm]; exact M.off hu) (by rw [hdm]; exact M.l0) (by omega)).1 n1
  have hw : dwish P0 99 16 s = dbegin P0 99 16 (dodd s) := by unfold dwish; rw [if_neg (by omega), if_neg (by omega)]
  have hbg : dbegin P0 99 16 (dodd s) = ⟨{ dleave { dodd s with ms := (nx 99 16 (dodd s).ms.bs false (dodd s).ms).s } 2 with ss := (nx 99 16 (dodd s).ms.bs false (dodd s).ms).v }, doffer P0 { dleave { dodd s with ms := (nx 99 16 (dodd s).ms.bs false (dodd s).ms).s } 2 with ss := (nx 99 16 (dodd s).ms.bs false (dodd s).ms).v }, 0⟩ := by
    unfold dbegin
    rw [if_neg (by rw [n1]; decide), if_neg (by rw [n1]; decide)]
  unfold drecv
  rw [if_neg hu, hear_wish P0 P0_ok, hw, hbg, if_neg (by rintro ⟨e, _⟩; exact e rfl)]
  generalize nx 99 16 (dodd s).ms.bs false (dodd s).ms = X at *
  refine ⟨rfl, by show X.v = 2; omega, ?_⟩
  show (vrun (dodd s).v false).lat = _
  rw [vrun_lat]; exact hdl
end Go.Proofs.YtndjepeolamedaaGreat
namespace Go.Proofs.YtndjepeolamedaaGreat
set_option maxRecDepth 100000
open Go.RowKit
def rpF (k : Nat) : Fm := if k = 1 then encF 17 P0.c 1 0 0 4 (dsg P0) else encF (16 + k) P0.c 1 0 0 0 (fun _ => 0)
theorem rpF_byte (k : Nat) : ∀ i, i < (rpF k).1 → (rpF k).2 i < 256 := by
  unfold rpF
  split
  · exact encF_byte _ _ _ _ _ _ _ (dsg_byte P0)
  · exact encF_byte _ _ _ _ _ _ _ no_byte
structure Rq (s : Sd) (k od : Nat) : Prop where
  st : s.st = k + 1
  ss : s.ss = 1
  od : s.od = od
  nm : s.nm = 0
theorem drecv_encR (P : Pm) (hP : Pok P) (mx n : Nat) (s : Sd) (k ss num fl len : Nat) (bs : Nat → Nat) (hk : hostK k = true) (hE : LW k P.c ss num fl len len = 0) (hss : ss < 4294967296) (hnum : num < 4294967296) (hu : s.st ≠ 6) :
    ∃ bs' : Nat → Nat, (∀ i, i < len → bs' i = bs i) ∧ drecv P mx n s (encF k P.c ss num fl len bs).1 (encF k P.c ss num fl len bs).2 = (if (dtake P mx n s k ss num fl len bs').e ≠ 0 ∧ (dtake P mx n s k ss num fl len bs').e ≠ 70 then ⟨dnote (dtake P mx n s k ss num fl len bs').s (dtake P mx n s k ss num fl len bs').e, (dtake P mx n s k ss num fl len bs').f, (dtake P mx n s k ss num fl len bs').e⟩ else dtake P mx n s k ss num fl len bs') := by
  have hl : len ≤ 8 := by have := (LW_zero hE).2.2.2.1; omega
  obtain ⟨e1, e2, e3, e4, e5, e6, e7⟩ := DE_back k P.c ss num fl len bs hP.c hss hnum hl hE
  have hF : encF k P.c ss num fl len bs = (15 + len + 4, PM.sl (fr k P.c ss num fl len bs) (15 + len)) := if_pos hE
  rw [hF]
  generalize PM.sl (fr k P.c ss num fl len bs) (15 + len) = SL at *
  refine ⟨fun i => SL (15 + i), e7, ?_⟩
  have hh : dhear P mx n s (15 + len + 4) SL = dtake P mx n s k ss num fl len (fun i => SL (15 + i)) := by
    unfold dhear
    rw [if_neg (by omega), if_neg (by rw [e2, hk]; simp), if_neg (by omega), e2, e4, e5, e6, show 15 + len + 4 - 19 = len by omega]
  show drecv P mx n s (15 + len + 4) SL = _
  unfold drecv
  rw [if_neg hu, hh]
theorem rp1 {f : Fm} (hf : f = encI 1 P0.c 0 0 0 4 (osig P0 false)) : (drecv P0 9 16 (dnew M0) f.1 f.2).e = 0 ∧ (drecv P0 9 16 (dnew M0) f.1 f.2).f = rpF 1 ∧ Rq (drecv P0 9 16 (dnew M0) f.1 f.2).s 1 0 := by
  rw [hf, wish_F]
  obtain ⟨n1, n2⟩ := nx_ar (mx := 9) (n := 16) (s := M0) (by omega) rfl (by decide) rfl (by decide)
  have hv := (nx_vz (mx := 9) (n := 16) (s := M0) (by omega) rfl (by decide) (by omega)).1 n1
  have hz : vz M0.bs = 0 := by decide
  have hb : dbegin P0 9 16 (dnew M0) = ⟨{ dleave { dnew M0 with ms := (nx 9 16 M0.bs false M0).s } 2 with ss := (nx 9 16 M0.bs false M0).v }, doffer P0 { dleave { dnew M0 with ms := (nx 9 16 M0.bs false M0).s } 2 with ss := (nx 9 16 M0.bs false M0).v }, 0⟩ := by
    unfold dbegin
    have e1 : (nx 9 16 (dnew M0).ms.bs false (dnew M0).ms).e = 0 := n1
    rw [if_neg (by rw [e1]; decide), if_neg (by rw [e1]; decide)]
    rfl
  have hw : dwish P0 9 16 (dnew M0) = dbegin P0 9 16 (dnew M0) := rfl
  have hX : (nx 9 16 M0.bs false M0).v = 1 := by omega
  have e : drecv P0 9 16 (dnew M0) (wishF P0).1 (wishF P0).2 = dbegin P0 9 16 (dnew M0) := by
    unfold drecv
    rw [if_neg (by show (1 : Nat) ≠ 6; omega), hear_wish P0 P0_ok, hw, hb, if_neg (by rintro ⟨e, _⟩; exact e rfl)]
  rw [e, hb, hX]
  exact ⟨rfl, rfl, ⟨rfl, rfl, rfl, rfl⟩⟩
theorem rp2 {s : Sd} {k od : Nat} (hk : k = 1 ∨ k = 2) (h : Rq s k od) {f : Fm} (hf : f = encI 2 P0.c s.ss 0 0 4 (dsg P0)) : (drecv P0 9 16 s f.1 f.2).e = 0 ∧ (drecv P0 9 16 s f.1 f.2).f = rpF 2 ∧ (drecv P0 9 16 s f.1 f.2).s = dechoS s := by
  have hst := h.st
  have hss := h.ss
  rw [hf, hss]
  obtain ⟨bs', hb, e⟩ := drecv_encR P0 P0_ok 9 16 s 2 1 0 0 4 (dsg P0) rfl (by decide) (by omega) (by omega) (by omega)
  have hs : dsigned P0 4 bs' = true := decide_eq_true (BA_congr _ _ 4 hb)
  have ht : dtake P0 9 16 s 2 1 0 0 4 bs' = ⟨dechoS s, dsay P0 (dechoS s) 18 0 0 0 (fun _ => 0), 0⟩ := by
    unfold dtake
    rw [if_neg (by omega), if_pos ⟨rfl, hss.symm, by omega⟩, if_pos hs]
  rw [ht, if_neg (by rintro ⟨e, _⟩; exact e rfl)] at e
  have e' : drecv P0 9 16 s (encI 2 P0.c 1 0 0 4 (dsg P0)).1 (encI 2 P0.c 1 0 0 4 (dsg P0)).2 = ⟨dechoS s, dsay P0 (dechoS s) 18 0 0 0 (fun _ => 0), 0⟩ := e
  rw [e']
  have hs2 : (dechoS s).ss = 1 := by unfold dechoS; split <;> exact hss
  refine ⟨rfl, ?_, rfl⟩
  show encF 18 P0.c (dechoS s).ss 0 0 0 (fun _ => 0) = rpF 2
  rw [hs2]; rfl
theorem rp3 {s : Sd} {k od : Nat} (hk : k = 2 ∨ k = 3) (h : Rq s k od) {f : Fm} (hf : f = encI 3 P0.c (oses s false) 0 0 0 (fun _ => 0)) : (drecv P0 9 16 s f.1 f.2).e = 0 ∧ (drecv P0 9 16 s f.1 f.2).f = rpF 3 ∧ (drecv P0 9 16 s f.1 f.2).s = dstartS s := by
  have hst := h.st
  have hss := h.ss
  have hnm := h.nm
  rw [hf, oses_false, hss]
  obtain ⟨bs', hb, e⟩ := drecv_encR P0 P0_ok 9 16 s 3 1 0 0 0 (fun _ => 0) rfl (by decide) (by omega) (by omega) (by omega)
  have ht : dtake P0 9 16 s 3 1 0 0 0 bs' = ⟨dstartS s, dsay P0 (dstartS s) 19 0 0 0 (fun _ => 0), 0⟩ := by
    unfold dtake
    rw [if_neg (by omega), if_neg (by omega), if_pos ⟨rfl, hss.symm, by omega⟩]
  rw [ht, if_neg (by rintro ⟨e, _⟩; exact e rfl)] at e
  have e' : drecv P0 9 16 s (encI 3 P0.c 1 0 0 0 (fun _ => 0)).1 (encI 3 P0.c 1 0 0 0 (fun _ => 0)).2 = ⟨dstartS s, dsay P0 (dstartS s) 19 0 0 0 (fun _ => 0), 0⟩ := e
  rw [e']
  have hs2 : (dstartS s).ss = 1 := by unfold dstartS; split <;> exact hss
  refine ⟨rfl, ?_, rfl⟩
  show encF 19 P0.c (dstartS s).ss 0 0 0 (fun _ => 0) = rpF 3
  rw [hs2]; rfl
def Rk (k : Nat) (s : Sd) : Prop := (k = 1 → s = dnew M0) ∧ (2 ≤ k → Rq s (k - 1) 0)
theorem Rk.next {k : Nat} {s : Sd} (h : Rk k s) (hk : 1 ≤ k ∧ k ≤ 3) {bs : Nat → Nat} {f : Fm} {x : Nat} (fo : Fo P0 s (k : Int) 0 0 false 0 bs x f) : (drecv P0 9 16 s f.1 f.2).e = 0 ∧ (drecv P0 9 16 s f.1 f.2).f = rpF k ∧ Rk (k + 1) (drecv P0 9 16 s f.1 f.2).s := by
  have : k = 1 ∨ k = 2 ∨ k = 3 := by omega
  rcases this with rfl | rfl | rfl
  · obtain rfl := h.1 rfl
    obtain ⟨a, b, c⟩ := rp1 (fo.1 rfl)
    exact ⟨a, b, fun e => by omega, fun _ => c⟩
  · have q := h.2 (by omega)
    obtain ⟨a, b, c⟩ := rp2 (.inl rfl) q (fo.2.1 rfl rfl)
    refine ⟨a, b, fun e => by omega, fun _ => ?_⟩
    rw [c, show dechoS s = don { s with st := 3 } from if_pos q.st]
    exact ⟨rfl, q.ss, rfl, q.nm⟩
  · have q := h.2 (by omega)
    obtain ⟨a, b, c⟩ := rp3 (.inl rfl) q (fo.2.2.1 rfl)
    refine ⟨a, b, fun e => by omega, fun _ => ?_⟩
    rw [c, show dstartS s = don { s with st := 4, v := vrun s.v true } from if_pos q.st]
    exact ⟨rfl, q.ss, rfl, q.nm⟩
def Sn (s t : Sd) : Prop := t.st = s.st ∧ t.ss = s.ss ∧ t.nm = s.nm ∧ t.sn = s.sn ∧ t.dc = s.dc ∧ t.v = s.v
theorem rp_again {k od : Nat} {s t : Sd} (hk : 1 ≤ k ∧ k ≤ 3) (hod : od < 3) (h : Rq t k od) (hn : Sn s t) {bs : Nat → Nat} {f : Fm} {x : Nat} (hs : s.ss = 1) (fo : Fo P0 s (k : Int) 0 0 false 0 bs x f) :
    (drecv P0 9 16 t f.1 f.2).e = (if k = 1 then 130 else 0) ∧ (drecv P0 9 16 t f.1 f.2).f = rpF k ∧ (∃ od', od' ≤ od + 1 ∧ Rq (drecv P0 9 16 t f.1 f.2).s k od') ∧ Sn s (drecv P0 9 16 t f.1 f.2).s := by
  have hst := h.st
  have hss := h.ss
  have : k = 1 ∨ k = 2 ∨ k = 3 := by omega
  rcases this with rfl | rfl | rfl
  · have hf := fo.1 rfl
    have hb : dbusy t = true := decide_eq_true (by omega)
    have hd : dodd t = { t with od := od + 1 } := by
      unfold dodd
      rw [if_pos hb, if_pos (by rw [h.od]; omega), h.od]
    have hw : dwish P0 9 16 t = ⟨dodd t, doffer P0 (dodd t), 130⟩ := by
      unfold dwish
      rw [if_pos (by rw [hd]; exact hst)]
    have e : drecv P0 9 16 t f.1 f.2 = ⟨dnote (dodd t) 130, doffer P0 (dodd t), 130⟩ := by
      rw [hf, wish_F]
      unfold drecv
      rw [if_neg (by omega), hear_wish P0 P0_ok, hw, if_pos ⟨by show (130 : Int) ≠ 0; omega, by show (130 : Int) ≠ 70; omega⟩]
    rw [e, hd]
    refine ⟨rfl, ?_, ⟨od + 1, Nat.le_refl _, ⟨hst, hss, rfl, h.nm⟩⟩, hn⟩
    show encF 17 P0.c t.ss 0 0 4 (dsg P0) = rpF 1
    rw [hss]; rfl
  · have hf := fo.2.1 rfl rfl
    rw [hs, ← hss] at hf
    obtain ⟨a, b, c⟩ := rp2 (.inr rfl) h hf
    have hc : dechoS t = t := if_neg (by omega)
    rw [a, b, c, hc]
    exact ⟨rfl, rfl, ⟨od, by omega, h⟩, hn⟩
  · have hf := fo.2.2.1 rfl
    have ho : oses s false = oses t false := by rw [oses_false, oses_false, hs, hss]
    rw [ho] at hf
    obtain ⟨a, b, c⟩ := rp3 (.inr rfl) h hf
    have hc : dstartS t = t := if_neg (by omega)
    rw [a, b, c, hc]
    exact ⟨rfl, rfl, ⟨od, by omega, h⟩, hn⟩
end Go.Proofs.YtndjepeolamedaaGreat
