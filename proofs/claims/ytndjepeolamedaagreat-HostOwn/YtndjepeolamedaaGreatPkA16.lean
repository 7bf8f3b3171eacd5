/- Part 17 of the texts on which the proofs of layer 13 rest: contracts of Go functions. -/
import Derived.Deep.RegionLaw
import Derived.Maps.AppendAt
import Derived.Test.YtndjepeolamedaaGreatPkA01
import Derived.Test.YtndjepeolamedaaGreatPkA06
import Derived.Test.YtndjepeolamedaaGreatPkA09
import Derived.Test.YtndjepeolamedaaGreatPkA11
import Derived.Test.YtndjepeolamedaaGreatPkA14
import Derived.Test.YtndjepeolamedaaGreatPkA15
namespace Go.Proofs.YtndjepeolamedaaGreat
set_option maxRecDepth 100000
open Go.RowKit
def encI (k c s n : Nat) (f : Int) (len : Nat) (bs : Nat → Nat) : Fm := if LW k c s n f len len = 0 then (15 + len + 4, PM.sl (fr k c s n f.toNat len bs) (15 + len)) else fm0
def P0 : Pm := ⟨7, 2, 1, 10, 9⟩
theorem P0_ok : Pok P0 := ⟨by unfold okP P0; decide, by decide, by decide⟩
theorem small_any (w : World) : Calls Tryz.prog 17 #[] w fun e w' => e = .returned (.agg #[.int .u32 (P0.c : Nat), .int .i64 (P0.o : Nat), .int .i64 (P0.i : Nat), .int .i64 (P0.t : Nat), .int .u32 (P0.n : Nat)]) ∧ Below w.heap.size w w' := by
  go_enter Tryz.func17, Tryz.ntmps17
  go_wp2_with fail
  refine bodyPost_ret (v := .agg #[.int .u32 (P0.c : Nat), .int .i64 (P0.o : Nat), .int .i64 (P0.i : Nat), .int .i64 (P0.t : Nat), .int .u32 (P0.n : Nat)]) (by simp [results, Tryz.results17, go_sem, P0]) rfl ⟨rfl, ?_⟩
  exact (Below.refl _ _).alloc (Nat.le_refl _) _
theorem BA_congr (f g : Nat → Nat) (n : Nat) (h : ∀ i, i < n → f i = g i) : BA f n = BA g n := by
  unfold BA
  congr 1
  apply List.map_congr_left
  intro i hi
  rw [h i (List.mem_range.1 hi)]
theorem Fr.row {w : World} {M : Nat} {v : Value} {f : Fm} (h : Fr w M v f) (hb : ∀ i, i < f.1 → f.2 i < 256) : ∃ a cap, v = .slice a f.1 cap ∧ Row8 w a f.1 cap f.2 := own_row8 h hb
theorem encF_byte (k c s n f len : Nat) (bs : Nat → Nat) (hb : ∀ i, i < len → bs i < 256) : ∀ i, i < (encF k c s n f len bs).1 → (encF k c s n f len bs).2 i < 256 := by
  unfold encF
  by_cases h : LW k c s n f len len = 0
  · rw [if_pos h]
    have hz := LW_zero h
    intro i _
    have hfr := fr_lt (K := k) (c := c) (s := s) (n := n) (F := f) (len := len) (bs := bs) (by omega) (by omega) (by omega) hb
    show PM.sl _ _ i < 256
    unfold PM.sl PM.ct
    split
    · rename_i h2; exact hfr i h2
    · exact PM.w4_lt _ _
  · rw [if_neg h]; intro i hi; exact absurd hi (Nat.not_lt_zero i)
theorem dsg_byte (P : Pm) : ∀ i, i < 4 → dsg P i < 256 := fun i _ => PM.w4_lt _ i
structure Ow (w0 w : World) (d m g n mx : Nat) (P : Pm) (U : List Nat) (s : Sd) : Prop where
  bel : Below w0.heap.size w0 w
  dv : DV w d m g n mx P U s
  ge : ∀ k, k ∈ U → w0.heap.size ≤ k
theorem Ow.gr {w0 w w' : World} {d m g n mx : Nat} {P : Pm} {U U' : List Nat} {s s' : Sd} (h : Ow w0 w d m g n mx P U s) (q : Gr U w U' w') (x : DV w' d m g n mx P U' s') : Ow w0 w' d m g n mx P U' s' :=
  ⟨q.off.below h.bel h.ge h.bel.size, x, fun k hk => by
    rcases q.new k hk with h1 | h1
    · exact h.ge k h1
    · exact Nat.le_trans h.bel.size h1⟩
theorem Ow.below {w0 w w' : World} {d m g n mx : Nat} {P : Pm} {U : List Nat} {s : Sd} (h : Ow w0 w d m g n mx P U s) (b : Below w.heap.size w w') : Ow w0 w' d m g n mx P U s := h.gr (Gr.below b) (h.dv.below b)
end Go.Proofs.YtndjepeolamedaaGreat
namespace Go.Proofs.YtndjepeolamedaaGreat
set_option maxRecDepth 100000
open Go.RowKit
theorem nx_vz {mx n : Nat} {s : Ms} (hn : 10 ≤ n) (ho : s.off = false) (hl : 0 ≤ s.l) (hmx : mx < 4294967296) :
    ((nx mx n s.bs false s).e = 0 → (nx mx n s.bs false s).v = vz s.bs + 1 ∧ vz (nx mx n s.bs false s).s.bs = vz s.bs + 1 ∧ vz s.bs < mx) ∧ ((nx mx n s.bs false s).e ≠ 0 → vz (nx mx n s.bs false s).s.bs = vz s.bs) := by
  unfold nx
  rw [if_neg (by simp [ho])]
  by_cases hm : mx ≤ vz s.bs
  · rw [if_pos hm]
    exact ⟨fun e => (by cases e), fun _ => rfl⟩
  · rw [if_neg hm]
    rcases sq_all n (six (tg s.bs) (vz s.bs + 1)) s (fun x hx => (six_in _ _ n (tg_lt _) hn x hx).1) ho hl with ⟨h1, h2, _⟩ | ⟨h1, h2, _, h4⟩
    · rw [if_pos h1]
      refine ⟨fun _ => ⟨rfl, ?_, by omega⟩, fun e => absurd rfl e⟩
      show vz (sqS n (six (tg s.bs) (vz s.bs + 1)) s).bs = _
      rw [h2]
      exact vz_next _ _ (by omega) (by omega)
    · rw [if_neg (by omega)]
      refine ⟨fun e => (by cases e), fun _ => ?_⟩
      show vz (sqS n (six (tg s.bs) (vz s.bs + 1)) s).bs = _
      rw [h2]
      refine vz_cut _ _ _ ?_
      have : (six (tg s.bs) (vz s.bs + 1)).length = 6 := rfl
      omega
end Go.Proofs.YtndjepeolamedaaGreat
namespace Go.Proofs.YtndjepeolamedaaGreat
set_option maxRecDepth 100000
open Go.RowKit
structure Vok (s : Vs) : Prop where
  fr : s.lat = 0 → s.fr = false
  sm : s.sm = true → s.lat = 0
theorem Vok.new : Vok vnew := ⟨fun _ => rfl, fun h => by cases h⟩
theorem Vok.trip {s : Vs} (h : Vok s) (x : Int) : Vok (vtrip s x) := by
  unfold vtrip
  split
  · exact h
  · exact ⟨fun _ => rfl, fun h => by cases h⟩
theorem Vok.run {s : Vs} (h : Vok s) (o : Bool) : Vok (vrun s o) := by
  unfold vrun
  split
  · exact h
  · exact ⟨h.fr, fun h => by cases h⟩
theorem Vok.hold {s : Vs} (h : Vok s) (o : Bool) : Vok (vhold s o) := ⟨h.fr, h.sm⟩
theorem Vok.fresh {s : Vs} (h : Vok s) : Vok (vfresh s) := ⟨fun e => by show (s.lat != 0) = false; rw [show s.lat = 0 from e]; rfl, h.sm⟩
theorem Vok.take {s : Vs} (h : Vok s) (bs : Nat → Nat) : Vok (vtake s bs) := by
  unfold vtake
  split
  · rename_i k
    exact ⟨h.fr, fun _ => k.2⟩
  · exact h
theorem Vok.ack {s : Vs} (h : Vok s) : Vok (vack s) := by
  unfold vack
  split
  · exact ⟨fun _ => rfl, fun _ => rfl⟩
  · exact h
def RDC (P : Pm) (m mx : Nat) (cp lv vv : Value) (s : Sd) (av : Value) : Array Value :=
  #[.int .u32 (P.c : Nat), .int .i64 (P.o : Nat), .int .i64 (P.i : Nat), .int .i64 (P.t : Nat), .int .u32 (P.n : Nat), .pointer (some ⟨m, 0, none⟩), .int .u32 (mx : Nat), cp, lv, .int .i64 (P.t : Nat), .int .i64 (s.dc : Nat),
    .int .i64 (P.o : Nat), .bool s.v.run, .bool s.v.held, .bool s.v.fr, .int .i64 s.v.lat, vv, .bool s.v.sm, .int .i64 (s.st : Nat), .int .u32 (s.ss : Nat), .int .u32 (s.nm : Nat), .int .u32 (s.sn : Nat), .int .i64 (s.od : Nat), av, .bool s.hd]
structure Bk2 where
  c : Nat
  M : List Nat
  cp : Value
  lv : Value
  vv : Value
  av : Value
  col : Nat → Nat
structure RB (w : World) (d m g n mx : Nat) (P : Pm) (U : List Nat) (s : Sd) (B : Bk2) (A : Prop) : Prop where
  dev : w.heap[d]? = some (.cells (RDC P m mx B.cp B.lv B.vv s B.av) 128 (0, 0))
  mem : RR w m g n s.ms
  cel : A → B.cp = .pointer (some ⟨B.c, 0, none⟩) ∧ RX w B.c m mx (vz s.ms.bs) false ∧ s.ms.off = false
  val : VV w B.M P.o s.v B.vv
  log : w.ownsRow 0 173 4 B.lv s.L.length (rvs s.L)
  app : w.ownsRow 0 5 1 B.av P.i (CB s.ap P.i)
  apb : ∀ i, i < P.i → s.ap i < 256
  vok : Vok s.v
  dcl : s.dc ≤ P.t
  ltU : ∀ k, k ∈ U → k < w.heap.size
  kd : B.col d = 0 ∧ d ∈ U
  km : B.col m = 1 ∧ m ∈ U
  kg : B.col g = 1 ∧ g ∈ U
  kc : B.col B.c = 2 ∧ B.c ∈ U
  kM : ∀ k, k ∈ B.M → B.col k = 4 ∧ k ∈ U
  kl : ∀ k, B.lv.ownBlock = some k → B.col k = 5 ∧ k ∈ U
  ka : ∀ k, B.av.ownBlock = some k → B.col k = 6 ∧ k ∈ U
  pok : Pok P
  n10 : 10 ≤ n
  mx0 : mx ≠ 0
  mxl : mx < 4294967296
  nl : s.L.length = 0 → B.lv = .slice none 0 0
def RW (w : World) (d m g n mx : Nat) (P : Pm) (U : List Nat) (s : Sd) : Prop := ∃ B, RB w d m g n mx P U s B (s.st ≠ 6)
section
variable {w w' : World} {d m g n mx : Nat} {P : Pm} {U : List Nat} {s s' : Sd} {B : Bk2} {A A' : Prop}
theorem RB.dlt (h : RB w d m g n mx P U s B A) : d < w.heap.size := h.ltU d h.kd.2
theorem RB.fz (h : RB w d m g n mx P U s B A) (j : Nat) : w.frozen? ⟨d, j, none⟩ = false := frozen_of_row w d j _ _ h.dev
theorem VV.same {M : List Nat} {k : Nat} {u u' : Vs} {v : Value} (h : VV w M k u v) (h1 : u'.sm = u.sm) (h2 : u'.bs = u.bs) : VV w M k u' v := by
  unfold VV at *
  rw [h1, h2]
  exact h
theorem RB.own (h : RB w d m g n mx P U s B A) (q : Off [d] w w') (e : w'.heap[d]? = some (.cells (RDC P m mx B.cp B.lv B.vv s' B.av) 128 (0, 0)))
    (h1 : s'.ms = s.ms) (h2 : s'.v.sm = s.v.sm ∧ s'.v.bs = s.v.bs) (h4 : s'.L = s.L) (h5 : s'.ap = s.ap) (hv : Vok s'.v) (hd : s'.dc ≤ P.t) (h6 : A' → A) : RB w' d m g n mx P U s' B A' := by
  have hn : ∀ k, B.col k ≠ 0 → k ∉ [d] := fun k hk hm => by simp at hm; rw [hm, h.kd.1] at hk; exact hk rfl
  refine ⟨e, ?_, ?_, ?_, ?_, ?_, h5 ▸ h.apb, hv, hd, fun k hk => Nat.lt_of_lt_of_le (h.ltU k hk) q.size, h.kd, h.km, h.kg, h.kc, h.kM, h.kl, h.ka, h.pok, h.n10, h.mx0, h.mxl, fun e => h.nl (by rw [← h4]; exact e)⟩
  · rw [h1]; exact h.mem.off q (hn _ (by rw [h.km.1]; omega)) (hn _ (by rw [h.kg.1]; omega))
  · intro hs
    obtain ⟨c1, c2, c3⟩ := h.cel (h6 hs)
    rw [h1]
    exact ⟨c1, c2.off q (hn _ (by rw [h.kc.1]; omega)), c3⟩
  · exact (h.val.off q (fun k hk hM => by simp at hk; subst hk; have := (h.kM _ hM).1; rw [h.kd.1] at this; omega)).same h2.1 h2.2
  · rw [h4]; exact own_offk h.log q (fun k hk => hn _ (by rw [(h.kl k hk).1]; omega))
  · rw [h5]; exact own_offk h.app q (fun k hk => hn _ (by rw [(h.ka k hk).1]; omega))
theorem RB.clr (h : RB w d m g n mx P U s B A) (q : Off [d] w w') (e : w'.heap[d]? = some (.cells (RDC P m mx B.cp B.lv (.slice none 0 0) s' B.av) 128 (0, 0)))
    (h1 : s'.ms = s.ms) (h2 : s'.v.sm = false) (h4 : s'.L = s.L) (h5 : s'.ap = s.ap) (hv : Vok s'.v) (hd : s'.dc ≤ P.t) (h6 : A' → A) : RB w' d m g n mx P U s' { B with vv := .slice none 0 0 } A' := by
  have hn : ∀ k, B.col k ≠ 0 → k ∉ [d] := fun k hk hm => by simp at hm; rw [hm, h.kd.1] at hk; exact hk rfl
  refine ⟨e, ?_, ?_, .inl ⟨h2, rfl⟩, ?_, ?_, h5 ▸ h.apb, hv, hd, fun k hk => Nat.lt_of_lt_of_le (h.ltU k hk) q.size, h.kd, h.km, h.kg, h.kc, h.kM, h.kl, h.ka, h.pok, h.n10, h.mx0, h.mxl, fun e => h.nl (by rw [← h4]; exact e)⟩
  · rw [h1]; exact h.mem.off q (hn _ (by rw [h.km.1]; omega)) (hn _ (by rw [h.kg.1]; omega))
  · intro hs
    obtain ⟨c1, c2, c3⟩ := h.cel (h6 hs)
    rw [h1]
    exact ⟨c1, c2.off q (hn _ (by rw [h.kc.1]; omega)), c3⟩
  · rw [h4]; exact own_offk h.log q (fun k hk => hn _ (by rw [(h.kl k hk).1]; omega))
  · rw [h5]; exact own_offk h.app q (fun k hk => hn _ (by rw [(h.ka k hk).1]; omega))
theorem RB.newd (h : RB w d m g n mx P U s B A) (q : Off [] w w') : RB w' d m g n mx P U s B A :=
  ⟨(q.block d h.dlt (by simp)).trans h.dev, h.mem.off q (by simp) (by simp), fun hs => ⟨(h.cel hs).1, (h.cel hs).2.1.off q (by simp), (h.cel hs).2.2⟩, h.val.off q (by simp), own_offk h.log q (by simp), own_offk h.app q (by simp), h.apb, h.vok, h.dcl, fun k hk => Nat.lt_of_lt_of_le (h.ltU k hk) q.size, h.kd, h.km, h.kg, h.kc, h.kM, h.kl, h.ka, h.pok, h.n10, h.mx0, h.mxl, h.nl⟩
end
end Go.Proofs.YtndjepeolamedaaGreat
namespace Go.Proofs.YtndjepeolamedaaGreat
set_option maxRecDepth 100000
open Go.RowKit
structure Iv (P : Pm) (s : Sd) : Prop where
  st1 : 1 ≤ s.st
  st6 : s.st ≤ 6
  ss : s.ss < 4294967296
  nm : s.nm < 4294967296
  sn : s.sn < 4294967296
  hs : s.st = 2 ∨ s.st = 3 → s.sn = 0 ∧ s.nm = 0 ∧ s.ss ≠ 0
  run : s.st = 4 → s.sn ≤ s.nm ∧ s.nm < P.n ∧ s.ss ≠ 0
  od : s.od < 4
  vr : s.v.run = decide (s.st = 4)
  vok : Vok s.v
  s0 : s.ss = 0 → s.nm = 0
  z : s.ss = 0 ∨ s.ss = vz s.ms.bs
  d6 : s.st = 6 → s.ap = (fun _ => 0) ∧ s.hd = false
structure Mo (mx n : Nat) (s : Sd) : Prop where
  n10 : 10 ≤ n
  mx0 : mx ≠ 0
  mxl : mx < 4294967296
  l0 : 0 ≤ s.ms.l
  bz : Bz s.ms.bs
  off : s.st ≠ 6 → s.ms.off = false
section
variable {P : Pm} {mx n : Nat} {s : Sd}
theorem vtrip_run (v : Vs) (x : Int) : (vtrip v x).run = v.run := by unfold vtrip; split <;> rfl
theorem vrun_run (v : Vs) (o : Bool) : (vrun v o).run = o := by
  unfold vrun
  split
  · assumption
  · rfl
theorem vtake_run (v : Vs) (bs : Nat → Nat) : (vtake v bs).run = v.run := by unfold vtake; split <;> rfl
theorem vack_run (v : Vs) : (vack v).run = v.run := by unfold vack; split <;> rfl
theorem dlatch_v (s : Sd) (x : Int) : (dlatch s x).v = vtrip s.v x := by unfold dlatch dnote; split <;> rfl
theorem dlatch_flds (s : Sd) (x : Int) : (dlatch s x).st = s.st ∧ (dlatch s x).ss = s.ss ∧ (dlatch s x).nm = s.nm ∧ (dlatch s x).sn = s.sn ∧ (dlatch s x).od = s.od ∧ (dlatch s x).ms = s.ms ∧ (dlatch s x).ap = s.ap ∧ (dlatch s x).hd = s.hd := by unfold dlatch dnote; split <;> exact ⟨rfl, rfl, rfl, rfl, rfl, rfl, rfl, rfl⟩
theorem Iv.latch (h : Iv P s) (x : Int) : Iv P (dlatch s x) := by
  unfold dlatch dnote
  split
  · exact ⟨h.st1, h.st6, h.ss, h.nm, h.sn, h.hs, h.run, h.od, (vtrip_run _ _).trans h.vr, h.vok.trip x, h.s0, h.z, h.d6⟩
  · exact ⟨h.st1, h.st6, h.ss, h.nm, h.sn, h.hs, h.run, h.od, (vtrip_run _ _).trans h.vr, h.vok.trip x, h.s0, h.z, h.d6⟩
theorem Iv.note (h : Iv P s) (x : Int) : Iv P (dnote s x) := ⟨h.st1, h.st6, h.ss, h.nm, h.sn, h.hs, h.run, h.od, h.vr, h.vok, h.s0, h.z, h.d6⟩
theorem Iv.leave (hv : Vok s.v) {k : Nat} (h1 : 1 ≤ k) (h5 : k ≤ 5) (h4 : k ≠ 4) (h2 : k ≠ 2) (h3 : k ≠ 3) : Iv P (dleave s k) :=
  ⟨h1, Nat.le_succ_of_le h5, by show (0 : Nat) < _; omega, by show (0 : Nat) < _; omega, by show (0 : Nat) < _; omega, fun e => by have e : k = 2 ∨ k = 3 := e; omega, fun e => absurd e h4, by show (0 : Nat) < 4; omega, by
    show (vrun s.v false).run = decide (k = 4)
    rw [vrun_run, decide_eq_false h4], hv.run false, fun _ => rfl, .inl rfl, fun e => by have e : k = 6 := e; omega⟩
theorem Iv.life {k : Nat} (h1 : 1 ≤ k) (h6 : k ≤ 6) (h4 : k ≠ 4) (h2 : k ≠ 2) (h3 : k ≠ 3) : Iv P (dlife s k) :=
  ⟨h1, h6, by show (0 : Nat) < _; omega, by show (0 : Nat) < _; omega, by show (0 : Nat) < _; omega, fun e => by have e : k = 2 ∨ k = 3 := e; omega, fun e => absurd e h4, by show (0 : Nat) < 4; omega, (decide_eq_false h4).symm, Vok.new, fun _ => rfl, .inl rfl, fun _ => ⟨rfl, rfl⟩⟩
theorem Iv.odd (h : Iv P s) : Iv P (dodd s) := by
  unfold dodd
  split
  · split
    · rename_i h4
      exact ⟨h.st1, h.st6, h.ss, h.nm, h.sn, h.hs, h.run, h4, h.vr, h.vok, h.s0, h.z, h.d6⟩
    · refine Iv.leave ?_ (by omega) (by omega) (by omega) (by omega) (by omega)
      split
      · rw [dlatch_v]; exact h.vok.trip _
      · exact h.vok
  · exact h
theorem Iv.begin_ (h : Iv P s) (M : Mo mx n s) (hu : s.st ≠ 6) : Iv P (dbegin P mx n s).s := by
  have hv := nx_vz (mx := mx) (n := n) (s := s.ms) M.n10 (M.off hu) M.l0 M.mxl
  unfold dbegin
  generalize nx mx n s.ms.bs false s.ms = X at *
  have hm := M.mxl
  split
  · refine Iv.leave ?_ (by omega) (by omega) (by omega) (by omega) (by omega)
    rw [dlatch_v]; exact h.vok.trip _
  · split
    · exact Iv.life (by omega) (by omega) (by omega) (by omega) (by omega)
    · rename_i e0
      have e0 : X.e = 0 := by simpa using e0
      obtain ⟨v1, v2, v3⟩ := hv.1 e0
      refine ⟨by show 1 ≤ 2; omega, by show 2 ≤ 6; omega, by show X.v < _; omega, by show (0 : Nat) < _; omega, by show (0 : Nat) < _; omega, fun _ => ⟨rfl, rfl, by show X.v ≠ 0; omega⟩, fun e => by have e : (2 : Nat) = 4 := e; omega, by show (0 : Nat) < 4; omega, ?_, h.vok.run false, fun _ => rfl, .inr ?_, fun e => by have e : (2 : Nat) = 6 := e; omega⟩
      · show (vrun s.v false).run = decide ((2 : Nat) = 4)
        rw [vrun_run]; rfl
      · show X.v = vz X.s.bs
        omega
theorem Mo.odd (M : Mo mx n s) : Mo mx n (dodd s) := by
  refine ⟨M.n10, M.mx0, M.mxl, by rw [dodd_ms]; exact M.l0, by rw [dodd_ms]; exact M.bz, fun _ => ?_⟩
  rw [dodd_ms]
  by_cases h6 : s.st = 6
  · exfalso
    have : dodd s = s := by unfold dodd dbusy; rw [h6]; rfl
    rename_i hh
    rw [this] at hh
    exact hh h6
  · exact M.off h6
theorem Iv.wish (h : Iv P s) (M : Mo mx n s) (hu : s.st ≠ 6) : Iv P (dwish P mx n s).s := by
  unfold dwish
  split
  · exact h.odd
  · split
    · exact h.odd
    · exact h.odd.begin_ M.odd (dodd_up hu)
theorem Iv.echo (h : Iv P s) : Iv P (dechoS s) := by
  unfold dechoS
  split
  · rename_i h2
    have hq := h.hs (.inl h2)
    refine ⟨by show 1 ≤ 3; omega, by show 3 ≤ 6; omega, h.ss, h.nm, h.sn, fun _ => hq, fun e => by have e : (3 : Nat) = 4 := e; omega, by show (0 : Nat) < 4; omega, ?_, h.vok.fresh, h.s0, h.z, fun e => by have e : (3 : Nat) = 6 := e; omega⟩
    show s.v.run = decide ((3 : Nat) = 4)
    rw [h.vr, h2]; rfl
  · exact h
theorem Iv.start (h : Iv P s) (hP : Pok P) : Iv P (dstartS s) := by
  unfold dstartS
  split
  · rename_i h3
    have hq := h.hs (.inr h3)
    have := hP.n2
    refine ⟨by show 1 ≤ 4; omega, by show 4 ≤ 6; omega, h.ss, h.nm, h.sn, fun e => by have e : (4 : Nat) = 2 ∨ (4 : Nat) = 3 := e; omega, fun _ => ⟨by show s.sn ≤ s.nm; omega, by show s.nm < _; omega, hq.2.2⟩, by show (0 : Nat) < 4; omega, ?_, (h.vok.run true).fresh, h.s0, h.z, fun e => by have e : (4 : Nat) = 6 := e; omega⟩
    show (vrun s.v true).run = decide ((4 : Nat) = 4)
    rw [vrun_run]; rfl
  · exact h
theorem Iv.data (h : Iv P s) (hP : Pok P) {num fl : Nat} {bs : Nat → Nat} (h4 : s.st = 4) (hn : s.nm < num) (hc : num < P.n) : Iv P (ddataS s num fl bs) := by
  have hq := h.run h4
  have hp := hP.n
  refine ⟨h.st1, h.st6, h.ss, by show num < _; omega, by show s.sn + 1 < _; omega, fun e => by have e : s.st = 2 ∨ s.st = 3 := e; omega, fun _ => ⟨by show s.sn + 1 ≤ num; omega, hc, hq.2.2⟩, by show (0 : Nat) < 4; omega, ?_, (h.vok.fresh.hold _).take _, fun e => absurd e hq.2.2, h.z, fun e => by have e : s.st = 6 := e; omega⟩
  show (vtake (vhold (vfresh s.v) (decide (8 ≤ fl))) bs).run = decide (s.st = 4)
  rw [vtake_run]; exact h.vr
theorem Iv.last (h : Iv P s) (hP : Pok P) (h4 : s.st = 4) : Iv P (dendS (dlastS P s)) := by
  have hq := h.run h4
  have hp := hP.n
  obtain ⟨l1, l2, l3, l4, l5, l6, l7, l8⟩ := dlatch_flds (don { s with nm := P.n }) 80
  refine ⟨by show 1 ≤ 5; omega, by show 5 ≤ 6; omega, ?_, ?_, hp, fun e => by have e : (5 : Nat) = 2 ∨ (5 : Nat) = 3 := e; omega, fun e => by have e : (5 : Nat) = 4 := e; omega, ?_, ?_, ?_, ?_, ?_, fun e => by have e : (5 : Nat) = 6 := e; omega⟩
  · show (dlatch (don { s with nm := P.n }) 80).ss < _
    rw [l2]; exact h.ss
  · show (dlatch (don { s with nm := P.n }) 80).nm < _
    rw [l3]; exact hp
  · show (dlatch (don { s with nm := P.n }) 80).od < 4
    rw [l5]; show (0 : Nat) < 4; omega
  · show (vrun (dlatch (don { s with nm := P.n }) 80).v false).run = decide ((5 : Nat) = 4)
    rw [vrun_run]; rfl
  · show Vok (vrun (dlatch (don { s with nm := P.n }) 80).v false)
    rw [dlatch_v]
    exact (h.vok.fresh.trip _).run _
  · intro e
    have e : (dlatch (don { s with nm := P.n }) 80).ss = 0 := e
    rw [l2] at e
    exact absurd e hq.2.2
  · show (dlatch (don { s with nm := P.n }) 80).ss = 0 ∨ (dlatch (don { s with nm := P.n }) 80).ss = vz (dlatch (don { s with nm := P.n }) 80).ms.bs
    rw [l2, l6]; exact h.z
theorem Iv.take (h : Iv P s) (hP : Pok P) (M : Mo mx n s) (hu : s.st ≠ 6) (k ss num fl len : Nat) (bs : Nat → Nat) : Iv P (dtake P mx n s k ss num fl len bs).s := by
  unfold dtake
  split
  · split
    · exact h.wish M hu
    · exact h.odd
  · split
    · split
      · exact h.echo
      · exact h.odd
    · split
      · exact h.start hP
      · split
        · rename_i hh
          exact h.data hP hh.2.1.2.1 hh.2.1.2.2 hh.2.2.1
        · split
          · rename_i hh
            exact h.last hP hh.2.1.2.1
          · exact h.odd
theorem Iv.hear (h : Iv P s) (hP : Pok P) (M : Mo mx n s) (hu : s.st ≠ 6) (len : Nat) (bs : Nat → Nat) : Iv P (dhear P mx n s len bs).s := by
  unfold dhear
  split
  · exact h
  · split
    · exact h
    · split
      · exact h
      · exact h.take hP M hu _ _ _ _ _ _
theorem Iv.recv (h : Iv P s) (hP : Pok P) (M : Mo mx n s) (len : Nat) (bs : Nat → Nat) : Iv P (drecv P mx n s len bs).s := by
  unfold drecv
  split
  · exact h
  · rename_i hu
    split
    · exact (h.hear hP M hu len bs).note _
    · exact h.hear hP M hu len bs
theorem Iv.write (h : Iv P s) (len : Nat) (bs : Nat → Nat) (o : Bool) : Iv P (dwriteS P s len bs o) := by
  unfold dwriteS
  split
  · exact h
  · rename_i h6
    split
    · exact ⟨h.st1, h.st6, h.ss, h.nm, h.sn, h.hs, h.run, h.od, h.vr, h.vok, h.s0, h.z, fun e => absurd e h6⟩
    · exact h
theorem Iv.tick (h : Iv P s) (k : Int) : Iv P (dtickS P s k) := by
  unfold dtickS
  split
  · exact h
  · split
    · exact h
    · have h' : Iv P { s with dc := tk P.t s.dc k.toNat } := ⟨h.st1, h.st6, h.ss, h.nm, h.sn, h.hs, h.run, h.od, h.vr, h.vok, h.s0, h.z, h.d6⟩
      split
      · exact h'.latch _
      · exact h'
theorem Iv.ack (h : Iv P s) : Iv P (dackS s) := by
  unfold dackS
  split
  · exact h
  · exact ⟨h.st1, h.st6, h.ss, h.nm, h.sn, h.hs, h.run, h.od, (vack_run _).trans h.vr, h.vok.ack, h.s0, h.z, h.d6⟩
theorem Iv.new_ (ms : Ms) : Iv P (dnew ms) :=
  ⟨by show 1 ≤ 1; omega, by show 1 ≤ 6; omega, by show (0 : Nat) < _; omega, by show (0 : Nat) < _; omega, by show (0 : Nat) < _; omega, fun e => by have e : (1 : Nat) = 2 ∨ (1 : Nat) = 3 := e; omega, fun e => by have e : (1 : Nat) = 4 := e; omega, by show (0 : Nat) < 4; omega, rfl, Vok.new, fun _ => rfl, .inl rfl, fun e => by have e : (1 : Nat) = 6 := e; omega⟩
theorem Iv.sent (h : Iv P s) (hP : Pok P) : s.st = 4 → s.sn + 1 < 4294967296 := fun e => by
  have := h.run e
  have := hP.n
  omega
end
end Go.Proofs.YtndjepeolamedaaGreat
namespace Go.Proofs.YtndjepeolamedaaGreat
set_option maxRecDepth 100000
open Go.RowKit
section
variable {P : Pm} {s : Sh}
theorem hlatch_v (s : Sh) (x : Int) : (hlatch s x).v = vtrip s.v x := by unfold hlatch hnote; split <;> rfl
theorem hlatch_flds (s : Sh) (x : Int) : (hlatch s x).st = s.st ∧ (hlatch s x).ss = s.ss ∧ (hlatch s x).nm = s.nm ∧ (hlatch s x).sn = s.sn ∧ (hlatch s x).wt = s.wt ∧ (hlatch s x).ms = s.ms ∧ (hlatch s x).ap = s.ap ∧ (hlatch s x).hd = s.hd ∧ (hlatch s x).dc = s.dc := by unfold hlatch hnote; split <;> exact ⟨rfl, rfl, rfl, rfl, rfl, rfl, rfl, rfl, rfl⟩
theorem hlatch_len (s : Sh) (x : Int) : (hlatch s x).L.length ≤ s.L.length + 1 := by unfold hlatch hnote; split <;> simp
theorem vtrip_lat {v : Vs} {x : Int} (hx : x ≠ 0) : (vtrip v x).lat ≠ 0 := by
  unfold vtrip
  rw [if_neg hx]
  show (if v.lat = 0 then x else v.lat) ≠ 0
  split <;> assumption
theorem vtrip_lat' {v : Vs} {x : Int} (h : v.lat ≠ 0) : (vtrip v x).lat ≠ 0 := by
  unfold vtrip
  by_cases hx : x = 0
  · rw [if_pos hx]; exact h
  · rw [if_neg hx]
    show (if v.lat = 0 then x else v.lat) ≠ 0
    rw [if_neg h]; exact h
theorem vrun_latH (v : Vs) (o : Bool) : (vrun v o).lat = v.lat := by unfold vrun; split <;> rfl
theorem Ih.new_ (P : Pm) : Ih P hnew := ⟨by show 1 ≤ 1; omega, by show 1 ≤ 5; omega, by show 0 < _; omega, by show 0 < _; omega, by show 0 < _; omega, by show 0 < 4; omega, fun e => by have e : (1 : Nat) = 2 ∨ (1 : Nat) = 3 ∨ (1 : Nat) = 4 := e; omega, fun _ _ => ⟨rfl, rfl⟩, fun e => by have e : (1 : Nat) = 4 := e; omega, rfl, fun e => by have e : (1 : Nat) = 5 := e; omega⟩
theorem Ih.life (P : Pm) (s : Sh) : Ih P (hlife s) := ⟨by show 1 ≤ 1; omega, by show 1 ≤ 5; omega, by show 0 < _; omega, by show 0 < _; omega, by show 0 < _; omega, by show 0 < 4; omega, fun e => by have e : (1 : Nat) = 2 ∨ (1 : Nat) = 3 ∨ (1 : Nat) = 4 := e; omega, fun _ _ => ⟨rfl, rfl⟩, fun e => by have e : (1 : Nat) = 4 := e; omega, rfl, fun e => by have e : (1 : Nat) = 5 := e; omega⟩
theorem Ih.note (h : Ih P s) (x : Int) : Ih P (hnote s x) := ⟨h.st1, h.st5, h.ss, h.nm, h.sn, h.ms, h.s4, h.hs, h.run, h.vr, h.lat5⟩
theorem Ih.latch (h : Ih P s) (x : Int) : Ih P (hlatch s x) := by
  unfold hlatch hnote
  split
  · exact ⟨h.st1, h.st5, h.ss, h.nm, h.sn, h.ms, h.s4, h.hs, h.run, (vtrip_run _ _).trans h.vr, fun e => vtrip_lat' (h.lat5 e)⟩
  · exact ⟨h.st1, h.st5, h.ss, h.nm, h.sn, h.ms, h.s4, h.hs, h.run, (vtrip_run _ _).trans h.vr, fun e => vtrip_lat' (h.lat5 e)⟩
theorem Ih.give_of (h : s.ss < 4294967296) : Ih P (hgive s) := ⟨by show 1 ≤ 1; omega, by show 1 ≤ 5; omega, h, by show 0 < _; omega, by show 0 < _; omega, by show 0 < 4; omega, fun e => by have e : (1 : Nat) = 2 ∨ (1 : Nat) = 3 ∨ (1 : Nat) = 4 := e; omega, fun _ _ => ⟨rfl, rfl⟩, fun e => by have e : (1 : Nat) = 4 := e; omega, vrun_run _ _, fun e => by have e : (1 : Nat) = 5 := e; omega⟩
theorem Ih.miss (h : Ih P s) : Ih P (hmiss s) := by
  unfold hmiss
  split
  · exact h
  · split
    · rename_i h4
      exact ⟨h.st1, h.st5, h.ss, h.nm, h.sn, h4, h.s4, h.hs, h.run, h.vr, h.lat5⟩
    · refine Ih.give_of ?_
      split
      · rw [(hlatch_flds _ _).2.1]; exact h.ss
      · exact h.ss
theorem Ih.exh (h1 : s.ss < 4294967296) (h2 : s.nm < 4294967296) (h3 : s.sn < 4294967296) (h4 : s.ms < 4) : Ih P (hexh s) := by
  obtain ⟨_, f2, f3, f4, _, f6, _⟩ := hlatch_flds s 80
  refine ⟨by show 1 ≤ 5; omega, by show 5 ≤ 5; omega, by show (hlatch s 80).ss < _; omega, by show (hlatch s 80).nm < _; omega, by show (hlatch s 80).sn < _; omega, by show (hlatch s 80).ms < 4; omega, fun e => by have e : (5 : Nat) = 2 ∨ (5 : Nat) = 3 ∨ (5 : Nat) = 4 := e; omega, fun _ e => absurd rfl e, fun e => by have e : (5 : Nat) = 4 := e; omega, vrun_run _ _, fun _ => ?_⟩
  show (vrun (hlatch s 80).v false).lat ≠ 0
  rw [vrun_latH, hlatch_v]
  exact vtrip_lat (by omega)
theorem Ih.next (hP : Pok P) (h : Ih P s) (h5 : s.st ≠ 5) : Ih P (hnext P s).1 := by
  unfold hnext
  by_cases c1 : s.st = 1
  · rw [if_pos c1]; exact h
  · rw [if_neg c1]
    by_cases c2 : s.st = 2
    · rw [if_pos c2]; exact h
    · rw [if_neg c2]
      by_cases c3 : s.st = 3
      · rw [if_pos c3]; exact h
      · rw [if_neg c3]
        have h4 : s.st = 4 := by have := h.st1; have := h.st5; omega
        have hr := h.run h4
        have hn := hP.n
        by_cases c4 : s.sn + 1 = P.n
        · rw [if_pos c4]
          exact Ih.exh (s := { s with sn := s.sn + 1 }) h.ss h.nm (by show s.sn + 1 < _; omega) h.ms
        · rw [if_neg c4]
          exact ⟨h.st1, h.st5, h.ss, h.nm, by show s.sn + 1 < _; omega, h.ms, h.s4, fun e => absurd h4 e, fun _ => ⟨by show s.sn + 1 < P.n; omega, hr.2⟩, h.vr, h.lat5⟩
theorem hmiss_st5 (h : s.st ≠ 5) : (hmiss s).st ≠ 5 := by
  unfold hmiss
  split
  · exact h
  · split
    · exact h
    · show (1 : Nat) ≠ 5; omega
theorem Ih.wait (h : Ih P s) : Ih P { s with wt := true } := ⟨h.st1, h.st5, h.ss, h.nm, h.sn, h.ms, h.s4, h.hs, h.run, h.vr, h.lat5⟩
theorem Ih.send (hP : Pok P) (h : Ih P s) : Ih P (hsendS P s) := by
  unfold hsendS
  by_cases c : s.st = 5
  · rw [if_pos c]; exact h
  · rw [if_neg c]; exact (h.miss.next hP (hmiss_st5 c)).wait
theorem Ih.on_ (h : Ih P s) : Ih P (hon s) := ⟨h.st1, h.st5, h.ss, h.nm, h.sn, by show 0 < 4; omega, h.s4, h.hs, h.run, h.vr, h.lat5⟩
theorem Ih.recv (hP : Pok P) (h : Ih P s) (len : Nat) (bs : Nat → Nat) (hb : ∀ i, i < len → bs i < 256) : Ih P (hrecvS P s len bs) := by
  unfold hrecvS
  by_cases hE : hrecvE P s len bs ≠ 0
  · rw [if_pos hE]; exact h.note _
  · rw [if_neg hE]
    have hE : hrecvE P s len bs = 0 := by omega
    unfold hrecvE at hE
    by_cases hD : DE bs len ≠ 0
    · rw [if_pos hD] at hE; exact absurd hE hD
    · rw [if_neg hD] at hE
      have hD : DE bs len = 0 := by omega
      have hl : 19 ≤ len := (DE_zero hD).1
      have hs5 : w4v bs 5 < 4294967296 := w4v_lt fun j hj => hb _ (by omega)
      have hs9 : w4v bs 9 < 4294967296 := w4v_lt fun j hj => hb _ (by omega)
      generalize w4v bs 5 = ss at *
      generalize w4v bs 9 = num at *
      generalize (fun i => bs (15 + i)) = ds at *
      generalize bs 13 = fl at *
      generalize bs 0 = k at *
      have hn2 : 2 ≤ P.n := by have := hP.ok.2.2.2.2; omega
      have hn := hP.n
      unfold hrefE at hE
      by_cases hK : devK (k : Int) = false
      · rw [if_pos hK] at hE; omega
      · rw [if_neg hK] at hE
        by_cases hC : w4v bs 1 ≠ P.c
        · rw [if_pos hC] at hE; omega
        · rw [if_neg hC] at hE
          by_cases h1 : s.st = 1
          · rw [if_pos h1] at hE
            unfold hoffE at hE
            by_cases hk : k ≠ 17 ∨ ss ≤ s.ss
            · rw [if_pos hk] at hE; omega
            · obtain rfl : k = 17 := by omega
              have h0 := h.hs (by omega) (by omega)
              unfold htake
              rw [if_pos rfl]
              refine Ih.on_ ⟨by show 1 ≤ 2; omega, by show 2 ≤ 5; omega, hs5, h.nm, h.sn, h.ms, fun _ => by show ss ≠ 0; omega, fun _ _ => h0, fun e => by have e : (2 : Nat) = 4 := e; omega, ?_, fun e => by have e : (2 : Nat) = 5 := e; omega⟩
              show s.v.run = decide ((2 : Nat) = 4)
              rw [h.vr, h1]; rfl
          · rw [if_neg h1] at hE
            by_cases ha : ss ≠ s.ss ∨ hawaits P s k num (len - 19) = false
            · rw [if_pos ha] at hE; omega
            · have ha2 : hawaits P s k num (len - 19) = true := by
                cases hh : hawaits P s k num (len - 19) with
                | true => rfl
                | false => exact absurd (.inr hh) ha
              unfold hawaits at ha2
              have ha3 := of_decide_eq_true ha2
              unfold htake
              rcases ha3 with ⟨rfl, h2⟩ | ⟨rfl, h3⟩ | ⟨rfl, ⟨⟨h4, hm⟩, hp⟩, _⟩ | ⟨rfl, ⟨h4, hm⟩, rfl⟩
              · rw [if_neg (by omega), if_pos rfl]
                have h0 := h.hs (by omega) (by omega)
                refine Ih.on_ ⟨by show 1 ≤ 3; omega, by show 3 ≤ 5; omega, h.ss, h.nm, h.sn, h.ms, fun _ => h.s4 (.inl h2), fun _ _ => h0, fun e => by have e : (3 : Nat) = 4 := e; omega, ?_, fun e => by have e : (3 : Nat) = 5 := e; omega⟩
                show s.v.run = decide ((3 : Nat) = 4)
                rw [h.vr, h2]; rfl
              · rw [if_neg (by omega), if_neg (by omega), if_pos rfl]
                have h0 := h.hs (by omega) (by omega)
                refine Ih.on_ ⟨by show 1 ≤ 4; omega, by show 4 ≤ 5; omega, h.ss, h.nm, h.sn, h.ms, fun _ => h.s4 (.inr (.inl h3)), fun e => absurd rfl e, fun _ => ⟨by show s.sn < P.n; omega, by show s.nm < P.n; omega⟩, vrun_run _ _, fun e => by have e : (4 : Nat) = 5 := e; omega⟩
              · rw [if_neg (by omega), if_neg (by omega), if_neg (by omega), if_pos rfl]
                have hr := h.run h4
                refine ⟨h.st1, h.st5, h.ss, hs9, h.sn, by show 0 < 4; omega, h.s4, fun e => absurd h4 e, fun _ => ⟨hr.1, hp⟩, ?_, fun e => by have e : s.st = 5 := e; omega⟩
                show (vtake (vhold (vfresh s.v) (decide (8 ≤ fl))) ds).run = decide (s.st = 4)
                rw [vtake_run]; exact h.vr
              · rw [if_neg (by omega), if_neg (by omega), if_neg (by omega), if_neg (by omega), if_pos rfl]
                exact Ih.exh (s := hon { s with nm := P.n }) h.ss (by show P.n < _; omega) h.sn (by show 0 < 4; omega)
theorem Ih.tick (h : Ih P s) (k : Int) : Ih P (htickS P s k) := by
  unfold htickS
  by_cases c : k < 0
  · rw [if_pos c]; exact h
  · rw [if_neg c]
    have h' : Ih P { s with dc := tk P.t s.dc k.toNat } := ⟨h.st1, h.st5, h.ss, h.nm, h.sn, h.ms, h.s4, h.hs, h.run, h.vr, h.lat5⟩
    split
    · exact h'.latch 100
    · exact h'
theorem Ih.ack (h : Ih P s) : Ih P (hackS s) := by
  refine ⟨h.st1, h.st5, h.ss, h.nm, h.sn, h.ms, h.s4, h.hs, h.run, (vack_run _).trans h.vr, fun e => ?_⟩
  have e : s.st = 5 := e
  have hr : s.v.run = false := by rw [h.vr, e]; rfl
  show (vack s.v).lat ≠ 0
  unfold vack vreq
  rw [hr, if_neg (by simp)]
  exact h.lat5 e
theorem Ih.write (h : Ih P s) (len : Nat) (bs : Nat → Nat) (o : Bool) : Ih P (hwriteS P s len bs o) := by
  unfold hwriteS
  split
  · exact ⟨h.st1, h.st5, h.ss, h.nm, h.sn, h.ms, h.s4, h.hs, h.run, h.vr, h.lat5⟩
  · exact h
theorem hexh_len (s : Sh) : (hexh s).L.length ≤ s.L.length + 1 := hlatch_len s 80
theorem hmiss_len (s : Sh) : (hmiss s).L.length ≤ s.L.length + 1 := by
  unfold hmiss
  split
  · omega
  · split
    · show s.L.length ≤ _; omega
    · show (hgive _).L.length ≤ _
      unfold hgive
      split
      · exact hlatch_len { s with ms := s.ms + 1 } 131
      · show s.L.length ≤ _; omega
theorem hnext_len (P : Pm) (s : Sh) : (hnext P s).1.L.length ≤ s.L.length + 1 := by
  unfold hnext
  by_cases c1 : s.st = 1
  · rw [if_pos c1]; show s.L.length ≤ _; omega
  · rw [if_neg c1]
    by_cases c2 : s.st = 2
    · rw [if_pos c2]; show s.L.length ≤ _; omega
    · rw [if_neg c2]
      by_cases c3 : s.st = 3
      · rw [if_pos c3]; show s.L.length ≤ _; omega
      · rw [if_neg c3]
        by_cases c4 : s.sn + 1 = P.n
        · rw [if_pos c4]; exact hexh_len { s with sn := s.sn + 1 }
        · rw [if_neg c4]; show s.L.length ≤ _; omega
theorem hsend_len (P : Pm) (s : Sh) : (hsendS P s).L.length ≤ s.L.length + 2 := by
  unfold hsendS
  by_cases c : s.st = 5
  · rw [if_pos c]; omega
  · rw [if_neg c]
    show (hnext P (hmiss s)).1.L.length ≤ _
    have := hnext_len P (hmiss s)
    have := hmiss_len s
    omega
end
end Go.Proofs.YtndjepeolamedaaGreat
namespace Go.Proofs.YtndjepeolamedaaGreat
set_option maxRecDepth 100000
open Go.RowKit
def RHC (P : Pm) (lv vv : Value) (s : Sh) (av : Value) : Array Value :=
  #[.int .u32 (P.c : Nat), .int .i64 (P.o : Nat), .int .i64 (P.i : Nat), .int .i64 (P.t : Nat), .int .u32 (P.n : Nat), lv, .int .i64 (P.t : Nat), .int .i64 (s.dc : Nat),
    .int .i64 (P.i : Nat), .bool s.v.run, .bool s.v.held, .bool s.v.fr, .int .i64 s.v.lat, vv, .bool s.v.sm, .int .i64 (s.st : Nat), .int .u32 (s.ss : Nat), .int .u32 (s.nm : Nat), .int .u32 (s.sn : Nat), .bool s.wt, .int .i64 (s.ms : Nat), av, .bool s.hd]
structure Bk3 where
  M : List Nat
  lv : Value
  vv : Value
  av : Value
  col : Nat → Nat
structure RH (w : World) (d : Nat) (P : Pm) (U : List Nat) (s : Sh) (B : Bk3) : Prop where
  dev : w.heap[d]? = some (.cells (RHC P B.lv B.vv s B.av) 149 (0, 0))
  val : VV w B.M P.i s.v B.vv
  log : w.ownsRow 0 173 4 B.lv s.L.length (rvs s.L)
  app : w.ownsRow 0 5 1 B.av P.o (CB s.ap P.o)
  apb : ∀ i, i < P.o → s.ap i < 256
  vok : Vok s.v
  dcl : s.dc ≤ P.t
  ltU : ∀ k, k ∈ U → k < w.heap.size
  kd : B.col d = 0 ∧ d ∈ U
  kM : ∀ k, k ∈ B.M → B.col k = 4 ∧ k ∈ U
  kl : ∀ k, B.lv.ownBlock = some k → B.col k = 5 ∧ k ∈ U
  ka : ∀ k, B.av.ownBlock = some k → B.col k = 6 ∧ k ∈ U
  pok : Pok P
  nl : s.L.length = 0 → B.lv = .slice none 0 0
def RVh (w : World) (d : Nat) (P : Pm) (U : List Nat) (s : Sh) : Prop := ∃ B, RH w d P U s B
section
variable {w w' : World} {d : Nat} {P : Pm} {U : List Nat} {s s' : Sh} {B : Bk3}
theorem RH.dlt (h : RH w d P U s B) : d < w.heap.size := h.ltU d h.kd.2
theorem RH.fz (h : RH w d P U s B) (j : Nat) : w.frozen? ⟨d, j, none⟩ = false := frozen_of_row w d j _ _ h.dev
theorem RH.own (h : RH w d P U s B) (q : Off [d] w w') (e : w'.heap[d]? = some (.cells (RHC P B.lv B.vv s' B.av) 149 (0, 0)))
    (h2 : s'.v.sm = s.v.sm ∧ s'.v.bs = s.v.bs) (h4 : s'.L = s.L) (h5 : s'.ap = s.ap) (hv : Vok s'.v) (hd : s'.dc ≤ P.t) : RH w' d P U s' B := by
  have hn : ∀ k, B.col k ≠ 0 → k ∉ [d] := fun k hk hm => by simp at hm; rw [hm, h.kd.1] at hk; exact hk rfl
  refine ⟨e, ?_, ?_, ?_, h5 ▸ h.apb, hv, hd, fun k hk => Nat.lt_of_lt_of_le (h.ltU k hk) q.size, h.kd, h.kM, h.kl, h.ka, h.pok, fun e => h.nl (by rw [← h4]; exact e)⟩
  · exact (h.val.off q (fun k hk hM => by simp at hk; subst hk; have := (h.kM _ hM).1; rw [h.kd.1] at this; omega)).same h2.1 h2.2
  · rw [h4]; exact own_offk h.log q (fun k hk => hn _ (by rw [(h.kl k hk).1]; omega))
  · rw [h5]; exact own_offk h.app q (fun k hk => hn _ (by rw [(h.ka k hk).1]; omega))
theorem RH.clr (h : RH w d P U s B) (q : Off [d] w w') (e : w'.heap[d]? = some (.cells (RHC P B.lv (.slice none 0 0) s' B.av) 149 (0, 0)))
    (h2 : s'.v.sm = false) (h4 : s'.L = s.L) (h5 : s'.ap = s.ap) (hv : Vok s'.v) (hd : s'.dc ≤ P.t) : RH w' d P U s' { B with vv := .slice none 0 0 } := by
  have hn : ∀ k, B.col k ≠ 0 → k ∉ [d] := fun k hk hm => by simp at hm; rw [hm, h.kd.1] at hk; exact hk rfl
  refine ⟨e, .inl ⟨h2, rfl⟩, ?_, ?_, h5 ▸ h.apb, hv, hd, fun k hk => Nat.lt_of_lt_of_le (h.ltU k hk) q.size, h.kd, h.kM, h.kl, h.ka, h.pok, fun e => h.nl (by rw [← h4]; exact e)⟩
  · rw [h4]; exact own_offk h.log q (fun k hk => hn _ (by rw [(h.kl k hk).1]; omega))
  · rw [h5]; exact own_offk h.app q (fun k hk => hn _ (by rw [(h.ka k hk).1]; omega))
theorem RH.newd (h : RH w d P U s B) (q : Off [] w w') : RH w' d P U s B :=
  ⟨(q.block d h.dlt (by simp)).trans h.dev, h.val.off q (by simp), own_offk h.log q (by simp), own_offk h.app q (by simp), h.apb, h.vok, h.dcl, fun k hk => Nat.lt_of_lt_of_le (h.ltU k hk) q.size, h.kd, h.kM, h.kl, h.ka, h.pok, h.nl⟩
end
end Go.Proofs.YtndjepeolamedaaGreat
namespace Go.Proofs.YtndjepeolamedaaGreat
set_option maxRecDepth 100000
open Go.RowKit
set_option maxHeartbeats 1600000 in
theorem hrqv_any (d : Nat) (P : Pm) (U : List Nat) (s : Sh) (B : Bk3) (w : World) (h : RH w d P U s B) :
    Calls Tryz.prog 144 #[.pointer (some ⟨d, 8, none⟩)] w fun e w' => e = .returned (.bool (vreq s.v)) ∧ w' = w := by
  have c12 : w.cell? ⟨d, 9, none⟩ = some (.bool s.v.run) := cell_of_row w d 9 _ _ _ h.dev
  have c14 : w.cell? ⟨d, 11, none⟩ = some (.bool s.v.fr) := cell_of_row w d 11 _ _ _ h.dev
  have c15 : w.cell? ⟨d, 12, none⟩ = some (.int .i64 s.v.lat) := cell_of_row w d 12 _ _ _ h.dev
  clear h
  unfold vreq
  cases hr : s.v.run
  · rw [hr] at c12
    go_enter Tryz.func144, Tryz.ntmps144
    go_wp2_with fail
    go_ret
    exact ⟨rfl, rfl⟩
  · rw [hr] at c12
    by_cases hl : s.v.lat = 0
    · rw [hl] at c15 ⊢
      go_enter Tryz.func144, Tryz.ntmps144
      go_wp2_with fail
      go_ret
      exact ⟨rfl, rfl⟩
    · go_enter Tryz.func144, Tryz.ntmps144
      go_wp2_with fail
      go_ret
      exact ⟨rfl, rfl⟩
set_option maxHeartbeats 1600000 in
theorem hrrunv_any (d : Nat) (P : Pm) (U : List Nat) (s : Sh) (B : Bk3) (o : Bool) (w : World) (h : RH w d P U s B) :
    Calls Tryz.prog 93 #[.pointer (some ⟨d, 8, none⟩), .bool o] w fun e w' => e = .returned (.tuple #[]) ∧ Hid (Gr U w U w' ∧ ∃ B', RH w' d P U { s with v := vrun s.v o } B') := by
  have c12 : w.cell? ⟨d, 9, none⟩ = some (.bool s.v.run) := cell_of_row w d 9 _ _ _ h.dev
  have c13 : w.cell? ⟨d, 10, none⟩ = some (.bool s.v.held) := cell_of_row w d 10 _ _ _ h.dev
  have c16 : w.cell? ⟨d, 13, none⟩ = some B.vv := cell_of_row w d 13 _ _ _ h.dev
  have c17 : w.cell? ⟨d, 14, none⟩ = some (.bool s.v.sm) := cell_of_row w d 14 _ _ _ h.dev
  have z12 := h.fz 9
  have z13 := h.fz 10
  have z16 := h.fz 13
  have z17 := h.fz 14
  unfold vrun
  by_cases hr : s.v.run = o
  · rw [if_pos hr]
    have H : Hid (_) := h
    rw [hr] at c12
    clear h
    cases o
    all_goals
      go_enter Tryz.func93, Tryz.ntmps93
      go_wp2_with fail
      refine bodyPost_ret (results_none rfl _ _ _) rfl ?_
      exact ⟨rfl, Gr.refl _ _, B, H.out⟩
  · rw [if_neg hr]
    have e1 : (w.setCell ⟨d, 9, none⟩ (.bool o)).heap[d]? = some (.cells (RHC P B.lv B.vv { s with v := { s.v with run := o } } B.av) 149 (0, 0)) := heap_setCell_same _ _ _ _ _ _ h.dev
    have e2 : ((w.setCell ⟨d, 9, none⟩ (.bool o)).setCell ⟨d, 10, none⟩ (.bool false)).heap[d]? = some (.cells (RHC P B.lv B.vv { s with v := { s.v with run := o, held := false } } B.av) 149 (0, 0)) := heap_setCell_same _ _ _ _ _ _ e1
    have e3 : (((w.setCell ⟨d, 9, none⟩ (.bool o)).setCell ⟨d, 10, none⟩ (.bool false)).setCell ⟨d, 14, none⟩ (.bool false)).heap[d]? = some (.cells (RHC P B.lv B.vv { s with v := { s.v with run := o, held := false, sm := false } } B.av) 149 (0, 0)) := heap_setCell_same _ _ _ _ _ _ e2
    have e4 : ((((w.setCell ⟨d, 9, none⟩ (.bool o)).setCell ⟨d, 10, none⟩ (.bool false)).setCell ⟨d, 14, none⟩ (.bool false)).setCell ⟨d, 13, none⟩ (.slice none 0 0)).heap[d]? = some (.cells (RHC P B.lv (.slice none 0 0) { s with v := { s.v with run := o, held := false, sm := false } } B.av) 149 (0, 0)) := heap_setCell_same _ _ _ _ _ _ e3
    have o4 := (((Off.setCell d 9 w (.bool o)).trans (Off.setCell d 10 _ (.bool false))).trans (Off.setCell d 14 _ (.bool false))).trans (Off.setCell d 13 _ (.slice none 0 0))
    have F : Hid (_) := And.intro (Gr.same (U := U) o4 (by simp [h.kd.2])) (h.clr o4 e4 rfl rfl rfl ⟨h.vok.fr, fun h => by cases h⟩ h.dcl)
    clear h e1 e2 e3 e4 o4
    have hr' : s.v.run = !o := by cases o <;> cases hq : s.v.run <;> simp_all
    rw [hr'] at c12
    clear hr
    cases o
    all_goals
      go_enter Tryz.func93, Tryz.ntmps93
      go_wp2_with fail
      go_end0
      exact ⟨rfl, F.out.1, _, F.out.2⟩
set_option maxHeartbeats 1600000 in
theorem hrcomev_any (d : Nat) (P : Pm) (U : List Nat) (s : Sh) (B : Bk3) (w : World) (h : RH w d P U s B) :
    Calls Tryz.prog 187 #[.pointer (some ⟨d, 8, none⟩)] w fun e w' => e = .returned (.tuple #[]) ∧ Hid (Gr U w U w' ∧ ∃ B', RH w' d P U { s with v := vfresh s.v } B') := by
  have c14 : w.cell? ⟨d, 11, none⟩ = some (.bool s.v.fr) := cell_of_row w d 11 _ _ _ h.dev
  have c15 : w.cell? ⟨d, 12, none⟩ = some (.int .i64 s.v.lat) := cell_of_row w d 12 _ _ _ h.dev
  have z14 := h.fz 11
  by_cases hl : s.v.lat = 0
  · have hf : vfresh s.v = s.v := by
      have e : (s.v.lat != 0) = s.v.fr := by rw [h.vok.fr hl]; simpa using hl
      show ({ s.v with fr := (s.v.lat != 0) } : Vs) = s.v
      rw [e]
    rw [hf]
    have H : Hid (_) := h
    rw [hl] at c15
    clear h hf
    go_enter Tryz.func187, Tryz.ntmps187
    go_wp2_with fail
    go_end0
    exact ⟨rfl, Gr.refl _ _, B, H.out⟩
  · have e1 : (w.setCell ⟨d, 11, none⟩ (.bool true)).heap[d]? = some (.cells (RHC P B.lv B.vv { s with v := vfresh s.v } B.av) 149 (0, 0)) := by
      have : (s.v.lat != 0) = true := by simpa using hl
      unfold vfresh
      rw [this]
      exact heap_setCell_same _ _ _ _ _ _ h.dev
    have o1 := Off.setCell d 11 w (.bool true)
    have F : Hid (_) := And.intro (Gr.same (U := U) o1 (by simp [h.kd.2])) (h.own (s' := { s with v := vfresh s.v }) o1 e1 ⟨rfl, rfl⟩ rfl rfl h.vok.fresh h.dcl)
    have hl' : (s.v.lat != 0) = true := by simpa using hl
    clear h e1 o1 hl
    go_enter Tryz.func187, Tryz.ntmps187
    go_wp2_with fail
    go_end0
    exact ⟨rfl, F.out.1, _, F.out.2⟩
set_option maxHeartbeats 1600000 in
theorem hrtripv_any (d : Nat) (P : Pm) (U : List Nat) (s : Sh) (B : Bk3) (x : Int) (w : World) (h : RH w d P U s B) (hx : x ≠ 0) :
    Calls Tryz.prog 152 #[.pointer (some ⟨d, 8, none⟩), .int .i64 x] w fun e w' => e = .returned (.bool (vtripB s.v x)) ∧ Hid (Gr U w U w' ∧ ∃ B', RH w' d P U { s with v := vtrip s.v x } B') := by
  have c14 : w.cell? ⟨d, 11, none⟩ = some (.bool s.v.fr) := cell_of_row w d 11 _ _ _ h.dev
  have c15 : w.cell? ⟨d, 12, none⟩ = some (.int .i64 s.v.lat) := cell_of_row w d 12 _ _ _ h.dev
  have c16 : w.cell? ⟨d, 13, none⟩ = some B.vv := cell_of_row w d 13 _ _ _ h.dev
  have c17 : w.cell? ⟨d, 14, none⟩ = some (.bool s.v.sm) := cell_of_row w d 14 _ _ _ h.dev
  have z14 := h.fz 11
  have z15 := h.fz 12
  have z16 := h.fz 13
  have z17 := h.fz 14
  have e1 : (w.setCell ⟨d, 14, none⟩ (.bool false)).heap[d]? = some (.cells (RHC P B.lv B.vv { s with v := { s.v with sm := false } } B.av) 149 (0, 0)) := heap_setCell_same _ _ _ _ _ _ h.dev
  have e2 : ((w.setCell ⟨d, 14, none⟩ (.bool false)).setCell ⟨d, 13, none⟩ (.slice none 0 0)).heap[d]? = some (.cells (RHC P B.lv (.slice none 0 0) { s with v := { s.v with sm := false } } B.av) 149 (0, 0)) := heap_setCell_same _ _ _ _ _ _ e1
  have e3 : (((w.setCell ⟨d, 14, none⟩ (.bool false)).setCell ⟨d, 13, none⟩ (.slice none 0 0)).setCell ⟨d, 11, none⟩ (.bool false)).heap[d]? = some (.cells (RHC P B.lv (.slice none 0 0) { s with v := { s.v with sm := false, fr := false } } B.av) 149 (0, 0)) := heap_setCell_same _ _ _ _ _ _ e2
  have o3 := ((Off.setCell d 14 w (.bool false)).trans (Off.setCell d 13 _ (.slice none 0 0))).trans (Off.setCell d 11 _ (.bool false))
  have hx0 : (x == 0) = false := by simpa using hx
  have hx1 : (x = 0) = False := by simpa using hx
  unfold vtrip vtripB
  rw [if_neg hx]
  by_cases hl : s.v.lat = 0
  · rw [if_pos hl, decide_eq_true ⟨hx, hl⟩]
    have e4 : ((((w.setCell ⟨d, 14, none⟩ (.bool false)).setCell ⟨d, 13, none⟩ (.slice none 0 0)).setCell ⟨d, 11, none⟩ (.bool false)).setCell ⟨d, 12, none⟩ (.int .i64 x)).heap[d]? = some (.cells (RHC P B.lv (.slice none 0 0) { s with v := { s.v with sm := false, fr := false, lat := x } } B.av) 149 (0, 0)) := heap_setCell_same _ _ _ _ _ _ e3
    have o4 := o3.trans (Off.setCell d 12 _ (.int .i64 x))
    have F : Hid (_) := And.intro (Gr.same (U := U) o4 (by simp [h.kd.2])) (h.clr (s' := { s with v := { s.v with fr := false, sm := false, lat := x } }) o4 e4 rfl rfl rfl ⟨fun _ => rfl, fun h => by cases h⟩ h.dcl)
    rw [hl] at c15
    clear h e1 e2 e3 e4 o3 o4 hl hx
    go_enter Tryz.func152, Tryz.ntmps152
    go_wp2_with fail
    go_ret
    exact ⟨rfl, F.out.1, _, F.out.2⟩
  · rw [if_neg hl, decide_eq_false (fun k => hl k.2)]
    have F : Hid (_) := And.intro (Gr.same (U := U) o3 (by simp [h.kd.2])) (h.clr (s' := { s with v := { s.v with fr := false, sm := false } }) o3 e3 rfl rfl rfl ⟨fun _ => rfl, fun h => by cases h⟩ h.dcl)
    have hl' : (s.v.lat != 0) = true := by simpa using hl
    clear h e1 e2 e3 o3 hl hx
    go_enter Tryz.func152, Tryz.ntmps152
    go_wp2_with fail
    go_ret
    exact ⟨rfl, F.out.1, _, F.out.2⟩
set_option maxHeartbeats 1600000 in
theorem hrholdv_any (d : Nat) (P : Pm) (U : List Nat) (s : Sh) (B : Bk3) (o : Bool) (w : World) (h : RH w d P U s B) :
    Calls Tryz.prog 128 #[.pointer (some ⟨d, 8, none⟩), .bool o] w fun e w' => e = .returned (.tuple #[]) ∧ Hid (Gr U w U w' ∧ ∃ B', RH w' d P U { s with v := vhold s.v o } B') := by
  have c12 : w.cell? ⟨d, 9, none⟩ = some (.bool s.v.run) := cell_of_row w d 9 _ _ _ h.dev
  have c13 : w.cell? ⟨d, 10, none⟩ = some (.bool s.v.held) := cell_of_row w d 10 _ _ _ h.dev
  have z13 := h.fz 10
  have e1 : (w.setCell ⟨d, 10, none⟩ (.bool (o && s.v.run))).heap[d]? = some (.cells (RHC P B.lv B.vv { s with v := vhold s.v o } B.av) 149 (0, 0)) := heap_setCell_same _ _ _ _ _ _ h.dev
  have o1 := Off.setCell d 10 w (.bool (o && s.v.run))
  have F : Hid (_) := And.intro (Gr.same (U := U) o1 (by simp [h.kd.2])) (h.own (s' := { s with v := vhold s.v o }) o1 e1 ⟨rfl, rfl⟩ rfl rfl (h.vok.hold o) h.dcl)
  clear h e1 o1
  cases o
  all_goals
    go_enter Tryz.func128, Tryz.ntmps128
    go_wp2_with fail
    go_end0
    exact ⟨rfl, F.out.1, _, F.out.2⟩
set_option maxHeartbeats 1600000 in
theorem hrackv_any (d : Nat) (P : Pm) (U : List Nat) (s : Sh) (B : Bk3) (w : World) (h : RH w d P U s B) :
    Calls Tryz.prog 138 #[.pointer (some ⟨d, 8, none⟩)] w fun e w' => e = .returned (.bool (vreq s.v)) ∧ Hid (Gr U w U w' ∧ ∃ B', RH w' d P U { s with v := vack s.v } B') := by
  have hq := hrqv_any d P U s B w h
  have c14 : w.cell? ⟨d, 11, none⟩ = some (.bool s.v.fr) := cell_of_row w d 11 _ _ _ h.dev
  have c15 : w.cell? ⟨d, 12, none⟩ = some (.int .i64 s.v.lat) := cell_of_row w d 12 _ _ _ h.dev
  have z14 := h.fz 11
  have z15 := h.fz 12
  unfold vack
  by_cases hr : vreq s.v = true
  · rw [if_pos hr, hr]
    rw [hr] at hq
    have e1 : (w.setCell ⟨d, 12, none⟩ (.int .i64 0)).heap[d]? = some (.cells (RHC P B.lv B.vv { s with v := { s.v with lat := 0 } } B.av) 149 (0, 0)) := heap_setCell_same _ _ _ _ _ _ h.dev
    have e2 : ((w.setCell ⟨d, 12, none⟩ (.int .i64 0)).setCell ⟨d, 11, none⟩ (.bool false)).heap[d]? = some (.cells (RHC P B.lv B.vv { s with v := { s.v with lat := 0, fr := false } } B.av) 149 (0, 0)) := heap_setCell_same _ _ _ _ _ _ e1
    have o2 := (Off.setCell d 12 w (.int .i64 0)).trans (Off.setCell d 11 _ (.bool false))
    have F : Hid (_) := And.intro (Gr.same (U := U) o2 (by simp [h.kd.2])) (h.own (s' := { s with v := { s.v with lat := 0, fr := false } }) o2 e2 ⟨rfl, rfl⟩ rfl rfl ⟨fun _ => rfl, fun _ => rfl⟩ h.dcl)
    clear h e1 e2 o2 hr
    go_enter Tryz.func138, Tryz.ntmps138
    go_wp2_with (go_at_call 144; refine hq.mono ?_; rintro e w' ⟨rfl, hw⟩; have hw := hw.symm; subst hw)
    go_ret
    exact ⟨rfl, F.out.1, _, F.out.2⟩
  · have hr' : vreq s.v = false := by simpa using hr
    rw [if_neg hr, hr']
    rw [hr'] at hq
    have H : Hid (_) := h
    clear h hr
    go_enter Tryz.func138, Tryz.ntmps138
    go_wp2_with (go_at_call 144; refine hq.mono ?_; rintro e w' ⟨rfl, hw⟩; have hw := hw.symm; subst hw)
    go_ret
    exact ⟨rfl, Gr.refl _ _, B, H.out⟩
set_option maxHeartbeats 1600000 in
theorem hrticksv_any (d : Nat) (P : Pm) (U : List Nat) (s : Sh) (B : Bk3) (k : Nat) (w : World) (h : RH w d P U s B) (hk : k ≤ 9223372036854775807) :
    Calls Tryz.prog 136 #[.pointer (some ⟨d, 6, none⟩), .int .i64 (k : Nat)] w fun e w' => e = .returned (.bool (told P.t s.dc k)) ∧ Hid (Gr U w U w' ∧ ∃ B', RH w' d P U { s with dc := tk P.t s.dc k } B') := by
  have c9 : w.cell? ⟨d, 6, none⟩ = some (.int .i64 (P.t : Nat)) := cell_of_row w d 6 _ _ _ h.dev
  have c10 : w.cell? ⟨d, 7, none⟩ = some (.int .i64 (s.dc : Nat)) := cell_of_row w d 7 _ _ _ h.dev
  have hle := h.dcl
  have ht := h.pok.t2
  have F : Hid (∀ (w2 : World) (x : Nat), RH w2 d P U s B → x ≤ P.t → Gr U w2 U (w2.setCell ⟨d, 7, none⟩ (.int .i64 (x : Nat))) ∧ RH (w2.setCell ⟨d, 7, none⟩ (.int .i64 (x : Nat))) d P U { s with dc := x } B) := fun w2 x h hx => ⟨Gr.same (Off.setCell d 7 w2 _) (by simp [h.kd.2]), h.own (Off.setCell d 7 w2 _) (heap_setCell_same _ _ _ _ _ _ h.dev) ⟨rfl, rfl⟩ rfl rfl h.vok hx⟩
  have H : Hid (_) := h
  clear h
  by_cases g1 : P.t ≤ s.dc
  · have ht : told P.t s.dc k = false := by unfold told; simp; omega
    have hk : tk P.t s.dc k = s.dc := by unfold tk; omega
    rw [ht, hk]
    clear ht hk F
    go_enter Tryz.func136, Tryz.ntmps136
    go_wp2_with fail
    go_quiet (fail)
    go_wp2_with fail
    go_ret
    exact ⟨rfl, Gr.same (l := []) (Off.drewN _ _ _) (by simp), B, H.out.newd (Off.drewN [] _ _)⟩
  · have e1 : IntKind.i64.wrap ((P.t : Int) - (s.dc : Int)) = ((P.t - s.dc : Nat) : Int) := by rw [IntKind.wrap_i64]; omega
    obtain ⟨L, hL⟩ : ∃ L, L = P.t - s.dc := ⟨_, rfl⟩
    rw [← hL] at e1
    by_cases g2 : L ≤ k
    · have ht : told P.t s.dc k = true := by unfold told; simp; omega
      have hk : tk P.t s.dc k = P.t := by unfold tk; omega
      rw [ht, hk]
      clear ht hk
      go_enter Tryz.func136, Tryz.ntmps136
      go_wp2_with fail
      go_quiet (fail)
      go_wp2_with fail
      have H2 := H.out.newd (Off.drewN [] w nq)
      have O2 : Gr U w U (w.drewN nq) := Gr.same (l := []) (Off.drewN _ _ _) (by simp)
      clear H c9 c10
      generalize w.drewN nq = w2 at *
      have c9 : w2.cell? ⟨d, 6, none⟩ = some (.int .i64 (P.t : Nat)) := cell_of_row w2 d 6 _ _ _ H2.dev
      have c10 : w2.cell? ⟨d, 7, none⟩ = some (.int .i64 (s.dc : Nat)) := cell_of_row w2 d 7 _ _ _ H2.dev
      have z10 := H2.fz 7
      have HH : Hid (_) := And.intro H2 O2
      clear H2 O2
      go_quiet (fail)
      go_wp2_with fail
      go_ret
      have X := HH.out.1.newd (Off.drewN [] w2 nq)
      have Y := F.out _ P.t X (Nat.le_refl _)
      exact ⟨rfl, (HH.out.2.trans (Gr.same (l := []) (Off.drewN _ _ _) (by simp))).trans Y.1, B, Y.2⟩
    · have ht : told P.t s.dc k = false := by unfold told; simp; omega
      have hk' : tk P.t s.dc k = s.dc + k := by unfold tk; omega
      obtain ⟨x, hx⟩ : ∃ x, s.dc + k = x := ⟨_, rfl⟩
      rw [ht, hk', hx]
      have hxl : x ≤ P.t := by omega
      have i3 : (s.dc : Int) + (k : Int) = (x : Int) := by omega
      have HX : Hid (_) := hxl
      clear ht hk' hx hxl
      go_enter Tryz.func136, Tryz.ntmps136
      go_wp2_with fail
      go_quiet (fail)
      go_wp2_with fail
      have H2 := H.out.newd (Off.drewN [] w nq)
      have O2 : Gr U w U (w.drewN nq) := Gr.same (l := []) (Off.drewN _ _ _) (by simp)
      clear H c9 c10
      generalize w.drewN nq = w2 at *
      have c9 : w2.cell? ⟨d, 6, none⟩ = some (.int .i64 (P.t : Nat)) := cell_of_row w2 d 6 _ _ _ H2.dev
      have c10 : w2.cell? ⟨d, 7, none⟩ = some (.int .i64 (s.dc : Nat)) := cell_of_row w2 d 7 _ _ _ H2.dev
      have z10 := H2.fz 7
      have HH : Hid (_) := And.intro H2 O2
      clear H2 O2
      go_quiet (fail)
      go_wp2_with fail
      go_ret
      have X := HH.out.1.newd (Off.drewN [] w2 nq)
      have Y := F.out _ x X HX.out
      exact ⟨rfl, (HH.out.2.trans (Gr.same (l := []) (Off.drewN _ _ _) (by simp))).trans Y.1, B, Y.2⟩
end Go.Proofs.YtndjepeolamedaaGreat
namespace Go.Proofs.YtndjepeolamedaaGreat
set_option maxRecDepth 100000
open Go.RowKit
end Go.Proofs.YtndjepeolamedaaGreat
namespace Go.Proofs.YtndjepeolamedaaGreat
set_option maxRecDepth 100000
open Go.RowKit Go.Maps
theorem own_some {w : World} {B e size n : Nat} {v : Value} {xs : List Value} (h : w.ownsRow B e size v (n + 1) xs) : ∃ g cap, v = .slice (some ⟨g, 0, none⟩) (n + 1) cap ∧ B ≤ g ∧ g < w.heap.size := by
  rcases h.2 with ⟨_, hn⟩ | ⟨g, cap, cur, rfl, hg, hgg, rest⟩
  · omega
  · exact ⟨g, cap, rfl, hg, (Array.getElem?_eq_some_iff.1 hgg).1⟩
theorem cells_rv {w : World} {g : Nat} {x : R4} (hg : w.heap[g]? = some (.cells #[.int .i64 x.1, .int .i64 x.2.1, .int .u32 x.2.2.1, .int .u32 x.2.2.2] 173 (0, 0))) : ∀ j u, (rv x)[j]? = some u → w.cell? ((⟨g, 0, none⟩ : Addr).add j) = some u := by
  obtain ⟨c0, c1, c2, c3, _⟩ := cells4 hg
  intro j u hu
  have hj : j < 4 := by
    by_cases hj : j < 4
    · exact hj
    · rw [List.getElem?_eq_none (by rw [rv_len]; omega)] at hu; cases hu
  have c : j = 0 ∨ j = 1 ∨ j = 2 ∨ j = 3 := by omega
  rcases c with rfl | rfl | rfl | rfl
  · simp [rv] at hu; subst hu; simpa [Addr.add] using c0
  · simp [rv] at hu; subst hu; simpa [Addr.add] using c1
  · simp [rv] at hu; subst hu; simpa [Addr.add] using c2
  · simp [rv] at hu; subst hu; simpa [Addr.add] using c3
theorem step_appT {ops : Array Oper} {o : Oper} {a : Act} {w : World} {K : Act → World → Prop} {Q : Exit → Act → World → Prop} {E : Prop}
    (hg : o.guard = none) (s x : Operand) (hop : o.op = Op.call { callee := Callee.builtin Builtin.append, args := #[s, x], argTypes := #[88, 88] }) (hty : o.type = 88)
    (B n g : Nat) (L : List R4) (xr : R4) (v : Value) (hs : a.eval s = v) (hown : w.ownsRow B 173 4 v n (rvs L)) (hx : a.eval x = .slice (some ⟨g, 0, none⟩) 1 1)
    (hgc : w.heap[g]? = some (.cells #[.int .i64 xr.1, .int .i64 xr.2.1, .int .u32 xr.2.2.1, .int .u32 xr.2.2.2] 173 (0, 0))) (hn : n < 1000000) (hB : B ≤ w.heap.size)
    (hK : ∀ g' cap' w', Hid (w'.ownsRow B 173 4 (.slice (some ⟨g', 0, none⟩) (n + 1) cap') (n + 1) (rvs (L ++ [xr])) ∧ w.grownBy w' v.ownBlock ∧ (v.ownBlock = some g' ∨ g' = w.heap.size)) → K (a.put o.dst (.slice (some ⟨g', 0, none⟩) (n + 1) cap')) w') :
    if Region.wanted o (yielded ops a.tmps) = true then Oper.wp Tryz.prog o a w K Q else E := by
  have hw : Region.wanted o (yielded ops a.tmps) = true := by simp [Region.wanted, hg]
  rw [if_pos hw]
  obtain ⟨i, hi, h0, h1, h2⟩ := info_parts info_rec
  obtain ⟨v', w', hrun, h3, h4, _, h5⟩ := run_append_own_at w B 88 88 173 i _ 4 24 Tryz.underlying88 hi h0 h1 h2 rfl (by decide) v n (rvs L) hown ⟨g, 0, none⟩ 1 1 (rv xr) rfl (cells_rv hgc) (rv_one xr) (by unfold maxLen; omega) (by omega) hB
  obtain ⟨g', cap', rfl, _, _⟩ := own_some h3
  unfold Oper.wp execOp
  simp only [hop, hty, resolve, invoke, builtin, Sem.run_bind, Sem.run_pure, Result.andThen_ok, List.map_toArray, List.map_cons, List.map_nil, hs, hx, hrun]
  refine hK g' cap' w' ⟨?_, h4, ?_⟩
  · rw [rvs_append, rvs_one]; exact h3
  · rcases h5 with h5 | h5
    · left; rw [← h5]; rfl
    · right; simpa [Value.ownBlock] using h5
end Go.Proofs.YtndjepeolamedaaGreat
namespace Go.Proofs.YtndjepeolamedaaGreat
set_option maxRecDepth 100000
open Go.RowKit Go.Maps
theorem own_form4 {w : World} {B n : Nat} {e : TypeId} {v : Value} {xs : List Value} (h : w.ownsRow B e 4 v n xs) : ∃ a cap, v = .slice a n cap := by
  rcases h.2 with ⟨rfl, hn⟩ | ⟨g, cap, cur, rfl, _⟩
  · exact ⟨none, 0, by rw [hn]⟩
  · exact ⟨_, cap, rfl⟩
section
variable {w wx w3 : World} {d m g n mx : Nat} {P : Pm} {U : List Nat} {s : Sd} {B : Bk2} {A : Prop}
theorem RB.grown (h : RB w d m g n mx P U s B A) (hx : Below w.heap.size w wx) (hg : wx.grownBy w3 B.lv.ownBlock) : w3.heap[d]? = some (.cells (RDC P m mx B.cp B.lv B.vv s B.av) 128 (0, 0)) := by
  rw [hg.block d (Nat.lt_of_lt_of_le h.dlt hx.size) (fun e => by have := (h.kl d e.symm).1; rw [h.kd.1] at this; omega), hx.block d h.dlt]
  exact h.dev
theorem RB.logd (h : RB w d m g n mx P U s B A) {gg cap : Nat} {x : R4} (hx : Below w.heap.size w wx)
    (ho : w3.ownsRow 0 173 4 (.slice (some ⟨gg, 0, none⟩) (s.L.length + 1) cap) (s.L.length + 1) (rvs (s.L ++ [x])) ∧ wx.grownBy w3 B.lv.ownBlock ∧ (B.lv.ownBlock = some gg ∨ gg = wx.heap.size)) :
    ∃ U' B', Gr U w U' (w3.setCell ⟨d, 8, none⟩ (.slice (some ⟨gg, 0, none⟩) (s.L.length + 1) cap)) ∧ RB (w3.setCell ⟨d, 8, none⟩ (.slice (some ⟨gg, 0, none⟩) (s.L.length + 1) cap)) d m g n mx P U' { s with L := s.L ++ [x] } B' A := by
  obtain ⟨h1, h2, h3⟩ := ho
  have hd3 := h.grown hx h2
  have hs := hx.size
  have hs2 := h2.size
  obtain ⟨g', cap', e, _, hgl⟩ := own_some h1
  have hgl : gg < w3.heap.size := by
    simp only [Value.slice.injEq, Option.some.injEq, Addr.mk.injEq] at e
    rw [e.1.1]; exact hgl
  have q : Off B.lv.ownBlock.toList w w3 := by
    refine ⟨h2.os.trans hx.os, h2.tape.trans hx.tape, h2.output.trans hx.output, Nat.le_trans hs hs2, fun k hk hkV => ?_⟩
    rw [h2.block k (by omega) (fun e => hkV (by rw [← e]; simp))]
    exact hx.block k hk
  have o3 : Off [d] w3 (w3.setCell ⟨d, 8, none⟩ (.slice (some ⟨gg, 0, none⟩) (s.L.length + 1) cap)) := Off.setCell d 8 w3 _
  have s3 := o3.size
  have hn : ∀ k, B.col k ≠ 0 → k ∉ [d] := fun k hk hm => by simp at hm; rw [hm, h.kd.1] at hk; exact hk rfl
  have hl : ∀ k, B.col k ≠ 5 → k ∉ B.lv.ownBlock.toList := fun k hk hm => hk (h.kl k (by simpa using hm)).1
  have hgU : (B.col gg = 5 ∧ gg ∈ U) ∨ w.heap.size ≤ gg := by
    rcases h3 with h3 | h3
    · exact .inl (h.kl gg h3)
    · right; omega
  have hdg : gg ≠ d := by
    rcases hgU with hh | hh
    · intro e; rw [e, h.kd.1] at hh; omega
    · have := h.dlt; omega
  have hq : ∀ k x, B.col k = x ∧ k ∈ U → (if k < w.heap.size then B.col k else 5) = x ∧ k ∈ gg :: U := fun k x hk => ⟨by rw [if_pos (h.ltU k hk.2)]; exact hk.1, by simp [hk.2]⟩
  refine ⟨gg :: U, { B with lv := .slice (some ⟨gg, 0, none⟩) (s.L.length + 1) cap, col := fun k => if k < w.heap.size then B.col k else 5 }, ⟨?_, ?_⟩, ?_⟩
  · exact (q.more (fun k hk => (h.kl k (by simpa using hk)).2)).trans (o3.more (by simp [h.kd.2]))
  · intro k hk
    simp at hk
    rcases hk with rfl | hk
    · rcases hgU with hh | hh
      · exact .inl hh.2
      · exact .inr hh
    · exact .inl hk
  · refine ⟨heap_setCell_same _ _ _ _ _ _ hd3, (h.mem.off q (hl _ (by rw [h.km.1]; omega)) (hl _ (by rw [h.kg.1]; omega))).off o3 (hn _ (by rw [h.km.1]; omega)) (hn _ (by rw [h.kg.1]; omega)), fun hA => ?_, ?_, ?_, ?_, h.apb, h.vok, h.dcl, ?_, hq _ _ h.kd, hq _ _ h.km, hq _ _ h.kg, hq _ _ h.kc, fun k hk => hq _ _ (h.kM k hk), ?_, fun k hk => hq _ _ (h.ka k hk), h.pok, h.n10, h.mx0, h.mxl, fun e => by simp at e⟩
    · obtain ⟨c1, c2, c3⟩ := h.cel hA
      exact ⟨c1, (c2.off q (hl _ (by rw [h.kc.1]; omega))).off o3 (hn _ (by rw [h.kc.1]; omega)), c3⟩
    · exact (h.val.off q (fun k hk hM => hl k (by rw [(h.kM k hM).1]; omega) hk)).off o3 (fun k hk hM => hn k (by rw [(h.kM k hM).1]; omega) hk)
    · have : (s.L ++ [x]).length = s.L.length + 1 := by simp
      show World.ownsRow _ 0 _ 4 _ (s.L ++ [x]).length _
      rw [this]
      exact own_offk h1 o3 (fun k hk => by simp only [Value.ownBlock, Option.some.injEq] at hk; subst hk; simpa using hdg)
    · exact own_offk (own_offk h.app q (fun k hk => hl _ (by rw [(h.ka k hk).1]; omega))) o3 (fun k hk => hn _ (by rw [(h.ka k hk).1]; omega))
    · intro k hk
      simp at hk
      rcases hk with rfl | hk
      · omega
      · have := h.ltU k hk; omega
    · intro k hk
      simp only [Value.ownBlock, Option.some.injEq] at hk
      subst hk
      refine ⟨?_, by simp⟩
      show (if gg < w.heap.size then B.col gg else 5) = 5
      rcases hgU with hh | hh
      · rw [if_pos (h.ltU _ hh.2)]; exact hh.1
      · rw [if_neg (by omega)]
end
end Go.Proofs.YtndjepeolamedaaGreat
