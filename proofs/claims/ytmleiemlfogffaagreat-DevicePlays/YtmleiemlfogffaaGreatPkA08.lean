/- Part 9 of the texts on which the proofs of layer 13 rest: contracts of Go functions. -/
import Derived.Deep.RegionHeld3
import Derived.Sort.WalkA
import Derived.Deep.RegionLaw
import Derived.Maps.AppendAt
import Derived.Test.YtmleiemlfogffaaGreatPkA02
import Derived.Test.YtmleiemlfogffaaGreatPkA04
import Derived.Test.YtmleiemlfogffaaGreatPkA07
namespace Go.Proofs.YtmleiemlfogffaaGreat
set_option maxRecDepth 100000
open Go.RowKit Go.Maps
def put4 (w : World) (b o : Nat) (x : R4) : World := (((w.setCell ⟨b, o, none⟩ (.int .i64 x.1)).setCell ⟨b, o + 1, none⟩ (.int .i64 x.2.1)).setCell ⟨b, o + 2, none⟩ (.int .u32 x.2.2.1)).setCell ⟨b, o + 3, none⟩ (.int .u32 x.2.2.2)
theorem put4_off (w : World) (b o : Nat) (x : R4) : Off [b] w (put4 w b o x) := (((Off.setCell b o w _).trans (Off.setCell b (o + 1) _ _)).trans (Off.setCell b (o + 2) _ _)).trans (Off.setCell b (o + 3) _ _)
set_option maxHeartbeats 4000000 in
set_option maxRecDepth 100000 in
theorem dnote_at (b mA k p : Nat) (t q : Nat) (c s n : Int) (w w1 : World) (R : World → Prop) (hne : c ≠ 0) (hp : p = t % 16) (ht : t < 1000000) (hq : q < 1000000)
    (h0 : w.cell? ⟨b, 0, none⟩ = some (.pointer (some ⟨mA, 0, none⟩)))
    (ha : Calls Tryz.prog 139 #[.pointer (some ⟨mA, 0, none⟩), .int .u64 1] w fun e w' => e = .returned (.tuple #[.int .u64 ((t + 1 : Nat) : Int), .int .i64 0]) ∧ w' = w1)
    (hm : Calls Tryz.prog 140 #[.pointer (some ⟨b, 0, none⟩), .int .i64 c] w1 fun e w' => e = .returned (.pointer (some ⟨k, 0, none⟩)) ∧ R w')
    (hR : ∀ w2, R w2 → Met w2 k (q : Nat) none 0 0 none ∧ ∀ j, j < 66 → ∃ v, (w2.setCell ⟨k, 0, none⟩ (.int .u64 ((q + 1 : Nat) : Int))).cell? ⟨b, j, none⟩ = some v ∧ (w2.setCell ⟨k, 0, none⟩ (.int .u64 ((q + 1 : Nat) : Int))).frozen? ⟨b, j, none⟩ = false) :
    Calls Tryz.prog 104 #[.pointer (some ⟨b, 0, none⟩), .int .i64 c, .int .u32 s, .int .u32 n] w fun e w' => e = .returned (.tuple #[.int .i64 ((t + 1 : Nat) : Int), .int .i64 0]) ∧ Hid (∃ w2, R w2 ∧ w' = (put4 (w2.setCell ⟨k, 0, none⟩ (.int .u64 ((q + 1 : Nat) : Int))) b (2 + p * 4) (((t + 1 : Nat) : Int), c, s, n)).drew) := by
  have hp16 : (p : Int) < 16 := by omega
  have hb : 2 + p * 4 + 3 < 66 := by omega
  have h1 : IntKind.i64.wrap ((t + 1 : Nat) : Int) = ((t + 1 : Nat) : Int) := by rw [IntKind.wrap_i64]; omega
  have hpl := fun w => placeOf_any t p w hp ht
  have hR : Hid (_) := hR
  clear hp
  generalize t + 1 = t1 at *
  go_enter Tryz.func104, Tryz.ntmps104
  go_wp2_with fail
  refine ha.mono ?_
  rintro e w' ⟨rfl, rfl⟩
  go_wp2_with fail
  refine hm.mono ?_
  rintro e w2 ⟨rfl, hr⟩
  have hr : Hid (_) := hr
  obtain ⟨hmt, hcs⟩ := hR.out w2 hr.out
  have ha2 := add_any q 1 k none none 0 0 w2 (by omega) (by omega) hmt
  have es : sat q 1 = q + 1 := by unfold sat; rw [if_neg (by omega)]
  rw [es] at ha2
  obtain ⟨v0, hv0, hf0⟩ := hcs (2 + p * 4) (by omega)
  obtain ⟨v1, hv1, hf1⟩ := hcs (2 + p * 4 + 1) (by omega)
  obtain ⟨v2, hv2, hf2⟩ := hcs (2 + p * 4 + 2) (by omega)
  obtain ⟨v3, hv3, hf3⟩ := hcs (2 + p * 4 + 3) (by omega)
  clear hcs es hmt
  have hw3 : Hid (∀ W, W = w2.setCell ⟨k, 0, none⟩ (.int .u64 ((q + 1 : Nat) : Int)) → Hid (∃ w2, R w2 ∧ (put4 W b (2 + p * 4) ((t1 : Int), c, s, n)).drew = (put4 (w2.setCell ⟨k, 0, none⟩ (.int .u64 ((q + 1 : Nat) : Int))) b (2 + p * 4) ((t1 : Int), c, s, n)).drew)) := fun W e => ⟨w2, hr.out, by rw [e]⟩
  have hw3 := hw3.out _ rfl
  generalize w2.setCell ⟨k, 0, none⟩ (.int .u64 ((q + 1 : Nat) : Int)) = w3 at *
  have gv0 : w3.drew.cell? ⟨b, 2 + p * 4, none⟩ = some v0 := hv0
  have gv1 : w3.drew.cell? ⟨b, 2 + p * 4 + 1, none⟩ = some v1 := hv1
  have gv2 : w3.drew.cell? ⟨b, 2 + p * 4 + 2, none⟩ = some v2 := hv2
  have gv3 : w3.drew.cell? ⟨b, 2 + p * 4 + 3, none⟩ = some v3 := hv3
  have gf0 : w3.drew.frozen? ⟨b, 2 + p * 4, none⟩ = false := hf0
  have gf1 : w3.drew.frozen? ⟨b, 2 + p * 4 + 1, none⟩ = false := hf1
  have gf2 : w3.drew.frozen? ⟨b, 2 + p * 4 + 2, none⟩ = false := hf2
  have gf3 : w3.drew.frozen? ⟨b, 2 + p * 4 + 3, none⟩ = false := hf3
  go_wp2_with fail
  refine ha2.mono ?_
  rintro e w' ⟨rfl, rfl⟩
  go_wp2_with fail
  go_region_with (first | (go_at_call 99; refine (hpl _).mono ?_; rintro e w'' ⟨rfl, hw⟩; have hw := hw.symm; subst hw))
  go_wp2_with fail
  go_ret2
  exact ⟨rfl, hw3⟩
theorem DH.noted {w w1 w2 : World} {b : Nat} {U U' : List Nat} {L : List R4} {mA mb nn nn' k q : Nat} {D D' : DataW Unit} {mt : Int → Option Nat} {c : Int} (s n : Int) (h : DH w b U L mA mb nn D mt)
    (o1 : Off [mA] w w1) (m1 : Met w1 mA ((L.length + 1 : Nat) : Int) none 0 0 none) (o2 : Off [mb] w1 w2) (hU : ∀ x, x ∈ U → x ∈ U') (hU' : ∀ x, x ∈ U' → x ∈ U ∨ x = k) (kU : k ∈ U') (hk : Met w2 k (q : Nat) none 0 0 none) (hq : q = cnt L c)
    (map : w2.ownsMap Tryz.prog 29 rdP mb nn' D') (hn' : nn' ≤ L.length + 1)
    (hat : ∀ x, (Lit.int .i64 x).wf = true → D'.atKey (.int .i64 x) (dat none) = dat (if x = c then some k else mt x)) (hhas : ∀ x, has D' (.int .i64 x) = (decide (x = c) || has D (.int .i64 x)))
    (hnew : ∀ x, x ≠ c → mt x ≠ some k) (kb : k ≠ b) (ka : k ≠ mA) (km : k ≠ mb) :
    DH ((put4 (w2.setCell ⟨k, 0, none⟩ (.int .u64 ((q + 1 : Nat) : Int))) b (2 + L.length % 16 * 4) (((L.length + 1 : Nat) : Int), c, s, n)).drew) b U' (L ++ [(((L.length + 1 : Nat) : Int), c, s, n)]) mA mb nn' D' (fun x => if x = c then some k else mt x) := by
  have o3 : Off [k] w2 (w2.setCell ⟨k, 0, none⟩ (.int .u64 ((q + 1 : Nat) : Int))) := Off.setCell k 0 w2 _
  have m3 := hk.s0 ((q + 1 : Nat) : Int)
  generalize w2.setCell ⟨k, 0, none⟩ (.int .u64 ((q + 1 : Nat) : Int)) = w3 at *
  have o4 := put4_off w3 b (2 + L.length % 16 * 4) (((L.length + 1 : Nat) : Int), c, s, n)
  have B3 : DB w3 b mA mb L := ((h.blk.off o1 (by simp [h.ba])).off o2 (by simp [h.bm])).off o3 (by simp; exact kb.symm)
  have B4 : DB (put4 w3 b (2 + L.length % 16 * 4) (((L.length + 1 : Nat) : Int), c, s, n)) b mA mb (L ++ [(((L.length + 1 : Nat) : Int), c, s, n)]) := B3.put _
  generalize put4 w3 b (2 + L.length % 16 * 4) (((L.length + 1 : Nat) : Int), c, s, n) = w4 at *
  have o5 : Off [] w4 w4.drew := Off.drew [] w4
  generalize w4.drew = w5 at *
  have hkb : k ∉ [b] := by simp; exact kb
  refine ⟨B4.off o5 (by simp), ?_, ?_, ?_, hat, ?_, ?_, ?_, ?_, hU _ h.bU, hU _ h.aU, hU _ h.mU, h.ba, h.bm, h.am, ?_, h.nmb.snoc c s n⟩
  · have : (((L ++ [(((L.length + 1 : Nat) : Int), c, s, n)]).length : Nat) : Int) = ((L.length + 1 : Nat) : Int) := by simp
    rw [this]
    exact (((m1.off o2 (by simp [h.am])).off o3 (by simp; exact ka.symm)).off o4 (by simp; exact h.ba.symm)).off o5 (by simp)
  · exact ownsMap_off (ownsMap_off (ownsMap_off map o3 (by simp; exact km.symm)) o4 (by simp; exact h.bm.symm)) o5 (by simp)
  · simp; omega
  · intro x
    rw [hhas, h.has_, cnt_snoc]
    by_cases e : x = c
    · subst e; simp
    · have e' : ¬ c = x := fun h => e h.symm
      simp [e, e']
  · intro x hx
    by_cases e : x = c
    · simp [e] at hx
    · simp only [if_neg e] at hx
      have e' : ¬ c = x := fun h => e h.symm
      rw [cnt_snoc, h.no x hx]; simp [e']
  · intro x k' hx
    by_cases e : x = c
    · simp only [if_pos e] at hx
      obtain rfl : k = k' := by simpa using hx
      subst e
      have : cnt (L ++ [(((L.length + 1 : Nat) : Int), x, s, n)]) x = q + 1 := by rw [cnt_snoc, hq]; simp
      rw [this]
      exact ⟨(m3.off o4 hkb).off o5 (by simp), by omega, kU, kb, ka, km⟩
    · simp only [if_neg e] at hx
      obtain ⟨y1, y2, y3, y4, y5, y6⟩ := h.yes x k' hx
      have e' : ¬ c = x := fun h => e h.symm
      have : cnt (L ++ [(((L.length + 1 : Nat) : Int), c, s, n)]) x = cnt L x := by rw [cnt_snoc]; simp [e']
      rw [this]
      have hkk : k' ≠ k := fun he => hnew x e (he ▸ hx)
      exact ⟨((((y1.off o1 (by simp; exact y5)).off o2 (by simp; exact y6)).off o3 (by simp; exact hkk)).off o4 (by simp; exact y4)).off o5 (by simp), y2, hU _ y3, y4, y5, y6⟩
  · intro x x' k' hx hx'
    by_cases e : x = c
    · by_cases e' : x' = c
      · rw [e, e']
      · simp only [if_pos e] at hx
        simp only [if_neg e'] at hx'
        obtain rfl : k = k' := by simpa using hx
        exact absurd hx' (hnew x' e')
    · simp only [if_neg e] at hx
      by_cases e' : x' = c
      · simp only [if_pos e'] at hx'
        obtain rfl : k = k' := by simpa using hx'
        exact absurd hx (hnew x e)
      · simp only [if_neg e'] at hx'
        exact h.one x x' k' hx hx'
  · intro x hx
    have s5 := o5.size
    have s4 := o4.size
    have s3 := o3.size
    have s2 := o2.size
    have s1 := o1.size
    rcases hU' x hx with hx | rfl
    · have := h.ult x hx; omega
    · have := m3.lt; omega
theorem dnote_any (b : Nat) (U : List Nat) (L : List R4) (c s n : Int) (w : World) (h : DG w b U L) (hn : L.length < 999999) (hc : (Lit.int .i64 c).wf = true) (hne : c ≠ 0) :
    Calls Tryz.prog 104 #[.pointer (some ⟨b, 0, none⟩), .int .i64 c, .int .u32 s, .int .u32 n] w fun e w' => e = .returned (.tuple #[.int .i64 ((L.length + 1 : Nat) : Int), .int .i64 0]) ∧
      Hid (∃ U', Off U w w' ∧ DG w' b U' (L ++ [(((L.length + 1 : Nat) : Int), c, s, n)]) ∧ (∀ x, x ∈ U' → x ∈ U ∨ w.heap.size ≤ x)) := by
  obtain ⟨mA, mb, nn, D, mt, h⟩ := h
  have ha := add_any L.length 1 mA none none 0 0 w (by omega) (by omega) h.all
  have es : sat L.length 1 = L.length + 1 := by unfold sat; rw [if_neg (by omega)]
  rw [es] at ha
  have o1 : Off [mA] w (w.setCell ⟨mA, 0, none⟩ (.int .u64 ((L.length + 1 : Nat) : Int))) := Off.setCell mA 0 w _
  have m1 := h.all.s0 ((L.length + 1 : Nat) : Int)
  have sz1 : (w.setCell ⟨mA, 0, none⟩ (.int .u64 ((L.length + 1 : Nat) : Int))).heap.size = w.heap.size := by simp [World.setCell]
  generalize w.setCell ⟨mA, 0, none⟩ (.int .u64 ((L.length + 1 : Nat) : Int)) = w1 at *
  have blk1 : DB w1 b mA mb L := h.blk.off o1 (by simp [h.ba])
  have map1 := ownsMap_off h.map o1 (by simp; exact h.am.symm)
  have hle := cnt_le L c
  have fields : ∀ w2 k (v : Value), k ≠ b → DB w2 b mA mb L → ∀ j, j < 66 → ∃ u, (w2.setCell ⟨k, 0, none⟩ v).cell? ⟨b, j, none⟩ = some u ∧ (w2.setCell ⟨k, 0, none⟩ v).frozen? ⟨b, j, none⟩ = false := by
    intro w2 k v hk hb j hj
    have hb' := hb.off (Off.setCell k 0 w2 v) (by simp; exact hk.symm)
    obtain ⟨u, hu⟩ := hb'.some j hj
    exact ⟨u, hu, hb'.fz j⟩
  have look1 : (Instr.lookup 138 (.map (some mb)) (.int .i64 c) false).run Tryz.prog w1 = .ok (ptr (mt c)) w1 := by
    obtain ⟨v, ps, hrun, hv⟩ := map1.lookup key_i64 Tryz.underlying138 (zero_ptr w1) (zd := dat none) (zp := []) (rdP_ptr none) (keyOf_int_mk Tryz.underlying29 hc)
    rw [h.at_ c hc] at hv
    rw [hrun, rdP_inv hv]
  cases hm : mt c with
  | some k =>
    obtain ⟨y1, y2, y3, y4, y5, y6⟩ := h.yes c k hm
    have hmo : Calls Tryz.prog 140 #[.pointer (some ⟨b, 0, none⟩), .int .i64 c] w1 fun e w' => e = .returned (.pointer (some ⟨k, 0, none⟩)) ∧ w' = w1 := by
      rw [hm] at look1
      exact meterOf_old b mb c k w1 blk1.c1 look1
    refine (dnote_at b mA k (L.length % 16) L.length (cnt L c) c s n w w1 (fun w2 => w2 = w1) hne rfl (by omega) (by omega) h.blk.c0 ha hmo (fun w2 e => by subst e; exact ⟨y1.off o1 (by simp; exact y5), fields w2 k _ y4 blk1⟩)).mono ?_
    rintro e w' ⟨rfl, hw⟩
    refine ⟨rfl, ?_⟩
    obtain ⟨w2, rfl, rfl⟩ := hw.out
    refine ⟨U, ?_, ⟨mA, mb, nn, D, _, h.noted s n o1 m1 (Off.refl _ _) (fun x hx => hx) (fun x hx => .inl hx) y3 (y1.off o1 (by simp; exact y5)) rfl map1 (by have := h.nle; omega) ?_ ?_ ?_ y4 y5 y6⟩, fun x hx => .inl hx⟩
    · have o2 : Off U w w2 := o1.more (by simp; exact h.aU)
      have o3 : Off U w2 (w2.setCell ⟨k, 0, none⟩ (.int .u64 ((cnt L c + 1 : Nat) : Int))) := (Off.setCell k 0 w2 _).more (by simp; exact y3)
      exact ((o2.trans o3).trans ((put4_off _ b _ _).more (by simp; exact h.bU))).trans (Off.drew U _)
    · intro x hx
      rw [h.at_ x hx]
      by_cases e : x = c
      · rw [if_pos e, e, hm]
      · rw [if_neg e]
    · intro x
      by_cases e : x = c
      · subst e; rw [h.has_]; simp [y2]
      · simp [e]
    · intro x hx he
      exact hx (h.one x c k he hm)
  | none =>
    have hmo : Calls Tryz.prog 140 #[.pointer (some ⟨b, 0, none⟩), .int .i64 c] w1 fun e w' => e = .returned (.pointer (some ⟨w.heap.size, 0, none⟩)) ∧ Hid (Off [mb] w1 w' ∧ Met w' w.heap.size 0 none 0 0 none ∧ w'.ownsMap Tryz.prog 29 rdP mb (nn + 1) (D.put (.int .i64 c) (dat (some w.heap.size)))) := by
      rw [hm] at look1
      have := meterOf_new b mb nn D c w1 blk1.c1 blk1.lt look1 map1 hc (by have := h.nle; omega)
      rw [sz1] at this
      exact this
    have nb : w.heap.size ≠ b := by have := h.blk.lt; omega
    have na : w.heap.size ≠ mA := by have := h.all.lt; omega
    have nm : w.heap.size ≠ mb := by have := h.map.lt; omega
    refine (dnote_at b mA w.heap.size (L.length % 16) L.length 0 c s n w w1 _ hne rfl (by omega) (by omega) h.blk.c0 ha hmo (fun w2 e => ⟨e.out.2.1, fields w2 _ _ nb (blk1.off e.out.1 (by simp [h.bm]))⟩)).mono ?_
    rintro e w' ⟨rfl, hw⟩
    refine ⟨rfl, ?_⟩
    obtain ⟨w2, hr, rfl⟩ := hw.out
    obtain ⟨o2, mk, mp⟩ := hr.out
    have h0 := h.no c hm
    refine ⟨w.heap.size :: U, ?_, ⟨mA, mb, nn + 1, _, _, h.noted s n o1 m1 o2 (fun x hx => List.mem_cons_of_mem _ hx) (fun x hx => by rcases List.mem_cons.1 hx with rfl | hx; exact .inr rfl; exact .inl hx) (List.mem_cons_self ..) mk h0.symm mp (by have := h.nle; omega) ?_ ?_ ?_ nb na nm⟩, ?_⟩
    · have o2 : Off U w w2 := (o1.more (by simp; exact h.aU)).trans (o2.more (by simp; exact h.mU))
      have o3 : Off (w.heap.size :: U) w2 (w2.setCell ⟨w.heap.size, 0, none⟩ (.int .u64 ((0 + 1 : Nat) : Int))) := (Off.setCell w.heap.size 0 w2 _).more (by simp)
      have o4 := (((o2.more (fun x hx => List.mem_cons_of_mem _ hx)).trans o3).trans ((put4_off _ b (2 + L.length % 16 * 4) (((L.length + 1 : Nat) : Int), c, s, n)).more (by simp; exact .inr h.bU))).trans (Off.drew (w.heap.size :: U) _)
      exact o4.only (fun x hx hlt => by rcases List.mem_cons.1 hx with rfl | hx; exact absurd hlt (Nat.lt_irrefl _); exact hx)
    · intro x hx
      have im : IsMap D := by obtain ⟨es, clock, _, _, _, e⟩ := h.map; exact ⟨_, e⟩
      by_cases e : x = c
      · subst e; rw [if_pos rfl, atKey_put_same im (by trivial)]
      · rw [if_neg e, atKey_put_other (by simpa using e), h.at_ x hx]
    · intro x
      have im : IsMap D := by obtain ⟨es, clock, _, _, _, e⟩ := h.map; exact ⟨_, e⟩
      by_cases e : x = c
      · subst e; rw [has_put_same im (by trivial)]; simp
      · rw [has_put_other (by simpa using e)]; simp [e]
    · intro x hx he
      have := h.ult _ (h.yes x _ he).2.2.1
      omega
    · intro x hx
      rcases List.mem_cons.1 hx with rfl | hx
      · exact .inr (Nat.le_refl _)
      · exact .inl hx
end Go.Proofs.YtmleiemlfogffaaGreat
namespace Go.Proofs.YtmleiemlfogffaaGreat
set_option maxRecDepth 100000
open Go.RowKit
structure Gr (U : List Nat) (w : World) (U' : List Nat) (w' : World) : Prop where
  off : Off U w w'
  new : ∀ k, k ∈ U' → k ∈ U ∨ w.heap.size ≤ k
theorem Gr.refl (U : List Nat) (w : World) : Gr U w U w := ⟨Off.refl _ _, fun _ h => .inl h⟩
theorem Gr.out {U U' : List Nat} {w w' : World} (h : Gr U w U' w') {k : Nat} (hk : k < w.heap.size) (hn : k ∉ U) : k ∉ U' := fun hm => by
  rcases h.new k hm with h1 | h1
  · exact hn h1
  · omega
theorem Gr.trans {U U1 U2 : List Nat} {w w1 w2 : World} (h : Gr U w U1 w1) (k : Gr U1 w1 U2 w2) : Gr U w U2 w2 := by
  refine ⟨⟨k.off.os.trans h.off.os, k.off.tape.trans h.off.tape, k.off.output.trans h.off.output, Nat.le_trans h.off.size k.off.size, fun i hi hb => ?_⟩, fun i hi => ?_⟩
  · exact (k.off.block i (Nat.lt_of_lt_of_le hi h.off.size) (h.out hi hb)).trans (h.off.block i hi hb)
  · rcases k.new i hi with h1 | h1
    · exact h.new i h1
    · exact .inr (Nat.le_trans h.off.size h1)
theorem Gr.same {U : List Nat} {l : List Nat} {w w' : World} (h : Off l w w') (hl : ∀ k, k ∈ l → k ∈ U) : Gr U w U w' := ⟨h.more hl, fun _ h => .inl h⟩
theorem Gr.below {U : List Nat} {w w' : World} (h : Below w.heap.size w w') : Gr U w U w' := Gr.same (l := []) (Off.of_below h) (by simp)
def DVC (P : Pm) (m mx : Nat) (cp : Value) (lb db vb : Nat) (s : Sd) (av : Value) : Array Value :=
  #[.int .u32 (P.c : Nat), .int .i64 (P.o : Nat), .int .i64 (P.i : Nat), .int .i64 (P.t : Nat), .int .u32 (P.n : Nat), .pointer (some ⟨m, 0, none⟩), .int .u32 (mx : Nat), cp, .pointer (some ⟨lb, 0, none⟩),
    .pointer (some ⟨db, 0, none⟩), .pointer (some ⟨vb, 0, none⟩), .int .i64 (s.st : Nat), .int .u32 (s.ss : Nat), .int .u32 (s.nm : Nat), .int .u32 (s.sn : Nat), .int .i64 (s.od : Nat), av, .bool s.hd]
structure Bk where
  c : Nat
  lb : Nat
  db : Nat
  vb : Nat
  vg : Nat
  M : List Nat
  Ul : List Nat
  cp : Value
  av : Value
  col : Nat → Nat
structure DX (w : World) (d m g n mx : Nat) (P : Pm) (U : List Nat) (s : Sd) (B : Bk) (A : Prop) : Prop where
  dev : w.heap[d]? = some (.cells (DVC P m mx B.cp B.lb B.db B.vb s B.av) 101 (0, 0))
  mem : MR w m g n s.ms
  cel : A → B.cp = .pointer (some ⟨B.c, 0, none⟩) ∧ CS w B.c m mx s.ms.bs false ∧ s.ms.off = false
  dog : DR w B.db P.t s.dc
  val : VR w B.vb B.vg B.M P.o s.v
  log : DG w B.lb B.Ul s.L
  app : w.ownsRow 0 5 1 B.av P.i (CB s.ap P.i)
  apb : ∀ i, i < P.i → s.ap i < 256
  ltU : ∀ k, k ∈ U → k < w.heap.size
  kd : B.col d = 0 ∧ d ∈ U
  km : B.col m = 1 ∧ m ∈ U
  kg : B.col g = 1 ∧ g ∈ U
  kc : B.col B.c = 2 ∧ B.c ∈ U
  kb : B.col B.db = 3 ∧ B.db ∈ U
  kv : B.col B.vb = 4 ∧ B.vb ∈ U
  kw : B.col B.vg = 4 ∧ B.vg ∈ U
  kM : ∀ k, k ∈ B.M → B.col k = 4 ∧ k ∈ U
  kl : ∀ k, k ∈ B.Ul → B.col k = 5 ∧ k ∈ U
  ka : ∀ k, B.av.ownBlock = some k → B.col k = 6 ∧ k ∈ U
  pok : Pok P
  n10 : 10 ≤ n
  mx0 : mx ≠ 0
  mxl : mx < 4294967296
def DV (w : World) (d m g n mx : Nat) (P : Pm) (U : List Nat) (s : Sd) : Prop := ∃ B, DX w d m g n mx P U s B (s.st ≠ 6)
section
variable {w w' : World} {d m g n mx : Nat} {P : Pm} {U : List Nat} {s s' : Sd} {B : Bk} {A A' : Prop}
theorem DX.dlt (h : DX w d m g n mx P U s B A) : d < w.heap.size := h.ltU d h.kd.2
theorem DX.ne {a b : Nat} {B : Bk} (h : B.col a ≠ B.col b) : a ≠ b := fun e => h (by rw [e])
theorem DX.own (h : DX w d m g n mx P U s B A) (q : Off [d] w w') (e : w'.heap[d]? = some (.cells (DVC P m mx B.cp B.lb B.db B.vb s' B.av) 101 (0, 0)))
    (h1 : s'.ms = s.ms) (h2 : s'.dc = s.dc) (h3 : s'.v = s.v) (h4 : s'.L = s.L) (h5 : s'.ap = s.ap) (h6 : A' → A) : DX w' d m g n mx P U s' B A' := by
  have hn : ∀ k, B.col k ≠ 0 → k ∉ [d] := fun k hk hm => by simp at hm; rw [hm, h.kd.1] at hk; exact hk rfl
  refine ⟨e, ?_, ?_, ?_, ?_, ?_, ?_, h5 ▸ h.apb, fun k hk => Nat.lt_of_lt_of_le (h.ltU k hk) q.size, h.kd, h.km, h.kg, h.kc, h.kb, h.kv, h.kw, h.kM, h.kl, h.ka, h.pok, h.n10, h.mx0, h.mxl⟩
  · rw [h1]; exact h.mem.off q (hn _ (by rw [h.km.1]; omega)) (hn _ (by rw [h.kg.1]; omega))
  · intro hs
    obtain ⟨c1, c2, c3⟩ := h.cel (h6 hs)
    rw [h1]
    exact ⟨c1, c2.off q (hn _ (by rw [h.kc.1]; omega)), c3⟩
  · rw [h2]; exact h.dog.off q (hn _ (by rw [h.kb.1]; omega))
  · rw [h3]; exact h.val.off q (hn _ (by rw [h.kv.1]; omega)) (hn _ (by rw [h.kw.1]; omega)) (fun k hk hM => by simp at hk; subst hk; have := (h.kM _ hM).1; rw [h.kd.1] at this; omega)
  · rw [h4]; exact h.log.off q (fun k hk => hn _ (by rw [(h.kl k hk).1]; omega))
  · rw [h5]; exact own_offk h.app q (fun k hk => hn _ (by rw [(h.ka k hk).1]; omega))
theorem DX.dogd (h : DX w d m g n mx P U s B A) (q : Off [B.db] w w') {c : Nat} (e : DR w' B.db P.t c) : DX w' d m g n mx P U { s with dc := c } B A := by
  have hn : ∀ k, B.col k ≠ 3 → k ∉ [B.db] := fun k hk hm => by simp at hm; rw [hm, h.kb.1] at hk; exact hk rfl
  refine ⟨(q.block d h.dlt (hn _ (by rw [h.kd.1]; omega))).trans h.dev, ?_, ?_, e, ?_, ?_, ?_, h.apb, fun k hk => Nat.lt_of_lt_of_le (h.ltU k hk) q.size, h.kd, h.km, h.kg, h.kc, h.kb, h.kv, h.kw, h.kM, h.kl, h.ka, h.pok, h.n10, h.mx0, h.mxl⟩
  · exact h.mem.off q (hn _ (by rw [h.km.1]; omega)) (hn _ (by rw [h.kg.1]; omega))
  · intro hs
    obtain ⟨c1, c2, c3⟩ := h.cel hs
    exact ⟨c1, c2.off q (hn _ (by rw [h.kc.1]; omega)), c3⟩
  · exact h.val.off q (hn _ (by rw [h.kv.1]; omega)) (hn _ (by rw [h.kw.1]; omega)) (fun k hk hM => by simp at hk; subst hk; have := (h.kM _ hM).1; rw [h.kb.1] at this; omega)
  · exact h.log.off q (fun k hk => hn _ (by rw [(h.kl k hk).1]; omega))
  · exact own_offk h.app q (fun k hk => hn _ (by rw [(h.ka k hk).1]; omega))
theorem DX.vald (h : DX w d m g n mx P U s B A) (q : Off [B.vb, B.vg] w w') {M : List Nat} {v : Vs} (e : VR w' B.vb B.vg M P.o v) (hM : ∀ k, k ∈ M → k ∈ B.M ∨ w.heap.size ≤ k) (hl : ∀ k, k ∈ M → k < w'.heap.size) :
    ∃ U' B', Gr U w U' w' ∧ DX w' d m g n mx P U' { s with v := v } B' A := by
  have hn : ∀ k, B.col k ≠ 4 → k ∉ [B.vb, B.vg] := fun k hk hm => by simp at hm; rcases hm with hm | hm <;> rw [hm] at hk <;> first | exact hk h.kv.1 | exact hk h.kw.1
  let col' : Nat → Nat := fun k => if k < w.heap.size then B.col k else 4
  have hc : ∀ k x, B.col k = x ∧ k ∈ U → col' k = x ∧ k ∈ M ++ U := fun k x hk => ⟨by show (if k < w.heap.size then B.col k else 4) = x; rw [if_pos (h.ltU k hk.2)]; exact hk.1, by simp [hk.2]⟩
  refine ⟨M ++ U, { B with M := M, col := col' }, ⟨q.more (fun k hk => by simp at hk; rcases hk with rfl | rfl <;> first | exact h.kv.2 | exact h.kw.2), fun k hk => ?_⟩, ?_⟩
  · rcases List.mem_append.1 hk with hk | hk
    · rcases hM k hk with hk | hk
      · exact .inl (h.kM k hk).2
      · exact .inr hk
    · exact .inl hk
  refine ⟨(q.block d h.dlt (hn _ (by rw [h.kd.1]; omega))).trans h.dev, ?_, ?_, ?_, e, ?_, ?_, h.apb, ?_, hc _ _ h.kd, hc _ _ h.km, hc _ _ h.kg, hc _ _ h.kc, hc _ _ h.kb, hc _ _ h.kv, hc _ _ h.kw, ?_, fun k hk => hc _ _ (h.kl k hk), fun k hk => hc _ _ (h.ka k hk), h.pok, h.n10, h.mx0, h.mxl⟩
  · exact h.mem.off q (hn _ (by rw [h.km.1]; omega)) (hn _ (by rw [h.kg.1]; omega))
  · intro hs
    obtain ⟨c1, c2, c3⟩ := h.cel hs
    exact ⟨c1, c2.off q (hn _ (by rw [h.kc.1]; omega)), c3⟩
  · exact h.dog.off q (hn _ (by rw [h.kb.1]; omega))
  · exact h.log.off q (fun k hk => hn _ (by rw [(h.kl k hk).1]; omega))
  · exact own_offk h.app q (fun k hk => hn _ (by rw [(h.ka k hk).1]; omega))
  · intro k hk
    rcases List.mem_append.1 hk with hk | hk
    · exact hl k hk
    · exact Nat.lt_of_lt_of_le (h.ltU k hk) q.size
  · intro k hk
    rcases hM k hk with hk' | hk'
    · exact ⟨(hc k 4 (h.kM k hk')).1, List.mem_append.2 (.inl hk)⟩
    · exact ⟨by show (if k < w.heap.size then B.col k else 4) = 4; rw [if_neg (by omega)], List.mem_append.2 (.inl hk)⟩
theorem DX.vals (h : DX w d m g n mx P U s B A) (q : Off [B.vb, B.vg] w w') {v : Vs} (e : VR w' B.vb B.vg B.M P.o v) : ∃ U' B', Gr U w U' w' ∧ DX w' d m g n mx P U' { s with v := v } B' A :=
  h.vald q e (fun _ hk => .inl hk) (fun k hk => Nat.lt_of_lt_of_le (h.ltU k (h.kM k hk).2) q.size)
theorem DG.ult {w : World} {b : Nat} {U : List Nat} {L : List R4} (h : DG w b U L) (k : Nat) (hk : k ∈ U) : k < w.heap.size := by
  obtain ⟨mA, mb, nn, D, mt, h⟩ := h
  exact h.ult k hk
theorem DX.logd (h : DX w d m g n mx P U s B A) {V : List Nat} {L : List R4} (q : Off B.Ul w w') (e : DG w' B.lb V L) (hV : ∀ k, k ∈ V → k ∈ B.Ul ∨ w.heap.size ≤ k) :
    ∃ U' B', Gr U w U' w' ∧ DX w' d m g n mx P U' { s with L := L } B' A := by
  have hV : ∀ k, k ∈ V → (k ∈ B.Ul ∨ w.heap.size ≤ k) ∧ k < w'.heap.size := fun k hk => ⟨hV k hk, e.ult k hk⟩
  have hn : ∀ k, B.col k ≠ 5 → k ∉ B.Ul := fun k hk hm => hk (h.kl k hm).1
  let col' : Nat → Nat := fun k => if k < w.heap.size then B.col k else 5
  have hc : ∀ k x, B.col k = x ∧ k ∈ U → col' k = x ∧ k ∈ V ++ U := fun k x hk => ⟨by show (if k < w.heap.size then B.col k else 5) = x; rw [if_pos (h.ltU k hk.2)]; exact hk.1, by simp [hk.2]⟩
  refine ⟨V ++ U, { B with Ul := V, col := col' }, ⟨q.more (fun k hk => (h.kl k hk).2), fun k hk => ?_⟩, ?_⟩
  · rcases List.mem_append.1 hk with hk | hk
    · rcases (hV k hk).1 with hk | hk
      · exact .inl (h.kl k hk).2
      · exact .inr hk
    · exact .inl hk
  refine ⟨(q.block d h.dlt (hn _ (by rw [h.kd.1]; omega))).trans h.dev, ?_, ?_, ?_, ?_, e, ?_, h.apb, ?_, hc _ _ h.kd, hc _ _ h.km, hc _ _ h.kg, hc _ _ h.kc, hc _ _ h.kb, hc _ _ h.kv, hc _ _ h.kw, fun k hk => hc _ _ (h.kM k hk), ?_, fun k hk => hc _ _ (h.ka k hk), h.pok, h.n10, h.mx0, h.mxl⟩
  · exact h.mem.off q (hn _ (by rw [h.km.1]; omega)) (hn _ (by rw [h.kg.1]; omega))
  · intro hs
    obtain ⟨c1, c2, c3⟩ := h.cel hs
    exact ⟨c1, c2.off q (hn _ (by rw [h.kc.1]; omega)), c3⟩
  · exact h.dog.off q (hn _ (by rw [h.kb.1]; omega))
  · exact h.val.off q (hn _ (by rw [h.kv.1]; omega)) (hn _ (by rw [h.kw.1]; omega)) (fun k hk hM => by have := (h.kM _ hM).1; rw [(h.kl k hk).1] at this; omega)
  · exact own_offk h.app q (fun k hk => hn _ (by rw [(h.ka k hk).1]; omega))
  · intro k hk
    rcases List.mem_append.1 hk with hk | hk
    · exact (hV k hk).2
    · exact Nat.lt_of_lt_of_le (h.ltU k hk) q.size
  · intro k hk
    rcases (hV k hk).1 with hk' | hk'
    · exact ⟨(hc k 5 (h.kl k hk')).1, List.mem_append.2 (.inl hk)⟩
    · exact ⟨by show (if k < w.heap.size then B.col k else 5) = 5; rw [if_neg (by omega)], List.mem_append.2 (.inl hk)⟩
theorem DX.newd (h : DX w d m g n mx P U s B A) (q : Off [] w w') : DX w' d m g n mx P U s B A :=
  ⟨(q.block d h.dlt (by simp)).trans h.dev, h.mem.off q (by simp) (by simp), fun hs => ⟨(h.cel hs).1, (h.cel hs).2.1.off q (by simp), (h.cel hs).2.2⟩, h.dog.off q (by simp), h.val.off q (by simp) (by simp) (by simp), h.log.off q (by simp), own_offk h.app q (by simp), h.apb, fun k hk => Nat.lt_of_lt_of_le (h.ltU k hk) q.size, h.kd, h.km, h.kg, h.kc, h.kb, h.kv, h.kw, h.kM, h.kl, h.ka, h.pok, h.n10, h.mx0, h.mxl⟩
theorem DX.cells (h : DX w d m g n mx P U s B A) : w.cell? ⟨d, 0, none⟩ = some (.int .u32 (P.c : Nat)) ∧ w.cell? ⟨d, 1, none⟩ = some (.int .i64 (P.o : Nat)) ∧ w.cell? ⟨d, 2, none⟩ = some (.int .i64 (P.i : Nat)) ∧ w.cell? ⟨d, 3, none⟩ = some (.int .i64 (P.t : Nat)) ∧
    w.cell? ⟨d, 4, none⟩ = some (.int .u32 (P.n : Nat)) ∧ w.cell? ⟨d, 5, none⟩ = some (.pointer (some ⟨m, 0, none⟩)) ∧ w.cell? ⟨d, 6, none⟩ = some (.int .u32 (mx : Nat)) ∧ w.cell? ⟨d, 7, none⟩ = some B.cp ∧ w.cell? ⟨d, 8, none⟩ = some (.pointer (some ⟨B.lb, 0, none⟩)) ∧
    w.cell? ⟨d, 9, none⟩ = some (.pointer (some ⟨B.db, 0, none⟩)) ∧ w.cell? ⟨d, 10, none⟩ = some (.pointer (some ⟨B.vb, 0, none⟩)) ∧ w.cell? ⟨d, 11, none⟩ = some (.int .i64 (s.st : Nat)) ∧ w.cell? ⟨d, 12, none⟩ = some (.int .u32 (s.ss : Nat)) ∧
    w.cell? ⟨d, 13, none⟩ = some (.int .u32 (s.nm : Nat)) ∧ w.cell? ⟨d, 14, none⟩ = some (.int .u32 (s.sn : Nat)) ∧ w.cell? ⟨d, 15, none⟩ = some (.int .i64 (s.od : Nat)) ∧ w.cell? ⟨d, 16, none⟩ = some B.av ∧ w.cell? ⟨d, 17, none⟩ = some (.bool s.hd) :=
  ⟨cell_of_row w d 0 _ _ _ h.dev, cell_of_row w d 1 _ _ _ h.dev, cell_of_row w d 2 _ _ _ h.dev, cell_of_row w d 3 _ _ _ h.dev, cell_of_row w d 4 _ _ _ h.dev, cell_of_row w d 5 _ _ _ h.dev, cell_of_row w d 6 _ _ _ h.dev, cell_of_row w d 7 _ _ _ h.dev, cell_of_row w d 8 _ _ _ h.dev, cell_of_row w d 9 _ _ _ h.dev, cell_of_row w d 10 _ _ _ h.dev, cell_of_row w d 11 _ _ _ h.dev, cell_of_row w d 12 _ _ _ h.dev, cell_of_row w d 13 _ _ _ h.dev, cell_of_row w d 14 _ _ _ h.dev, cell_of_row w d 15 _ _ _ h.dev, cell_of_row w d 16 _ _ _ h.dev, cell_of_row w d 17 _ _ _ h.dev⟩
theorem DX.fz (h : DX w d m g n mx P U s B A) (j : Nat) : w.frozen? ⟨d, j, none⟩ = false := frozen_of_row w d j _ _ h.dev
end
end Go.Proofs.YtmleiemlfogffaaGreat
namespace Go.Proofs.YtmleiemlfogffaaGreat
set_option maxRecDepth 100000
open Go.RowKit
structure Vok (s : Vs) : Prop where
  fr : s.lat = 0 → s.fr = false
  sm : s.sm = true → s.lat = 0
theorem Vok.new : Vok vnew := ⟨fun _ => rfl, fun h => by cases h⟩
theorem Vok.trip {s : Vs} (h : Vok s) (x : Int) : Vok (vtrip s x) := by
  unfold vtrip
  split
  · exact h
  · exact ⟨fun _ => rfl, fun h => by cases h⟩
theorem Vok.run {s : Vs} (h : Vok s) (o : Bool) : Vok (vrun s o) := by
  unfold vrun
  split
  · exact h
  · exact ⟨h.fr, fun h => by cases h⟩
theorem Vok.hold {s : Vs} (h : Vok s) (o : Bool) : Vok (vhold s o) := ⟨h.fr, h.sm⟩
theorem Vok.fresh {s : Vs} (h : Vok s) : Vok (vfresh s) := ⟨fun e => by show (s.lat != 0) = false; rw [show s.lat = 0 from e]; rfl, h.sm⟩
theorem Vok.take {s : Vs} (h : Vok s) (bs : Nat → Nat) : Vok (vtake s bs) := by
  unfold vtake
  split
  · rename_i k
    exact ⟨h.fr, fun _ => k.2⟩
  · exact h
theorem Vok.ack {s : Vs} (h : Vok s) : Vok (vack s) := by
  unfold vack
  split
  · exact ⟨fun _ => rfl, fun _ => rfl⟩
  · exact h
def RDC (P : Pm) (m mx : Nat) (cp lv vv : Value) (s : Sd) (av : Value) : Array Value :=
  #[.int .u32 (P.c : Nat), .int .i64 (P.o : Nat), .int .i64 (P.i : Nat), .int .i64 (P.t : Nat), .int .u32 (P.n : Nat), .pointer (some ⟨m, 0, none⟩), .int .u32 (mx : Nat), cp, lv, .int .i64 (P.t : Nat), .int .i64 (s.dc : Nat),
    .int .i64 (P.o : Nat), .bool s.v.run, .bool s.v.held, .bool s.v.fr, .int .i64 s.v.lat, vv, .bool s.v.sm, .int .i64 (s.st : Nat), .int .u32 (s.ss : Nat), .int .u32 (s.nm : Nat), .int .u32 (s.sn : Nat), .int .i64 (s.od : Nat), av, .bool s.hd]
structure Bk2 where
  c : Nat
  M : List Nat
  cp : Value
  lv : Value
  vv : Value
  av : Value
  col : Nat → Nat
structure RB (w : World) (d m g n mx : Nat) (P : Pm) (U : List Nat) (s : Sd) (B : Bk2) (A : Prop) : Prop where
  dev : w.heap[d]? = some (.cells (RDC P m mx B.cp B.lv B.vv s B.av) 112 (0, 0))
  mem : RR w m g n s.ms
  cel : A → B.cp = .pointer (some ⟨B.c, 0, none⟩) ∧ RX w B.c m mx (vz s.ms.bs) false ∧ s.ms.off = false
  val : VV w B.M P.o s.v B.vv
  log : w.ownsRow 0 140 4 B.lv s.L.length (rvs s.L)
  app : w.ownsRow 0 5 1 B.av P.i (CB s.ap P.i)
  apb : ∀ i, i < P.i → s.ap i < 256
  vok : Vok s.v
  dcl : s.dc ≤ P.t
  ltU : ∀ k, k ∈ U → k < w.heap.size
  kd : B.col d = 0 ∧ d ∈ U
  km : B.col m = 1 ∧ m ∈ U
  kg : B.col g = 1 ∧ g ∈ U
  kc : B.col B.c = 2 ∧ B.c ∈ U
  kM : ∀ k, k ∈ B.M → B.col k = 4 ∧ k ∈ U
  kl : ∀ k, B.lv.ownBlock = some k → B.col k = 5 ∧ k ∈ U
  ka : ∀ k, B.av.ownBlock = some k → B.col k = 6 ∧ k ∈ U
  pok : Pok P
  n10 : 10 ≤ n
  mx0 : mx ≠ 0
  mxl : mx < 4294967296
  nl : s.L.length = 0 → B.lv = .slice none 0 0
def RW (w : World) (d m g n mx : Nat) (P : Pm) (U : List Nat) (s : Sd) : Prop := ∃ B, RB w d m g n mx P U s B (s.st ≠ 6)
section
variable {w w' : World} {d m g n mx : Nat} {P : Pm} {U : List Nat} {s s' : Sd} {B : Bk2} {A A' : Prop}
theorem RB.dlt (h : RB w d m g n mx P U s B A) : d < w.heap.size := h.ltU d h.kd.2
theorem RB.fz (h : RB w d m g n mx P U s B A) (j : Nat) : w.frozen? ⟨d, j, none⟩ = false := frozen_of_row w d j _ _ h.dev
theorem VV.same {M : List Nat} {k : Nat} {u u' : Vs} {v : Value} (h : VV w M k u v) (h1 : u'.sm = u.sm) (h2 : u'.bs = u.bs) : VV w M k u' v := by
  unfold VV at *
  rw [h1, h2]
  exact h
theorem RB.own (h : RB w d m g n mx P U s B A) (q : Off [d] w w') (e : w'.heap[d]? = some (.cells (RDC P m mx B.cp B.lv B.vv s' B.av) 112 (0, 0)))
    (h1 : s'.ms = s.ms) (h2 : s'.v.sm = s.v.sm ∧ s'.v.bs = s.v.bs) (h4 : s'.L = s.L) (h5 : s'.ap = s.ap) (hv : Vok s'.v) (hd : s'.dc ≤ P.t) (h6 : A' → A) : RB w' d m g n mx P U s' B A' := by
  have hn : ∀ k, B.col k ≠ 0 → k ∉ [d] := fun k hk hm => by simp at hm; rw [hm, h.kd.1] at hk; exact hk rfl
  refine ⟨e, ?_, ?_, ?_, ?_, ?_, h5 ▸ h.apb, hv, hd, fun k hk => Nat.lt_of_lt_of_le (h.ltU k hk) q.size, h.kd, h.km, h.kg, h.kc, h.kM, h.kl, h.ka, h.pok, h.n10, h.mx0, h.mxl, fun e => h.nl (by rw [← h4]; exact e)⟩
  · rw [h1]; exact h.mem.off q (hn _ (by rw [h.km.1]; omega)) (hn _ (by rw [h.kg.1]; omega))
  · intro hs
    obtain ⟨c1, c2, c3⟩ := h.cel (h6 hs)
    rw [h1]
    exact ⟨c1, c2.off q (hn _ (by rw [h.kc.1]; omega)), c3⟩
  · exact (h.val.off q (fun k hk hM => by simp at hk; subst hk; have := (h.kM _ hM).1; rw [h.kd.1] at this; omega)).same h2.1 h2.2
  · rw [h4]; exact own_offk h.log q (fun k hk => hn _ (by rw [(h.kl k hk).1]; omega))
  · rw [h5]; exact own_offk h.app q (fun k hk => hn _ (by rw [(h.ka k hk).1]; omega))
theorem RB.clr (h : RB w d m g n mx P U s B A) (q : Off [d] w w') (e : w'.heap[d]? = some (.cells (RDC P m mx B.cp B.lv (.slice none 0 0) s' B.av) 112 (0, 0)))
    (h1 : s'.ms = s.ms) (h2 : s'.v.sm = false) (h4 : s'.L = s.L) (h5 : s'.ap = s.ap) (hv : Vok s'.v) (hd : s'.dc ≤ P.t) (h6 : A' → A) : RB w' d m g n mx P U s' { B with vv := .slice none 0 0 } A' := by
  have hn : ∀ k, B.col k ≠ 0 → k ∉ [d] := fun k hk hm => by simp at hm; rw [hm, h.kd.1] at hk; exact hk rfl
  refine ⟨e, ?_, ?_, .inl ⟨h2, rfl⟩, ?_, ?_, h5 ▸ h.apb, hv, hd, fun k hk => Nat.lt_of_lt_of_le (h.ltU k hk) q.size, h.kd, h.km, h.kg, h.kc, h.kM, h.kl, h.ka, h.pok, h.n10, h.mx0, h.mxl, fun e => h.nl (by rw [← h4]; exact e)⟩
  · rw [h1]; exact h.mem.off q (hn _ (by rw [h.km.1]; omega)) (hn _ (by rw [h.kg.1]; omega))
  · intro hs
    obtain ⟨c1, c2, c3⟩ := h.cel (h6 hs)
    rw [h1]
    exact ⟨c1, c2.off q (hn _ (by rw [h.kc.1]; omega)), c3⟩
  · rw [h4]; exact own_offk h.log q (fun k hk => hn _ (by rw [(h.kl k hk).1]; omega))
  · rw [h5]; exact own_offk h.app q (fun k hk => hn _ (by rw [(h.ka k hk).1]; omega))
theorem RB.newd (h : RB w d m g n mx P U s B A) (q : Off [] w w') : RB w' d m g n mx P U s B A :=
  ⟨(q.block d h.dlt (by simp)).trans h.dev, h.mem.off q (by simp) (by simp), fun hs => ⟨(h.cel hs).1, (h.cel hs).2.1.off q (by simp), (h.cel hs).2.2⟩, h.val.off q (by simp), own_offk h.log q (by simp), own_offk h.app q (by simp), h.apb, h.vok, h.dcl, fun k hk => Nat.lt_of_lt_of_le (h.ltU k hk) q.size, h.kd, h.km, h.kg, h.kc, h.kM, h.kl, h.ka, h.pok, h.n10, h.mx0, h.mxl, h.nl⟩
end
end Go.Proofs.YtmleiemlfogffaaGreat
namespace Go.Proofs.YtmleiemlfogffaaGreat
set_option maxRecDepth 100000
open Go.RowKit
set_option maxHeartbeats 1600000 in
theorem rqv_any (d m g n mx : Nat) (P : Pm) (U : List Nat) (s : Sd) (B : Bk2) (A : Prop) (w : World) (h : RB w d m g n mx P U s B A) :
    Calls Tryz.prog 85 #[.pointer (some ⟨d, 11, none⟩)] w fun e w' => e = .returned (.bool (vreq s.v)) ∧ w' = w := by
  have c12 : w.cell? ⟨d, 12, none⟩ = some (.bool s.v.run) := cell_of_row w d 12 _ _ _ h.dev
  have c14 : w.cell? ⟨d, 14, none⟩ = some (.bool s.v.fr) := cell_of_row w d 14 _ _ _ h.dev
  have c15 : w.cell? ⟨d, 15, none⟩ = some (.int .i64 s.v.lat) := cell_of_row w d 15 _ _ _ h.dev
  clear h
  unfold vreq
  cases hr : s.v.run
  · rw [hr] at c12
    go_enter Tryz.func85, Tryz.ntmps85
    go_wp2_with fail
    go_ret
    exact ⟨rfl, rfl⟩
  · rw [hr] at c12
    by_cases hl : s.v.lat = 0
    · rw [hl] at c15 ⊢
      go_enter Tryz.func85, Tryz.ntmps85
      go_wp2_with fail
      go_ret
      exact ⟨rfl, rfl⟩
    · go_enter Tryz.func85, Tryz.ntmps85
      go_wp2_with fail
      go_ret
      exact ⟨rfl, rfl⟩
set_option maxHeartbeats 1600000 in
theorem rrunv_any (d m g n mx : Nat) (P : Pm) (U : List Nat) (s : Sd) (B : Bk2) (A : Prop) (o : Bool) (w : World) (h : RB w d m g n mx P U s B A) :
    Calls Tryz.prog 121 #[.pointer (some ⟨d, 11, none⟩), .bool o] w fun e w' => e = .returned (.tuple #[]) ∧ Hid (Gr U w U w' ∧ ∃ B', RB w' d m g n mx P U { s with v := vrun s.v o } B' A) := by
  have c12 : w.cell? ⟨d, 12, none⟩ = some (.bool s.v.run) := cell_of_row w d 12 _ _ _ h.dev
  have c13 : w.cell? ⟨d, 13, none⟩ = some (.bool s.v.held) := cell_of_row w d 13 _ _ _ h.dev
  have c16 : w.cell? ⟨d, 16, none⟩ = some B.vv := cell_of_row w d 16 _ _ _ h.dev
  have c17 : w.cell? ⟨d, 17, none⟩ = some (.bool s.v.sm) := cell_of_row w d 17 _ _ _ h.dev
  have z12 := h.fz 12
  have z13 := h.fz 13
  have z16 := h.fz 16
  have z17 := h.fz 17
  unfold vrun
  by_cases hr : s.v.run = o
  · rw [if_pos hr]
    have H : Hid (_) := h
    rw [hr] at c12
    clear h
    cases o
    all_goals
      go_enter Tryz.func121, Tryz.ntmps121
      go_wp2_with fail
      refine bodyPost_ret (results_none rfl _ _ _) rfl ?_
      exact ⟨rfl, Gr.refl _ _, B, H.out⟩
  · rw [if_neg hr]
    have e1 : (w.setCell ⟨d, 12, none⟩ (.bool o)).heap[d]? = some (.cells (RDC P m mx B.cp B.lv B.vv { s with v := { s.v with run := o } } B.av) 112 (0, 0)) := heap_setCell_same _ _ _ _ _ _ h.dev
    have e2 : ((w.setCell ⟨d, 12, none⟩ (.bool o)).setCell ⟨d, 13, none⟩ (.bool false)).heap[d]? = some (.cells (RDC P m mx B.cp B.lv B.vv { s with v := { s.v with run := o, held := false } } B.av) 112 (0, 0)) := heap_setCell_same _ _ _ _ _ _ e1
    have e3 : (((w.setCell ⟨d, 12, none⟩ (.bool o)).setCell ⟨d, 13, none⟩ (.bool false)).setCell ⟨d, 17, none⟩ (.bool false)).heap[d]? = some (.cells (RDC P m mx B.cp B.lv B.vv { s with v := { s.v with run := o, held := false, sm := false } } B.av) 112 (0, 0)) := heap_setCell_same _ _ _ _ _ _ e2
    have e4 : ((((w.setCell ⟨d, 12, none⟩ (.bool o)).setCell ⟨d, 13, none⟩ (.bool false)).setCell ⟨d, 17, none⟩ (.bool false)).setCell ⟨d, 16, none⟩ (.slice none 0 0)).heap[d]? = some (.cells (RDC P m mx B.cp B.lv (.slice none 0 0) { s with v := { s.v with run := o, held := false, sm := false } } B.av) 112 (0, 0)) := heap_setCell_same _ _ _ _ _ _ e3
    have o4 := (((Off.setCell d 12 w (.bool o)).trans (Off.setCell d 13 _ (.bool false))).trans (Off.setCell d 17 _ (.bool false))).trans (Off.setCell d 16 _ (.slice none 0 0))
    have F : Hid (_) := And.intro (Gr.same (U := U) o4 (by simp [h.kd.2])) (h.clr (A' := A) o4 e4 rfl rfl rfl rfl ⟨h.vok.fr, fun h => by cases h⟩ h.dcl id)
    clear h e1 e2 e3 e4 o4
    have hr' : s.v.run = !o := by cases o <;> cases hq : s.v.run <;> simp_all
    rw [hr'] at c12
    clear hr
    cases o
    all_goals
      go_enter Tryz.func121, Tryz.ntmps121
      go_wp2_with fail
      go_end0
      exact ⟨rfl, F.out.1, _, F.out.2⟩
set_option maxHeartbeats 1600000 in
theorem rcomev_any (d m g n mx : Nat) (P : Pm) (U : List Nat) (s : Sd) (B : Bk2) (A : Prop) (w : World) (h : RB w d m g n mx P U s B A) :
    Calls Tryz.prog 152 #[.pointer (some ⟨d, 11, none⟩)] w fun e w' => e = .returned (.tuple #[]) ∧ Hid (Gr U w U w' ∧ ∃ B', RB w' d m g n mx P U { s with v := vfresh s.v } B' A) := by
  have c14 : w.cell? ⟨d, 14, none⟩ = some (.bool s.v.fr) := cell_of_row w d 14 _ _ _ h.dev
  have c15 : w.cell? ⟨d, 15, none⟩ = some (.int .i64 s.v.lat) := cell_of_row w d 15 _ _ _ h.dev
  have z14 := h.fz 14
  by_cases hl : s.v.lat = 0
  · have hf : vfresh s.v = s.v := by
      have e : (s.v.lat != 0) = s.v.fr := by rw [h.vok.fr hl]; simpa using hl
      show ({ s.v with fr := (s.v.lat != 0) } : Vs) = s.v
      rw [e]
    rw [hf]
    have H : Hid (_) := h
    rw [hl] at c15
    clear h hf
    go_enter Tryz.func152, Tryz.ntmps152
    go_wp2_with fail
    go_end0
    exact ⟨rfl, Gr.refl _ _, B, H.out⟩
  · have e1 : (w.setCell ⟨d, 14, none⟩ (.bool true)).heap[d]? = some (.cells (RDC P m mx B.cp B.lv B.vv { s with v := vfresh s.v } B.av) 112 (0, 0)) := by
      have : (s.v.lat != 0) = true := by simpa using hl
      unfold vfresh
      rw [this]
      exact heap_setCell_same _ _ _ _ _ _ h.dev
    have o1 := Off.setCell d 14 w (.bool true)
    have F : Hid (_) := And.intro (Gr.same (U := U) o1 (by simp [h.kd.2])) (h.own (A' := A) (s' := { s with v := vfresh s.v }) o1 e1 rfl ⟨rfl, rfl⟩ rfl rfl h.vok.fresh h.dcl id)
    have hl' : (s.v.lat != 0) = true := by simpa using hl
    clear h e1 o1 hl
    go_enter Tryz.func152, Tryz.ntmps152
    go_wp2_with fail
    go_end0
    exact ⟨rfl, F.out.1, _, F.out.2⟩
set_option maxHeartbeats 1600000 in
theorem rtripv_any (d m g n mx : Nat) (P : Pm) (U : List Nat) (s : Sd) (B : Bk2) (A : Prop) (x : Int) (w : World) (h : RB w d m g n mx P U s B A) (hx : x ≠ 0) :
    Calls Tryz.prog 125 #[.pointer (some ⟨d, 11, none⟩), .int .i64 x] w fun e w' => e = .returned (.bool (vtripB s.v x)) ∧ Hid (Gr U w U w' ∧ ∃ B', RB w' d m g n mx P U { s with v := vtrip s.v x } B' A) := by
  have c14 : w.cell? ⟨d, 14, none⟩ = some (.bool s.v.fr) := cell_of_row w d 14 _ _ _ h.dev
  have c15 : w.cell? ⟨d, 15, none⟩ = some (.int .i64 s.v.lat) := cell_of_row w d 15 _ _ _ h.dev
  have c16 : w.cell? ⟨d, 16, none⟩ = some B.vv := cell_of_row w d 16 _ _ _ h.dev
  have c17 : w.cell? ⟨d, 17, none⟩ = some (.bool s.v.sm) := cell_of_row w d 17 _ _ _ h.dev
  have z14 := h.fz 14
  have z15 := h.fz 15
  have z16 := h.fz 16
  have z17 := h.fz 17
  have e1 : (w.setCell ⟨d, 17, none⟩ (.bool false)).heap[d]? = some (.cells (RDC P m mx B.cp B.lv B.vv { s with v := { s.v with sm := false } } B.av) 112 (0, 0)) := heap_setCell_same _ _ _ _ _ _ h.dev
  have e2 : ((w.setCell ⟨d, 17, none⟩ (.bool false)).setCell ⟨d, 16, none⟩ (.slice none 0 0)).heap[d]? = some (.cells (RDC P m mx B.cp B.lv (.slice none 0 0) { s with v := { s.v with sm := false } } B.av) 112 (0, 0)) := heap_setCell_same _ _ _ _ _ _ e1
  have e3 : (((w.setCell ⟨d, 17, none⟩ (.bool false)).setCell ⟨d, 16, none⟩ (.slice none 0 0)).setCell ⟨d, 14, none⟩ (.bool false)).heap[d]? = some (.cells (RDC P m mx B.cp B.lv (.slice none 0 0) { s with v := { s.v with sm := false, fr := false } } B.av) 112 (0, 0)) := heap_setCell_same _ _ _ _ _ _ e2
  have o3 := ((Off.setCell d 17 w (.bool false)).trans (Off.setCell d 16 _ (.slice none 0 0))).trans (Off.setCell d 14 _ (.bool false))
  have hx0 : (x == 0) = false := by simpa using hx
  have hx1 : (x = 0) = False := by simpa using hx
  unfold vtrip vtripB
  rw [if_neg hx]
  by_cases hl : s.v.lat = 0
  · rw [if_pos hl, decide_eq_true ⟨hx, hl⟩]
    have e4 : ((((w.setCell ⟨d, 17, none⟩ (.bool false)).setCell ⟨d, 16, none⟩ (.slice none 0 0)).setCell ⟨d, 14, none⟩ (.bool false)).setCell ⟨d, 15, none⟩ (.int .i64 x)).heap[d]? = some (.cells (RDC P m mx B.cp B.lv (.slice none 0 0) { s with v := { s.v with sm := false, fr := false, lat := x } } B.av) 112 (0, 0)) := heap_setCell_same _ _ _ _ _ _ e3
    have o4 := o3.trans (Off.setCell d 15 _ (.int .i64 x))
    have F : Hid (_) := And.intro (Gr.same (U := U) o4 (by simp [h.kd.2])) (h.clr (A' := A) (s' := { s with v := { s.v with fr := false, sm := false, lat := x } }) o4 e4 rfl rfl rfl rfl ⟨fun _ => rfl, fun h => by cases h⟩ h.dcl id)
    rw [hl] at c15
    clear h e1 e2 e3 e4 o3 o4 hl hx
    go_enter Tryz.func125, Tryz.ntmps125
    go_wp2_with fail
    go_ret
    exact ⟨rfl, F.out.1, _, F.out.2⟩
  · rw [if_neg hl, decide_eq_false (fun k => hl k.2)]
    have F : Hid (_) := And.intro (Gr.same (U := U) o3 (by simp [h.kd.2])) (h.clr (A' := A) (s' := { s with v := { s.v with fr := false, sm := false } }) o3 e3 rfl rfl rfl rfl ⟨fun _ => rfl, fun h => by cases h⟩ h.dcl id)
    have hl' : (s.v.lat != 0) = true := by simpa using hl
    clear h e1 e2 e3 o3 hl hx
    go_enter Tryz.func125, Tryz.ntmps125
    go_wp2_with fail
    go_ret
    exact ⟨rfl, F.out.1, _, F.out.2⟩
set_option maxHeartbeats 1600000 in
theorem rholdv_any (d m g n mx : Nat) (P : Pm) (U : List Nat) (s : Sd) (B : Bk2) (A : Prop) (o : Bool) (w : World) (h : RB w d m g n mx P U s B A) :
    Calls Tryz.prog 122 #[.pointer (some ⟨d, 11, none⟩), .bool o] w fun e w' => e = .returned (.tuple #[]) ∧ Hid (Gr U w U w' ∧ ∃ B', RB w' d m g n mx P U { s with v := vhold s.v o } B' A) := by
  have c12 : w.cell? ⟨d, 12, none⟩ = some (.bool s.v.run) := cell_of_row w d 12 _ _ _ h.dev
  have c13 : w.cell? ⟨d, 13, none⟩ = some (.bool s.v.held) := cell_of_row w d 13 _ _ _ h.dev
  have z13 := h.fz 13
  have e1 : (w.setCell ⟨d, 13, none⟩ (.bool (o && s.v.run))).heap[d]? = some (.cells (RDC P m mx B.cp B.lv B.vv { s with v := vhold s.v o } B.av) 112 (0, 0)) := heap_setCell_same _ _ _ _ _ _ h.dev
  have o1 := Off.setCell d 13 w (.bool (o && s.v.run))
  have F : Hid (_) := And.intro (Gr.same (U := U) o1 (by simp [h.kd.2])) (h.own (A' := A) (s' := { s with v := vhold s.v o }) o1 e1 rfl ⟨rfl, rfl⟩ rfl rfl (h.vok.hold o) h.dcl id)
  clear h e1 o1
  cases o
  all_goals
    go_enter Tryz.func122, Tryz.ntmps122
    go_wp2_with fail
    go_end0
    exact ⟨rfl, F.out.1, _, F.out.2⟩
set_option maxHeartbeats 1600000 in
theorem rackv_any (d m g n mx : Nat) (P : Pm) (U : List Nat) (s : Sd) (B : Bk2) (A : Prop) (w : World) (h : RB w d m g n mx P U s B A) :
    Calls Tryz.prog 91 #[.pointer (some ⟨d, 11, none⟩)] w fun e w' => e = .returned (.bool (vreq s.v)) ∧ Hid (Gr U w U w' ∧ ∃ B', RB w' d m g n mx P U { s with v := vack s.v } B' A) := by
  have hq := rqv_any d m g n mx P U s B A w h
  have c14 : w.cell? ⟨d, 14, none⟩ = some (.bool s.v.fr) := cell_of_row w d 14 _ _ _ h.dev
  have c15 : w.cell? ⟨d, 15, none⟩ = some (.int .i64 s.v.lat) := cell_of_row w d 15 _ _ _ h.dev
  have z14 := h.fz 14
  have z15 := h.fz 15
  unfold vack
  by_cases hr : vreq s.v = true
  · rw [if_pos hr, hr]
    rw [hr] at hq
    have e1 : (w.setCell ⟨d, 15, none⟩ (.int .i64 0)).heap[d]? = some (.cells (RDC P m mx B.cp B.lv B.vv { s with v := { s.v with lat := 0 } } B.av) 112 (0, 0)) := heap_setCell_same _ _ _ _ _ _ h.dev
    have e2 : ((w.setCell ⟨d, 15, none⟩ (.int .i64 0)).setCell ⟨d, 14, none⟩ (.bool false)).heap[d]? = some (.cells (RDC P m mx B.cp B.lv B.vv { s with v := { s.v with lat := 0, fr := false } } B.av) 112 (0, 0)) := heap_setCell_same _ _ _ _ _ _ e1
    have o2 := (Off.setCell d 15 w (.int .i64 0)).trans (Off.setCell d 14 _ (.bool false))
    have F : Hid (_) := And.intro (Gr.same (U := U) o2 (by simp [h.kd.2])) (h.own (A' := A) (s' := { s with v := { s.v with lat := 0, fr := false } }) o2 e2 rfl ⟨rfl, rfl⟩ rfl rfl ⟨fun _ => rfl, fun _ => rfl⟩ h.dcl id)
    clear h e1 e2 o2 hr
    go_enter Tryz.func91, Tryz.ntmps91
    go_wp2_with (go_at_call 85; refine hq.mono ?_; rintro e w' ⟨rfl, hw⟩; have hw := hw.symm; subst hw)
    go_ret
    exact ⟨rfl, F.out.1, _, F.out.2⟩
  · have hr' : vreq s.v = false := by simpa using hr
    rw [if_neg hr, hr']
    rw [hr'] at hq
    have H : Hid (_) := h
    clear h hr
    go_enter Tryz.func91, Tryz.ntmps91
    go_wp2_with (go_at_call 85; refine hq.mono ?_; rintro e w' ⟨rfl, hw⟩; have hw := hw.symm; subst hw)
    go_ret
    exact ⟨rfl, Gr.refl _ _, B, H.out⟩
set_option maxHeartbeats 1600000 in
theorem rticksv_any (d m g n mx : Nat) (P : Pm) (U : List Nat) (s : Sd) (B : Bk2) (A : Prop) (k : Nat) (w : World) (h : RB w d m g n mx P U s B A) (hk : k ≤ 9223372036854775807) :
    Calls Tryz.prog 89 #[.pointer (some ⟨d, 9, none⟩), .int .i64 (k : Nat)] w fun e w' => e = .returned (.bool (told P.t s.dc k)) ∧ Hid (Gr U w U w' ∧ ∃ B', RB w' d m g n mx P U { s with dc := tk P.t s.dc k } B' A) := by
  have c9 : w.cell? ⟨d, 9, none⟩ = some (.int .i64 (P.t : Nat)) := cell_of_row w d 9 _ _ _ h.dev
  have c10 : w.cell? ⟨d, 10, none⟩ = some (.int .i64 (s.dc : Nat)) := cell_of_row w d 10 _ _ _ h.dev
  have hle := h.dcl
  have ht := h.pok.t2
  have F : Hid (∀ (w2 : World) (x : Nat), RB w2 d m g n mx P U s B A → x ≤ P.t → Gr U w2 U (w2.setCell ⟨d, 10, none⟩ (.int .i64 (x : Nat))) ∧ RB (w2.setCell ⟨d, 10, none⟩ (.int .i64 (x : Nat))) d m g n mx P U { s with dc := x } B A) := fun w2 x h hx => ⟨Gr.same (Off.setCell d 10 w2 _) (by simp [h.kd.2]), h.own (Off.setCell d 10 w2 _) (heap_setCell_same _ _ _ _ _ _ h.dev) rfl ⟨rfl, rfl⟩ rfl rfl h.vok hx id⟩
  have H : Hid (_) := h
  clear h
  by_cases g1 : P.t ≤ s.dc
  · have ht : told P.t s.dc k = false := by unfold told; simp; omega
    have hk : tk P.t s.dc k = s.dc := by unfold tk; omega
    rw [ht, hk]
    clear ht hk F
    go_enter Tryz.func89, Tryz.ntmps89
    go_wp2_with fail
    go_quiet (fail)
    go_wp2_with fail
    go_ret
    exact ⟨rfl, Gr.same (l := []) (Off.drewN _ _ _) (by simp), B, H.out.newd (Off.drewN [] _ _)⟩
  · have e1 : IntKind.i64.wrap ((P.t : Int) - (s.dc : Int)) = ((P.t - s.dc : Nat) : Int) := by rw [IntKind.wrap_i64]; omega
    obtain ⟨L, hL⟩ : ∃ L, L = P.t - s.dc := ⟨_, rfl⟩
    rw [← hL] at e1
    by_cases g2 : L ≤ k
    · have ht : told P.t s.dc k = true := by unfold told; simp; omega
      have hk : tk P.t s.dc k = P.t := by unfold tk; omega
      rw [ht, hk]
      clear ht hk
      go_enter Tryz.func89, Tryz.ntmps89
      go_wp2_with fail
      go_quiet (fail)
      go_wp2_with fail
      have H2 := H.out.newd (Off.drewN [] w nq)
      have O2 : Gr U w U (w.drewN nq) := Gr.same (l := []) (Off.drewN _ _ _) (by simp)
      clear H c9 c10
      generalize w.drewN nq = w2 at *
      have c9 : w2.cell? ⟨d, 9, none⟩ = some (.int .i64 (P.t : Nat)) := cell_of_row w2 d 9 _ _ _ H2.dev
      have c10 : w2.cell? ⟨d, 10, none⟩ = some (.int .i64 (s.dc : Nat)) := cell_of_row w2 d 10 _ _ _ H2.dev
      have z10 := H2.fz 10
      have HH : Hid (_) := And.intro H2 O2
      clear H2 O2
      go_quiet (fail)
      go_wp2_with fail
      go_ret
      have X := HH.out.1.newd (Off.drewN [] w2 nq)
      have Y := F.out _ P.t X (Nat.le_refl _)
      exact ⟨rfl, (HH.out.2.trans (Gr.same (l := []) (Off.drewN _ _ _) (by simp))).trans Y.1, B, Y.2⟩
    · have ht : told P.t s.dc k = false := by unfold told; simp; omega
      have hk' : tk P.t s.dc k = s.dc + k := by unfold tk; omega
      obtain ⟨x, hx⟩ : ∃ x, s.dc + k = x := ⟨_, rfl⟩
      rw [ht, hk', hx]
      have hxl : x ≤ P.t := by omega
      have i3 : (s.dc : Int) + (k : Int) = (x : Int) := by omega
      have HX : Hid (_) := hxl
      clear ht hk' hx hxl
      go_enter Tryz.func89, Tryz.ntmps89
      go_wp2_with fail
      go_quiet (fail)
      go_wp2_with fail
      have H2 := H.out.newd (Off.drewN [] w nq)
      have O2 : Gr U w U (w.drewN nq) := Gr.same (l := []) (Off.drewN _ _ _) (by simp)
      clear H c9 c10
      generalize w.drewN nq = w2 at *
      have c9 : w2.cell? ⟨d, 9, none⟩ = some (.int .i64 (P.t : Nat)) := cell_of_row w2 d 9 _ _ _ H2.dev
      have c10 : w2.cell? ⟨d, 10, none⟩ = some (.int .i64 (s.dc : Nat)) := cell_of_row w2 d 10 _ _ _ H2.dev
      have z10 := H2.fz 10
      have HH : Hid (_) := And.intro H2 O2
      clear H2 O2
      go_quiet (fail)
      go_wp2_with fail
      go_ret
      have X := HH.out.1.newd (Off.drewN [] w2 nq)
      have Y := F.out _ x X HX.out
      exact ⟨rfl, (HH.out.2.trans (Gr.same (l := []) (Off.drewN _ _ _) (by simp))).trans Y.1, B, Y.2⟩
end Go.Proofs.YtmleiemlfogffaaGreat
namespace Go.Proofs.YtmleiemlfogffaaGreat
set_option maxRecDepth 100000
open Go.RowKit Go.Maps
theorem cells4 {w : World} {c : Nat} {a b d e : Value} {t : TypeId} (h : w.heap[c]? = some (.cells #[a, b, d, e] t (0, 0))) :
    w.cell? ⟨c, 0, none⟩ = some a ∧ w.cell? ⟨c, 1, none⟩ = some b ∧ w.cell? ⟨c, 2, none⟩ = some d ∧ w.cell? ⟨c, 3, none⟩ = some e ∧ ∀ n, w.frozen? ⟨c, n, none⟩ = false :=
  ⟨cell_of_row w c 0 _ _ _ h, cell_of_row w c 1 _ _ _ h, cell_of_row w c 2 _ _ _ h, cell_of_row w c 3 _ _ _ h, fun n => frozen_of_row w c n _ _ h⟩
end Go.Proofs.YtmleiemlfogffaaGreat
namespace Go.Proofs.YtmleiemlfogffaaGreat
set_option maxRecDepth 100000
open Go.RowKit Go.Maps
theorem info_rec : (Tryz.prog.info? 140).map (fun i => (i.zero, i.size, i.bytes)) = some (some (.agg #[.int .i64 0, .int .i64 0, .int .u32 0, .int .u32 0]), 4, 24) := by kernel_rfl
theorem rv_one (x : R4) : ∀ u ∈ rv x, u.oneCell' = true := by intro u hu; simp [rv] at hu; rcases hu with rfl | rfl | rfl | rfl <;> rfl
theorem rvs_one' (L : List R4) : ∀ u ∈ rvs L, u.oneCell' = true := by
  intro u hu
  obtain ⟨x, _, hx⟩ := List.mem_flatMap.1 hu
  exact rv_one x u hx
theorem app_rec (B n g : Nat) (L : List R4) (x : R4) (v : Value) (w w0 : World) (hown : w.ownsRow B 140 4 v n (rvs L)) (hg : w.heap[g]? = some (.cells #[.int .i64 x.1, .int .i64 x.2.1, .int .u32 x.2.2.1, .int .u32 x.2.2.2] 140 (0, 0))) (hn : n < 1000000) (hB0 : B ≤ w0.heap.size) (hb : Below B w0 w) :
    ∃ v' w', (Builtin.append_ #[63, 63] 63 #[v, .slice (some ⟨g, 0, none⟩) 1 1]).run Tryz.prog w = .ok v' w' ∧ Hid (w'.ownsRow B 140 4 v' (n + 1) (rvs (L ++ [x])) ∧ Below B w0 w' ∧ w.grownBy w' v.ownBlock) := by
  obtain ⟨i, hi, h0, h1, h2⟩ := info_parts info_rec
  have hBw : B ≤ w.heap.size := Nat.le_trans hB0 hb.size
  obtain ⟨c0, c1, c2, c3, _⟩ := cells4 hg
  obtain ⟨v', w', hrun, h3, h4, _⟩ := run_append_own w B 63 63 140 i _ 4 24 Tryz.underlying63 hi h0 h1 h2 rfl (by decide) v n (rvs L) hown ⟨g, 0, none⟩ 1 1 (rv x) rfl (by
    intro j u hu
    have hj : j < 4 := by
      by_cases hj : j < 4
      · exact hj
      · rw [List.getElem?_eq_none (by rw [rv_len]; omega)] at hu; cases hu
    have c : j = 0 ∨ j = 1 ∨ j = 2 ∨ j = 3 := by omega
    rcases c with rfl | rfl | rfl | rfl
    · simp [rv] at hu; subst hu; simpa [Addr.add] using c0
    · simp [rv] at hu; subst hu; simpa [Addr.add] using c1
    · simp [rv] at hu; subst hu; simpa [Addr.add] using c2
    · simp [rv] at hu; subst hu; simpa [Addr.add] using c3) (rv_one x) (by unfold maxLen; omega) (by omega) hBw
  rw [rvs_append, rvs_one]
  exact ⟨v', w', hrun, h3, hb.grown h4 hBw (fun j hj => (hown.lt j hj).1), h4⟩
theorem belowAR {B : Nat} {w0 w : World} (h : Below B w0 w) (hs : B ≤ w0.heap.size) (o : Obj) : Below B w0 (w.alloc o) := h.alloc (Nat.le_trans hs h.size) o
theorem below_drewNR {B : Nat} {w0 w : World} (h : Below B w0 w) (n : Nat) : Below B w0 (w.drewN n) := ⟨h.os, h.tape, h.output, h.size, h.block⟩
theorem step_callR {P : Program} {ops : Array Oper} {o : Oper} {a : Act} {w : World} {K : Act → World → Prop} {Q : Exit → Act → World → Prop} {E : Prop} {R : World → Prop}
    (hg : o.guard = none) (f : FuncId) (ts : Array Operand) (ty : Array TypeId) (_ : o.op = .call { callee := .value (.func f), args := ts, argTypes := ty }) (args : Array Value) (v : Value) (hrun : (execOp a.eval o).run P w = .ok (.enter f args) w) (hc : Calls P f args w fun e w' => e = .returned v ∧ R w') (hK : ∀ w', R w' → K (a.put o.dst v) w') :
    if Region.wanted o (yielded ops a.tmps) = true then Oper.wp P o a w K Q else E := by
  have hw : Region.wanted o (yielded ops a.tmps) = true := by simp [Region.wanted, hg]
  rw [if_pos hw]
  unfold Oper.wp
  rw [hrun]
  refine hc.mono ?_
  rintro e w'' ⟨rfl, hr⟩
  exact hK _ hr
theorem step_appR {ops : Array Oper} {o : Oper} {a : Act} {w : World} {K : Act → World → Prop} {Q : Exit → Act → World → Prop} {E : Prop}
    (hg : o.guard = none) (s x : Operand) (hop : o.op = Op.call { callee := Callee.builtin Builtin.append, args := #[s, x], argTypes := #[63, 63] }) (hty : o.type = 63)
    (B n g : Nat) (L : List R4) (xr : R4) (v : Value) (hs : a.eval s = v) (hown : w.ownsRow B 140 4 v n (rvs L)) (hx : a.eval x = .slice (some ⟨g, 0, none⟩) 1 1)
    (hgc : w.heap[g]? = some (.cells #[.int .i64 xr.1, .int .i64 xr.2.1, .int .u32 xr.2.2.1, .int .u32 xr.2.2.2] 140 (0, 0))) (hn : n < 1000000) (w0 : World) (hB0 : B ≤ w0.heap.size) (hb : Below B w0 w)
    (hK : ∀ v' w', Hid (w'.ownsRow B 140 4 v' (n + 1) (rvs (L ++ [xr])) ∧ w.grownBy w' v.ownBlock) → Below B w0 w' → K (a.put o.dst v') w') :
    if Region.wanted o (yielded ops a.tmps) = true then Oper.wp Tryz.prog o a w K Q else E := by
  have hw : Region.wanted o (yielded ops a.tmps) = true := by simp [Region.wanted, hg]
  rw [if_pos hw]
  obtain ⟨v', w', hrun, hO⟩ := app_rec B n g L xr v w w0 hown hgc hn hB0 hb
  unfold Oper.wp execOp
  simp only [hop, hty, resolve, invoke, builtin, Sem.run_bind, Sem.run_pure, Result.andThen_ok, List.map_toArray, List.map_cons, List.map_nil, hs, hx, hrun]
  exact hK v' w' ⟨hO.out.1, hO.out.2.2⟩ hO.out.2.1
set_option maxHeartbeats 4000000 in
set_option maxRecDepth 100000 in
theorem records_any (b : Nat) (U : List Nat) (L : List R4) (w : World) (h : DG w b U L) (hn : L.length < 1000000) :
    Calls Tryz.prog 59 #[.pointer (some ⟨b, 0, none⟩)] w fun e w' => ∃ v, e = .returned v ∧ Hid (w'.ownsRow w.heap.size 140 4 v (lst L).length (rvs (lst L)) ∧ Below w.heap.size w w') := by
  have ht := dtotal_any b U L w h hn
  have HL : Hid (DG w b U L) := h
  have hN : Hid (∃ n s, n = L.length ∧ s = n - 16) := ⟨_, _, rfl, rfl⟩
  obtain ⟨n, s, hl, hs⟩ := hN.out
  rw [← hl] at ht hn
  have hE : Hid (n = L.length ∧ s = n - 16) := ⟨hl, hs⟩
  have hmx : max (1 : Int) ((n : Int) - 16 + 1) = ((s + 1 : Nat) : Int) := by omega
  clear h hl hs hN
  have w1 : IntKind.i64.wrap ((n : Int) - 16) = (n : Int) - 16 := by rw [IntKind.wrap_i64]; omega
  have w2 : IntKind.i64.wrap ((n : Int) - 16 + 1) = (n : Int) - 16 + 1 := by rw [IntKind.wrap_i64]; omega
  go_enter Tryz.func59, Tryz.ntmps59
  go_wp2_with fail
  refine ht.mono ?_
  rintro e w' ⟨rfl, hw⟩
  have hw := hw.symm
  subst hw
  go_wp2_with fail
  clear ht w1 w2
  go_loopw [4, 5] (fun v c wr => ∃ a, s ≤ a ∧ a ≤ n ∧ c = .int .i64 ((a + 1 : Nat) : Int) ∧ wr.ownsRow w.heap.size 140 4 v (a - s) (rvs ((L.drop s).take (a - s))) ∧ Below w.heap.size w wr) (fun _ c _ => n + 1 - (intOf c).toNat)
  case atStart => exact ⟨s, by omega, by have := hE.out; omega, by first | rfl | (rw [hmx]), by rw [Nat.sub_self]; exact World.ownsRow_nil _ _ _ _, Below.refl _ _⟩
  case round =>
    clear hmx
    obtain ⟨a, hsa, han, rfl, hown, hbel⟩ := hrel
    by_cases hlt : a < n
    · have hD : DG wr b U L := HL.out.below hbel
      have haL : a < L.length := by rw [← hE.out.1]; exact hlt
      obtain ⟨mA, mb, nn, D, mt, h2⟩ := hD
      obtain ⟨r0, r1, r2, r3⟩ := h2.blk.rec a haL (by have := hE.out; omega)
      clear h2
      have hpl := fun w => placeOf_any a (a % 16) w rfl (by omega)
      have p16 : ((a % 16 : Nat) : Int) < 16 := by omega
      generalize a % 16 = p at *
      have HT : Hid ((L.drop s).take (a + 1 - s) = (L.drop s).take (a - s) ++ [L[a]]) := by
        show _ = _
        rw [show a + 1 - s = a - s + 1 from by omega, List.take_succ_eq_append_getElem (by simp; omega)]
        simp [show s + (a - s) = a from by omega]
      generalize L[a] = x at *
      obtain ⟨x0, x1, x2, x3⟩ := x
      simp only at r0 r1 r2 r3
      have hb0 : ∀ wx, Below w.heap.size w wx → wx.cell? ⟨b, 2 + p * 4, none⟩ = some (.int .i64 x0) ∧ wx.cell? ⟨b, 2 + p * 4 + 1, none⟩ = some (.int .i64 x1) ∧ wx.cell? ⟨b, 2 + p * 4 + 2, none⟩ = some (.int .u32 x2) ∧ wx.cell? ⟨b, 2 + p * 4 + 3, none⟩ = some (.int .u32 x3) := by
        intro wx hx
        have hbw : b < w.heap.size := by obtain ⟨_, _, _, _, _, h2⟩ := HL.out; exact h2.blk.lt
        have e : wx.heap[b]? = wr.heap[b]? := (hx.block b hbw).trans (hbel.block b hbw).symm
        exact ⟨(World.cell?_of_block e).trans r0, (World.cell?_of_block e).trans r1, (World.cell?_of_block e).trans r2, (World.cell?_of_block e).trans r3⟩
      have ho : Hid (∀ wx, Below wr.heap.size wr wx → wx.ownsRow w.heap.size 140 4 _ (a - s) (rvs ((L.drop s).take (a - s)))) := fun wx hx => own_below hown hx
      clear hown
      go_wp2_with fail
      go_region_held3 (fun w' => w'.cell? ⟨b, 2 + p * 4, none⟩ = some (.int .i64 x0) ∧ w'.cell? ⟨b, 2 + p * 4 + 1, none⟩ = some (.int .i64 x1) ∧ w'.cell? ⟨b, 2 + p * 4 + 2, none⟩ = some (.int .u32 x2) ∧ w'.cell? ⟨b, 2 + p * 4 + 3, none⟩ = some (.int .u32 x3)) (first | assumption | exact hb0 _ (by repeat (first | with_reducible assumption | with_reducible refine below_drewNR ?_ _ | with_reducible refine Below.drew ?_ | with_reducible refine belowAR ?_ (Nat.le_refl _) _ | with_reducible exact Below.refl _ _))) (first
        | (refine step_callR rfl 99 #[.tmp 19] #[3] rfl #[.int .i64 ((a + 1 : Nat) : Int)] _ (by kernel_rfl) (hpl _) ?_; rintro w3 rfl)
        | (refine step_appR rfl (.tmp 17) (.tmp 25) rfl rfl w.heap.size (a - s) wr.heap.size _ (x0, x1, x2, x3) _ rfl (ho.out _ (by repeat (first | with_reducible assumption | with_reducible refine below_drewNR ?_ _ | with_reducible refine Below.drew ?_ | with_reducible refine belowAR ?_ (Nat.le_refl _) _ | with_reducible exact Below.refl _ _))) rfl (heap_alloc_new wr _) (by omega) w (Nat.le_refl _) (by repeat (first | with_reducible assumption | with_reducible refine below_drewNR ?_ _ | with_reducible refine Below.drew ?_ | with_reducible refine belowAR ?_ (Nat.le_refl _) _ | with_reducible exact Below.refl _ _)) ?_; intro v3 w3 H3 hB3))
      clear ho hb0 r0 r1 r2 r3 hbel
      go_wp2_with fail
      go_roundw
      case rel =>
        refine ⟨a + 1, by omega, by omega, by go_num, ?_, hB3⟩
        rw [HT.out, show a + 1 - s = a - s + 1 from by omega]
        exact H3.out.1
      case measure => simp [intOf] <;> omega
    · obtain rfl : a = n := by omega
      have HO : Hid (_) := And.intro hown hbel
      clear hown hbel
      go_wp2_with fail
      go_ret
      refine ⟨_, rfl, ?_⟩
      have e : (L.drop s).take (a - s) = lst L := by
        rw [List.take_of_length_le (by have := hE.out; simp; omega), lst, ← hE.out.1, ← hE.out.2]
      have e2 : a - s = (lst L).length := by rw [← e]; simp; have := hE.out; omega
      have HO2 := HO.out
      rw [e, e2] at HO2
      exact HO2
end Go.Proofs.YtmleiemlfogffaaGreat
namespace Go.Proofs.YtmleiemlfogffaaGreat
set_option maxRecDepth 100000
open Go.RowKit Go.Maps
theorem own_some {w : World} {B e size n : Nat} {v : Value} {xs : List Value} (h : w.ownsRow B e size v (n + 1) xs) : ∃ g cap, v = .slice (some ⟨g, 0, none⟩) (n + 1) cap ∧ B ≤ g ∧ g < w.heap.size := by
  rcases h.2 with ⟨_, hn⟩ | ⟨g, cap, cur, rfl, hg, hgg, rest⟩
  · omega
  · exact ⟨g, cap, rfl, hg, (Array.getElem?_eq_some_iff.1 hgg).1⟩
theorem cells_rv {w : World} {g : Nat} {x : R4} (hg : w.heap[g]? = some (.cells #[.int .i64 x.1, .int .i64 x.2.1, .int .u32 x.2.2.1, .int .u32 x.2.2.2] 140 (0, 0))) : ∀ j u, (rv x)[j]? = some u → w.cell? ((⟨g, 0, none⟩ : Addr).add j) = some u := by
  obtain ⟨c0, c1, c2, c3, _⟩ := cells4 hg
  intro j u hu
  have hj : j < 4 := by
    by_cases hj : j < 4
    · exact hj
    · rw [List.getElem?_eq_none (by rw [rv_len]; omega)] at hu; cases hu
  have c : j = 0 ∨ j = 1 ∨ j = 2 ∨ j = 3 := by omega
  rcases c with rfl | rfl | rfl | rfl
  · simp [rv] at hu; subst hu; simpa [Addr.add] using c0
  · simp [rv] at hu; subst hu; simpa [Addr.add] using c1
  · simp [rv] at hu; subst hu; simpa [Addr.add] using c2
  · simp [rv] at hu; subst hu; simpa [Addr.add] using c3
theorem step_appT {ops : Array Oper} {o : Oper} {a : Act} {w : World} {K : Act → World → Prop} {Q : Exit → Act → World → Prop} {E : Prop}
    (hg : o.guard = none) (s x : Operand) (hop : o.op = Op.call { callee := Callee.builtin Builtin.append, args := #[s, x], argTypes := #[63, 63] }) (hty : o.type = 63)
    (B n g : Nat) (L : List R4) (xr : R4) (v : Value) (hs : a.eval s = v) (hown : w.ownsRow B 140 4 v n (rvs L)) (hx : a.eval x = .slice (some ⟨g, 0, none⟩) 1 1)
    (hgc : w.heap[g]? = some (.cells #[.int .i64 xr.1, .int .i64 xr.2.1, .int .u32 xr.2.2.1, .int .u32 xr.2.2.2] 140 (0, 0))) (hn : n < 1000000) (hB : B ≤ w.heap.size)
    (hK : ∀ g' cap' w', Hid (w'.ownsRow B 140 4 (.slice (some ⟨g', 0, none⟩) (n + 1) cap') (n + 1) (rvs (L ++ [xr])) ∧ w.grownBy w' v.ownBlock ∧ (v.ownBlock = some g' ∨ g' = w.heap.size)) → K (a.put o.dst (.slice (some ⟨g', 0, none⟩) (n + 1) cap')) w') :
    if Region.wanted o (yielded ops a.tmps) = true then Oper.wp Tryz.prog o a w K Q else E := by
  have hw : Region.wanted o (yielded ops a.tmps) = true := by simp [Region.wanted, hg]
  rw [if_pos hw]
  obtain ⟨i, hi, h0, h1, h2⟩ := info_parts info_rec
  obtain ⟨v', w', hrun, h3, h4, _, h5⟩ := run_append_own_at w B 63 63 140 i _ 4 24 Tryz.underlying63 hi h0 h1 h2 rfl (by decide) v n (rvs L) hown ⟨g, 0, none⟩ 1 1 (rv xr) rfl (cells_rv hgc) (rv_one xr) (by unfold maxLen; omega) (by omega) hB
  obtain ⟨g', cap', rfl, _, _⟩ := own_some h3
  unfold Oper.wp execOp
  simp only [hop, hty, resolve, invoke, builtin, Sem.run_bind, Sem.run_pure, Result.andThen_ok, List.map_toArray, List.map_cons, List.map_nil, hs, hx, hrun]
  refine hK g' cap' w' ⟨?_, h4, ?_⟩
  · rw [rvs_append, rvs_one]; exact h3
  · rcases h5 with h5 | h5
    · left; rw [← h5]; rfl
    · right; simpa [Value.ownBlock] using h5
end Go.Proofs.YtmleiemlfogffaaGreat
namespace Go.Proofs.YtmleiemlfogffaaGreat
set_option maxRecDepth 100000
open Go.RowKit Go.Maps
theorem own_form4 {w : World} {B n : Nat} {e : TypeId} {v : Value} {xs : List Value} (h : w.ownsRow B e 4 v n xs) : ∃ a cap, v = .slice a n cap := by
  rcases h.2 with ⟨rfl, hn⟩ | ⟨g, cap, cur, rfl, _⟩
  · exact ⟨none, 0, by rw [hn]⟩
  · exact ⟨_, cap, rfl⟩
section
variable {w wx w3 : World} {d m g n mx : Nat} {P : Pm} {U : List Nat} {s : Sd} {B : Bk2} {A : Prop}
theorem RB.grown (h : RB w d m g n mx P U s B A) (hx : Below w.heap.size w wx) (hg : wx.grownBy w3 B.lv.ownBlock) : w3.heap[d]? = some (.cells (RDC P m mx B.cp B.lv B.vv s B.av) 112 (0, 0)) := by
  rw [hg.block d (Nat.lt_of_lt_of_le h.dlt hx.size) (fun e => by have := (h.kl d e.symm).1; rw [h.kd.1] at this; omega), hx.block d h.dlt]
  exact h.dev
theorem RB.logd (h : RB w d m g n mx P U s B A) {gg cap : Nat} {x : R4} (hx : Below w.heap.size w wx)
    (ho : w3.ownsRow 0 140 4 (.slice (some ⟨gg, 0, none⟩) (s.L.length + 1) cap) (s.L.length + 1) (rvs (s.L ++ [x])) ∧ wx.grownBy w3 B.lv.ownBlock ∧ (B.lv.ownBlock = some gg ∨ gg = wx.heap.size)) :
    ∃ U' B', Gr U w U' (w3.setCell ⟨d, 8, none⟩ (.slice (some ⟨gg, 0, none⟩) (s.L.length + 1) cap)) ∧ RB (w3.setCell ⟨d, 8, none⟩ (.slice (some ⟨gg, 0, none⟩) (s.L.length + 1) cap)) d m g n mx P U' { s with L := s.L ++ [x] } B' A := by
  obtain ⟨h1, h2, h3⟩ := ho
  have hd3 := h.grown hx h2
  have hs := hx.size
  have hs2 := h2.size
  obtain ⟨g', cap', e, _, hgl⟩ := own_some h1
  have hgl : gg < w3.heap.size := by
    simp only [Value.slice.injEq, Option.some.injEq, Addr.mk.injEq] at e
    rw [e.1.1]; exact hgl
  have q : Off B.lv.ownBlock.toList w w3 := by
    refine ⟨h2.os.trans hx.os, h2.tape.trans hx.tape, h2.output.trans hx.output, Nat.le_trans hs hs2, fun k hk hkV => ?_⟩
    rw [h2.block k (by omega) (fun e => hkV (by rw [← e]; simp))]
    exact hx.block k hk
  have o3 : Off [d] w3 (w3.setCell ⟨d, 8, none⟩ (.slice (some ⟨gg, 0, none⟩) (s.L.length + 1) cap)) := Off.setCell d 8 w3 _
  have s3 := o3.size
  have hn : ∀ k, B.col k ≠ 0 → k ∉ [d] := fun k hk hm => by simp at hm; rw [hm, h.kd.1] at hk; exact hk rfl
  have hl : ∀ k, B.col k ≠ 5 → k ∉ B.lv.ownBlock.toList := fun k hk hm => hk (h.kl k (by simpa using hm)).1
  have hgU : (B.col gg = 5 ∧ gg ∈ U) ∨ w.heap.size ≤ gg := by
    rcases h3 with h3 | h3
    · exact .inl (h.kl gg h3)
    · right; omega
  have hdg : gg ≠ d := by
    rcases hgU with hh | hh
    · intro e; rw [e, h.kd.1] at hh; omega
    · have := h.dlt; omega
  have hq : ∀ k x, B.col k = x ∧ k ∈ U → (if k < w.heap.size then B.col k else 5) = x ∧ k ∈ gg :: U := fun k x hk => ⟨by rw [if_pos (h.ltU k hk.2)]; exact hk.1, by simp [hk.2]⟩
  refine ⟨gg :: U, { B with lv := .slice (some ⟨gg, 0, none⟩) (s.L.length + 1) cap, col := fun k => if k < w.heap.size then B.col k else 5 }, ⟨?_, ?_⟩, ?_⟩
  · exact (q.more (fun k hk => (h.kl k (by simpa using hk)).2)).trans (o3.more (by simp [h.kd.2]))
  · intro k hk
    simp at hk
    rcases hk with rfl | hk
    · rcases hgU with hh | hh
      · exact .inl hh.2
      · exact .inr hh
    · exact .inl hk
  · refine ⟨heap_setCell_same _ _ _ _ _ _ hd3, (h.mem.off q (hl _ (by rw [h.km.1]; omega)) (hl _ (by rw [h.kg.1]; omega))).off o3 (hn _ (by rw [h.km.1]; omega)) (hn _ (by rw [h.kg.1]; omega)), fun hA => ?_, ?_, ?_, ?_, h.apb, h.vok, h.dcl, ?_, hq _ _ h.kd, hq _ _ h.km, hq _ _ h.kg, hq _ _ h.kc, fun k hk => hq _ _ (h.kM k hk), ?_, fun k hk => hq _ _ (h.ka k hk), h.pok, h.n10, h.mx0, h.mxl, fun e => by simp at e⟩
    · obtain ⟨c1, c2, c3⟩ := h.cel hA
      exact ⟨c1, (c2.off q (hl _ (by rw [h.kc.1]; omega))).off o3 (hn _ (by rw [h.kc.1]; omega)), c3⟩
    · exact (h.val.off q (fun k hk hM => hl k (by rw [(h.kM k hM).1]; omega) hk)).off o3 (fun k hk hM => hn k (by rw [(h.kM k hM).1]; omega) hk)
    · have : (s.L ++ [x]).length = s.L.length + 1 := by simp
      show World.ownsRow _ 0 _ 4 _ (s.L ++ [x]).length _
      rw [this]
      exact own_offk h1 o3 (fun k hk => by simp only [Value.ownBlock, Option.some.injEq] at hk; subst hk; simpa using hdg)
    · exact own_offk (own_offk h.app q (fun k hk => hl _ (by rw [(h.ka k hk).1]; omega))) o3 (fun k hk => hn _ (by rw [(h.ka k hk).1]; omega))
    · intro k hk
      simp at hk
      rcases hk with rfl | hk
      · omega
      · have := h.ltU k hk; omega
    · intro k hk
      simp only [Value.ownBlock, Option.some.injEq] at hk
      subst hk
      refine ⟨?_, by simp⟩
      show (if gg < w.heap.size then B.col gg else 5) = 5
      rcases hgU with hh | hh
      · rw [if_pos (h.ltU _ hh.2)]; exact hh.1
      · rw [if_neg (by omega)]
end
set_option maxHeartbeats 3200000 in
theorem rnotev_any (d m g n mx : Nat) (P : Pm) (U : List Nat) (s : Sd) (B : Bk2) (A : Prop) (x : Int) (w : World) (h : RB w d m g n mx P U s B A) (hL : s.L.length < 900000) :
    Calls Tryz.prog 88 #[.pointer (some ⟨d, 8, none⟩), .int .i64 x, .int .u32 (s.ss : Nat), .int .u32 (s.nm : Nat)] w fun e w' => e = .returned (.int .i64 ((s.L.length + 1 : Nat) : Int)) ∧ Hid (∃ U' B', Gr U w U' w' ∧ RB w' d m g n mx P U' (dnote s x) B' A) := by
  have HG : Hid (RB w d m g n mx P U s B A) := h
  have c8 : w.cell? ⟨d, 8, none⟩ = some B.lv := cell_of_row w d 8 _ _ _ h.dev
  have hf := h.fz 8
  have hpl := h.dlt
  have ho : Hid (∀ wx, Below w.heap.size w wx → wx.ownsRow 0 140 4 B.lv s.L.length (rvs s.L)) := fun wx hx => own_below HG.out.log hx
  obtain ⟨a, cap, hlv⟩ := own_form4 h.log
  rw [hlv] at c8 ho
  obtain ⟨k, em⟩ : ∃ k, k = s.L.length := ⟨_, rfl⟩
  rw [← em] at hlv ho c8 hL ⊢
  have HM : Hid (_) := And.intro em hlv
  have e1 : IntKind.i64.wrap ((k : Int) + 1) = ((k + 1 : Nat) : Int) := by rw [IntKind.wrap_i64]; omega
  have ca1 : (w.alloc (.cells #[.int .i64 ((k : Int) + 1), .int .i64 x, .int .u32 (s.ss : Nat), .int .u32 (s.nm : Nat)] 140)).cell? ⟨d, 8, none⟩ = some (.slice a k cap) := (World.cell?_of_block ((Off.alloc [] w _).block d hpl (by simp))).trans c8
  have ca2 : (w.drew.alloc (.cells #[.int .i64 ((k : Int) + 1), .int .i64 x, .int .u32 (s.ss : Nat), .int .u32 (s.nm : Nat)] 140)).cell? ⟨d, 8, none⟩ = some (.slice a k cap) := ca1
  clear em h hlv
  go_enter Tryz.func88, Tryz.ntmps88
  go_wp2_with fail
  go_region_law (first
    | (refine step_appT rfl (.tmp 13) (.tmp 24) rfl rfl 0 k w.heap.size s.L (((k + 1 : Nat) : Int), x, (s.ss : Int), (s.nm : Int)) _ rfl (ho.out _ (by repeat (first | with_reducible assumption | with_reducible refine below_drewNR ?_ _ | with_reducible refine Below.drew ?_ | with_reducible refine belowAR ?_ (by omega) _ | with_reducible exact Below.refl _ _))) rfl (heap_alloc_new w _) (by omega) (Nat.zero_le _) ?_; intro g3 cap3 w3 H3; have hgb := H3.out.2.1; rw [← HM.out.2] at hgb; have hp3 := HG.out.grown (by repeat (first | with_reducible assumption | with_reducible refine below_drewNR ?_ _ | with_reducible refine Below.drew ?_ | with_reducible refine belowAR ?_ (by omega) _ | with_reducible exact Below.refl _ _)) hgb; have hc3 : w3.cell? ⟨d, 8, none⟩ = some B.lv := cell_of_row w3 d 8 _ _ _ hp3; rw [HM.out.2] at hc3; have hf3 := frozen_of_row w3 d 8 _ _ hp3))
  all_goals
    have H4 := H3.out
    rw [← HM.out.2] at H4
    rw [HM.out.1] at H4
    have HF : Hid (∃ U' B', Gr U w U' (w3.setCell ⟨d, 8, none⟩ (.slice (some ⟨g3, 0, none⟩) (s.L.length + 1) cap3)) ∧ RB (w3.setCell ⟨d, 8, none⟩ (.slice (some ⟨g3, 0, none⟩) (s.L.length + 1) cap3)) d m g n mx P U' (dnote s x) B' A) :=
      HG.out.logd (by repeat (first | with_reducible assumption | with_reducible refine below_drewNR ?_ _ | with_reducible refine Below.drew ?_ | with_reducible refine belowAR ?_ (by omega) _ | with_reducible exact Below.refl _ _)) H4
    rw [← HM.out.1] at HF
    clear ca1 ca2 H3 hp3 HG ho H4 hgb
    go_wp2_with fail
    go_ret
    exact ⟨rfl, HF⟩
end Go.Proofs.YtmleiemlfogffaaGreat
