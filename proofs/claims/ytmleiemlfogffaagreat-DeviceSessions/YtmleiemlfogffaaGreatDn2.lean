/- Note. -/
import Derived.Test.YtmleiemlfogffaaGreatDn
namespace Go.Proofs.YtmleiemlfogffaaGreat
set_option maxRecDepth 100000
open Go.RowKit Go.Maps

/-- The four cells of a place. -/
def put4 (w : World) (b o : Nat) (x : R4) : World := (((w.setCell ⟨b, o, none⟩ (.int .i64 x.1)).setCell ⟨b, o + 1, none⟩ (.int .i64 x.2.1)).setCell ⟨b, o + 2, none⟩ (.int .u32 x.2.2.1)).setCell ⟨b, o + 3, none⟩ (.int .u32 x.2.2.2)
theorem put4_off (w : World) (b o : Nat) (x : R4) : Off [b] w (put4 w b o x) := (((Off.setCell b o w _).trans (Off.setCell b (o + 1) _ _)).trans (Off.setCell b (o + 2) _ _)).trans (Off.setCell b (o + 3) _ _)
set_option maxHeartbeats 4000000 in
set_option maxRecDepth 100000 in
theorem dnote_at (b mA k p : Nat) (t q : Nat) (c s n : Int) (w w1 : World) (R : World → Prop) (hne : c ≠ 0) (hp : p = t % 16) (ht : t < 1000000) (hq : q < 1000000)
    (h0 : w.cell? ⟨b, 0, none⟩ = some (.pointer (some ⟨mA, 0, none⟩)))
    (ha : Calls Tryz.prog 139 #[.pointer (some ⟨mA, 0, none⟩), .int .u64 1] w fun e w' => e = .returned (.tuple #[.int .u64 ((t + 1 : Nat) : Int), .int .i64 0]) ∧ w' = w1)
    (hm : Calls Tryz.prog 140 #[.pointer (some ⟨b, 0, none⟩), .int .i64 c] w1 fun e w' => e = .returned (.pointer (some ⟨k, 0, none⟩)) ∧ R w')
    (hR : ∀ w2, R w2 → Met w2 k (q : Nat) none 0 0 none ∧ ∀ j, j < 66 → ∃ v, (w2.setCell ⟨k, 0, none⟩ (.int .u64 ((q + 1 : Nat) : Int))).cell? ⟨b, j, none⟩ = some v ∧ (w2.setCell ⟨k, 0, none⟩ (.int .u64 ((q + 1 : Nat) : Int))).frozen? ⟨b, j, none⟩ = false) :
    Calls Tryz.prog 104 #[.pointer (some ⟨b, 0, none⟩), .int .i64 c, .int .u32 s, .int .u32 n] w fun e w' => e = .returned (.tuple #[.int .i64 ((t + 1 : Nat) : Int), .int .i64 0]) ∧ Hid (∃ w2, R w2 ∧ w' = (put4 (w2.setCell ⟨k, 0, none⟩ (.int .u64 ((q + 1 : Nat) : Int))) b (2 + p * 4) (((t + 1 : Nat) : Int), c, s, n)).drew) := by
  have hp16 : (p : Int) < 16 := by omega
  have hb : 2 + p * 4 + 3 < 66 := by omega
  have h1 : IntKind.i64.wrap ((t + 1 : Nat) : Int) = ((t + 1 : Nat) : Int) := by rw [IntKind.wrap_i64]; omega
  have hpl := fun w => placeOf_any t p w hp ht
  have hR : Hid (_) := hR
  clear hp
  generalize t + 1 = t1 at *
  go_enter Tryz.func104, Tryz.ntmps104
  go_wp2_with fail
  refine ha.mono ?_
  rintro e w' ⟨rfl, rfl⟩
  go_wp2_with fail
  refine hm.mono ?_
  rintro e w2 ⟨rfl, hr⟩
  have hr : Hid (_) := hr
  obtain ⟨hmt, hcs⟩ := hR.out w2 hr.out
  have ha2 := add_any q 1 k none none 0 0 w2 (by omega) (by omega) hmt
  have es : sat q 1 = q + 1 := by unfold sat; rw [if_neg (by omega)]
  rw [es] at ha2
  obtain ⟨v0, hv0, hf0⟩ := hcs (2 + p * 4) (by omega)
  obtain ⟨v1, hv1, hf1⟩ := hcs (2 + p * 4 + 1) (by omega)
  obtain ⟨v2, hv2, hf2⟩ := hcs (2 + p * 4 + 2) (by omega)
  obtain ⟨v3, hv3, hf3⟩ := hcs (2 + p * 4 + 3) (by omega)
  clear hcs es hmt
  have hw3 : Hid (∀ W, W = w2.setCell ⟨k, 0, none⟩ (.int .u64 ((q + 1 : Nat) : Int)) → Hid (∃ w2, R w2 ∧ (put4 W b (2 + p * 4) ((t1 : Int), c, s, n)).drew = (put4 (w2.setCell ⟨k, 0, none⟩ (.int .u64 ((q + 1 : Nat) : Int))) b (2 + p * 4) ((t1 : Int), c, s, n)).drew)) := fun W e => ⟨w2, hr.out, by rw [e]⟩
  have hw3 := hw3.out _ rfl
  generalize w2.setCell ⟨k, 0, none⟩ (.int .u64 ((q + 1 : Nat) : Int)) = w3 at *
  have gv0 : w3.drew.cell? ⟨b, 2 + p * 4, none⟩ = some v0 := hv0
  have gv1 : w3.drew.cell? ⟨b, 2 + p * 4 + 1, none⟩ = some v1 := hv1
  have gv2 : w3.drew.cell? ⟨b, 2 + p * 4 + 2, none⟩ = some v2 := hv2
  have gv3 : w3.drew.cell? ⟨b, 2 + p * 4 + 3, none⟩ = some v3 := hv3
  have gf0 : w3.drew.frozen? ⟨b, 2 + p * 4, none⟩ = false := hf0
  have gf1 : w3.drew.frozen? ⟨b, 2 + p * 4 + 1, none⟩ = false := hf1
  have gf2 : w3.drew.frozen? ⟨b, 2 + p * 4 + 2, none⟩ = false := hf2
  have gf3 : w3.drew.frozen? ⟨b, 2 + p * 4 + 3, none⟩ = false := hf3
  go_wp2_with fail
  refine ha2.mono ?_
  rintro e w' ⟨rfl, rfl⟩
  go_wp2_with fail
  go_region_with (first | (go_at_call 99; refine (hpl _).mono ?_; rintro e w'' ⟨rfl, hw⟩; have hw := hw.symm; subst hw))
  go_wp2_with fail
  go_ret2
  exact ⟨rfl, hw3⟩
theorem DH.noted {w w1 w2 : World} {b : Nat} {U U' : List Nat} {L : List R4} {mA mb nn nn' k q : Nat} {D D' : DataW Unit} {mt : Int → Option Nat} {c : Int} (s n : Int) (h : DH w b U L mA mb nn D mt)
    (o1 : Off [mA] w w1) (m1 : Met w1 mA ((L.length + 1 : Nat) : Int) none 0 0 none) (o2 : Off [mb] w1 w2) (hU : ∀ x, x ∈ U → x ∈ U') (hU' : ∀ x, x ∈ U' → x ∈ U ∨ x = k) (kU : k ∈ U') (hk : Met w2 k (q : Nat) none 0 0 none) (hq : q = cnt L c)
    (map : w2.ownsMap Tryz.prog 29 rdP mb nn' D') (hn' : nn' ≤ L.length + 1)
    (hat : ∀ x, (Lit.int .i64 x).wf = true → D'.atKey (.int .i64 x) (dat none) = dat (if x = c then some k else mt x)) (hhas : ∀ x, has D' (.int .i64 x) = (decide (x = c) || has D (.int .i64 x)))
    (hnew : ∀ x, x ≠ c → mt x ≠ some k) (kb : k ≠ b) (ka : k ≠ mA) (km : k ≠ mb) :
    DH ((put4 (w2.setCell ⟨k, 0, none⟩ (.int .u64 ((q + 1 : Nat) : Int))) b (2 + L.length % 16 * 4) (((L.length + 1 : Nat) : Int), c, s, n)).drew) b U' (L ++ [(((L.length + 1 : Nat) : Int), c, s, n)]) mA mb nn' D' (fun x => if x = c then some k else mt x) := by
  have o3 : Off [k] w2 (w2.setCell ⟨k, 0, none⟩ (.int .u64 ((q + 1 : Nat) : Int))) := Off.setCell k 0 w2 _
  have m3 := hk.s0 ((q + 1 : Nat) : Int)
  generalize w2.setCell ⟨k, 0, none⟩ (.int .u64 ((q + 1 : Nat) : Int)) = w3 at *
  have o4 := put4_off w3 b (2 + L.length % 16 * 4) (((L.length + 1 : Nat) : Int), c, s, n)
  have B3 : DB w3 b mA mb L := ((h.blk.off o1 (by simp [h.ba])).off o2 (by simp [h.bm])).off o3 (by simp; exact kb.symm)
  have B4 : DB (put4 w3 b (2 + L.length % 16 * 4) (((L.length + 1 : Nat) : Int), c, s, n)) b mA mb (L ++ [(((L.length + 1 : Nat) : Int), c, s, n)]) := B3.put _
  generalize put4 w3 b (2 + L.length % 16 * 4) (((L.length + 1 : Nat) : Int), c, s, n) = w4 at *
  have o5 : Off [] w4 w4.drew := Off.drew [] w4
  generalize w4.drew = w5 at *
  have hkb : k ∉ [b] := by simp; exact kb
  refine ⟨B4.off o5 (by simp), ?_, ?_, ?_, hat, ?_, ?_, ?_, ?_, hU _ h.bU, hU _ h.aU, hU _ h.mU, h.ba, h.bm, h.am, ?_, h.nmb.snoc c s n⟩
  · have : (((L ++ [(((L.length + 1 : Nat) : Int), c, s, n)]).length : Nat) : Int) = ((L.length + 1 : Nat) : Int) := by simp
    rw [this]
    exact (((m1.off o2 (by simp [h.am])).off o3 (by simp; exact ka.symm)).off o4 (by simp; exact h.ba.symm)).off o5 (by simp)
  · exact ownsMap_off (ownsMap_off (ownsMap_off map o3 (by simp; exact km.symm)) o4 (by simp; exact h.bm.symm)) o5 (by simp)
  · simp; omega
  · intro x
    rw [hhas, h.has_, cnt_snoc]
    by_cases e : x = c
    · subst e; simp
    · have e' : ¬ c = x := fun h => e h.symm
      simp [e, e']
  · intro x hx
    by_cases e : x = c
    · simp [e] at hx
    · simp only [if_neg e] at hx
      have e' : ¬ c = x := fun h => e h.symm
      rw [cnt_snoc, h.no x hx]; simp [e']
  · intro x k' hx
    by_cases e : x = c
    · simp only [if_pos e] at hx
      obtain rfl : k = k' := by simpa using hx
      subst e
      have : cnt (L ++ [(((L.length + 1 : Nat) : Int), x, s, n)]) x = q + 1 := by rw [cnt_snoc, hq]; simp
      rw [this]
      exact ⟨(m3.off o4 hkb).off o5 (by simp), by omega, kU, kb, ka, km⟩
    · simp only [if_neg e] at hx
      obtain ⟨y1, y2, y3, y4, y5, y6⟩ := h.yes x k' hx
      have e' : ¬ c = x := fun h => e h.symm
      have : cnt (L ++ [(((L.length + 1 : Nat) : Int), c, s, n)]) x = cnt L x := by rw [cnt_snoc]; simp [e']
      rw [this]
      have hkk : k' ≠ k := fun he => hnew x e (he ▸ hx)
      exact ⟨((((y1.off o1 (by simp; exact y5)).off o2 (by simp; exact y6)).off o3 (by simp; exact hkk)).off o4 (by simp; exact y4)).off o5 (by simp), y2, hU _ y3, y4, y5, y6⟩
  · intro x x' k' hx hx'
    by_cases e : x = c
    · by_cases e' : x' = c
      · rw [e, e']
      · simp only [if_pos e] at hx
        simp only [if_neg e'] at hx'
        obtain rfl : k = k' := by simpa using hx
        exact absurd hx' (hnew x' e')
    · simp only [if_neg e] at hx
      by_cases e' : x' = c
      · simp only [if_pos e'] at hx'
        obtain rfl : k = k' := by simpa using hx'
        exact absurd hx (hnew x e)
      · simp only [if_neg e'] at hx'
        exact h.one x x' k' hx hx'
  · intro x hx
    have s5 := o5.size
    have s4 := o4.size
    have s3 := o3.size
    have s2 := o2.size
    have s1 := o1.size
    rcases hU' x hx with hx | rfl
    · have := h.ult x hx; omega
    · have := m3.lt; omega
theorem dnote_any (b : Nat) (U : List Nat) (L : List R4) (c s n : Int) (w : World) (h : DG w b U L) (hn : L.length < 999999) (hc : (Lit.int .i64 c).wf = true) (hne : c ≠ 0) :
    Calls Tryz.prog 104 #[.pointer (some ⟨b, 0, none⟩), .int .i64 c, .int .u32 s, .int .u32 n] w fun e w' => e = .returned (.tuple #[.int .i64 ((L.length + 1 : Nat) : Int), .int .i64 0]) ∧
      Hid (∃ U', Off U w w' ∧ DG w' b U' (L ++ [(((L.length + 1 : Nat) : Int), c, s, n)]) ∧ (∀ x, x ∈ U' → x ∈ U ∨ w.heap.size ≤ x)) := by
  obtain ⟨mA, mb, nn, D, mt, h⟩ := h
  have ha := add_any L.length 1 mA none none 0 0 w (by omega) (by omega) h.all
  have es : sat L.length 1 = L.length + 1 := by unfold sat; rw [if_neg (by omega)]
  rw [es] at ha
  have o1 : Off [mA] w (w.setCell ⟨mA, 0, none⟩ (.int .u64 ((L.length + 1 : Nat) : Int))) := Off.setCell mA 0 w _
  have m1 := h.all.s0 ((L.length + 1 : Nat) : Int)
  have sz1 : (w.setCell ⟨mA, 0, none⟩ (.int .u64 ((L.length + 1 : Nat) : Int))).heap.size = w.heap.size := by simp [World.setCell]
  generalize w.setCell ⟨mA, 0, none⟩ (.int .u64 ((L.length + 1 : Nat) : Int)) = w1 at *
  have blk1 : DB w1 b mA mb L := h.blk.off o1 (by simp [h.ba])
  have map1 := ownsMap_off h.map o1 (by simp; exact h.am.symm)
  have hle := cnt_le L c
  have fields : ∀ w2 k (v : Value), k ≠ b → DB w2 b mA mb L → ∀ j, j < 66 → ∃ u, (w2.setCell ⟨k, 0, none⟩ v).cell? ⟨b, j, none⟩ = some u ∧ (w2.setCell ⟨k, 0, none⟩ v).frozen? ⟨b, j, none⟩ = false := by
    intro w2 k v hk hb j hj
    have hb' := hb.off (Off.setCell k 0 w2 v) (by simp; exact hk.symm)
    obtain ⟨u, hu⟩ := hb'.some j hj
    exact ⟨u, hu, hb'.fz j⟩
  have look1 : (Instr.lookup 138 (.map (some mb)) (.int .i64 c) false).run Tryz.prog w1 = .ok (ptr (mt c)) w1 := by
    obtain ⟨v, ps, hrun, hv⟩ := map1.lookup key_i64 Tryz.underlying138 (zero_ptr w1) (zd := dat none) (zp := []) (rdP_ptr none) (keyOf_int_mk Tryz.underlying29 hc)
    rw [h.at_ c hc] at hv
    rw [hrun, rdP_inv hv]
  cases hm : mt c with
  | some k =>
    obtain ⟨y1, y2, y3, y4, y5, y6⟩ := h.yes c k hm
    have hmo : Calls Tryz.prog 140 #[.pointer (some ⟨b, 0, none⟩), .int .i64 c] w1 fun e w' => e = .returned (.pointer (some ⟨k, 0, none⟩)) ∧ w' = w1 := by
      rw [hm] at look1
      exact meterOf_old b mb c k w1 blk1.c1 look1
    refine (dnote_at b mA k (L.length % 16) L.length (cnt L c) c s n w w1 (fun w2 => w2 = w1) hne rfl (by omega) (by omega) h.blk.c0 ha hmo (fun w2 e => by subst e; exact ⟨y1.off o1 (by simp; exact y5), fields w2 k _ y4 blk1⟩)).mono ?_
    rintro e w' ⟨rfl, hw⟩
    refine ⟨rfl, ?_⟩
    obtain ⟨w2, rfl, rfl⟩ := hw.out
    refine ⟨U, ?_, ⟨mA, mb, nn, D, _, h.noted s n o1 m1 (Off.refl _ _) (fun x hx => hx) (fun x hx => .inl hx) y3 (y1.off o1 (by simp; exact y5)) rfl map1 (by have := h.nle; omega) ?_ ?_ ?_ y4 y5 y6⟩, fun x hx => .inl hx⟩
    · have o2 : Off U w w2 := o1.more (by simp; exact h.aU)
      have o3 : Off U w2 (w2.setCell ⟨k, 0, none⟩ (.int .u64 ((cnt L c + 1 : Nat) : Int))) := (Off.setCell k 0 w2 _).more (by simp; exact y3)
      exact ((o2.trans o3).trans ((put4_off _ b _ _).more (by simp; exact h.bU))).trans (Off.drew U _)
    · intro x hx
      rw [h.at_ x hx]
      by_cases e : x = c
      · rw [if_pos e, e, hm]
      · rw [if_neg e]
    · intro x
      by_cases e : x = c
      · subst e; rw [h.has_]; simp [y2]
      · simp [e]
    · intro x hx he
      exact hx (h.one x c k he hm)
  | none =>
    have hmo : Calls Tryz.prog 140 #[.pointer (some ⟨b, 0, none⟩), .int .i64 c] w1 fun e w' => e = .returned (.pointer (some ⟨w.heap.size, 0, none⟩)) ∧ Hid (Off [mb] w1 w' ∧ Met w' w.heap.size 0 none 0 0 none ∧ w'.ownsMap Tryz.prog 29 rdP mb (nn + 1) (D.put (.int .i64 c) (dat (some w.heap.size)))) := by
      rw [hm] at look1
      have := meterOf_new b mb nn D c w1 blk1.c1 blk1.lt look1 map1 hc (by have := h.nle; omega)
      rw [sz1] at this
      exact this
    have nb : w.heap.size ≠ b := by have := h.blk.lt; omega
    have na : w.heap.size ≠ mA := by have := h.all.lt; omega
    have nm : w.heap.size ≠ mb := by have := h.map.lt; omega
    refine (dnote_at b mA w.heap.size (L.length % 16) L.length 0 c s n w w1 _ hne rfl (by omega) (by omega) h.blk.c0 ha hmo (fun w2 e => ⟨e.out.2.1, fields w2 _ _ nb (blk1.off e.out.1 (by simp [h.bm]))⟩)).mono ?_
    rintro e w' ⟨rfl, hw⟩
    refine ⟨rfl, ?_⟩
    obtain ⟨w2, hr, rfl⟩ := hw.out
    obtain ⟨o2, mk, mp⟩ := hr.out
    have h0 := h.no c hm
    refine ⟨w.heap.size :: U, ?_, ⟨mA, mb, nn + 1, _, _, h.noted s n o1 m1 o2 (fun x hx => List.mem_cons_of_mem _ hx) (fun x hx => by rcases List.mem_cons.1 hx with rfl | hx; exact .inr rfl; exact .inl hx) (List.mem_cons_self ..) mk h0.symm mp (by have := h.nle; omega) ?_ ?_ ?_ nb na nm⟩, ?_⟩
    · have o2 : Off U w w2 := (o1.more (by simp; exact h.aU)).trans (o2.more (by simp; exact h.mU))
      have o3 : Off (w.heap.size :: U) w2 (w2.setCell ⟨w.heap.size, 0, none⟩ (.int .u64 ((0 + 1 : Nat) : Int))) := (Off.setCell w.heap.size 0 w2 _).more (by simp)
      have o4 := (((o2.more (fun x hx => List.mem_cons_of_mem _ hx)).trans o3).trans ((put4_off _ b (2 + L.length % 16 * 4) (((L.length + 1 : Nat) : Int), c, s, n)).more (by simp; exact .inr h.bU))).trans (Off.drew (w.heap.size :: U) _)
      exact o4.only (fun x hx hlt => by rcases List.mem_cons.1 hx with rfl | hx; exact absurd hlt (Nat.lt_irrefl _); exact hx)
    · intro x hx
      have im : IsMap D := by obtain ⟨es, clock, _, _, _, e⟩ := h.map; exact ⟨_, e⟩
      by_cases e : x = c
      · subst e; rw [if_pos rfl, atKey_put_same im (by trivial)]
      · rw [if_neg e, atKey_put_other (by simpa using e), h.at_ x hx]
    · intro x
      have im : IsMap D := by obtain ⟨es, clock, _, _, _, e⟩ := h.map; exact ⟨_, e⟩
      by_cases e : x = c
      · subst e; rw [has_put_same im (by trivial)]; simp
      · rw [has_put_other (by simpa using e)]; simp [e]
    · intro x hx he
      have := h.ult _ (h.yes x _ he).2.2.1
      omega
    · intro x hx
      rcases List.mem_cons.1 hx with rfl | hx
      · exact .inr (Nat.le_refl _)
      · exact .inl hx
end Go.Proofs.YtmleiemlfogffaaGreat
