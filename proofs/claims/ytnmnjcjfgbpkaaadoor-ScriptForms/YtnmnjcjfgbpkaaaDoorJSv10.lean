/- Layer 20: the reader's move of kind write. (gensv10.py) -/
import Derived.Test.YtnmnjcjfgbpkaaaDoorJSv9
namespace Go.Proofs.YtnmnjcjfgbpkaaaDoor
set_option maxRecDepth 100000
open Go.RowKit Go.Maps
set_option maxRecDepth 100000
set_option linter.unusedVariables false
/-- What the reader's move of kind write leaves. -/
def WrP (b : Nat) (V S : Int) (H : Bool) (N : Nat) (D : Nat → Nat) (x : Bool) (w : World) (r : Ending) (w' : World) : Prop := ∃ a cc, r = .returned (.agg #[.int .i64 1, .int .i64 V, .int .i64 S, .int .i64 0, .int .i64 0, .int .u32 0, .int .i64 0, .bool H, .slice a N cc]) ∧ Hid (Row8 w' a N cc D ∧ (∃ v, RB w' b v x) ∧ Off [b] w w' ∧ ∀ y, a = some y → 0 < N → w.heap.size < y.block)
set_option maxHeartbeats 4000000 in
theorem pmv1_3 (b g o e : Nat) (x : Bool) (L : Nat → List UInt8) (hL : ∀ i, i < 3 → (L i).length ≤ 281474976710656) (w : World) (hLo : Lo b w) (hb : b ∉ [2, 0, 5, 6]) (h : RB w b (.slice (some ⟨g, o, none⟩) 3 (e + 3)) x) (hw : ∀ i, i < 3 → w.cell? ⟨g, o + i, none⟩ = some (.string (tx (L i)))) (hne : g ≠ b) (he : e + 3 ≤ 9223372036854775807) : Calls Tryd.prog 42 #[.pointer (some ⟨b, 0, none⟩), .int .i64 1] w (WrP b ((nmV (L 0) : Nat) : Int) (sdI (L 1)) false (dtN (L 2)) (dtB (L 2)) (((x || !nmO (L 0)) || !(sdI (L 1) != 0)) || !dtO (L 2)) w) := by
  have hg : g < w.heap.size := World.block_lt_of_cell? w _ (hw 0 (by omega))
  have hbl := h.c.2.2.2.2
  have b2 := belA (Below.refl _ w) (.cells #[.int .i64 0, .int .i64 0, .int .i64 0, .int .i64 0, .int .i64 0, .int .u32 0, .int .i64 0, .bool false, .slice none 0 0] 45)
  have kz := Bk.new w #[.int .i64 0, .int .i64 0, .int .i64 0, .int .i64 0, .int .i64 0, .int .u32 0, .int .i64 0, .bool false, .slice none 0 0] 45
  obtain ⟨w0, hW⟩ : ∃ y, w.alloc (.cells #[.int .i64 0, .int .i64 0, .int .i64 0, .int .i64 0, .int .i64 0, .int .u32 0, .int .i64 0, .bool false, .slice none 0 0] 45) = y := ⟨_, rfl⟩
  rw [hW] at b2 kz
  have HS0 : Hid (_) := And.intro (h.below b2) (And.intro kz (Off.of_below (l := [b, w.heap.size]) b2))
  have HG : Hid (g < w.heap.size ∧ b < w.heap.size ∧ g ≠ b) := ⟨hg, hbl, hne⟩
  have HW : Hid (_) := And.intro hw (And.intro hL hLo)
  have hU := puses 1
  rw [show sided 1 = true from rfl] at hU
  obtain ⟨V0, hV0⟩ : ∃ y, nmV (L 0) = y := ⟨_, rfl⟩
  obtain ⟨O0, hO0⟩ : ∃ y, nmO (L 0) = y := ⟨_, rfl⟩
  have t0 : V0 < 4294967296 := by rw [← hV0]; exact nmV_lt _
  have e0 : IntKind.i64.wrap ((V0 : Nat) : Int) = ((V0 : Nat) : Int) := by rw [IntKind.wrap_i64]; omega
  obtain ⟨V1, hV1⟩ : ∃ y, (sdI (L 1)) = y := ⟨_, rfl⟩
  obtain ⟨O1, hO1⟩ : ∃ y, (sdI (L 1) != 0) = y := ⟨_, rfl⟩
  obtain ⟨N, hN⟩ : ∃ y, dtN (L 2) = y := ⟨_, rfl⟩
  obtain ⟨D, hD⟩ : ∃ y, dtB (L 2) = y := ⟨_, rfl⟩
  obtain ⟨O2, hO2⟩ : ∃ y, dtO (L 2) = y := ⟨_, rfl⟩
  have HV0 : Hid (_) := And.intro hV0 hO0
  rw [hV0, hO0]
  have HV1 : Hid (_) := And.intro hV1 hO1
  rw [hO1, hV1]
  have HV2 : Hid (_) := And.intro hN (And.intro hD hO2)
  rw [hN, hD, hO2]
  have hoff : ∀ p wx, w.heap.size ≤ p → Off [b, w.heap.size, p] w wx → Off [b] w wx := fun p wx hp q => q.only (fun k hk hl => by simp at hk ⊢; omega)
  have hcell : ∀ wx, Off [b] w wx → ∀ i, i < 3 → wx.cell? ⟨g, o + i, none⟩ = some (.string (tx (L i))) := fun wx q i hi => by
    have hg := HG.out
    have he := q.block g hg.1 (by simp; omega)
    have := HW.out.1 i hi
    rw [← this]
    unfold World.cell?
    rw [he]
  have HH : Hid (_) := And.intro hoff hcell
  have HF0 : Hid (Off [b] w w0) := Off.of_below b2
  have post : ∀ a cc w', Row8 w' a N cc D ∧ (∃ v, RB w' b v (((x || !O0) || !O1) || !O2)) ∧ Off [b] w w' ∧ (∀ y, a = some y → 0 < N → w.heap.size < y.block) → WrP b ((V0 : Nat) : Int) V1 false N D (((x || !O0) || !O1) || !O2) w (.returned (.agg #[.int .i64 1, .int .i64 ((V0 : Nat) : Int), .int .i64 V1, .int .i64 0, .int .i64 0, .int .u32 0, .int .i64 0, .bool false, .slice a N cc])) w' := fun a cc w' q => ⟨a, cc, rfl, q⟩
  clear h b2 kz hw hL hLo hg hbl hne hoff hcell hV0 hO0 t0 hV1 hO1 hN hD hO2
  have h1 : Calls Tryd.prog 56 #[.pointer (some ⟨b, 0, none⟩)] w0 fun r w' => r = .returned (.int .u32 ((V0 : Nat) : Int)) ∧ RB w' b (.slice (some ⟨g, adv o (e + 2), none⟩) 2 (e + 2)) (x || !O0) ∧ Off [b] w0 w' := by
    have := pnumO b g o 2 (e + 2) x (L 0) (HW.out.2.1 0 (by omega)) w0 (HW.out.2.2.off HF0.out) hb HS0.out.1 (HH.out.2 _ HF0.out 0 (by omega)) (by omega) (by omega)
    rw [HV0.out.1, HV0.out.2] at this
    exact this
  go_enter Tryd.func42, Tryd.ntmps42
  go_wp2_with fail
  try rw [hW]
  clear hW
  refine h1.mono ?_
  rintro r v0 ⟨rfl, r0, o0⟩
  have z0 := HS0.out.2.1.off o0 (by have := HG.out; simp; omega)
  have s0 := HS0.out.2.2.trans (o0.more (by simp))
  have HT : Hid (_) := And.intro r0 (And.intro z0 (And.intro s0 (HF0.out.trans o0)))
  clear h1 r0 o0 z0 s0
  go_wp2_with fail
  have n1 := Bk.new v0 #[.int .i64 1, .int .i64 ((V0 : Nat) : Int), .int .i64 0, .int .i64 0, .int .i64 0, .int .u32 0, .int .i64 0, .bool false, .slice none 0 0] 45
  have b1 := belA (Below.refl _ v0) (.cells #[.int .i64 1, .int .i64 ((V0 : Nat) : Int), .int .i64 0, .int .i64 0, .int .i64 0, .int .u32 0, .int .i64 0, .bool false, .slice none 0 0] 45)
  obtain ⟨w1, hw1⟩ : ∃ y, v0.alloc (.cells #[.int .i64 1, .int .i64 ((V0 : Nat) : Int), .int .i64 0, .int .i64 0, .int .i64 0, .int .u32 0, .int .i64 0, .bool false, .slice none 0 0] 45) = y := ⟨_, rfl⟩
  rw [hw1] at n1 b1 ⊢
  clear hw1
  have lp : w.heap.size < v0.heap.size ∧ b < v0.heap.size := ⟨HT.out.2.1.lt, HT.out.1.c.2.2.2.2⟩
  obtain ⟨p, hp⟩ : ∃ y, v0.heap.size = y := ⟨_, rfl⟩
  rw [hp] at n1 lp ⊢
  have hG := HG.out
  have HS1 : Hid (RB w1 b (.slice (some ⟨g, (o + 1), none⟩) 2 (e + 2)) (x || !O0) ∧ Bk w1 w.heap.size #[.int .i64 0, .int .i64 0, .int .i64 0, .int .i64 0, .int .i64 0, .int .u32 0, .int .i64 0, .bool false, .slice none 0 0] 45 ∧ Bk w1 p #[.int .i64 1, .int .i64 ((V0 : Nat) : Int), .int .i64 0, .int .i64 0, .int .i64 0, .int .u32 0, .int .i64 0, .bool false, .slice none 0 0] 45 ∧ Off [b, w.heap.size, p] w w1) := by
    have R := HT.out.1.below b1
    rw [adv_next (by omega)] at R
    exact ⟨R, HT.out.2.1.off (Off.of_below (l := []) b1) (by simp), n1, (HT.out.2.2.1.more (by simp)).trans (Off.of_below b1)⟩
  have HP : Hid (w.heap.size < p ∧ b < p ∧ g < p) := ⟨lp.1, lp.2, by omega⟩
  have HF1 : Hid (Off [b] w w1) := HT.out.2.2.2.trans (Off.of_below b1)
  clear n1 b1 lp hp hG HT
  have h2 : Calls Tryd.prog 57 #[.pointer (some ⟨b, 0, none⟩)] w1 fun r w' => r = .returned (.int .i64 V1) ∧ RB w' b (.slice (some ⟨g, adv (o + 1) (e + 1), none⟩) 1 (e + 1)) ((x || !O0) || !O1) ∧ Off [b] w1 w' := by
    have := psideR b g (o + 1) 1 (e + 1) (x || !O0) (L 1) w1 HS1.out.1 (HH.out.2 _ HF1.out 1 (by omega)) (by omega) (by omega)
    rw [HV1.out.2, HV1.out.1] at this
    exact this
  refine (hU _).mono ?_
  rintro r w' ⟨rfl, hw⟩
  rw [hw]
  clear hw hU
  go_wp2_with fail
  refine h2.mono ?_
  rintro r v1 ⟨rfl, r1, o1⟩
  have z1 := HS1.out.2.1.off o1 (by have := HG.out; simp; omega)
  have y1 := HS1.out.2.2.1.off o1 (by have := HP.out; simp; omega)
  have f1 := y1.fz
  have g1 : v1.cell? ⟨p, 2, none⟩ = some (.int .i64 0) := y1.cell 2
  obtain ⟨w2, hw2⟩ : ∃ y, v1.setCell ⟨p, 2, none⟩ (.int .i64 V1) = y := ⟨_, rfl⟩
  have HS2 : Hid (RB w2 b (.slice (some ⟨g, (o + 2), none⟩) 1 (e + 1)) ((x || !O0) || !O1) ∧ Bk w2 w.heap.size #[.int .i64 0, .int .i64 0, .int .i64 0, .int .i64 0, .int .i64 0, .int .u32 0, .int .i64 0, .bool false, .slice none 0 0] 45 ∧ Bk w2 p #[.int .i64 1, .int .i64 ((V0 : Nat) : Int), .int .i64 V1, .int .i64 0, .int .i64 0, .int .u32 0, .int .i64 0, .bool false, .slice none 0 0] 45 ∧ Off [b, w.heap.size, p] w w2) := by
    rw [← hw2]
    have hG := HG.out
    have hP := HP.out
    have os := Off.setCell p 2 v1 (.int .i64 V1)
    refine ⟨?_, z1.off os (by simp; omega), y1.set 2 _, (HS1.out.2.2.2.trans (o1.more (by simp))).trans (os.more (by simp))⟩
    have := RB.off r1 os (by simp; omega)
    rw [adv_next (by omega)] at this
    exact this
  have HF2 : Hid (Off [b] w w2) := HH.out.1 p _ (by have := HP.out; omega) HS2.out.2.2.2
  clear h2 r1 o1 z1 y1
  have h3 : Calls Tryd.prog 58 #[.pointer (some ⟨b, 0, none⟩)] w2 fun r w' => ∃ a cc, r = .returned (.slice a N cc) ∧ Hid (Row8 w' a N cc D ∧ (∀ y, a = some y → 0 < N → w2.heap.size ≤ y.block) ∧ RB w' b (.slice (some ⟨g, adv (o + 2) e, none⟩) 0 e) (((x || !O0) || !O1) || !O2) ∧ Off [b] w2 w') := by
    have := pdataR b g (o + 2) 0 e ((x || !O0) || !O1) (L 2) w2 HS2.out.1 (HH.out.2 _ HF2.out 2 (by omega)) (by omega) (by omega)
    unfold DatP at this
    rw [HV2.out.1, HV2.out.2.1, HV2.out.2.2] at this
    exact this
  go_upto_region 4 with fail
  try rw [hw2]
  clear hw2 f1 g1
  go_wp2_with fail
  refine h3.mono ?_
  rintro r v2 ⟨a, cc, rfl, H3⟩
  have z2 := HS2.out.2.1.off H3.out.2.2.2 (by have := HG.out; simp; omega)
  have y2 := HS2.out.2.2.1.off H3.out.2.2.2 (by have := HP.out; simp; omega)
  have f2 := y2.fz
  have g2 : v2.cell? ⟨p, 8, none⟩ = some (.slice none 0 0) := y2.cell 8
  obtain ⟨w3, hw3⟩ : ∃ y, v2.setCell ⟨p, 8, none⟩ (.slice a N cc) = y := ⟨_, rfl⟩
  have HS3 : Hid (RB w3 b (.slice (some ⟨g, adv (o + 2) e, none⟩) 0 e) (((x || !O0) || !O1) || !O2) ∧ Bk w3 w.heap.size #[.int .i64 0, .int .i64 0, .int .i64 0, .int .i64 0, .int .i64 0, .int .u32 0, .int .i64 0, .bool false, .slice none 0 0] 45 ∧ Bk w3 p #[.int .i64 1, .int .i64 ((V0 : Nat) : Int), .int .i64 V1, .int .i64 0, .int .i64 0, .int .u32 0, .int .i64 0, .bool false, .slice a N cc] 45 ∧ Off [b, w.heap.size, p] w w3) := by
    rw [← hw3]
    have hG := HG.out
    have hP := HP.out
    have os := Off.setCell p 8 v2 (.slice a N cc)
    refine ⟨?_, z2.off os (by simp; omega), y2.set 8 _, (HS2.out.2.2.2.trans (H3.out.2.2.2.more (by simp))).trans (os.more (by simp))⟩
    have := RB.off H3.out.2.2.1 os (by simp; omega)
    exact this
  have HF3 : Hid (Off [b] w w3) := HH.out.1 p _ (by have := HP.out; omega) HS3.out.2.2.2
  have HR3 : Hid (Row8 w3 a N cc D ∧ ∀ y, a = some y → 0 < N → p < y.block) := by
    have hP := HP.out
    have hp2 := HS2.out.2.2.1.lt
    refine ⟨?_, fun y hy hn => ?_⟩
    · rw [← hw3]
      refine H3.out.1.offS (Off.setCell p 8 v2 _) (fun y hy hn => ?_)
      have := H3.out.2.1 y hy hn
      simp
      omega
    · have := H3.out.2.1 y hy hn
      omega
  clear h3 H3 z2 y2
  have h4 := pholdR0 b e _ _ w3 HS3.out.1
  go_upto_region 7 with fail
  try rw [hw3]
  clear hw3 f2 g2
  go_wp2_with fail
  refine h4.mono ?_
  rintro r v3 ⟨rfl, hv3⟩
  rw [hv3]
  clear hv3 h4
  have f3 := HS3.out.2.2.1.fz
  have g3 : w3.cell? ⟨p, 7, none⟩ = some (.bool false) := HS3.out.2.2.1.cell 7
  obtain ⟨w4, hw4⟩ : ∃ y, w3.setCell ⟨p, 7, none⟩ (.bool false) = y := ⟨_, rfl⟩
  have HS4 : Hid ((∃ v, RB w4 b v (((x || !O0) || !O1) || !O2)) ∧ Bk w4 w.heap.size #[.int .i64 0, .int .i64 0, .int .i64 0, .int .i64 0, .int .i64 0, .int .u32 0, .int .i64 0, .bool false, .slice none 0 0] 45 ∧ Bk w4 p #[.int .i64 1, .int .i64 ((V0 : Nat) : Int), .int .i64 V1, .int .i64 0, .int .i64 0, .int .u32 0, .int .i64 0, .bool false, .slice a N cc] 45 ∧ Off [b, w.heap.size, p] w w4 ∧ Row8 w4 a N cc D ∧ ∀ y, a = some y → 0 < N → p < y.block) := by
    rw [← hw4]
    have hG := HG.out
    have hP := HP.out
    have os := Off.setCell p 7 w3 (.bool false)
    exact ⟨⟨_, RB.off HS3.out.1 os (by simp; omega)⟩, HS3.out.2.1.off os (by simp; omega), HS3.out.2.2.1.set 7 _, HS3.out.2.2.2.trans (os.more (by simp)), HR3.out.1.offS os (fun y hy hn => by have := HR3.out.2 y hy hn; simp; omega), HR3.out.2⟩
  go_upto_region 18 with fail
  try rw [hw4]
  clear hw4 f3 g3
  have p0 : w4.cell? ⟨p, 0, none⟩ = some (.int .i64 1) := HS4.out.2.2.1.cell 0
  have p1 : w4.cell? ⟨p, 1, none⟩ = some (.int .i64 ((V0 : Nat) : Int)) := HS4.out.2.2.1.cell 1
  have p2 : w4.cell? ⟨p, 2, none⟩ = some (.int .i64 V1) := HS4.out.2.2.1.cell 2
  have p3 : w4.cell? ⟨p, 3, none⟩ = some (.int .i64 0) := HS4.out.2.2.1.cell 3
  have p4 : w4.cell? ⟨p, 4, none⟩ = some (.int .i64 0) := HS4.out.2.2.1.cell 4
  have p5 : w4.cell? ⟨p, 5, none⟩ = some (.int .u32 0) := HS4.out.2.2.1.cell 5
  have p6 : w4.cell? ⟨p, 6, none⟩ = some (.int .i64 0) := HS4.out.2.2.1.cell 6
  have p7 : w4.cell? ⟨p, 7, none⟩ = some (.bool false) := HS4.out.2.2.1.cell 7
  have p8 : w4.cell? ⟨p, 8, none⟩ = some (.slice a N cc) := HS4.out.2.2.1.cell 8
  have q0 : w4.cell? ⟨w.heap.size, 0, none⟩ = some (.int .i64 0) := HS4.out.2.1.cell 0
  have q1 : w4.cell? ⟨w.heap.size, 1, none⟩ = some (.int .i64 0) := HS4.out.2.1.cell 1
  have q2 : w4.cell? ⟨w.heap.size, 2, none⟩ = some (.int .i64 0) := HS4.out.2.1.cell 2
  have q3 : w4.cell? ⟨w.heap.size, 3, none⟩ = some (.int .i64 0) := HS4.out.2.1.cell 3
  have q4 : w4.cell? ⟨w.heap.size, 4, none⟩ = some (.int .i64 0) := HS4.out.2.1.cell 4
  have q5 : w4.cell? ⟨w.heap.size, 5, none⟩ = some (.int .u32 0) := HS4.out.2.1.cell 5
  have q6 : w4.cell? ⟨w.heap.size, 6, none⟩ = some (.int .i64 0) := HS4.out.2.1.cell 6
  have q7 : w4.cell? ⟨w.heap.size, 7, none⟩ = some (.bool false) := HS4.out.2.1.cell 7
  have q8 : w4.cell? ⟨w.heap.size, 8, none⟩ = some (.slice none 0 0) := HS4.out.2.1.cell 8
  have fz := HS4.out.2.1.fz
  have HO : Hid (Off [w.heap.size] w4 (((((((((w4.setCell ⟨w.heap.size, 0, none⟩ (.int .i64 1)).setCell ⟨w.heap.size, 1, none⟩ (.int .i64 ((V0 : Nat) : Int))).setCell ⟨w.heap.size, 2, none⟩ (.int .i64 V1)).setCell ⟨w.heap.size, 3, none⟩ (.int .i64 0)).setCell ⟨w.heap.size, 4, none⟩ (.int .i64 0)).setCell ⟨w.heap.size, 5, none⟩ (.int .u32 0)).setCell ⟨w.heap.size, 6, none⟩ (.int .i64 0)).setCell ⟨w.heap.size, 7, none⟩ (.bool false)).setCell ⟨w.heap.size, 8, none⟩ (.slice a N cc))) := Off.trans (Off.trans (Off.trans (Off.trans (Off.trans (Off.trans (Off.trans (Off.trans (Off.trans (Off.refl [w.heap.size] w4) (Off.setCell w.heap.size 0 _ _)) (Off.setCell w.heap.size 1 _ _)) (Off.setCell w.heap.size 2 _ _)) (Off.setCell w.heap.size 3 _ _)) (Off.setCell w.heap.size 4 _ _)) (Off.setCell w.heap.size 5 _ _)) (Off.setCell w.heap.size 6 _ _)) (Off.setCell w.heap.size 7 _ _)) (Off.setCell w.heap.size 8 _ _)
  go_wp2_with fail
  refine bodyPost_ret (v := .agg #[.int .i64 1, .int .i64 ((V0 : Nat) : Int), .int .i64 V1, .int .i64 0, .int .i64 0, .int .u32 0, .int .i64 0, .bool false, .slice a N cc]) (by simp [results, Tryd.results42, go_sem, q0, q1, q2, q3, q4, q5, q6, q7, q8]) rfl ?_
  obtain ⟨w9, hw9⟩ : ∃ y, (((((((((w4.setCell ⟨w.heap.size, 0, none⟩ (.int .i64 1)).setCell ⟨w.heap.size, 1, none⟩ (.int .i64 ((V0 : Nat) : Int))).setCell ⟨w.heap.size, 2, none⟩ (.int .i64 V1)).setCell ⟨w.heap.size, 3, none⟩ (.int .i64 0)).setCell ⟨w.heap.size, 4, none⟩ (.int .i64 0)).setCell ⟨w.heap.size, 5, none⟩ (.int .u32 0)).setCell ⟨w.heap.size, 6, none⟩ (.int .i64 0)).setCell ⟨w.heap.size, 7, none⟩ (.bool false)).setCell ⟨w.heap.size, 8, none⟩ (.slice a N cc)) = y := ⟨_, rfl⟩
  rw [hw9] at HO ⊢
  clear hw9
  obtain ⟨v9, hv9⟩ := HS4.out.1
  refine post _ _ _ ⟨HS4.out.2.2.2.2.1.offS HO.out (fun y hy hn => ?_), ⟨_, RB.off hv9 HO.out (by have := HG.out; simp; omega)⟩, ?_, fun y hy hn => by have := HS4.out.2.2.2.2.2 y hy hn; have := HP.out; omega⟩
  · have := HS4.out.2.2.2.2.2 y hy hn
    have := HP.out
    simp
    omega
  · exact HH.out.1 p _ (by have := HP.out; omega) (HS4.out.2.2.2.1.trans (HO.out.more (by simp)))
set_option maxHeartbeats 4000000 in
theorem pmv1_4 (b g o e : Nat) (x : Bool) (L : Nat → List UInt8) (hL : ∀ i, i < 4 → (L i).length ≤ 281474976710656) (w : World) (hLo : Lo b w) (hb : b ∉ [2, 0, 5, 6]) (h : RB w b (.slice (some ⟨g, o, none⟩) 4 (e + 4)) x) (hw : ∀ i, i < 4 → w.cell? ⟨g, o + i, none⟩ = some (.string (tx (L i)))) (hne : g ≠ b) (he : e + 4 ≤ 9223372036854775807) : Calls Tryd.prog 42 #[.pointer (some ⟨b, 0, none⟩), .int .i64 1] w (WrP b ((nmV (L 0) : Nat) : Int) (sdI (L 1)) true (dtN (L 2)) (dtB (L 2)) ((((x || !nmO (L 0)) || !(sdI (L 1) != 0)) || !dtO (L 2)) || !(L 3 == [104, 111, 108, 100])) w) := by
  have hg : g < w.heap.size := World.block_lt_of_cell? w _ (hw 0 (by omega))
  have hbl := h.c.2.2.2.2
  have b2 := belA (Below.refl _ w) (.cells #[.int .i64 0, .int .i64 0, .int .i64 0, .int .i64 0, .int .i64 0, .int .u32 0, .int .i64 0, .bool false, .slice none 0 0] 45)
  have kz := Bk.new w #[.int .i64 0, .int .i64 0, .int .i64 0, .int .i64 0, .int .i64 0, .int .u32 0, .int .i64 0, .bool false, .slice none 0 0] 45
  obtain ⟨w0, hW⟩ : ∃ y, w.alloc (.cells #[.int .i64 0, .int .i64 0, .int .i64 0, .int .i64 0, .int .i64 0, .int .u32 0, .int .i64 0, .bool false, .slice none 0 0] 45) = y := ⟨_, rfl⟩
  rw [hW] at b2 kz
  have HS0 : Hid (_) := And.intro (h.below b2) (And.intro kz (Off.of_below (l := [b, w.heap.size]) b2))
  have HG : Hid (g < w.heap.size ∧ b < w.heap.size ∧ g ≠ b) := ⟨hg, hbl, hne⟩
  have HW : Hid (_) := And.intro hw (And.intro hL hLo)
  have hU := puses 1
  rw [show sided 1 = true from rfl] at hU
  obtain ⟨V0, hV0⟩ : ∃ y, nmV (L 0) = y := ⟨_, rfl⟩
  obtain ⟨O0, hO0⟩ : ∃ y, nmO (L 0) = y := ⟨_, rfl⟩
  have t0 : V0 < 4294967296 := by rw [← hV0]; exact nmV_lt _
  have e0 : IntKind.i64.wrap ((V0 : Nat) : Int) = ((V0 : Nat) : Int) := by rw [IntKind.wrap_i64]; omega
  obtain ⟨V1, hV1⟩ : ∃ y, (sdI (L 1)) = y := ⟨_, rfl⟩
  obtain ⟨O1, hO1⟩ : ∃ y, (sdI (L 1) != 0) = y := ⟨_, rfl⟩
  obtain ⟨N, hN⟩ : ∃ y, dtN (L 2) = y := ⟨_, rfl⟩
  obtain ⟨D, hD⟩ : ∃ y, dtB (L 2) = y := ⟨_, rfl⟩
  obtain ⟨O2, hO2⟩ : ∃ y, dtO (L 2) = y := ⟨_, rfl⟩
  obtain ⟨O3, hO3⟩ : ∃ y, (L 3 == [104, 111, 108, 100]) = y := ⟨_, rfl⟩
  have HV0 : Hid (_) := And.intro hV0 hO0
  rw [hV0, hO0]
  have HV1 : Hid (_) := And.intro hV1 hO1
  rw [hO1, hV1]
  have HV2 : Hid (_) := And.intro hN (And.intro hD hO2)
  rw [hN, hD, hO2]
  have HV3 : Hid (_) := hO3
  rw [hO3]
  have hoff : ∀ p wx, w.heap.size ≤ p → Off [b, w.heap.size, p] w wx → Off [b] w wx := fun p wx hp q => q.only (fun k hk hl => by simp at hk ⊢; omega)
  have hcell : ∀ wx, Off [b] w wx → ∀ i, i < 4 → wx.cell? ⟨g, o + i, none⟩ = some (.string (tx (L i))) := fun wx q i hi => by
    have hg := HG.out
    have he := q.block g hg.1 (by simp; omega)
    have := HW.out.1 i hi
    rw [← this]
    unfold World.cell?
    rw [he]
  have HH : Hid (_) := And.intro hoff hcell
  have HF0 : Hid (Off [b] w w0) := Off.of_below b2
  have post : ∀ a cc w', Row8 w' a N cc D ∧ (∃ v, RB w' b v ((((x || !O0) || !O1) || !O2) || !O3)) ∧ Off [b] w w' ∧ (∀ y, a = some y → 0 < N → w.heap.size < y.block) → WrP b ((V0 : Nat) : Int) V1 true N D ((((x || !O0) || !O1) || !O2) || !O3) w (.returned (.agg #[.int .i64 1, .int .i64 ((V0 : Nat) : Int), .int .i64 V1, .int .i64 0, .int .i64 0, .int .u32 0, .int .i64 0, .bool true, .slice a N cc])) w' := fun a cc w' q => ⟨a, cc, rfl, q⟩
  clear h b2 kz hw hL hLo hg hbl hne hoff hcell hV0 hO0 t0 hV1 hO1 hN hD hO2 hO3
  have h1 : Calls Tryd.prog 56 #[.pointer (some ⟨b, 0, none⟩)] w0 fun r w' => r = .returned (.int .u32 ((V0 : Nat) : Int)) ∧ RB w' b (.slice (some ⟨g, adv o (e + 3), none⟩) 3 (e + 3)) (x || !O0) ∧ Off [b] w0 w' := by
    have := pnumO b g o 3 (e + 3) x (L 0) (HW.out.2.1 0 (by omega)) w0 (HW.out.2.2.off HF0.out) hb HS0.out.1 (HH.out.2 _ HF0.out 0 (by omega)) (by omega) (by omega)
    rw [HV0.out.1, HV0.out.2] at this
    exact this
  go_enter Tryd.func42, Tryd.ntmps42
  go_wp2_with fail
  try rw [hW]
  clear hW
  refine h1.mono ?_
  rintro r v0 ⟨rfl, r0, o0⟩
  have z0 := HS0.out.2.1.off o0 (by have := HG.out; simp; omega)
  have s0 := HS0.out.2.2.trans (o0.more (by simp))
  have HT : Hid (_) := And.intro r0 (And.intro z0 (And.intro s0 (HF0.out.trans o0)))
  clear h1 r0 o0 z0 s0
  go_wp2_with fail
  have n1 := Bk.new v0 #[.int .i64 1, .int .i64 ((V0 : Nat) : Int), .int .i64 0, .int .i64 0, .int .i64 0, .int .u32 0, .int .i64 0, .bool false, .slice none 0 0] 45
  have b1 := belA (Below.refl _ v0) (.cells #[.int .i64 1, .int .i64 ((V0 : Nat) : Int), .int .i64 0, .int .i64 0, .int .i64 0, .int .u32 0, .int .i64 0, .bool false, .slice none 0 0] 45)
  obtain ⟨w1, hw1⟩ : ∃ y, v0.alloc (.cells #[.int .i64 1, .int .i64 ((V0 : Nat) : Int), .int .i64 0, .int .i64 0, .int .i64 0, .int .u32 0, .int .i64 0, .bool false, .slice none 0 0] 45) = y := ⟨_, rfl⟩
  rw [hw1] at n1 b1 ⊢
  clear hw1
  have lp : w.heap.size < v0.heap.size ∧ b < v0.heap.size := ⟨HT.out.2.1.lt, HT.out.1.c.2.2.2.2⟩
  obtain ⟨p, hp⟩ : ∃ y, v0.heap.size = y := ⟨_, rfl⟩
  rw [hp] at n1 lp ⊢
  have hG := HG.out
  have HS1 : Hid (RB w1 b (.slice (some ⟨g, (o + 1), none⟩) 3 (e + 3)) (x || !O0) ∧ Bk w1 w.heap.size #[.int .i64 0, .int .i64 0, .int .i64 0, .int .i64 0, .int .i64 0, .int .u32 0, .int .i64 0, .bool false, .slice none 0 0] 45 ∧ Bk w1 p #[.int .i64 1, .int .i64 ((V0 : Nat) : Int), .int .i64 0, .int .i64 0, .int .i64 0, .int .u32 0, .int .i64 0, .bool false, .slice none 0 0] 45 ∧ Off [b, w.heap.size, p] w w1) := by
    have R := HT.out.1.below b1
    rw [adv_next (by omega)] at R
    exact ⟨R, HT.out.2.1.off (Off.of_below (l := []) b1) (by simp), n1, (HT.out.2.2.1.more (by simp)).trans (Off.of_below b1)⟩
  have HP : Hid (w.heap.size < p ∧ b < p ∧ g < p) := ⟨lp.1, lp.2, by omega⟩
  have HF1 : Hid (Off [b] w w1) := HT.out.2.2.2.trans (Off.of_below b1)
  clear n1 b1 lp hp hG HT
  have h2 : Calls Tryd.prog 57 #[.pointer (some ⟨b, 0, none⟩)] w1 fun r w' => r = .returned (.int .i64 V1) ∧ RB w' b (.slice (some ⟨g, adv (o + 1) (e + 2), none⟩) 2 (e + 2)) ((x || !O0) || !O1) ∧ Off [b] w1 w' := by
    have := psideR b g (o + 1) 2 (e + 2) (x || !O0) (L 1) w1 HS1.out.1 (HH.out.2 _ HF1.out 1 (by omega)) (by omega) (by omega)
    rw [HV1.out.2, HV1.out.1] at this
    exact this
  refine (hU _).mono ?_
  rintro r w' ⟨rfl, hw⟩
  rw [hw]
  clear hw hU
  go_wp2_with fail
  refine h2.mono ?_
  rintro r v1 ⟨rfl, r1, o1⟩
  have z1 := HS1.out.2.1.off o1 (by have := HG.out; simp; omega)
  have y1 := HS1.out.2.2.1.off o1 (by have := HP.out; simp; omega)
  have f1 := y1.fz
  have g1 : v1.cell? ⟨p, 2, none⟩ = some (.int .i64 0) := y1.cell 2
  obtain ⟨w2, hw2⟩ : ∃ y, v1.setCell ⟨p, 2, none⟩ (.int .i64 V1) = y := ⟨_, rfl⟩
  have HS2 : Hid (RB w2 b (.slice (some ⟨g, (o + 2), none⟩) 2 (e + 2)) ((x || !O0) || !O1) ∧ Bk w2 w.heap.size #[.int .i64 0, .int .i64 0, .int .i64 0, .int .i64 0, .int .i64 0, .int .u32 0, .int .i64 0, .bool false, .slice none 0 0] 45 ∧ Bk w2 p #[.int .i64 1, .int .i64 ((V0 : Nat) : Int), .int .i64 V1, .int .i64 0, .int .i64 0, .int .u32 0, .int .i64 0, .bool false, .slice none 0 0] 45 ∧ Off [b, w.heap.size, p] w w2) := by
    rw [← hw2]
    have hG := HG.out
    have hP := HP.out
    have os := Off.setCell p 2 v1 (.int .i64 V1)
    refine ⟨?_, z1.off os (by simp; omega), y1.set 2 _, (HS1.out.2.2.2.trans (o1.more (by simp))).trans (os.more (by simp))⟩
    have := RB.off r1 os (by simp; omega)
    rw [adv_next (by omega)] at this
    exact this
  have HF2 : Hid (Off [b] w w2) := HH.out.1 p _ (by have := HP.out; omega) HS2.out.2.2.2
  clear h2 r1 o1 z1 y1
  have h3 : Calls Tryd.prog 58 #[.pointer (some ⟨b, 0, none⟩)] w2 fun r w' => ∃ a cc, r = .returned (.slice a N cc) ∧ Hid (Row8 w' a N cc D ∧ (∀ y, a = some y → 0 < N → w2.heap.size ≤ y.block) ∧ RB w' b (.slice (some ⟨g, adv (o + 2) (e + 1), none⟩) 1 (e + 1)) (((x || !O0) || !O1) || !O2) ∧ Off [b] w2 w') := by
    have := pdataR b g (o + 2) 1 (e + 1) ((x || !O0) || !O1) (L 2) w2 HS2.out.1 (HH.out.2 _ HF2.out 2 (by omega)) (by omega) (by omega)
    unfold DatP at this
    rw [HV2.out.1, HV2.out.2.1, HV2.out.2.2] at this
    exact this
  go_upto_region 4 with fail
  try rw [hw2]
  clear hw2 f1 g1
  go_wp2_with fail
  refine h3.mono ?_
  rintro r v2 ⟨a, cc, rfl, H3⟩
  have z2 := HS2.out.2.1.off H3.out.2.2.2 (by have := HG.out; simp; omega)
  have y2 := HS2.out.2.2.1.off H3.out.2.2.2 (by have := HP.out; simp; omega)
  have f2 := y2.fz
  have g2 : v2.cell? ⟨p, 8, none⟩ = some (.slice none 0 0) := y2.cell 8
  obtain ⟨w3, hw3⟩ : ∃ y, v2.setCell ⟨p, 8, none⟩ (.slice a N cc) = y := ⟨_, rfl⟩
  have HS3 : Hid (RB w3 b (.slice (some ⟨g, (o + 3), none⟩) 1 (e + 1)) (((x || !O0) || !O1) || !O2) ∧ Bk w3 w.heap.size #[.int .i64 0, .int .i64 0, .int .i64 0, .int .i64 0, .int .i64 0, .int .u32 0, .int .i64 0, .bool false, .slice none 0 0] 45 ∧ Bk w3 p #[.int .i64 1, .int .i64 ((V0 : Nat) : Int), .int .i64 V1, .int .i64 0, .int .i64 0, .int .u32 0, .int .i64 0, .bool false, .slice a N cc] 45 ∧ Off [b, w.heap.size, p] w w3) := by
    rw [← hw3]
    have hG := HG.out
    have hP := HP.out
    have os := Off.setCell p 8 v2 (.slice a N cc)
    refine ⟨?_, z2.off os (by simp; omega), y2.set 8 _, (HS2.out.2.2.2.trans (H3.out.2.2.2.more (by simp))).trans (os.more (by simp))⟩
    have := RB.off H3.out.2.2.1 os (by simp; omega)
    rw [adv_next (by omega)] at this
    exact this
  have HF3 : Hid (Off [b] w w3) := HH.out.1 p _ (by have := HP.out; omega) HS3.out.2.2.2
  have HR3 : Hid (Row8 w3 a N cc D ∧ ∀ y, a = some y → 0 < N → p < y.block) := by
    have hP := HP.out
    have hp2 := HS2.out.2.2.1.lt
    refine ⟨?_, fun y hy hn => ?_⟩
    · rw [← hw3]
      refine H3.out.1.offS (Off.setCell p 8 v2 _) (fun y hy hn => ?_)
      have := H3.out.2.1 y hy hn
      simp
      omega
    · have := H3.out.2.1 y hy hn
      omega
  clear h3 H3 z2 y2
  have h4 : Calls Tryd.prog 59 #[.pointer (some ⟨b, 0, none⟩)] w3 fun r w' => r = .returned (.bool true) ∧ RB w' b (.slice (some ⟨g, adv (o + 3) e, none⟩) 0 e) ((((x || !O0) || !O1) || !O2) || !O3) ∧ Off [b] w3 w' := by
    have := pholdR b g (o + 3) 0 e (((x || !O0) || !O1) || !O2) (L 3) w3 HS3.out.1 (HH.out.2 _ HF3.out 3 (by omega)) (by omega) (by omega)
    rw [HV3.out] at this
    exact this
  go_upto_region 7 with fail
  try rw [hw3]
  clear hw3 f2 g2
  go_wp2_with fail
  refine h4.mono ?_
  rintro r v3 ⟨rfl, r3, o3⟩
  have z3 := HS3.out.2.1.off o3 (by have := HG.out; simp; omega)
  have y3 := HS3.out.2.2.1.off o3 (by have := HP.out; simp; omega)
  have f3 := y3.fz
  have g3 : v3.cell? ⟨p, 7, none⟩ = some (.bool false) := y3.cell 7
  obtain ⟨w4, hw4⟩ : ∃ y, v3.setCell ⟨p, 7, none⟩ (.bool true) = y := ⟨_, rfl⟩
  have HS4 : Hid ((∃ v, RB w4 b v ((((x || !O0) || !O1) || !O2) || !O3)) ∧ Bk w4 w.heap.size #[.int .i64 0, .int .i64 0, .int .i64 0, .int .i64 0, .int .i64 0, .int .u32 0, .int .i64 0, .bool false, .slice none 0 0] 45 ∧ Bk w4 p #[.int .i64 1, .int .i64 ((V0 : Nat) : Int), .int .i64 V1, .int .i64 0, .int .i64 0, .int .u32 0, .int .i64 0, .bool true, .slice a N cc] 45 ∧ Off [b, w.heap.size, p] w w4 ∧ Row8 w4 a N cc D ∧ ∀ y, a = some y → 0 < N → p < y.block) := by
    rw [← hw4]
    have hG := HG.out
    have hP := HP.out
    have os := Off.setCell p 7 v3 (.bool true)
    have R3 := HR3.out.1.offS o3 (fun y hy hn => by have := HR3.out.2 y hy hn; simp; omega)
    exact ⟨⟨_, RB.off r3 os (by simp; omega)⟩, z3.off os (by simp; omega), y3.set 7 _, (HS3.out.2.2.2.trans (o3.more (by simp))).trans (os.more (by simp)), R3.offS os (fun y hy hn => by have := HR3.out.2 y hy hn; simp; omega), HR3.out.2⟩
  clear h4 r3 o3 z3 y3
  go_upto_region 18 with fail
  try rw [hw4]
  clear hw4 f3 g3
  have p0 : w4.cell? ⟨p, 0, none⟩ = some (.int .i64 1) := HS4.out.2.2.1.cell 0
  have p1 : w4.cell? ⟨p, 1, none⟩ = some (.int .i64 ((V0 : Nat) : Int)) := HS4.out.2.2.1.cell 1
  have p2 : w4.cell? ⟨p, 2, none⟩ = some (.int .i64 V1) := HS4.out.2.2.1.cell 2
  have p3 : w4.cell? ⟨p, 3, none⟩ = some (.int .i64 0) := HS4.out.2.2.1.cell 3
  have p4 : w4.cell? ⟨p, 4, none⟩ = some (.int .i64 0) := HS4.out.2.2.1.cell 4
  have p5 : w4.cell? ⟨p, 5, none⟩ = some (.int .u32 0) := HS4.out.2.2.1.cell 5
  have p6 : w4.cell? ⟨p, 6, none⟩ = some (.int .i64 0) := HS4.out.2.2.1.cell 6
  have p7 : w4.cell? ⟨p, 7, none⟩ = some (.bool true) := HS4.out.2.2.1.cell 7
  have p8 : w4.cell? ⟨p, 8, none⟩ = some (.slice a N cc) := HS4.out.2.2.1.cell 8
  have q0 : w4.cell? ⟨w.heap.size, 0, none⟩ = some (.int .i64 0) := HS4.out.2.1.cell 0
  have q1 : w4.cell? ⟨w.heap.size, 1, none⟩ = some (.int .i64 0) := HS4.out.2.1.cell 1
  have q2 : w4.cell? ⟨w.heap.size, 2, none⟩ = some (.int .i64 0) := HS4.out.2.1.cell 2
  have q3 : w4.cell? ⟨w.heap.size, 3, none⟩ = some (.int .i64 0) := HS4.out.2.1.cell 3
  have q4 : w4.cell? ⟨w.heap.size, 4, none⟩ = some (.int .i64 0) := HS4.out.2.1.cell 4
  have q5 : w4.cell? ⟨w.heap.size, 5, none⟩ = some (.int .u32 0) := HS4.out.2.1.cell 5
  have q6 : w4.cell? ⟨w.heap.size, 6, none⟩ = some (.int .i64 0) := HS4.out.2.1.cell 6
  have q7 : w4.cell? ⟨w.heap.size, 7, none⟩ = some (.bool false) := HS4.out.2.1.cell 7
  have q8 : w4.cell? ⟨w.heap.size, 8, none⟩ = some (.slice none 0 0) := HS4.out.2.1.cell 8
  have fz := HS4.out.2.1.fz
  have HO : Hid (Off [w.heap.size] w4 (((((((((w4.setCell ⟨w.heap.size, 0, none⟩ (.int .i64 1)).setCell ⟨w.heap.size, 1, none⟩ (.int .i64 ((V0 : Nat) : Int))).setCell ⟨w.heap.size, 2, none⟩ (.int .i64 V1)).setCell ⟨w.heap.size, 3, none⟩ (.int .i64 0)).setCell ⟨w.heap.size, 4, none⟩ (.int .i64 0)).setCell ⟨w.heap.size, 5, none⟩ (.int .u32 0)).setCell ⟨w.heap.size, 6, none⟩ (.int .i64 0)).setCell ⟨w.heap.size, 7, none⟩ (.bool true)).setCell ⟨w.heap.size, 8, none⟩ (.slice a N cc))) := Off.trans (Off.trans (Off.trans (Off.trans (Off.trans (Off.trans (Off.trans (Off.trans (Off.trans (Off.refl [w.heap.size] w4) (Off.setCell w.heap.size 0 _ _)) (Off.setCell w.heap.size 1 _ _)) (Off.setCell w.heap.size 2 _ _)) (Off.setCell w.heap.size 3 _ _)) (Off.setCell w.heap.size 4 _ _)) (Off.setCell w.heap.size 5 _ _)) (Off.setCell w.heap.size 6 _ _)) (Off.setCell w.heap.size 7 _ _)) (Off.setCell w.heap.size 8 _ _)
  go_wp2_with fail
  refine bodyPost_ret (v := .agg #[.int .i64 1, .int .i64 ((V0 : Nat) : Int), .int .i64 V1, .int .i64 0, .int .i64 0, .int .u32 0, .int .i64 0, .bool true, .slice a N cc]) (by simp [results, Tryd.results42, go_sem, q0, q1, q2, q3, q4, q5, q6, q7, q8]) rfl ?_
  obtain ⟨w9, hw9⟩ : ∃ y, (((((((((w4.setCell ⟨w.heap.size, 0, none⟩ (.int .i64 1)).setCell ⟨w.heap.size, 1, none⟩ (.int .i64 ((V0 : Nat) : Int))).setCell ⟨w.heap.size, 2, none⟩ (.int .i64 V1)).setCell ⟨w.heap.size, 3, none⟩ (.int .i64 0)).setCell ⟨w.heap.size, 4, none⟩ (.int .i64 0)).setCell ⟨w.heap.size, 5, none⟩ (.int .u32 0)).setCell ⟨w.heap.size, 6, none⟩ (.int .i64 0)).setCell ⟨w.heap.size, 7, none⟩ (.bool true)).setCell ⟨w.heap.size, 8, none⟩ (.slice a N cc)) = y := ⟨_, rfl⟩
  rw [hw9] at HO ⊢
  clear hw9
  obtain ⟨v9, hv9⟩ := HS4.out.1
  refine post _ _ _ ⟨HS4.out.2.2.2.2.1.offS HO.out (fun y hy hn => ?_), ⟨_, RB.off hv9 HO.out (by have := HG.out; simp; omega)⟩, ?_, fun y hy hn => by have := HS4.out.2.2.2.2.2 y hy hn; have := HP.out; omega⟩
  · have := HS4.out.2.2.2.2.2 y hy hn
    have := HP.out
    simp
    omega
  · exact HH.out.1 p _ (by have := HP.out; omega) (HS4.out.2.2.2.1.trans (HO.out.more (by simp)))
end Go.Proofs.YtnmnjcjfgbpkaaaDoor

namespace Go.Proofs.YtnmnjcjfgbpkaaaDoor
set_option maxRecDepth 100000
open Go.RowKit Go.Maps
set_option maxRecDepth 100000
set_option linter.unusedVariables false
/-- The move of nothing. -/
def Mv.z (k : Int) : Mv := ⟨k, 0, 0, 0, 0, 0, 0, false, 0, fun _ => 0⟩
/-- Is the word what a letter asks for? -/
def lwO (c : Nat) (l : List UInt8) : Bool := if c = 115 then (l == [104]) || (l == [100]) else if c = 120 then dtO l else if c = 104 then l == [104, 111, 108, 100] else vlO l
/-- A move with a word put in its letter's place. -/
def Mv.put (m : Mv) (c : Nat) (l : List UInt8) : Mv := if c = 99 then { m with c := ((vlV l : Nat) : Int) } else if c = 102 then { m with f := ((vlV l : Nat) : Int) } else if c = 97 then { m with a := ((vlV l : Nat) : Int) } else if c = 119 then { m with w := vlV l } else if c = 110 then { m with n := ((vlV l : Nat) : Int) } else if c = 115 then { m with s := if l = [100] then 2 else 1 } else if c = 120 then { m with l := dtN l, b := dtB l } else if c = 104 then { m with h := true } else m
def ltr (F : List UInt8) (i : Nat) : Nat := (F.getD i 0).toNat
def mvF (F : List UInt8) (L : Nat → List UInt8) (m : Mv) : Nat → Mv
  | 0 => m
  | i + 1 => (mvF F L m i).put (ltr F i) (L i)
def okF (F : List UInt8) (L : Nat → List UInt8) : Nat → Bool
  | 0 => true
  | i + 1 => okF F L i && lwO (ltr F i) (L i)
theorem okF_no {F : List UInt8} {L : Nat → List UInt8} : ∀ (n i : Nat), i < n → lwO (ltr F i) (L i) = false → okF F L n = false
  | n + 1, i, h, hw => by
    unfold okF
    by_cases e : i = n
    · subst e
      rw [hw, Bool.and_false]
    · rw [okF_no n i (by omega) hw, Bool.false_and]
/-- Why words are no move; 0. -/
def rdEr (n : Nat) (L : Nat → List UInt8) : Int := if n = 0 then 202 else if fmK (L 0) = 0 then 200 else if n - 1 < plL (fmK (L 0)) then 202 else if plM (fmK (L 0)) < n - 1 then 201 else if okF (fmF (fmK (L 0))) (fun i => L (i + 1)) (n - 1) = true then 0 else 203
/-- The move that they write. -/
def rdM (n : Nat) (L : Nat → List UInt8) : Mv := if rdEr n L = 0 then mvF (fmF (fmK (L 0))) (fun i => L (i + 1)) (Mv.z ((fmK (L 0) : Nat) : Int)) (n - 1) else Mv.z 0
theorem vlV_lt (l : List UInt8) : vlV l < 4294967296 := by
  unfold vlV
  split
  · rename_i h
    unfold vlO at h
    simp only [Bool.and_eq_true, decide_eq_true_eq] at h
    omega
  · omega
theorem fmF_len (k : Nat) (hk : k ≤ 8) : (fmF k).length = plM k := by
  have : ∀ k : Fin 9, (fmF k.val).length = plM k.val := by decide +kernel
  exact this ⟨k, by omega⟩
theorem fmF_ltr (k j : Nat) (hk : k ≤ 8) (hj : j < (fmF k).length) : ltr (fmF k) j = 99 ∨ ltr (fmF k) j = 102 ∨ ltr (fmF k) j = 97 ∨ ltr (fmF k) j = 119 ∨ ltr (fmF k) j = 110 ∨ ltr (fmF k) j = 115 ∨ ltr (fmF k) j = 120 ∨ ltr (fmF k) j = 104 := by
  have q : ∀ k : Fin 9, ∀ j : Fin 6, j.val < (fmF k.val).length → (ltr (fmF k.val) j.val = 99 ∨ ltr (fmF k.val) j.val = 102 ∨ ltr (fmF k.val) j.val = 97 ∨ ltr (fmF k.val) j.val = 119 ∨ ltr (fmF k.val) j.val = 110 ∨ ltr (fmF k.val) j.val = 115 ∨ ltr (fmF k.val) j.val = 120 ∨ ltr (fmF k.val) j.val = 104) := by decide +kernel
  have h5 : ∀ k : Fin 9, (fmF k.val).length ≤ 5 := by decide +kernel
  have := h5 ⟨k, by omega⟩
  simp only at this
  exact q ⟨k, by omega⟩ ⟨j, by omega⟩ hj
/-- What Read leaves. -/
def RdP (m : Mv) (e : Int) (w : World) (r : Ending) (w' : World) : Prop := ∃ a cc, r = .returned (.tuple #[.agg #[.int .i64 m.k, .int .i64 m.c, .int .i64 m.s, .int .i64 m.f, .int .i64 m.a, .int .u32 (m.w : Nat), .int .i64 m.n, .bool m.h, .slice a m.l cc], .int .i64 e]) ∧ Hid (Row8 w' a m.l cc m.b ∧ Below w.heap.size w w' ∧ ∀ y, a = some y → 0 < m.l → w.heap.size ≤ y.block)
theorem row8_0 (w : World) : Row8 w none 0 0 (fun _ => 0) := ⟨(fun i hi => by simp at hi), (fun _ => ⟨rfl, rfl⟩), (fun x hx => by cases hx), Nat.le_refl _⟩
theorem RdP.nil0 {e : Int} {w w' : World} (b : Below w.heap.size w w') : RdP (Mv.z 0) e w (.returned (.tuple #[.agg #[.int .i64 0, .int .i64 0, .int .i64 0, .int .i64 0, .int .i64 0, .int .u32 0, .int .i64 0, .bool false, .slice none 0 0], .int .i64 e])) w' := ⟨.none, 0, rfl, row8_0 w', b, (fun y hy => by cases hy)⟩
end Go.Proofs.YtnmnjcjfgbpkaaaDoor
