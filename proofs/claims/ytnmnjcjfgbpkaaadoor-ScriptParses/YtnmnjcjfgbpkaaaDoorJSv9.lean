/- Layer 20: the reader's move, of every kind but write. (gensv9.py) -/
import Derived.Test.YtnmnjcjfgbpkaaaDoorJSv7
namespace Go.Proofs.YtnmnjcjfgbpkaaaDoor
set_option maxRecDepth 100000
open Go.RowKit Go.Maps
set_option maxRecDepth 100000
set_option linter.unusedVariables false
set_option maxHeartbeats 4000000 in
theorem pmv2 (b g o e : Nat) (x : Bool) (L : Nat → List UInt8) (hL : ∀ i, i < 1 → (L i).length ≤ 281474976710656) (w : World) (hLo : Lo b w) (hb : b ∉ [2, 0, 5, 6]) (h : RB w b (.slice (some ⟨g, o, none⟩) 1 (e + 1)) x) (hw : ∀ i, i < 1 → w.cell? ⟨g, o + i, none⟩ = some (.string (tx (L i)))) (hne : g ≠ b) (he : e + 1 ≤ 9223372036854775807) : Calls Tryd.prog 42 #[.pointer (some ⟨b, 0, none⟩), .int .i64 2] w fun r w' => r = .returned (.agg #[.int .i64 2, .int .i64 ((nmV (L 0) : Nat) : Int), .int .i64 0, .int .i64 0, .int .i64 0, .int .u32 0, .int .i64 0, .bool false, .slice none 0 0]) ∧ (∃ v, RB w' b v (x || !nmO (L 0))) ∧ Off [b] w w' := by
  have hg : g < w.heap.size := World.block_lt_of_cell? w _ (hw 0 (by omega))
  have hbl := h.c.2.2.2.2
  have b2 := belA (Below.refl _ w) (.cells #[.int .i64 0, .int .i64 0, .int .i64 0, .int .i64 0, .int .i64 0, .int .u32 0, .int .i64 0, .bool false, .slice none 0 0] 45)
  have kz := Bk.new w #[.int .i64 0, .int .i64 0, .int .i64 0, .int .i64 0, .int .i64 0, .int .u32 0, .int .i64 0, .bool false, .slice none 0 0] 45
  obtain ⟨w0, hW⟩ : ∃ y, w.alloc (.cells #[.int .i64 0, .int .i64 0, .int .i64 0, .int .i64 0, .int .i64 0, .int .u32 0, .int .i64 0, .bool false, .slice none 0 0] 45) = y := ⟨_, rfl⟩
  rw [hW] at b2 kz
  have HS0 : Hid (_) := And.intro (h.below b2) (And.intro kz (Off.of_below (l := [b, w.heap.size]) b2))
  have HG : Hid (g < w.heap.size ∧ b < w.heap.size ∧ g ≠ b) := ⟨hg, hbl, hne⟩
  have HW : Hid (_) := And.intro hw (And.intro hL hLo)
  have hU := puses 2
  rw [show sided 2 = false from rfl] at hU
  obtain ⟨V0, hV0⟩ : ∃ y, nmV (L 0) = y := ⟨_, rfl⟩
  obtain ⟨O0, hO0⟩ : ∃ y, nmO (L 0) = y := ⟨_, rfl⟩
  have t0 : V0 < 4294967296 := by rw [← hV0]; exact nmV_lt _
  have e0 : IntKind.i64.wrap ((V0 : Nat) : Int) = ((V0 : Nat) : Int) := by rw [IntKind.wrap_i64]; omega
  have HV0 : Hid (_) := And.intro hV0 hO0
  rw [hV0, hO0]
  have hoff : ∀ p wx, w.heap.size ≤ p → Off [b, w.heap.size, p] w wx → Off [b] w wx := fun p wx hp q => q.only (fun k hk hl => by simp at hk ⊢; omega)
  have hcell : ∀ wx, Off [b] w wx → ∀ i, i < 1 → wx.cell? ⟨g, o + i, none⟩ = some (.string (tx (L i))) := fun wx q i hi => by
    have hg := HG.out
    have he := q.block g hg.1 (by simp; omega)
    have := HW.out.1 i hi
    rw [← this]
    unfold World.cell?
    rw [he]
  have HH : Hid (_) := And.intro hoff hcell
  have HF0 : Hid (Off [b] w w0) := Off.of_below b2
  clear h b2 kz hw hL hLo hg hbl hne hoff hcell hV0 hO0 t0
  have h1 : Calls Tryd.prog 56 #[.pointer (some ⟨b, 0, none⟩)] w0 fun r w' => r = .returned (.int .u32 ((V0 : Nat) : Int)) ∧ RB w' b (.slice (some ⟨g, adv o e, none⟩) 0 e) (x || !O0) ∧ Off [b] w0 w' := by
    have := pnumO b g o 0 e x (L 0) (HW.out.2.1 0 (by omega)) w0 (HW.out.2.2.off HF0.out) hb HS0.out.1 (HH.out.2 _ HF0.out 0 (by omega)) (by omega) (by omega)
    rw [HV0.out.1, HV0.out.2] at this
    exact this
  go_enter Tryd.func42, Tryd.ntmps42
  go_wp2_with fail
  try rw [hW]
  clear hW
  refine h1.mono ?_
  rintro r v0 ⟨rfl, r0, o0⟩
  have z0 := HS0.out.2.1.off o0 (by have := HG.out; simp; omega)
  have s0 := HS0.out.2.2.trans (o0.more (by simp))
  have HT : Hid (_) := And.intro r0 (And.intro z0 (And.intro s0 (HF0.out.trans o0)))
  clear h1 r0 o0 z0 s0
  go_wp2_with fail
  have n1 := Bk.new v0 #[.int .i64 2, .int .i64 ((V0 : Nat) : Int), .int .i64 0, .int .i64 0, .int .i64 0, .int .u32 0, .int .i64 0, .bool false, .slice none 0 0] 45
  have b1 := belA (Below.refl _ v0) (.cells #[.int .i64 2, .int .i64 ((V0 : Nat) : Int), .int .i64 0, .int .i64 0, .int .i64 0, .int .u32 0, .int .i64 0, .bool false, .slice none 0 0] 45)
  obtain ⟨w1, hw1⟩ : ∃ y, v0.alloc (.cells #[.int .i64 2, .int .i64 ((V0 : Nat) : Int), .int .i64 0, .int .i64 0, .int .i64 0, .int .u32 0, .int .i64 0, .bool false, .slice none 0 0] 45) = y := ⟨_, rfl⟩
  rw [hw1] at n1 b1 ⊢
  clear hw1
  have lp : w.heap.size < v0.heap.size ∧ b < v0.heap.size := ⟨HT.out.2.1.lt, HT.out.1.c.2.2.2.2⟩
  obtain ⟨p, hp⟩ : ∃ y, v0.heap.size = y := ⟨_, rfl⟩
  rw [hp] at n1 lp ⊢
  have hG := HG.out
  have HS1 : Hid (RB w1 b (.slice (some ⟨g, adv o e, none⟩) 0 e) (x || !O0) ∧ Bk w1 w.heap.size #[.int .i64 0, .int .i64 0, .int .i64 0, .int .i64 0, .int .i64 0, .int .u32 0, .int .i64 0, .bool false, .slice none 0 0] 45 ∧ Bk w1 p #[.int .i64 2, .int .i64 ((V0 : Nat) : Int), .int .i64 0, .int .i64 0, .int .i64 0, .int .u32 0, .int .i64 0, .bool false, .slice none 0 0] 45 ∧ Off [b, w.heap.size, p] w w1) := by
    have R := HT.out.1.below b1
    exact ⟨R, HT.out.2.1.off (Off.of_below (l := []) b1) (by simp), n1, (HT.out.2.2.1.more (by simp)).trans (Off.of_below b1)⟩
  have HP : Hid (w.heap.size < p ∧ b < p ∧ g < p) := ⟨lp.1, lp.2, by omega⟩
  have HF1 : Hid (Off [b] w w1) := HT.out.2.2.2.trans (Off.of_below b1)
  clear n1 b1 lp hp hG HT
  refine (hU _).mono ?_
  rintro r w' ⟨rfl, hw⟩
  rw [hw]
  clear hw hU
  go_upto_region 18 with fail
  have p0 : w1.cell? ⟨p, 0, none⟩ = some (.int .i64 2) := HS1.out.2.2.1.cell 0
  have p1 : w1.cell? ⟨p, 1, none⟩ = some (.int .i64 ((V0 : Nat) : Int)) := HS1.out.2.2.1.cell 1
  have p2 : w1.cell? ⟨p, 2, none⟩ = some (.int .i64 0) := HS1.out.2.2.1.cell 2
  have p3 : w1.cell? ⟨p, 3, none⟩ = some (.int .i64 0) := HS1.out.2.2.1.cell 3
  have p4 : w1.cell? ⟨p, 4, none⟩ = some (.int .i64 0) := HS1.out.2.2.1.cell 4
  have p5 : w1.cell? ⟨p, 5, none⟩ = some (.int .u32 0) := HS1.out.2.2.1.cell 5
  have p6 : w1.cell? ⟨p, 6, none⟩ = some (.int .i64 0) := HS1.out.2.2.1.cell 6
  have p7 : w1.cell? ⟨p, 7, none⟩ = some (.bool false) := HS1.out.2.2.1.cell 7
  have p8 : w1.cell? ⟨p, 8, none⟩ = some (.slice none 0 0) := HS1.out.2.2.1.cell 8
  have q0 : w1.cell? ⟨w.heap.size, 0, none⟩ = some (.int .i64 0) := HS1.out.2.1.cell 0
  have q1 : w1.cell? ⟨w.heap.size, 1, none⟩ = some (.int .i64 0) := HS1.out.2.1.cell 1
  have q2 : w1.cell? ⟨w.heap.size, 2, none⟩ = some (.int .i64 0) := HS1.out.2.1.cell 2
  have q3 : w1.cell? ⟨w.heap.size, 3, none⟩ = some (.int .i64 0) := HS1.out.2.1.cell 3
  have q4 : w1.cell? ⟨w.heap.size, 4, none⟩ = some (.int .i64 0) := HS1.out.2.1.cell 4
  have q5 : w1.cell? ⟨w.heap.size, 5, none⟩ = some (.int .u32 0) := HS1.out.2.1.cell 5
  have q6 : w1.cell? ⟨w.heap.size, 6, none⟩ = some (.int .i64 0) := HS1.out.2.1.cell 6
  have q7 : w1.cell? ⟨w.heap.size, 7, none⟩ = some (.bool false) := HS1.out.2.1.cell 7
  have q8 : w1.cell? ⟨w.heap.size, 8, none⟩ = some (.slice none 0 0) := HS1.out.2.1.cell 8
  have fz := HS1.out.2.1.fz
  have HO : Hid (Off [w.heap.size] w1 (((((((((w1.setCell ⟨w.heap.size, 0, none⟩ (.int .i64 2)).setCell ⟨w.heap.size, 1, none⟩ (.int .i64 ((V0 : Nat) : Int))).setCell ⟨w.heap.size, 2, none⟩ (.int .i64 0)).setCell ⟨w.heap.size, 3, none⟩ (.int .i64 0)).setCell ⟨w.heap.size, 4, none⟩ (.int .i64 0)).setCell ⟨w.heap.size, 5, none⟩ (.int .u32 0)).setCell ⟨w.heap.size, 6, none⟩ (.int .i64 0)).setCell ⟨w.heap.size, 7, none⟩ (.bool false)).setCell ⟨w.heap.size, 8, none⟩ (.slice none 0 0))) := Off.trans (Off.trans (Off.trans (Off.trans (Off.trans (Off.trans (Off.trans (Off.trans (Off.trans (Off.refl [w.heap.size] w1) (Off.setCell w.heap.size 0 _ _)) (Off.setCell w.heap.size 1 _ _)) (Off.setCell w.heap.size 2 _ _)) (Off.setCell w.heap.size 3 _ _)) (Off.setCell w.heap.size 4 _ _)) (Off.setCell w.heap.size 5 _ _)) (Off.setCell w.heap.size 6 _ _)) (Off.setCell w.heap.size 7 _ _)) (Off.setCell w.heap.size 8 _ _)
  go_wp2_with fail
  refine bodyPost_ret (v := .agg #[.int .i64 2, .int .i64 ((V0 : Nat) : Int), .int .i64 0, .int .i64 0, .int .i64 0, .int .u32 0, .int .i64 0, .bool false, .slice none 0 0]) (by simp [results, Tryd.results42, go_sem, q0, q1, q2, q3, q4, q5, q6, q7, q8]) rfl ?_
  obtain ⟨w9, hw9⟩ : ∃ y, (((((((((w1.setCell ⟨w.heap.size, 0, none⟩ (.int .i64 2)).setCell ⟨w.heap.size, 1, none⟩ (.int .i64 ((V0 : Nat) : Int))).setCell ⟨w.heap.size, 2, none⟩ (.int .i64 0)).setCell ⟨w.heap.size, 3, none⟩ (.int .i64 0)).setCell ⟨w.heap.size, 4, none⟩ (.int .i64 0)).setCell ⟨w.heap.size, 5, none⟩ (.int .u32 0)).setCell ⟨w.heap.size, 6, none⟩ (.int .i64 0)).setCell ⟨w.heap.size, 7, none⟩ (.bool false)).setCell ⟨w.heap.size, 8, none⟩ (.slice none 0 0)) = y := ⟨_, rfl⟩
  rw [hw9] at HO ⊢
  clear hw9
  refine ⟨rfl, ⟨_, RB.off HS1.out.1 HO.out (by have := HG.out; simp; omega)⟩, ?_⟩
  exact HH.out.1 p _ (by have := HP.out; omega) (HS1.out.2.2.2.trans (HO.out.more (by simp)))
set_option maxHeartbeats 4000000 in
theorem pmv3 (b g o e : Nat) (x : Bool) (L : Nat → List UInt8) (hL : ∀ i, i < 3 → (L i).length ≤ 281474976710656) (w : World) (hLo : Lo b w) (hb : b ∉ [2, 0, 5, 6]) (h : RB w b (.slice (some ⟨g, o, none⟩) 3 (e + 3)) x) (hw : ∀ i, i < 3 → w.cell? ⟨g, o + i, none⟩ = some (.string (tx (L i)))) (hne : g ≠ b) (he : e + 3 ≤ 9223372036854775807) : Calls Tryd.prog 42 #[.pointer (some ⟨b, 0, none⟩), .int .i64 3] w fun r w' => r = .returned (.agg #[.int .i64 3, .int .i64 ((nmV (L 0) : Nat) : Int), .int .i64 (sdI (L 1)), .int .i64 ((nmV (L 2) : Nat) : Int), .int .i64 0, .int .u32 0, .int .i64 0, .bool false, .slice none 0 0]) ∧ (∃ v, RB w' b v (((x || !nmO (L 0)) || !(sdI (L 1) != 0)) || !nmO (L 2))) ∧ Off [b] w w' := by
  have hg : g < w.heap.size := World.block_lt_of_cell? w _ (hw 0 (by omega))
  have hbl := h.c.2.2.2.2
  have b2 := belA (Below.refl _ w) (.cells #[.int .i64 0, .int .i64 0, .int .i64 0, .int .i64 0, .int .i64 0, .int .u32 0, .int .i64 0, .bool false, .slice none 0 0] 45)
  have kz := Bk.new w #[.int .i64 0, .int .i64 0, .int .i64 0, .int .i64 0, .int .i64 0, .int .u32 0, .int .i64 0, .bool false, .slice none 0 0] 45
  obtain ⟨w0, hW⟩ : ∃ y, w.alloc (.cells #[.int .i64 0, .int .i64 0, .int .i64 0, .int .i64 0, .int .i64 0, .int .u32 0, .int .i64 0, .bool false, .slice none 0 0] 45) = y := ⟨_, rfl⟩
  rw [hW] at b2 kz
  have HS0 : Hid (_) := And.intro (h.below b2) (And.intro kz (Off.of_below (l := [b, w.heap.size]) b2))
  have HG : Hid (g < w.heap.size ∧ b < w.heap.size ∧ g ≠ b) := ⟨hg, hbl, hne⟩
  have HW : Hid (_) := And.intro hw (And.intro hL hLo)
  have hU := puses 3
  rw [show sided 3 = true from rfl] at hU
  obtain ⟨V0, hV0⟩ : ∃ y, nmV (L 0) = y := ⟨_, rfl⟩
  obtain ⟨O0, hO0⟩ : ∃ y, nmO (L 0) = y := ⟨_, rfl⟩
  have t0 : V0 < 4294967296 := by rw [← hV0]; exact nmV_lt _
  have e0 : IntKind.i64.wrap ((V0 : Nat) : Int) = ((V0 : Nat) : Int) := by rw [IntKind.wrap_i64]; omega
  obtain ⟨V1, hV1⟩ : ∃ y, (sdI (L 1)) = y := ⟨_, rfl⟩
  obtain ⟨O1, hO1⟩ : ∃ y, (sdI (L 1) != 0) = y := ⟨_, rfl⟩
  obtain ⟨V2, hV2⟩ : ∃ y, nmV (L 2) = y := ⟨_, rfl⟩
  obtain ⟨O2, hO2⟩ : ∃ y, nmO (L 2) = y := ⟨_, rfl⟩
  have t2 : V2 < 4294967296 := by rw [← hV2]; exact nmV_lt _
  have e2 : IntKind.i64.wrap ((V2 : Nat) : Int) = ((V2 : Nat) : Int) := by rw [IntKind.wrap_i64]; omega
  have HV0 : Hid (_) := And.intro hV0 hO0
  rw [hV0, hO0]
  have HV1 : Hid (_) := And.intro hV1 hO1
  rw [hO1, hV1]
  have HV2 : Hid (_) := And.intro hV2 hO2
  rw [hV2, hO2]
  have hoff : ∀ p wx, w.heap.size ≤ p → Off [b, w.heap.size, p] w wx → Off [b] w wx := fun p wx hp q => q.only (fun k hk hl => by simp at hk ⊢; omega)
  have hcell : ∀ wx, Off [b] w wx → ∀ i, i < 3 → wx.cell? ⟨g, o + i, none⟩ = some (.string (tx (L i))) := fun wx q i hi => by
    have hg := HG.out
    have he := q.block g hg.1 (by simp; omega)
    have := HW.out.1 i hi
    rw [← this]
    unfold World.cell?
    rw [he]
  have HH : Hid (_) := And.intro hoff hcell
  have HF0 : Hid (Off [b] w w0) := Off.of_below b2
  clear h b2 kz hw hL hLo hg hbl hne hoff hcell hV0 hO0 t0 hV1 hO1 hV2 hO2 t2
  have h1 : Calls Tryd.prog 56 #[.pointer (some ⟨b, 0, none⟩)] w0 fun r w' => r = .returned (.int .u32 ((V0 : Nat) : Int)) ∧ RB w' b (.slice (some ⟨g, adv o (e + 2), none⟩) 2 (e + 2)) (x || !O0) ∧ Off [b] w0 w' := by
    have := pnumO b g o 2 (e + 2) x (L 0) (HW.out.2.1 0 (by omega)) w0 (HW.out.2.2.off HF0.out) hb HS0.out.1 (HH.out.2 _ HF0.out 0 (by omega)) (by omega) (by omega)
    rw [HV0.out.1, HV0.out.2] at this
    exact this
  go_enter Tryd.func42, Tryd.ntmps42
  go_wp2_with fail
  try rw [hW]
  clear hW
  refine h1.mono ?_
  rintro r v0 ⟨rfl, r0, o0⟩
  have z0 := HS0.out.2.1.off o0 (by have := HG.out; simp; omega)
  have s0 := HS0.out.2.2.trans (o0.more (by simp))
  have HT : Hid (_) := And.intro r0 (And.intro z0 (And.intro s0 (HF0.out.trans o0)))
  clear h1 r0 o0 z0 s0
  go_wp2_with fail
  have n1 := Bk.new v0 #[.int .i64 3, .int .i64 ((V0 : Nat) : Int), .int .i64 0, .int .i64 0, .int .i64 0, .int .u32 0, .int .i64 0, .bool false, .slice none 0 0] 45
  have b1 := belA (Below.refl _ v0) (.cells #[.int .i64 3, .int .i64 ((V0 : Nat) : Int), .int .i64 0, .int .i64 0, .int .i64 0, .int .u32 0, .int .i64 0, .bool false, .slice none 0 0] 45)
  obtain ⟨w1, hw1⟩ : ∃ y, v0.alloc (.cells #[.int .i64 3, .int .i64 ((V0 : Nat) : Int), .int .i64 0, .int .i64 0, .int .i64 0, .int .u32 0, .int .i64 0, .bool false, .slice none 0 0] 45) = y := ⟨_, rfl⟩
  rw [hw1] at n1 b1 ⊢
  clear hw1
  have lp : w.heap.size < v0.heap.size ∧ b < v0.heap.size := ⟨HT.out.2.1.lt, HT.out.1.c.2.2.2.2⟩
  obtain ⟨p, hp⟩ : ∃ y, v0.heap.size = y := ⟨_, rfl⟩
  rw [hp] at n1 lp ⊢
  have hG := HG.out
  have HS1 : Hid (RB w1 b (.slice (some ⟨g, (o + 1), none⟩) 2 (e + 2)) (x || !O0) ∧ Bk w1 w.heap.size #[.int .i64 0, .int .i64 0, .int .i64 0, .int .i64 0, .int .i64 0, .int .u32 0, .int .i64 0, .bool false, .slice none 0 0] 45 ∧ Bk w1 p #[.int .i64 3, .int .i64 ((V0 : Nat) : Int), .int .i64 0, .int .i64 0, .int .i64 0, .int .u32 0, .int .i64 0, .bool false, .slice none 0 0] 45 ∧ Off [b, w.heap.size, p] w w1) := by
    have R := HT.out.1.below b1
    rw [adv_next (by omega)] at R
    exact ⟨R, HT.out.2.1.off (Off.of_below (l := []) b1) (by simp), n1, (HT.out.2.2.1.more (by simp)).trans (Off.of_below b1)⟩
  have HP : Hid (w.heap.size < p ∧ b < p ∧ g < p) := ⟨lp.1, lp.2, by omega⟩
  have HF1 : Hid (Off [b] w w1) := HT.out.2.2.2.trans (Off.of_below b1)
  clear n1 b1 lp hp hG HT
  have h2 : Calls Tryd.prog 57 #[.pointer (some ⟨b, 0, none⟩)] w1 fun r w' => r = .returned (.int .i64 V1) ∧ RB w' b (.slice (some ⟨g, adv (o + 1) (e + 1), none⟩) 1 (e + 1)) ((x || !O0) || !O1) ∧ Off [b] w1 w' := by
    have := psideR b g (o + 1) 1 (e + 1) (x || !O0) (L 1) w1 HS1.out.1 (HH.out.2 _ HF1.out 1 (by omega)) (by omega) (by omega)
    rw [HV1.out.2, HV1.out.1] at this
    exact this
  refine (hU _).mono ?_
  rintro r w' ⟨rfl, hw⟩
  rw [hw]
  clear hw hU
  go_wp2_with fail
  refine h2.mono ?_
  rintro r v1 ⟨rfl, r1, o1⟩
  have z1 := HS1.out.2.1.off o1 (by have := HG.out; simp; omega)
  have y1 := HS1.out.2.2.1.off o1 (by have := HP.out; simp; omega)
  have f1 := y1.fz
  have g1 : v1.cell? ⟨p, 2, none⟩ = some (.int .i64 0) := y1.cell 2
  obtain ⟨w2, hw2⟩ : ∃ y, v1.setCell ⟨p, 2, none⟩ (.int .i64 V1) = y := ⟨_, rfl⟩
  have HS2 : Hid (RB w2 b (.slice (some ⟨g, (o + 2), none⟩) 1 (e + 1)) ((x || !O0) || !O1) ∧ Bk w2 w.heap.size #[.int .i64 0, .int .i64 0, .int .i64 0, .int .i64 0, .int .i64 0, .int .u32 0, .int .i64 0, .bool false, .slice none 0 0] 45 ∧ Bk w2 p #[.int .i64 3, .int .i64 ((V0 : Nat) : Int), .int .i64 V1, .int .i64 0, .int .i64 0, .int .u32 0, .int .i64 0, .bool false, .slice none 0 0] 45 ∧ Off [b, w.heap.size, p] w w2) := by
    rw [← hw2]
    have hG := HG.out
    have hP := HP.out
    have os := Off.setCell p 2 v1 (.int .i64 V1)
    refine ⟨?_, z1.off os (by simp; omega), y1.set 2 _, (HS1.out.2.2.2.trans (o1.more (by simp))).trans (os.more (by simp))⟩
    have := RB.off r1 os (by simp; omega)
    rw [adv_next (by omega)] at this
    exact this
  have HF2 : Hid (Off [b] w w2) := HH.out.1 p _ (by have := HP.out; omega) HS2.out.2.2.2
  clear h2 r1 o1 z1 y1
  have h3 : Calls Tryd.prog 56 #[.pointer (some ⟨b, 0, none⟩)] w2 fun r w' => r = .returned (.int .u32 ((V2 : Nat) : Int)) ∧ RB w' b (.slice (some ⟨g, adv (o + 2) e, none⟩) 0 e) (((x || !O0) || !O1) || !O2) ∧ Off [b] w2 w' := by
    have := pnumO b g (o + 2) 0 e ((x || !O0) || !O1) (L 2) (HW.out.2.1 2 (by omega)) w2 (HW.out.2.2.off HF2.out) hb HS2.out.1 (HH.out.2 _ HF2.out 2 (by omega)) (by omega) (by omega)
    rw [HV2.out.1, HV2.out.2] at this
    exact this
  go_upto_region 4 with fail
  try rw [hw2]
  clear hw2 f1 g1
  go_wp2_with fail
  refine h3.mono ?_
  rintro r v2 ⟨rfl, r2, o2⟩
  have z2 := HS2.out.2.1.off o2 (by have := HG.out; simp; omega)
  have y2 := HS2.out.2.2.1.off o2 (by have := HP.out; simp; omega)
  have f2 := y2.fz
  have g2 : v2.cell? ⟨p, 3, none⟩ = some (.int .i64 0) := y2.cell 3
  obtain ⟨w3, hw3⟩ : ∃ y, v2.setCell ⟨p, 3, none⟩ (.int .i64 ((V2 : Nat) : Int)) = y := ⟨_, rfl⟩
  have HS3 : Hid (RB w3 b (.slice (some ⟨g, adv (o + 2) e, none⟩) 0 e) (((x || !O0) || !O1) || !O2) ∧ Bk w3 w.heap.size #[.int .i64 0, .int .i64 0, .int .i64 0, .int .i64 0, .int .i64 0, .int .u32 0, .int .i64 0, .bool false, .slice none 0 0] 45 ∧ Bk w3 p #[.int .i64 3, .int .i64 ((V0 : Nat) : Int), .int .i64 V1, .int .i64 ((V2 : Nat) : Int), .int .i64 0, .int .u32 0, .int .i64 0, .bool false, .slice none 0 0] 45 ∧ Off [b, w.heap.size, p] w w3) := by
    rw [← hw3]
    have hG := HG.out
    have hP := HP.out
    have os := Off.setCell p 3 v2 (.int .i64 ((V2 : Nat) : Int))
    refine ⟨?_, z2.off os (by simp; omega), y2.set 3 _, (HS2.out.2.2.2.trans (o2.more (by simp))).trans (os.more (by simp))⟩
    have := RB.off r2 os (by simp; omega)
    exact this
  have HF3 : Hid (Off [b] w w3) := HH.out.1 p _ (by have := HP.out; omega) HS3.out.2.2.2
  clear h3 r2 o2 z2 y2
  go_upto_region 18 with fail
  try rw [hw3]
  clear hw3 f2 g2
  have p0 : w3.cell? ⟨p, 0, none⟩ = some (.int .i64 3) := HS3.out.2.2.1.cell 0
  have p1 : w3.cell? ⟨p, 1, none⟩ = some (.int .i64 ((V0 : Nat) : Int)) := HS3.out.2.2.1.cell 1
  have p2 : w3.cell? ⟨p, 2, none⟩ = some (.int .i64 V1) := HS3.out.2.2.1.cell 2
  have p3 : w3.cell? ⟨p, 3, none⟩ = some (.int .i64 ((V2 : Nat) : Int)) := HS3.out.2.2.1.cell 3
  have p4 : w3.cell? ⟨p, 4, none⟩ = some (.int .i64 0) := HS3.out.2.2.1.cell 4
  have p5 : w3.cell? ⟨p, 5, none⟩ = some (.int .u32 0) := HS3.out.2.2.1.cell 5
  have p6 : w3.cell? ⟨p, 6, none⟩ = some (.int .i64 0) := HS3.out.2.2.1.cell 6
  have p7 : w3.cell? ⟨p, 7, none⟩ = some (.bool false) := HS3.out.2.2.1.cell 7
  have p8 : w3.cell? ⟨p, 8, none⟩ = some (.slice none 0 0) := HS3.out.2.2.1.cell 8
  have q0 : w3.cell? ⟨w.heap.size, 0, none⟩ = some (.int .i64 0) := HS3.out.2.1.cell 0
  have q1 : w3.cell? ⟨w.heap.size, 1, none⟩ = some (.int .i64 0) := HS3.out.2.1.cell 1
  have q2 : w3.cell? ⟨w.heap.size, 2, none⟩ = some (.int .i64 0) := HS3.out.2.1.cell 2
  have q3 : w3.cell? ⟨w.heap.size, 3, none⟩ = some (.int .i64 0) := HS3.out.2.1.cell 3
  have q4 : w3.cell? ⟨w.heap.size, 4, none⟩ = some (.int .i64 0) := HS3.out.2.1.cell 4
  have q5 : w3.cell? ⟨w.heap.size, 5, none⟩ = some (.int .u32 0) := HS3.out.2.1.cell 5
  have q6 : w3.cell? ⟨w.heap.size, 6, none⟩ = some (.int .i64 0) := HS3.out.2.1.cell 6
  have q7 : w3.cell? ⟨w.heap.size, 7, none⟩ = some (.bool false) := HS3.out.2.1.cell 7
  have q8 : w3.cell? ⟨w.heap.size, 8, none⟩ = some (.slice none 0 0) := HS3.out.2.1.cell 8
  have fz := HS3.out.2.1.fz
  have HO : Hid (Off [w.heap.size] w3 (((((((((w3.setCell ⟨w.heap.size, 0, none⟩ (.int .i64 3)).setCell ⟨w.heap.size, 1, none⟩ (.int .i64 ((V0 : Nat) : Int))).setCell ⟨w.heap.size, 2, none⟩ (.int .i64 V1)).setCell ⟨w.heap.size, 3, none⟩ (.int .i64 ((V2 : Nat) : Int))).setCell ⟨w.heap.size, 4, none⟩ (.int .i64 0)).setCell ⟨w.heap.size, 5, none⟩ (.int .u32 0)).setCell ⟨w.heap.size, 6, none⟩ (.int .i64 0)).setCell ⟨w.heap.size, 7, none⟩ (.bool false)).setCell ⟨w.heap.size, 8, none⟩ (.slice none 0 0))) := Off.trans (Off.trans (Off.trans (Off.trans (Off.trans (Off.trans (Off.trans (Off.trans (Off.trans (Off.refl [w.heap.size] w3) (Off.setCell w.heap.size 0 _ _)) (Off.setCell w.heap.size 1 _ _)) (Off.setCell w.heap.size 2 _ _)) (Off.setCell w.heap.size 3 _ _)) (Off.setCell w.heap.size 4 _ _)) (Off.setCell w.heap.size 5 _ _)) (Off.setCell w.heap.size 6 _ _)) (Off.setCell w.heap.size 7 _ _)) (Off.setCell w.heap.size 8 _ _)
  go_wp2_with fail
  refine bodyPost_ret (v := .agg #[.int .i64 3, .int .i64 ((V0 : Nat) : Int), .int .i64 V1, .int .i64 ((V2 : Nat) : Int), .int .i64 0, .int .u32 0, .int .i64 0, .bool false, .slice none 0 0]) (by simp [results, Tryd.results42, go_sem, q0, q1, q2, q3, q4, q5, q6, q7, q8]) rfl ?_
  obtain ⟨w9, hw9⟩ : ∃ y, (((((((((w3.setCell ⟨w.heap.size, 0, none⟩ (.int .i64 3)).setCell ⟨w.heap.size, 1, none⟩ (.int .i64 ((V0 : Nat) : Int))).setCell ⟨w.heap.size, 2, none⟩ (.int .i64 V1)).setCell ⟨w.heap.size, 3, none⟩ (.int .i64 ((V2 : Nat) : Int))).setCell ⟨w.heap.size, 4, none⟩ (.int .i64 0)).setCell ⟨w.heap.size, 5, none⟩ (.int .u32 0)).setCell ⟨w.heap.size, 6, none⟩ (.int .i64 0)).setCell ⟨w.heap.size, 7, none⟩ (.bool false)).setCell ⟨w.heap.size, 8, none⟩ (.slice none 0 0)) = y := ⟨_, rfl⟩
  rw [hw9] at HO ⊢
  clear hw9
  refine ⟨rfl, ⟨_, RB.off HS3.out.1 HO.out (by have := HG.out; simp; omega)⟩, ?_⟩
  exact HH.out.1 p _ (by have := HP.out; omega) (HS3.out.2.2.2.trans (HO.out.more (by simp)))
set_option maxHeartbeats 4000000 in
theorem pmv4 (b g o e : Nat) (x : Bool) (L : Nat → List UInt8) (hL : ∀ i, i < 5 → (L i).length ≤ 281474976710656) (w : World) (hLo : Lo b w) (hb : b ∉ [2, 0, 5, 6]) (h : RB w b (.slice (some ⟨g, o, none⟩) 5 (e + 5)) x) (hw : ∀ i, i < 5 → w.cell? ⟨g, o + i, none⟩ = some (.string (tx (L i)))) (hne : g ≠ b) (he : e + 5 ≤ 9223372036854775807) : Calls Tryd.prog 42 #[.pointer (some ⟨b, 0, none⟩), .int .i64 4] w fun r w' => r = .returned (.agg #[.int .i64 4, .int .i64 ((nmV (L 0) : Nat) : Int), .int .i64 (sdI (L 1)), .int .i64 ((nmV (L 2) : Nat) : Int), .int .i64 ((nmV (L 3) : Nat) : Int), .int .u32 ((nmV (L 4) : Nat) : Int), .int .i64 0, .bool false, .slice none 0 0]) ∧ (∃ v, RB w' b v (((((x || !nmO (L 0)) || !(sdI (L 1) != 0)) || !nmO (L 2)) || !nmO (L 3)) || !nmO (L 4))) ∧ Off [b] w w' := by
  have hg : g < w.heap.size := World.block_lt_of_cell? w _ (hw 0 (by omega))
  have hbl := h.c.2.2.2.2
  have b2 := belA (Below.refl _ w) (.cells #[.int .i64 0, .int .i64 0, .int .i64 0, .int .i64 0, .int .i64 0, .int .u32 0, .int .i64 0, .bool false, .slice none 0 0] 45)
  have kz := Bk.new w #[.int .i64 0, .int .i64 0, .int .i64 0, .int .i64 0, .int .i64 0, .int .u32 0, .int .i64 0, .bool false, .slice none 0 0] 45
  obtain ⟨w0, hW⟩ : ∃ y, w.alloc (.cells #[.int .i64 0, .int .i64 0, .int .i64 0, .int .i64 0, .int .i64 0, .int .u32 0, .int .i64 0, .bool false, .slice none 0 0] 45) = y := ⟨_, rfl⟩
  rw [hW] at b2 kz
  have HS0 : Hid (_) := And.intro (h.below b2) (And.intro kz (Off.of_below (l := [b, w.heap.size]) b2))
  have HG : Hid (g < w.heap.size ∧ b < w.heap.size ∧ g ≠ b) := ⟨hg, hbl, hne⟩
  have HW : Hid (_) := And.intro hw (And.intro hL hLo)
  have hU := puses 4
  rw [show sided 4 = true from rfl] at hU
  obtain ⟨V0, hV0⟩ : ∃ y, nmV (L 0) = y := ⟨_, rfl⟩
  obtain ⟨O0, hO0⟩ : ∃ y, nmO (L 0) = y := ⟨_, rfl⟩
  have t0 : V0 < 4294967296 := by rw [← hV0]; exact nmV_lt _
  have e0 : IntKind.i64.wrap ((V0 : Nat) : Int) = ((V0 : Nat) : Int) := by rw [IntKind.wrap_i64]; omega
  obtain ⟨V1, hV1⟩ : ∃ y, (sdI (L 1)) = y := ⟨_, rfl⟩
  obtain ⟨O1, hO1⟩ : ∃ y, (sdI (L 1) != 0) = y := ⟨_, rfl⟩
  obtain ⟨V2, hV2⟩ : ∃ y, nmV (L 2) = y := ⟨_, rfl⟩
  obtain ⟨O2, hO2⟩ : ∃ y, nmO (L 2) = y := ⟨_, rfl⟩
  have t2 : V2 < 4294967296 := by rw [← hV2]; exact nmV_lt _
  have e2 : IntKind.i64.wrap ((V2 : Nat) : Int) = ((V2 : Nat) : Int) := by rw [IntKind.wrap_i64]; omega
  obtain ⟨V3, hV3⟩ : ∃ y, nmV (L 3) = y := ⟨_, rfl⟩
  obtain ⟨O3, hO3⟩ : ∃ y, nmO (L 3) = y := ⟨_, rfl⟩
  have t3 : V3 < 4294967296 := by rw [← hV3]; exact nmV_lt _
  have e3 : IntKind.i64.wrap ((V3 : Nat) : Int) = ((V3 : Nat) : Int) := by rw [IntKind.wrap_i64]; omega
  obtain ⟨V4, hV4⟩ : ∃ y, nmV (L 4) = y := ⟨_, rfl⟩
  obtain ⟨O4, hO4⟩ : ∃ y, nmO (L 4) = y := ⟨_, rfl⟩
  have t4 : V4 < 4294967296 := by rw [← hV4]; exact nmV_lt _
  have HV0 : Hid (_) := And.intro hV0 hO0
  rw [hV0, hO0]
  have HV1 : Hid (_) := And.intro hV1 hO1
  rw [hO1, hV1]
  have HV2 : Hid (_) := And.intro hV2 hO2
  rw [hV2, hO2]
  have HV3 : Hid (_) := And.intro hV3 hO3
  rw [hV3, hO3]
  have HV4 : Hid (_) := And.intro hV4 hO4
  rw [hV4, hO4]
  have hoff : ∀ p wx, w.heap.size ≤ p → Off [b, w.heap.size, p] w wx → Off [b] w wx := fun p wx hp q => q.only (fun k hk hl => by simp at hk ⊢; omega)
  have hcell : ∀ wx, Off [b] w wx → ∀ i, i < 5 → wx.cell? ⟨g, o + i, none⟩ = some (.string (tx (L i))) := fun wx q i hi => by
    have hg := HG.out
    have he := q.block g hg.1 (by simp; omega)
    have := HW.out.1 i hi
    rw [← this]
    unfold World.cell?
    rw [he]
  have HH : Hid (_) := And.intro hoff hcell
  have HF0 : Hid (Off [b] w w0) := Off.of_below b2
  clear h b2 kz hw hL hLo hg hbl hne hoff hcell hV0 hO0 t0 hV1 hO1 hV2 hO2 t2 hV3 hO3 t3 hV4 hO4 t4
  have h1 : Calls Tryd.prog 56 #[.pointer (some ⟨b, 0, none⟩)] w0 fun r w' => r = .returned (.int .u32 ((V0 : Nat) : Int)) ∧ RB w' b (.slice (some ⟨g, adv o (e + 4), none⟩) 4 (e + 4)) (x || !O0) ∧ Off [b] w0 w' := by
    have := pnumO b g o 4 (e + 4) x (L 0) (HW.out.2.1 0 (by omega)) w0 (HW.out.2.2.off HF0.out) hb HS0.out.1 (HH.out.2 _ HF0.out 0 (by omega)) (by omega) (by omega)
    rw [HV0.out.1, HV0.out.2] at this
    exact this
  go_enter Tryd.func42, Tryd.ntmps42
  go_wp2_with fail
  try rw [hW]
  clear hW
  refine h1.mono ?_
  rintro r v0 ⟨rfl, r0, o0⟩
  have z0 := HS0.out.2.1.off o0 (by have := HG.out; simp; omega)
  have s0 := HS0.out.2.2.trans (o0.more (by simp))
  have HT : Hid (_) := And.intro r0 (And.intro z0 (And.intro s0 (HF0.out.trans o0)))
  clear h1 r0 o0 z0 s0
  go_wp2_with fail
  have n1 := Bk.new v0 #[.int .i64 4, .int .i64 ((V0 : Nat) : Int), .int .i64 0, .int .i64 0, .int .i64 0, .int .u32 0, .int .i64 0, .bool false, .slice none 0 0] 45
  have b1 := belA (Below.refl _ v0) (.cells #[.int .i64 4, .int .i64 ((V0 : Nat) : Int), .int .i64 0, .int .i64 0, .int .i64 0, .int .u32 0, .int .i64 0, .bool false, .slice none 0 0] 45)
  obtain ⟨w1, hw1⟩ : ∃ y, v0.alloc (.cells #[.int .i64 4, .int .i64 ((V0 : Nat) : Int), .int .i64 0, .int .i64 0, .int .i64 0, .int .u32 0, .int .i64 0, .bool false, .slice none 0 0] 45) = y := ⟨_, rfl⟩
  rw [hw1] at n1 b1 ⊢
  clear hw1
  have lp : w.heap.size < v0.heap.size ∧ b < v0.heap.size := ⟨HT.out.2.1.lt, HT.out.1.c.2.2.2.2⟩
  obtain ⟨p, hp⟩ : ∃ y, v0.heap.size = y := ⟨_, rfl⟩
  rw [hp] at n1 lp ⊢
  have hG := HG.out
  have HS1 : Hid (RB w1 b (.slice (some ⟨g, (o + 1), none⟩) 4 (e + 4)) (x || !O0) ∧ Bk w1 w.heap.size #[.int .i64 0, .int .i64 0, .int .i64 0, .int .i64 0, .int .i64 0, .int .u32 0, .int .i64 0, .bool false, .slice none 0 0] 45 ∧ Bk w1 p #[.int .i64 4, .int .i64 ((V0 : Nat) : Int), .int .i64 0, .int .i64 0, .int .i64 0, .int .u32 0, .int .i64 0, .bool false, .slice none 0 0] 45 ∧ Off [b, w.heap.size, p] w w1) := by
    have R := HT.out.1.below b1
    rw [adv_next (by omega)] at R
    exact ⟨R, HT.out.2.1.off (Off.of_below (l := []) b1) (by simp), n1, (HT.out.2.2.1.more (by simp)).trans (Off.of_below b1)⟩
  have HP : Hid (w.heap.size < p ∧ b < p ∧ g < p) := ⟨lp.1, lp.2, by omega⟩
  have HF1 : Hid (Off [b] w w1) := HT.out.2.2.2.trans (Off.of_below b1)
  clear n1 b1 lp hp hG HT
  have h2 : Calls Tryd.prog 57 #[.pointer (some ⟨b, 0, none⟩)] w1 fun r w' => r = .returned (.int .i64 V1) ∧ RB w' b (.slice (some ⟨g, adv (o + 1) (e + 3), none⟩) 3 (e + 3)) ((x || !O0) || !O1) ∧ Off [b] w1 w' := by
    have := psideR b g (o + 1) 3 (e + 3) (x || !O0) (L 1) w1 HS1.out.1 (HH.out.2 _ HF1.out 1 (by omega)) (by omega) (by omega)
    rw [HV1.out.2, HV1.out.1] at this
    exact this
  refine (hU _).mono ?_
  rintro r w' ⟨rfl, hw⟩
  rw [hw]
  clear hw hU
  go_wp2_with fail
  refine h2.mono ?_
  rintro r v1 ⟨rfl, r1, o1⟩
  have z1 := HS1.out.2.1.off o1 (by have := HG.out; simp; omega)
  have y1 := HS1.out.2.2.1.off o1 (by have := HP.out; simp; omega)
  have f1 := y1.fz
  have g1 : v1.cell? ⟨p, 2, none⟩ = some (.int .i64 0) := y1.cell 2
  obtain ⟨w2, hw2⟩ : ∃ y, v1.setCell ⟨p, 2, none⟩ (.int .i64 V1) = y := ⟨_, rfl⟩
  have HS2 : Hid (RB w2 b (.slice (some ⟨g, (o + 2), none⟩) 3 (e + 3)) ((x || !O0) || !O1) ∧ Bk w2 w.heap.size #[.int .i64 0, .int .i64 0, .int .i64 0, .int .i64 0, .int .i64 0, .int .u32 0, .int .i64 0, .bool false, .slice none 0 0] 45 ∧ Bk w2 p #[.int .i64 4, .int .i64 ((V0 : Nat) : Int), .int .i64 V1, .int .i64 0, .int .i64 0, .int .u32 0, .int .i64 0, .bool false, .slice none 0 0] 45 ∧ Off [b, w.heap.size, p] w w2) := by
    rw [← hw2]
    have hG := HG.out
    have hP := HP.out
    have os := Off.setCell p 2 v1 (.int .i64 V1)
    refine ⟨?_, z1.off os (by simp; omega), y1.set 2 _, (HS1.out.2.2.2.trans (o1.more (by simp))).trans (os.more (by simp))⟩
    have := RB.off r1 os (by simp; omega)
    rw [adv_next (by omega)] at this
    exact this
  have HF2 : Hid (Off [b] w w2) := HH.out.1 p _ (by have := HP.out; omega) HS2.out.2.2.2
  clear h2 r1 o1 z1 y1
  have h3 : Calls Tryd.prog 56 #[.pointer (some ⟨b, 0, none⟩)] w2 fun r w' => r = .returned (.int .u32 ((V2 : Nat) : Int)) ∧ RB w' b (.slice (some ⟨g, adv (o + 2) (e + 2), none⟩) 2 (e + 2)) (((x || !O0) || !O1) || !O2) ∧ Off [b] w2 w' := by
    have := pnumO b g (o + 2) 2 (e + 2) ((x || !O0) || !O1) (L 2) (HW.out.2.1 2 (by omega)) w2 (HW.out.2.2.off HF2.out) hb HS2.out.1 (HH.out.2 _ HF2.out 2 (by omega)) (by omega) (by omega)
    rw [HV2.out.1, HV2.out.2] at this
    exact this
  go_upto_region 4 with fail
  try rw [hw2]
  clear hw2 f1 g1
  go_wp2_with fail
  refine h3.mono ?_
  rintro r v2 ⟨rfl, r2, o2⟩
  have z2 := HS2.out.2.1.off o2 (by have := HG.out; simp; omega)
  have y2 := HS2.out.2.2.1.off o2 (by have := HP.out; simp; omega)
  have f2 := y2.fz
  have g2 : v2.cell? ⟨p, 3, none⟩ = some (.int .i64 0) := y2.cell 3
  obtain ⟨w3, hw3⟩ : ∃ y, v2.setCell ⟨p, 3, none⟩ (.int .i64 ((V2 : Nat) : Int)) = y := ⟨_, rfl⟩
  have HS3 : Hid (RB w3 b (.slice (some ⟨g, (o + 3), none⟩) 2 (e + 2)) (((x || !O0) || !O1) || !O2) ∧ Bk w3 w.heap.size #[.int .i64 0, .int .i64 0, .int .i64 0, .int .i64 0, .int .i64 0, .int .u32 0, .int .i64 0, .bool false, .slice none 0 0] 45 ∧ Bk w3 p #[.int .i64 4, .int .i64 ((V0 : Nat) : Int), .int .i64 V1, .int .i64 ((V2 : Nat) : Int), .int .i64 0, .int .u32 0, .int .i64 0, .bool false, .slice none 0 0] 45 ∧ Off [b, w.heap.size, p] w w3) := by
    rw [← hw3]
    have hG := HG.out
    have hP := HP.out
    have os := Off.setCell p 3 v2 (.int .i64 ((V2 : Nat) : Int))
    refine ⟨?_, z2.off os (by simp; omega), y2.set 3 _, (HS2.out.2.2.2.trans (o2.more (by simp))).trans (os.more (by simp))⟩
    have := RB.off r2 os (by simp; omega)
    rw [adv_next (by omega)] at this
    exact this
  have HF3 : Hid (Off [b] w w3) := HH.out.1 p _ (by have := HP.out; omega) HS3.out.2.2.2
  clear h3 r2 o2 z2 y2
  have h4 : Calls Tryd.prog 56 #[.pointer (some ⟨b, 0, none⟩)] w3 fun r w' => r = .returned (.int .u32 ((V3 : Nat) : Int)) ∧ RB w' b (.slice (some ⟨g, adv (o + 3) (e + 1), none⟩) 1 (e + 1)) ((((x || !O0) || !O1) || !O2) || !O3) ∧ Off [b] w3 w' := by
    have := pnumO b g (o + 3) 1 (e + 1) (((x || !O0) || !O1) || !O2) (L 3) (HW.out.2.1 3 (by omega)) w3 (HW.out.2.2.off HF3.out) hb HS3.out.1 (HH.out.2 _ HF3.out 3 (by omega)) (by omega) (by omega)
    rw [HV3.out.1, HV3.out.2] at this
    exact this
  go_upto_region 12 with fail
  try rw [hw3]
  clear hw3 f2 g2
  go_wp2_with fail
  refine h4.mono ?_
  rintro r v3 ⟨rfl, r3, o3⟩
  have z3 := HS3.out.2.1.off o3 (by have := HG.out; simp; omega)
  have y3 := HS3.out.2.2.1.off o3 (by have := HP.out; simp; omega)
  have f3 := y3.fz
  have g3 : v3.cell? ⟨p, 4, none⟩ = some (.int .i64 0) := y3.cell 4
  obtain ⟨w4, hw4⟩ : ∃ y, v3.setCell ⟨p, 4, none⟩ (.int .i64 ((V3 : Nat) : Int)) = y := ⟨_, rfl⟩
  have HS4 : Hid (RB w4 b (.slice (some ⟨g, (o + 4), none⟩) 1 (e + 1)) ((((x || !O0) || !O1) || !O2) || !O3) ∧ Bk w4 w.heap.size #[.int .i64 0, .int .i64 0, .int .i64 0, .int .i64 0, .int .i64 0, .int .u32 0, .int .i64 0, .bool false, .slice none 0 0] 45 ∧ Bk w4 p #[.int .i64 4, .int .i64 ((V0 : Nat) : Int), .int .i64 V1, .int .i64 ((V2 : Nat) : Int), .int .i64 ((V3 : Nat) : Int), .int .u32 0, .int .i64 0, .bool false, .slice none 0 0] 45 ∧ Off [b, w.heap.size, p] w w4) := by
    rw [← hw4]
    have hG := HG.out
    have hP := HP.out
    have os := Off.setCell p 4 v3 (.int .i64 ((V3 : Nat) : Int))
    refine ⟨?_, z3.off os (by simp; omega), y3.set 4 _, (HS3.out.2.2.2.trans (o3.more (by simp))).trans (os.more (by simp))⟩
    have := RB.off r3 os (by simp; omega)
    rw [adv_next (by omega)] at this
    exact this
  have HF4 : Hid (Off [b] w w4) := HH.out.1 p _ (by have := HP.out; omega) HS4.out.2.2.2
  clear h4 r3 o3 z3 y3
  have h5 : Calls Tryd.prog 56 #[.pointer (some ⟨b, 0, none⟩)] w4 fun r w' => r = .returned (.int .u32 ((V4 : Nat) : Int)) ∧ RB w' b (.slice (some ⟨g, adv (o + 4) e, none⟩) 0 e) (((((x || !O0) || !O1) || !O2) || !O3) || !O4) ∧ Off [b] w4 w' := by
    have := pnumO b g (o + 4) 0 e ((((x || !O0) || !O1) || !O2) || !O3) (L 4) (HW.out.2.1 4 (by omega)) w4 (HW.out.2.2.off HF4.out) hb HS4.out.1 (HH.out.2 _ HF4.out 4 (by omega)) (by omega) (by omega)
    rw [HV4.out.1, HV4.out.2] at this
    exact this
  go_upto_region 13 with fail
  try rw [hw4]
  clear hw4 f3 g3
  go_wp2_with fail
  refine h5.mono ?_
  rintro r v4 ⟨rfl, r4, o4⟩
  have z4 := HS4.out.2.1.off o4 (by have := HG.out; simp; omega)
  have y4 := HS4.out.2.2.1.off o4 (by have := HP.out; simp; omega)
  have f4 := y4.fz
  have g4 : v4.cell? ⟨p, 5, none⟩ = some (.int .u32 0) := y4.cell 5
  obtain ⟨w5, hw5⟩ : ∃ y, v4.setCell ⟨p, 5, none⟩ (.int .u32 ((V4 : Nat) : Int)) = y := ⟨_, rfl⟩
  have HS5 : Hid (RB w5 b (.slice (some ⟨g, adv (o + 4) e, none⟩) 0 e) (((((x || !O0) || !O1) || !O2) || !O3) || !O4) ∧ Bk w5 w.heap.size #[.int .i64 0, .int .i64 0, .int .i64 0, .int .i64 0, .int .i64 0, .int .u32 0, .int .i64 0, .bool false, .slice none 0 0] 45 ∧ Bk w5 p #[.int .i64 4, .int .i64 ((V0 : Nat) : Int), .int .i64 V1, .int .i64 ((V2 : Nat) : Int), .int .i64 ((V3 : Nat) : Int), .int .u32 ((V4 : Nat) : Int), .int .i64 0, .bool false, .slice none 0 0] 45 ∧ Off [b, w.heap.size, p] w w5) := by
    rw [← hw5]
    have hG := HG.out
    have hP := HP.out
    have os := Off.setCell p 5 v4 (.int .u32 ((V4 : Nat) : Int))
    refine ⟨?_, z4.off os (by simp; omega), y4.set 5 _, (HS4.out.2.2.2.trans (o4.more (by simp))).trans (os.more (by simp))⟩
    have := RB.off r4 os (by simp; omega)
    exact this
  have HF5 : Hid (Off [b] w w5) := HH.out.1 p _ (by have := HP.out; omega) HS5.out.2.2.2
  clear h5 r4 o4 z4 y4
  go_upto_region 18 with fail
  try rw [hw5]
  clear hw5 f4 g4
  have p0 : w5.cell? ⟨p, 0, none⟩ = some (.int .i64 4) := HS5.out.2.2.1.cell 0
  have p1 : w5.cell? ⟨p, 1, none⟩ = some (.int .i64 ((V0 : Nat) : Int)) := HS5.out.2.2.1.cell 1
  have p2 : w5.cell? ⟨p, 2, none⟩ = some (.int .i64 V1) := HS5.out.2.2.1.cell 2
  have p3 : w5.cell? ⟨p, 3, none⟩ = some (.int .i64 ((V2 : Nat) : Int)) := HS5.out.2.2.1.cell 3
  have p4 : w5.cell? ⟨p, 4, none⟩ = some (.int .i64 ((V3 : Nat) : Int)) := HS5.out.2.2.1.cell 4
  have p5 : w5.cell? ⟨p, 5, none⟩ = some (.int .u32 ((V4 : Nat) : Int)) := HS5.out.2.2.1.cell 5
  have p6 : w5.cell? ⟨p, 6, none⟩ = some (.int .i64 0) := HS5.out.2.2.1.cell 6
  have p7 : w5.cell? ⟨p, 7, none⟩ = some (.bool false) := HS5.out.2.2.1.cell 7
  have p8 : w5.cell? ⟨p, 8, none⟩ = some (.slice none 0 0) := HS5.out.2.2.1.cell 8
  have q0 : w5.cell? ⟨w.heap.size, 0, none⟩ = some (.int .i64 0) := HS5.out.2.1.cell 0
  have q1 : w5.cell? ⟨w.heap.size, 1, none⟩ = some (.int .i64 0) := HS5.out.2.1.cell 1
  have q2 : w5.cell? ⟨w.heap.size, 2, none⟩ = some (.int .i64 0) := HS5.out.2.1.cell 2
  have q3 : w5.cell? ⟨w.heap.size, 3, none⟩ = some (.int .i64 0) := HS5.out.2.1.cell 3
  have q4 : w5.cell? ⟨w.heap.size, 4, none⟩ = some (.int .i64 0) := HS5.out.2.1.cell 4
  have q5 : w5.cell? ⟨w.heap.size, 5, none⟩ = some (.int .u32 0) := HS5.out.2.1.cell 5
  have q6 : w5.cell? ⟨w.heap.size, 6, none⟩ = some (.int .i64 0) := HS5.out.2.1.cell 6
  have q7 : w5.cell? ⟨w.heap.size, 7, none⟩ = some (.bool false) := HS5.out.2.1.cell 7
  have q8 : w5.cell? ⟨w.heap.size, 8, none⟩ = some (.slice none 0 0) := HS5.out.2.1.cell 8
  have fz := HS5.out.2.1.fz
  have HO : Hid (Off [w.heap.size] w5 (((((((((w5.setCell ⟨w.heap.size, 0, none⟩ (.int .i64 4)).setCell ⟨w.heap.size, 1, none⟩ (.int .i64 ((V0 : Nat) : Int))).setCell ⟨w.heap.size, 2, none⟩ (.int .i64 V1)).setCell ⟨w.heap.size, 3, none⟩ (.int .i64 ((V2 : Nat) : Int))).setCell ⟨w.heap.size, 4, none⟩ (.int .i64 ((V3 : Nat) : Int))).setCell ⟨w.heap.size, 5, none⟩ (.int .u32 ((V4 : Nat) : Int))).setCell ⟨w.heap.size, 6, none⟩ (.int .i64 0)).setCell ⟨w.heap.size, 7, none⟩ (.bool false)).setCell ⟨w.heap.size, 8, none⟩ (.slice none 0 0))) := Off.trans (Off.trans (Off.trans (Off.trans (Off.trans (Off.trans (Off.trans (Off.trans (Off.trans (Off.refl [w.heap.size] w5) (Off.setCell w.heap.size 0 _ _)) (Off.setCell w.heap.size 1 _ _)) (Off.setCell w.heap.size 2 _ _)) (Off.setCell w.heap.size 3 _ _)) (Off.setCell w.heap.size 4 _ _)) (Off.setCell w.heap.size 5 _ _)) (Off.setCell w.heap.size 6 _ _)) (Off.setCell w.heap.size 7 _ _)) (Off.setCell w.heap.size 8 _ _)
  go_wp2_with fail
  refine bodyPost_ret (v := .agg #[.int .i64 4, .int .i64 ((V0 : Nat) : Int), .int .i64 V1, .int .i64 ((V2 : Nat) : Int), .int .i64 ((V3 : Nat) : Int), .int .u32 ((V4 : Nat) : Int), .int .i64 0, .bool false, .slice none 0 0]) (by simp [results, Tryd.results42, go_sem, q0, q1, q2, q3, q4, q5, q6, q7, q8]) rfl ?_
  obtain ⟨w9, hw9⟩ : ∃ y, (((((((((w5.setCell ⟨w.heap.size, 0, none⟩ (.int .i64 4)).setCell ⟨w.heap.size, 1, none⟩ (.int .i64 ((V0 : Nat) : Int))).setCell ⟨w.heap.size, 2, none⟩ (.int .i64 V1)).setCell ⟨w.heap.size, 3, none⟩ (.int .i64 ((V2 : Nat) : Int))).setCell ⟨w.heap.size, 4, none⟩ (.int .i64 ((V3 : Nat) : Int))).setCell ⟨w.heap.size, 5, none⟩ (.int .u32 ((V4 : Nat) : Int))).setCell ⟨w.heap.size, 6, none⟩ (.int .i64 0)).setCell ⟨w.heap.size, 7, none⟩ (.bool false)).setCell ⟨w.heap.size, 8, none⟩ (.slice none 0 0)) = y := ⟨_, rfl⟩
  rw [hw9] at HO ⊢
  clear hw9
  refine ⟨rfl, ⟨_, RB.off HS5.out.1 HO.out (by have := HG.out; simp; omega)⟩, ?_⟩
  exact HH.out.1 p _ (by have := HP.out; omega) (HS5.out.2.2.2.trans (HO.out.more (by simp)))
set_option maxHeartbeats 4000000 in
theorem pmv5 (b g o e : Nat) (x : Bool) (L : Nat → List UInt8) (hL : ∀ i, i < 3 → (L i).length ≤ 281474976710656) (w : World) (hLo : Lo b w) (hb : b ∉ [2, 0, 5, 6]) (h : RB w b (.slice (some ⟨g, o, none⟩) 3 (e + 3)) x) (hw : ∀ i, i < 3 → w.cell? ⟨g, o + i, none⟩ = some (.string (tx (L i)))) (hne : g ≠ b) (he : e + 3 ≤ 9223372036854775807) : Calls Tryd.prog 42 #[.pointer (some ⟨b, 0, none⟩), .int .i64 5] w fun r w' => r = .returned (.agg #[.int .i64 5, .int .i64 ((nmV (L 0) : Nat) : Int), .int .i64 (sdI (L 1)), .int .i64 0, .int .i64 0, .int .u32 0, .int .i64 ((nmV (L 2) : Nat) : Int), .bool false, .slice none 0 0]) ∧ (∃ v, RB w' b v (((x || !nmO (L 0)) || !(sdI (L 1) != 0)) || !nmO (L 2))) ∧ Off [b] w w' := by
  have hg : g < w.heap.size := World.block_lt_of_cell? w _ (hw 0 (by omega))
  have hbl := h.c.2.2.2.2
  have b2 := belA (Below.refl _ w) (.cells #[.int .i64 0, .int .i64 0, .int .i64 0, .int .i64 0, .int .i64 0, .int .u32 0, .int .i64 0, .bool false, .slice none 0 0] 45)
  have kz := Bk.new w #[.int .i64 0, .int .i64 0, .int .i64 0, .int .i64 0, .int .i64 0, .int .u32 0, .int .i64 0, .bool false, .slice none 0 0] 45
  obtain ⟨w0, hW⟩ : ∃ y, w.alloc (.cells #[.int .i64 0, .int .i64 0, .int .i64 0, .int .i64 0, .int .i64 0, .int .u32 0, .int .i64 0, .bool false, .slice none 0 0] 45) = y := ⟨_, rfl⟩
  rw [hW] at b2 kz
  have HS0 : Hid (_) := And.intro (h.below b2) (And.intro kz (Off.of_below (l := [b, w.heap.size]) b2))
  have HG : Hid (g < w.heap.size ∧ b < w.heap.size ∧ g ≠ b) := ⟨hg, hbl, hne⟩
  have HW : Hid (_) := And.intro hw (And.intro hL hLo)
  have hU := puses 5
  rw [show sided 5 = true from rfl] at hU
  obtain ⟨V0, hV0⟩ : ∃ y, nmV (L 0) = y := ⟨_, rfl⟩
  obtain ⟨O0, hO0⟩ : ∃ y, nmO (L 0) = y := ⟨_, rfl⟩
  have t0 : V0 < 4294967296 := by rw [← hV0]; exact nmV_lt _
  have e0 : IntKind.i64.wrap ((V0 : Nat) : Int) = ((V0 : Nat) : Int) := by rw [IntKind.wrap_i64]; omega
  obtain ⟨V1, hV1⟩ : ∃ y, (sdI (L 1)) = y := ⟨_, rfl⟩
  obtain ⟨O1, hO1⟩ : ∃ y, (sdI (L 1) != 0) = y := ⟨_, rfl⟩
  obtain ⟨V2, hV2⟩ : ∃ y, nmV (L 2) = y := ⟨_, rfl⟩
  obtain ⟨O2, hO2⟩ : ∃ y, nmO (L 2) = y := ⟨_, rfl⟩
  have t2 : V2 < 4294967296 := by rw [← hV2]; exact nmV_lt _
  have e2 : IntKind.i64.wrap ((V2 : Nat) : Int) = ((V2 : Nat) : Int) := by rw [IntKind.wrap_i64]; omega
  have HV0 : Hid (_) := And.intro hV0 hO0
  rw [hV0, hO0]
  have HV1 : Hid (_) := And.intro hV1 hO1
  rw [hO1, hV1]
  have HV2 : Hid (_) := And.intro hV2 hO2
  rw [hV2, hO2]
  have hoff : ∀ p wx, w.heap.size ≤ p → Off [b, w.heap.size, p] w wx → Off [b] w wx := fun p wx hp q => q.only (fun k hk hl => by simp at hk ⊢; omega)
  have hcell : ∀ wx, Off [b] w wx → ∀ i, i < 3 → wx.cell? ⟨g, o + i, none⟩ = some (.string (tx (L i))) := fun wx q i hi => by
    have hg := HG.out
    have he := q.block g hg.1 (by simp; omega)
    have := HW.out.1 i hi
    rw [← this]
    unfold World.cell?
    rw [he]
  have HH : Hid (_) := And.intro hoff hcell
  have HF0 : Hid (Off [b] w w0) := Off.of_below b2
  clear h b2 kz hw hL hLo hg hbl hne hoff hcell hV0 hO0 t0 hV1 hO1 hV2 hO2 t2
  have h1 : Calls Tryd.prog 56 #[.pointer (some ⟨b, 0, none⟩)] w0 fun r w' => r = .returned (.int .u32 ((V0 : Nat) : Int)) ∧ RB w' b (.slice (some ⟨g, adv o (e + 2), none⟩) 2 (e + 2)) (x || !O0) ∧ Off [b] w0 w' := by
    have := pnumO b g o 2 (e + 2) x (L 0) (HW.out.2.1 0 (by omega)) w0 (HW.out.2.2.off HF0.out) hb HS0.out.1 (HH.out.2 _ HF0.out 0 (by omega)) (by omega) (by omega)
    rw [HV0.out.1, HV0.out.2] at this
    exact this
  go_enter Tryd.func42, Tryd.ntmps42
  go_wp2_with fail
  try rw [hW]
  clear hW
  refine h1.mono ?_
  rintro r v0 ⟨rfl, r0, o0⟩
  have z0 := HS0.out.2.1.off o0 (by have := HG.out; simp; omega)
  have s0 := HS0.out.2.2.trans (o0.more (by simp))
  have HT : Hid (_) := And.intro r0 (And.intro z0 (And.intro s0 (HF0.out.trans o0)))
  clear h1 r0 o0 z0 s0
  go_wp2_with fail
  have n1 := Bk.new v0 #[.int .i64 5, .int .i64 ((V0 : Nat) : Int), .int .i64 0, .int .i64 0, .int .i64 0, .int .u32 0, .int .i64 0, .bool false, .slice none 0 0] 45
  have b1 := belA (Below.refl _ v0) (.cells #[.int .i64 5, .int .i64 ((V0 : Nat) : Int), .int .i64 0, .int .i64 0, .int .i64 0, .int .u32 0, .int .i64 0, .bool false, .slice none 0 0] 45)
  obtain ⟨w1, hw1⟩ : ∃ y, v0.alloc (.cells #[.int .i64 5, .int .i64 ((V0 : Nat) : Int), .int .i64 0, .int .i64 0, .int .i64 0, .int .u32 0, .int .i64 0, .bool false, .slice none 0 0] 45) = y := ⟨_, rfl⟩
  rw [hw1] at n1 b1 ⊢
  clear hw1
  have lp : w.heap.size < v0.heap.size ∧ b < v0.heap.size := ⟨HT.out.2.1.lt, HT.out.1.c.2.2.2.2⟩
  obtain ⟨p, hp⟩ : ∃ y, v0.heap.size = y := ⟨_, rfl⟩
  rw [hp] at n1 lp ⊢
  have hG := HG.out
  have HS1 : Hid (RB w1 b (.slice (some ⟨g, (o + 1), none⟩) 2 (e + 2)) (x || !O0) ∧ Bk w1 w.heap.size #[.int .i64 0, .int .i64 0, .int .i64 0, .int .i64 0, .int .i64 0, .int .u32 0, .int .i64 0, .bool false, .slice none 0 0] 45 ∧ Bk w1 p #[.int .i64 5, .int .i64 ((V0 : Nat) : Int), .int .i64 0, .int .i64 0, .int .i64 0, .int .u32 0, .int .i64 0, .bool false, .slice none 0 0] 45 ∧ Off [b, w.heap.size, p] w w1) := by
    have R := HT.out.1.below b1
    rw [adv_next (by omega)] at R
    exact ⟨R, HT.out.2.1.off (Off.of_below (l := []) b1) (by simp), n1, (HT.out.2.2.1.more (by simp)).trans (Off.of_below b1)⟩
  have HP : Hid (w.heap.size < p ∧ b < p ∧ g < p) := ⟨lp.1, lp.2, by omega⟩
  have HF1 : Hid (Off [b] w w1) := HT.out.2.2.2.trans (Off.of_below b1)
  clear n1 b1 lp hp hG HT
  have h2 : Calls Tryd.prog 57 #[.pointer (some ⟨b, 0, none⟩)] w1 fun r w' => r = .returned (.int .i64 V1) ∧ RB w' b (.slice (some ⟨g, adv (o + 1) (e + 1), none⟩) 1 (e + 1)) ((x || !O0) || !O1) ∧ Off [b] w1 w' := by
    have := psideR b g (o + 1) 1 (e + 1) (x || !O0) (L 1) w1 HS1.out.1 (HH.out.2 _ HF1.out 1 (by omega)) (by omega) (by omega)
    rw [HV1.out.2, HV1.out.1] at this
    exact this
  refine (hU _).mono ?_
  rintro r w' ⟨rfl, hw⟩
  rw [hw]
  clear hw hU
  go_wp2_with fail
  refine h2.mono ?_
  rintro r v1 ⟨rfl, r1, o1⟩
  have z1 := HS1.out.2.1.off o1 (by have := HG.out; simp; omega)
  have y1 := HS1.out.2.2.1.off o1 (by have := HP.out; simp; omega)
  have f1 := y1.fz
  have g1 : v1.cell? ⟨p, 2, none⟩ = some (.int .i64 0) := y1.cell 2
  obtain ⟨w2, hw2⟩ : ∃ y, v1.setCell ⟨p, 2, none⟩ (.int .i64 V1) = y := ⟨_, rfl⟩
  have HS2 : Hid (RB w2 b (.slice (some ⟨g, (o + 2), none⟩) 1 (e + 1)) ((x || !O0) || !O1) ∧ Bk w2 w.heap.size #[.int .i64 0, .int .i64 0, .int .i64 0, .int .i64 0, .int .i64 0, .int .u32 0, .int .i64 0, .bool false, .slice none 0 0] 45 ∧ Bk w2 p #[.int .i64 5, .int .i64 ((V0 : Nat) : Int), .int .i64 V1, .int .i64 0, .int .i64 0, .int .u32 0, .int .i64 0, .bool false, .slice none 0 0] 45 ∧ Off [b, w.heap.size, p] w w2) := by
    rw [← hw2]
    have hG := HG.out
    have hP := HP.out
    have os := Off.setCell p 2 v1 (.int .i64 V1)
    refine ⟨?_, z1.off os (by simp; omega), y1.set 2 _, (HS1.out.2.2.2.trans (o1.more (by simp))).trans (os.more (by simp))⟩
    have := RB.off r1 os (by simp; omega)
    rw [adv_next (by omega)] at this
    exact this
  have HF2 : Hid (Off [b] w w2) := HH.out.1 p _ (by have := HP.out; omega) HS2.out.2.2.2
  clear h2 r1 o1 z1 y1
  have h3 : Calls Tryd.prog 56 #[.pointer (some ⟨b, 0, none⟩)] w2 fun r w' => r = .returned (.int .u32 ((V2 : Nat) : Int)) ∧ RB w' b (.slice (some ⟨g, adv (o + 2) e, none⟩) 0 e) (((x || !O0) || !O1) || !O2) ∧ Off [b] w2 w' := by
    have := pnumO b g (o + 2) 0 e ((x || !O0) || !O1) (L 2) (HW.out.2.1 2 (by omega)) w2 (HW.out.2.2.off HF2.out) hb HS2.out.1 (HH.out.2 _ HF2.out 2 (by omega)) (by omega) (by omega)
    rw [HV2.out.1, HV2.out.2] at this
    exact this
  go_upto_region 4 with fail
  try rw [hw2]
  clear hw2 f1 g1
  go_wp2_with fail
  refine h3.mono ?_
  rintro r v2 ⟨rfl, r2, o2⟩
  have z2 := HS2.out.2.1.off o2 (by have := HG.out; simp; omega)
  have y2 := HS2.out.2.2.1.off o2 (by have := HP.out; simp; omega)
  have f2 := y2.fz
  have g2 : v2.cell? ⟨p, 6, none⟩ = some (.int .i64 0) := y2.cell 6
  obtain ⟨w3, hw3⟩ : ∃ y, v2.setCell ⟨p, 6, none⟩ (.int .i64 ((V2 : Nat) : Int)) = y := ⟨_, rfl⟩
  have HS3 : Hid (RB w3 b (.slice (some ⟨g, adv (o + 2) e, none⟩) 0 e) (((x || !O0) || !O1) || !O2) ∧ Bk w3 w.heap.size #[.int .i64 0, .int .i64 0, .int .i64 0, .int .i64 0, .int .i64 0, .int .u32 0, .int .i64 0, .bool false, .slice none 0 0] 45 ∧ Bk w3 p #[.int .i64 5, .int .i64 ((V0 : Nat) : Int), .int .i64 V1, .int .i64 0, .int .i64 0, .int .u32 0, .int .i64 ((V2 : Nat) : Int), .bool false, .slice none 0 0] 45 ∧ Off [b, w.heap.size, p] w w3) := by
    rw [← hw3]
    have hG := HG.out
    have hP := HP.out
    have os := Off.setCell p 6 v2 (.int .i64 ((V2 : Nat) : Int))
    refine ⟨?_, z2.off os (by simp; omega), y2.set 6 _, (HS2.out.2.2.2.trans (o2.more (by simp))).trans (os.more (by simp))⟩
    have := RB.off r2 os (by simp; omega)
    exact this
  have HF3 : Hid (Off [b] w w3) := HH.out.1 p _ (by have := HP.out; omega) HS3.out.2.2.2
  clear h3 r2 o2 z2 y2
  go_upto_region 18 with fail
  try rw [hw3]
  clear hw3 f2 g2
  have p0 : w3.cell? ⟨p, 0, none⟩ = some (.int .i64 5) := HS3.out.2.2.1.cell 0
  have p1 : w3.cell? ⟨p, 1, none⟩ = some (.int .i64 ((V0 : Nat) : Int)) := HS3.out.2.2.1.cell 1
  have p2 : w3.cell? ⟨p, 2, none⟩ = some (.int .i64 V1) := HS3.out.2.2.1.cell 2
  have p3 : w3.cell? ⟨p, 3, none⟩ = some (.int .i64 0) := HS3.out.2.2.1.cell 3
  have p4 : w3.cell? ⟨p, 4, none⟩ = some (.int .i64 0) := HS3.out.2.2.1.cell 4
  have p5 : w3.cell? ⟨p, 5, none⟩ = some (.int .u32 0) := HS3.out.2.2.1.cell 5
  have p6 : w3.cell? ⟨p, 6, none⟩ = some (.int .i64 ((V2 : Nat) : Int)) := HS3.out.2.2.1.cell 6
  have p7 : w3.cell? ⟨p, 7, none⟩ = some (.bool false) := HS3.out.2.2.1.cell 7
  have p8 : w3.cell? ⟨p, 8, none⟩ = some (.slice none 0 0) := HS3.out.2.2.1.cell 8
  have q0 : w3.cell? ⟨w.heap.size, 0, none⟩ = some (.int .i64 0) := HS3.out.2.1.cell 0
  have q1 : w3.cell? ⟨w.heap.size, 1, none⟩ = some (.int .i64 0) := HS3.out.2.1.cell 1
  have q2 : w3.cell? ⟨w.heap.size, 2, none⟩ = some (.int .i64 0) := HS3.out.2.1.cell 2
  have q3 : w3.cell? ⟨w.heap.size, 3, none⟩ = some (.int .i64 0) := HS3.out.2.1.cell 3
  have q4 : w3.cell? ⟨w.heap.size, 4, none⟩ = some (.int .i64 0) := HS3.out.2.1.cell 4
  have q5 : w3.cell? ⟨w.heap.size, 5, none⟩ = some (.int .u32 0) := HS3.out.2.1.cell 5
  have q6 : w3.cell? ⟨w.heap.size, 6, none⟩ = some (.int .i64 0) := HS3.out.2.1.cell 6
  have q7 : w3.cell? ⟨w.heap.size, 7, none⟩ = some (.bool false) := HS3.out.2.1.cell 7
  have q8 : w3.cell? ⟨w.heap.size, 8, none⟩ = some (.slice none 0 0) := HS3.out.2.1.cell 8
  have fz := HS3.out.2.1.fz
  have HO : Hid (Off [w.heap.size] w3 (((((((((w3.setCell ⟨w.heap.size, 0, none⟩ (.int .i64 5)).setCell ⟨w.heap.size, 1, none⟩ (.int .i64 ((V0 : Nat) : Int))).setCell ⟨w.heap.size, 2, none⟩ (.int .i64 V1)).setCell ⟨w.heap.size, 3, none⟩ (.int .i64 0)).setCell ⟨w.heap.size, 4, none⟩ (.int .i64 0)).setCell ⟨w.heap.size, 5, none⟩ (.int .u32 0)).setCell ⟨w.heap.size, 6, none⟩ (.int .i64 ((V2 : Nat) : Int))).setCell ⟨w.heap.size, 7, none⟩ (.bool false)).setCell ⟨w.heap.size, 8, none⟩ (.slice none 0 0))) := Off.trans (Off.trans (Off.trans (Off.trans (Off.trans (Off.trans (Off.trans (Off.trans (Off.trans (Off.refl [w.heap.size] w3) (Off.setCell w.heap.size 0 _ _)) (Off.setCell w.heap.size 1 _ _)) (Off.setCell w.heap.size 2 _ _)) (Off.setCell w.heap.size 3 _ _)) (Off.setCell w.heap.size 4 _ _)) (Off.setCell w.heap.size 5 _ _)) (Off.setCell w.heap.size 6 _ _)) (Off.setCell w.heap.size 7 _ _)) (Off.setCell w.heap.size 8 _ _)
  go_wp2_with fail
  refine bodyPost_ret (v := .agg #[.int .i64 5, .int .i64 ((V0 : Nat) : Int), .int .i64 V1, .int .i64 0, .int .i64 0, .int .u32 0, .int .i64 ((V2 : Nat) : Int), .bool false, .slice none 0 0]) (by simp [results, Tryd.results42, go_sem, q0, q1, q2, q3, q4, q5, q6, q7, q8]) rfl ?_
  obtain ⟨w9, hw9⟩ : ∃ y, (((((((((w3.setCell ⟨w.heap.size, 0, none⟩ (.int .i64 5)).setCell ⟨w.heap.size, 1, none⟩ (.int .i64 ((V0 : Nat) : Int))).setCell ⟨w.heap.size, 2, none⟩ (.int .i64 V1)).setCell ⟨w.heap.size, 3, none⟩ (.int .i64 0)).setCell ⟨w.heap.size, 4, none⟩ (.int .i64 0)).setCell ⟨w.heap.size, 5, none⟩ (.int .u32 0)).setCell ⟨w.heap.size, 6, none⟩ (.int .i64 ((V2 : Nat) : Int))).setCell ⟨w.heap.size, 7, none⟩ (.bool false)).setCell ⟨w.heap.size, 8, none⟩ (.slice none 0 0)) = y := ⟨_, rfl⟩
  rw [hw9] at HO ⊢
  clear hw9
  refine ⟨rfl, ⟨_, RB.off HS3.out.1 HO.out (by have := HG.out; simp; omega)⟩, ?_⟩
  exact HH.out.1 p _ (by have := HP.out; omega) (HS3.out.2.2.2.trans (HO.out.more (by simp)))
set_option maxHeartbeats 4000000 in
theorem pmv6 (b g o e : Nat) (x : Bool) (L : Nat → List UInt8) (hL : ∀ i, i < 2 → (L i).length ≤ 281474976710656) (w : World) (hLo : Lo b w) (hb : b ∉ [2, 0, 5, 6]) (h : RB w b (.slice (some ⟨g, o, none⟩) 2 (e + 2)) x) (hw : ∀ i, i < 2 → w.cell? ⟨g, o + i, none⟩ = some (.string (tx (L i)))) (hne : g ≠ b) (he : e + 2 ≤ 9223372036854775807) : Calls Tryd.prog 42 #[.pointer (some ⟨b, 0, none⟩), .int .i64 6] w fun r w' => r = .returned (.agg #[.int .i64 6, .int .i64 ((nmV (L 0) : Nat) : Int), .int .i64 (sdI (L 1)), .int .i64 0, .int .i64 0, .int .u32 0, .int .i64 0, .bool false, .slice none 0 0]) ∧ (∃ v, RB w' b v ((x || !nmO (L 0)) || !(sdI (L 1) != 0))) ∧ Off [b] w w' := by
  have hg : g < w.heap.size := World.block_lt_of_cell? w _ (hw 0 (by omega))
  have hbl := h.c.2.2.2.2
  have b2 := belA (Below.refl _ w) (.cells #[.int .i64 0, .int .i64 0, .int .i64 0, .int .i64 0, .int .i64 0, .int .u32 0, .int .i64 0, .bool false, .slice none 0 0] 45)
  have kz := Bk.new w #[.int .i64 0, .int .i64 0, .int .i64 0, .int .i64 0, .int .i64 0, .int .u32 0, .int .i64 0, .bool false, .slice none 0 0] 45
  obtain ⟨w0, hW⟩ : ∃ y, w.alloc (.cells #[.int .i64 0, .int .i64 0, .int .i64 0, .int .i64 0, .int .i64 0, .int .u32 0, .int .i64 0, .bool false, .slice none 0 0] 45) = y := ⟨_, rfl⟩
  rw [hW] at b2 kz
  have HS0 : Hid (_) := And.intro (h.below b2) (And.intro kz (Off.of_below (l := [b, w.heap.size]) b2))
  have HG : Hid (g < w.heap.size ∧ b < w.heap.size ∧ g ≠ b) := ⟨hg, hbl, hne⟩
  have HW : Hid (_) := And.intro hw (And.intro hL hLo)
  have hU := puses 6
  rw [show sided 6 = true from rfl] at hU
  obtain ⟨V0, hV0⟩ : ∃ y, nmV (L 0) = y := ⟨_, rfl⟩
  obtain ⟨O0, hO0⟩ : ∃ y, nmO (L 0) = y := ⟨_, rfl⟩
  have t0 : V0 < 4294967296 := by rw [← hV0]; exact nmV_lt _
  have e0 : IntKind.i64.wrap ((V0 : Nat) : Int) = ((V0 : Nat) : Int) := by rw [IntKind.wrap_i64]; omega
  obtain ⟨V1, hV1⟩ : ∃ y, (sdI (L 1)) = y := ⟨_, rfl⟩
  obtain ⟨O1, hO1⟩ : ∃ y, (sdI (L 1) != 0) = y := ⟨_, rfl⟩
  have HV0 : Hid (_) := And.intro hV0 hO0
  rw [hV0, hO0]
  have HV1 : Hid (_) := And.intro hV1 hO1
  rw [hO1, hV1]
  have hoff : ∀ p wx, w.heap.size ≤ p → Off [b, w.heap.size, p] w wx → Off [b] w wx := fun p wx hp q => q.only (fun k hk hl => by simp at hk ⊢; omega)
  have hcell : ∀ wx, Off [b] w wx → ∀ i, i < 2 → wx.cell? ⟨g, o + i, none⟩ = some (.string (tx (L i))) := fun wx q i hi => by
    have hg := HG.out
    have he := q.block g hg.1 (by simp; omega)
    have := HW.out.1 i hi
    rw [← this]
    unfold World.cell?
    rw [he]
  have HH : Hid (_) := And.intro hoff hcell
  have HF0 : Hid (Off [b] w w0) := Off.of_below b2
  clear h b2 kz hw hL hLo hg hbl hne hoff hcell hV0 hO0 t0 hV1 hO1
  have h1 : Calls Tryd.prog 56 #[.pointer (some ⟨b, 0, none⟩)] w0 fun r w' => r = .returned (.int .u32 ((V0 : Nat) : Int)) ∧ RB w' b (.slice (some ⟨g, adv o (e + 1), none⟩) 1 (e + 1)) (x || !O0) ∧ Off [b] w0 w' := by
    have := pnumO b g o 1 (e + 1) x (L 0) (HW.out.2.1 0 (by omega)) w0 (HW.out.2.2.off HF0.out) hb HS0.out.1 (HH.out.2 _ HF0.out 0 (by omega)) (by omega) (by omega)
    rw [HV0.out.1, HV0.out.2] at this
    exact this
  go_enter Tryd.func42, Tryd.ntmps42
  go_wp2_with fail
  try rw [hW]
  clear hW
  refine h1.mono ?_
  rintro r v0 ⟨rfl, r0, o0⟩
  have z0 := HS0.out.2.1.off o0 (by have := HG.out; simp; omega)
  have s0 := HS0.out.2.2.trans (o0.more (by simp))
  have HT : Hid (_) := And.intro r0 (And.intro z0 (And.intro s0 (HF0.out.trans o0)))
  clear h1 r0 o0 z0 s0
  go_wp2_with fail
  have n1 := Bk.new v0 #[.int .i64 6, .int .i64 ((V0 : Nat) : Int), .int .i64 0, .int .i64 0, .int .i64 0, .int .u32 0, .int .i64 0, .bool false, .slice none 0 0] 45
  have b1 := belA (Below.refl _ v0) (.cells #[.int .i64 6, .int .i64 ((V0 : Nat) : Int), .int .i64 0, .int .i64 0, .int .i64 0, .int .u32 0, .int .i64 0, .bool false, .slice none 0 0] 45)
  obtain ⟨w1, hw1⟩ : ∃ y, v0.alloc (.cells #[.int .i64 6, .int .i64 ((V0 : Nat) : Int), .int .i64 0, .int .i64 0, .int .i64 0, .int .u32 0, .int .i64 0, .bool false, .slice none 0 0] 45) = y := ⟨_, rfl⟩
  rw [hw1] at n1 b1 ⊢
  clear hw1
  have lp : w.heap.size < v0.heap.size ∧ b < v0.heap.size := ⟨HT.out.2.1.lt, HT.out.1.c.2.2.2.2⟩
  obtain ⟨p, hp⟩ : ∃ y, v0.heap.size = y := ⟨_, rfl⟩
  rw [hp] at n1 lp ⊢
  have hG := HG.out
  have HS1 : Hid (RB w1 b (.slice (some ⟨g, (o + 1), none⟩) 1 (e + 1)) (x || !O0) ∧ Bk w1 w.heap.size #[.int .i64 0, .int .i64 0, .int .i64 0, .int .i64 0, .int .i64 0, .int .u32 0, .int .i64 0, .bool false, .slice none 0 0] 45 ∧ Bk w1 p #[.int .i64 6, .int .i64 ((V0 : Nat) : Int), .int .i64 0, .int .i64 0, .int .i64 0, .int .u32 0, .int .i64 0, .bool false, .slice none 0 0] 45 ∧ Off [b, w.heap.size, p] w w1) := by
    have R := HT.out.1.below b1
    rw [adv_next (by omega)] at R
    exact ⟨R, HT.out.2.1.off (Off.of_below (l := []) b1) (by simp), n1, (HT.out.2.2.1.more (by simp)).trans (Off.of_below b1)⟩
  have HP : Hid (w.heap.size < p ∧ b < p ∧ g < p) := ⟨lp.1, lp.2, by omega⟩
  have HF1 : Hid (Off [b] w w1) := HT.out.2.2.2.trans (Off.of_below b1)
  clear n1 b1 lp hp hG HT
  have h2 : Calls Tryd.prog 57 #[.pointer (some ⟨b, 0, none⟩)] w1 fun r w' => r = .returned (.int .i64 V1) ∧ RB w' b (.slice (some ⟨g, adv (o + 1) e, none⟩) 0 e) ((x || !O0) || !O1) ∧ Off [b] w1 w' := by
    have := psideR b g (o + 1) 0 e (x || !O0) (L 1) w1 HS1.out.1 (HH.out.2 _ HF1.out 1 (by omega)) (by omega) (by omega)
    rw [HV1.out.2, HV1.out.1] at this
    exact this
  refine (hU _).mono ?_
  rintro r w' ⟨rfl, hw⟩
  rw [hw]
  clear hw hU
  go_wp2_with fail
  refine h2.mono ?_
  rintro r v1 ⟨rfl, r1, o1⟩
  have z1 := HS1.out.2.1.off o1 (by have := HG.out; simp; omega)
  have y1 := HS1.out.2.2.1.off o1 (by have := HP.out; simp; omega)
  have f1 := y1.fz
  have g1 : v1.cell? ⟨p, 2, none⟩ = some (.int .i64 0) := y1.cell 2
  obtain ⟨w2, hw2⟩ : ∃ y, v1.setCell ⟨p, 2, none⟩ (.int .i64 V1) = y := ⟨_, rfl⟩
  have HS2 : Hid (RB w2 b (.slice (some ⟨g, adv (o + 1) e, none⟩) 0 e) ((x || !O0) || !O1) ∧ Bk w2 w.heap.size #[.int .i64 0, .int .i64 0, .int .i64 0, .int .i64 0, .int .i64 0, .int .u32 0, .int .i64 0, .bool false, .slice none 0 0] 45 ∧ Bk w2 p #[.int .i64 6, .int .i64 ((V0 : Nat) : Int), .int .i64 V1, .int .i64 0, .int .i64 0, .int .u32 0, .int .i64 0, .bool false, .slice none 0 0] 45 ∧ Off [b, w.heap.size, p] w w2) := by
    rw [← hw2]
    have hG := HG.out
    have hP := HP.out
    have os := Off.setCell p 2 v1 (.int .i64 V1)
    refine ⟨?_, z1.off os (by simp; omega), y1.set 2 _, (HS1.out.2.2.2.trans (o1.more (by simp))).trans (os.more (by simp))⟩
    have := RB.off r1 os (by simp; omega)
    exact this
  have HF2 : Hid (Off [b] w w2) := HH.out.1 p _ (by have := HP.out; omega) HS2.out.2.2.2
  clear h2 r1 o1 z1 y1
  go_upto_region 4 with fail
  try rw [hw2]
  clear hw2 f1 g1
  go_upto_region 18 with fail
  have p0 : w2.cell? ⟨p, 0, none⟩ = some (.int .i64 6) := HS2.out.2.2.1.cell 0
  have p1 : w2.cell? ⟨p, 1, none⟩ = some (.int .i64 ((V0 : Nat) : Int)) := HS2.out.2.2.1.cell 1
  have p2 : w2.cell? ⟨p, 2, none⟩ = some (.int .i64 V1) := HS2.out.2.2.1.cell 2
  have p3 : w2.cell? ⟨p, 3, none⟩ = some (.int .i64 0) := HS2.out.2.2.1.cell 3
  have p4 : w2.cell? ⟨p, 4, none⟩ = some (.int .i64 0) := HS2.out.2.2.1.cell 4
  have p5 : w2.cell? ⟨p, 5, none⟩ = some (.int .u32 0) := HS2.out.2.2.1.cell 5
  have p6 : w2.cell? ⟨p, 6, none⟩ = some (.int .i64 0) := HS2.out.2.2.1.cell 6
  have p7 : w2.cell? ⟨p, 7, none⟩ = some (.bool false) := HS2.out.2.2.1.cell 7
  have p8 : w2.cell? ⟨p, 8, none⟩ = some (.slice none 0 0) := HS2.out.2.2.1.cell 8
  have q0 : w2.cell? ⟨w.heap.size, 0, none⟩ = some (.int .i64 0) := HS2.out.2.1.cell 0
  have q1 : w2.cell? ⟨w.heap.size, 1, none⟩ = some (.int .i64 0) := HS2.out.2.1.cell 1
  have q2 : w2.cell? ⟨w.heap.size, 2, none⟩ = some (.int .i64 0) := HS2.out.2.1.cell 2
  have q3 : w2.cell? ⟨w.heap.size, 3, none⟩ = some (.int .i64 0) := HS2.out.2.1.cell 3
  have q4 : w2.cell? ⟨w.heap.size, 4, none⟩ = some (.int .i64 0) := HS2.out.2.1.cell 4
  have q5 : w2.cell? ⟨w.heap.size, 5, none⟩ = some (.int .u32 0) := HS2.out.2.1.cell 5
  have q6 : w2.cell? ⟨w.heap.size, 6, none⟩ = some (.int .i64 0) := HS2.out.2.1.cell 6
  have q7 : w2.cell? ⟨w.heap.size, 7, none⟩ = some (.bool false) := HS2.out.2.1.cell 7
  have q8 : w2.cell? ⟨w.heap.size, 8, none⟩ = some (.slice none 0 0) := HS2.out.2.1.cell 8
  have fz := HS2.out.2.1.fz
  have HO : Hid (Off [w.heap.size] w2 (((((((((w2.setCell ⟨w.heap.size, 0, none⟩ (.int .i64 6)).setCell ⟨w.heap.size, 1, none⟩ (.int .i64 ((V0 : Nat) : Int))).setCell ⟨w.heap.size, 2, none⟩ (.int .i64 V1)).setCell ⟨w.heap.size, 3, none⟩ (.int .i64 0)).setCell ⟨w.heap.size, 4, none⟩ (.int .i64 0)).setCell ⟨w.heap.size, 5, none⟩ (.int .u32 0)).setCell ⟨w.heap.size, 6, none⟩ (.int .i64 0)).setCell ⟨w.heap.size, 7, none⟩ (.bool false)).setCell ⟨w.heap.size, 8, none⟩ (.slice none 0 0))) := Off.trans (Off.trans (Off.trans (Off.trans (Off.trans (Off.trans (Off.trans (Off.trans (Off.trans (Off.refl [w.heap.size] w2) (Off.setCell w.heap.size 0 _ _)) (Off.setCell w.heap.size 1 _ _)) (Off.setCell w.heap.size 2 _ _)) (Off.setCell w.heap.size 3 _ _)) (Off.setCell w.heap.size 4 _ _)) (Off.setCell w.heap.size 5 _ _)) (Off.setCell w.heap.size 6 _ _)) (Off.setCell w.heap.size 7 _ _)) (Off.setCell w.heap.size 8 _ _)
  go_wp2_with fail
  refine bodyPost_ret (v := .agg #[.int .i64 6, .int .i64 ((V0 : Nat) : Int), .int .i64 V1, .int .i64 0, .int .i64 0, .int .u32 0, .int .i64 0, .bool false, .slice none 0 0]) (by simp [results, Tryd.results42, go_sem, q0, q1, q2, q3, q4, q5, q6, q7, q8]) rfl ?_
  obtain ⟨w9, hw9⟩ : ∃ y, (((((((((w2.setCell ⟨w.heap.size, 0, none⟩ (.int .i64 6)).setCell ⟨w.heap.size, 1, none⟩ (.int .i64 ((V0 : Nat) : Int))).setCell ⟨w.heap.size, 2, none⟩ (.int .i64 V1)).setCell ⟨w.heap.size, 3, none⟩ (.int .i64 0)).setCell ⟨w.heap.size, 4, none⟩ (.int .i64 0)).setCell ⟨w.heap.size, 5, none⟩ (.int .u32 0)).setCell ⟨w.heap.size, 6, none⟩ (.int .i64 0)).setCell ⟨w.heap.size, 7, none⟩ (.bool false)).setCell ⟨w.heap.size, 8, none⟩ (.slice none 0 0)) = y := ⟨_, rfl⟩
  rw [hw9] at HO ⊢
  clear hw9
  refine ⟨rfl, ⟨_, RB.off HS2.out.1 HO.out (by have := HG.out; simp; omega)⟩, ?_⟩
  exact HH.out.1 p _ (by have := HP.out; omega) (HS2.out.2.2.2.trans (HO.out.more (by simp)))
set_option maxHeartbeats 4000000 in
theorem pmv7 (b g o e : Nat) (x : Bool) (L : Nat → List UInt8) (hL : ∀ i, i < 3 → (L i).length ≤ 281474976710656) (w : World) (hLo : Lo b w) (hb : b ∉ [2, 0, 5, 6]) (h : RB w b (.slice (some ⟨g, o, none⟩) 3 (e + 3)) x) (hw : ∀ i, i < 3 → w.cell? ⟨g, o + i, none⟩ = some (.string (tx (L i)))) (hne : g ≠ b) (he : e + 3 ≤ 9223372036854775807) : Calls Tryd.prog 42 #[.pointer (some ⟨b, 0, none⟩), .int .i64 7] w fun r w' => r = .returned (.agg #[.int .i64 7, .int .i64 ((nmV (L 0) : Nat) : Int), .int .i64 (sdI (L 1)), .int .i64 0, .int .i64 0, .int .u32 0, .int .i64 ((nmV (L 2) : Nat) : Int), .bool false, .slice none 0 0]) ∧ (∃ v, RB w' b v (((x || !nmO (L 0)) || !(sdI (L 1) != 0)) || !nmO (L 2))) ∧ Off [b] w w' := by
  have hg : g < w.heap.size := World.block_lt_of_cell? w _ (hw 0 (by omega))
  have hbl := h.c.2.2.2.2
  have b2 := belA (Below.refl _ w) (.cells #[.int .i64 0, .int .i64 0, .int .i64 0, .int .i64 0, .int .i64 0, .int .u32 0, .int .i64 0, .bool false, .slice none 0 0] 45)
  have kz := Bk.new w #[.int .i64 0, .int .i64 0, .int .i64 0, .int .i64 0, .int .i64 0, .int .u32 0, .int .i64 0, .bool false, .slice none 0 0] 45
  obtain ⟨w0, hW⟩ : ∃ y, w.alloc (.cells #[.int .i64 0, .int .i64 0, .int .i64 0, .int .i64 0, .int .i64 0, .int .u32 0, .int .i64 0, .bool false, .slice none 0 0] 45) = y := ⟨_, rfl⟩
  rw [hW] at b2 kz
  have HS0 : Hid (_) := And.intro (h.below b2) (And.intro kz (Off.of_below (l := [b, w.heap.size]) b2))
  have HG : Hid (g < w.heap.size ∧ b < w.heap.size ∧ g ≠ b) := ⟨hg, hbl, hne⟩
  have HW : Hid (_) := And.intro hw (And.intro hL hLo)
  have hU := puses 7
  rw [show sided 7 = true from rfl] at hU
  obtain ⟨V0, hV0⟩ : ∃ y, nmV (L 0) = y := ⟨_, rfl⟩
  obtain ⟨O0, hO0⟩ : ∃ y, nmO (L 0) = y := ⟨_, rfl⟩
  have t0 : V0 < 4294967296 := by rw [← hV0]; exact nmV_lt _
  have e0 : IntKind.i64.wrap ((V0 : Nat) : Int) = ((V0 : Nat) : Int) := by rw [IntKind.wrap_i64]; omega
  obtain ⟨V1, hV1⟩ : ∃ y, (sdI (L 1)) = y := ⟨_, rfl⟩
  obtain ⟨O1, hO1⟩ : ∃ y, (sdI (L 1) != 0) = y := ⟨_, rfl⟩
  obtain ⟨V2, hV2⟩ : ∃ y, nmV (L 2) = y := ⟨_, rfl⟩
  obtain ⟨O2, hO2⟩ : ∃ y, nmO (L 2) = y := ⟨_, rfl⟩
  have t2 : V2 < 4294967296 := by rw [← hV2]; exact nmV_lt _
  have e2 : IntKind.i64.wrap ((V2 : Nat) : Int) = ((V2 : Nat) : Int) := by rw [IntKind.wrap_i64]; omega
  have HV0 : Hid (_) := And.intro hV0 hO0
  rw [hV0, hO0]
  have HV1 : Hid (_) := And.intro hV1 hO1
  rw [hO1, hV1]
  have HV2 : Hid (_) := And.intro hV2 hO2
  rw [hV2, hO2]
  have hoff : ∀ p wx, w.heap.size ≤ p → Off [b, w.heap.size, p] w wx → Off [b] w wx := fun p wx hp q => q.only (fun k hk hl => by simp at hk ⊢; omega)
  have hcell : ∀ wx, Off [b] w wx → ∀ i, i < 3 → wx.cell? ⟨g, o + i, none⟩ = some (.string (tx (L i))) := fun wx q i hi => by
    have hg := HG.out
    have he := q.block g hg.1 (by simp; omega)
    have := HW.out.1 i hi
    rw [← this]
    unfold World.cell?
    rw [he]
  have HH : Hid (_) := And.intro hoff hcell
  have HF0 : Hid (Off [b] w w0) := Off.of_below b2
  clear h b2 kz hw hL hLo hg hbl hne hoff hcell hV0 hO0 t0 hV1 hO1 hV2 hO2 t2
  have h1 : Calls Tryd.prog 56 #[.pointer (some ⟨b, 0, none⟩)] w0 fun r w' => r = .returned (.int .u32 ((V0 : Nat) : Int)) ∧ RB w' b (.slice (some ⟨g, adv o (e + 2), none⟩) 2 (e + 2)) (x || !O0) ∧ Off [b] w0 w' := by
    have := pnumO b g o 2 (e + 2) x (L 0) (HW.out.2.1 0 (by omega)) w0 (HW.out.2.2.off HF0.out) hb HS0.out.1 (HH.out.2 _ HF0.out 0 (by omega)) (by omega) (by omega)
    rw [HV0.out.1, HV0.out.2] at this
    exact this
  go_enter Tryd.func42, Tryd.ntmps42
  go_wp2_with fail
  try rw [hW]
  clear hW
  refine h1.mono ?_
  rintro r v0 ⟨rfl, r0, o0⟩
  have z0 := HS0.out.2.1.off o0 (by have := HG.out; simp; omega)
  have s0 := HS0.out.2.2.trans (o0.more (by simp))
  have HT : Hid (_) := And.intro r0 (And.intro z0 (And.intro s0 (HF0.out.trans o0)))
  clear h1 r0 o0 z0 s0
  go_wp2_with fail
  have n1 := Bk.new v0 #[.int .i64 7, .int .i64 ((V0 : Nat) : Int), .int .i64 0, .int .i64 0, .int .i64 0, .int .u32 0, .int .i64 0, .bool false, .slice none 0 0] 45
  have b1 := belA (Below.refl _ v0) (.cells #[.int .i64 7, .int .i64 ((V0 : Nat) : Int), .int .i64 0, .int .i64 0, .int .i64 0, .int .u32 0, .int .i64 0, .bool false, .slice none 0 0] 45)
  obtain ⟨w1, hw1⟩ : ∃ y, v0.alloc (.cells #[.int .i64 7, .int .i64 ((V0 : Nat) : Int), .int .i64 0, .int .i64 0, .int .i64 0, .int .u32 0, .int .i64 0, .bool false, .slice none 0 0] 45) = y := ⟨_, rfl⟩
  rw [hw1] at n1 b1 ⊢
  clear hw1
  have lp : w.heap.size < v0.heap.size ∧ b < v0.heap.size := ⟨HT.out.2.1.lt, HT.out.1.c.2.2.2.2⟩
  obtain ⟨p, hp⟩ : ∃ y, v0.heap.size = y := ⟨_, rfl⟩
  rw [hp] at n1 lp ⊢
  have hG := HG.out
  have HS1 : Hid (RB w1 b (.slice (some ⟨g, (o + 1), none⟩) 2 (e + 2)) (x || !O0) ∧ Bk w1 w.heap.size #[.int .i64 0, .int .i64 0, .int .i64 0, .int .i64 0, .int .i64 0, .int .u32 0, .int .i64 0, .bool false, .slice none 0 0] 45 ∧ Bk w1 p #[.int .i64 7, .int .i64 ((V0 : Nat) : Int), .int .i64 0, .int .i64 0, .int .i64 0, .int .u32 0, .int .i64 0, .bool false, .slice none 0 0] 45 ∧ Off [b, w.heap.size, p] w w1) := by
    have R := HT.out.1.below b1
    rw [adv_next (by omega)] at R
    exact ⟨R, HT.out.2.1.off (Off.of_below (l := []) b1) (by simp), n1, (HT.out.2.2.1.more (by simp)).trans (Off.of_below b1)⟩
  have HP : Hid (w.heap.size < p ∧ b < p ∧ g < p) := ⟨lp.1, lp.2, by omega⟩
  have HF1 : Hid (Off [b] w w1) := HT.out.2.2.2.trans (Off.of_below b1)
  clear n1 b1 lp hp hG HT
  have h2 : Calls Tryd.prog 57 #[.pointer (some ⟨b, 0, none⟩)] w1 fun r w' => r = .returned (.int .i64 V1) ∧ RB w' b (.slice (some ⟨g, adv (o + 1) (e + 1), none⟩) 1 (e + 1)) ((x || !O0) || !O1) ∧ Off [b] w1 w' := by
    have := psideR b g (o + 1) 1 (e + 1) (x || !O0) (L 1) w1 HS1.out.1 (HH.out.2 _ HF1.out 1 (by omega)) (by omega) (by omega)
    rw [HV1.out.2, HV1.out.1] at this
    exact this
  refine (hU _).mono ?_
  rintro r w' ⟨rfl, hw⟩
  rw [hw]
  clear hw hU
  go_wp2_with fail
  refine h2.mono ?_
  rintro r v1 ⟨rfl, r1, o1⟩
  have z1 := HS1.out.2.1.off o1 (by have := HG.out; simp; omega)
  have y1 := HS1.out.2.2.1.off o1 (by have := HP.out; simp; omega)
  have f1 := y1.fz
  have g1 : v1.cell? ⟨p, 2, none⟩ = some (.int .i64 0) := y1.cell 2
  obtain ⟨w2, hw2⟩ : ∃ y, v1.setCell ⟨p, 2, none⟩ (.int .i64 V1) = y := ⟨_, rfl⟩
  have HS2 : Hid (RB w2 b (.slice (some ⟨g, (o + 2), none⟩) 1 (e + 1)) ((x || !O0) || !O1) ∧ Bk w2 w.heap.size #[.int .i64 0, .int .i64 0, .int .i64 0, .int .i64 0, .int .i64 0, .int .u32 0, .int .i64 0, .bool false, .slice none 0 0] 45 ∧ Bk w2 p #[.int .i64 7, .int .i64 ((V0 : Nat) : Int), .int .i64 V1, .int .i64 0, .int .i64 0, .int .u32 0, .int .i64 0, .bool false, .slice none 0 0] 45 ∧ Off [b, w.heap.size, p] w w2) := by
    rw [← hw2]
    have hG := HG.out
    have hP := HP.out
    have os := Off.setCell p 2 v1 (.int .i64 V1)
    refine ⟨?_, z1.off os (by simp; omega), y1.set 2 _, (HS1.out.2.2.2.trans (o1.more (by simp))).trans (os.more (by simp))⟩
    have := RB.off r1 os (by simp; omega)
    rw [adv_next (by omega)] at this
    exact this
  have HF2 : Hid (Off [b] w w2) := HH.out.1 p _ (by have := HP.out; omega) HS2.out.2.2.2
  clear h2 r1 o1 z1 y1
  have h3 : Calls Tryd.prog 56 #[.pointer (some ⟨b, 0, none⟩)] w2 fun r w' => r = .returned (.int .u32 ((V2 : Nat) : Int)) ∧ RB w' b (.slice (some ⟨g, adv (o + 2) e, none⟩) 0 e) (((x || !O0) || !O1) || !O2) ∧ Off [b] w2 w' := by
    have := pnumO b g (o + 2) 0 e ((x || !O0) || !O1) (L 2) (HW.out.2.1 2 (by omega)) w2 (HW.out.2.2.off HF2.out) hb HS2.out.1 (HH.out.2 _ HF2.out 2 (by omega)) (by omega) (by omega)
    rw [HV2.out.1, HV2.out.2] at this
    exact this
  go_upto_region 4 with fail
  try rw [hw2]
  clear hw2 f1 g1
  go_wp2_with fail
  refine h3.mono ?_
  rintro r v2 ⟨rfl, r2, o2⟩
  have z2 := HS2.out.2.1.off o2 (by have := HG.out; simp; omega)
  have y2 := HS2.out.2.2.1.off o2 (by have := HP.out; simp; omega)
  have f2 := y2.fz
  have g2 : v2.cell? ⟨p, 6, none⟩ = some (.int .i64 0) := y2.cell 6
  obtain ⟨w3, hw3⟩ : ∃ y, v2.setCell ⟨p, 6, none⟩ (.int .i64 ((V2 : Nat) : Int)) = y := ⟨_, rfl⟩
  have HS3 : Hid (RB w3 b (.slice (some ⟨g, adv (o + 2) e, none⟩) 0 e) (((x || !O0) || !O1) || !O2) ∧ Bk w3 w.heap.size #[.int .i64 0, .int .i64 0, .int .i64 0, .int .i64 0, .int .i64 0, .int .u32 0, .int .i64 0, .bool false, .slice none 0 0] 45 ∧ Bk w3 p #[.int .i64 7, .int .i64 ((V0 : Nat) : Int), .int .i64 V1, .int .i64 0, .int .i64 0, .int .u32 0, .int .i64 ((V2 : Nat) : Int), .bool false, .slice none 0 0] 45 ∧ Off [b, w.heap.size, p] w w3) := by
    rw [← hw3]
    have hG := HG.out
    have hP := HP.out
    have os := Off.setCell p 6 v2 (.int .i64 ((V2 : Nat) : Int))
    refine ⟨?_, z2.off os (by simp; omega), y2.set 6 _, (HS2.out.2.2.2.trans (o2.more (by simp))).trans (os.more (by simp))⟩
    have := RB.off r2 os (by simp; omega)
    exact this
  have HF3 : Hid (Off [b] w w3) := HH.out.1 p _ (by have := HP.out; omega) HS3.out.2.2.2
  clear h3 r2 o2 z2 y2
  go_upto_region 18 with fail
  try rw [hw3]
  clear hw3 f2 g2
  have p0 : w3.cell? ⟨p, 0, none⟩ = some (.int .i64 7) := HS3.out.2.2.1.cell 0
  have p1 : w3.cell? ⟨p, 1, none⟩ = some (.int .i64 ((V0 : Nat) : Int)) := HS3.out.2.2.1.cell 1
  have p2 : w3.cell? ⟨p, 2, none⟩ = some (.int .i64 V1) := HS3.out.2.2.1.cell 2
  have p3 : w3.cell? ⟨p, 3, none⟩ = some (.int .i64 0) := HS3.out.2.2.1.cell 3
  have p4 : w3.cell? ⟨p, 4, none⟩ = some (.int .i64 0) := HS3.out.2.2.1.cell 4
  have p5 : w3.cell? ⟨p, 5, none⟩ = some (.int .u32 0) := HS3.out.2.2.1.cell 5
  have p6 : w3.cell? ⟨p, 6, none⟩ = some (.int .i64 ((V2 : Nat) : Int)) := HS3.out.2.2.1.cell 6
  have p7 : w3.cell? ⟨p, 7, none⟩ = some (.bool false) := HS3.out.2.2.1.cell 7
  have p8 : w3.cell? ⟨p, 8, none⟩ = some (.slice none 0 0) := HS3.out.2.2.1.cell 8
  have q0 : w3.cell? ⟨w.heap.size, 0, none⟩ = some (.int .i64 0) := HS3.out.2.1.cell 0
  have q1 : w3.cell? ⟨w.heap.size, 1, none⟩ = some (.int .i64 0) := HS3.out.2.1.cell 1
  have q2 : w3.cell? ⟨w.heap.size, 2, none⟩ = some (.int .i64 0) := HS3.out.2.1.cell 2
  have q3 : w3.cell? ⟨w.heap.size, 3, none⟩ = some (.int .i64 0) := HS3.out.2.1.cell 3
  have q4 : w3.cell? ⟨w.heap.size, 4, none⟩ = some (.int .i64 0) := HS3.out.2.1.cell 4
  have q5 : w3.cell? ⟨w.heap.size, 5, none⟩ = some (.int .u32 0) := HS3.out.2.1.cell 5
  have q6 : w3.cell? ⟨w.heap.size, 6, none⟩ = some (.int .i64 0) := HS3.out.2.1.cell 6
  have q7 : w3.cell? ⟨w.heap.size, 7, none⟩ = some (.bool false) := HS3.out.2.1.cell 7
  have q8 : w3.cell? ⟨w.heap.size, 8, none⟩ = some (.slice none 0 0) := HS3.out.2.1.cell 8
  have fz := HS3.out.2.1.fz
  have HO : Hid (Off [w.heap.size] w3 (((((((((w3.setCell ⟨w.heap.size, 0, none⟩ (.int .i64 7)).setCell ⟨w.heap.size, 1, none⟩ (.int .i64 ((V0 : Nat) : Int))).setCell ⟨w.heap.size, 2, none⟩ (.int .i64 V1)).setCell ⟨w.heap.size, 3, none⟩ (.int .i64 0)).setCell ⟨w.heap.size, 4, none⟩ (.int .i64 0)).setCell ⟨w.heap.size, 5, none⟩ (.int .u32 0)).setCell ⟨w.heap.size, 6, none⟩ (.int .i64 ((V2 : Nat) : Int))).setCell ⟨w.heap.size, 7, none⟩ (.bool false)).setCell ⟨w.heap.size, 8, none⟩ (.slice none 0 0))) := Off.trans (Off.trans (Off.trans (Off.trans (Off.trans (Off.trans (Off.trans (Off.trans (Off.trans (Off.refl [w.heap.size] w3) (Off.setCell w.heap.size 0 _ _)) (Off.setCell w.heap.size 1 _ _)) (Off.setCell w.heap.size 2 _ _)) (Off.setCell w.heap.size 3 _ _)) (Off.setCell w.heap.size 4 _ _)) (Off.setCell w.heap.size 5 _ _)) (Off.setCell w.heap.size 6 _ _)) (Off.setCell w.heap.size 7 _ _)) (Off.setCell w.heap.size 8 _ _)
  go_wp2_with fail
  refine bodyPost_ret (v := .agg #[.int .i64 7, .int .i64 ((V0 : Nat) : Int), .int .i64 V1, .int .i64 0, .int .i64 0, .int .u32 0, .int .i64 ((V2 : Nat) : Int), .bool false, .slice none 0 0]) (by simp [results, Tryd.results42, go_sem, q0, q1, q2, q3, q4, q5, q6, q7, q8]) rfl ?_
  obtain ⟨w9, hw9⟩ : ∃ y, (((((((((w3.setCell ⟨w.heap.size, 0, none⟩ (.int .i64 7)).setCell ⟨w.heap.size, 1, none⟩ (.int .i64 ((V0 : Nat) : Int))).setCell ⟨w.heap.size, 2, none⟩ (.int .i64 V1)).setCell ⟨w.heap.size, 3, none⟩ (.int .i64 0)).setCell ⟨w.heap.size, 4, none⟩ (.int .i64 0)).setCell ⟨w.heap.size, 5, none⟩ (.int .u32 0)).setCell ⟨w.heap.size, 6, none⟩ (.int .i64 ((V2 : Nat) : Int))).setCell ⟨w.heap.size, 7, none⟩ (.bool false)).setCell ⟨w.heap.size, 8, none⟩ (.slice none 0 0)) = y := ⟨_, rfl⟩
  rw [hw9] at HO ⊢
  clear hw9
  refine ⟨rfl, ⟨_, RB.off HS3.out.1 HO.out (by have := HG.out; simp; omega)⟩, ?_⟩
  exact HH.out.1 p _ (by have := HP.out; omega) (HS3.out.2.2.2.trans (HO.out.more (by simp)))
set_option maxHeartbeats 4000000 in
theorem pmv8 (b g o e : Nat) (x : Bool) (L : Nat → List UInt8) (hL : ∀ i, i < 2 → (L i).length ≤ 281474976710656) (w : World) (hLo : Lo b w) (hb : b ∉ [2, 0, 5, 6]) (h : RB w b (.slice (some ⟨g, o, none⟩) 2 (e + 2)) x) (hw : ∀ i, i < 2 → w.cell? ⟨g, o + i, none⟩ = some (.string (tx (L i)))) (hne : g ≠ b) (he : e + 2 ≤ 9223372036854775807) : Calls Tryd.prog 42 #[.pointer (some ⟨b, 0, none⟩), .int .i64 8] w fun r w' => r = .returned (.agg #[.int .i64 8, .int .i64 ((nmV (L 0) : Nat) : Int), .int .i64 0, .int .i64 0, .int .i64 0, .int .u32 0, .int .i64 ((nmV (L 1) : Nat) : Int), .bool false, .slice none 0 0]) ∧ (∃ v, RB w' b v ((x || !nmO (L 0)) || !nmO (L 1))) ∧ Off [b] w w' := by
  have hg : g < w.heap.size := World.block_lt_of_cell? w _ (hw 0 (by omega))
  have hbl := h.c.2.2.2.2
  have b2 := belA (Below.refl _ w) (.cells #[.int .i64 0, .int .i64 0, .int .i64 0, .int .i64 0, .int .i64 0, .int .u32 0, .int .i64 0, .bool false, .slice none 0 0] 45)
  have kz := Bk.new w #[.int .i64 0, .int .i64 0, .int .i64 0, .int .i64 0, .int .i64 0, .int .u32 0, .int .i64 0, .bool false, .slice none 0 0] 45
  obtain ⟨w0, hW⟩ : ∃ y, w.alloc (.cells #[.int .i64 0, .int .i64 0, .int .i64 0, .int .i64 0, .int .i64 0, .int .u32 0, .int .i64 0, .bool false, .slice none 0 0] 45) = y := ⟨_, rfl⟩
  rw [hW] at b2 kz
  have HS0 : Hid (_) := And.intro (h.below b2) (And.intro kz (Off.of_below (l := [b, w.heap.size]) b2))
  have HG : Hid (g < w.heap.size ∧ b < w.heap.size ∧ g ≠ b) := ⟨hg, hbl, hne⟩
  have HW : Hid (_) := And.intro hw (And.intro hL hLo)
  have hU := puses 8
  rw [show sided 8 = false from rfl] at hU
  obtain ⟨V0, hV0⟩ : ∃ y, nmV (L 0) = y := ⟨_, rfl⟩
  obtain ⟨O0, hO0⟩ : ∃ y, nmO (L 0) = y := ⟨_, rfl⟩
  have t0 : V0 < 4294967296 := by rw [← hV0]; exact nmV_lt _
  have e0 : IntKind.i64.wrap ((V0 : Nat) : Int) = ((V0 : Nat) : Int) := by rw [IntKind.wrap_i64]; omega
  obtain ⟨V1, hV1⟩ : ∃ y, nmV (L 1) = y := ⟨_, rfl⟩
  obtain ⟨O1, hO1⟩ : ∃ y, nmO (L 1) = y := ⟨_, rfl⟩
  have t1 : V1 < 4294967296 := by rw [← hV1]; exact nmV_lt _
  have e1 : IntKind.i64.wrap ((V1 : Nat) : Int) = ((V1 : Nat) : Int) := by rw [IntKind.wrap_i64]; omega
  have HV0 : Hid (_) := And.intro hV0 hO0
  rw [hV0, hO0]
  have HV1 : Hid (_) := And.intro hV1 hO1
  rw [hV1, hO1]
  have hoff : ∀ p wx, w.heap.size ≤ p → Off [b, w.heap.size, p] w wx → Off [b] w wx := fun p wx hp q => q.only (fun k hk hl => by simp at hk ⊢; omega)
  have hcell : ∀ wx, Off [b] w wx → ∀ i, i < 2 → wx.cell? ⟨g, o + i, none⟩ = some (.string (tx (L i))) := fun wx q i hi => by
    have hg := HG.out
    have he := q.block g hg.1 (by simp; omega)
    have := HW.out.1 i hi
    rw [← this]
    unfold World.cell?
    rw [he]
  have HH : Hid (_) := And.intro hoff hcell
  have HF0 : Hid (Off [b] w w0) := Off.of_below b2
  clear h b2 kz hw hL hLo hg hbl hne hoff hcell hV0 hO0 t0 hV1 hO1 t1
  have h1 : Calls Tryd.prog 56 #[.pointer (some ⟨b, 0, none⟩)] w0 fun r w' => r = .returned (.int .u32 ((V0 : Nat) : Int)) ∧ RB w' b (.slice (some ⟨g, adv o (e + 1), none⟩) 1 (e + 1)) (x || !O0) ∧ Off [b] w0 w' := by
    have := pnumO b g o 1 (e + 1) x (L 0) (HW.out.2.1 0 (by omega)) w0 (HW.out.2.2.off HF0.out) hb HS0.out.1 (HH.out.2 _ HF0.out 0 (by omega)) (by omega) (by omega)
    rw [HV0.out.1, HV0.out.2] at this
    exact this
  go_enter Tryd.func42, Tryd.ntmps42
  go_wp2_with fail
  try rw [hW]
  clear hW
  refine h1.mono ?_
  rintro r v0 ⟨rfl, r0, o0⟩
  have z0 := HS0.out.2.1.off o0 (by have := HG.out; simp; omega)
  have s0 := HS0.out.2.2.trans (o0.more (by simp))
  have HT : Hid (_) := And.intro r0 (And.intro z0 (And.intro s0 (HF0.out.trans o0)))
  clear h1 r0 o0 z0 s0
  go_wp2_with fail
  have n1 := Bk.new v0 #[.int .i64 8, .int .i64 ((V0 : Nat) : Int), .int .i64 0, .int .i64 0, .int .i64 0, .int .u32 0, .int .i64 0, .bool false, .slice none 0 0] 45
  have b1 := belA (Below.refl _ v0) (.cells #[.int .i64 8, .int .i64 ((V0 : Nat) : Int), .int .i64 0, .int .i64 0, .int .i64 0, .int .u32 0, .int .i64 0, .bool false, .slice none 0 0] 45)
  obtain ⟨w1, hw1⟩ : ∃ y, v0.alloc (.cells #[.int .i64 8, .int .i64 ((V0 : Nat) : Int), .int .i64 0, .int .i64 0, .int .i64 0, .int .u32 0, .int .i64 0, .bool false, .slice none 0 0] 45) = y := ⟨_, rfl⟩
  rw [hw1] at n1 b1 ⊢
  clear hw1
  have lp : w.heap.size < v0.heap.size ∧ b < v0.heap.size := ⟨HT.out.2.1.lt, HT.out.1.c.2.2.2.2⟩
  obtain ⟨p, hp⟩ : ∃ y, v0.heap.size = y := ⟨_, rfl⟩
  rw [hp] at n1 lp ⊢
  have hG := HG.out
  have HS1 : Hid (RB w1 b (.slice (some ⟨g, (o + 1), none⟩) 1 (e + 1)) (x || !O0) ∧ Bk w1 w.heap.size #[.int .i64 0, .int .i64 0, .int .i64 0, .int .i64 0, .int .i64 0, .int .u32 0, .int .i64 0, .bool false, .slice none 0 0] 45 ∧ Bk w1 p #[.int .i64 8, .int .i64 ((V0 : Nat) : Int), .int .i64 0, .int .i64 0, .int .i64 0, .int .u32 0, .int .i64 0, .bool false, .slice none 0 0] 45 ∧ Off [b, w.heap.size, p] w w1) := by
    have R := HT.out.1.below b1
    rw [adv_next (by omega)] at R
    exact ⟨R, HT.out.2.1.off (Off.of_below (l := []) b1) (by simp), n1, (HT.out.2.2.1.more (by simp)).trans (Off.of_below b1)⟩
  have HP : Hid (w.heap.size < p ∧ b < p ∧ g < p) := ⟨lp.1, lp.2, by omega⟩
  have HF1 : Hid (Off [b] w w1) := HT.out.2.2.2.trans (Off.of_below b1)
  clear n1 b1 lp hp hG HT
  have h2 : Calls Tryd.prog 56 #[.pointer (some ⟨b, 0, none⟩)] w1 fun r w' => r = .returned (.int .u32 ((V1 : Nat) : Int)) ∧ RB w' b (.slice (some ⟨g, adv (o + 1) e, none⟩) 0 e) ((x || !O0) || !O1) ∧ Off [b] w1 w' := by
    have := pnumO b g (o + 1) 0 e (x || !O0) (L 1) (HW.out.2.1 1 (by omega)) w1 (HW.out.2.2.off HF1.out) hb HS1.out.1 (HH.out.2 _ HF1.out 1 (by omega)) (by omega) (by omega)
    rw [HV1.out.1, HV1.out.2] at this
    exact this
  refine (hU _).mono ?_
  rintro r w' ⟨rfl, hw⟩
  rw [hw]
  clear hw hU
  go_wp2_with fail
  refine h2.mono ?_
  rintro r v1 ⟨rfl, r1, o1⟩
  have z1 := HS1.out.2.1.off o1 (by have := HG.out; simp; omega)
  have y1 := HS1.out.2.2.1.off o1 (by have := HP.out; simp; omega)
  have f1 := y1.fz
  have g1 : v1.cell? ⟨p, 6, none⟩ = some (.int .i64 0) := y1.cell 6
  obtain ⟨w2, hw2⟩ : ∃ y, v1.setCell ⟨p, 6, none⟩ (.int .i64 ((V1 : Nat) : Int)) = y := ⟨_, rfl⟩
  have HS2 : Hid (RB w2 b (.slice (some ⟨g, adv (o + 1) e, none⟩) 0 e) ((x || !O0) || !O1) ∧ Bk w2 w.heap.size #[.int .i64 0, .int .i64 0, .int .i64 0, .int .i64 0, .int .i64 0, .int .u32 0, .int .i64 0, .bool false, .slice none 0 0] 45 ∧ Bk w2 p #[.int .i64 8, .int .i64 ((V0 : Nat) : Int), .int .i64 0, .int .i64 0, .int .i64 0, .int .u32 0, .int .i64 ((V1 : Nat) : Int), .bool false, .slice none 0 0] 45 ∧ Off [b, w.heap.size, p] w w2) := by
    rw [← hw2]
    have hG := HG.out
    have hP := HP.out
    have os := Off.setCell p 6 v1 (.int .i64 ((V1 : Nat) : Int))
    refine ⟨?_, z1.off os (by simp; omega), y1.set 6 _, (HS1.out.2.2.2.trans (o1.more (by simp))).trans (os.more (by simp))⟩
    have := RB.off r1 os (by simp; omega)
    exact this
  have HF2 : Hid (Off [b] w w2) := HH.out.1 p _ (by have := HP.out; omega) HS2.out.2.2.2
  clear h2 r1 o1 z1 y1
  go_upto_region 18 with fail
  try rw [hw2]
  clear hw2 f1 g1
  have p0 : w2.cell? ⟨p, 0, none⟩ = some (.int .i64 8) := HS2.out.2.2.1.cell 0
  have p1 : w2.cell? ⟨p, 1, none⟩ = some (.int .i64 ((V0 : Nat) : Int)) := HS2.out.2.2.1.cell 1
  have p2 : w2.cell? ⟨p, 2, none⟩ = some (.int .i64 0) := HS2.out.2.2.1.cell 2
  have p3 : w2.cell? ⟨p, 3, none⟩ = some (.int .i64 0) := HS2.out.2.2.1.cell 3
  have p4 : w2.cell? ⟨p, 4, none⟩ = some (.int .i64 0) := HS2.out.2.2.1.cell 4
  have p5 : w2.cell? ⟨p, 5, none⟩ = some (.int .u32 0) := HS2.out.2.2.1.cell 5
  have p6 : w2.cell? ⟨p, 6, none⟩ = some (.int .i64 ((V1 : Nat) : Int)) := HS2.out.2.2.1.cell 6
  have p7 : w2.cell? ⟨p, 7, none⟩ = some (.bool false) := HS2.out.2.2.1.cell 7
  have p8 : w2.cell? ⟨p, 8, none⟩ = some (.slice none 0 0) := HS2.out.2.2.1.cell 8
  have q0 : w2.cell? ⟨w.heap.size, 0, none⟩ = some (.int .i64 0) := HS2.out.2.1.cell 0
  have q1 : w2.cell? ⟨w.heap.size, 1, none⟩ = some (.int .i64 0) := HS2.out.2.1.cell 1
  have q2 : w2.cell? ⟨w.heap.size, 2, none⟩ = some (.int .i64 0) := HS2.out.2.1.cell 2
  have q3 : w2.cell? ⟨w.heap.size, 3, none⟩ = some (.int .i64 0) := HS2.out.2.1.cell 3
  have q4 : w2.cell? ⟨w.heap.size, 4, none⟩ = some (.int .i64 0) := HS2.out.2.1.cell 4
  have q5 : w2.cell? ⟨w.heap.size, 5, none⟩ = some (.int .u32 0) := HS2.out.2.1.cell 5
  have q6 : w2.cell? ⟨w.heap.size, 6, none⟩ = some (.int .i64 0) := HS2.out.2.1.cell 6
  have q7 : w2.cell? ⟨w.heap.size, 7, none⟩ = some (.bool false) := HS2.out.2.1.cell 7
  have q8 : w2.cell? ⟨w.heap.size, 8, none⟩ = some (.slice none 0 0) := HS2.out.2.1.cell 8
  have fz := HS2.out.2.1.fz
  have HO : Hid (Off [w.heap.size] w2 (((((((((w2.setCell ⟨w.heap.size, 0, none⟩ (.int .i64 8)).setCell ⟨w.heap.size, 1, none⟩ (.int .i64 ((V0 : Nat) : Int))).setCell ⟨w.heap.size, 2, none⟩ (.int .i64 0)).setCell ⟨w.heap.size, 3, none⟩ (.int .i64 0)).setCell ⟨w.heap.size, 4, none⟩ (.int .i64 0)).setCell ⟨w.heap.size, 5, none⟩ (.int .u32 0)).setCell ⟨w.heap.size, 6, none⟩ (.int .i64 ((V1 : Nat) : Int))).setCell ⟨w.heap.size, 7, none⟩ (.bool false)).setCell ⟨w.heap.size, 8, none⟩ (.slice none 0 0))) := Off.trans (Off.trans (Off.trans (Off.trans (Off.trans (Off.trans (Off.trans (Off.trans (Off.trans (Off.refl [w.heap.size] w2) (Off.setCell w.heap.size 0 _ _)) (Off.setCell w.heap.size 1 _ _)) (Off.setCell w.heap.size 2 _ _)) (Off.setCell w.heap.size 3 _ _)) (Off.setCell w.heap.size 4 _ _)) (Off.setCell w.heap.size 5 _ _)) (Off.setCell w.heap.size 6 _ _)) (Off.setCell w.heap.size 7 _ _)) (Off.setCell w.heap.size 8 _ _)
  go_wp2_with fail
  refine bodyPost_ret (v := .agg #[.int .i64 8, .int .i64 ((V0 : Nat) : Int), .int .i64 0, .int .i64 0, .int .i64 0, .int .u32 0, .int .i64 ((V1 : Nat) : Int), .bool false, .slice none 0 0]) (by simp [results, Tryd.results42, go_sem, q0, q1, q2, q3, q4, q5, q6, q7, q8]) rfl ?_
  obtain ⟨w9, hw9⟩ : ∃ y, (((((((((w2.setCell ⟨w.heap.size, 0, none⟩ (.int .i64 8)).setCell ⟨w.heap.size, 1, none⟩ (.int .i64 ((V0 : Nat) : Int))).setCell ⟨w.heap.size, 2, none⟩ (.int .i64 0)).setCell ⟨w.heap.size, 3, none⟩ (.int .i64 0)).setCell ⟨w.heap.size, 4, none⟩ (.int .i64 0)).setCell ⟨w.heap.size, 5, none⟩ (.int .u32 0)).setCell ⟨w.heap.size, 6, none⟩ (.int .i64 ((V1 : Nat) : Int))).setCell ⟨w.heap.size, 7, none⟩ (.bool false)).setCell ⟨w.heap.size, 8, none⟩ (.slice none 0 0)) = y := ⟨_, rfl⟩
  rw [hw9] at HO ⊢
  clear hw9
  refine ⟨rfl, ⟨_, RB.off HS2.out.1 HO.out (by have := HG.out; simp; omega)⟩, ?_⟩
  exact HH.out.1 p _ (by have := HP.out; omega) (HS2.out.2.2.2.trans (HO.out.more (by simp)))
end Go.Proofs.YtnmnjcjfgbpkaaaDoor

