/- Layer 20: a move without what its kind doesn't use. (gensqd.py) -/
import Derived.Test.YtnmnjcjfgbpkaaaDoorJSqa
namespace Go.Proofs.YtnmnjcjfgbpkaaaDoor
set_option maxRecDepth 100000
open Go.RowKit Go.Maps
set_option maxRecDepth 100000
set_option linter.unusedVariables false
/-- 'append(own, xs...)' as one step, own empty. -/
theorem step_append8B {ops : Array Oper} {o : Oper} {a : Act} {w : World} {K : Act → World → Prop} {Q : Exit → Act → World → Prop} {E : Prop}
    (hg : o.guard = none) (s x : Operand) (hop : o.op = Op.call { callee := Callee.builtin Builtin.append, args := #[s, x], argTypes := #[43, 43] })
    (B : Nat) (v : Value) (hs : a.eval s = v) (hown : w.ownsRow B 5 1 v 0 [])
    (ao : Option Addr) (m c : Nat) (bs : Nat → Nat) (hx : a.eval x = .slice ao m c) (hrow : Row8 w ao m c bs) (hm : m ≤ 1000000)
    (w0 : World) (hb : Below B w0 w) (hB0 : B ≤ w0.heap.size)
    (hK : ∀ a' c' w', Hid (Row8 w' a' m c' bs ∧ ∀ y, a' = some y → 0 < m → B ≤ y.block) → Below B w0 w' → K (a.put o.dst (.slice a' m c')) w') :
    if Region.wanted o (yielded ops a.tmps) = true then Oper.wp Tryd.prog o a w K Q else E := by
  obtain ⟨i0, hi, hz0, hz1, hz2⟩ := info_parts info_u8
  have hw : Region.wanted o (yielded ops a.tmps) = true := by simp [Region.wanted, hg]
  rw [if_pos hw]
  have hBw : B ≤ w.heap.size := Nat.le_trans hB0 hb.size
  have fin : ∀ v' w', w'.ownsRow B 5 1 v' m (CB bs m) → w.grownBy w' v.ownBlock → K (a.put o.dst v') w' := by
    intro v' w' h1 h2
    have h3 := hb.grown h2 hBw (fun j hj => (hown.lt j hj).1)
    obtain ⟨a', c', rfl, R⟩ := own_row8 h1 hrow.byte
    refine hK a' c' w' ⟨R, fun y hy hn => ?_⟩ h3
    exact (h1.lt y.block (by rw [hy]; rfl)).1
  cases ao with
  | none =>
    obtain ⟨rfl, rfl⟩ := hrow.nil rfl
    have hrun := run_append_owned_none (P := Tryd.prog) (w := w) B 43 o.type 5 i0 1 Tryd.underlying43 hi v 0 [] hown
    have hk := fin v w hown ⟨rfl, rfl, rfl, Nat.le_refl _, fun _ _ _ => rfl⟩
    unfold Oper.wp
    simp [execOp, hop, resolve, invoke, builtin, hs, hx, hrun, Result.andThen]
    exact hk
  | some ad =>
    refine wp_append_own w s x _ hop B 5 i0 (.int .u8 0) 1 1 Tryd.underlying43 hi hz0 hz1 hz2 rfl (by decide) v 0 [] hs hown ad m c (CB bs m) hx (by rw [CB_length, Nat.mul_one]) ?_ (CB_one bs m) (by unfold maxLen; omega) (by omega) hBw (fun v' w' h1 h2 _ => fin v' w' (by simpa using h1) h2)
    intro j u hj
    by_cases hlt : j < m
    · rw [CB_get bs m j hlt] at hj
      cases hj
      exact hrow.src ad rfl j hlt
    · have := (List.getElem?_eq_some_iff.1 hj).1
      rw [CB_length] at this
      omega
theorem Row8.setB {w : World} {a : Option Addr} {l c g i : Nat} {b : Nat → Nat} {v : Value} (h : Row8 w a l c b) (hne : ∀ y, a = some y → 0 < l → y.block ≠ g) : Row8 (w.setCell ⟨g, i, none⟩ v) a l c b := h.offS (Off.setCell g i w v) (fun y hy hn => by have := hne y hy hn; simpa using this)
theorem own0B (w : World) (B : Nat) (h : B ≤ w.heap.size) : (w.alloc (.cells #[] 5)).ownsRow B 5 1 (.slice (some ⟨w.heap.size, 0, none⟩) 0 0) 0 [] := World.ownsRow_made w #[] 0 h (Nat.zero_le _) rfl
theorem own0Bd (w : World) (B : Nat) (h : B ≤ w.heap.size) : ((w.alloc (.cells #[] 5)).drew).ownsRow B 5 1 (.slice (some ⟨w.heap.size, 0, none⟩) 0 0) 0 [] := ownB (own0B w B h) (Below.drew (Below.refl _ _))
/-- What Bare leaves. -/
def BaP (m : Mv) (w : World) (r : Ending) (w' : World) : Prop := ∃ a' c', r = .returned (.agg (m.cs a' c')) ∧ Hid (Row8 w' a' m.l c' m.b ∧ Below w.heap.size w w')
set_option maxHeartbeats 4000000 in
theorem pbare_1 (c s f a n : Int) (v : Nat) (h : Bool) (l : Nat) (b : Nat → Nat) (d : Option Addr) (e : Nat) (w : World) (hr : Row8 w d l e b) (hl : l ≤ 1000000) : Calls Tryd.prog 16 #[.agg #[.int .i64 1, .int .i64 c, .int .i64 s, .int .i64 f, .int .i64 a, .int .u32 (v : Nat), .int .i64 n, .bool h, .slice d l e]] w (BaP (Mv.mk 1 c s f a v n h l b).bare w) := by
  have k1 := Bk.new w #[.int .i64 1, .int .i64 c, .int .i64 s, .int .i64 f, .int .i64 a, .int .u32 (v : Nat), .int .i64 n, .bool h, .slice d l e] 45
  have k2 := Bk.new (w.alloc (.cells #[.int .i64 1, .int .i64 c, .int .i64 s, .int .i64 f, .int .i64 a, .int .u32 (v : Nat), .int .i64 n, .bool h, .slice d l e] 45)) #[.int .i64 0, .int .i64 0, .int .i64 0, .int .i64 0, .int .i64 0, .int .u32 0, .int .i64 0, .bool false, .slice none 0 0] 45
  have k3 := Bk.new ((w.alloc (.cells #[.int .i64 1, .int .i64 c, .int .i64 s, .int .i64 f, .int .i64 a, .int .u32 (v : Nat), .int .i64 n, .bool h, .slice d l e] 45)).alloc (.cells #[.int .i64 0, .int .i64 0, .int .i64 0, .int .i64 0, .int .i64 0, .int .u32 0, .int .i64 0, .bool false, .slice none 0 0] 45)) #[.int .i64 1, .int .i64 c, .int .i64 0, .int .i64 0, .int .i64 0, .int .u32 0, .int .i64 0, .bool false, .slice none 0 0] 45
  simp only [World.size_alloc] at k2 k3
  have k1 := (k1.off (l := []) (Off.alloc _ _ (.cells #[.int .i64 0, .int .i64 0, .int .i64 0, .int .i64 0, .int .i64 0, .int .u32 0, .int .i64 0, .bool false, .slice none 0 0] 45)) (by simp)).off (l := []) (Off.alloc _ _ (.cells #[.int .i64 1, .int .i64 c, .int .i64 0, .int .i64 0, .int .i64 0, .int .u32 0, .int .i64 0, .bool false, .slice none 0 0] 45)) (by simp)
  have k2 := k2.off (l := []) (Off.alloc _ _ (.cells #[.int .i64 1, .int .i64 c, .int .i64 0, .int .i64 0, .int .i64 0, .int .u32 0, .int .i64 0, .bool false, .slice none 0 0] 45)) (by simp)
  have bW : Below w.heap.size w (((w.alloc (.cells #[.int .i64 1, .int .i64 c, .int .i64 s, .int .i64 f, .int .i64 a, .int .u32 (v : Nat), .int .i64 n, .bool h, .slice d l e] 45)).alloc (.cells #[.int .i64 0, .int .i64 0, .int .i64 0, .int .i64 0, .int .i64 0, .int .u32 0, .int .i64 0, .bool false, .slice none 0 0] 45)).alloc (.cells #[.int .i64 1, .int .i64 c, .int .i64 0, .int .i64 0, .int .i64 0, .int .u32 0, .int .i64 0, .bool false, .slice none 0 0] 45)) := belA (belA (belA (Below.refl _ w) _) _) _
  obtain ⟨W, hW⟩ : ∃ y, ((w.alloc (.cells #[.int .i64 1, .int .i64 c, .int .i64 s, .int .i64 f, .int .i64 a, .int .u32 (v : Nat), .int .i64 n, .bool h, .slice d l e] 45)).alloc (.cells #[.int .i64 0, .int .i64 0, .int .i64 0, .int .i64 0, .int .i64 0, .int .u32 0, .int .i64 0, .bool false, .slice none 0 0] 45)).alloc (.cells #[.int .i64 1, .int .i64 c, .int .i64 0, .int .i64 0, .int .i64 0, .int .u32 0, .int .i64 0, .bool false, .slice none 0 0] 45) = y := ⟨_, rfl⟩
  rw [hW] at k1 k2 k3 bW
  have hR := hr.below bW
  have HW : Hid (Below w.heap.size w W ∧ Bk W w.heap.size #[.int .i64 1, .int .i64 c, .int .i64 s, .int .i64 f, .int .i64 a, .int .u32 (v : Nat), .int .i64 n, .bool h, .slice d l e] 45 ∧ Bk W (w.heap.size + 1) #[.int .i64 0, .int .i64 0, .int .i64 0, .int .i64 0, .int .i64 0, .int .u32 0, .int .i64 0, .bool false, .slice none 0 0] 45 ∧ Bk W (w.heap.size + 1 + 1) #[.int .i64 1, .int .i64 c, .int .i64 0, .int .i64 0, .int .i64 0, .int .u32 0, .int .i64 0, .bool false, .slice none 0 0] 45 ∧ Row8 W d l e b) := ⟨bW, k1, k2, k3, hR⟩
  obtain ⟨q, hq⟩ : ∃ y, w.heap.size + 1 = y := ⟨_, rfl⟩
  rw [hq] at k2 k3 HW
  obtain ⟨x, hx⟩ : ∃ y, q + 1 = y := ⟨_, rfl⟩
  rw [hx] at k3 HW
  have n1 : ¬ w.heap.size = q := by omega
  have n2 : ¬ q = w.heap.size := by omega
  have n3 : ¬ w.heap.size = x := by omega
  have n4 : ¬ x = w.heap.size := by omega
  have n5 : ¬ q = x := by omega
  have n6 : ¬ x = q := by omega
  have hpq : w.heap.size ≤ q := by omega
  have hpx : w.heap.size ≤ x := by omega
  have hbare : (Mv.mk 1 c s f a v n h l b).bare = ⟨1, c, s, 0, 0, 0, 0, h, l, b⟩ := by simp [Mv.bare, sided]
  rw [hbare]
  clear hbare
  have m0 : W.cell? ⟨w.heap.size, 0, none⟩ = some (.int .i64 1) := k1.cell 0
  have m1 : W.cell? ⟨w.heap.size, 1, none⟩ = some (.int .i64 c) := k1.cell 1
  have m2 : W.cell? ⟨w.heap.size, 2, none⟩ = some (.int .i64 s) := k1.cell 2
  have m3 : W.cell? ⟨w.heap.size, 3, none⟩ = some (.int .i64 f) := k1.cell 3
  have m4 : W.cell? ⟨w.heap.size, 4, none⟩ = some (.int .i64 a) := k1.cell 4
  have m5 : W.cell? ⟨w.heap.size, 5, none⟩ = some (.int .u32 (v : Nat)) := k1.cell 5
  have m6 : W.cell? ⟨w.heap.size, 6, none⟩ = some (.int .i64 n) := k1.cell 6
  have m7 : W.cell? ⟨w.heap.size, 7, none⟩ = some (.bool h) := k1.cell 7
  have m8 : W.cell? ⟨w.heap.size, 8, none⟩ = some (.slice d l e) := k1.cell 8
  have z0 : W.cell? ⟨q, 0, none⟩ = some (.int .i64 0) := k2.cell 0
  have z1 : W.cell? ⟨q, 1, none⟩ = some (.int .i64 0) := k2.cell 1
  have z2 : W.cell? ⟨q, 2, none⟩ = some (.int .i64 0) := k2.cell 2
  have z3 : W.cell? ⟨q, 3, none⟩ = some (.int .i64 0) := k2.cell 3
  have z4 : W.cell? ⟨q, 4, none⟩ = some (.int .i64 0) := k2.cell 4
  have z5 : W.cell? ⟨q, 5, none⟩ = some (.int .u32 0) := k2.cell 5
  have z6 : W.cell? ⟨q, 6, none⟩ = some (.int .i64 0) := k2.cell 6
  have z7 : W.cell? ⟨q, 7, none⟩ = some (.bool false) := k2.cell 7
  have z8 : W.cell? ⟨q, 8, none⟩ = some (.slice none 0 0) := k2.cell 8
  have x0 : W.cell? ⟨x, 0, none⟩ = some (.int .i64 1) := k3.cell 0
  have x1 : W.cell? ⟨x, 1, none⟩ = some (.int .i64 c) := k3.cell 1
  have x2 : W.cell? ⟨x, 2, none⟩ = some (.int .i64 0) := k3.cell 2
  have x3 : W.cell? ⟨x, 3, none⟩ = some (.int .i64 0) := k3.cell 3
  have x4 : W.cell? ⟨x, 4, none⟩ = some (.int .i64 0) := k3.cell 4
  have x5 : W.cell? ⟨x, 5, none⟩ = some (.int .u32 0) := k3.cell 5
  have x6 : W.cell? ⟨x, 6, none⟩ = some (.int .i64 0) := k3.cell 6
  have x7 : W.cell? ⟨x, 7, none⟩ = some (.bool false) := k3.cell 7
  have x8 : W.cell? ⟨x, 8, none⟩ = some (.slice none 0 0) := k3.cell 8
  have fz := k2.fz
  have fx := k3.fz
  have HE : Hid (_ = W ∧ w.heap.size + 1 = q ∧ q + 1 = x) := ⟨hW, hq, hx⟩
  clear k1 k2 k3 bW hr hR hW hq hx
  go_enter Tryd.func16, Tryd.ntmps16
  go_upto_region 2 with fail
  rw [HE.out.1, HE.out.2.1, HE.out.2.2]
  clear HE
  go_upto_region 6 with fail
  have k3 : Bk (W.setCell ⟨x, 2, none⟩ (.int .i64 s)) (x) #[.int .i64 1, .int .i64 c, .int .i64 s, .int .i64 0, .int .i64 0, .int .u32 0, .int .i64 0, .bool false, .slice none 0 0] 45 := HW.out.2.2.2.1.set 2 _
  have oV : Off [x] W (W.setCell ⟨x, 2, none⟩ (.int .i64 s)) := Off.setCell _ _ _ _
  have k1 := HW.out.2.1.off oV (by simp; exact n3)
  have k2 := HW.out.2.2.1.off oV (by simp; exact n5)
  have rV := HW.out.2.2.2.2.offS oV (fun x hx hn => by
    have := row8_ne HW.out.2.2.2.2 HW.out.2.2.2.1 (by intro v hv n e; subst e; simp at hv) x hx hn
    simpa using this)
  have bV : Below w.heap.size w (W.setCell ⟨x, 2, none⟩ (.int .i64 s)) := HW.out.1.setCell (p := ⟨x, 2, none⟩) hpx _
  obtain ⟨V, hV⟩ : ∃ y, W.setCell ⟨x, 2, none⟩ (.int .i64 s) = y := ⟨_, rfl⟩
  rw [hV] at k1 k2 k3 rV bV ⊢
  clear hV oV m0 z0 x0 m1 z1 x1 m2 z2 x2 m3 z3 x3 m4 z4 x4 m5 z5 x5 m6 z6 x6 m7 z7 x7 m8 z8 x8 fz fx
  have hS : ∀ wx, Below V.heap.size V wx → wx.cell? ⟨w.heap.size, 8, none⟩ = some (.slice d l e) ∧ wx.cell? ⟨w.heap.size, 7, none⟩ = some (.bool h) := fun wx bx => ⟨cellB (k1.cell 8) bx, cellB (k1.cell 7) bx⟩
  obtain ⟨s8, s7⟩ := hS V (Below.refl _ _)
  obtain ⟨t8, t7⟩ := hS V.drew (Below.drew (Below.refl _ _))
  have r8 : ∀ ob, (V.alloc ob).cell? ⟨w.heap.size, 8, none⟩ = some (.slice d l e) := fun ob => (hS _ (belA (Below.refl _ _) ob)).1
  have r7 : ∀ ob, (V.alloc ob).cell? ⟨w.heap.size, 7, none⟩ = some (.bool h) := fun ob => (hS _ (belA (Below.refl _ _) ob)).2
  have o8 : ∀ ob, ((V.alloc ob).drew).cell? ⟨w.heap.size, 8, none⟩ = some (.slice d l e) := fun ob => (hS _ (Below.drew (belA (Below.refl _ _) ob))).1
  have o7 : ∀ ob, ((V.alloc ob).drew).cell? ⟨w.heap.size, 7, none⟩ = some (.bool h) := fun ob => (hS _ (Below.drew (belA (Below.refl _ _) ob))).2
  have HK : Hid (q < V.heap.size ∧ x < V.heap.size) := ⟨k2.lt, k3.lt⟩
  have B0 : Below V.heap.size V V.drew := Below.drew (Below.refl _ _)
  have hSs : ∀ (wx : World) (u : Value) (i : Nat), (wx.cell? ⟨w.heap.size, 8, none⟩ = some (.slice d l e) ∧ wx.cell? ⟨w.heap.size, 7, none⟩ = some (.bool h)) → ((wx.setCell ⟨x, i, none⟩ u).cell? ⟨w.heap.size, 8, none⟩ = some (.slice d l e) ∧ (wx.setCell ⟨x, i, none⟩ u).cell? ⟨w.heap.size, 7, none⟩ = some (.bool h)) := fun wx u i q => by
    rw [World.cell?_setCell_other _ _ _ _ (by simp), World.cell?_setCell_other _ _ _ _ (by simp)]
    exact q
  go_region_held3 (fun wx => wx.cell? ⟨w.heap.size, 8, none⟩ = some (.slice d l e) ∧ wx.cell? ⟨w.heap.size, 7, none⟩ = some (.bool h)) (first | assumption | exact hS _ (by assumption) | exact hSs _ _ _ (hS _ (by assumption)) | exact hSs _ _ _ (hSs _ _ _ (hS _ (by assumption))) | exact hS _ (by repeat (first | with_reducible exact Below.refl _ _ | with_reducible refine Below.drew ?_ | with_reducible refine belA ?_ _)) | fail) (first
    | (refine step_append8B rfl (.tmp 24) (.tmp 26) rfl V.heap.size _ rfl (by first | exact own0B _ _ (Nat.le_refl _) | exact own0Bd _ _ (Nat.le_refl _)) d l e b rfl (rV.below (by repeat (first | with_reducible exact Below.refl _ _ | with_reducible refine Below.drew ?_ | with_reducible refine belA ?_ _))) hl V (by repeat (first | with_reducible exact Below.refl _ _ | with_reducible refine Below.drew ?_ | with_reducible refine belA ?_ _)) (Nat.le_refl _) ?_; intro a2 c2 w2 h2 b2; have j2 := k2.off (Off.of_below (l := []) b2) (by simp); have j3 := k3.off (Off.of_below (l := []) b2) (by simp); have y8 := (hS _ b2).1; have y7 := (hS _ b2).2; have z0 : w2.cell? ⟨q, 0, none⟩ = some (.int .i64 0) := j2.cell 0; have z1 : w2.cell? ⟨q, 1, none⟩ = some (.int .i64 0) := j2.cell 1; have z2 : w2.cell? ⟨q, 2, none⟩ = some (.int .i64 0) := j2.cell 2; have z3 : w2.cell? ⟨q, 3, none⟩ = some (.int .i64 0) := j2.cell 3; have z4 : w2.cell? ⟨q, 4, none⟩ = some (.int .i64 0) := j2.cell 4; have z5 : w2.cell? ⟨q, 5, none⟩ = some (.int .u32 0) := j2.cell 5; have z6 : w2.cell? ⟨q, 6, none⟩ = some (.int .i64 0) := j2.cell 6; have z7 : w2.cell? ⟨q, 7, none⟩ = some (.bool false) := j2.cell 7; have z8 : w2.cell? ⟨q, 8, none⟩ = some (.slice none 0 0) := j2.cell 8; have x0 : w2.cell? ⟨x, 0, none⟩ = some (.int .i64 1) := j3.cell 0; have x1 : w2.cell? ⟨x, 1, none⟩ = some (.int .i64 c) := j3.cell 1; have x2 : w2.cell? ⟨x, 2, none⟩ = some (.int .i64 s) := j3.cell 2; have x3 : w2.cell? ⟨x, 3, none⟩ = some (.int .i64 0) := j3.cell 3; have x4 : w2.cell? ⟨x, 4, none⟩ = some (.int .i64 0) := j3.cell 4; have x5 : w2.cell? ⟨x, 5, none⟩ = some (.int .u32 0) := j3.cell 5; have x6 : w2.cell? ⟨x, 6, none⟩ = some (.int .i64 0) := j3.cell 6; have x7 : w2.cell? ⟨x, 7, none⟩ = some (.bool false) := j3.cell 7; have x8 : w2.cell? ⟨x, 8, none⟩ = some (.slice none 0 0) := j3.cell 8; have fz := j2.fz; have fx := j3.fz)
    | fail)
  all_goals
    go_wp2_with fail
    refine bodyPost_ret (v := .agg #[.int .i64 1, .int .i64 c, .int .i64 s, .int .i64 0, .int .i64 0, .int .u32 0, .int .i64 0, .bool h, .slice a2 l c2]) (by simp [results, Tryd.results16, go_sem, z0, z1, z2, z3, z4, z5, z6, z7, z8]) rfl ?_
    refine ⟨a2, c2, rfl, ?_, ?_⟩
    · have hx := HK.out
      repeat (refine Row8.setB ?_ (fun y hy hn => by have := h2.out.2 y hy hn; omega))
      exact h2.out.1
    · repeat (refine Below.setCell ?_ (by show w.heap.size ≤ _; omega) _)
      exact bV.trans (b2.mono bV.size)
set_option maxHeartbeats 4000000 in
theorem pbare_2 (c s f a n : Int) (v : Nat) (h : Bool) (l : Nat) (b : Nat → Nat) (d : Option Addr) (e : Nat) (w : World) (hr : Row8 w d l e b) : Calls Tryd.prog 16 #[.agg #[.int .i64 2, .int .i64 c, .int .i64 s, .int .i64 f, .int .i64 a, .int .u32 (v : Nat), .int .i64 n, .bool h, .slice d l e]] w (BaP (Mv.mk 2 c s f a v n h l b).bare w) := by
  have k1 := Bk.new w #[.int .i64 2, .int .i64 c, .int .i64 s, .int .i64 f, .int .i64 a, .int .u32 (v : Nat), .int .i64 n, .bool h, .slice d l e] 45
  have k2 := Bk.new (w.alloc (.cells #[.int .i64 2, .int .i64 c, .int .i64 s, .int .i64 f, .int .i64 a, .int .u32 (v : Nat), .int .i64 n, .bool h, .slice d l e] 45)) #[.int .i64 0, .int .i64 0, .int .i64 0, .int .i64 0, .int .i64 0, .int .u32 0, .int .i64 0, .bool false, .slice none 0 0] 45
  have k3 := Bk.new ((w.alloc (.cells #[.int .i64 2, .int .i64 c, .int .i64 s, .int .i64 f, .int .i64 a, .int .u32 (v : Nat), .int .i64 n, .bool h, .slice d l e] 45)).alloc (.cells #[.int .i64 0, .int .i64 0, .int .i64 0, .int .i64 0, .int .i64 0, .int .u32 0, .int .i64 0, .bool false, .slice none 0 0] 45)) #[.int .i64 2, .int .i64 c, .int .i64 0, .int .i64 0, .int .i64 0, .int .u32 0, .int .i64 0, .bool false, .slice none 0 0] 45
  simp only [World.size_alloc] at k2 k3
  have k1 := (k1.off (l := []) (Off.alloc _ _ (.cells #[.int .i64 0, .int .i64 0, .int .i64 0, .int .i64 0, .int .i64 0, .int .u32 0, .int .i64 0, .bool false, .slice none 0 0] 45)) (by simp)).off (l := []) (Off.alloc _ _ (.cells #[.int .i64 2, .int .i64 c, .int .i64 0, .int .i64 0, .int .i64 0, .int .u32 0, .int .i64 0, .bool false, .slice none 0 0] 45)) (by simp)
  have k2 := k2.off (l := []) (Off.alloc _ _ (.cells #[.int .i64 2, .int .i64 c, .int .i64 0, .int .i64 0, .int .i64 0, .int .u32 0, .int .i64 0, .bool false, .slice none 0 0] 45)) (by simp)
  have bW : Below w.heap.size w (((w.alloc (.cells #[.int .i64 2, .int .i64 c, .int .i64 s, .int .i64 f, .int .i64 a, .int .u32 (v : Nat), .int .i64 n, .bool h, .slice d l e] 45)).alloc (.cells #[.int .i64 0, .int .i64 0, .int .i64 0, .int .i64 0, .int .i64 0, .int .u32 0, .int .i64 0, .bool false, .slice none 0 0] 45)).alloc (.cells #[.int .i64 2, .int .i64 c, .int .i64 0, .int .i64 0, .int .i64 0, .int .u32 0, .int .i64 0, .bool false, .slice none 0 0] 45)) := belA (belA (belA (Below.refl _ w) _) _) _
  obtain ⟨W, hW⟩ : ∃ y, ((w.alloc (.cells #[.int .i64 2, .int .i64 c, .int .i64 s, .int .i64 f, .int .i64 a, .int .u32 (v : Nat), .int .i64 n, .bool h, .slice d l e] 45)).alloc (.cells #[.int .i64 0, .int .i64 0, .int .i64 0, .int .i64 0, .int .i64 0, .int .u32 0, .int .i64 0, .bool false, .slice none 0 0] 45)).alloc (.cells #[.int .i64 2, .int .i64 c, .int .i64 0, .int .i64 0, .int .i64 0, .int .u32 0, .int .i64 0, .bool false, .slice none 0 0] 45) = y := ⟨_, rfl⟩
  rw [hW] at k1 k2 k3 bW
  have hR := hr.below bW
  have HW : Hid (Below w.heap.size w W ∧ Bk W w.heap.size #[.int .i64 2, .int .i64 c, .int .i64 s, .int .i64 f, .int .i64 a, .int .u32 (v : Nat), .int .i64 n, .bool h, .slice d l e] 45 ∧ Bk W (w.heap.size + 1) #[.int .i64 0, .int .i64 0, .int .i64 0, .int .i64 0, .int .i64 0, .int .u32 0, .int .i64 0, .bool false, .slice none 0 0] 45 ∧ Bk W (w.heap.size + 1 + 1) #[.int .i64 2, .int .i64 c, .int .i64 0, .int .i64 0, .int .i64 0, .int .u32 0, .int .i64 0, .bool false, .slice none 0 0] 45 ∧ Row8 W d l e b) := ⟨bW, k1, k2, k3, hR⟩
  obtain ⟨q, hq⟩ : ∃ y, w.heap.size + 1 = y := ⟨_, rfl⟩
  rw [hq] at k2 k3 HW
  obtain ⟨x, hx⟩ : ∃ y, q + 1 = y := ⟨_, rfl⟩
  rw [hx] at k3 HW
  have n1 : ¬ w.heap.size = q := by omega
  have n2 : ¬ q = w.heap.size := by omega
  have n3 : ¬ w.heap.size = x := by omega
  have n4 : ¬ x = w.heap.size := by omega
  have n5 : ¬ q = x := by omega
  have n6 : ¬ x = q := by omega
  have hpq : w.heap.size ≤ q := by omega
  have hpx : w.heap.size ≤ x := by omega
  have hbare : (Mv.mk 2 c s f a v n h l b).bare = ⟨2, c, 0, 0, 0, 0, 0, false, 0, fun _ => 0⟩ := by simp [Mv.bare, sided]
  rw [hbare]
  clear hbare
  have m0 : W.cell? ⟨w.heap.size, 0, none⟩ = some (.int .i64 2) := k1.cell 0
  have m1 : W.cell? ⟨w.heap.size, 1, none⟩ = some (.int .i64 c) := k1.cell 1
  have m2 : W.cell? ⟨w.heap.size, 2, none⟩ = some (.int .i64 s) := k1.cell 2
  have m3 : W.cell? ⟨w.heap.size, 3, none⟩ = some (.int .i64 f) := k1.cell 3
  have m4 : W.cell? ⟨w.heap.size, 4, none⟩ = some (.int .i64 a) := k1.cell 4
  have m5 : W.cell? ⟨w.heap.size, 5, none⟩ = some (.int .u32 (v : Nat)) := k1.cell 5
  have m6 : W.cell? ⟨w.heap.size, 6, none⟩ = some (.int .i64 n) := k1.cell 6
  have m7 : W.cell? ⟨w.heap.size, 7, none⟩ = some (.bool h) := k1.cell 7
  have m8 : W.cell? ⟨w.heap.size, 8, none⟩ = some (.slice d l e) := k1.cell 8
  have z0 : W.cell? ⟨q, 0, none⟩ = some (.int .i64 0) := k2.cell 0
  have z1 : W.cell? ⟨q, 1, none⟩ = some (.int .i64 0) := k2.cell 1
  have z2 : W.cell? ⟨q, 2, none⟩ = some (.int .i64 0) := k2.cell 2
  have z3 : W.cell? ⟨q, 3, none⟩ = some (.int .i64 0) := k2.cell 3
  have z4 : W.cell? ⟨q, 4, none⟩ = some (.int .i64 0) := k2.cell 4
  have z5 : W.cell? ⟨q, 5, none⟩ = some (.int .u32 0) := k2.cell 5
  have z6 : W.cell? ⟨q, 6, none⟩ = some (.int .i64 0) := k2.cell 6
  have z7 : W.cell? ⟨q, 7, none⟩ = some (.bool false) := k2.cell 7
  have z8 : W.cell? ⟨q, 8, none⟩ = some (.slice none 0 0) := k2.cell 8
  have x0 : W.cell? ⟨x, 0, none⟩ = some (.int .i64 2) := k3.cell 0
  have x1 : W.cell? ⟨x, 1, none⟩ = some (.int .i64 c) := k3.cell 1
  have x2 : W.cell? ⟨x, 2, none⟩ = some (.int .i64 0) := k3.cell 2
  have x3 : W.cell? ⟨x, 3, none⟩ = some (.int .i64 0) := k3.cell 3
  have x4 : W.cell? ⟨x, 4, none⟩ = some (.int .i64 0) := k3.cell 4
  have x5 : W.cell? ⟨x, 5, none⟩ = some (.int .u32 0) := k3.cell 5
  have x6 : W.cell? ⟨x, 6, none⟩ = some (.int .i64 0) := k3.cell 6
  have x7 : W.cell? ⟨x, 7, none⟩ = some (.bool false) := k3.cell 7
  have x8 : W.cell? ⟨x, 8, none⟩ = some (.slice none 0 0) := k3.cell 8
  have fz := k2.fz
  have fx := k3.fz
  have HE : Hid (_ = W ∧ w.heap.size + 1 = q ∧ q + 1 = x) := ⟨hW, hq, hx⟩
  clear k1 k2 k3 bW hr hR hW hq hx
  go_enter Tryd.func16, Tryd.ntmps16
  go_upto_region 2 with fail
  rw [HE.out.1, HE.out.2.1, HE.out.2.2]
  clear HE
  go_wp2_with fail
  refine bodyPost_ret (v := .agg #[.int .i64 2, .int .i64 c, .int .i64 0, .int .i64 0, .int .i64 0, .int .u32 0, .int .i64 0, .bool false, .slice none 0 0]) (by simp [results, Tryd.results16, go_sem, z0, z1, z2, z3, z4, z5, z6, z7, z8]) rfl ?_
  refine ⟨none, 0, rfl, row8_0 _, ?_⟩
  repeat (first | with_reducible refine Below.setCell ?_ hpq _ | with_reducible refine Below.setCell ?_ hpx _)
  exact HW.out.1
set_option maxHeartbeats 4000000 in
theorem pbare_3 (c s f a n : Int) (v : Nat) (h : Bool) (l : Nat) (b : Nat → Nat) (d : Option Addr) (e : Nat) (w : World) (hr : Row8 w d l e b) : Calls Tryd.prog 16 #[.agg #[.int .i64 3, .int .i64 c, .int .i64 s, .int .i64 f, .int .i64 a, .int .u32 (v : Nat), .int .i64 n, .bool h, .slice d l e]] w (BaP (Mv.mk 3 c s f a v n h l b).bare w) := by
  have k1 := Bk.new w #[.int .i64 3, .int .i64 c, .int .i64 s, .int .i64 f, .int .i64 a, .int .u32 (v : Nat), .int .i64 n, .bool h, .slice d l e] 45
  have k2 := Bk.new (w.alloc (.cells #[.int .i64 3, .int .i64 c, .int .i64 s, .int .i64 f, .int .i64 a, .int .u32 (v : Nat), .int .i64 n, .bool h, .slice d l e] 45)) #[.int .i64 0, .int .i64 0, .int .i64 0, .int .i64 0, .int .i64 0, .int .u32 0, .int .i64 0, .bool false, .slice none 0 0] 45
  have k3 := Bk.new ((w.alloc (.cells #[.int .i64 3, .int .i64 c, .int .i64 s, .int .i64 f, .int .i64 a, .int .u32 (v : Nat), .int .i64 n, .bool h, .slice d l e] 45)).alloc (.cells #[.int .i64 0, .int .i64 0, .int .i64 0, .int .i64 0, .int .i64 0, .int .u32 0, .int .i64 0, .bool false, .slice none 0 0] 45)) #[.int .i64 3, .int .i64 c, .int .i64 0, .int .i64 0, .int .i64 0, .int .u32 0, .int .i64 0, .bool false, .slice none 0 0] 45
  simp only [World.size_alloc] at k2 k3
  have k1 := (k1.off (l := []) (Off.alloc _ _ (.cells #[.int .i64 0, .int .i64 0, .int .i64 0, .int .i64 0, .int .i64 0, .int .u32 0, .int .i64 0, .bool false, .slice none 0 0] 45)) (by simp)).off (l := []) (Off.alloc _ _ (.cells #[.int .i64 3, .int .i64 c, .int .i64 0, .int .i64 0, .int .i64 0, .int .u32 0, .int .i64 0, .bool false, .slice none 0 0] 45)) (by simp)
  have k2 := k2.off (l := []) (Off.alloc _ _ (.cells #[.int .i64 3, .int .i64 c, .int .i64 0, .int .i64 0, .int .i64 0, .int .u32 0, .int .i64 0, .bool false, .slice none 0 0] 45)) (by simp)
  have bW : Below w.heap.size w (((w.alloc (.cells #[.int .i64 3, .int .i64 c, .int .i64 s, .int .i64 f, .int .i64 a, .int .u32 (v : Nat), .int .i64 n, .bool h, .slice d l e] 45)).alloc (.cells #[.int .i64 0, .int .i64 0, .int .i64 0, .int .i64 0, .int .i64 0, .int .u32 0, .int .i64 0, .bool false, .slice none 0 0] 45)).alloc (.cells #[.int .i64 3, .int .i64 c, .int .i64 0, .int .i64 0, .int .i64 0, .int .u32 0, .int .i64 0, .bool false, .slice none 0 0] 45)) := belA (belA (belA (Below.refl _ w) _) _) _
  obtain ⟨W, hW⟩ : ∃ y, ((w.alloc (.cells #[.int .i64 3, .int .i64 c, .int .i64 s, .int .i64 f, .int .i64 a, .int .u32 (v : Nat), .int .i64 n, .bool h, .slice d l e] 45)).alloc (.cells #[.int .i64 0, .int .i64 0, .int .i64 0, .int .i64 0, .int .i64 0, .int .u32 0, .int .i64 0, .bool false, .slice none 0 0] 45)).alloc (.cells #[.int .i64 3, .int .i64 c, .int .i64 0, .int .i64 0, .int .i64 0, .int .u32 0, .int .i64 0, .bool false, .slice none 0 0] 45) = y := ⟨_, rfl⟩
  rw [hW] at k1 k2 k3 bW
  have hR := hr.below bW
  have HW : Hid (Below w.heap.size w W ∧ Bk W w.heap.size #[.int .i64 3, .int .i64 c, .int .i64 s, .int .i64 f, .int .i64 a, .int .u32 (v : Nat), .int .i64 n, .bool h, .slice d l e] 45 ∧ Bk W (w.heap.size + 1) #[.int .i64 0, .int .i64 0, .int .i64 0, .int .i64 0, .int .i64 0, .int .u32 0, .int .i64 0, .bool false, .slice none 0 0] 45 ∧ Bk W (w.heap.size + 1 + 1) #[.int .i64 3, .int .i64 c, .int .i64 0, .int .i64 0, .int .i64 0, .int .u32 0, .int .i64 0, .bool false, .slice none 0 0] 45 ∧ Row8 W d l e b) := ⟨bW, k1, k2, k3, hR⟩
  obtain ⟨q, hq⟩ : ∃ y, w.heap.size + 1 = y := ⟨_, rfl⟩
  rw [hq] at k2 k3 HW
  obtain ⟨x, hx⟩ : ∃ y, q + 1 = y := ⟨_, rfl⟩
  rw [hx] at k3 HW
  have n1 : ¬ w.heap.size = q := by omega
  have n2 : ¬ q = w.heap.size := by omega
  have n3 : ¬ w.heap.size = x := by omega
  have n4 : ¬ x = w.heap.size := by omega
  have n5 : ¬ q = x := by omega
  have n6 : ¬ x = q := by omega
  have hpq : w.heap.size ≤ q := by omega
  have hpx : w.heap.size ≤ x := by omega
  have hbare : (Mv.mk 3 c s f a v n h l b).bare = ⟨3, c, s, f, 0, 0, 0, false, 0, fun _ => 0⟩ := by simp [Mv.bare, sided]
  rw [hbare]
  clear hbare
  have m0 : W.cell? ⟨w.heap.size, 0, none⟩ = some (.int .i64 3) := k1.cell 0
  have m1 : W.cell? ⟨w.heap.size, 1, none⟩ = some (.int .i64 c) := k1.cell 1
  have m2 : W.cell? ⟨w.heap.size, 2, none⟩ = some (.int .i64 s) := k1.cell 2
  have m3 : W.cell? ⟨w.heap.size, 3, none⟩ = some (.int .i64 f) := k1.cell 3
  have m4 : W.cell? ⟨w.heap.size, 4, none⟩ = some (.int .i64 a) := k1.cell 4
  have m5 : W.cell? ⟨w.heap.size, 5, none⟩ = some (.int .u32 (v : Nat)) := k1.cell 5
  have m6 : W.cell? ⟨w.heap.size, 6, none⟩ = some (.int .i64 n) := k1.cell 6
  have m7 : W.cell? ⟨w.heap.size, 7, none⟩ = some (.bool h) := k1.cell 7
  have m8 : W.cell? ⟨w.heap.size, 8, none⟩ = some (.slice d l e) := k1.cell 8
  have z0 : W.cell? ⟨q, 0, none⟩ = some (.int .i64 0) := k2.cell 0
  have z1 : W.cell? ⟨q, 1, none⟩ = some (.int .i64 0) := k2.cell 1
  have z2 : W.cell? ⟨q, 2, none⟩ = some (.int .i64 0) := k2.cell 2
  have z3 : W.cell? ⟨q, 3, none⟩ = some (.int .i64 0) := k2.cell 3
  have z4 : W.cell? ⟨q, 4, none⟩ = some (.int .i64 0) := k2.cell 4
  have z5 : W.cell? ⟨q, 5, none⟩ = some (.int .u32 0) := k2.cell 5
  have z6 : W.cell? ⟨q, 6, none⟩ = some (.int .i64 0) := k2.cell 6
  have z7 : W.cell? ⟨q, 7, none⟩ = some (.bool false) := k2.cell 7
  have z8 : W.cell? ⟨q, 8, none⟩ = some (.slice none 0 0) := k2.cell 8
  have x0 : W.cell? ⟨x, 0, none⟩ = some (.int .i64 3) := k3.cell 0
  have x1 : W.cell? ⟨x, 1, none⟩ = some (.int .i64 c) := k3.cell 1
  have x2 : W.cell? ⟨x, 2, none⟩ = some (.int .i64 0) := k3.cell 2
  have x3 : W.cell? ⟨x, 3, none⟩ = some (.int .i64 0) := k3.cell 3
  have x4 : W.cell? ⟨x, 4, none⟩ = some (.int .i64 0) := k3.cell 4
  have x5 : W.cell? ⟨x, 5, none⟩ = some (.int .u32 0) := k3.cell 5
  have x6 : W.cell? ⟨x, 6, none⟩ = some (.int .i64 0) := k3.cell 6
  have x7 : W.cell? ⟨x, 7, none⟩ = some (.bool false) := k3.cell 7
  have x8 : W.cell? ⟨x, 8, none⟩ = some (.slice none 0 0) := k3.cell 8
  have fz := k2.fz
  have fx := k3.fz
  have HE : Hid (_ = W ∧ w.heap.size + 1 = q ∧ q + 1 = x) := ⟨hW, hq, hx⟩
  clear k1 k2 k3 bW hr hR hW hq hx
  go_enter Tryd.func16, Tryd.ntmps16
  go_upto_region 2 with fail
  rw [HE.out.1, HE.out.2.1, HE.out.2.2]
  clear HE
  go_wp2_with fail
  refine bodyPost_ret (v := .agg #[.int .i64 3, .int .i64 c, .int .i64 s, .int .i64 f, .int .i64 0, .int .u32 0, .int .i64 0, .bool false, .slice none 0 0]) (by simp [results, Tryd.results16, go_sem, z0, z1, z2, z3, z4, z5, z6, z7, z8]) rfl ?_
  refine ⟨none, 0, rfl, row8_0 _, ?_⟩
  repeat (first | with_reducible refine Below.setCell ?_ hpq _ | with_reducible refine Below.setCell ?_ hpx _)
  exact HW.out.1
set_option maxHeartbeats 4000000 in
theorem pbare_4 (c s f a n : Int) (v : Nat) (h : Bool) (l : Nat) (b : Nat → Nat) (d : Option Addr) (e : Nat) (w : World) (hr : Row8 w d l e b) : Calls Tryd.prog 16 #[.agg #[.int .i64 4, .int .i64 c, .int .i64 s, .int .i64 f, .int .i64 a, .int .u32 (v : Nat), .int .i64 n, .bool h, .slice d l e]] w (BaP (Mv.mk 4 c s f a v n h l b).bare w) := by
  have k1 := Bk.new w #[.int .i64 4, .int .i64 c, .int .i64 s, .int .i64 f, .int .i64 a, .int .u32 (v : Nat), .int .i64 n, .bool h, .slice d l e] 45
  have k2 := Bk.new (w.alloc (.cells #[.int .i64 4, .int .i64 c, .int .i64 s, .int .i64 f, .int .i64 a, .int .u32 (v : Nat), .int .i64 n, .bool h, .slice d l e] 45)) #[.int .i64 0, .int .i64 0, .int .i64 0, .int .i64 0, .int .i64 0, .int .u32 0, .int .i64 0, .bool false, .slice none 0 0] 45
  have k3 := Bk.new ((w.alloc (.cells #[.int .i64 4, .int .i64 c, .int .i64 s, .int .i64 f, .int .i64 a, .int .u32 (v : Nat), .int .i64 n, .bool h, .slice d l e] 45)).alloc (.cells #[.int .i64 0, .int .i64 0, .int .i64 0, .int .i64 0, .int .i64 0, .int .u32 0, .int .i64 0, .bool false, .slice none 0 0] 45)) #[.int .i64 4, .int .i64 c, .int .i64 0, .int .i64 0, .int .i64 0, .int .u32 0, .int .i64 0, .bool false, .slice none 0 0] 45
  simp only [World.size_alloc] at k2 k3
  have k1 := (k1.off (l := []) (Off.alloc _ _ (.cells #[.int .i64 0, .int .i64 0, .int .i64 0, .int .i64 0, .int .i64 0, .int .u32 0, .int .i64 0, .bool false, .slice none 0 0] 45)) (by simp)).off (l := []) (Off.alloc _ _ (.cells #[.int .i64 4, .int .i64 c, .int .i64 0, .int .i64 0, .int .i64 0, .int .u32 0, .int .i64 0, .bool false, .slice none 0 0] 45)) (by simp)
  have k2 := k2.off (l := []) (Off.alloc _ _ (.cells #[.int .i64 4, .int .i64 c, .int .i64 0, .int .i64 0, .int .i64 0, .int .u32 0, .int .i64 0, .bool false, .slice none 0 0] 45)) (by simp)
  have bW : Below w.heap.size w (((w.alloc (.cells #[.int .i64 4, .int .i64 c, .int .i64 s, .int .i64 f, .int .i64 a, .int .u32 (v : Nat), .int .i64 n, .bool h, .slice d l e] 45)).alloc (.cells #[.int .i64 0, .int .i64 0, .int .i64 0, .int .i64 0, .int .i64 0, .int .u32 0, .int .i64 0, .bool false, .slice none 0 0] 45)).alloc (.cells #[.int .i64 4, .int .i64 c, .int .i64 0, .int .i64 0, .int .i64 0, .int .u32 0, .int .i64 0, .bool false, .slice none 0 0] 45)) := belA (belA (belA (Below.refl _ w) _) _) _
  obtain ⟨W, hW⟩ : ∃ y, ((w.alloc (.cells #[.int .i64 4, .int .i64 c, .int .i64 s, .int .i64 f, .int .i64 a, .int .u32 (v : Nat), .int .i64 n, .bool h, .slice d l e] 45)).alloc (.cells #[.int .i64 0, .int .i64 0, .int .i64 0, .int .i64 0, .int .i64 0, .int .u32 0, .int .i64 0, .bool false, .slice none 0 0] 45)).alloc (.cells #[.int .i64 4, .int .i64 c, .int .i64 0, .int .i64 0, .int .i64 0, .int .u32 0, .int .i64 0, .bool false, .slice none 0 0] 45) = y := ⟨_, rfl⟩
  rw [hW] at k1 k2 k3 bW
  have hR := hr.below bW
  have HW : Hid (Below w.heap.size w W ∧ Bk W w.heap.size #[.int .i64 4, .int .i64 c, .int .i64 s, .int .i64 f, .int .i64 a, .int .u32 (v : Nat), .int .i64 n, .bool h, .slice d l e] 45 ∧ Bk W (w.heap.size + 1) #[.int .i64 0, .int .i64 0, .int .i64 0, .int .i64 0, .int .i64 0, .int .u32 0, .int .i64 0, .bool false, .slice none 0 0] 45 ∧ Bk W (w.heap.size + 1 + 1) #[.int .i64 4, .int .i64 c, .int .i64 0, .int .i64 0, .int .i64 0, .int .u32 0, .int .i64 0, .bool false, .slice none 0 0] 45 ∧ Row8 W d l e b) := ⟨bW, k1, k2, k3, hR⟩
  obtain ⟨q, hq⟩ : ∃ y, w.heap.size + 1 = y := ⟨_, rfl⟩
  rw [hq] at k2 k3 HW
  obtain ⟨x, hx⟩ : ∃ y, q + 1 = y := ⟨_, rfl⟩
  rw [hx] at k3 HW
  have n1 : ¬ w.heap.size = q := by omega
  have n2 : ¬ q = w.heap.size := by omega
  have n3 : ¬ w.heap.size = x := by omega
  have n4 : ¬ x = w.heap.size := by omega
  have n5 : ¬ q = x := by omega
  have n6 : ¬ x = q := by omega
  have hpq : w.heap.size ≤ q := by omega
  have hpx : w.heap.size ≤ x := by omega
  have hbare : (Mv.mk 4 c s f a v n h l b).bare = ⟨4, c, s, f, a, v, 0, false, 0, fun _ => 0⟩ := by simp [Mv.bare, sided]
  rw [hbare]
  clear hbare
  have m0 : W.cell? ⟨w.heap.size, 0, none⟩ = some (.int .i64 4) := k1.cell 0
  have m1 : W.cell? ⟨w.heap.size, 1, none⟩ = some (.int .i64 c) := k1.cell 1
  have m2 : W.cell? ⟨w.heap.size, 2, none⟩ = some (.int .i64 s) := k1.cell 2
  have m3 : W.cell? ⟨w.heap.size, 3, none⟩ = some (.int .i64 f) := k1.cell 3
  have m4 : W.cell? ⟨w.heap.size, 4, none⟩ = some (.int .i64 a) := k1.cell 4
  have m5 : W.cell? ⟨w.heap.size, 5, none⟩ = some (.int .u32 (v : Nat)) := k1.cell 5
  have m6 : W.cell? ⟨w.heap.size, 6, none⟩ = some (.int .i64 n) := k1.cell 6
  have m7 : W.cell? ⟨w.heap.size, 7, none⟩ = some (.bool h) := k1.cell 7
  have m8 : W.cell? ⟨w.heap.size, 8, none⟩ = some (.slice d l e) := k1.cell 8
  have z0 : W.cell? ⟨q, 0, none⟩ = some (.int .i64 0) := k2.cell 0
  have z1 : W.cell? ⟨q, 1, none⟩ = some (.int .i64 0) := k2.cell 1
  have z2 : W.cell? ⟨q, 2, none⟩ = some (.int .i64 0) := k2.cell 2
  have z3 : W.cell? ⟨q, 3, none⟩ = some (.int .i64 0) := k2.cell 3
  have z4 : W.cell? ⟨q, 4, none⟩ = some (.int .i64 0) := k2.cell 4
  have z5 : W.cell? ⟨q, 5, none⟩ = some (.int .u32 0) := k2.cell 5
  have z6 : W.cell? ⟨q, 6, none⟩ = some (.int .i64 0) := k2.cell 6
  have z7 : W.cell? ⟨q, 7, none⟩ = some (.bool false) := k2.cell 7
  have z8 : W.cell? ⟨q, 8, none⟩ = some (.slice none 0 0) := k2.cell 8
  have x0 : W.cell? ⟨x, 0, none⟩ = some (.int .i64 4) := k3.cell 0
  have x1 : W.cell? ⟨x, 1, none⟩ = some (.int .i64 c) := k3.cell 1
  have x2 : W.cell? ⟨x, 2, none⟩ = some (.int .i64 0) := k3.cell 2
  have x3 : W.cell? ⟨x, 3, none⟩ = some (.int .i64 0) := k3.cell 3
  have x4 : W.cell? ⟨x, 4, none⟩ = some (.int .i64 0) := k3.cell 4
  have x5 : W.cell? ⟨x, 5, none⟩ = some (.int .u32 0) := k3.cell 5
  have x6 : W.cell? ⟨x, 6, none⟩ = some (.int .i64 0) := k3.cell 6
  have x7 : W.cell? ⟨x, 7, none⟩ = some (.bool false) := k3.cell 7
  have x8 : W.cell? ⟨x, 8, none⟩ = some (.slice none 0 0) := k3.cell 8
  have fz := k2.fz
  have fx := k3.fz
  have HE : Hid (_ = W ∧ w.heap.size + 1 = q ∧ q + 1 = x) := ⟨hW, hq, hx⟩
  clear k1 k2 k3 bW hr hR hW hq hx
  go_enter Tryd.func16, Tryd.ntmps16
  go_upto_region 2 with fail
  rw [HE.out.1, HE.out.2.1, HE.out.2.2]
  clear HE
  go_upto_region 10 with fail
  have k3 : Bk (W.setCell ⟨x, 2, none⟩ (.int .i64 s)) x #[.int .i64 4, .int .i64 c, .int .i64 s, .int .i64 0, .int .i64 0, .int .u32 0, .int .i64 0, .bool false, .slice none 0 0] 45 := HW.out.2.2.2.1.set 2 _
  have oV : Off [x] W (W.setCell ⟨x, 2, none⟩ (.int .i64 s)) := Off.setCell _ _ _ _
  have k1 := HW.out.2.1.off oV (by simp; exact n3)
  have k2 := HW.out.2.2.1.off oV (by simp; exact n5)
  have bV : Below w.heap.size w (W.setCell ⟨x, 2, none⟩ (.int .i64 s)) := HW.out.1.setCell (p := ⟨x, 2, none⟩) hpx _
  obtain ⟨V, hV⟩ : ∃ y, W.setCell ⟨x, 2, none⟩ (.int .i64 s) = y := ⟨_, rfl⟩
  rw [hV] at k1 k2 k3 bV ⊢
  clear hV oV m0 z0 x0 m1 z1 x1 m2 z2 x2 m3 z3 x3 m4 z4 x4 m5 z5 x5 m6 z6 x6 m7 z7 x7 m8 z8 x8 fz fx
  have hS : ∀ wx, Below V.heap.size V wx → wx.cell? ⟨w.heap.size, 3, none⟩ = some (.int .i64 f) ∧ wx.cell? ⟨w.heap.size, 4, none⟩ = some (.int .i64 a) ∧ wx.cell? ⟨w.heap.size, 5, none⟩ = some (.int .u32 (v : Nat)) := fun wx bx => ⟨cellB (k1.cell 3) bx, cellB (k1.cell 4) bx, cellB (k1.cell 5) bx⟩
  have B0 : Below V.heap.size V V.drew := Below.drew (Below.refl _ _)
  have S0 := hS V (Below.refl _ _)
  have S1 := hS _ B0
  have hSs : ∀ (wx : World) (u : Value) (i : Nat), (wx.cell? ⟨w.heap.size, 3, none⟩ = some (.int .i64 f) ∧ wx.cell? ⟨w.heap.size, 4, none⟩ = some (.int .i64 a) ∧ wx.cell? ⟨w.heap.size, 5, none⟩ = some (.int .u32 (v : Nat))) → ((wx.setCell ⟨x, i, none⟩ u).cell? ⟨w.heap.size, 3, none⟩ = some (.int .i64 f) ∧ (wx.setCell ⟨x, i, none⟩ u).cell? ⟨w.heap.size, 4, none⟩ = some (.int .i64 a) ∧ (wx.setCell ⟨x, i, none⟩ u).cell? ⟨w.heap.size, 5, none⟩ = some (.int .u32 (v : Nat))) := fun wx u i q => by
    rw [World.cell?_setCell_other _ _ _ _ (by simp), World.cell?_setCell_other _ _ _ _ (by simp), World.cell?_setCell_other _ _ _ _ (by simp)]
    exact q
  have j2 : Bk V.drew q #[.int .i64 0, .int .i64 0, .int .i64 0, .int .i64 0, .int .i64 0, .int .u32 0, .int .i64 0, .bool false, .slice none 0 0] 45 := k2
  have j3 : Bk V.drew x #[.int .i64 4, .int .i64 c, .int .i64 s, .int .i64 0, .int .i64 0, .int .u32 0, .int .i64 0, .bool false, .slice none 0 0] 45 := k3
  have z0k : V.cell? ⟨q, 0, none⟩ = some (.int .i64 0) := k2.cell 0
  have z1k : V.cell? ⟨q, 1, none⟩ = some (.int .i64 0) := k2.cell 1
  have z2k : V.cell? ⟨q, 2, none⟩ = some (.int .i64 0) := k2.cell 2
  have z3k : V.cell? ⟨q, 3, none⟩ = some (.int .i64 0) := k2.cell 3
  have z4k : V.cell? ⟨q, 4, none⟩ = some (.int .i64 0) := k2.cell 4
  have z5k : V.cell? ⟨q, 5, none⟩ = some (.int .u32 0) := k2.cell 5
  have z6k : V.cell? ⟨q, 6, none⟩ = some (.int .i64 0) := k2.cell 6
  have z7k : V.cell? ⟨q, 7, none⟩ = some (.bool false) := k2.cell 7
  have z8k : V.cell? ⟨q, 8, none⟩ = some (.slice none 0 0) := k2.cell 8
  have x0k : V.cell? ⟨x, 0, none⟩ = some (.int .i64 4) := k3.cell 0
  have x1k : V.cell? ⟨x, 1, none⟩ = some (.int .i64 c) := k3.cell 1
  have x2k : V.cell? ⟨x, 2, none⟩ = some (.int .i64 s) := k3.cell 2
  have x3k : V.cell? ⟨x, 3, none⟩ = some (.int .i64 0) := k3.cell 3
  have x4k : V.cell? ⟨x, 4, none⟩ = some (.int .i64 0) := k3.cell 4
  have x5k : V.cell? ⟨x, 5, none⟩ = some (.int .u32 0) := k3.cell 5
  have x6k : V.cell? ⟨x, 6, none⟩ = some (.int .i64 0) := k3.cell 6
  have x7k : V.cell? ⟨x, 7, none⟩ = some (.bool false) := k3.cell 7
  have x8k : V.cell? ⟨x, 8, none⟩ = some (.slice none 0 0) := k3.cell 8
  have fzk := k2.fz
  have fxk := k3.fz
  have z0j : V.drew.cell? ⟨q, 0, none⟩ = some (.int .i64 0) := j2.cell 0
  have z1j : V.drew.cell? ⟨q, 1, none⟩ = some (.int .i64 0) := j2.cell 1
  have z2j : V.drew.cell? ⟨q, 2, none⟩ = some (.int .i64 0) := j2.cell 2
  have z3j : V.drew.cell? ⟨q, 3, none⟩ = some (.int .i64 0) := j2.cell 3
  have z4j : V.drew.cell? ⟨q, 4, none⟩ = some (.int .i64 0) := j2.cell 4
  have z5j : V.drew.cell? ⟨q, 5, none⟩ = some (.int .u32 0) := j2.cell 5
  have z6j : V.drew.cell? ⟨q, 6, none⟩ = some (.int .i64 0) := j2.cell 6
  have z7j : V.drew.cell? ⟨q, 7, none⟩ = some (.bool false) := j2.cell 7
  have z8j : V.drew.cell? ⟨q, 8, none⟩ = some (.slice none 0 0) := j2.cell 8
  have x0j : V.drew.cell? ⟨x, 0, none⟩ = some (.int .i64 4) := j3.cell 0
  have x1j : V.drew.cell? ⟨x, 1, none⟩ = some (.int .i64 c) := j3.cell 1
  have x2j : V.drew.cell? ⟨x, 2, none⟩ = some (.int .i64 s) := j3.cell 2
  have x3j : V.drew.cell? ⟨x, 3, none⟩ = some (.int .i64 0) := j3.cell 3
  have x4j : V.drew.cell? ⟨x, 4, none⟩ = some (.int .i64 0) := j3.cell 4
  have x5j : V.drew.cell? ⟨x, 5, none⟩ = some (.int .u32 0) := j3.cell 5
  have x6j : V.drew.cell? ⟨x, 6, none⟩ = some (.int .i64 0) := j3.cell 6
  have x7j : V.drew.cell? ⟨x, 7, none⟩ = some (.bool false) := j3.cell 7
  have x8j : V.drew.cell? ⟨x, 8, none⟩ = some (.slice none 0 0) := j3.cell 8
  have fzj := j2.fz
  have fxj := j3.fz
  go_region_held3 (fun wx => wx.cell? ⟨w.heap.size, 3, none⟩ = some (.int .i64 f) ∧ wx.cell? ⟨w.heap.size, 4, none⟩ = some (.int .i64 a) ∧ wx.cell? ⟨w.heap.size, 5, none⟩ = some (.int .u32 (v : Nat))) (first | assumption | exact hS _ (by assumption) | exact hSs V _ _ S0 | exact hSs _ _ _ (hSs V _ _ S0) | exact hSs _ _ _ (hSs _ _ _ (hSs V _ _ S0)) | fail) (fail)
  have u3 : Bk ((((V.setCell ⟨x, 3, none⟩ (.int .i64 f)).setCell ⟨x, 4, none⟩ (.int .i64 a)).setCell ⟨x, 5, none⟩ (.int .u32 (v : Nat))).drew) x #[.int .i64 4, .int .i64 c, .int .i64 s, .int .i64 f, .int .i64 a, .int .u32 (v : Nat), .int .i64 0, .bool false, .slice none 0 0] 45 := ((k3.set 3 _).set 4 _).set 5 _
  have u2' : Bk (((V.setCell ⟨x, 3, none⟩ (.int .i64 f)).setCell ⟨x, 4, none⟩ (.int .i64 a)).setCell ⟨x, 5, none⟩ (.int .u32 (v : Nat))) q #[.int .i64 0, .int .i64 0, .int .i64 0, .int .i64 0, .int .i64 0, .int .u32 0, .int .i64 0, .bool false, .slice none 0 0] 45 := ((k2.off (Off.setCell x 3 V (.int .i64 f)) (by simp; exact n5)).off (Off.setCell x 4 _ (.int .i64 a)) (by simp; exact n5)).off (Off.setCell x 5 _ (.int .u32 (v : Nat))) (by simp; exact n5)
  have u2 : Bk ((((V.setCell ⟨x, 3, none⟩ (.int .i64 f)).setCell ⟨x, 4, none⟩ (.int .i64 a)).setCell ⟨x, 5, none⟩ (.int .u32 (v : Nat))).drew) q #[.int .i64 0, .int .i64 0, .int .i64 0, .int .i64 0, .int .i64 0, .int .u32 0, .int .i64 0, .bool false, .slice none 0 0] 45 := u2'
  clear u2'
  have bU : Below w.heap.size w ((((V.setCell ⟨x, 3, none⟩ (.int .i64 f)).setCell ⟨x, 4, none⟩ (.int .i64 a)).setCell ⟨x, 5, none⟩ (.int .u32 (v : Nat))).drew) := Below.drew (((bV.setCell (p := ⟨x, 3, none⟩) hpx _).setCell (p := ⟨x, 4, none⟩) hpx _).setCell (p := ⟨x, 5, none⟩) hpx _)
  obtain ⟨U, hU⟩ : ∃ y, (((V.setCell ⟨x, 3, none⟩ (.int .i64 f)).setCell ⟨x, 4, none⟩ (.int .i64 a)).setCell ⟨x, 5, none⟩ (.int .u32 (v : Nat))).drew = y := ⟨_, rfl⟩
  rw [hU] at u2 u3 bU ⊢
  clear hS hSs B0 S0 S1 hU z0k z0j x0k x0j z1k z1j x1k x1j z2k z2j x2k x2j z3k z3j x3k x3j z4k z4j x4k x4j z5k z5j x5k x5j z6k z6j x6k x6j z7k z7j x7k x7j z8k z8j x8k x8j fzk fxk fzj fxj k1 k2 k3 j2 j3 bV
  rename (World.cell? _ _ = _ ∧ _) => hh
  clear hh
  have z0 : U.cell? ⟨q, 0, none⟩ = some (.int .i64 0) := u2.cell 0
  have z1 : U.cell? ⟨q, 1, none⟩ = some (.int .i64 0) := u2.cell 1
  have z2 : U.cell? ⟨q, 2, none⟩ = some (.int .i64 0) := u2.cell 2
  have z3 : U.cell? ⟨q, 3, none⟩ = some (.int .i64 0) := u2.cell 3
  have z4 : U.cell? ⟨q, 4, none⟩ = some (.int .i64 0) := u2.cell 4
  have z5 : U.cell? ⟨q, 5, none⟩ = some (.int .u32 0) := u2.cell 5
  have z6 : U.cell? ⟨q, 6, none⟩ = some (.int .i64 0) := u2.cell 6
  have z7 : U.cell? ⟨q, 7, none⟩ = some (.bool false) := u2.cell 7
  have z8 : U.cell? ⟨q, 8, none⟩ = some (.slice none 0 0) := u2.cell 8
  have x0 : U.cell? ⟨x, 0, none⟩ = some (.int .i64 4) := u3.cell 0
  have x1 : U.cell? ⟨x, 1, none⟩ = some (.int .i64 c) := u3.cell 1
  have x2 : U.cell? ⟨x, 2, none⟩ = some (.int .i64 s) := u3.cell 2
  have x3 : U.cell? ⟨x, 3, none⟩ = some (.int .i64 f) := u3.cell 3
  have x4 : U.cell? ⟨x, 4, none⟩ = some (.int .i64 a) := u3.cell 4
  have x5 : U.cell? ⟨x, 5, none⟩ = some (.int .u32 (v : Nat)) := u3.cell 5
  have x6 : U.cell? ⟨x, 6, none⟩ = some (.int .i64 0) := u3.cell 6
  have x7 : U.cell? ⟨x, 7, none⟩ = some (.bool false) := u3.cell 7
  have x8 : U.cell? ⟨x, 8, none⟩ = some (.slice none 0 0) := u3.cell 8
  have fz := u2.fz
  have fx := u3.fz
  go_wp2_with fail
  refine bodyPost_ret (v := .agg #[.int .i64 4, .int .i64 c, .int .i64 s, .int .i64 f, .int .i64 a, .int .u32 (v : Nat), .int .i64 0, .bool false, .slice none 0 0]) (by simp [results, Tryd.results16, go_sem, z0, z1, z2, z3, z4, z5, z6, z7, z8]) rfl ?_
  refine ⟨none, 0, rfl, row8_0 _, ?_⟩
  repeat (first | with_reducible refine Below.setCell ?_ hpq _ | with_reducible refine Below.setCell ?_ hpx _)
  exact bU
set_option maxHeartbeats 4000000 in
theorem pbare_5 (c s f a n : Int) (v : Nat) (h : Bool) (l : Nat) (b : Nat → Nat) (d : Option Addr) (e : Nat) (w : World) (hr : Row8 w d l e b) : Calls Tryd.prog 16 #[.agg #[.int .i64 5, .int .i64 c, .int .i64 s, .int .i64 f, .int .i64 a, .int .u32 (v : Nat), .int .i64 n, .bool h, .slice d l e]] w (BaP (Mv.mk 5 c s f a v n h l b).bare w) := by
  have k1 := Bk.new w #[.int .i64 5, .int .i64 c, .int .i64 s, .int .i64 f, .int .i64 a, .int .u32 (v : Nat), .int .i64 n, .bool h, .slice d l e] 45
  have k2 := Bk.new (w.alloc (.cells #[.int .i64 5, .int .i64 c, .int .i64 s, .int .i64 f, .int .i64 a, .int .u32 (v : Nat), .int .i64 n, .bool h, .slice d l e] 45)) #[.int .i64 0, .int .i64 0, .int .i64 0, .int .i64 0, .int .i64 0, .int .u32 0, .int .i64 0, .bool false, .slice none 0 0] 45
  have k3 := Bk.new ((w.alloc (.cells #[.int .i64 5, .int .i64 c, .int .i64 s, .int .i64 f, .int .i64 a, .int .u32 (v : Nat), .int .i64 n, .bool h, .slice d l e] 45)).alloc (.cells #[.int .i64 0, .int .i64 0, .int .i64 0, .int .i64 0, .int .i64 0, .int .u32 0, .int .i64 0, .bool false, .slice none 0 0] 45)) #[.int .i64 5, .int .i64 c, .int .i64 0, .int .i64 0, .int .i64 0, .int .u32 0, .int .i64 0, .bool false, .slice none 0 0] 45
  simp only [World.size_alloc] at k2 k3
  have k1 := (k1.off (l := []) (Off.alloc _ _ (.cells #[.int .i64 0, .int .i64 0, .int .i64 0, .int .i64 0, .int .i64 0, .int .u32 0, .int .i64 0, .bool false, .slice none 0 0] 45)) (by simp)).off (l := []) (Off.alloc _ _ (.cells #[.int .i64 5, .int .i64 c, .int .i64 0, .int .i64 0, .int .i64 0, .int .u32 0, .int .i64 0, .bool false, .slice none 0 0] 45)) (by simp)
  have k2 := k2.off (l := []) (Off.alloc _ _ (.cells #[.int .i64 5, .int .i64 c, .int .i64 0, .int .i64 0, .int .i64 0, .int .u32 0, .int .i64 0, .bool false, .slice none 0 0] 45)) (by simp)
  have bW : Below w.heap.size w (((w.alloc (.cells #[.int .i64 5, .int .i64 c, .int .i64 s, .int .i64 f, .int .i64 a, .int .u32 (v : Nat), .int .i64 n, .bool h, .slice d l e] 45)).alloc (.cells #[.int .i64 0, .int .i64 0, .int .i64 0, .int .i64 0, .int .i64 0, .int .u32 0, .int .i64 0, .bool false, .slice none 0 0] 45)).alloc (.cells #[.int .i64 5, .int .i64 c, .int .i64 0, .int .i64 0, .int .i64 0, .int .u32 0, .int .i64 0, .bool false, .slice none 0 0] 45)) := belA (belA (belA (Below.refl _ w) _) _) _
  obtain ⟨W, hW⟩ : ∃ y, ((w.alloc (.cells #[.int .i64 5, .int .i64 c, .int .i64 s, .int .i64 f, .int .i64 a, .int .u32 (v : Nat), .int .i64 n, .bool h, .slice d l e] 45)).alloc (.cells #[.int .i64 0, .int .i64 0, .int .i64 0, .int .i64 0, .int .i64 0, .int .u32 0, .int .i64 0, .bool false, .slice none 0 0] 45)).alloc (.cells #[.int .i64 5, .int .i64 c, .int .i64 0, .int .i64 0, .int .i64 0, .int .u32 0, .int .i64 0, .bool false, .slice none 0 0] 45) = y := ⟨_, rfl⟩
  rw [hW] at k1 k2 k3 bW
  have hR := hr.below bW
  have HW : Hid (Below w.heap.size w W ∧ Bk W w.heap.size #[.int .i64 5, .int .i64 c, .int .i64 s, .int .i64 f, .int .i64 a, .int .u32 (v : Nat), .int .i64 n, .bool h, .slice d l e] 45 ∧ Bk W (w.heap.size + 1) #[.int .i64 0, .int .i64 0, .int .i64 0, .int .i64 0, .int .i64 0, .int .u32 0, .int .i64 0, .bool false, .slice none 0 0] 45 ∧ Bk W (w.heap.size + 1 + 1) #[.int .i64 5, .int .i64 c, .int .i64 0, .int .i64 0, .int .i64 0, .int .u32 0, .int .i64 0, .bool false, .slice none 0 0] 45 ∧ Row8 W d l e b) := ⟨bW, k1, k2, k3, hR⟩
  obtain ⟨q, hq⟩ : ∃ y, w.heap.size + 1 = y := ⟨_, rfl⟩
  rw [hq] at k2 k3 HW
  obtain ⟨x, hx⟩ : ∃ y, q + 1 = y := ⟨_, rfl⟩
  rw [hx] at k3 HW
  have n1 : ¬ w.heap.size = q := by omega
  have n2 : ¬ q = w.heap.size := by omega
  have n3 : ¬ w.heap.size = x := by omega
  have n4 : ¬ x = w.heap.size := by omega
  have n5 : ¬ q = x := by omega
  have n6 : ¬ x = q := by omega
  have hpq : w.heap.size ≤ q := by omega
  have hpx : w.heap.size ≤ x := by omega
  have hbare : (Mv.mk 5 c s f a v n h l b).bare = ⟨5, c, s, 0, 0, 0, n, false, 0, fun _ => 0⟩ := by simp [Mv.bare, sided]
  rw [hbare]
  clear hbare
  have m0 : W.cell? ⟨w.heap.size, 0, none⟩ = some (.int .i64 5) := k1.cell 0
  have m1 : W.cell? ⟨w.heap.size, 1, none⟩ = some (.int .i64 c) := k1.cell 1
  have m2 : W.cell? ⟨w.heap.size, 2, none⟩ = some (.int .i64 s) := k1.cell 2
  have m3 : W.cell? ⟨w.heap.size, 3, none⟩ = some (.int .i64 f) := k1.cell 3
  have m4 : W.cell? ⟨w.heap.size, 4, none⟩ = some (.int .i64 a) := k1.cell 4
  have m5 : W.cell? ⟨w.heap.size, 5, none⟩ = some (.int .u32 (v : Nat)) := k1.cell 5
  have m6 : W.cell? ⟨w.heap.size, 6, none⟩ = some (.int .i64 n) := k1.cell 6
  have m7 : W.cell? ⟨w.heap.size, 7, none⟩ = some (.bool h) := k1.cell 7
  have m8 : W.cell? ⟨w.heap.size, 8, none⟩ = some (.slice d l e) := k1.cell 8
  have z0 : W.cell? ⟨q, 0, none⟩ = some (.int .i64 0) := k2.cell 0
  have z1 : W.cell? ⟨q, 1, none⟩ = some (.int .i64 0) := k2.cell 1
  have z2 : W.cell? ⟨q, 2, none⟩ = some (.int .i64 0) := k2.cell 2
  have z3 : W.cell? ⟨q, 3, none⟩ = some (.int .i64 0) := k2.cell 3
  have z4 : W.cell? ⟨q, 4, none⟩ = some (.int .i64 0) := k2.cell 4
  have z5 : W.cell? ⟨q, 5, none⟩ = some (.int .u32 0) := k2.cell 5
  have z6 : W.cell? ⟨q, 6, none⟩ = some (.int .i64 0) := k2.cell 6
  have z7 : W.cell? ⟨q, 7, none⟩ = some (.bool false) := k2.cell 7
  have z8 : W.cell? ⟨q, 8, none⟩ = some (.slice none 0 0) := k2.cell 8
  have x0 : W.cell? ⟨x, 0, none⟩ = some (.int .i64 5) := k3.cell 0
  have x1 : W.cell? ⟨x, 1, none⟩ = some (.int .i64 c) := k3.cell 1
  have x2 : W.cell? ⟨x, 2, none⟩ = some (.int .i64 0) := k3.cell 2
  have x3 : W.cell? ⟨x, 3, none⟩ = some (.int .i64 0) := k3.cell 3
  have x4 : W.cell? ⟨x, 4, none⟩ = some (.int .i64 0) := k3.cell 4
  have x5 : W.cell? ⟨x, 5, none⟩ = some (.int .u32 0) := k3.cell 5
  have x6 : W.cell? ⟨x, 6, none⟩ = some (.int .i64 0) := k3.cell 6
  have x7 : W.cell? ⟨x, 7, none⟩ = some (.bool false) := k3.cell 7
  have x8 : W.cell? ⟨x, 8, none⟩ = some (.slice none 0 0) := k3.cell 8
  have fz := k2.fz
  have fx := k3.fz
  have HE : Hid (_ = W ∧ w.heap.size + 1 = q ∧ q + 1 = x) := ⟨hW, hq, hx⟩
  clear k1 k2 k3 bW hr hR hW hq hx
  go_enter Tryd.func16, Tryd.ntmps16
  go_upto_region 2 with fail
  rw [HE.out.1, HE.out.2.1, HE.out.2.2]
  clear HE
  go_wp2_with fail
  refine bodyPost_ret (v := .agg #[.int .i64 5, .int .i64 c, .int .i64 s, .int .i64 0, .int .i64 0, .int .u32 0, .int .i64 n, .bool false, .slice none 0 0]) (by simp [results, Tryd.results16, go_sem, z0, z1, z2, z3, z4, z5, z6, z7, z8]) rfl ?_
  refine ⟨none, 0, rfl, row8_0 _, ?_⟩
  repeat (first | with_reducible refine Below.setCell ?_ hpq _ | with_reducible refine Below.setCell ?_ hpx _)
  exact HW.out.1
set_option maxHeartbeats 4000000 in
theorem pbare_6 (c s f a n : Int) (v : Nat) (h : Bool) (l : Nat) (b : Nat → Nat) (d : Option Addr) (e : Nat) (w : World) (hr : Row8 w d l e b) : Calls Tryd.prog 16 #[.agg #[.int .i64 6, .int .i64 c, .int .i64 s, .int .i64 f, .int .i64 a, .int .u32 (v : Nat), .int .i64 n, .bool h, .slice d l e]] w (BaP (Mv.mk 6 c s f a v n h l b).bare w) := by
  have k1 := Bk.new w #[.int .i64 6, .int .i64 c, .int .i64 s, .int .i64 f, .int .i64 a, .int .u32 (v : Nat), .int .i64 n, .bool h, .slice d l e] 45
  have k2 := Bk.new (w.alloc (.cells #[.int .i64 6, .int .i64 c, .int .i64 s, .int .i64 f, .int .i64 a, .int .u32 (v : Nat), .int .i64 n, .bool h, .slice d l e] 45)) #[.int .i64 0, .int .i64 0, .int .i64 0, .int .i64 0, .int .i64 0, .int .u32 0, .int .i64 0, .bool false, .slice none 0 0] 45
  have k3 := Bk.new ((w.alloc (.cells #[.int .i64 6, .int .i64 c, .int .i64 s, .int .i64 f, .int .i64 a, .int .u32 (v : Nat), .int .i64 n, .bool h, .slice d l e] 45)).alloc (.cells #[.int .i64 0, .int .i64 0, .int .i64 0, .int .i64 0, .int .i64 0, .int .u32 0, .int .i64 0, .bool false, .slice none 0 0] 45)) #[.int .i64 6, .int .i64 c, .int .i64 0, .int .i64 0, .int .i64 0, .int .u32 0, .int .i64 0, .bool false, .slice none 0 0] 45
  simp only [World.size_alloc] at k2 k3
  have k1 := (k1.off (l := []) (Off.alloc _ _ (.cells #[.int .i64 0, .int .i64 0, .int .i64 0, .int .i64 0, .int .i64 0, .int .u32 0, .int .i64 0, .bool false, .slice none 0 0] 45)) (by simp)).off (l := []) (Off.alloc _ _ (.cells #[.int .i64 6, .int .i64 c, .int .i64 0, .int .i64 0, .int .i64 0, .int .u32 0, .int .i64 0, .bool false, .slice none 0 0] 45)) (by simp)
  have k2 := k2.off (l := []) (Off.alloc _ _ (.cells #[.int .i64 6, .int .i64 c, .int .i64 0, .int .i64 0, .int .i64 0, .int .u32 0, .int .i64 0, .bool false, .slice none 0 0] 45)) (by simp)
  have bW : Below w.heap.size w (((w.alloc (.cells #[.int .i64 6, .int .i64 c, .int .i64 s, .int .i64 f, .int .i64 a, .int .u32 (v : Nat), .int .i64 n, .bool h, .slice d l e] 45)).alloc (.cells #[.int .i64 0, .int .i64 0, .int .i64 0, .int .i64 0, .int .i64 0, .int .u32 0, .int .i64 0, .bool false, .slice none 0 0] 45)).alloc (.cells #[.int .i64 6, .int .i64 c, .int .i64 0, .int .i64 0, .int .i64 0, .int .u32 0, .int .i64 0, .bool false, .slice none 0 0] 45)) := belA (belA (belA (Below.refl _ w) _) _) _
  obtain ⟨W, hW⟩ : ∃ y, ((w.alloc (.cells #[.int .i64 6, .int .i64 c, .int .i64 s, .int .i64 f, .int .i64 a, .int .u32 (v : Nat), .int .i64 n, .bool h, .slice d l e] 45)).alloc (.cells #[.int .i64 0, .int .i64 0, .int .i64 0, .int .i64 0, .int .i64 0, .int .u32 0, .int .i64 0, .bool false, .slice none 0 0] 45)).alloc (.cells #[.int .i64 6, .int .i64 c, .int .i64 0, .int .i64 0, .int .i64 0, .int .u32 0, .int .i64 0, .bool false, .slice none 0 0] 45) = y := ⟨_, rfl⟩
  rw [hW] at k1 k2 k3 bW
  have hR := hr.below bW
  have HW : Hid (Below w.heap.size w W ∧ Bk W w.heap.size #[.int .i64 6, .int .i64 c, .int .i64 s, .int .i64 f, .int .i64 a, .int .u32 (v : Nat), .int .i64 n, .bool h, .slice d l e] 45 ∧ Bk W (w.heap.size + 1) #[.int .i64 0, .int .i64 0, .int .i64 0, .int .i64 0, .int .i64 0, .int .u32 0, .int .i64 0, .bool false, .slice none 0 0] 45 ∧ Bk W (w.heap.size + 1 + 1) #[.int .i64 6, .int .i64 c, .int .i64 0, .int .i64 0, .int .i64 0, .int .u32 0, .int .i64 0, .bool false, .slice none 0 0] 45 ∧ Row8 W d l e b) := ⟨bW, k1, k2, k3, hR⟩
  obtain ⟨q, hq⟩ : ∃ y, w.heap.size + 1 = y := ⟨_, rfl⟩
  rw [hq] at k2 k3 HW
  obtain ⟨x, hx⟩ : ∃ y, q + 1 = y := ⟨_, rfl⟩
  rw [hx] at k3 HW
  have n1 : ¬ w.heap.size = q := by omega
  have n2 : ¬ q = w.heap.size := by omega
  have n3 : ¬ w.heap.size = x := by omega
  have n4 : ¬ x = w.heap.size := by omega
  have n5 : ¬ q = x := by omega
  have n6 : ¬ x = q := by omega
  have hpq : w.heap.size ≤ q := by omega
  have hpx : w.heap.size ≤ x := by omega
  have hbare : (Mv.mk 6 c s f a v n h l b).bare = ⟨6, c, s, 0, 0, 0, 0, false, 0, fun _ => 0⟩ := by simp [Mv.bare, sided]
  rw [hbare]
  clear hbare
  have m0 : W.cell? ⟨w.heap.size, 0, none⟩ = some (.int .i64 6) := k1.cell 0
  have m1 : W.cell? ⟨w.heap.size, 1, none⟩ = some (.int .i64 c) := k1.cell 1
  have m2 : W.cell? ⟨w.heap.size, 2, none⟩ = some (.int .i64 s) := k1.cell 2
  have m3 : W.cell? ⟨w.heap.size, 3, none⟩ = some (.int .i64 f) := k1.cell 3
  have m4 : W.cell? ⟨w.heap.size, 4, none⟩ = some (.int .i64 a) := k1.cell 4
  have m5 : W.cell? ⟨w.heap.size, 5, none⟩ = some (.int .u32 (v : Nat)) := k1.cell 5
  have m6 : W.cell? ⟨w.heap.size, 6, none⟩ = some (.int .i64 n) := k1.cell 6
  have m7 : W.cell? ⟨w.heap.size, 7, none⟩ = some (.bool h) := k1.cell 7
  have m8 : W.cell? ⟨w.heap.size, 8, none⟩ = some (.slice d l e) := k1.cell 8
  have z0 : W.cell? ⟨q, 0, none⟩ = some (.int .i64 0) := k2.cell 0
  have z1 : W.cell? ⟨q, 1, none⟩ = some (.int .i64 0) := k2.cell 1
  have z2 : W.cell? ⟨q, 2, none⟩ = some (.int .i64 0) := k2.cell 2
  have z3 : W.cell? ⟨q, 3, none⟩ = some (.int .i64 0) := k2.cell 3
  have z4 : W.cell? ⟨q, 4, none⟩ = some (.int .i64 0) := k2.cell 4
  have z5 : W.cell? ⟨q, 5, none⟩ = some (.int .u32 0) := k2.cell 5
  have z6 : W.cell? ⟨q, 6, none⟩ = some (.int .i64 0) := k2.cell 6
  have z7 : W.cell? ⟨q, 7, none⟩ = some (.bool false) := k2.cell 7
  have z8 : W.cell? ⟨q, 8, none⟩ = some (.slice none 0 0) := k2.cell 8
  have x0 : W.cell? ⟨x, 0, none⟩ = some (.int .i64 6) := k3.cell 0
  have x1 : W.cell? ⟨x, 1, none⟩ = some (.int .i64 c) := k3.cell 1
  have x2 : W.cell? ⟨x, 2, none⟩ = some (.int .i64 0) := k3.cell 2
  have x3 : W.cell? ⟨x, 3, none⟩ = some (.int .i64 0) := k3.cell 3
  have x4 : W.cell? ⟨x, 4, none⟩ = some (.int .i64 0) := k3.cell 4
  have x5 : W.cell? ⟨x, 5, none⟩ = some (.int .u32 0) := k3.cell 5
  have x6 : W.cell? ⟨x, 6, none⟩ = some (.int .i64 0) := k3.cell 6
  have x7 : W.cell? ⟨x, 7, none⟩ = some (.bool false) := k3.cell 7
  have x8 : W.cell? ⟨x, 8, none⟩ = some (.slice none 0 0) := k3.cell 8
  have fz := k2.fz
  have fx := k3.fz
  have HE : Hid (_ = W ∧ w.heap.size + 1 = q ∧ q + 1 = x) := ⟨hW, hq, hx⟩
  clear k1 k2 k3 bW hr hR hW hq hx
  go_enter Tryd.func16, Tryd.ntmps16
  go_upto_region 2 with fail
  rw [HE.out.1, HE.out.2.1, HE.out.2.2]
  clear HE
  go_wp2_with fail
  refine bodyPost_ret (v := .agg #[.int .i64 6, .int .i64 c, .int .i64 s, .int .i64 0, .int .i64 0, .int .u32 0, .int .i64 0, .bool false, .slice none 0 0]) (by simp [results, Tryd.results16, go_sem, z0, z1, z2, z3, z4, z5, z6, z7, z8]) rfl ?_
  refine ⟨none, 0, rfl, row8_0 _, ?_⟩
  repeat (first | with_reducible refine Below.setCell ?_ hpq _ | with_reducible refine Below.setCell ?_ hpx _)
  exact HW.out.1
set_option maxHeartbeats 4000000 in
theorem pbare_7 (c s f a n : Int) (v : Nat) (h : Bool) (l : Nat) (b : Nat → Nat) (d : Option Addr) (e : Nat) (w : World) (hr : Row8 w d l e b) : Calls Tryd.prog 16 #[.agg #[.int .i64 7, .int .i64 c, .int .i64 s, .int .i64 f, .int .i64 a, .int .u32 (v : Nat), .int .i64 n, .bool h, .slice d l e]] w (BaP (Mv.mk 7 c s f a v n h l b).bare w) := by
  have k1 := Bk.new w #[.int .i64 7, .int .i64 c, .int .i64 s, .int .i64 f, .int .i64 a, .int .u32 (v : Nat), .int .i64 n, .bool h, .slice d l e] 45
  have k2 := Bk.new (w.alloc (.cells #[.int .i64 7, .int .i64 c, .int .i64 s, .int .i64 f, .int .i64 a, .int .u32 (v : Nat), .int .i64 n, .bool h, .slice d l e] 45)) #[.int .i64 0, .int .i64 0, .int .i64 0, .int .i64 0, .int .i64 0, .int .u32 0, .int .i64 0, .bool false, .slice none 0 0] 45
  have k3 := Bk.new ((w.alloc (.cells #[.int .i64 7, .int .i64 c, .int .i64 s, .int .i64 f, .int .i64 a, .int .u32 (v : Nat), .int .i64 n, .bool h, .slice d l e] 45)).alloc (.cells #[.int .i64 0, .int .i64 0, .int .i64 0, .int .i64 0, .int .i64 0, .int .u32 0, .int .i64 0, .bool false, .slice none 0 0] 45)) #[.int .i64 7, .int .i64 c, .int .i64 0, .int .i64 0, .int .i64 0, .int .u32 0, .int .i64 0, .bool false, .slice none 0 0] 45
  simp only [World.size_alloc] at k2 k3
  have k1 := (k1.off (l := []) (Off.alloc _ _ (.cells #[.int .i64 0, .int .i64 0, .int .i64 0, .int .i64 0, .int .i64 0, .int .u32 0, .int .i64 0, .bool false, .slice none 0 0] 45)) (by simp)).off (l := []) (Off.alloc _ _ (.cells #[.int .i64 7, .int .i64 c, .int .i64 0, .int .i64 0, .int .i64 0, .int .u32 0, .int .i64 0, .bool false, .slice none 0 0] 45)) (by simp)
  have k2 := k2.off (l := []) (Off.alloc _ _ (.cells #[.int .i64 7, .int .i64 c, .int .i64 0, .int .i64 0, .int .i64 0, .int .u32 0, .int .i64 0, .bool false, .slice none 0 0] 45)) (by simp)
  have bW : Below w.heap.size w (((w.alloc (.cells #[.int .i64 7, .int .i64 c, .int .i64 s, .int .i64 f, .int .i64 a, .int .u32 (v : Nat), .int .i64 n, .bool h, .slice d l e] 45)).alloc (.cells #[.int .i64 0, .int .i64 0, .int .i64 0, .int .i64 0, .int .i64 0, .int .u32 0, .int .i64 0, .bool false, .slice none 0 0] 45)).alloc (.cells #[.int .i64 7, .int .i64 c, .int .i64 0, .int .i64 0, .int .i64 0, .int .u32 0, .int .i64 0, .bool false, .slice none 0 0] 45)) := belA (belA (belA (Below.refl _ w) _) _) _
  obtain ⟨W, hW⟩ : ∃ y, ((w.alloc (.cells #[.int .i64 7, .int .i64 c, .int .i64 s, .int .i64 f, .int .i64 a, .int .u32 (v : Nat), .int .i64 n, .bool h, .slice d l e] 45)).alloc (.cells #[.int .i64 0, .int .i64 0, .int .i64 0, .int .i64 0, .int .i64 0, .int .u32 0, .int .i64 0, .bool false, .slice none 0 0] 45)).alloc (.cells #[.int .i64 7, .int .i64 c, .int .i64 0, .int .i64 0, .int .i64 0, .int .u32 0, .int .i64 0, .bool false, .slice none 0 0] 45) = y := ⟨_, rfl⟩
  rw [hW] at k1 k2 k3 bW
  have hR := hr.below bW
  have HW : Hid (Below w.heap.size w W ∧ Bk W w.heap.size #[.int .i64 7, .int .i64 c, .int .i64 s, .int .i64 f, .int .i64 a, .int .u32 (v : Nat), .int .i64 n, .bool h, .slice d l e] 45 ∧ Bk W (w.heap.size + 1) #[.int .i64 0, .int .i64 0, .int .i64 0, .int .i64 0, .int .i64 0, .int .u32 0, .int .i64 0, .bool false, .slice none 0 0] 45 ∧ Bk W (w.heap.size + 1 + 1) #[.int .i64 7, .int .i64 c, .int .i64 0, .int .i64 0, .int .i64 0, .int .u32 0, .int .i64 0, .bool false, .slice none 0 0] 45 ∧ Row8 W d l e b) := ⟨bW, k1, k2, k3, hR⟩
  obtain ⟨q, hq⟩ : ∃ y, w.heap.size + 1 = y := ⟨_, rfl⟩
  rw [hq] at k2 k3 HW
  obtain ⟨x, hx⟩ : ∃ y, q + 1 = y := ⟨_, rfl⟩
  rw [hx] at k3 HW
  have n1 : ¬ w.heap.size = q := by omega
  have n2 : ¬ q = w.heap.size := by omega
  have n3 : ¬ w.heap.size = x := by omega
  have n4 : ¬ x = w.heap.size := by omega
  have n5 : ¬ q = x := by omega
  have n6 : ¬ x = q := by omega
  have hpq : w.heap.size ≤ q := by omega
  have hpx : w.heap.size ≤ x := by omega
  have hbare : (Mv.mk 7 c s f a v n h l b).bare = ⟨7, c, s, 0, 0, 0, n, false, 0, fun _ => 0⟩ := by simp [Mv.bare, sided]
  rw [hbare]
  clear hbare
  have m0 : W.cell? ⟨w.heap.size, 0, none⟩ = some (.int .i64 7) := k1.cell 0
  have m1 : W.cell? ⟨w.heap.size, 1, none⟩ = some (.int .i64 c) := k1.cell 1
  have m2 : W.cell? ⟨w.heap.size, 2, none⟩ = some (.int .i64 s) := k1.cell 2
  have m3 : W.cell? ⟨w.heap.size, 3, none⟩ = some (.int .i64 f) := k1.cell 3
  have m4 : W.cell? ⟨w.heap.size, 4, none⟩ = some (.int .i64 a) := k1.cell 4
  have m5 : W.cell? ⟨w.heap.size, 5, none⟩ = some (.int .u32 (v : Nat)) := k1.cell 5
  have m6 : W.cell? ⟨w.heap.size, 6, none⟩ = some (.int .i64 n) := k1.cell 6
  have m7 : W.cell? ⟨w.heap.size, 7, none⟩ = some (.bool h) := k1.cell 7
  have m8 : W.cell? ⟨w.heap.size, 8, none⟩ = some (.slice d l e) := k1.cell 8
  have z0 : W.cell? ⟨q, 0, none⟩ = some (.int .i64 0) := k2.cell 0
  have z1 : W.cell? ⟨q, 1, none⟩ = some (.int .i64 0) := k2.cell 1
  have z2 : W.cell? ⟨q, 2, none⟩ = some (.int .i64 0) := k2.cell 2
  have z3 : W.cell? ⟨q, 3, none⟩ = some (.int .i64 0) := k2.cell 3
  have z4 : W.cell? ⟨q, 4, none⟩ = some (.int .i64 0) := k2.cell 4
  have z5 : W.cell? ⟨q, 5, none⟩ = some (.int .u32 0) := k2.cell 5
  have z6 : W.cell? ⟨q, 6, none⟩ = some (.int .i64 0) := k2.cell 6
  have z7 : W.cell? ⟨q, 7, none⟩ = some (.bool false) := k2.cell 7
  have z8 : W.cell? ⟨q, 8, none⟩ = some (.slice none 0 0) := k2.cell 8
  have x0 : W.cell? ⟨x, 0, none⟩ = some (.int .i64 7) := k3.cell 0
  have x1 : W.cell? ⟨x, 1, none⟩ = some (.int .i64 c) := k3.cell 1
  have x2 : W.cell? ⟨x, 2, none⟩ = some (.int .i64 0) := k3.cell 2
  have x3 : W.cell? ⟨x, 3, none⟩ = some (.int .i64 0) := k3.cell 3
  have x4 : W.cell? ⟨x, 4, none⟩ = some (.int .i64 0) := k3.cell 4
  have x5 : W.cell? ⟨x, 5, none⟩ = some (.int .u32 0) := k3.cell 5
  have x6 : W.cell? ⟨x, 6, none⟩ = some (.int .i64 0) := k3.cell 6
  have x7 : W.cell? ⟨x, 7, none⟩ = some (.bool false) := k3.cell 7
  have x8 : W.cell? ⟨x, 8, none⟩ = some (.slice none 0 0) := k3.cell 8
  have fz := k2.fz
  have fx := k3.fz
  have HE : Hid (_ = W ∧ w.heap.size + 1 = q ∧ q + 1 = x) := ⟨hW, hq, hx⟩
  clear k1 k2 k3 bW hr hR hW hq hx
  go_enter Tryd.func16, Tryd.ntmps16
  go_upto_region 2 with fail
  rw [HE.out.1, HE.out.2.1, HE.out.2.2]
  clear HE
  go_wp2_with fail
  refine bodyPost_ret (v := .agg #[.int .i64 7, .int .i64 c, .int .i64 s, .int .i64 0, .int .i64 0, .int .u32 0, .int .i64 n, .bool false, .slice none 0 0]) (by simp [results, Tryd.results16, go_sem, z0, z1, z2, z3, z4, z5, z6, z7, z8]) rfl ?_
  refine ⟨none, 0, rfl, row8_0 _, ?_⟩
  repeat (first | with_reducible refine Below.setCell ?_ hpq _ | with_reducible refine Below.setCell ?_ hpx _)
  exact HW.out.1
set_option maxHeartbeats 4000000 in
theorem pbare_8 (c s f a n : Int) (v : Nat) (h : Bool) (l : Nat) (b : Nat → Nat) (d : Option Addr) (e : Nat) (w : World) (hr : Row8 w d l e b) : Calls Tryd.prog 16 #[.agg #[.int .i64 8, .int .i64 c, .int .i64 s, .int .i64 f, .int .i64 a, .int .u32 (v : Nat), .int .i64 n, .bool h, .slice d l e]] w (BaP (Mv.mk 8 c s f a v n h l b).bare w) := by
  have k1 := Bk.new w #[.int .i64 8, .int .i64 c, .int .i64 s, .int .i64 f, .int .i64 a, .int .u32 (v : Nat), .int .i64 n, .bool h, .slice d l e] 45
  have k2 := Bk.new (w.alloc (.cells #[.int .i64 8, .int .i64 c, .int .i64 s, .int .i64 f, .int .i64 a, .int .u32 (v : Nat), .int .i64 n, .bool h, .slice d l e] 45)) #[.int .i64 0, .int .i64 0, .int .i64 0, .int .i64 0, .int .i64 0, .int .u32 0, .int .i64 0, .bool false, .slice none 0 0] 45
  have k3 := Bk.new ((w.alloc (.cells #[.int .i64 8, .int .i64 c, .int .i64 s, .int .i64 f, .int .i64 a, .int .u32 (v : Nat), .int .i64 n, .bool h, .slice d l e] 45)).alloc (.cells #[.int .i64 0, .int .i64 0, .int .i64 0, .int .i64 0, .int .i64 0, .int .u32 0, .int .i64 0, .bool false, .slice none 0 0] 45)) #[.int .i64 8, .int .i64 c, .int .i64 0, .int .i64 0, .int .i64 0, .int .u32 0, .int .i64 0, .bool false, .slice none 0 0] 45
  simp only [World.size_alloc] at k2 k3
  have k1 := (k1.off (l := []) (Off.alloc _ _ (.cells #[.int .i64 0, .int .i64 0, .int .i64 0, .int .i64 0, .int .i64 0, .int .u32 0, .int .i64 0, .bool false, .slice none 0 0] 45)) (by simp)).off (l := []) (Off.alloc _ _ (.cells #[.int .i64 8, .int .i64 c, .int .i64 0, .int .i64 0, .int .i64 0, .int .u32 0, .int .i64 0, .bool false, .slice none 0 0] 45)) (by simp)
  have k2 := k2.off (l := []) (Off.alloc _ _ (.cells #[.int .i64 8, .int .i64 c, .int .i64 0, .int .i64 0, .int .i64 0, .int .u32 0, .int .i64 0, .bool false, .slice none 0 0] 45)) (by simp)
  have bW : Below w.heap.size w (((w.alloc (.cells #[.int .i64 8, .int .i64 c, .int .i64 s, .int .i64 f, .int .i64 a, .int .u32 (v : Nat), .int .i64 n, .bool h, .slice d l e] 45)).alloc (.cells #[.int .i64 0, .int .i64 0, .int .i64 0, .int .i64 0, .int .i64 0, .int .u32 0, .int .i64 0, .bool false, .slice none 0 0] 45)).alloc (.cells #[.int .i64 8, .int .i64 c, .int .i64 0, .int .i64 0, .int .i64 0, .int .u32 0, .int .i64 0, .bool false, .slice none 0 0] 45)) := belA (belA (belA (Below.refl _ w) _) _) _
  obtain ⟨W, hW⟩ : ∃ y, ((w.alloc (.cells #[.int .i64 8, .int .i64 c, .int .i64 s, .int .i64 f, .int .i64 a, .int .u32 (v : Nat), .int .i64 n, .bool h, .slice d l e] 45)).alloc (.cells #[.int .i64 0, .int .i64 0, .int .i64 0, .int .i64 0, .int .i64 0, .int .u32 0, .int .i64 0, .bool false, .slice none 0 0] 45)).alloc (.cells #[.int .i64 8, .int .i64 c, .int .i64 0, .int .i64 0, .int .i64 0, .int .u32 0, .int .i64 0, .bool false, .slice none 0 0] 45) = y := ⟨_, rfl⟩
  rw [hW] at k1 k2 k3 bW
  have hR := hr.below bW
  have HW : Hid (Below w.heap.size w W ∧ Bk W w.heap.size #[.int .i64 8, .int .i64 c, .int .i64 s, .int .i64 f, .int .i64 a, .int .u32 (v : Nat), .int .i64 n, .bool h, .slice d l e] 45 ∧ Bk W (w.heap.size + 1) #[.int .i64 0, .int .i64 0, .int .i64 0, .int .i64 0, .int .i64 0, .int .u32 0, .int .i64 0, .bool false, .slice none 0 0] 45 ∧ Bk W (w.heap.size + 1 + 1) #[.int .i64 8, .int .i64 c, .int .i64 0, .int .i64 0, .int .i64 0, .int .u32 0, .int .i64 0, .bool false, .slice none 0 0] 45 ∧ Row8 W d l e b) := ⟨bW, k1, k2, k3, hR⟩
  obtain ⟨q, hq⟩ : ∃ y, w.heap.size + 1 = y := ⟨_, rfl⟩
  rw [hq] at k2 k3 HW
  obtain ⟨x, hx⟩ : ∃ y, q + 1 = y := ⟨_, rfl⟩
  rw [hx] at k3 HW
  have n1 : ¬ w.heap.size = q := by omega
  have n2 : ¬ q = w.heap.size := by omega
  have n3 : ¬ w.heap.size = x := by omega
  have n4 : ¬ x = w.heap.size := by omega
  have n5 : ¬ q = x := by omega
  have n6 : ¬ x = q := by omega
  have hpq : w.heap.size ≤ q := by omega
  have hpx : w.heap.size ≤ x := by omega
  have hbare : (Mv.mk 8 c s f a v n h l b).bare = ⟨8, c, 0, 0, 0, 0, n, false, 0, fun _ => 0⟩ := by simp [Mv.bare, sided]
  rw [hbare]
  clear hbare
  have m0 : W.cell? ⟨w.heap.size, 0, none⟩ = some (.int .i64 8) := k1.cell 0
  have m1 : W.cell? ⟨w.heap.size, 1, none⟩ = some (.int .i64 c) := k1.cell 1
  have m2 : W.cell? ⟨w.heap.size, 2, none⟩ = some (.int .i64 s) := k1.cell 2
  have m3 : W.cell? ⟨w.heap.size, 3, none⟩ = some (.int .i64 f) := k1.cell 3
  have m4 : W.cell? ⟨w.heap.size, 4, none⟩ = some (.int .i64 a) := k1.cell 4
  have m5 : W.cell? ⟨w.heap.size, 5, none⟩ = some (.int .u32 (v : Nat)) := k1.cell 5
  have m6 : W.cell? ⟨w.heap.size, 6, none⟩ = some (.int .i64 n) := k1.cell 6
  have m7 : W.cell? ⟨w.heap.size, 7, none⟩ = some (.bool h) := k1.cell 7
  have m8 : W.cell? ⟨w.heap.size, 8, none⟩ = some (.slice d l e) := k1.cell 8
  have z0 : W.cell? ⟨q, 0, none⟩ = some (.int .i64 0) := k2.cell 0
  have z1 : W.cell? ⟨q, 1, none⟩ = some (.int .i64 0) := k2.cell 1
  have z2 : W.cell? ⟨q, 2, none⟩ = some (.int .i64 0) := k2.cell 2
  have z3 : W.cell? ⟨q, 3, none⟩ = some (.int .i64 0) := k2.cell 3
  have z4 : W.cell? ⟨q, 4, none⟩ = some (.int .i64 0) := k2.cell 4
  have z5 : W.cell? ⟨q, 5, none⟩ = some (.int .u32 0) := k2.cell 5
  have z6 : W.cell? ⟨q, 6, none⟩ = some (.int .i64 0) := k2.cell 6
  have z7 : W.cell? ⟨q, 7, none⟩ = some (.bool false) := k2.cell 7
  have z8 : W.cell? ⟨q, 8, none⟩ = some (.slice none 0 0) := k2.cell 8
  have x0 : W.cell? ⟨x, 0, none⟩ = some (.int .i64 8) := k3.cell 0
  have x1 : W.cell? ⟨x, 1, none⟩ = some (.int .i64 c) := k3.cell 1
  have x2 : W.cell? ⟨x, 2, none⟩ = some (.int .i64 0) := k3.cell 2
  have x3 : W.cell? ⟨x, 3, none⟩ = some (.int .i64 0) := k3.cell 3
  have x4 : W.cell? ⟨x, 4, none⟩ = some (.int .i64 0) := k3.cell 4
  have x5 : W.cell? ⟨x, 5, none⟩ = some (.int .u32 0) := k3.cell 5
  have x6 : W.cell? ⟨x, 6, none⟩ = some (.int .i64 0) := k3.cell 6
  have x7 : W.cell? ⟨x, 7, none⟩ = some (.bool false) := k3.cell 7
  have x8 : W.cell? ⟨x, 8, none⟩ = some (.slice none 0 0) := k3.cell 8
  have fz := k2.fz
  have fx := k3.fz
  have HE : Hid (_ = W ∧ w.heap.size + 1 = q ∧ q + 1 = x) := ⟨hW, hq, hx⟩
  clear k1 k2 k3 bW hr hR hW hq hx
  go_enter Tryd.func16, Tryd.ntmps16
  go_upto_region 2 with fail
  rw [HE.out.1, HE.out.2.1, HE.out.2.2]
  clear HE
  go_wp2_with fail
  refine bodyPost_ret (v := .agg #[.int .i64 8, .int .i64 c, .int .i64 0, .int .i64 0, .int .i64 0, .int .u32 0, .int .i64 n, .bool false, .slice none 0 0]) (by simp [results, Tryd.results16, go_sem, z0, z1, z2, z3, z4, z5, z6, z7, z8]) rfl ?_
  refine ⟨none, 0, rfl, row8_0 _, ?_⟩
  repeat (first | with_reducible refine Below.setCell ?_ hpq _ | with_reducible refine Below.setCell ?_ hpx _)
  exact HW.out.1
end Go.Proofs.YtnmnjcjfgbpkaaaDoor
