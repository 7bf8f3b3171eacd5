/- Layer 20: a net of our own written over and appended to: nothing else turns. (gensz.py) -/
import Derived.Test.YtiikebaehoobnaaDoorJNcs2
import Derived.Test.YtiikebaehoobnaaDoorJSy0
namespace Go.Proofs.YtiikebaehoobnaaDoor
set_option maxRecDepth 100000
open Go.RowKit Go.Maps
set_option maxRecDepth 100000
set_option linter.unusedVariables false
/-- Where a list's block lies: where it lay, or beyond W0. -/
def Lies (W0 : World) (u v : Value) : Prop := v.ownBlock = u.ownBlock ∨ ∀ k, v.ownBlock = some k → W0.heap.size ≤ k
/-- The net at bA, its lists whatever they hold; all else as in W0. -/
structure MA (w W0 wr : World) (bA B0 : Nat) (u0 u1 v0 v1 : Value) (n0 n1 ms : Nat) : Prop where
  bk : Bk wr bA #[v0, v1, .int .u32 (ms : Nat)] 25
  o0 : ∃ x, wr.ownsRow B0 63 5 v0 n0 x
  o1 : ∃ x, wr.ownsRow B0 63 5 v1 n1 x
  sep : ∀ k, v0.ownBlock = some k → v1.ownBlock ≠ some k
  l0 : Lies W0 u0 v0
  l1 : Lies W0 u1 v1
  sz : W0.heap.size ≤ wr.heap.size
  kp : ∀ k, k < W0.heap.size → k ≠ bA → u0.ownBlock ≠ some k → u1.ownBlock ≠ some k → wr.heap[k]? = W0.heap[k]?
  bel : Below w.heap.size w wr
  hb : w.heap.size ≤ bA ∧ w.heap.size ≤ B0 ∧ bA < W0.heap.size
theorem own_form {w : World} {B n i : Nat} {v : Value} {xs : List Value} (h : w.ownsRow B 63 5 v n xs) (hi : i < n) : ∃ g c, v = .slice (some ⟨g, 0, none⟩) n c ∧ B ≤ g ∧ (∃ x, w.cell? ⟨g, i * 5, none⟩ = some x) ∧ (∀ k, w.frozen? ⟨g, k, none⟩ = false) ∧ ∀ y, ∃ xs', (w.setCell ⟨g, i * 5, none⟩ y).ownsRow B 63 5 v n xs' := by
  rcases h.2 with ⟨_, e0⟩ | ⟨g, cap, cur, e, hB, hg, h1, h2, h3, h4⟩
  · omega
  · have hb : Bk w g cur 63 := hg
    have hs : i * 5 < cur.size := by omega
    refine ⟨g, cap, e, hB, ⟨cur[i * 5], ?_⟩, hb.fz, fun y => ⟨(cur.setIfInBounds (i * 5) y).toList.take (n * 5), ?_, .inr ⟨g, cap, cur.setIfInBounds (i * 5) y, e, hB, hb.set _ _, h1, h2, by rw [Array.size_setIfInBounds]; exact h3, rfl⟩⟩⟩
    · rw [hb.cell, Array.getElem?_eq_getElem hs]
    · rw [List.length_take, Array.length_toList, Array.size_setIfInBounds]
      omega
/-- A list's element is written. -/
theorem MA.set0 {w W0 wr : World} {bA B0 : Nat} {u0 u1 v0 v1 : Value} {n0 n1 ms i g c : Nat} {y : Value} (h : MA w W0 wr bA B0 u0 u1 v0 v1 n0 n1 ms) (hi : i < n0) (ev : v0 = .slice (some ⟨g, 0, none⟩) n0 c) : MA w W0 (wr.setCell ⟨g, i * 5, none⟩ y) bA B0 u0 u1 v0 v1 n0 n1 ms := by
  obtain ⟨x0, ho0⟩ := h.o0
  obtain ⟨x1, ho1⟩ := h.o1
  obtain ⟨g', c', e, hB, _, _, hs⟩ := own_form ho0 hi
  rw [ev] at e
  cases e
  have os := Off.setCell g (i * 5) wr y
  have hg : v0.ownBlock = some g := by rw [ev]; rfl
  have hT : 25 ≠ 63 := by decide
  have t0 := own_ty hT h.bk ho0
  have hne : bA ≠ g := fun q => t0 (by rw [hg, q])
  refine ⟨h.bk.off os (by simpa using hne), ?_, ?_, h.sep, h.l0, h.l1, by have := os.size; have := h.sz; omega, fun k hk hb k0 k1 => ?_, os.below h.bel (by have := h.hb; simp; omega) h.bel.size, h.hb⟩
  · obtain ⟨x', q⟩ := hs y
    exact ⟨x', q⟩
  · exact ⟨x1, own_off ho1 os (fun k hk hm => by simp at hm; rw [hm] at hk; exact h.sep g hg hk)⟩
  · rw [← h.kp k hk hb k0 k1]
    refine os.block k (Nat.lt_of_lt_of_le hk h.sz) (fun hm => ?_)
    simp at hm
    subst hm
    rcases h.l0 with q | q
    · rw [hg] at q
      exact k0 q.symm
    · have := q k hg
      omega
/-- One more. -/
theorem MA.app0 {w W0 wr wx w7 : World} {bA B0 : Nat} {u0 u1 v0 v1 v' : Value} {n0 n1 ms : Nat} {x : List Value} (h : MA w W0 wr bA B0 u0 u1 v0 v1 n0 n1 ms) (bx : Below wr.heap.size wr wx) (o7 : w7.ownsRow B0 63 5 v' (n0 + 1) x) (g7 : wx.grownBy w7 v0.ownBlock) (e7 : v'.ownBlock = v0.ownBlock ∨ v'.ownBlock = some wx.heap.size) : MA w W0 (w7.setCell ⟨bA, 0, none⟩ v') bA B0 u0 u1 v' v1 (n0 + 1) n1 ms := by
  obtain ⟨x0, ho0⟩ := h.o0
  obtain ⟨x1, ho1⟩ := h.o1
  have hT : 25 ≠ 63 := by decide
  have kx := h.bk.off (Off.of_below (l := []) bx) (by simp)
  have p0 := ownB ho0 bx
  have p1 := ownB ho1 bx
  have t0 := own_ty hT kx p0
  have k7 : Bk w7 bA #[v0, v1, .int .u32 (ms : Nat)] 25 := (g7.block bA kx.lt (fun e => t0 e.symm)).trans kx
  have q1 : w7.ownsRow B0 63 5 v1 n1 x1 := own_keepP p1 (fun k hk => g7.block k (p1.lt k hk).2 (fun e => h.sep k e.symm hk))
  have os := Off.setCell bA 0 w7 v'
  have s7 := own_ty hT k7 o7
  have sj := own_ty hT k7 q1
  have b7 : Below w.heap.size w w7 := (h.bel.trans (bx.mono h.bel.size)).grown g7 (by have := h.bel.size; have := bx.size; omega) (fun k hk => by have := (p0.lt k hk).1; have := h.hb; omega)
  have sz7 : W0.heap.size ≤ w7.heap.size := by have := h.sz; have := bx.size; have := g7.size; omega
  have hL : Lies W0 u0 v' := by
    rcases e7 with q | q
    · rcases h.l0 with r | r
      · exact .inl (q.trans r)
      · exact .inr (fun k hk => r k (by rw [← q]; exact hk))
    · refine .inr (fun k hk => ?_)
      rw [q] at hk
      cases hk
      have := h.sz
      have := bx.size
      omega
  have hsep : ∀ k, v'.ownBlock = some k → v1.ownBlock ≠ some k := fun k hk hk2 => by
    rcases e7 with q | q
    · rw [q] at hk
      exact h.sep k hk hk2
    · rw [q] at hk
      cases hk
      have := (p1.lt _ hk2).2
      omega
  have oA : ∃ y, (w7.setCell ⟨bA, 0, none⟩ v').ownsRow B0 63 5 v' (n0 + 1) y := ⟨x, own_off o7 os (fun k hk hm => by simp at hm; rw [hm] at hk; exact s7 hk)⟩
  have oB : ∃ y, (w7.setCell ⟨bA, 0, none⟩ v').ownsRow B0 63 5 v1 n1 y := ⟨x1, own_off q1 os (fun k hk hm => by simp at hm; rw [hm] at hk; exact sj hk)⟩
  refine ⟨k7.set 0 v', oA, oB, hsep, hL, h.l1, by have := os.size; omega, fun k hk hb k0 k1 => ?_, os.below b7 (by have := h.hb; simp; omega) b7.size, h.hb⟩
  rw [← h.kp k hk hb k0 k1, ← bx.block k (Nat.lt_of_lt_of_le hk h.sz)]
  have hkx : k < wx.heap.size := by have := h.sz; have := bx.size; omega
  rw [os.block k (by have := g7.size; omega) (by simpa using hb)]
  refine g7.block k hkx (fun e => ?_)
  rcases h.l0 with q | q
  · rw [q] at e
    exact k0 e.symm
  · have := q k e.symm
    omega
/-- A list's element is written. -/
theorem MA.set1 {w W0 wr : World} {bA B0 : Nat} {u0 u1 v0 v1 : Value} {n0 n1 ms i g c : Nat} {y : Value} (h : MA w W0 wr bA B0 u0 u1 v0 v1 n0 n1 ms) (hi : i < n1) (ev : v1 = .slice (some ⟨g, 0, none⟩) n1 c) : MA w W0 (wr.setCell ⟨g, i * 5, none⟩ y) bA B0 u0 u1 v0 v1 n0 n1 ms := by
  obtain ⟨x1, ho1⟩ := h.o1
  obtain ⟨x0, ho0⟩ := h.o0
  obtain ⟨g', c', e, hB, _, _, hs⟩ := own_form ho1 hi
  rw [ev] at e
  cases e
  have os := Off.setCell g (i * 5) wr y
  have hg : v1.ownBlock = some g := by rw [ev]; rfl
  have hT : 25 ≠ 63 := by decide
  have t1 := own_ty hT h.bk ho1
  have hne : bA ≠ g := fun q => t1 (by rw [hg, q])
  refine ⟨h.bk.off os (by simpa using hne), ?_, ?_, h.sep, h.l0, h.l1, by have := os.size; have := h.sz; omega, fun k hk hb k0 k1 => ?_, os.below h.bel (by have := h.hb; simp; omega) h.bel.size, h.hb⟩
  · exact ⟨x0, own_off ho0 os (fun k hk hm => by simp at hm; rw [hm] at hk; exact h.sep g hk hg)⟩
  · obtain ⟨x', q⟩ := hs y
    exact ⟨x', q⟩
  · rw [← h.kp k hk hb k0 k1]
    refine os.block k (Nat.lt_of_lt_of_le hk h.sz) (fun hm => ?_)
    simp at hm
    subst hm
    rcases h.l1 with q | q
    · rw [hg] at q
      exact k1 q.symm
    · have := q k hg
      omega
/-- One more. -/
theorem MA.app1 {w W0 wr wx w7 : World} {bA B0 : Nat} {u0 u1 v0 v1 v' : Value} {n0 n1 ms : Nat} {x : List Value} (h : MA w W0 wr bA B0 u0 u1 v0 v1 n0 n1 ms) (bx : Below wr.heap.size wr wx) (o7 : w7.ownsRow B0 63 5 v' (n1 + 1) x) (g7 : wx.grownBy w7 v1.ownBlock) (e7 : v'.ownBlock = v1.ownBlock ∨ v'.ownBlock = some wx.heap.size) : MA w W0 (w7.setCell ⟨bA, 1, none⟩ v') bA B0 u0 u1 v0 v' n0 (n1 + 1) ms := by
  obtain ⟨x1, ho1⟩ := h.o1
  obtain ⟨x0, ho0⟩ := h.o0
  have hT : 25 ≠ 63 := by decide
  have kx := h.bk.off (Off.of_below (l := []) bx) (by simp)
  have p1 := ownB ho1 bx
  have p0 := ownB ho0 bx
  have t1 := own_ty hT kx p1
  have k7 : Bk w7 bA #[v0, v1, .int .u32 (ms : Nat)] 25 := (g7.block bA kx.lt (fun e => t1 e.symm)).trans kx
  have q0 : w7.ownsRow B0 63 5 v0 n0 x0 := own_keepP p0 (fun k hk => g7.block k (p0.lt k hk).2 (fun e => h.sep k hk e.symm))
  have os := Off.setCell bA 1 w7 v'
  have s7 := own_ty hT k7 o7
  have sj := own_ty hT k7 q0
  have b7 : Below w.heap.size w w7 := (h.bel.trans (bx.mono h.bel.size)).grown g7 (by have := h.bel.size; have := bx.size; omega) (fun k hk => by have := (p1.lt k hk).1; have := h.hb; omega)
  have sz7 : W0.heap.size ≤ w7.heap.size := by have := h.sz; have := bx.size; have := g7.size; omega
  have hL : Lies W0 u1 v' := by
    rcases e7 with q | q
    · rcases h.l1 with r | r
      · exact .inl (q.trans r)
      · exact .inr (fun k hk => r k (by rw [← q]; exact hk))
    · refine .inr (fun k hk => ?_)
      rw [q] at hk
      cases hk
      have := h.sz
      have := bx.size
      omega
  have hsep : ∀ k, v'.ownBlock = some k → v0.ownBlock ≠ some k := fun k hk hk2 => by
    rcases e7 with q | q
    · rw [q] at hk
      exact h.sep k hk2 hk
    · rw [q] at hk
      cases hk
      have := (p0.lt _ hk2).2
      omega
  have oA : ∃ y, (w7.setCell ⟨bA, 1, none⟩ v').ownsRow B0 63 5 v' (n1 + 1) y := ⟨x, own_off o7 os (fun k hk hm => by simp at hm; rw [hm] at hk; exact s7 hk)⟩
  have oB : ∃ y, (w7.setCell ⟨bA, 1, none⟩ v').ownsRow B0 63 5 v0 n0 y := ⟨x0, own_off q0 os (fun k hk hm => by simp at hm; rw [hm] at hk; exact sj hk)⟩
  refine ⟨k7.set 1 v', oB, oA, fun k hk hk2 => hsep k hk2 hk, h.l0, hL, by have := os.size; omega, fun k hk hb k0 k1 => ?_, os.below b7 (by have := h.hb; simp; omega) b7.size, h.hb⟩
  rw [← h.kp k hk hb k0 k1, ← bx.block k (Nat.lt_of_lt_of_le hk h.sz)]
  have hkx : k < wx.heap.size := by have := h.sz; have := bx.size; omega
  rw [os.block k (by have := g7.size; omega) (by simpa using hb)]
  refine g7.block k hkx (fun e => ?_)
  rcases h.l1 with q | q
  · rw [q] at e
    exact k1 e.symm
  · have := q k e.symm
    omega
end Go.Proofs.YtiikebaehoobnaaDoor

