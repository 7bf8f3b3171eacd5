/- Layer 18: Copied, of a list of facts. -/
import Derived.Test.YtaeamogagaaodaaGc
namespace Go.Proofs.Ytaeamogagaaodaa
open Go.RowKit Go.Maps Go.Sort
set_option maxRecDepth 100000

/-- The copy, its data new or as they were. -/
structure Cq (w wr : World) (B0 g cp len : Nat) (F : Nat → Fa) : Prop where
  bel : Below w.heap.size w wr
  blk : ∃ cur, wr.heap[g]? = some (.cells cur 43 (0, 0)) ∧ cur.size = cp * 8
  cap : len ≤ cp ∧ cp ≤ maxLen
  row : ∀ i, i < len → ∃ da dc, (∀ j u, (faL (F i) da dc)[j]? = some u → wr.cell? ⟨g, i * 8 + j, none⟩ = some u) ∧ Row8 wr da (F i).n dc (F i).b ∧ ∀ y, da = some y → 0 < (F i).n → y.block ≠ g ∧ (y.block < B0 ∨ w.heap.size ≤ y.block)
section
variable {w wr w' : World} {B0 g cp len : Nat} {F : Nat → Fa}
theorem Cq.below (h : Cq w wr B0 g cp len F) (b : Below wr.heap.size wr w') : Cq w w' B0 g cp len F := by
  obtain ⟨cur, hc, hz⟩ := h.blk
  refine ⟨h.bel.trans (b.mono h.bel.size), ⟨cur, (b.block g (Array.getElem?_eq_some_iff.1 hc).1).trans hc, hz⟩, h.cap, fun i hi => ?_⟩
  obtain ⟨da, dc, h1, h2, h3⟩ := h.row i hi
  exact ⟨da, dc, fun j u hu => cell_belowJ (h1 j u hu) b, h2.below b, h3⟩
theorem Cq.frow (h : Cq w wr B0 g cp len F) : FRow wr (some ⟨g, 0, none⟩) len F := fun i hi => by
  obtain ⟨da, dc, h1, h2, _⟩ := h.row i hi
  refine ⟨g, 0, da, dc, rfl, ?_, ?_, ?_, ?_, ?_, ?_, ?_, ?_, h2⟩
  all_goals rw [Nat.zero_add]
  · exact h1 0 _ rfl
  · exact h1 1 _ rfl
  · exact h1 2 _ rfl
  · exact h1 3 _ rfl
  · exact h1 4 _ rfl
  · exact h1 5 _ rfl
  · exact h1 6 _ rfl
  · exact h1 7 _ rfl
theorem row8_off2 {a : Option Addr} {n cap r : Nat} {bs : Nat → Nat} (h : Row8 wr a n cap bs) (q : Off [r] wr w') (hl : ∀ y, a = some y → 0 < n → y.block ≠ r) : Row8 w' a n cap bs := by
  refine ⟨h.byte, h.nil, fun x hx i hi => ?_, h.le⟩
  have h1 := h.src x hx i hi
  have hlt := World.block_lt_of_cell? wr _ h1
  have hb : (x.add i).block = x.block := by unfold Addr.add; split <;> rfl
  have he : w'.heap[(x.add i).block]? = wr.heap[(x.add i).block]? := q.block _ hlt (by rw [hb]; simpa using hl x hx (by omega))
  rw [← h1]
  unfold World.cell?
  rw [he]
theorem Cq.set (h : Cq w wr B0 g cp len F) (hg : w.heap.size ≤ g) {i : Nat} (hi : i < len) {da : Option Addr} {dc : Nat} (R : Row8 wr da (F i).n dc (F i).b) (hd : ∀ y, da = some y → 0 < (F i).n → y.block ≠ g ∧ (y.block < B0 ∨ w.heap.size ≤ y.block)) : Cq w (wr.setCell ⟨g, i * 8 + 7, none⟩ (.slice da (F i).n dc)) B0 g cp len F := by
  have o : Off [g] wr (wr.setCell ⟨g, i * 8 + 7, none⟩ (.slice da (F i).n dc)) := Off.setCell _ _ _ _
  obtain ⟨cur, hc, hz⟩ := h.blk
  refine ⟨o.below h.bel (fun k hk => by simp at hk; omega) h.bel.size, ⟨_, heap_setCell_same _ _ _ _ _ _ hc, by simpa using hz⟩, h.cap, fun k hk => ?_⟩
  obtain ⟨dk, ck, h1, h2, h3⟩ := h.row k hk
  by_cases e : k = i
  · subst e
    refine ⟨da, dc, fun j u hu => ?_, row8_off2 R o (fun y hy hn => (hd y hy hn).1), hd⟩
    have hj : j < 8 := by
      have := (List.getElem?_eq_some_iff.1 hu).1
      simpa [faL] using this
    by_cases e7 : j = 7
    · subst e7
      simp [faL] at hu
      subst hu
      exact World.cell?_setCell_same _ _ _ (h1 7 _ rfl)
    · rw [World.cell?_setCell_other _ _ _ _ (by intro q; have := congrArg Addr.off q; simp at this; omega)]
      have : j = 0 ∨ j = 1 ∨ j = 2 ∨ j = 3 ∨ j = 4 ∨ j = 5 ∨ j = 6 := by omega
      rcases this with rfl | rfl | rfl | rfl | rfl | rfl | rfl
      all_goals exact h1 _ u hu
  · refine ⟨dk, ck, fun j u hu => ?_, row8_off2 h2 o (fun y hy hn => (h3 y hy hn).1), h3⟩
    have hj : j < 8 := by
      have := (List.getElem?_eq_some_iff.1 hu).1
      simpa [faL] using this
    rw [World.cell?_setCell_other _ _ _ _ (by intro q; have := congrArg Addr.off q; simp at this; omega)]
    exact h1 j u hu
/-- The copy is a list of our own. -/
theorem Cq.own (h : Cq w wr B0 g cp len F) {B : Nat} (hB : B ≤ g) : ∃ (A : Nat → Option Addr) (C : Nat → Nat), wr.ownsRow B 43 8 (.slice (some ⟨g, 0, none⟩) len cp) len (flF len F A C) ∧ ∀ i, i < len → Row8 wr (A i) (F i).n (C i) (F i).b ∧ ∀ y, A i = some y → 0 < (F i).n → y.block ≠ g ∧ (y.block < B0 ∨ w.heap.size ≤ y.block) := by
  have key : ∀ i, ∃ x : Option Addr × Nat, i < len → (∀ j u, (faL (F i) x.1 x.2)[j]? = some u → wr.cell? ⟨g, i * 8 + j, none⟩ = some u) ∧ Row8 wr x.1 (F i).n x.2 (F i).b ∧ ∀ y, x.1 = some y → 0 < (F i).n → y.block ≠ g ∧ (y.block < B0 ∨ w.heap.size ≤ y.block) := fun i => by
    by_cases hi : i < len
    · obtain ⟨da, dc, h1, h2, h3⟩ := h.row i hi
      exact ⟨(da, dc), fun _ => ⟨h1, h2, h3⟩⟩
    · exact ⟨(none, 0), fun q => absurd q hi⟩
  obtain ⟨X, hX⟩ := Classical.axiomOfChoice key
  obtain ⟨cur, hc, hz⟩ := h.blk
  have hcap := h.cap
  refine ⟨fun i => (X i).1, fun i => (X i).2, ⟨flF_len _ _ _ _, .inr ⟨g, cp, cur, rfl, hB, hc, hcap.1, hcap.2, hz, ?_⟩⟩, fun i hi => (hX i hi).2⟩
  apply List.ext_getElem?
  intro k
  by_cases hk : k < len * 8
  · rw [List.getElem?_take_of_lt hk, Array.getElem?_toList, ← cell_of_row wr g k _ _ _ hc]
    have hl : k < (flF len F (fun i => (X i).1) (fun i => (X i).2)).length := by rw [flF_len]; exact hk
    rw [List.getElem?_eq_getElem hl]
    have e := flF_get len F (fun i => (X i).1) (fun i => (X i).2) (k / 8) (k % 8) (by omega) (by omega)
    have ek : k / 8 * 8 + k % 8 = k := by omega
    rw [ek, List.getElem?_eq_getElem hl] at e
    have := (hX (k / 8) (by omega)).1 (k % 8) _ e.symm
    rwa [ek] at this
  · rw [List.getElem?_eq_none (by simp; omega), List.getElem?_eq_none (by rw [flF_len]; omega)]
end
end Go.Proofs.Ytaeamogagaaodaa
