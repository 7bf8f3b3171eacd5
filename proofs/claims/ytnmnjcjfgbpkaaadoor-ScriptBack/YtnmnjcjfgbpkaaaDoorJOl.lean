/- A list of structs of our own, whose bytes lie elsewhere. -/
import Derived.Test.YtnmnjcjfgbpkaaaDoorJRowv
import Derived.Test.YtnmnjcjfgbpkaaaDoorJSb
import Derived.Maps.AppendAt
namespace Go.Proofs.YtnmnjcjfgbpkaaaDoor
set_option maxRecDepth 100000
open Go.RowKit Go.Maps
set_option maxRecDepth 100000
/-- Bytes: where they lie, how many, what they are. -/
structure Bt8 where
  a : Option Addr
  n : Nat
  c : Nat
  b : Nat → Nat
/-- The cells of n elements. -/
def fl (n : Nat) (cs : Nat → List Value) : List Value := (List.range n).flatMap cs
theorem fl_succ (n : Nat) (cs : Nat → List Value) : fl (n + 1) cs = fl n cs ++ cs n := by
  unfold fl
  rw [List.range_succ, List.flatMap_append]
  simp
theorem fl_congr {n : Nat} {cs cs' : Nat → List Value} (h : ∀ i, i < n → cs i = cs' i) : fl n cs = fl n cs' := by
  induction n with
  | zero => rfl
  | succ n ih => rw [fl_succ, fl_succ, ih (fun i hi => h i (by omega)), h n (by omega)]
theorem fl_len {K : Nat} (n : Nat) (cs : Nat → List Value) (h : ∀ i, i < n → (cs i).length = K) : (fl n cs).length = n * K := by
  induction n with
  | zero => simp [fl]
  | succ n ih => rw [fl_succ, List.length_append, ih (fun i hi => h i (by omega)), h n (by omega), Nat.succ_mul]
theorem fl_get {K : Nat} (n : Nat) (cs : Nat → List Value) (h : ∀ i, i < n → (cs i).length = K) (i j : Nat) (hi : i < n) (hj : j < K) : (fl n cs)[i * K + j]? = (cs i)[j]? := by
  induction n with
  | zero => omega
  | succ n ih =>
    rw [fl_succ]
    have hl := fl_len n cs (fun i hi => h i (by omega))
    by_cases e : i = n
    · subst e
      rw [List.getElem?_append_right (by omega), hl]
      congr 1
      omega
    · have h1 : i * K + j < n * K := by
        have : (i + 1) * K ≤ n * K := Nat.mul_le_mul_right _ (by omega)
        rw [Nat.succ_mul] at this
        omega
      rw [List.getElem?_append_left (by omega)]
      exact ih (fun i hi => h i (by omega)) (by omega)
/-- A list of our own (all of it made since W): n elements of K cells, of type T; its bytes. -/
structure OL (W wx : World) (T K : Nat) (v : Value) (n : Nat) (cs : Nat → List Value) (bt : Nat → List Bt8) : Prop where
  own : wx.ownsRow W.heap.size T K v n (fl n cs)
  bel : Below W.heap.size W wx
  len : ∀ i, i < n → (cs i).length = K
  row : ∀ i, i < n → ∀ r ∈ bt i, Row8 wx r.a r.n r.c r.b ∧ ∀ y, r.a = some y → 0 < r.n → some y.block ≠ v.ownBlock
section
variable {W wx w' : World} {T K : Nat} {v : Value} {n : Nat} {cs : Nat → List Value} {bt : Nat → List Bt8}
theorem OL.none (W : World) (T K : Nat) (cs : Nat → List Value) (bt : Nat → List Bt8) : OL W W T K (.slice none 0 0) 0 cs bt := ⟨⟨by simp [fl], .inl ⟨rfl, rfl⟩⟩, Below.refl _ _, fun i hi => by omega, fun i hi => by omega⟩
theorem OL.below (h : OL W wx T K v n cs bt) (b : Below wx.heap.size wx w') : OL W w' T K v n cs bt := ⟨ownB h.own b, h.bel.trans (b.mono h.bel.size), h.len, fun i hi r hr => ⟨(h.row i hi r hr).1.below b, (h.row i hi r hr).2⟩⟩
theorem Row8.grow {a : Option Addr} {m c : Nat} {bs : Nat → Nat} {row : Option Nat} (h : Row8 wx a m c bs) (g : wx.grownBy w' row) (hl : ∀ y, a = some y → 0 < m → some y.block ≠ row) : Row8 w' a m c bs := by
  refine ⟨h.byte, h.nil, fun x hx i hi => ?_, h.le⟩
  have hb : (x.add i).block = x.block := by unfold Addr.add; split <;> rfl
  exact g.cell (h.src x hx i hi) (by rw [hb]; exact hl x hx (by omega))
theorem Row8.blk {a : Option Addr} {m c : Nat} {bs : Nat → Nat} (h : Row8 wx a m c bs) {y : Addr} (hy : a = some y) (hm : 0 < m) : y.block < wx.heap.size := by
  have h1 := World.block_lt_of_cell? wx _ (h.src y hy 0 hm)
  have hb : (y.add 0).block = y.block := by unfold Addr.add; split <;> rfl
  omega
/-- One element more. -/
theorem OL.more (h : OL W wx T K v n cs bt) {v7 : Value} {w7 : World} (x : List Value) (bx : List Bt8) (hx : x.length = K) (hr : ∀ r ∈ bx, Row8 wx r.a r.n r.c r.b ∧ ∀ y, r.a = some y → 0 < r.n → some y.block ≠ v.ownBlock) (O7 : w7.ownsRow W.heap.size T K v7 (n + 1) (fl n cs ++ x)) (G7 : wx.grownBy w7 v.ownBlock) (E7 : v7.ownBlock = v.ownBlock ∨ v7.ownBlock = some wx.heap.size) :
    OL W w7 T K v7 (n + 1) (fun i => if i = n then x else cs i) (fun i => if i = n then bx else bt i) := by
  have e : fl (n + 1) (fun i => if i = n then x else cs i) = fl n cs ++ x := by
    rw [fl_succ, fl_congr (cs' := cs) (fun i hi => by rw [if_neg (by omega)]), if_pos rfl]
  have key : ∀ r : Bt8, Row8 wx r.a r.n r.c r.b ∧ (∀ y, r.a = some y → 0 < r.n → some y.block ≠ v.ownBlock) → Row8 w7 r.a r.n r.c r.b ∧ ∀ y, r.a = some y → 0 < r.n → some y.block ≠ v7.ownBlock := fun r q => by
    refine ⟨q.1.grow G7 q.2, fun y hy hn => ?_⟩
    rcases E7 with e7 | e7
    · rw [e7]; exact q.2 y hy hn
    · rw [e7]
      have := q.1.blk hy hn
      intro hh
      simp at hh
      omega
  refine ⟨by rw [e]; exact O7, h.bel.grown G7 h.bel.size (fun k hk => (h.own.lt k hk).1), fun i hi => ?_, fun i hi r hm => ?_⟩
  · by_cases q : i = n
    · rw [if_pos q]; exact hx
    · rw [if_neg q]; exact h.len i (by omega)
  · by_cases q : i = n
    · rw [if_pos q] at hm
      exact key r (hr r hm)
    · rw [if_neg q] at hm
      exact key r (h.row i (by omega) r hm)
/-- Its form, and its cells. -/
theorem OL.form (h : OL W wx T K v n cs bt) (hn : 0 < n) : ∃ g c, v = .slice (some ⟨g, 0, .none⟩) n c ∧ g < wx.heap.size ∧ W.heap.size ≤ g ∧ ∀ i j u, i < n → (cs i)[j]? = some u → wx.cell? ⟨g, i * K + j, .none⟩ = some u := by
  rcases h.own.2 with ⟨_, hn0⟩ | ⟨g, cap, cur, e, hg, hgg, h1, h2, h3, h4⟩
  · omega
  · refine ⟨g, cap, e, (Array.getElem?_eq_some_iff.1 hgg).1, hg, fun i j u hi hu => ?_⟩
    have hj : j < K := by
      have := (List.getElem?_eq_some_iff.1 hu).1
      rw [h.len i hi] at this
      exact this
    have hlt : i * K + j < n * K := by
      have : (i + 1) * K ≤ n * K := Nat.mul_le_mul_right _ (by omega)
      rw [Nat.succ_mul] at this
      omega
    rw [cell_of_row wx g _ _ _ _ hgg, ← hu, ← fl_get n cs h.len i j hi hj, ← h4, List.getElem?_take_of_lt hlt, Array.getElem?_toList]
theorem OL.shape (h : OL W wx T K v n cs bt) : ∃ a c, v = .slice a n c ∧ (n = 0 → a = .none ∨ ∃ g, a = some ⟨g, 0, .none⟩) := by
  rcases h.own.2 with ⟨e, hn0⟩ | ⟨g, cap, cur, e, _⟩
  · subst hn0
    exact ⟨_, _, e, fun _ => .inl rfl⟩
  · exact ⟨_, _, e, fun _ => .inr ⟨g, rfl⟩⟩
end
end Go.Proofs.YtnmnjcjfgbpkaaaDoor
