/- Sets of a net in lists (out of Gh14.lean, Gs.lean), for the copy of a net. -/
import Derived.Test.YtiikebaehoobnaaDoorSp1
import Derived.Test.YtiikebaehoobnaaDoorHold
import Derived.Test.YtiikebaehoobnaaDoorOffs
import Derived.Maps.AppendAt
import Derived.Laws.AppendOwnNone
namespace Go.Proofs.YtiikebaehoobnaaDoor
set_option maxRecDepth 100000
open Go.RowKit Go.Maps Go.Sort
set_option maxRecDepth 100000
abbrev Pg := Ps
theorem belowG {w0 w : World} (h : Below w0.heap.size w0 w) (o : Obj) : Below w0.heap.size w0 (w.alloc o) := h.alloc h.size o
/-- The sets of a net, a list in memory. -/
def PRow (w : World) (a : Option Addr) (len : Nat) (P : Nat → Pg) : Prop := ∀ i, i < len → ∃ q off, a = some ⟨q, off, none⟩ ∧ w.cell? ⟨q, off + i * 5, none⟩ = some (.int .u32 ((P i).c : Nat)) ∧ w.cell? ⟨q, off + i * 5 + 1, none⟩ = some (.int .i64 (P i).o) ∧ w.cell? ⟨q, off + i * 5 + 2, none⟩ = some (.int .i64 (P i).i) ∧ w.cell? ⟨q, off + i * 5 + 3, none⟩ = some (.int .i64 (P i).t) ∧ w.cell? ⟨q, off + i * 5 + 4, none⟩ = some (.int .u32 ((P i).n : Nat))
theorem PRow.below {w w' : World} {a : Option Addr} {len : Nat} {P : Nat → Pg} (h : PRow w a len P) (b : Below w.heap.size w w') : PRow w' a len P := fun i hi => by
  obtain ⟨q, off, e, c0, c1, c2, c3, c4⟩ := h i hi
  exact ⟨q, off, e, cellB c0 b, cellB c1 b, cellB c2 b, cellB c3 b, cellB c4 b⟩
def pgL (p : Pg) : List Value := [.int .u32 (p.c : Nat), .int .i64 p.o, .int .i64 p.i, .int .i64 p.t, .int .u32 (p.n : Nat)]
theorem pgL_one (p : Pg) : ∀ u ∈ pgL p, u.oneCell' = true := by
  intro u hu
  simp [pgL] at hu
  rcases hu with rfl | rfl | rfl | rfl | rfl <;> rfl
def flP (k : Nat) (P : Nat → Pg) : List Value := (List.range k).flatMap fun i => pgL (P i)
theorem flP_succ (k : Nat) (P : Nat → Pg) : flP (k + 1) P = flP k P ++ pgL (P k) := by
  unfold flP
  rw [List.range_succ, List.flatMap_append]
  simp
theorem flP_len (k : Nat) (P : Nat → Pg) : (flP k P).length = k * 5 := by
  induction k with
  | zero => rfl
  | succ k ih =>
    rw [flP_succ, List.length_append, ih]
    simp [pgL]
    omega
theorem flP_get (k : Nat) (P : Nat → Pg) (i j : Nat) (hi : i < k) (hj : j < 5) : (flP k P)[i * 5 + j]? = (pgL (P i))[j]? := by
  induction k with
  | zero => omega
  | succ k ih =>
    rw [flP_succ]
    by_cases e : i < k
    · rw [List.getElem?_append_left (by rw [flP_len]; omega), ih e]
    · obtain rfl : i = k := by omega
      rw [List.getElem?_append_right (by rw [flP_len]; omega), flP_len]
      congr 1
      omega
/-- Out of a list of sets of our own. -/
theorem PRow.of_own {w : World} {B k : Nat} {a : Option Addr} {cap : Nat} {P : Nat → Pg} (o : w.ownsRow B 63 5 (.slice a k cap) k (flP k P)) : PRow w a k P := fun i hi => by
  rcases o.2 with ⟨_, hn⟩ | ⟨g, cap', cur, e, hg, hgg, h1, h2, h3, h4⟩
  · omega
  · simp only [Value.slice.injEq] at e
    obtain ⟨rfl, _, rfl⟩ := e
    have cl : ∀ j, j < 5 → w.cell? ⟨g, 0 + i * 5 + j, none⟩ = (pgL (P i))[j]? := fun j hj => by
      rw [Nat.zero_add, cell_of_row w g (i * 5 + j) _ _ _ hgg, ← flP_get k P i j hi hj, ← h4, List.getElem?_take_of_lt (by omega), Array.getElem?_toList]
    exact ⟨g, 0, rfl, cl 0 (by omega), cl 1 (by omega), cl 2 (by omega), cl 3 (by omega), cl 4 (by omega)⟩
theorem own_slcP {w : World} {B e size n : Nat} {v : Value} {xs : List Value} (h : w.ownsRow B e size v (n + 1) xs) : ∃ g cap, v = .slice (some ⟨g, 0, none⟩) (n + 1) cap ∧ B ≤ g := by
  rcases h.2 with ⟨_, hn⟩ | ⟨g, cap, cur, rfl, hg, hgg, rest⟩
  · omega
  · exact ⟨g, cap, rfl, hg⟩
theorem own_belowP {w w' : World} {B e sz n : Nat} {v : Value} {xs : List Value} (h : w.ownsRow B e sz v n xs) (b : Below w.heap.size w w') : w'.ownsRow B e sz v n xs := by
  refine ⟨h.1, ?_⟩
  rcases h.2 with hn | ⟨g, cap, cur, rfl, hg, hgg, rest⟩
  · exact .inl hn
  · exact .inr ⟨g, cap, cur, rfl, hg, (b.block g (Array.getElem?_eq_some_iff.1 hgg).1).trans hgg, rest⟩
theorem own_keepP {w w' : World} {B e s n : Nat} {v : Value} {xs : List Value} (h : w.ownsRow B e s v n xs) (hk : ∀ g, v.ownBlock = some g → w'.heap[g]? = w.heap[g]?) : w'.ownsRow B e s v n xs := by
  obtain ⟨h0, h1 | ⟨g, cap, cur, rfl, hg, hgg, rest⟩⟩ := h
  · exact ⟨h0, .inl h1⟩
  · exact ⟨h0, .inr ⟨g, cap, cur, rfl, hg, (hk g rfl).trans hgg, rest⟩⟩
theorem pg_cells {W : World} {g : Nat} {p : Pg} (h : W.heap[g]? = some (.cells (pgL p).toArray 63 (0, 0))) : ∀ j u, (pgL p)[j]? = some u → W.cell? ((⟨g, 0, none⟩ : Addr).add j) = some u := fun j u hu => by
  have e : (Addr.add ⟨g, 0, none⟩ j) = ⟨g, j, none⟩ := by unfold Addr.add; simp; omega
  rw [e, cell_of_row W g j _ _ _ h]
  simpa using hu
theorem info_par : (Tryd.prog.info? 63).map (fun i => (i.zero, i.size, i.bytes)) = some (some (.agg #[.int .u32 0, .int .i64 0, .int .i64 0, .int .i64 0, .int .u32 0]), 5, 40) := by kernel_rfl
theorem PsRow.prow {w : World} {a : Option Addr} {len : Nat} {P : Nat → Ps} (h : PsRow w a len P) : PRow w a len P := fun i hi => by
  obtain ⟨q, off, e, c⟩ := h i hi
  exact ⟨q, off, e, c 0 _ rfl, c 1 _ rfl, c 2 _ rfl, c 3 _ rfl, c 4 _ rfl⟩
theorem PRow.psrow {w : World} {a : Option Addr} {len : Nat} {P : Nat → Ps} (h : PRow w a len P) : PsRow w a len P := fun i hi => by
  obtain ⟨q, off, e, c0, c1, c2, c3, c4⟩ := h i hi
  refine ⟨q, off, e, fun j u hu => ?_⟩
  have hj : j < 5 := (List.getElem?_eq_some_iff.1 hu).1
  have : j = 0 ∨ j = 1 ∨ j = 2 ∨ j = 3 ∨ j = 4 := by omega
  rcases this with rfl | rfl | rfl | rfl | rfl
  all_goals simp [Ps.cs] at hu
  all_goals subst hu
  · exact c0
  · exact c1
  · exact c2
  · exact c3
  · exact c4
end Go.Proofs.YtiikebaehoobnaaDoor
