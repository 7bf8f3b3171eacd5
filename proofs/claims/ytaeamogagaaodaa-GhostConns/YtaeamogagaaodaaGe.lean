/- Layer 18: GhostConns: two lists of facts, each growing. (genge.py) -/
import Derived.Test.YtaeamogagaaodaaGc5
import Derived.Test.YtaeamogagaaodaaGs
import Derived.Test.YtaeamogagaaodaaGp2
import Derived.Test.YtaeamogagaaodaaHold
import Derived.Maps.AppendAt
namespace Go.Proofs.Ytaeamogagaaodaa
open Go.RowKit Go.Maps Go.Sort
set_option maxRecDepth 100000
/-- Facts of these places. -/
def flL (l : List Nat) (F : Nat → Fa) (A : Nat → Option Addr) (C : Nat → Nat) : List Value := l.flatMap fun i => faL (F i) (A i) (C i)
theorem flL_snoc (l : List Nat) (i : Nat) (F : Nat → Fa) (A : Nat → Option Addr) (C : Nat → Nat) : flL (l ++ [i]) F A C = flL l F A C ++ faL (F i) (A i) (C i) := by
  unfold flL
  rw [List.flatMap_append]
  simp
theorem flL_F : ∀ (l : List Nat) (F : Nat → Fa) (A : Nat → Option Addr) (C : Nat → Nat), flL l F A C = flF l.length (fun j => F (l.getD j 0)) (fun j => A (l.getD j 0)) (fun j => C (l.getD j 0)) := by
  intro l F A C
  unfold flL flF
  have e : l = (List.range l.length).map (fun j => l.getD j 0) := by
    apply List.ext_getElem
    · simp
    · intro i h1 h2
      simp [List.getD_eq_getElem?_getD, h1]
  conv => lhs; rw [e]
  rw [List.flatMap_map]
theorem map_F (l : List Nat) (F : Nat → Fa) : (List.range l.length).map (fun j => F (l.getD j 0)) = l.map F := by
  apply List.ext_getElem
  · simp
  · intro i h1 h2
    have : i < l.length := by simpa using h1
    simp [List.getD_eq_getElem?_getD, this]
structure Ec (Wn wr : World) (v0 v1 : Value) (l0 l1 : List Nat) (F : Nat → Fa) (A : Nat → Option Addr) (C : Nat → Nat) : Prop where
  bel : Below Wn.heap.size Wn wr
  blk : wr.heap[Wn.heap.size]? = some (.cells #[v0, v1] 55 (0, 0))
  o0 : wr.ownsRow (Wn.heap.size + 1) 43 8 v0 l0.length (flL l0 F A C)
  o1 : wr.ownsRow (Wn.heap.size + 1) 43 8 v1 l1.length (flL l1 F A C)
  dis : ∀ g, v0.ownBlock = some g → v1.ownBlock = some g → False
  p0 : l0 = [] → v0 = .slice none 0 0
  p1 : l1 = [] → v1 = .slice none 0 0
section
variable {Wn wr w2 : World} {v0 v1 : Value} {l0 l1 : List Nat} {F : Nat → Fa} {A : Nat → Option Addr} {C : Nat → Nat}

theorem Ec.next0 (h : Ec Wn wr v0 v1 l0 l1 F A C) {w3 : World} {v' : Value} {i : Nat} (hw : wr.heap.size + 1 ≤ w2.heap.size) (hbk : ∀ k, k < wr.heap.size → w2.heap[k]? = wr.heap[k]?) (b2 : Below wr.heap.size wr w2) (o : w3.ownsRow (Wn.heap.size + 1) 43 8 v' (l0.length + 1) (flL (l0 ++ [i]) F A C)) (g : w2.grownBy w3 v0.ownBlock) (s : v'.ownBlock = v0.ownBlock ∨ v'.ownBlock = some w2.heap.size) :
    w3.heap[Wn.heap.size]? = some (.cells #[v0, v1] 55 (0, 0)) ∧ Below Wn.heap.size Wn w3 ∧ Ec Wn (w3.setCell ⟨Wn.heap.size, 0, none⟩ v') v' v1 (l0 ++ [i]) l1 F A C := by
  have lx := (Array.getElem?_eq_some_iff.1 h.blk).1
  have n0 := fun g hg => h.o0.lt g hg
  have n1 := fun g hg => h.o1.lt g hg
  have nc := fun g (hg : v0.ownBlock = some g) => h.o0.lt g hg
  have no := fun g (hg : v1.ownBlock = some g) => h.o1.lt g hg
  have k3 : w3.heap[Wn.heap.size]? = some (.cells #[v0, v1] 55 (0, 0)) := (g.block _ (by omega) (fun e => by have := (nc _ e.symm).1; omega)).trans ((hbk _ lx).trans h.blk)
  have of : Off [Wn.heap.size] w3 (w3.setCell ⟨Wn.heap.size, 0, none⟩ v') := Off.setCell _ _ _ _
  have bl : Below Wn.heap.size Wn w2 := h.bel.trans (b2.mono h.bel.size)
  have b3 : Below Wn.heap.size Wn w3 := bl.grown g bl.size (fun j hj => by have := (nc j hj).1; omega)
  have gs := g.size
  refine ⟨k3, b3, ⟨of.below b3 (fun k hk => by simp at hk; omega) b3.size, heap_setCell_same _ _ _ _ _ _ k3, ?_, ?_, ?_, ?_, h.p1⟩⟩
  · rw [List.length_append]; exact own_keepP o (fun k hk => of.block k (o.lt k hk).2 (by have := (o.lt k hk).1; simp; omega))
  · exact own_keepP h.o1 (fun k hk => (of.block k (by have := (n1 k hk).2; omega) (by have := (n1 k hk).1; simp; omega)).trans ((g.block k (by have := (n1 k hk).2; omega) (fun e => h.dis k e.symm hk)).trans (hbk k (n1 k hk).2)))
  · intro k hk hk'
    rcases s with s | s
    · rw [s] at hk
      exact h.dis k hk hk'
    · rw [s] at hk
      cases hk
      have := (no _ hk').2
      omega
  · intro q
    simp at q


theorem Ec.next1 (h : Ec Wn wr v0 v1 l0 l1 F A C) {w3 : World} {v' : Value} {i : Nat} (hw : wr.heap.size + 1 ≤ w2.heap.size) (hbk : ∀ k, k < wr.heap.size → w2.heap[k]? = wr.heap[k]?) (b2 : Below wr.heap.size wr w2) (o : w3.ownsRow (Wn.heap.size + 1) 43 8 v' (l1.length + 1) (flL (l1 ++ [i]) F A C)) (g : w2.grownBy w3 v1.ownBlock) (s : v'.ownBlock = v1.ownBlock ∨ v'.ownBlock = some w2.heap.size) :
    w3.heap[Wn.heap.size]? = some (.cells #[v0, v1] 55 (0, 0)) ∧ Below Wn.heap.size Wn w3 ∧ Ec Wn (w3.setCell ⟨Wn.heap.size, 1, none⟩ v') v0 v' l0 (l1 ++ [i]) F A C := by
  have lx := (Array.getElem?_eq_some_iff.1 h.blk).1
  have n0 := fun g hg => h.o0.lt g hg
  have n1 := fun g hg => h.o1.lt g hg
  have nc := fun g (hg : v1.ownBlock = some g) => h.o1.lt g hg
  have no := fun g (hg : v0.ownBlock = some g) => h.o0.lt g hg
  have k3 : w3.heap[Wn.heap.size]? = some (.cells #[v0, v1] 55 (0, 0)) := (g.block _ (by omega) (fun e => by have := (nc _ e.symm).1; omega)).trans ((hbk _ lx).trans h.blk)
  have of : Off [Wn.heap.size] w3 (w3.setCell ⟨Wn.heap.size, 1, none⟩ v') := Off.setCell _ _ _ _
  have bl : Below Wn.heap.size Wn w2 := h.bel.trans (b2.mono h.bel.size)
  have b3 : Below Wn.heap.size Wn w3 := bl.grown g bl.size (fun j hj => by have := (nc j hj).1; omega)
  have gs := g.size
  refine ⟨k3, b3, ⟨of.below b3 (fun k hk => by simp at hk; omega) b3.size, heap_setCell_same _ _ _ _ _ _ k3, ?_, ?_, ?_, h.p0, ?_⟩⟩
  · exact own_keepP h.o0 (fun k hk => (of.block k (by have := (n0 k hk).2; omega) (by have := (n0 k hk).1; simp; omega)).trans ((g.block k (by have := (n0 k hk).2; omega) (fun e => h.dis k hk e.symm)).trans (hbk k (n0 k hk).2)))
  · rw [List.length_append]; exact own_keepP o (fun k hk => of.block k (o.lt k hk).2 (by have := (o.lt k hk).1; simp; omega))
  · intro k hk' hk
    rcases s with s | s
    · rw [s] at hk
      exact h.dis k hk' hk
    · rw [s] at hk
      cases hk
      have := (no _ hk').2
      omega
  · intro q
    simp at q

end
theorem step_appF1 {ops : Array Oper} {o : Oper} {a : Act} {w : World} {K : Act → World → Prop} {Q : Exit → Act → World → Prop} {E : Prop}
    (hg : o.guard = none) (s x : Operand) (hop : o.op = Op.call { callee := Callee.builtin Builtin.append, args := #[s, x], argTypes := #[26, 26] }) (hty : o.type = 26)
    (B i g : Nat) (l : List Nat) (v : Value) (F : Nat → Fa) (A : Nat → Option Addr) (C : Nat → Nat) (hs : a.eval s = v) (hx : a.eval x = .slice (some ⟨g, 0, none⟩) 1 1) (h1 : w.ownsRow B 43 8 v l.length (flL l F A C)) (hgc : w.heap[g]? = some (.cells (faL (F i) (A i) (C i)).toArray 43 (0, 0))) (hn : l.length ≤ 100000) (hB : B ≤ w.heap.size)
    (hK : ∀ v' w', Hid (w'.ownsRow B 43 8 v' (l.length + 1) (flL (l ++ [i]) F A C) ∧ w.grownBy w' v.ownBlock ∧ (v'.ownBlock = v.ownBlock ∨ v'.ownBlock = some w.heap.size)) → K (a.put o.dst v') w') :
    if Region.wanted o (yielded ops a.tmps) = true then Oper.wp Try.prog o a w K Q else E := by
  have hw : Region.wanted o (yielded ops a.tmps) = true := by simp [Region.wanted, hg]
  rw [if_pos hw]
  obtain ⟨i0, hI, hz0, hz1, hz2⟩ := info_parts info_fact
  obtain ⟨v', w', hr, k1, k2, _, k4⟩ := run_append_own_at (P := Try.prog) w B 26 26 43 i0 (.agg #[.int .i64 0, .int .i64 0, .int .i64 0, .int .u32 0, .int .u32 0, .bool false, .int .i64 0, .slice none 0 0]) 8 72 Try.underlying26 hI hz0 hz1 hz2 rfl (by decide) v l.length (flL l F A C) h1 ⟨g, 0, none⟩ 1 1 (faL (F i) (A i) (C i)) rfl (by
    intro j u hu
    have e : (Addr.add ⟨g, 0, none⟩ j) = ⟨g, j, none⟩ := by unfold Addr.add; simp; omega
    rw [e, cell_of_row w g j _ _ _ hgc]
    simpa using hu) (faL_one _ _ _) (by unfold maxLen; omega) (by omega) hB
  rw [← flL_snoc] at k1
  unfold Oper.wp execOp
  simp only [hop, hty, resolve, invoke, builtin, Sem.run_bind, Sem.run_pure, Result.andThen_ok, List.map_toArray, List.map_cons, List.map_nil, hs, hx, hr]
  exact hK v' w' ⟨k1, k2, k4⟩
/-- Two operations that may come up. -/
theorem held_fork {P : Program} {md : Region.Mode} {ops : Array Oper} {Q : Exit → Act → World → Prop} {S : World → Prop} {fuel : Nat} {l : Array Bool} {a : Act} {w : World} {i j : Nat} (hr : Region.ready md ops l = [i, j]) (hi : wpOp P ops Q i (fun a' w' => S w' ∧ wpAnyH P md ops Q S fuel (l.setIfInBounds i true) a' w') a w) (hj : wpOp P ops Q j (fun a' w' => S w' ∧ wpAnyH P md ops Q S fuel (l.setIfInBounds j true) a' w') a w) : wpAnyH P md ops Q S (fuel + 1) l a w :=
  wpAnyH_all hr (by simp) (fun k hk => by
    rcases List.mem_cons.1 hk with rfl | hk
    · exact hi
    · obtain rfl := List.mem_singleton.1 hk
      exact hj)
theorem held_one {P : Program} {md : Region.Mode} {ops : Array Oper} {Q : Exit → Act → World → Prop} {S : World → Prop} {fuel : Nat} {l : Array Bool} {a : Act} {w : World} {i : Nat} (hr : Region.ready md ops l = [i]) (hi : wpOp P ops Q i (fun a' w' => S w' ∧ wpAnyH P md ops Q S fuel (l.setIfInBounds i true) a' w') a w) : wpAnyH P md ops Q S (fuel + 1) l a w :=
  wpAnyH_all hr (by simp) (fun k hk => by
    obtain rfl := List.mem_singleton.1 hk
    exact hi)
/-- A list's facts. -/
theorem FRow.of_L {w : World} {B : Nat} {a : Option Addr} {n c : Nat} {l : List Nat} {F : Nat → Fa} {A : Nat → Option Addr} {C : Nat → Nat} (o : w.ownsRow B 43 8 (.slice a n c) l.length (flL l F A C)) (R : ∀ i, i ∈ l → Row8 w (A i) (F i).n (C i) (F i).b) : n = l.length ∧ FRow w a n (fun j => F (l.getD j 0)) := by
  obtain rfl : n = l.length := by
    rcases o.2 with ⟨e, h⟩ | ⟨g, cap, cur, e, _⟩
    · cases e; exact h.symm
    · cases e; rfl
  rw [flL_F] at o
  exact ⟨rfl, FRow.of_own o (fun i hi => by
    have : l.getD i 0 ∈ l := by rw [List.getD_eq_getElem?_getD, List.getElem?_eq_getElem hi]; exact List.getElem_mem _
    exact R _ this)⟩
end Go.Proofs.Ytaeamogagaaodaa
