/- Part 19 of the texts on which the proof rests: contracts of Go functions. -/
import Derived.Maps.AppendAt
import Derived.Test.YthlgahkoignnkaaPkG17
namespace Go.Proofs.Ythlgahkoignnkaa
open Go.RowKit Go.Maps Go.Sort
set_option maxRecDepth 100000
def flL (l : List Nat) (F : Nat → Fa) (A : Nat → Option Addr) (C : Nat → Nat) : List Value := l.flatMap fun i => faL (F i) (A i) (C i)
theorem flL_snoc (l : List Nat) (i : Nat) (F : Nat → Fa) (A : Nat → Option Addr) (C : Nat → Nat) : flL (l ++ [i]) F A C = flL l F A C ++ faL (F i) (A i) (C i) := by
  unfold flL
  rw [List.flatMap_append]
  simp
theorem flL_F : ∀ (l : List Nat) (F : Nat → Fa) (A : Nat → Option Addr) (C : Nat → Nat), flL l F A C = flF l.length (fun j => F (l.getD j 0)) (fun j => A (l.getD j 0)) (fun j => C (l.getD j 0)) := by
  intro l F A C
  unfold flL flF
  have e : l = (List.range l.length).map (fun j => l.getD j 0) := by
    apply List.ext_getElem
    · simp
    · intro i h1 h2
      simp [List.getD_eq_getElem?_getD, h1]
  conv => lhs; rw [e]
  rw [List.flatMap_map]
theorem map_F (l : List Nat) (F : Nat → Fa) : (List.range l.length).map (fun j => F (l.getD j 0)) = l.map F := by
  apply List.ext_getElem
  · simp
  · intro i h1 h2
    have : i < l.length := by simpa using h1
    simp [List.getD_eq_getElem?_getD, this]
structure Ec (Wn wr : World) (v0 v1 : Value) (l0 l1 : List Nat) (F : Nat → Fa) (A : Nat → Option Addr) (C : Nat → Nat) : Prop where
  bel : Below Wn.heap.size Wn wr
  blk : wr.heap[Wn.heap.size]? = some (.cells #[v0, v1] 55 (0, 0))
  o0 : wr.ownsRow (Wn.heap.size + 1) 43 8 v0 l0.length (flL l0 F A C)
  o1 : wr.ownsRow (Wn.heap.size + 1) 43 8 v1 l1.length (flL l1 F A C)
  dis : ∀ g, v0.ownBlock = some g → v1.ownBlock = some g → False
  p0 : l0 = [] → v0 = .slice none 0 0
  p1 : l1 = [] → v1 = .slice none 0 0
section
variable {Wn wr w2 : World} {v0 v1 : Value} {l0 l1 : List Nat} {F : Nat → Fa} {A : Nat → Option Addr} {C : Nat → Nat}
theorem Ec.next0 (h : Ec Wn wr v0 v1 l0 l1 F A C) {w3 : World} {v' : Value} {i : Nat} (hw : wr.heap.size + 1 ≤ w2.heap.size) (hbk : ∀ k, k < wr.heap.size → w2.heap[k]? = wr.heap[k]?) (b2 : Below wr.heap.size wr w2) (o : w3.ownsRow (Wn.heap.size + 1) 43 8 v' (l0.length + 1) (flL (l0 ++ [i]) F A C)) (g : w2.grownBy w3 v0.ownBlock) (s : v'.ownBlock = v0.ownBlock ∨ v'.ownBlock = some w2.heap.size) :
    w3.heap[Wn.heap.size]? = some (.cells #[v0, v1] 55 (0, 0)) ∧ Below Wn.heap.size Wn w3 ∧ Ec Wn (w3.setCell ⟨Wn.heap.size, 0, none⟩ v') v' v1 (l0 ++ [i]) l1 F A C := by
  have lx := (Array.getElem?_eq_some_iff.1 h.blk).1
  have n0 := fun g hg => h.o0.lt g hg
  have n1 := fun g hg => h.o1.lt g hg
  have nc := fun g (hg : v0.ownBlock = some g) => h.o0.lt g hg
  have no := fun g (hg : v1.ownBlock = some g) => h.o1.lt g hg
  have k3 : w3.heap[Wn.heap.size]? = some (.cells #[v0, v1] 55 (0, 0)) := (g.block _ (by omega) (fun e => by have := (nc _ e.symm).1; omega)).trans ((hbk _ lx).trans h.blk)
  have of : Off [Wn.heap.size] w3 (w3.setCell ⟨Wn.heap.size, 0, none⟩ v') := Off.setCell _ _ _ _
  have bl : Below Wn.heap.size Wn w2 := h.bel.trans (b2.mono h.bel.size)
  have b3 : Below Wn.heap.size Wn w3 := bl.grown g bl.size (fun j hj => by have := (nc j hj).1; omega)
  have gs := g.size
  refine ⟨k3, b3, ⟨of.below b3 (fun k hk => by simp at hk; omega) b3.size, heap_setCell_same _ _ _ _ _ _ k3, ?_, ?_, ?_, ?_, h.p1⟩⟩
  · rw [List.length_append]; exact own_keepP o (fun k hk => of.block k (o.lt k hk).2 (by have := (o.lt k hk).1; simp; omega))
  · exact own_keepP h.o1 (fun k hk => (of.block k (by have := (n1 k hk).2; omega) (by have := (n1 k hk).1; simp; omega)).trans ((g.block k (by have := (n1 k hk).2; omega) (fun e => h.dis k e.symm hk)).trans (hbk k (n1 k hk).2)))
  · intro k hk hk'
    rcases s with s | s
    · rw [s] at hk
      exact h.dis k hk hk'
    · rw [s] at hk
      cases hk
      have := (no _ hk').2
      omega
  · intro q
    simp at q
theorem Ec.next1 (h : Ec Wn wr v0 v1 l0 l1 F A C) {w3 : World} {v' : Value} {i : Nat} (hw : wr.heap.size + 1 ≤ w2.heap.size) (hbk : ∀ k, k < wr.heap.size → w2.heap[k]? = wr.heap[k]?) (b2 : Below wr.heap.size wr w2) (o : w3.ownsRow (Wn.heap.size + 1) 43 8 v' (l1.length + 1) (flL (l1 ++ [i]) F A C)) (g : w2.grownBy w3 v1.ownBlock) (s : v'.ownBlock = v1.ownBlock ∨ v'.ownBlock = some w2.heap.size) :
    w3.heap[Wn.heap.size]? = some (.cells #[v0, v1] 55 (0, 0)) ∧ Below Wn.heap.size Wn w3 ∧ Ec Wn (w3.setCell ⟨Wn.heap.size, 1, none⟩ v') v0 v' l0 (l1 ++ [i]) F A C := by
  have lx := (Array.getElem?_eq_some_iff.1 h.blk).1
  have n0 := fun g hg => h.o0.lt g hg
  have n1 := fun g hg => h.o1.lt g hg
  have nc := fun g (hg : v1.ownBlock = some g) => h.o1.lt g hg
  have no := fun g (hg : v0.ownBlock = some g) => h.o0.lt g hg
  have k3 : w3.heap[Wn.heap.size]? = some (.cells #[v0, v1] 55 (0, 0)) := (g.block _ (by omega) (fun e => by have := (nc _ e.symm).1; omega)).trans ((hbk _ lx).trans h.blk)
  have of : Off [Wn.heap.size] w3 (w3.setCell ⟨Wn.heap.size, 1, none⟩ v') := Off.setCell _ _ _ _
  have bl : Below Wn.heap.size Wn w2 := h.bel.trans (b2.mono h.bel.size)
  have b3 : Below Wn.heap.size Wn w3 := bl.grown g bl.size (fun j hj => by have := (nc j hj).1; omega)
  have gs := g.size
  refine ⟨k3, b3, ⟨of.below b3 (fun k hk => by simp at hk; omega) b3.size, heap_setCell_same _ _ _ _ _ _ k3, ?_, ?_, ?_, h.p0, ?_⟩⟩
  · exact own_keepP h.o0 (fun k hk => (of.block k (by have := (n0 k hk).2; omega) (by have := (n0 k hk).1; simp; omega)).trans ((g.block k (by have := (n0 k hk).2; omega) (fun e => h.dis k hk e.symm)).trans (hbk k (n0 k hk).2)))
  · rw [List.length_append]; exact own_keepP o (fun k hk => of.block k (o.lt k hk).2 (by have := (o.lt k hk).1; simp; omega))
  · intro k hk' hk
    rcases s with s | s
    · rw [s] at hk
      exact h.dis k hk' hk
    · rw [s] at hk
      cases hk
      have := (no _ hk').2
      omega
  · intro q
    simp at q
end
theorem step_appF1 {ops : Array Oper} {o : Oper} {a : Act} {w : World} {K : Act → World → Prop} {Q : Exit → Act → World → Prop} {E : Prop}
    (hg : o.guard = none) (s x : Operand) (hop : o.op = Op.call { callee := Callee.builtin Builtin.append, args := #[s, x], argTypes := #[26, 26] }) (hty : o.type = 26)
    (B i g : Nat) (l : List Nat) (v : Value) (F : Nat → Fa) (A : Nat → Option Addr) (C : Nat → Nat) (hs : a.eval s = v) (hx : a.eval x = .slice (some ⟨g, 0, none⟩) 1 1) (h1 : w.ownsRow B 43 8 v l.length (flL l F A C)) (hgc : w.heap[g]? = some (.cells (faL (F i) (A i) (C i)).toArray 43 (0, 0))) (hn : l.length ≤ 100000) (hB : B ≤ w.heap.size)
    (hK : ∀ v' w', Hid (w'.ownsRow B 43 8 v' (l.length + 1) (flL (l ++ [i]) F A C) ∧ w.grownBy w' v.ownBlock ∧ (v'.ownBlock = v.ownBlock ∨ v'.ownBlock = some w.heap.size)) → K (a.put o.dst v') w') :
    if Region.wanted o (yielded ops a.tmps) = true then Oper.wp Try.prog o a w K Q else E := by
  have hw : Region.wanted o (yielded ops a.tmps) = true := by simp [Region.wanted, hg]
  rw [if_pos hw]
  obtain ⟨i0, hI, hz0, hz1, hz2⟩ := info_parts info_fact
  obtain ⟨v', w', hr, k1, k2, _, k4⟩ := run_append_own_at (P := Try.prog) w B 26 26 43 i0 (.agg #[.int .i64 0, .int .i64 0, .int .i64 0, .int .u32 0, .int .u32 0, .bool false, .int .i64 0, .slice none 0 0]) 8 72 Try.underlying26 hI hz0 hz1 hz2 rfl (by decide) v l.length (flL l F A C) h1 ⟨g, 0, none⟩ 1 1 (faL (F i) (A i) (C i)) rfl (by
    intro j u hu
    have e : (Addr.add ⟨g, 0, none⟩ j) = ⟨g, j, none⟩ := by unfold Addr.add; simp; omega
    rw [e, cell_of_row w g j _ _ _ hgc]
    simpa using hu) (faL_one _ _ _) (by unfold maxLen; omega) (by omega) hB
  rw [← flL_snoc] at k1
  unfold Oper.wp execOp
  simp only [hop, hty, resolve, invoke, builtin, Sem.run_bind, Sem.run_pure, Result.andThen_ok, List.map_toArray, List.map_cons, List.map_nil, hs, hx, hr]
  exact hK v' w' ⟨k1, k2, k4⟩
theorem held_fork {P : Program} {md : Region.Mode} {ops : Array Oper} {Q : Exit → Act → World → Prop} {S : World → Prop} {fuel : Nat} {l : Array Bool} {a : Act} {w : World} {i j : Nat} (hr : Region.ready md ops l = [i, j]) (hi : wpOp P ops Q i (fun a' w' => S w' ∧ wpAnyH P md ops Q S fuel (l.setIfInBounds i true) a' w') a w) (hj : wpOp P ops Q j (fun a' w' => S w' ∧ wpAnyH P md ops Q S fuel (l.setIfInBounds j true) a' w') a w) : wpAnyH P md ops Q S (fuel + 1) l a w :=
  wpAnyH_all hr (by simp) (fun k hk => by
    rcases List.mem_cons.1 hk with rfl | hk
    · exact hi
    · obtain rfl := List.mem_singleton.1 hk
      exact hj)
theorem held_one {P : Program} {md : Region.Mode} {ops : Array Oper} {Q : Exit → Act → World → Prop} {S : World → Prop} {fuel : Nat} {l : Array Bool} {a : Act} {w : World} {i : Nat} (hr : Region.ready md ops l = [i]) (hi : wpOp P ops Q i (fun a' w' => S w' ∧ wpAnyH P md ops Q S fuel (l.setIfInBounds i true) a' w') a w) : wpAnyH P md ops Q S (fuel + 1) l a w :=
  wpAnyH_all hr (by simp) (fun k hk => by
    obtain rfl := List.mem_singleton.1 hk
    exact hi)
theorem FRow.of_L {w : World} {B : Nat} {a : Option Addr} {n c : Nat} {l : List Nat} {F : Nat → Fa} {A : Nat → Option Addr} {C : Nat → Nat} (o : w.ownsRow B 43 8 (.slice a n c) l.length (flL l F A C)) (R : ∀ i, i ∈ l → Row8 w (A i) (F i).n (C i) (F i).b) : n = l.length ∧ FRow w a n (fun j => F (l.getD j 0)) := by
  obtain rfl : n = l.length := by
    rcases o.2 with ⟨e, h⟩ | ⟨g, cap, cur, e, _⟩
    · cases e; exact h.symm
    · cases e; rfl
  rw [flL_F] at o
  exact ⟨rfl, FRow.of_own o (fun i hi => by
    have : l.getD i 0 ∈ l := by rw [List.getD_eq_getElem?_getD, List.getElem?_eq_getElem hi]; exact List.getElem_mem _
    exact R _ this)⟩
end Go.Proofs.Ythlgahkoignnkaa
namespace Go.Proofs.Ythlgahkoignnkaa
open Go.RowKit Go.Maps Go.Sort
set_option maxRecDepth 100000
theorem belT1 {W V w' : World} (b : Below V.heap.size V w') (h : Below W.heap.size W V) : Below W.heap.size W w' := h.trans (b.mono h.size)
def Ty (w : World) (k : Nat) (t : TypeId) : Prop := ∃ cs, w.heap[k]? = some (.cells cs t (0, 0))
def Sn1 (w w' : World) (p Bs : Nat) (sa : Option Addr) (m sx : Nat) (F : Nat → Fa) (A : Nat → Option Addr) (C : Nat → Nat) (f : Fa) : Prop := ∃ (W3 W4 : World) (sa' : Option Addr) (sx' : Nat) (a3 : Option Addr) (c3 : Nat), Below w.heap.size w W3 ∧ W3.grownBy W4 (Value.slice sa m sx).ownBlock ∧ W4.ownsRow Bs 43 8 (.slice sa' (m + 1) sx') (m + 1) (flF m F A C ++ faL f a3 c3) ∧ ((Value.slice sa' (m + 1) sx').ownBlock = (Value.slice sa m sx).ownBlock ∨ (Value.slice sa' (m + 1) sx').ownBlock = some W3.heap.size) ∧ Row8 W3 a3 f.n c3 f.b ∧ (∀ y, a3 = some y → 0 < f.n → w.heap.size ≤ y.block) ∧ (∀ y, a3 = some y → 0 < f.n → Ty W3 y.block 5) ∧ w' = W4.setCell ⟨p, 2, none⟩ (.slice sa' (m + 1) sx')
theorem ty_below {w w' : World} {k : Nat} {t : TypeId} (h : Ty w k t) (b : Below w.heap.size w w') : Ty w' k t := by
  obtain ⟨cs, hc⟩ := h
  exact ⟨cs, (b.block k (Array.getElem?_eq_some_iff.1 hc).1).trans hc⟩
theorem row_new {w : World} {B n c : Nat} {a : Option Addr} {bs : Nat → Nat} (o : w.ownsRow B 5 1 (.slice a n c) n (CB bs n)) (hb : ∀ i, i < n → bs i < 256) : Row8 w a n c bs ∧ ∀ y, a = some y → 0 < n → B ≤ y.block ∧ Ty w y.block 5 := by
  obtain ⟨a', c', e, R⟩ := own_row8 o hb
  cases e
  refine ⟨R, fun y hy hp => ?_⟩
  rcases o.2 with ⟨_, hn⟩ | ⟨g, cap, cur, e, hg, hgg, _⟩
  · omega
  · simp only [Value.slice.injEq] at e
    rw [e.1] at hy
    cases hy
    exact ⟨hg, cur, hgg⟩
theorem step_appX {ops : Array Oper} {o : Oper} {a : Act} {w : World} {K : Act → World → Prop} {Q : Exit → Act → World → Prop} {E : Prop}
    (hg : o.guard = none) (s x : Operand) (hop : o.op = Op.call { callee := Callee.builtin Builtin.append, args := #[s, x], argTypes := #[26, 26] }) (hty : o.type = 26)
    (B n g : Nat) (v : Value) (xs : List Value) (f : Fa) (da : Option Addr) (dc : Nat) (hs : a.eval s = v) (hx : a.eval x = .slice (some ⟨g, 0, none⟩) 1 1) (h1 : w.ownsRow B 43 8 v n xs) (hgc : w.heap[g]? = some (.cells (faL f da dc).toArray 43 (0, 0))) (hn : n ≤ 100000) (hB : B ≤ w.heap.size)
    (hK : ∀ v' w', Hid (w'.ownsRow B 43 8 v' (n + 1) (xs ++ faL f da dc) ∧ w.grownBy w' v.ownBlock ∧ (v'.ownBlock = v.ownBlock ∨ v'.ownBlock = some w.heap.size)) → K (a.put o.dst v') w') :
    if Region.wanted o (yielded ops a.tmps) = true then Oper.wp Try.prog o a w K Q else E := by
  have hw : Region.wanted o (yielded ops a.tmps) = true := by simp [Region.wanted, hg]
  rw [if_pos hw]
  obtain ⟨i0, hI, hz0, hz1, hz2⟩ := info_parts info_fact
  obtain ⟨v', w', hr, k1, k2, _, k4⟩ := run_append_own_at (P := Try.prog) w B 26 26 43 i0 (.agg #[.int .i64 0, .int .i64 0, .int .i64 0, .int .u32 0, .int .u32 0, .bool false, .int .i64 0, .slice none 0 0]) 8 72 Try.underlying26 hI hz0 hz1 hz2 rfl (by decide) v n xs h1 ⟨g, 0, none⟩ 1 1 (faL f da dc) rfl (by
    intro j u hu
    have e : (Addr.add ⟨g, 0, none⟩ j) = ⟨g, j, none⟩ := by unfold Addr.add; simp; omega
    rw [e, cell_of_row w g j _ _ _ hgc]
    simpa using hu) (faL_one _ _ _) (by unfold maxLen; omega) (by omega) hB
  unfold Oper.wp execOp
  simp only [hop, hty, resolve, invoke, builtin, Sem.run_bind, Sem.run_pure, Result.andThen_ok, List.map_toArray, List.map_cons, List.map_nil, hs, hx, hr]
  exact hK v' w' ⟨k1, k2, k4⟩
theorem frz_below1 {w w' : World} {g k : Nat} (h : w.frozen? ⟨g, k, none⟩ = false) (hg : g < w.heap.size) (b : Below w.heap.size w w') : w'.frozen? ⟨g, k, none⟩ = false := by
  have hb := b.block g hg
  unfold World.frozen? at h ⊢
  rw [hb]
  exact h
theorem wp_gen {P : Program} {c : Code} {Q : Exit → Act → World → Prop} {a : Act} {w1 : World} {n : Nat} (h : ∀ W, W = w1.drewN n → Code.wp P c Q a W) : Code.wp P c Q a (w1.drewN n) := h _ rfl
theorem step_append8K {ops : Array Oper} {o : Oper} {a : Act} {w : World} {K : Act → World → Prop} {Q : Exit → Act → World → Prop} {E : Prop}
    (hg : o.guard = none) (s x : Operand) (hop : o.op = Op.call { callee := Callee.builtin Builtin.append, args := #[s, x], argTypes := #[41, 41] })
    (B : Nat) (v : Value) (hs : a.eval s = v) (hown : w.ownsRow B 5 1 v 0 [])
    (ao : Option Addr) (m c : Nat) (bs : Nat → Nat) (hx : a.eval x = .slice ao m c) (hrow : Row8 w ao m c bs) (hm : m ≤ 140737488351232)
    (w0 : World) (hb : Below B w0 w) (hB0 : B ≤ w0.heap.size)
    (hK : ∀ a' c' w', Hid (w'.ownsRow B 5 1 (.slice a' m c') m (CB bs m)) → Below B w0 w' → K (a.put o.dst (.slice a' m c')) w') :
    if Region.wanted o (yielded ops a.tmps) = true then Oper.wp Try.prog o a w K Q else E := by
  obtain ⟨i0, hi, hz0, hz1, hz2⟩ := info_parts info_u8
  have hw : Region.wanted o (yielded ops a.tmps) = true := by simp [Region.wanted, hg]
  rw [if_pos hw]
  have hBw : B ≤ w.heap.size := Nat.le_trans hB0 hb.size
  have fin : ∀ v' w', w'.ownsRow B 5 1 v' m (CB bs m) → w.grownBy w' v.ownBlock → K (a.put o.dst v') w' := by
    intro v' w' h1 h2
    have h3 := hb.grown h2 hBw (fun j hj => (hown.lt j hj).1)
    obtain ⟨a', c', rfl, _⟩ := own_row8 h1 hrow.byte
    exact hK a' c' w' h1 h3
  cases ao with
  | none =>
    obtain ⟨rfl, rfl⟩ := hrow.nil rfl
    have hrun := run_append_owned_none (P := Try.prog) (w := w) B 41 o.type 5 i0 1 Try.underlying41 hi v 0 [] hown
    have hk := fin v w hown ⟨rfl, rfl, rfl, Nat.le_refl _, fun _ _ _ => rfl⟩
    unfold Oper.wp
    simp [execOp, hop, resolve, invoke, builtin, hs, hx, hrun, Result.andThen]
    exact hk
  | some ad =>
    refine wp_append_own w s x _ hop B 5 i0 (.int .u8 0) 1 1 Try.underlying41 hi hz0 hz1 hz2 rfl (by decide) v 0 [] hs hown ad m c (CB bs m) hx (by rw [CB_length, Nat.mul_one]) ?_ (CB_one bs m) (by unfold maxLen; omega) (by omega) hBw (fun v' w' h1 h2 _ => fin v' w' (by simpa using h1) h2)
    intro j u hj
    by_cases hlt : j < m
    · rw [CB_get bs m j hlt] at hj
      cases hj
      exact hrow.src ad rfl j hlt
    · rw [CB_none bs m j (by omega)] at hj; cases hj
theorem own0L (B : Nat) (w : World) (h : B ≤ w.heap.size) : (w.alloc (.cells #[] 5)).ownsRow B 5 1 (.slice (some ⟨w.heap.size, 0, none⟩) 0 0) 0 [] := World.ownsRow_made w #[] 0 h (Nat.zero_le _) rfl
theorem own0Ld (B : Nat) (w : World) (h : B ≤ w.heap.size) : (w.alloc (.cells #[] 5)).drew.ownsRow B 5 1 (.slice (some ⟨w.heap.size, 0, none⟩) 0 0) 0 [] := own0L B w h
end Go.Proofs.Ythlgahkoignnkaa
