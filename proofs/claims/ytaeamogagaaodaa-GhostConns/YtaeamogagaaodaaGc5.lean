/- Layer 18: Copied, of any list; a list of facts of our own, and two of them one behind the other. -/
import Derived.Test.YtaeamogagaaodaaGc4
import Derived.Test.YtaeamogagaaodaaGh15a
namespace Go.Proofs.Ytaeamogagaaodaa
open Go.RowKit Go.Maps Go.Sort
set_option maxRecDepth 100000
/-- A list of facts of our own in blocks from B on, its data in others' blocks: below B0, or from B on. -/
def OF (w : World) (B0 B : Nat) (a : Option Addr) (len c : Nat) (F : Nat → Fa) : Prop := ∃ (A : Nat → Option Addr) (C : Nat → Nat), w.ownsRow B 43 8 (.slice a len c) len (flF len F A C) ∧ ∀ i, i < len → Row8 w (A i) (F i).n (C i) (F i).b ∧ ∀ y, A i = some y → 0 < (F i).n → (∀ g, (Value.slice a len c).ownBlock = some g → y.block ≠ g) ∧ (y.block < B0 ∨ B ≤ y.block)
theorem FRow.of_own {w : World} {B : Nat} {a : Option Addr} {len c : Nat} {F : Nat → Fa} {A : Nat → Option Addr} {C : Nat → Nat} (o : w.ownsRow B 43 8 (.slice a len c) len (flF len F A C)) (R : ∀ i, i < len → Row8 w (A i) (F i).n (C i) (F i).b) : FRow w a len F := fun i hi => by
  rcases o.2 with ⟨_, hn⟩ | ⟨g, cap, cur, e, hg, hgg, h1, h2, h3, h4⟩
  · omega
  · simp only [Value.slice.injEq] at e
    obtain ⟨rfl, _, rfl⟩ := e
    have cl : ∀ j, j < 8 → w.cell? ⟨g, 0 + i * 8 + j, none⟩ = (faL (F i) (A i) (C i))[j]? := fun j hj => by
      rw [Nat.zero_add, cell_of_row w g (i * 8 + j) _ _ _ hgg, ← flF_get len F A C i j hi hj, ← h4, List.getElem?_take_of_lt (by omega), Array.getElem?_toList]
    exact ⟨g, 0, A i, C i, rfl, cl 0 (by omega), cl 1 (by omega), cl 2 (by omega), cl 3 (by omega), cl 4 (by omega), cl 5 (by omega), cl 6 (by omega), cl 7 (by omega), R i hi⟩
theorem OF.frow {w : World} {B0 B : Nat} {a : Option Addr} {len c : Nat} {F : Nat → Fa} (h : OF w B0 B a len c F) : FRow w a len F := by
  obtain ⟨A, C, o, R⟩ := h
  exact FRow.of_own o (fun i hi => (R i hi).1)
theorem OF.below {w w' : World} {B0 B : Nat} {a : Option Addr} {len c : Nat} {F : Nat → Fa} (h : OF w B0 B a len c F) (b : Below w.heap.size w w') : OF w' B0 B a len c F := by
  obtain ⟨A, C, o, R⟩ := h
  exact ⟨A, C, own_belowG o b, fun i hi => ⟨(R i hi).1.below b, (R i hi).2⟩⟩
/-- Copied, of facts that stood in an elder world. -/
theorem gcopyO (a : Option Addr) (cap len : Nat) (F : Nat → Fa) (w w0 : World) (bb : Below w0.heap.size w0 w) (hlen : len ≤ 100000) (hF : FRow w0 a len F) (hO : ∀ i, i < len → (F i).Ok) : Calls Try.prog 12 #[.slice a len cap] w fun r w' => ∃ a' c, r = .returned (.slice a' len c) ∧ Hid (OF w' w0.heap.size w.heap.size a' len c F ∧ Below w.heap.size w w') := by
  by_cases h0 : 0 < len
  · refine (gcopied a cap len F w w0 bb h0 hlen hF (fun i hi => by have := (hO i hi).n; omega)).mono ?_
    rintro r w' ⟨g, c, rfl, h⟩
    obtain ⟨A, C, o, R⟩ := h.out.2.own h.out.1
    refine ⟨_, _, rfl, ⟨A, C, o, fun i hi => ⟨(R i hi).1, fun y hy hn => ⟨fun g' hg' => ?_, ((R i hi).2 y hy hn).2⟩⟩⟩, h.out.2.bel⟩
    cases hg'
    exact ((R i hi).2 y hy hn).1
  · obtain rfl : len = 0 := by omega
    refine (gcopied0 a cap w).mono ?_
    rintro r w' ⟨a', c, rfl, h⟩
    exact ⟨_, _, rfl, ⟨fun _ => none, fun _ => 0, h.out.2, fun i hi => absurd hi (by omega)⟩, h.out.1⟩
theorem gcopy (a : Option Addr) (cap len : Nat) (F : Nat → Fa) (w : World) (hlen : len ≤ 100000) (hF : FRow w a len F) (hO : ∀ i, i < len → (F i).Ok) : Calls Try.prog 12 #[.slice a len cap] w fun r w' => ∃ a' c, r = .returned (.slice a' len c) ∧ Hid (FRow w' a' len F ∧ Below w.heap.size w w') := by
  refine (gcopyO a cap len F w w (Below.refl _ _) hlen hF hO).mono ?_
  rintro r w' ⟨a', c, rfl, h⟩
  exact ⟨_, _, rfl, h.out.1.frow, h.out.2⟩
/-- Two lists of facts, one behind the other. -/
def two (F G : Nat → Fa) (n : Nat) (i : Nat) : Fa := if i < n then F i else G (i - n)
theorem flF_congr {F G : Nat → Fa} {A A' : Nat → Option Addr} {C C' : Nat → Nat} : ∀ n, (∀ i, i < n → F i = G i ∧ A i = A' i ∧ C i = C' i) → flF n F A C = flF n G A' C'
  | 0, _ => rfl
  | n + 1, h => by
    obtain ⟨h1, h2, h3⟩ := h n (by omega)
    rw [flF_succ, flF_succ, flF_congr n (fun i hi => h i (by omega)), h1, h2, h3]
theorem flF_two (F G : Nat → Fa) (A A' : Nat → Option Addr) (C C' : Nat → Nat) (n : Nat) : ∀ m, flF n F A C ++ flF m G A' C' = flF (n + m) (two F G n) (fun i => if i < n then A i else A' (i - n)) (fun i => if i < n then C i else C' (i - n))
  | 0 => by
    rw [Nat.add_zero]
    have e : flF 0 G A' C' = [] := rfl
    rw [e, List.append_nil]
    exact flF_congr n (fun i hi => by simp [two, hi])
  | m + 1 => by
    rw [flF_succ, ← List.append_assoc, flF_two F G A A' C C' n m, ← Nat.add_assoc, flF_succ]
    have e : ¬ n + m < n := by omega
    simp [two, e]
theorem row8_grown {w w' : World} {g : Option Nat} {a : Option Addr} {n cap : Nat} {bs : Nat → Nat} (h : Row8 w a n cap bs) (q : w.grownBy w' g) (hl : ∀ y, a = some y → 0 < n → ∀ k, g = some k → y.block ≠ k) : Row8 w' a n cap bs := by
  refine ⟨h.byte, h.nil, fun x hx i hi => ?_, h.le⟩
  have h1 := h.src x hx i hi
  have hlt := World.block_lt_of_cell? w _ h1
  have hb : (x.add i).block = x.block := by unfold Addr.add; split <;> rfl
  have he : w'.heap[(x.add i).block]? = w.heap[(x.add i).block]? := q.block _ hlt (by rw [hb]; intro e; exact hl x hx (by omega) x.block e.symm rfl)
  rw [← h1]
  unfold World.cell?
  rw [he]
theorem OF.lt {w : World} {B0 B : Nat} {a : Option Addr} {len c : Nat} {F : Nat → Fa} (h : OF w B0 B a len c F) : ∀ g, (Value.slice a len c).ownBlock = some g → g < w.heap.size := by
  obtain ⟨A, C, o, R⟩ := h
  exact fun g hg => (o.lt g hg).2
theorem step_appFF {ops : Array Oper} {o : Oper} {a : Act} {w : World} {K : Act → World → Prop} {Q : Exit → Act → World → Prop} {E : Prop}
    (hg : o.guard = none) (s x : Operand) (hop : o.op = Op.call { callee := Callee.builtin Builtin.append, args := #[s, x], argTypes := #[26, 26] }) (hty : o.type = 26)
    (B0 B B2 n m c1 c2 : Nat) (F G : Nat → Fa) (a1 a2 : Option Addr) (hs : a.eval s = .slice a1 n c1) (hx : a.eval x = .slice a2 m c2) (h1 : OF w B0 B a1 n c1 F) (h2 : OF w B0 B2 a2 m c2 G) (hn : n + m ≤ 100000) (N : Nat) (hN : n + m = N) (hB : B0 ≤ B) (h12 : ∀ g, (Value.slice a1 n c1).ownBlock = some g → g < B2)
    (w0 : World) (hB0 : B ≤ w0.heap.size) (hb : Below B w0 w)
    (hK : ∀ a' c' w', Hid (FRow w' a' N (two F G n)) → Below B w0 w' → K (a.put o.dst (.slice a' N c')) w') :
    if Region.wanted o (yielded ops a.tmps) = true then Oper.wp Try.prog o a w K Q else E := by
  subst hN
  have hw : Region.wanted o (yielded ops a.tmps) = true := by simp [Region.wanted, hg]
  rw [if_pos hw]
  obtain ⟨i0, hI, hz0, hz1, hz2⟩ := info_parts info_fact
  obtain ⟨A, C, o1, R1⟩ := h1
  obtain ⟨A2, C2, o2, R2⟩ := h2
  have hBw : B ≤ w.heap.size := Nat.le_trans hB0 hb.size
  have fin : ∀ v' w', w'.ownsRow B 43 8 v' (n + m) (flF n F A C ++ flF m G A2 C2) → w.grownBy w' (Value.slice a1 n c1).ownBlock → K (a.put o.dst v') w' := by
    intro v' w' k1 k2
    rw [flF_two] at k1
    obtain ⟨a', c', rfl⟩ : ∃ a' c', v' = .slice a' (n + m) c' := by
      rcases k1.2 with ⟨e, e0⟩ | ⟨g, cp, cur, e, _⟩
      · exact ⟨none, 0, by rw [e, e0]⟩
      · exact ⟨_, _, e⟩
    refine hK a' c' w' (FRow.of_own k1 (fun i hi => ?_)) (hb.grown k2 hBw (fun j hj => (o1.lt j hj).1))
    by_cases hi' : i < n
    · simp only [two, hi', if_true]
      exact row8_grown (R1 i hi').1 k2 (fun y hy hp k hk => ((R1 i hi').2 y hy hp).1 k hk)
    · simp only [two, hi', if_false]
      have him : i - n < m := by omega
      refine row8_grown (R2 _ him).1 k2 (fun y hy hp k hk e => ?_)
      have h3 := h12 k hk
      have h4 := (o1.lt k hk).1
      rcases ((R2 _ him).2 y hy hp).2 with h | h
      · omega
      · omega
  have hrun : ∃ v' w', (Builtin.append_ #[26, 26] 26 #[.slice a1 n c1, .slice a2 m c2]).run Try.prog w = .ok v' w' ∧ K (a.put o.dst v') w' := by
    rcases o2.2 with ⟨e, e0⟩ | ⟨g, cp, cur, e, hg2, hgg, q1, q2, q3, q4⟩
    · rw [e]
      subst e0
      refine ⟨_, _, run_append_owned_none (P := Try.prog) (w := w) B 26 26 43 i0 8 Try.underlying26 hI _ n _ o1, fin _ _ ?_ ⟨rfl, rfl, rfl, Nat.le_refl _, fun _ _ _ => rfl⟩⟩
      have e2 : flF 0 G A2 C2 = [] := rfl
      rw [e2, List.append_nil]
      exact o1
    · obtain ⟨v', w', hr, k1, k2, _⟩ := run_append_own w B 26 26 43 i0 (.agg #[.int .i64 0, .int .i64 0, .int .i64 0, .int .u32 0, .int .u32 0, .bool false, .int .i64 0, .slice none 0 0]) 8 72 Try.underlying26 hI hz0 hz1 hz2 rfl (by decide) (.slice a1 n c1) n (flF n F A C) o1 ⟨g, 0, none⟩ m cp (flF m G A2 C2) (flF_len _ _ _ _) (by
        intro j u hu
        have e : (Addr.add ⟨g, 0, none⟩ j) = ⟨g, j, none⟩ := by unfold Addr.add; simp; omega
        have hj : j < m * 8 := by
          have := (List.getElem?_eq_some_iff.1 hu).1
          rwa [flF_len] at this
        rw [e, cell_of_row w g j _ _ _ hgg, ← hu, ← q4, List.getElem?_take_of_lt hj, Array.getElem?_toList]) (flF_one _ _ _ _) (by unfold maxLen; omega) (by omega) hBw
      rw [e]
      exact ⟨v', w', hr, fin v' w' k1 k2⟩
  obtain ⟨v', w', hr, hk⟩ := hrun
  unfold Oper.wp execOp
  simp only [hop, hty, resolve, invoke, builtin, Sem.run_bind, Sem.run_pure, Result.andThen_ok, List.map_toArray, List.map_cons, List.map_nil, hs, hx, hr]
  exact hk
end Go.Proofs.Ytaeamogagaaodaa
