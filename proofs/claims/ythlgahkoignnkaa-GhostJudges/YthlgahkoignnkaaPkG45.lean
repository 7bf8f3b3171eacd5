/- Part 46 of the texts on which the proof rests: contracts of Go functions. -/
import Derived.Maps.AppendAt
import Derived.Laws.AppendOwnNone
import Derived.Test.YthlgahkoignnkaaPkG17
import Derived.Test.YthlgahkoignnkaaPkG42
import Derived.Test.YthlgahkoignnkaaPkG43
namespace Go.Proofs.Ythlgahkoignnkaa
open Go.RowKit Go.Maps Go.Sort
set_option maxRecDepth 100000
structure KK (K : Nat → Prop) (w w' : World) : Prop where
  os : w'.os = w.os
  tape : w'.tape = w.tape
  output : w'.output = w.output
  size : w.heap.size ≤ w'.heap.size
  block : ∀ q, K q → w'.heap[q]? = w.heap[q]?
theorem KK.refl (K : Nat → Prop) (w : World) : KK K w w := ⟨rfl, rfl, rfl, Nat.le_refl _, fun _ _ => rfl⟩
theorem KK.trans {K : Nat → Prop} {u v w : World} (h : KK K u v) (k : KK K v w) : KK K u w := ⟨k.os.trans h.os, k.tape.trans h.tape, k.output.trans h.output, Nat.le_trans h.size k.size, fun q hq => (k.block q hq).trans (h.block q hq)⟩
theorem KK.less {K K' : Nat → Prop} {w w' : World} (h : KK K w w') (hk : ∀ q, K' q → K q) : KK K' w w' := ⟨h.os, h.tape, h.output, h.size, fun q hq => h.block q (hk q hq)⟩
theorem KK.of_below {K : Nat → Prop} {w w' : World} (b : Below w.heap.size w w') (hk : ∀ q, K q → q < w.heap.size) : KK K w w' := ⟨b.os, b.tape, b.output, b.size, fun q hq => b.block q (hk q hq)⟩
theorem KK.below {K : Nat → Prop} {w0 w w' : World} (h : KK K w w') (hb : Below w0.heap.size w0 w) (hk : ∀ q, q < w0.heap.size → K q) : Below w0.heap.size w0 w' :=
  hb.trans ⟨h.os, h.tape, h.output, h.size, fun q hq => h.block q (hk q hq)⟩
theorem KK.cell {K : Nat → Prop} {w w' : World} (h : KK K w w') {b i : Nat} {v : Value} (hb : K b) (hv : w.cell? ⟨b, i, none⟩ = some v) : w'.cell? ⟨b, i, none⟩ = some v := (World.cell?_of_block (a := ⟨b, i, none⟩) (h.block b hb)).trans hv
theorem KK.off {K : Nat → Prop} {l : List Nat} {w w' : World} (o : Off l w w') (h1 : ∀ q, K q → q < w.heap.size) (h2 : ∀ q, q ∈ l → ¬ K q) : KK K w w' := ⟨o.os, o.tape, o.output, o.size, fun q hq => o.block q (h1 q hq) (fun hm => h2 q hm hq)⟩
def JK (w : World) (K : Nat → Prop) (jb p n1 : Nat) (J1 : Ju) (n2 : Nat) (J2 : Ju) : Prop := ∃ LG LR, GS w 0 LG jb n1 J1 ∧ RSS w 0 LR p n2 J2 ∧ (∀ x, x ∈ LG → x ∉ LR) ∧ (∀ x, x ∈ LG → ¬ K x) ∧ (∀ x, x ∈ LR → ¬ K x) ∧ ∀ q, K q → q < w.heap.size
section
variable {w w' : World} {K : Nat → Prop} {jb p n1 n2 : Nat} {J1 J2 : Ju}
theorem GS.zero {B : Nat} {L : List Nat} {n : Nat} {J : Ju} (h : GS w B L jb n J) : GS w 0 L jb n J := by
  obtain ⟨g, cap, ob, N, M, h1, h2, h3, h4, h5⟩ := h
  exact ⟨g, cap, ob, N, M, h1, h2, h3, h4, fun x hx => ⟨Nat.zero_le _, (h5 x hx).2⟩⟩
theorem RSS.zero {B : Nat} {L : List Nat} {n : Nat} {J : Ju} (h : RSS w B L p n J) : RSS w 0 L p n J := by
  obtain ⟨ge, ec, gs, sc, k, b, c, sa, m, sx, F, A, C, Bs, h1, h2, h3, h4, h5, h6, h7, h8⟩ := h
  exact ⟨ge, ec, gs, sc, k, b, c, sa, m, sx, F, A, C, Bs, h1, h2, h3, h4, h5, h6, h7, fun x hx => ⟨Nat.zero_le _, (h8 x hx).2⟩⟩
theorem GS.lts {B : Nat} {L : List Nat} {n : Nat} {J : Ju} (h : GS w B L jb n J) : ∀ x, x ∈ L → B ≤ x ∧ x < w.heap.size := by
  obtain ⟨g, cap, ob, N, M, h1, h2, h3, h4, h5⟩ := h
  exact h5
theorem RSS.lts {B : Nat} {L : List Nat} {n : Nat} {J : Ju} (h : RSS w B L p n J) : ∀ x, x ∈ L → B ≤ x ∧ x < w.heap.size := by
  obtain ⟨ge, ec, gs, sc, k, b, c, sa, m, sx, F, A, C, Bs, h1, h2, h3, h4, h5, h6, h7, h8⟩ := h
  exact h8
theorem JJ.jk {B : Nat} (h : JJ w B jb p n1 J1 n2 J2) : JK w (fun q => q < B) jb p n1 J1 n2 J2 := by
  have hB := h.size
  obtain ⟨LG, LR, hG, hR, hd⟩ := h
  exact ⟨LG, LR, hG.zero, hR.zero, hd, fun x hx hk => by have := (hG.lts x hx).1; omega, fun x hx hk => by have := (hR.lts x hx).1; omega, fun q hq => by omega⟩
theorem JK.lt (h : JK w K jb p n1 J1 n2 J2) : ∀ q, K q → q < w.heap.size := by
  obtain ⟨LG, LR, _, _, _, _, _, h6⟩ := h
  exact h6
theorem JK.below (h : JK w K jb p n1 J1 n2 J2) (b : Below w.heap.size w w') : JK w' K jb p n1 J1 n2 J2 := by
  obtain ⟨LG, LR, hG, hR, h3, h4, h5, h6⟩ := h
  exact ⟨LG, LR, hG.off (l := []) (Off.of_below b) (fun x _ hx => by cases hx), hR.off (l := []) (Off.of_below b) (fun x _ hx => by cases hx), h3, h4, h5, fun q hq => Nat.lt_of_lt_of_le (h6 q hq) b.size⟩
theorem JK.more (h : JK w K jb p n1 J1 n2 J2) (b : Below w.heap.size w w') {K' : Nat → Prop} (hk : ∀ q, K' q → K q ∨ (w.heap.size ≤ q ∧ q < w'.heap.size)) : JK w' K' jb p n1 J1 n2 J2 := by
  have hb := h.below b
  obtain ⟨LG, LR, hG, hR, h3, h4, h5, h6⟩ := h
  have g5 := hG.lts
  have r5 := hR.lts
  refine ⟨LG, LR, hG.off (l := []) (Off.of_below b) (fun x _ hx => by cases hx), hR.off (l := []) (Off.of_below b) (fun x _ hx => by cases hx), h3, fun x hx hq => ?_, fun x hx hq => ?_, fun q hq => ?_⟩
  · rcases hk x hq with e | e
    · exact h4 x hx e
    · have := (g5 x hx).2
      omega
  · rcases hk x hq with e | e
    · exact h5 x hx e
    · have := (r5 x hx).2
      omega
  · rcases hk q hq with e | e
    · exact hb.lt q e
    · exact e.2
theorem ksee_g (h : JK w K jb p n1 J1 n2 J2) (hn : n1 ≤ 5000) (f : Fa) (hf : f.Ok) (a : Option Addr) (cap : Nat) (hr : Row8 w a f.n cap f.b) :
    Calls Try.prog 13 #[.pointer (some ⟨jb, 0, none⟩), .agg (faC f a cap)] w fun r w' => r = .returned (.agg #[.int .i64 (J1.see f).r, .int .i64 (J1.see f).a]) ∧ Hid (JK w' K jb p (n1 + 1) (J1.see f) n2 J2 ∧ KK K w w') := by
  obtain ⟨LG, LR, hG, hR, h3, h4, h5, h6⟩ := h
  have r5 := hR.lts
  refine (gseeS hG (Nat.zero_le _) hn f hf a cap hr).mono ?_
  rintro r w' ⟨rfl, q⟩
  obtain ⟨L', q1, q2, q3⟩ := q.out
  refine ⟨rfl, ⟨L', LR, q1, hR.off q2 (fun x hx hm => h3 x hm hx), fun x hx hm => ?_, fun x hx hk => ?_, h5, fun x hx => Nat.lt_of_lt_of_le (h6 x hx) q2.size⟩, KK.off q2 h6 h4⟩
  · rcases q3 x hx with e | e
    · exact h3 x e hm
    · have := (r5 x hm).2
      omega
  · rcases q3 x hx with e | e
    · exact h4 x e hk
    · have := h6 x hk
      omega
theorem ksee_r (h : JK w K jb p n1 J1 n2 J2) (hn : n2 ≤ 5000) (f : Fa) (hf : f.Ok) (a : Option Addr) (cap : Nat) (hr : Row8 w a f.n cap f.b) (ha : ∀ y, a = some y → 0 < f.n → K y.block) :
    Calls Try.prog 14 #[.pointer (some ⟨p, 0, none⟩), .agg (faC f a cap)] w fun r w' => r = .returned (.agg #[.int .i64 (J2.see f).r, .int .i64 (J2.see f).a]) ∧ Hid (JK w' K jb p n1 J1 (n2 + 1) (J2.see f) ∧ KK K w w') := by
  obtain ⟨LG, LR, hG, hR, h3, h4, h5, h6⟩ := h
  have g5 := hG.lts
  refine (rseeS hR (Nat.zero_le _) hn f hf a cap hr (fun y hy hp hm => h5 _ hm (ha y hy hp))).mono ?_
  rintro r w' ⟨rfl, q⟩
  obtain ⟨L', q1, q2, q3⟩ := q.out
  refine ⟨rfl, ⟨LG, L', hG.off q2 h3, q1, fun x hx hm => ?_, h4, fun x hx hk => ?_, fun x hx => Nat.lt_of_lt_of_le (h6 x hx) q2.size⟩, KK.off q2 h6 h5⟩
  · rcases q3 x hm with e | e
    · exact h3 x hx e
    · have := (g5 x hx).2
      omega
  · rcases q3 x hx with e | e
    · exact h5 x e hk
    · have := h6 x hk
      omega
theorem JK.said (h : JK w K jb p n1 J1 n2 J2) : w.cell? ⟨jb, 3, none⟩ = some (.int .i64 J1.r) ∧ w.cell? ⟨jb, 4, none⟩ = some (.int .i64 J1.a) ∧ w.cell? ⟨p, 4, none⟩ = some (.int .i64 J2.r) ∧ w.cell? ⟨p, 5, none⟩ = some (.int .i64 J2.a) := by
  obtain ⟨LG, LR, ⟨g, cap, ob, N, M, h1, _⟩, ⟨ge, ec, gs, sc, k, b, c, sa, m, sx, F, A, C, Bs, r1, _⟩, hd⟩ := h
  exact ⟨cell_of_row w jb 3 _ _ _ h1.blk, cell_of_row w jb 4 _ _ _ h1.blk, cell_of_row w p 4 _ _ _ r1.blk, cell_of_row w p 5 _ _ _ r1.blk⟩
theorem JK.verdict (h : JK w K jb p n1 J1 n2 J2) : Calls Try.prog 11 #[.pointer (some ⟨jb, 0, none⟩)] w fun r w' => r = .returned (.agg #[.int .i64 J1.r, .int .i64 J1.a]) ∧ Below w.heap.size w w' := by
  obtain ⟨LG, LR, ⟨g, cap, ob, N, M, h1, _⟩, _⟩ := h
  exact gverdict jb g cap ob N M J1 w h1
end
end Go.Proofs.Ythlgahkoignnkaa
namespace Go.Proofs.Ythlgahkoignnkaa
open Go.RowKit Go.Maps Go.Sort
set_option maxRecDepth 100000
theorem held_forkN {P : Program} {md : Region.Mode} {ops : Array Oper} {Q : Exit → Act → World → Prop} {S : World → Prop} {fuel : Nat} {l : Array Bool} {a : Act} {w : World} {i j : Nat} (hr : Region.ready md ops l = [i, j]) (hi : wpOp P ops Q i (fun a' w' => S w' ∧ wpAnyH P md ops Q S fuel (l.setIfInBounds i true) a' w') a w) (hj : wpOp P ops Q j (fun a' w' => S w' ∧ wpAnyH P md ops Q S fuel (l.setIfInBounds j true) a' w') a w) : wpAnyH P md ops Q S (fuel + 1) l a w :=
  wpAnyH_all hr (by simp) (fun k hk => by
    rcases List.mem_cons.1 hk with rfl | hk
    · exact hi
    · obtain rfl := List.mem_singleton.1 hk
      exact hj)
theorem held_oneN {P : Program} {md : Region.Mode} {ops : Array Oper} {Q : Exit → Act → World → Prop} {S : World → Prop} {fuel : Nat} {l : Array Bool} {a : Act} {w : World} {i : Nat} (hr : Region.ready md ops l = [i]) (hi : wpOp P ops Q i (fun a' w' => S w' ∧ wpAnyH P md ops Q S fuel (l.setIfInBounds i true) a' w') a w) : wpAnyH P md ops Q S (fuel + 1) l a w :=
  wpAnyH_all hr (by simp) (fun k hk => by
    obtain rfl := List.mem_singleton.1 hk
    exact hi)
theorem flP_one (k : Nat) (P : Nat → Pg) : ∀ u ∈ flP k P, u.oneCell' = true := by
  intro u hu
  unfold flP at hu
  obtain ⟨i, _, hi⟩ := List.mem_flatMap.1 hu
  simp [pgL] at hi
  rcases hi with rfl | rfl | rfl | rfl | rfl <;> rfl
theorem PRow.src {w : World} {l : Nat} {P : Nat → Pg} {x : Addr} (h : PRow w (some x) l P) : ∀ j u, (flP l P)[j]? = some u → w.cell? (x.add j) = some u := fun j u hu => by
  have hj : j < l * 5 := by
    have := (List.getElem?_eq_some_iff.1 hu).1
    rwa [flP_len] at this
  obtain ⟨q, off, e, c0, c1, c2, c3, c4⟩ := h (j / 5) (by omega)
  cases e
  have e : (Addr.add ⟨q, off, none⟩ j) = ⟨q, off + j / 5 * 5 + j % 5, none⟩ := by
    have d : off + j / 5 * 5 + j % 5 = off + j := by omega
    rw [d]
    unfold Addr.add
    split
    · next z => rw [z, Nat.add_zero]
    · rfl
  rw [e]
  have g := flP_get l P (j / 5) (j % 5) (by omega) (by omega)
  have ej : j / 5 * 5 + j % 5 = j := by omega
  rw [ej, hu] at g
  have h5 : j % 5 < 5 := by omega
  generalize j % 5 = r at g h5 ⊢
  generalize j / 5 = i at *
  have : r = 0 ∨ r = 1 ∨ r = 2 ∨ r = 3 ∨ r = 4 := by omega
  rcases this with rfl | rfl | rfl | rfl | rfl
  all_goals simp [pgL] at g
  all_goals subst g
  · exact c0
  · exact c1
  · exact c2
  · exact c3
  · exact c4
theorem step_appN {ops : Array Oper} {o : Oper} {a : Act} {w : World} {K : Act → World → Prop} {Q : Exit → Act → World → Prop} {E : Prop}
    (hg : o.guard = none) (s x : Operand) (hop : o.op = Op.call { callee := Callee.builtin Builtin.append, args := #[s, x], argTypes := #[22, 22] }) (hty : o.type = 22)
    (B : Nat) (v : Value) (hs : a.eval s = v) (h1 : w.ownsRow B 70 5 v 0 []) (ao : Option Addr) (l c : Nat) (P : Nat → Pg) (hx : a.eval x = .slice ao l c) (hr : PRow w ao l P) (hb : l * 40 ≤ 140737488351232 ∧ (ao = none → l = 0 ∧ c = 0)) (hv : v ≠ .slice none 0 0)
    (hK : ∀ a' c' w', Hid (w'.ownsRow B 70 5 (.slice a' l c') l (flP l P) ∧ w.grownBy w' v.ownBlock ∧ ((Value.slice a' l c').ownBlock = v.ownBlock ∨ (Value.slice a' l c').ownBlock = some w.heap.size)) → K (a.put o.dst (.slice a' l c')) w') :
    if Region.wanted o (yielded ops a.tmps) = true then Oper.wp Try.prog o a w K Q else E := by
  have hw : Region.wanted o (yielded ops a.tmps) = true := by simp [Region.wanted, hg]
  rw [if_pos hw]
  obtain ⟨i0, hI, hz0, hz1, hz2⟩ := info_parts info_par
  obtain ⟨hb1, hnil⟩ := hb
  have hB : B ≤ w.heap.size := by
    rcases h1.2 with ⟨e, _⟩ | ⟨g, cap, cur, e, hg, hgg, _⟩
    · exact absurd e hv
    · have := (Array.getElem?_eq_some_iff.1 hgg).1
      omega
  have fin : ∀ v' w', w'.ownsRow B 70 5 v' l (flP l P) → w.grownBy w' v.ownBlock → (v'.ownBlock = v.ownBlock ∨ v'.ownBlock = some w.heap.size) → K (a.put o.dst v') w' := by
    intro v' w' k1 k2 k3
    obtain ⟨a', c', rfl⟩ : ∃ a' c', v' = .slice a' l c' := by
      rcases k1.2 with ⟨e, e0⟩ | ⟨g, cp, cur, e, _⟩
      · exact ⟨none, 0, by rw [e, e0]⟩
      · exact ⟨_, _, e⟩
    exact hK a' c' w' ⟨k1, k2, k3⟩
  have hrun : ∃ v' w', (Builtin.append_ #[22, 22] 22 #[v, .slice ao l c]).run Try.prog w = .ok v' w' ∧ K (a.put o.dst v') w' := by
    cases ao with
    | none =>
      obtain ⟨rfl, rfl⟩ := hnil rfl
      exact ⟨_, _, run_append_owned_none (P := Try.prog) (w := w) B 22 22 70 i0 5 Try.underlying22 hI v 0 _ h1, fin _ _ h1 ⟨rfl, rfl, rfl, Nat.le_refl _, fun _ _ _ => rfl⟩ (.inl rfl)⟩
    | some ad =>
      obtain ⟨v', w', hr', k1, k2, _, k4⟩ := run_append_own_at (P := Try.prog) w B 22 22 70 i0 (.agg #[.int .u32 0, .int .i64 0, .int .i64 0, .int .i64 0, .int .u32 0]) 5 40 Try.underlying22 hI hz0 hz1 hz2 rfl (by decide) v 0 [] h1 ad l c (flP l P) (flP_len _ _) (by
        intro j u hu
        by_cases h0 : 0 < l
        · exact hr.src j u hu
        · have := (List.getElem?_eq_some_iff.1 hu).1
          rw [flP_len] at this
          omega) (flP_one _ _) (by unfold maxLen; omega) (by omega) hB
      exact ⟨v', w', hr', fin v' w' (by simpa using k1) k2 k4⟩
  obtain ⟨v', w', hr', hk⟩ := hrun
  unfold Oper.wp execOp
  simp only [hop, hty, resolve, invoke, builtin, Sem.run_bind, Sem.run_pure, Result.andThen_ok, List.map_toArray, List.map_cons, List.map_nil, hs, hx, hr']
  exact hk
theorem belN1 (W : World) : Below W.heap.size W (W.alloc (.cells #[] 70)).drew := Below.drew (belowG (Below.refl _ _) _)
theorem belN2 (W : World) : Below W.heap.size W ((W.alloc (.cells #[] 70)).alloc (.cells #[] 70)).drew := Below.drew (belowG (belowG (Below.refl _ _) _) _)
theorem ownN (w : World) (B : Nat) (h : B ≤ w.heap.size) : (w.alloc (.cells #[] 70)).ownsRow B 70 5 (.slice (some ⟨w.heap.size, 0, none⟩) 0 0) 0 [] := World.ownsRow_made w #[] 0 h (Nat.zero_le _) rfl
theorem ownN0 (W : World) : ((W.alloc (.cells #[] 70)).drew).ownsRow W.heap.size 70 5 (.slice (some ⟨W.heap.size, 0, none⟩) 0 0) 0 [] := ownN W _ (Nat.le_refl _)
theorem ownNa (W : World) : (((W.alloc (.cells #[] 70)).alloc (.cells #[] 70)).drew).ownsRow W.heap.size 70 5 (.slice (some ⟨W.heap.size, 0, none⟩) 0 0) 0 [] := own_belowP (ownN W _ (Nat.le_refl _)) (Below.drew (belowG (Below.refl _ _) _))
theorem ownNb (W : World) : (((W.alloc (.cells #[] 70)).alloc (.cells #[] 70)).drew).ownsRow W.heap.size 70 5 (.slice (some ⟨W.heap.size + 1, 0, none⟩) 0 0) 0 [] := by
  have := ownN (W.alloc (.cells #[] 70)) W.heap.size (by simp)
  simp only [World.size_alloc] at this
  exact this
theorem netfin {w W w4 : World} {y0 y1 : Option Addr} {l0 k0 l1 k1 ms : Nat} {P0 P1 : Nat → Pg} (b4 : Below W.heap.size W w4) (hz : W.heap[w.heap.size + 1]? = some (.cells #[.slice none 0 0, .slice none 0 0, .int .u32 0] 25 (0, 0))) (hlt : w.heap.size + 2 ≤ W.heap.size) (o1 : w4.ownsRow W.heap.size 70 5 (.slice y0 l0 k0) l0 (flP l0 P0)) (o2 : w4.ownsRow W.heap.size 70 5 (.slice y1 l1 k1) l1 (flP l1 P1)) :
    Below (w.heap.size + 1) W (((w4.setCell ⟨w.heap.size + 1, 0, none⟩ (.slice y0 l0 k0)).setCell ⟨w.heap.size + 1, 1, none⟩ (.slice y1 l1 k1)).setCell ⟨w.heap.size + 1, 2, none⟩ (.int .u32 (ms : Nat))) ∧ (((w4.setCell ⟨w.heap.size + 1, 0, none⟩ (.slice y0 l0 k0)).setCell ⟨w.heap.size + 1, 1, none⟩ (.slice y1 l1 k1)).setCell ⟨w.heap.size + 1, 2, none⟩ (.int .u32 (ms : Nat))).heap[w.heap.size + 1]? = some (.cells #[.slice y0 l0 k0, .slice y1 l1 k1, .int .u32 (ms : Nat)] 25 (0, 0)) ∧ PRow (((w4.setCell ⟨w.heap.size + 1, 0, none⟩ (.slice y0 l0 k0)).setCell ⟨w.heap.size + 1, 1, none⟩ (.slice y1 l1 k1)).setCell ⟨w.heap.size + 1, 2, none⟩ (.int .u32 (ms : Nat))) y0 l0 P0 ∧ PRow (((w4.setCell ⟨w.heap.size + 1, 0, none⟩ (.slice y0 l0 k0)).setCell ⟨w.heap.size + 1, 1, none⟩ (.slice y1 l1 k1)).setCell ⟨w.heap.size + 1, 2, none⟩ (.int .u32 (ms : Nat))) y1 l1 P1 ∧ Below (w.heap.size + 1) W (((w4.setCell ⟨w.heap.size + 1, 0, none⟩ (.slice y0 l0 k0)).setCell ⟨w.heap.size + 1, 1, none⟩ (.slice y1 l1 k1)).setCell ⟨w.heap.size + 1, 2, none⟩ (.int .u32 (ms : Nat))) := by
  have o : Off [w.heap.size + 1] w4 (((w4.setCell ⟨w.heap.size + 1, 0, none⟩ (.slice y0 l0 k0)).setCell ⟨w.heap.size + 1, 1, none⟩ (.slice y1 l1 k1)).setCell ⟨w.heap.size + 1, 2, none⟩ (.int .u32 (ms : Nat))) := ((Off.setCell _ _ _ _).trans (Off.setCell _ _ _ _)).trans (Off.setCell _ _ _ _)
  have h4 := (b4.block (w.heap.size + 1) (by omega)).trans hz
  have bb := o.below (b4.mono (B' := w.heap.size + 1) (by omega)) (fun k hk => by simp at hk; omega) (by have := b4.size; omega)
  have kp : ∀ {y : Option Addr} {l k : Nat} {P : Nat → Pg}, w4.ownsRow W.heap.size 70 5 (.slice y l k) l (flP l P) → PRow (((w4.setCell ⟨w.heap.size + 1, 0, none⟩ (.slice y0 l0 k0)).setCell ⟨w.heap.size + 1, 1, none⟩ (.slice y1 l1 k1)).setCell ⟨w.heap.size + 1, 2, none⟩ (.int .u32 (ms : Nat))) y l P := fun h => PRow.of_own (own_keepP h (fun g hg => o.block g (h.lt g hg).2 (by have := (h.lt g hg).1; simp; omega)))
  exact ⟨bb, heap_setCell_same _ _ _ _ _ _ (heap_setCell_same _ _ _ _ _ _ (heap_setCell_same _ _ _ _ _ _ h4)), kp o1, kp o2, bb⟩
theorem netcells {w W w4 : World} (b4 : Below W.heap.size W w4) (hz : W.heap[w.heap.size + 1]? = some (.cells #[.slice none 0 0, .slice none 0 0, .int .u32 0] 25 (0, 0))) : w4.cell? ⟨w.heap.size + 1, 0, none⟩ = some (.slice none 0 0) ∧ w4.cell? ⟨w.heap.size + 1, 1, none⟩ = some (.slice none 0 0) ∧ w4.cell? ⟨w.heap.size + 1, 2, none⟩ = some (.int .u32 0) ∧ ∀ k, w4.frozen? ⟨w.heap.size + 1, k, none⟩ = false := by
  have h4 := (b4.block (w.heap.size + 1) (Array.getElem?_eq_some_iff.1 hz).1).trans hz
  exact ⟨cell_of_row w4 _ 0 _ _ _ h4, cell_of_row w4 _ 1 _ _ _ h4, cell_of_row w4 _ 2 _ _ _ h4, fun k => frozen_of_row w4 _ k _ _ h4⟩
set_option maxHeartbeats 2000000 in
theorem ncopied (a0 : Option Addr) (l0 c0 : Nat) (P0 : Nat → Pg) (a1 : Option Addr) (l1 c1 : Nat) (P1 : Nat → Pg) (ms : Nat) (w : World) (h0 : PRow w a0 l0 P0) (h1 : PRow w a1 l1 P1) (g0 : l0 * 40 ≤ 140737488351232 ∧ (a0 = none → l0 = 0 ∧ c0 = 0)) (g1 : l1 * 40 ≤ 140737488351232 ∧ (a1 = none → l1 = 0 ∧ c1 = 0)) :
    Calls Try.prog 9 #[.agg #[.slice a0 l0 c0, .slice a1 l1 c1, .int .u32 (ms : Nat)]] w fun r w' => ∃ y0 k0 y1 k1, r = .returned (.agg #[.slice y0 l0 k0, .slice y1 l1 k1, .int .u32 (ms : Nat)]) ∧ PRow w' y0 l0 P0 ∧ PRow w' y1 l1 P1 ∧ Below w.heap.size w w' := by
  obtain ⟨W, hW⟩ : ∃ W : World, (w.alloc (.cells #[.slice a0 l0 c0, .slice a1 l1 c1, .int .u32 (ms : Nat)] 25)).alloc (.cells #[.slice none 0 0, .slice none 0 0, .int .u32 0] 25) = W := ⟨_, rfl⟩
  have bW : Below w.heap.size w W := by rw [← hW]; exact belowG (belowG (Below.refl _ _) _) _
  have hlt : w.heap.size + 2 ≤ W.heap.size := by rw [← hW]; simp
  have eB : W.heap[w.heap.size]? = some (.cells #[.slice a0 l0 c0, .slice a1 l1 c1, .int .u32 (ms : Nat)] 25 (0, 0)) := by
    rw [← hW]
    exact ((belowG (Below.refl _ (w.alloc (.cells #[.slice a0 l0 c0, .slice a1 l1 c1, .int .u32 (ms : Nat)] 25))) _).block w.heap.size (by simp)).trans (heap_alloc_new w _)
  have HZ : Hid (W.heap[w.heap.size + 1]? = some (.cells #[.slice none 0 0, .slice none 0 0, .int .u32 0] 25 (0, 0))) := by
    rw [← hW]
    have := heap_alloc_new (w.alloc (.cells #[.slice a0 l0 c0, .slice a1 l1 c1, .int .u32 (ms : Nat)] 25)) (.cells #[.slice none 0 0, .slice none 0 0, .int .u32 0] 25)
    simp only [World.size_alloc] at this
    exact this
  have hS : ∀ wx, Below (w.heap.size + 1) W wx → wx.cell? ⟨w.heap.size, 0, none⟩ = some (.slice a0 l0 c0) ∧ wx.cell? ⟨w.heap.size, 1, none⟩ = some (.slice a1 l1 c1) ∧ wx.cell? ⟨w.heap.size, 2, none⟩ = some (.int .u32 (ms : Nat)) := fun wx bx => by
    have h := (bx.block w.heap.size (by omega)).trans eB
    exact ⟨cell_of_row wx _ 0 _ _ _ h, cell_of_row wx _ 1 _ _ _ h, cell_of_row wx _ 2 _ _ _ h⟩
  obtain ⟨r0, r1, r2⟩ := hS W (Below.refl _ _)
  have q0 := h0.below bW
  have q1 := h1.below bW
  have HBw : Hid (_) := bW
  clear h0 h1 bW eB
  go_enter Try.func9, Try.ntmps9
  go_wp2_with fail
  have HB0 : Hid (Below (w.heap.size + 1) W W.drew) := Below.drew (Below.refl _ _)
  refine wp_region_held_drew (S := fun wx => wx.cell? ⟨w.heap.size, 0, none⟩ = some (.slice a0 l0 c0) ∧ wx.cell? ⟨w.heap.size, 1, none⟩ = some (.slice a1 l1 c1) ∧ wx.cell? ⟨w.heap.size, 2, none⟩ = some (.int .u32 (ms : Nat))) (by kernel_rfl) (hS _ HB0.out) (fun _ => ?_)
  refine held_at (a' := { tmps := #[.agg #[.slice a0 l0 c0, .slice a1 l1 c1, .int .u32 (ms : Nat)], .pointer (some ⟨w.heap.size, 0, none⟩), .pointer (some ⟨w.heap.size + 1, 0, none⟩), undef, undef, undef, undef, undef, undef, undef, undef, undef, undef, undef], defers := [] }) (l' := #[false, false, false, false, false, false, false, false, false, false, false, false]) (by kernel_rfl) (by kernel_rfl) ?_
  refine wpAnyH_take (i := 1) (v := .pointer (some ⟨w.heap.size, 0, none⟩)) rfl (by kernel_rfl) (by kernel_rfl) (by kernel_rfl) (fun _ _ _ h => h) (Or.inl ⟨by kernel_rfl, fun w hSw => by go_simp⟩) (hS _ HB0.out) ?_
  refine wpAnyH_take (i := 2) (v := .slice a0 l0 c0) rfl (by kernel_rfl) (by kernel_rfl) (by kernel_rfl) (fun _ _ _ h => h) (Or.inl ⟨by kernel_rfl, fun w hSw => by go_simp⟩) (hS _ HB0.out) ?_
  refine wpAnyH_take (i := 5) (v := .pointer (some ⟨w.heap.size, 1, none⟩)) rfl (by kernel_rfl) (by kernel_rfl) (by kernel_rfl) (fun _ _ _ h => h) (Or.inl ⟨by kernel_rfl, fun w hSw => by go_simp⟩) (hS _ HB0.out) ?_
  refine wpAnyH_take (i := 6) (v := .slice a1 l1 c1) rfl (by kernel_rfl) (by kernel_rfl) (by kernel_rfl) (fun _ _ _ h => h) (Or.inl ⟨by kernel_rfl, fun w hSw => by go_simp⟩) (hS _ HB0.out) ?_
  refine wpAnyH_take (i := 8) (v := .pointer (some ⟨w.heap.size, 2, none⟩)) rfl (by kernel_rfl) (by kernel_rfl) (by kernel_rfl) (fun _ _ _ h => h) (Or.inl ⟨by kernel_rfl, fun w hSw => by go_simp⟩) (hS _ HB0.out) ?_
  refine wpAnyH_take (i := 9) (v := .int .u32 (ms : Nat)) rfl (by kernel_rfl) (by kernel_rfl) (by kernel_rfl) (fun _ _ _ h => h) (Or.inl ⟨by kernel_rfl, fun w hSw => by go_simp⟩) (hS _ HB0.out) ?_
  refine held_at (a' := { tmps := #[.agg #[.slice a0 l0 c0, .slice a1 l1 c1, .int .u32 (ms : Nat)], .pointer (some ⟨w.heap.size, 0, none⟩), .pointer (some ⟨w.heap.size + 1, 0, none⟩), undef, .pointer (some ⟨w.heap.size, 0, none⟩), .slice a0 l0 c0, undef, undef, .pointer (some ⟨w.heap.size, 1, none⟩), .slice a1 l1 c1, undef, .pointer (some ⟨w.heap.size, 2, none⟩), .int .u32 (ms : Nat), undef], defers := [] }) (l' := #[false, true, true, false, false, true, true, false, true, true, false, false]) (by kernel_rfl) (by kernel_rfl) ?_
  refine held_forkN (i := 0) (j := 4) (by kernel_rfl) ?_ ?_
  · refine any_val (.slice (some ⟨W.heap.size, 0, none⟩) 0 0) ((W.alloc (.cells #[] 70)).drew) rfl (by kernel_rfl) (by go_simp) ⟨(hS _ ((belN1 W).mono (by omega))), ?_⟩
    refine held_at (a' := { tmps := #[.agg #[.slice a0 l0 c0, .slice a1 l1 c1, .int .u32 (ms : Nat)], .pointer (some ⟨w.heap.size, 0, none⟩), .pointer (some ⟨w.heap.size + 1, 0, none⟩), .slice (some ⟨W.heap.size, 0, none⟩) 0 0, .pointer (some ⟨w.heap.size, 0, none⟩), .slice a0 l0 c0, undef, undef, .pointer (some ⟨w.heap.size, 1, none⟩), .slice a1 l1 c1, undef, .pointer (some ⟨w.heap.size, 2, none⟩), .int .u32 (ms : Nat), undef], defers := [] }) (l' := #[true, true, true, false, false, true, true, false, true, true, false, false]) (by kernel_rfl) (by kernel_rfl) ?_
    refine held_forkN (i := 3) (j := 4) (by kernel_rfl) ?_ ?_
    · refine wpOp_step rfl (fun K' hK' => ?_)
      refine step_appN rfl (.tmp 3) (.tmp 5) rfl rfl W.heap.size (.slice (some ⟨W.heap.size, 0, none⟩) 0 0) (by simp [Act.eval]) (ownN0 W) a0 l0 c0 P0 (by simp [Act.eval]) (q0.below (belN1 W)) g0 (by simp) ?_
      intro y0 k0 w3 h3
      have B3 : Hid (Below W.heap.size W w3) := (belN1 W).grown h3.out.2.1 (belN1 W).size (fun j hj => ((ownN0 W).lt j hj).1)
      refine hK' _ _ ⟨hS _ (B3.out.mono (by omega)), ?_⟩
      refine held_at (a' := { tmps := #[.agg #[.slice a0 l0 c0, .slice a1 l1 c1, .int .u32 (ms : Nat)], .pointer (some ⟨w.heap.size, 0, none⟩), .pointer (some ⟨w.heap.size + 1, 0, none⟩), .slice (some ⟨W.heap.size, 0, none⟩) 0 0, .pointer (some ⟨w.heap.size, 0, none⟩), .slice a0 l0 c0, .slice y0 l0 k0, undef, .pointer (some ⟨w.heap.size, 1, none⟩), .slice a1 l1 c1, undef, .pointer (some ⟨w.heap.size, 2, none⟩), .int .u32 (ms : Nat), undef], defers := [] }) (l' := #[true, true, true, true, false, true, true, false, true, true, false, false]) (by kernel_rfl) (by kernel_rfl) ?_
      have B3a : Hid (Below W.heap.size W (w3.alloc (.cells #[] 70))) := belowG B3.out _
      refine held_oneN (i := 4) (by kernel_rfl) (any_val (.slice (some ⟨w3.heap.size, 0, none⟩) 0 0) (w3.alloc (.cells #[] 70)) rfl (by kernel_rfl) (by go_simp) ⟨(hS _ (B3a.out.mono (by omega))), ?_⟩)
      refine held_at (a' := { tmps := #[.agg #[.slice a0 l0 c0, .slice a1 l1 c1, .int .u32 (ms : Nat)], .pointer (some ⟨w.heap.size, 0, none⟩), .pointer (some ⟨w.heap.size + 1, 0, none⟩), .slice (some ⟨W.heap.size, 0, none⟩) 0 0, .pointer (some ⟨w.heap.size, 0, none⟩), .slice a0 l0 c0, .slice y0 l0 k0, .slice (some ⟨w3.heap.size, 0, none⟩) 0 0, .pointer (some ⟨w.heap.size, 1, none⟩), .slice a1 l1 c1, undef, .pointer (some ⟨w.heap.size, 2, none⟩), .int .u32 (ms : Nat), undef], defers := [] }) (l' := #[true, true, true, true, true, true, true, false, true, true, false, false]) (by kernel_rfl) (by kernel_rfl) ?_
      refine held_oneN (i := 7) (by kernel_rfl) (wpOp_step rfl (fun K' hK' => ?_))
      refine step_appN rfl (.tmp 7) (.tmp 9) rfl rfl W.heap.size (.slice (some ⟨w3.heap.size, 0, none⟩) 0 0) (by simp [Act.eval]) (ownN w3 W.heap.size B3.out.size) a1 l1 c1 P1 (by simp [Act.eval]) (q1.below B3a.out) g1 (by simp) ?_
      intro y1 k1 w4 hw4
      have B4 : Hid (Below W.heap.size W w4) := B3a.out.grown hw4.out.2.1 B3a.out.size (fun j hj => ((ownN w3 W.heap.size B3.out.size).lt j hj).1)
      have O1 : Hid (w4.ownsRow W.heap.size 70 5 (.slice y0 l0 k0) l0 (flP l0 P0)) := own_keepP (own_belowP h3.out.1 (belowG (Below.refl _ _) (.cells #[] 70))) (fun g hg => hw4.out.2.1.block g (by have := (h3.out.1.lt g hg).2; simp; omega) (fun e => by have := (h3.out.1.lt g hg).2; simp [Value.ownBlock] at e; omega))
      refine hK' _ _ ⟨hS _ (B4.out.mono (by omega)), ?_⟩
      refine held_at (a' := { tmps := #[.agg #[.slice a0 l0 c0, .slice a1 l1 c1, .int .u32 (ms : Nat)], .pointer (some ⟨w.heap.size, 0, none⟩), .pointer (some ⟨w.heap.size + 1, 0, none⟩), .slice (some ⟨W.heap.size, 0, none⟩) 0 0, .pointer (some ⟨w.heap.size, 0, none⟩), .slice a0 l0 c0, .slice y0 l0 k0, .slice (some ⟨w3.heap.size, 0, none⟩) 0 0, .pointer (some ⟨w.heap.size, 1, none⟩), .slice a1 l1 c1, .slice y1 l1 k1, .pointer (some ⟨w.heap.size, 2, none⟩), .int .u32 (ms : Nat), undef], defers := [] }) (l' := #[true, true, true, true, true, true, true, true, true, true, false, false]) (by kernel_rfl) (by kernel_rfl) ?_
      refine wpAnyH_take (i := 10) (v := .agg #[.slice y0 l0 k0, .slice y1 l1 k1, .int .u32 (ms : Nat)]) rfl (by kernel_rfl) (by kernel_rfl) (by kernel_rfl) (fun _ _ _ h => h) (Or.inl ⟨by kernel_rfl, fun w hSw => by go_simp⟩) (hS _ (B4.out.mono (by omega))) ?_
      refine held_at (a' := { tmps := #[.agg #[.slice a0 l0 c0, .slice a1 l1 c1, .int .u32 (ms : Nat)], .pointer (some ⟨w.heap.size, 0, none⟩), .pointer (some ⟨w.heap.size + 1, 0, none⟩), .slice (some ⟨W.heap.size, 0, none⟩) 0 0, .pointer (some ⟨w.heap.size, 0, none⟩), .slice a0 l0 c0, .slice y0 l0 k0, .slice (some ⟨w3.heap.size, 0, none⟩) 0 0, .pointer (some ⟨w.heap.size, 1, none⟩), .slice a1 l1 c1, .slice y1 l1 k1, .pointer (some ⟨w.heap.size, 2, none⟩), .int .u32 (ms : Nat), .agg #[.slice y0 l0 k0, .slice y1 l1 k1, .int .u32 (ms : Nat)]], defers := [] }) (l' := #[true, true, true, true, true, true, true, true, true, true, true, false]) (by kernel_rfl) (by kernel_rfl) ?_
      have HF := netfin (ms := ms) B4.out HZ.out hlt O1.out hw4.out.1
      obtain ⟨z0, z1, z2, zf⟩ := netcells B4.out HZ.out
      refine held_skip (i := 11) (((w4.setCell ⟨w.heap.size + 1, 0, none⟩ (.slice y0 l0 k0)).setCell ⟨w.heap.size + 1, 1, none⟩ (.slice y1 l1 k1)).setCell ⟨w.heap.size + 1, 2, none⟩ (.int .u32 (ms : Nat))) (by kernel_rfl) rfl (by kernel_rfl) (by go_simp) (hS _ HF.1) ?_
      refine held_at (a' := { tmps := #[.agg #[.slice a0 l0 c0, .slice a1 l1 c1, .int .u32 (ms : Nat)], .pointer (some ⟨w.heap.size, 0, none⟩), .pointer (some ⟨w.heap.size + 1, 0, none⟩), .slice (some ⟨W.heap.size, 0, none⟩) 0 0, .pointer (some ⟨w.heap.size, 0, none⟩), .slice a0 l0 c0, .slice y0 l0 k0, .slice (some ⟨w3.heap.size, 0, none⟩) 0 0, .pointer (some ⟨w.heap.size, 1, none⟩), .slice a1 l1 c1, .slice y1 l1 k1, .pointer (some ⟨w.heap.size, 2, none⟩), .int .u32 (ms : Nat), .agg #[.slice y0 l0 k0, .slice y1 l1 k1, .int .u32 (ms : Nat)]], defers := [] }) (l' := #[true, true, true, true, true, true, true, true, true, true, true, true]) (by kernel_rfl) (by kernel_rfl) ?_
      refine wpAnyH_done (by kernel_rfl) ?_ _
      have HR : Hid (_) := HF.2
      have rr0 := cell_of_row _ _ 0 _ _ _ HF.2.1
      have rr1 := cell_of_row _ _ 1 _ _ _ HF.2.1
      have rr2 := cell_of_row _ _ 2 _ _ _ HF.2.1
      generalize ((w4.setCell ⟨w.heap.size + 1, 0, none⟩ (.slice y0 l0 k0)).setCell ⟨w.heap.size + 1, 1, none⟩ (.slice y1 l1 k1)).setCell ⟨w.heap.size + 1, 2, none⟩ (.int .u32 (ms : Nat)) = W9 at *
      clear z0 z1 z2 zf
      go_wp2_with fail
      refine bodyPost_ret (v := .agg #[.slice y0 l0 k0, .slice y1 l1 k1, .int .u32 (ms : Nat)]) (by simp [results, Try.results9, go_sem, rr0, rr1, rr2]) rfl ⟨_, _, _, _, rfl, HR.out.2.1, HR.out.2.2.1, ?_⟩
      exact HBw.out.trans (HR.out.2.2.2.mono (by omega))
    · refine any_val (.slice (some ⟨W.heap.size + 1, 0, none⟩) 0 0) (((W.alloc (.cells #[] 70)).alloc (.cells #[] 70)).drew) rfl (by kernel_rfl) (by go_simp) ⟨(hS _ ((belN2 W).mono (by omega))), ?_⟩
      refine held_at (a' := { tmps := #[.agg #[.slice a0 l0 c0, .slice a1 l1 c1, .int .u32 (ms : Nat)], .pointer (some ⟨w.heap.size, 0, none⟩), .pointer (some ⟨w.heap.size + 1, 0, none⟩), .slice (some ⟨W.heap.size, 0, none⟩) 0 0, .pointer (some ⟨w.heap.size, 0, none⟩), .slice a0 l0 c0, undef, .slice (some ⟨W.heap.size + 1, 0, none⟩) 0 0, .pointer (some ⟨w.heap.size, 1, none⟩), .slice a1 l1 c1, undef, .pointer (some ⟨w.heap.size, 2, none⟩), .int .u32 (ms : Nat), undef], defers := [] }) (l' := #[true, true, true, false, true, true, true, false, true, true, false, false]) (by kernel_rfl) (by kernel_rfl) ?_
      refine held_oneN (i := 3) (by kernel_rfl) (wpOp_step rfl (fun K' hK' => ?_))
      refine step_appN rfl (.tmp 3) (.tmp 5) rfl rfl W.heap.size (.slice (some ⟨W.heap.size, 0, none⟩) 0 0) (by simp [Act.eval]) (ownNa W) a0 l0 c0 P0 (by simp [Act.eval]) (q0.below (belN2 W)) g0 (by simp) ?_
      intro y0 k0 w3 h3
      have B3 : Hid (Below W.heap.size W w3) := (belN2 W).grown h3.out.2.1 (belN2 W).size (fun j hj => ((ownNa W).lt j hj).1)
      refine hK' _ _ ⟨hS _ (B3.out.mono (by omega)), ?_⟩
      refine held_at (a' := { tmps := #[.agg #[.slice a0 l0 c0, .slice a1 l1 c1, .int .u32 (ms : Nat)], .pointer (some ⟨w.heap.size, 0, none⟩), .pointer (some ⟨w.heap.size + 1, 0, none⟩), .slice (some ⟨W.heap.size, 0, none⟩) 0 0, .pointer (some ⟨w.heap.size, 0, none⟩), .slice a0 l0 c0, .slice y0 l0 k0, .slice (some ⟨W.heap.size + 1, 0, none⟩) 0 0, .pointer (some ⟨w.heap.size, 1, none⟩), .slice a1 l1 c1, undef, .pointer (some ⟨w.heap.size, 2, none⟩), .int .u32 (ms : Nat), undef], defers := [] }) (l' := #[true, true, true, true, true, true, true, false, true, true, false, false]) (by kernel_rfl) (by kernel_rfl) ?_
      have O2 : w3.ownsRow W.heap.size 70 5 (.slice (some ⟨W.heap.size + 1, 0, none⟩) 0 0) 0 [] := own_keepP (ownNb W) (fun g hg => h3.out.2.1.block g ((ownNb W).lt g hg).2 (fun e => by simp [Value.ownBlock] at e hg; omega))
      refine held_oneN (i := 7) (by kernel_rfl) (wpOp_step rfl (fun K' hK' => ?_))
      refine step_appN rfl (.tmp 7) (.tmp 9) rfl rfl W.heap.size (.slice (some ⟨W.heap.size + 1, 0, none⟩) 0 0) (by simp [Act.eval]) O2 a1 l1 c1 P1 (by simp [Act.eval]) (q1.below B3.out) g1 (by simp) ?_
      intro y1 k1 w4 hw4
      have B4 : Hid (Below W.heap.size W w4) := B3.out.grown hw4.out.2.1 B3.out.size (fun j hj => (O2.lt j hj).1)
      have O1 : Hid (w4.ownsRow W.heap.size 70 5 (.slice y0 l0 k0) l0 (flP l0 P0)) := own_keepP h3.out.1 (fun g hg => hw4.out.2.1.block g (h3.out.1.lt g hg).2 (fun e => by rcases h3.out.2.2 with s | s <;> rw [s] at hg <;> simp [Value.ownBlock] at e hg <;> omega))
      refine hK' _ _ ⟨hS _ (B4.out.mono (by omega)), ?_⟩
      refine held_at (a' := { tmps := #[.agg #[.slice a0 l0 c0, .slice a1 l1 c1, .int .u32 (ms : Nat)], .pointer (some ⟨w.heap.size, 0, none⟩), .pointer (some ⟨w.heap.size + 1, 0, none⟩), .slice (some ⟨W.heap.size, 0, none⟩) 0 0, .pointer (some ⟨w.heap.size, 0, none⟩), .slice a0 l0 c0, .slice y0 l0 k0, .slice (some ⟨W.heap.size + 1, 0, none⟩) 0 0, .pointer (some ⟨w.heap.size, 1, none⟩), .slice a1 l1 c1, .slice y1 l1 k1, .pointer (some ⟨w.heap.size, 2, none⟩), .int .u32 (ms : Nat), undef], defers := [] }) (l' := #[true, true, true, true, true, true, true, true, true, true, false, false]) (by kernel_rfl) (by kernel_rfl) ?_
      refine wpAnyH_take (i := 10) (v := .agg #[.slice y0 l0 k0, .slice y1 l1 k1, .int .u32 (ms : Nat)]) rfl (by kernel_rfl) (by kernel_rfl) (by kernel_rfl) (fun _ _ _ h => h) (Or.inl ⟨by kernel_rfl, fun w hSw => by go_simp⟩) (hS _ (B4.out.mono (by omega))) ?_
      refine held_at (a' := { tmps := #[.agg #[.slice a0 l0 c0, .slice a1 l1 c1, .int .u32 (ms : Nat)], .pointer (some ⟨w.heap.size, 0, none⟩), .pointer (some ⟨w.heap.size + 1, 0, none⟩), .slice (some ⟨W.heap.size, 0, none⟩) 0 0, .pointer (some ⟨w.heap.size, 0, none⟩), .slice a0 l0 c0, .slice y0 l0 k0, .slice (some ⟨W.heap.size + 1, 0, none⟩) 0 0, .pointer (some ⟨w.heap.size, 1, none⟩), .slice a1 l1 c1, .slice y1 l1 k1, .pointer (some ⟨w.heap.size, 2, none⟩), .int .u32 (ms : Nat), .agg #[.slice y0 l0 k0, .slice y1 l1 k1, .int .u32 (ms : Nat)]], defers := [] }) (l' := #[true, true, true, true, true, true, true, true, true, true, true, false]) (by kernel_rfl) (by kernel_rfl) ?_
      have HF := netfin (ms := ms) B4.out HZ.out hlt O1.out hw4.out.1
      obtain ⟨z0, z1, z2, zf⟩ := netcells B4.out HZ.out
      refine held_skip (i := 11) (((w4.setCell ⟨w.heap.size + 1, 0, none⟩ (.slice y0 l0 k0)).setCell ⟨w.heap.size + 1, 1, none⟩ (.slice y1 l1 k1)).setCell ⟨w.heap.size + 1, 2, none⟩ (.int .u32 (ms : Nat))) (by kernel_rfl) rfl (by kernel_rfl) (by go_simp) (hS _ HF.1) ?_
      refine held_at (a' := { tmps := #[.agg #[.slice a0 l0 c0, .slice a1 l1 c1, .int .u32 (ms : Nat)], .pointer (some ⟨w.heap.size, 0, none⟩), .pointer (some ⟨w.heap.size + 1, 0, none⟩), .slice (some ⟨W.heap.size, 0, none⟩) 0 0, .pointer (some ⟨w.heap.size, 0, none⟩), .slice a0 l0 c0, .slice y0 l0 k0, .slice (some ⟨W.heap.size + 1, 0, none⟩) 0 0, .pointer (some ⟨w.heap.size, 1, none⟩), .slice a1 l1 c1, .slice y1 l1 k1, .pointer (some ⟨w.heap.size, 2, none⟩), .int .u32 (ms : Nat), .agg #[.slice y0 l0 k0, .slice y1 l1 k1, .int .u32 (ms : Nat)]], defers := [] }) (l' := #[true, true, true, true, true, true, true, true, true, true, true, true]) (by kernel_rfl) (by kernel_rfl) ?_
      refine wpAnyH_done (by kernel_rfl) ?_ _
      have HR : Hid (_) := HF.2
      have rr0 := cell_of_row _ _ 0 _ _ _ HF.2.1
      have rr1 := cell_of_row _ _ 1 _ _ _ HF.2.1
      have rr2 := cell_of_row _ _ 2 _ _ _ HF.2.1
      generalize ((w4.setCell ⟨w.heap.size + 1, 0, none⟩ (.slice y0 l0 k0)).setCell ⟨w.heap.size + 1, 1, none⟩ (.slice y1 l1 k1)).setCell ⟨w.heap.size + 1, 2, none⟩ (.int .u32 (ms : Nat)) = W9 at *
      clear z0 z1 z2 zf
      go_wp2_with fail
      refine bodyPost_ret (v := .agg #[.slice y0 l0 k0, .slice y1 l1 k1, .int .u32 (ms : Nat)]) (by simp [results, Try.results9, go_sem, rr0, rr1, rr2]) rfl ⟨_, _, _, _, rfl, HR.out.2.1, HR.out.2.2.1, ?_⟩
      exact HBw.out.trans (HR.out.2.2.2.mono (by omega))
  · refine any_val (.slice (some ⟨W.heap.size, 0, none⟩) 0 0) ((W.alloc (.cells #[] 70)).drew) rfl (by kernel_rfl) (by go_simp) ⟨(hS _ ((belN1 W).mono (by omega))), ?_⟩
    refine held_at (a' := { tmps := #[.agg #[.slice a0 l0 c0, .slice a1 l1 c1, .int .u32 (ms : Nat)], .pointer (some ⟨w.heap.size, 0, none⟩), .pointer (some ⟨w.heap.size + 1, 0, none⟩), undef, .pointer (some ⟨w.heap.size, 0, none⟩), .slice a0 l0 c0, undef, .slice (some ⟨W.heap.size, 0, none⟩) 0 0, .pointer (some ⟨w.heap.size, 1, none⟩), .slice a1 l1 c1, undef, .pointer (some ⟨w.heap.size, 2, none⟩), .int .u32 (ms : Nat), undef], defers := [] }) (l' := #[false, true, true, false, true, true, true, false, true, true, false, false]) (by kernel_rfl) (by kernel_rfl) ?_
    refine held_oneN (i := 0) (by kernel_rfl) (any_val (.slice (some ⟨W.heap.size + 1, 0, none⟩) 0 0) (((W.alloc (.cells #[] 70)).alloc (.cells #[] 70)).drew) rfl (by kernel_rfl) (by go_simp) ⟨(hS _ ((belN2 W).mono (by omega))), ?_⟩)
    refine held_at (a' := { tmps := #[.agg #[.slice a0 l0 c0, .slice a1 l1 c1, .int .u32 (ms : Nat)], .pointer (some ⟨w.heap.size, 0, none⟩), .pointer (some ⟨w.heap.size + 1, 0, none⟩), .slice (some ⟨W.heap.size + 1, 0, none⟩) 0 0, .pointer (some ⟨w.heap.size, 0, none⟩), .slice a0 l0 c0, undef, .slice (some ⟨W.heap.size, 0, none⟩) 0 0, .pointer (some ⟨w.heap.size, 1, none⟩), .slice a1 l1 c1, undef, .pointer (some ⟨w.heap.size, 2, none⟩), .int .u32 (ms : Nat), undef], defers := [] }) (l' := #[true, true, true, false, true, true, true, false, true, true, false, false]) (by kernel_rfl) (by kernel_rfl) ?_
    refine held_oneN (i := 3) (by kernel_rfl) (wpOp_step rfl (fun K' hK' => ?_))
    refine step_appN rfl (.tmp 3) (.tmp 5) rfl rfl W.heap.size (.slice (some ⟨W.heap.size + 1, 0, none⟩) 0 0) (by simp [Act.eval]) (ownNb W) a0 l0 c0 P0 (by simp [Act.eval]) (q0.below (belN2 W)) g0 (by simp) ?_
    intro y0 k0 w3 h3
    have B3 : Hid (Below W.heap.size W w3) := (belN2 W).grown h3.out.2.1 (belN2 W).size (fun j hj => ((ownNb W).lt j hj).1)
    refine hK' _ _ ⟨hS _ (B3.out.mono (by omega)), ?_⟩
    refine held_at (a' := { tmps := #[.agg #[.slice a0 l0 c0, .slice a1 l1 c1, .int .u32 (ms : Nat)], .pointer (some ⟨w.heap.size, 0, none⟩), .pointer (some ⟨w.heap.size + 1, 0, none⟩), .slice (some ⟨W.heap.size + 1, 0, none⟩) 0 0, .pointer (some ⟨w.heap.size, 0, none⟩), .slice a0 l0 c0, .slice y0 l0 k0, .slice (some ⟨W.heap.size, 0, none⟩) 0 0, .pointer (some ⟨w.heap.size, 1, none⟩), .slice a1 l1 c1, undef, .pointer (some ⟨w.heap.size, 2, none⟩), .int .u32 (ms : Nat), undef], defers := [] }) (l' := #[true, true, true, true, true, true, true, false, true, true, false, false]) (by kernel_rfl) (by kernel_rfl) ?_
    have O2 : w3.ownsRow W.heap.size 70 5 (.slice (some ⟨W.heap.size, 0, none⟩) 0 0) 0 [] := own_keepP (ownNa W) (fun g hg => h3.out.2.1.block g ((ownNa W).lt g hg).2 (fun e => by simp [Value.ownBlock] at e hg; omega))
    refine held_oneN (i := 7) (by kernel_rfl) (wpOp_step rfl (fun K' hK' => ?_))
    refine step_appN rfl (.tmp 7) (.tmp 9) rfl rfl W.heap.size (.slice (some ⟨W.heap.size, 0, none⟩) 0 0) (by simp [Act.eval]) O2 a1 l1 c1 P1 (by simp [Act.eval]) (q1.below B3.out) g1 (by simp) ?_
    intro y1 k1 w4 hw4
    have B4 : Hid (Below W.heap.size W w4) := B3.out.grown hw4.out.2.1 B3.out.size (fun j hj => (O2.lt j hj).1)
    have O1 : Hid (w4.ownsRow W.heap.size 70 5 (.slice y0 l0 k0) l0 (flP l0 P0)) := own_keepP h3.out.1 (fun g hg => hw4.out.2.1.block g (h3.out.1.lt g hg).2 (fun e => by rcases h3.out.2.2 with s | s <;> rw [s] at hg <;> simp [Value.ownBlock] at e hg <;> omega))
    refine hK' _ _ ⟨hS _ (B4.out.mono (by omega)), ?_⟩
    refine held_at (a' := { tmps := #[.agg #[.slice a0 l0 c0, .slice a1 l1 c1, .int .u32 (ms : Nat)], .pointer (some ⟨w.heap.size, 0, none⟩), .pointer (some ⟨w.heap.size + 1, 0, none⟩), .slice (some ⟨W.heap.size + 1, 0, none⟩) 0 0, .pointer (some ⟨w.heap.size, 0, none⟩), .slice a0 l0 c0, .slice y0 l0 k0, .slice (some ⟨W.heap.size, 0, none⟩) 0 0, .pointer (some ⟨w.heap.size, 1, none⟩), .slice a1 l1 c1, .slice y1 l1 k1, .pointer (some ⟨w.heap.size, 2, none⟩), .int .u32 (ms : Nat), undef], defers := [] }) (l' := #[true, true, true, true, true, true, true, true, true, true, false, false]) (by kernel_rfl) (by kernel_rfl) ?_
    refine wpAnyH_take (i := 10) (v := .agg #[.slice y0 l0 k0, .slice y1 l1 k1, .int .u32 (ms : Nat)]) rfl (by kernel_rfl) (by kernel_rfl) (by kernel_rfl) (fun _ _ _ h => h) (Or.inl ⟨by kernel_rfl, fun w hSw => by go_simp⟩) (hS _ (B4.out.mono (by omega))) ?_
    refine held_at (a' := { tmps := #[.agg #[.slice a0 l0 c0, .slice a1 l1 c1, .int .u32 (ms : Nat)], .pointer (some ⟨w.heap.size, 0, none⟩), .pointer (some ⟨w.heap.size + 1, 0, none⟩), .slice (some ⟨W.heap.size + 1, 0, none⟩) 0 0, .pointer (some ⟨w.heap.size, 0, none⟩), .slice a0 l0 c0, .slice y0 l0 k0, .slice (some ⟨W.heap.size, 0, none⟩) 0 0, .pointer (some ⟨w.heap.size, 1, none⟩), .slice a1 l1 c1, .slice y1 l1 k1, .pointer (some ⟨w.heap.size, 2, none⟩), .int .u32 (ms : Nat), .agg #[.slice y0 l0 k0, .slice y1 l1 k1, .int .u32 (ms : Nat)]], defers := [] }) (l' := #[true, true, true, true, true, true, true, true, true, true, true, false]) (by kernel_rfl) (by kernel_rfl) ?_
    have HF := netfin (ms := ms) B4.out HZ.out hlt O1.out hw4.out.1
    obtain ⟨z0, z1, z2, zf⟩ := netcells B4.out HZ.out
    refine held_skip (i := 11) (((w4.setCell ⟨w.heap.size + 1, 0, none⟩ (.slice y0 l0 k0)).setCell ⟨w.heap.size + 1, 1, none⟩ (.slice y1 l1 k1)).setCell ⟨w.heap.size + 1, 2, none⟩ (.int .u32 (ms : Nat))) (by kernel_rfl) rfl (by kernel_rfl) (by go_simp) (hS _ HF.1) ?_
    refine held_at (a' := { tmps := #[.agg #[.slice a0 l0 c0, .slice a1 l1 c1, .int .u32 (ms : Nat)], .pointer (some ⟨w.heap.size, 0, none⟩), .pointer (some ⟨w.heap.size + 1, 0, none⟩), .slice (some ⟨W.heap.size + 1, 0, none⟩) 0 0, .pointer (some ⟨w.heap.size, 0, none⟩), .slice a0 l0 c0, .slice y0 l0 k0, .slice (some ⟨W.heap.size, 0, none⟩) 0 0, .pointer (some ⟨w.heap.size, 1, none⟩), .slice a1 l1 c1, .slice y1 l1 k1, .pointer (some ⟨w.heap.size, 2, none⟩), .int .u32 (ms : Nat), .agg #[.slice y0 l0 k0, .slice y1 l1 k1, .int .u32 (ms : Nat)]], defers := [] }) (l' := #[true, true, true, true, true, true, true, true, true, true, true, true]) (by kernel_rfl) (by kernel_rfl) ?_
    refine wpAnyH_done (by kernel_rfl) ?_ _
    have HR : Hid (_) := HF.2
    have rr0 := cell_of_row _ _ 0 _ _ _ HF.2.1
    have rr1 := cell_of_row _ _ 1 _ _ _ HF.2.1
    have rr2 := cell_of_row _ _ 2 _ _ _ HF.2.1
    generalize ((w4.setCell ⟨w.heap.size + 1, 0, none⟩ (.slice y0 l0 k0)).setCell ⟨w.heap.size + 1, 1, none⟩ (.slice y1 l1 k1)).setCell ⟨w.heap.size + 1, 2, none⟩ (.int .u32 (ms : Nat)) = W9 at *
    clear z0 z1 z2 zf
    go_wp2_with fail
    refine bodyPost_ret (v := .agg #[.slice y0 l0 k0, .slice y1 l1 k1, .int .u32 (ms : Nat)]) (by simp [results, Try.results9, go_sem, rr0, rr1, rr2]) rfl ⟨_, _, _, _, rfl, HR.out.2.1, HR.out.2.2.1, ?_⟩
    exact HBw.out.trans (HR.out.2.2.2.mono (by omega))
end Go.Proofs.Ythlgahkoignnkaa
namespace Go.Proofs.Ythlgahkoignnkaa
open Go.RowKit Go.Maps Go.Sort
set_option maxRecDepth 100000
theorem OF.at_ {w : World} {B0 B : Nat} {a : Option Addr} {len c : Nat} {F : Nat → Fa} (h : OF w B0 B a len c F) (h0 : 0 < len) : ∃ (g : Nat) (A : Nat → Option Addr) (C : Nat → Nat), a = some ⟨g, 0, none⟩ ∧ B ≤ g ∧ g < w.heap.size ∧ ∀ i, i < len → (∀ j u, (faL (F i) (A i) (C i))[j]? = some u → w.cell? ⟨g, i * 8 + j, none⟩ = some u) ∧ Row8 w (A i) (F i).n (C i) (F i).b ∧ ∀ y, A i = some y → 0 < (F i).n → y.block < B0 ∨ (B ≤ y.block ∧ y.block < w.heap.size) := by
  obtain ⟨A, C, o, R⟩ := h
  rcases o.2 with ⟨_, hn⟩ | ⟨g, cap, cur, e, hg, hgg, h1, h2, h3, h4⟩
  · omega
  · simp only [Value.slice.injEq] at e
    refine ⟨g, A, C, e.1, hg, (Array.getElem?_eq_some_iff.1 hgg).1, fun i hi => ⟨fun j u hu => ?_, (R i hi).1, fun y hy hp => ?_⟩⟩
    · have hj : j < 8 := by
        have := (List.getElem?_eq_some_iff.1 hu).1
        simpa [faL] using this
      rw [cell_of_row w g (i * 8 + j) _ _ _ hgg, ← hu, ← flF_get len F A C i j hi hj, ← h4, List.getElem?_take_of_lt (by omega), Array.getElem?_toList]
    · rcases ((R i hi).2 y hy hp).2 with e | e
      · exact .inl e
      · refine .inr ⟨e, ?_⟩
        have h1 := (R i hi).1.src y hy 0 hp
        have hlt := World.block_lt_of_cell? w _ h1
        have hb : (y.add 0).block = y.block := by unfold Addr.add; split <;> rfl
        omega
theorem row8_kk {K : Nat → Prop} {w w' : World} {a : Option Addr} {n cap : Nat} {bs : Nat → Nat} (h : Row8 w a n cap bs) (k : KK K w w') (hk : ∀ y, a = some y → 0 < n → K y.block) : Row8 w' a n cap bs :=
  row8_blk h (fun y hy hp => k.block _ (hk y hy hp))
theorem JK.less {w : World} {K K' : Nat → Prop} {jb p n1 n2 : Nat} {J1 J2 : Ju} (h : JK w K jb p n1 J1 n2 J2) (hk : ∀ q, K' q → K q) : JK w K' jb p n1 J1 n2 J2 := by
  obtain ⟨LG, LR, h1, h2, h3, h4, h5, h6⟩ := h
  exact ⟨LG, LR, h1, h2, h3, fun x hx q => h4 x hx (hk x q), fun x hx q => h5 x hx (hk x q), fun q hq => h6 q (hk q hq)⟩
def Kq (B c1 c2 : Nat) (q : Nat) : Prop := q < B ∨ (c1 ≤ q ∧ q < c2)
theorem OF.frow_kk {w w' : World} {B0 B b : Nat} {a : Option Addr} {len c : Nat} {F : Nat → Fa} (h : OF w B0 B a len c F) (hB : B0 ≤ b) (k : KK (Kq b B w.heap.size) w w') : FRow w' a len F := fun i hi => by
  obtain ⟨g, A, C, rfl, hg, hgl, hR⟩ := h.at_ (by omega)
  obtain ⟨h1, h2, h3⟩ := hR i hi
  have cc := fun j u hu => k.cell (.inr ⟨hg, hgl⟩) (h1 j u hu)
  have rr : Row8 w' (A i) (F i).n (C i) (F i).b := row8_kk h2 k (fun y hy hp => by
    rcases h3 y hy hp with e | e
    · exact .inl (by omega)
    · exact .inr e)
  refine ⟨g, 0, A i, C i, rfl, ?_, ?_, ?_, ?_, ?_, ?_, ?_, ?_, rr⟩
  all_goals rw [Nat.zero_add]
  · exact cc 0 _ rfl
  · exact cc 1 _ rfl
  · exact cc 2 _ rfl
  · exact cc 3 _ rfl
  · exact cc 4 _ rfl
  · exact cc 5 _ rfl
  · exact cc 6 _ rfl
  · exact cc 7 _ rfl
end Go.Proofs.Ythlgahkoignnkaa
