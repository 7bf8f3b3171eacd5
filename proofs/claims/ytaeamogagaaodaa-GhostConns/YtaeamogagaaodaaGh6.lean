/- Layer 18: what was sent: deleted from, and written. -/
import Derived.Test.YtaeamogagaaodaaGh5
namespace Go.Proofs.Ytaeamogagaaodaa
open Go.RowKit Go.Maps

theorem grown_off {w w' : World} {r : Nat} (h : w.grownBy w' (some r)) : Off [r] w w' := ⟨h.os, h.tape, h.output, h.size, fun k hk hb => h.block k hk (fun e => hb (by simp only [Option.some.injEq] at e; simp [e]))⟩
section
variable {w w' : World} {ob N : Nat} {M : TK → Option Nat} {S : Snt}
open Classical in
theorem Sm.del (h : Sm w ob M S N) (t0 : TK) (h0 : t0.ok) (ty : TypeId) : ∃ w', (Builtin.delete_ #[56, 83] ty #[.map (some ob), tkV t0]).run Try.prog w = .ok (.tuple #[]) w' ∧ Hid (Off [ob] w w' ∧ Sm w' ob (fun t => if t = t0 then none else M t) (fun t n x => S t n x ∧ t ≠ t0) N) := by
  obtain ⟨D, hD, hat⟩ := h.out
  obtain ⟨w', hrun, hD', hg⟩ := hD.drop tk_law Try.underlying56 (tk_key t0 h0) ty
  have o := grown_off hg.grown
  refine ⟨w', hrun, o, ⟨_, hD', fun t ht => ?_⟩, fun t b ht hm => ?_, fun t ht hm n x hs => ?_, fun t t' b ht ht' hm hm' => ?_, fun t b ht hm => ?_⟩
  · by_cases e : t = t0
    · subst e
      rw [if_pos rfl, atKey_del_same]
    · rw [if_neg e, atKey_del_other (fun k => e (tk_inj ht h0 k)), hat t ht]
  · skip
    split at hm
    · cases hm
    · rename_i e
      obtain ⟨D2, h2, a2⟩ := h.inn t b ht hm
      exact ⟨D2, map_off h2 o (by simpa using h.ne t b ht hm), fun n x hn hx => (a2 n x hn hx).trans ⟨fun k => ⟨k, e⟩, fun k => k.1⟩⟩
  · skip
    split at hm
    · rename_i e; exact hs.2 e
    · exact h.non t ht hm n x hs.1
  · skip
    split at hm
    · cases hm
    · split at hm'
      · cases hm'
      · exact h.one t t' b ht ht' hm hm'
  · skip
    split at hm
    · cases hm
    · exact h.ne t b ht hm
open Classical in
/-- A new inner map, laid at a talk that has none. -/
theorem Sm.new_ (h : Sm w ob M S N) (hN : N < maxLen) (t0 : TK) (h0 : t0.ok) (hm0 : M t0 = none) (nb : Nat) (hb : w.heap[nb]? = some (.map #[] 0)) (hnb : ∀ t b, t.ok → M t = some b → b ≠ nb) (hne : nb ≠ ob) : ∃ w', (Instr.mapUpdate 56 (.map (some ob)) (tkV t0) (.map (some nb))).run Try.prog w = .ok () w' ∧ Hid (Off [ob] w w' ∧ Sm w' ob (fun t => if t = t0 then some nb else M t) S (N + 1)) := by
  obtain ⟨D, hD, hat⟩ := h.out
  obtain ⟨w', hrun, hD', hg⟩ := hD.update tk_law Try.underlying56 hN (tk_key t0 h0) (rdM_mk (some nb))
  have o := grown_off hg
  have hM := hD.isMap
  refine ⟨w', hrun, o, ⟨_, hD', fun t ht => ?_⟩, fun t b ht hm => ?_, fun t ht hm n x hs => ?_, fun t t' b ht ht' hm hm' => ?_, fun t b ht hm => ?_⟩
  · by_cases e : t = t0
    · subst e
      rw [if_pos rfl, atKey_put_same hM (tk_law.key (tk_key t h0))]
    · rw [if_neg e, atKey_put_other (fun k => e (tk_inj ht h0 k)), hat t ht]
  · skip
    split at hm
    · rename_i e
      subst e
      cases hm
      refine ⟨.map [], ⟨#[], 0, (o.block nb (Array.getElem?_eq_some_iff.1 hb).1 (by simpa using hne)).trans hb, ⟨by simp, Go.MapKept.stamped_empty 0, by simp⟩, by simp, rfl⟩, fun n x hn hx => ?_⟩
      exact ⟨fun k => by simp [has] at k, fun k => absurd k (h.non t ht hm0 n x)⟩
    · rename_i e
      obtain ⟨D2, h2, a2⟩ := h.inn t b ht hm
      exact ⟨D2, (map_off h2 o (by simpa using h.ne t b ht hm)).mono (by omega), a2⟩
  · skip
    split at hm
    · cases hm
    · exact h.non t ht hm n x hs
  · skip
    split at hm
    · split at hm'
      · rename_i e e'; rw [e, e']
      · cases hm; exact absurd rfl (hnb t' _ ht' hm')
    · split at hm'
      · cases hm'; exact absurd rfl (hnb t _ ht hm)
      · exact h.one t t' b ht ht' hm hm'
  · skip
    split at hm
    · cases hm; exact hne
    · exact h.ne t b ht hm
/-- A unit more, of a talk that has its map. -/
theorem Sm.add (h : Sm w ob M S N) (hN : N < maxLen) (t0 : TK) (h0 : t0.ok) (b0 : Nat) (hm0 : M t0 = some b0) (n0 : Nat) (x0 : ByteArray) (hn0 : n0 < 4294967296) (hx0 : x0.size ≤ maxLen) : ∃ w', (Instr.mapUpdate 95 (.map (some b0)) (itV n0 x0) (.agg #[])).run Try.prog w = .ok () w' ∧ Hid (Off [b0] w w' ∧ Sm w' ob M (fun t n x => S t n x ∨ (t = t0 ∧ n = n0 ∧ x = x0)) (N + 1)) := by
  obtain ⟨D, hD, hat⟩ := h.inn t0 b0 h0 hm0
  obtain ⟨w', hrun, hD', hg⟩ := hD.update it_law Try.underlying95 hN (it_key n0 x0 hn0 hx0) unitElem_mk
  have o := grown_off hg
  have hM := hD.isMap
  refine ⟨w', hrun, o, ?_, fun t b ht hm => ?_, fun t ht hm n x hs => ?_, h.one, h.ne⟩
  · obtain ⟨D1, h1, a1⟩ := h.out
    exact ⟨D1, (map_off h1 o (by have := h.ne t0 b0 h0 hm0; simp; omega)).mono (by omega), a1⟩
  · by_cases e : t = t0
    · subst e
      rw [hm0] at hm
      cases hm
      refine ⟨_, hD', fun n x hn hx => ?_⟩
      by_cases e2 : n = n0 ∧ x = x0
      · obtain ⟨rfl, rfl⟩ := e2
        exact ⟨fun _ => .inr ⟨rfl, rfl, rfl⟩, fun _ => has_put_same hM (it_law.key (it_key n x hn hx)) _⟩
      · rw [has_put_other (fun k => e2 (it_inj hn hn0 hx hx0 k))]
        exact (hat n x hn hx).trans ⟨fun k => .inl k, fun k => k.resolve_right (fun q => e2 q.2)⟩
    · obtain ⟨D2, h2, a2⟩ := h.inn t b ht hm
      exact ⟨D2, (map_off h2 o (by simp; intro q; subst q; exact e (h.one t t0 _ ht h0 hm hm0))).mono (by omega), fun n x hn hx => (a2 n x hn hx).trans ⟨fun k => .inl k, fun k => k.resolve_right (fun q => e q.1)⟩⟩
  · rcases hs with hs | ⟨rfl, _⟩
    · exact h.non t ht hm n x hs
    · rw [hm0] at hm; cases hm
end
theorem step_upd {P : Program} {ops : Array Oper} {o : Oper} {a : Act} {w w' : World} {K : Act → World → Prop} {Q : Exit → Act → World → Prop} {E : Prop}
    (t : TypeId) (m x v : Operand) (hop : o.op = .mapUpdate t m x v) (hw : Region.wanted o (yielded ops a.tmps) = true) (b : Option Nat) (key val : Value) (hm : a.eval m = .map b) (hx : a.eval x = key) (hv : a.eval v = val) (hrun : (Instr.mapUpdate t (.map b) key val).run P w = .ok () w') (hK : K (a.put o.dst undef) w') :
    if Region.wanted o (yielded ops a.tmps) = true then Oper.wp P o a w K Q else E := by
  rw [if_pos hw]
  unfold Oper.wp
  simp [execOp, hop, hm, hx, hv, hrun, Result.andThen]
  exact hK
end Go.Proofs.Ytaeamogagaaodaa
