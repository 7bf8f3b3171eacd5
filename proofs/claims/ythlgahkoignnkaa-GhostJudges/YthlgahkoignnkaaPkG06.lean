/- Part 7 of the texts on which the proof rests: contracts of Go functions. -/
import Derived.Maps.OwnSet
import Derived.DeepKeys5
import Derived.Test.YthlgahkoignnkaaPkG03
namespace Go.Proofs.Ythlgahkoignnkaa
open Go.RowKit Go.Maps
structure TK where
  c : Int
  s : Int
  ss : Nat
def TK.ok (t : TK) : Prop := (Lit.int .i64 t.c).wf = true ∧ (Lit.int .i64 t.s).wf = true ∧ t.ss < 4294967296
def tkV (t : TK) : Value := .agg #[.int .i64 t.c, .int .i64 t.s, .int .u32 (t.ss : Nat)]
def tkL (t : TK) : Lit := .string (keyBytes [.int .i64 t.c, .int .i64 t.s, .int .u32 (t.ss : Nat)])
def itV (n : Nat) (x : ByteArray) : Value := .agg #[.int .u32 (n : Nat), .string x]
def itL (n : Nat) (x : ByteArray) : Lit := .string (keyBytes [.int .u32 (n : Nat), .string x.data.toList])
theorem wfu (c : Nat) (h : c < 4294967296) : (Lit.int .u32 (c : Nat)).wf = true := by
  have e1 : IntKind.u32.min = 0 := by decide
  have e2 : IntKind.u32.max = 4294967295 := by decide
  simp [Lit.wf, e1, e2]
  omega
theorem gh_laid : laidOutB Try.prog = true := by kernel_rfl
theorem gh_size : ∃ m, Try.prog.types.size = m + 3 := ⟨Try.prog.types.size - 3, by kernel_rfl⟩
theorem tk_law : Keyed Try.prog 83 := Keyed.of_law (deep_law_laid gh_laid (m := 3) (by omega) (of_decide_eq_true (by kernel_rfl)) (by kernel_rfl) (by rw [Try.underlying83]))
theorem it_law : Keyed Try.prog 98 := Keyed.of_law (deep_law_laid gh_laid (m := 3) (by omega) (of_decide_eq_true (by kernel_rfl)) (by kernel_rfl) (by rw [Try.underlying98]))
theorem tk_type : Try.prog.keyType 83 = true := by kernel_rfl
theorem it_type : Try.prog.keyType 98 = true := by kernel_rfl
theorem tk_cells : Try.prog.cellsOf 83 = 3 := by kernel_rfl
theorem it_cells : Try.prog.cellsOf 98 = 2 := by kernel_rfl
theorem ce_int : Try.prog.cellsOf 3 = 1 := by kernel_rfl
theorem ce_side : Try.prog.cellsOf 39 = 1 := by kernel_rfl
theorem ce_u32 : Try.prog.cellsOf 23 = 1 := by kernel_rfl
theorem ce_str : Try.prog.cellsOf 9 = 1 := by kernel_rfl
theorem tk_key (t : TK) (h : t.ok) : keyOf Try.prog 83 (tkV t) = some (tkL t) := by
  obtain ⟨m, hm⟩ := gh_size
  obtain ⟨h1, h2, h3⟩ := h
  have h3 := wfu _ h3
  unfold keyOf tkV tkL
  simp only [Try.underlying83, tk_type, hm]
  simp [Value.formed, Value.cells, Program.keyLits, Try.underlying83, Try.underlying3, Try.underlying39, Try.underlying23, tk_cells, ce_int, ce_side, ce_u32, h1, h2, h3]
theorem it_key (n : Nat) (x : ByteArray) (h : n < 4294967296) (hx : x.size ≤ maxLen) : keyOf Try.prog 98 (itV n x) = some (itL n x) := by
  obtain ⟨m, hm⟩ := gh_size
  have h := wfu _ h
  unfold keyOf itV itL
  simp only [Try.underlying98, it_type, hm]
  simp [Value.formed, Value.cells, Program.keyLits, Try.underlying98, Try.underlying9, Try.underlying23, it_cells, ce_str, ce_u32, h, hx]
theorem tk_inj {t t' : TK} (h : t.ok) (h' : t'.ok) (e : tkL t = tkL t') : t = t' := by
  have k := tk_key t h
  have k' := tk_key t' h'
  rw [← e] at k'
  have := tk_law.inj k k'
  obtain ⟨c, s, ss⟩ := t
  obtain ⟨c', s', ss'⟩ := t'
  simp [tkV] at this
  obtain ⟨rfl, rfl, h3⟩ := this
  have : ss = ss' := by omega
  rw [this]
theorem it_inj {n n' : Nat} {x x' : ByteArray} (h : n < 4294967296) (h' : n' < 4294967296) (hx : x.size ≤ maxLen) (hx' : x'.size ≤ maxLen) (e : itL n x = itL n' x') : n = n' ∧ x = x' := by
  have k := it_key n x h hx
  have k' := it_key n' x' h' hx'
  rw [← e] at k'
  have := it_law.inj k k'
  simp [itV] at this
  exact ⟨by omega, this.2⟩
def rdM : Value → Option (DataW Unit × List MemPlace)
  | .map none => some (.lit (.int .i64 (-1)), [])
  | .map (some b) => some (.lit (.int .i64 (b : Nat)), [])
  | _ => none
def dtm : Option Nat → DataW Unit
  | none => .lit (.int .i64 (-1))
  | some b => .lit (.int .i64 (b : Nat))
theorem rdM_mk (o : Option Nat) : rdM (.map o) = some (dtm o, []) := by cases o <;> rfl
theorem dtm_inj {o o' : Option Nat} (h : dtm o = dtm o') : o = o' := by
  cases o with
  | none => cases o' with
    | none => rfl
    | some y => simp [dtm] at h
  | some x => cases o' with
    | none => simp [dtm] at h
    | some y => simp [dtm] at h; rw [show x = y by omega]
theorem rdM_inv {v : Value} {o : Option Nat} {ps : List MemPlace} (h : rdM v = some (dtm o, ps)) : v = .map o := by
  unfold rdM at h
  split at h
  · simp only [Option.some.injEq, Prod.mk.injEq] at h
    rw [dtm_inj (o := none) (o' := o) h.1]
  · rename_i b
    simp only [Option.some.injEq, Prod.mk.injEq] at h
    rw [← dtm_inj (o := some b) (o' := o) h.1]
  · cases h
abbrev Snt := TK → Nat → ByteArray → Prop
structure Sm (w : World) (ob : Nat) (M : TK → Option Nat) (S : Snt) (N : Nat) : Prop where
  out : ∃ D, w.ownsMap Try.prog 83 rdM ob N D ∧ ∀ t, t.ok → D.atKey (tkL t) (dtm none) = dtm (M t)
  inn : ∀ t b, t.ok → M t = some b → ∃ D, w.ownsMap Try.prog 98 (unitElem (H := Unit)) b N D ∧ ∀ n x, n < 4294967296 → x.size ≤ maxLen → (has D (itL n x) = true ↔ S t n x)
  non : ∀ t, t.ok → M t = none → ∀ n x, ¬ S t n x
  one : ∀ t t' b, t.ok → t'.ok → M t = some b → M t' = some b → t = t'
  ne : ∀ t b, t.ok → M t = some b → b ≠ ob
theorem zero_inner (w : World) : (zeroValue 95).run Try.prog w = .ok (.map none) w := by kernel_rfl
theorem zero_unit (w : World) : (zeroValue 96).run Try.prog w = .ok (.agg #[]) w := by kernel_rfl
section
variable {w w' : World} {ob N : Nat} {M : TK → Option Nat} {S : Snt}
theorem Sm.look (h : Sm w ob M S N) (t : TK) (ht : t.ok) : (Instr.lookup 56 (.map (some ob)) (tkV t) false).run Try.prog w = .ok (.map (M t)) w := by
  obtain ⟨D, hD, hat⟩ := h.out
  obtain ⟨v, ps, hrun, hv⟩ := hD.lookup tk_law Try.underlying56 (zero_inner w) (rdM_mk none) (tk_key t ht)
  rw [hat t ht] at hv
  rw [hrun, rdM_inv hv]
open Classical in
theorem Sm.look2 (h : Sm w ob M S N) (t : TK) (ht : t.ok) (n : Nat) (x : ByteArray) (hn : n < 4294967296) (hx : x.size ≤ maxLen) : (Instr.lookup 95 (.map (M t)) (itV n x) true).run Try.prog w = .ok (.tuple #[.agg #[], .bool (decide (S t n x))]) w := by
  cases hm : M t with
  | none =>
    have := Maps.look_nil (w := w) true it_law Try.underlying95 (zero_unit w) (it_key n x hn hx)
    rw [decide_eq_false (h.non t ht hm n x)]
    exact this
  | some b =>
    obtain ⟨D, hD, hat⟩ := h.inn t b ht hm
    obtain ⟨v, ps, hrun, hv⟩ := hD.look_ok it_law Try.underlying95 (zero_unit w) unitElem_mk (it_key n x hn hx)
    obtain ⟨rfl, _⟩ := unitElem_inv hv
    rw [hrun]
    have e : has D (itL n x) = decide (S t n x) := by
      have := hat n x hn hx
      cases hh : has D (itL n x) with
      | true => rw [hh] at this; exact (decide_eq_true (this.1 rfl)).symm
      | false => rw [hh] at this; exact (decide_eq_false (fun k => by have := this.2 k; cases this)).symm
    rw [e]
theorem Sm.mono (h : Sm w ob M S N) {N' : Nat} (hN : N ≤ N') : Sm w ob M S N' := by
  refine ⟨?_, fun t b ht hm => ?_, h.non, h.one, h.ne⟩
  · obtain ⟨D, hD, hat⟩ := h.out
    exact ⟨D, hD.mono hN, hat⟩
  · obtain ⟨D, hD, hat⟩ := h.inn t b ht hm
    exact ⟨D, hD.mono hN, hat⟩
theorem map_off {k : TypeId} {R : Value → Option (DataW Unit × List MemPlace)} {b n : Nat} {D : DataW Unit} {l : List Nat} (h : w.ownsMap Try.prog k R b n D) (o : Off l w w') (hb : b ∉ l) : w'.ownsMap Try.prog k R b n D := by
  have hlt := h.lt
  obtain ⟨es, clock, hb', F, hs, hD⟩ := h
  exact ⟨es, clock, (o.block b hlt hb).trans hb', F, hs, hD⟩
theorem Sm.off {l : List Nat} (h : Sm w ob M S N) (o : Off l w w') (h1 : ob ∉ l) (h2 : ∀ t b, t.ok → M t = some b → b ∉ l) : Sm w' ob M S N := by
  refine ⟨?_, fun t b ht hm => ?_, h.non, h.one, h.ne⟩
  · obtain ⟨D, hD, hat⟩ := h.out
    exact ⟨D, map_off hD o h1, hat⟩
  · obtain ⟨D, hD, hat⟩ := h.inn t b ht hm
    exact ⟨D, map_off hD o (h2 t b ht hm), hat⟩
end
end Go.Proofs.Ythlgahkoignnkaa
namespace Go.Proofs.Ythlgahkoignnkaa
open Go.RowKit Go.Maps
theorem grown_off {w w' : World} {r : Nat} (h : w.grownBy w' (some r)) : Off [r] w w' := ⟨h.os, h.tape, h.output, h.size, fun k hk hb => h.block k hk (fun e => hb (by simp only [Option.some.injEq] at e; simp [e]))⟩
section
variable {w w' : World} {ob N : Nat} {M : TK → Option Nat} {S : Snt}
open Classical in
theorem Sm.del (h : Sm w ob M S N) (t0 : TK) (h0 : t0.ok) (ty : TypeId) : ∃ w', (Builtin.delete_ #[56, 83] ty #[.map (some ob), tkV t0]).run Try.prog w = .ok (.tuple #[]) w' ∧ Hid (Off [ob] w w' ∧ Sm w' ob (fun t => if t = t0 then none else M t) (fun t n x => S t n x ∧ t ≠ t0) N) := by
  obtain ⟨D, hD, hat⟩ := h.out
  obtain ⟨w', hrun, hD', hg⟩ := hD.drop tk_law Try.underlying56 (tk_key t0 h0) ty
  have o := grown_off hg.grown
  refine ⟨w', hrun, o, ⟨_, hD', fun t ht => ?_⟩, fun t b ht hm => ?_, fun t ht hm n x hs => ?_, fun t t' b ht ht' hm hm' => ?_, fun t b ht hm => ?_⟩
  · by_cases e : t = t0
    · subst e
      rw [if_pos rfl, atKey_del_same]
    · rw [if_neg e, atKey_del_other (fun k => e (tk_inj ht h0 k)), hat t ht]
  · skip
    split at hm
    · cases hm
    · rename_i e
      obtain ⟨D2, h2, a2⟩ := h.inn t b ht hm
      exact ⟨D2, map_off h2 o (by simpa using h.ne t b ht hm), fun n x hn hx => (a2 n x hn hx).trans ⟨fun k => ⟨k, e⟩, fun k => k.1⟩⟩
  · skip
    split at hm
    · rename_i e; exact hs.2 e
    · exact h.non t ht hm n x hs.1
  · skip
    split at hm
    · cases hm
    · split at hm'
      · cases hm'
      · exact h.one t t' b ht ht' hm hm'
  · skip
    split at hm
    · cases hm
    · exact h.ne t b ht hm
open Classical in
theorem Sm.new_ (h : Sm w ob M S N) (hN : N < maxLen) (t0 : TK) (h0 : t0.ok) (hm0 : M t0 = none) (nb : Nat) (hb : w.heap[nb]? = some (.map #[] 0)) (hnb : ∀ t b, t.ok → M t = some b → b ≠ nb) (hne : nb ≠ ob) : ∃ w', (Instr.mapUpdate 56 (.map (some ob)) (tkV t0) (.map (some nb))).run Try.prog w = .ok () w' ∧ Hid (Off [ob] w w' ∧ Sm w' ob (fun t => if t = t0 then some nb else M t) S (N + 1)) := by
  obtain ⟨D, hD, hat⟩ := h.out
  obtain ⟨w', hrun, hD', hg⟩ := hD.update tk_law Try.underlying56 hN (tk_key t0 h0) (rdM_mk (some nb))
  have o := grown_off hg
  have hM := hD.isMap
  refine ⟨w', hrun, o, ⟨_, hD', fun t ht => ?_⟩, fun t b ht hm => ?_, fun t ht hm n x hs => ?_, fun t t' b ht ht' hm hm' => ?_, fun t b ht hm => ?_⟩
  · by_cases e : t = t0
    · subst e
      rw [if_pos rfl, atKey_put_same hM (tk_law.key (tk_key t h0))]
    · rw [if_neg e, atKey_put_other (fun k => e (tk_inj ht h0 k)), hat t ht]
  · skip
    split at hm
    · rename_i e
      subst e
      cases hm
      refine ⟨.map [], ⟨#[], 0, (o.block nb (Array.getElem?_eq_some_iff.1 hb).1 (by simpa using hne)).trans hb, ⟨by simp, Go.MapKept.stamped_empty 0, by simp⟩, by simp, rfl⟩, fun n x hn hx => ?_⟩
      exact ⟨fun k => by simp [has] at k, fun k => absurd k (h.non t ht hm0 n x)⟩
    · rename_i e
      obtain ⟨D2, h2, a2⟩ := h.inn t b ht hm
      exact ⟨D2, (map_off h2 o (by simpa using h.ne t b ht hm)).mono (by omega), a2⟩
  · skip
    split at hm
    · cases hm
    · exact h.non t ht hm n x hs
  · skip
    split at hm
    · split at hm'
      · rename_i e e'; rw [e, e']
      · cases hm; exact absurd rfl (hnb t' _ ht' hm')
    · split at hm'
      · cases hm'; exact absurd rfl (hnb t _ ht hm)
      · exact h.one t t' b ht ht' hm hm'
  · skip
    split at hm
    · cases hm; exact hne
    · exact h.ne t b ht hm
theorem Sm.add (h : Sm w ob M S N) (hN : N < maxLen) (t0 : TK) (h0 : t0.ok) (b0 : Nat) (hm0 : M t0 = some b0) (n0 : Nat) (x0 : ByteArray) (hn0 : n0 < 4294967296) (hx0 : x0.size ≤ maxLen) : ∃ w', (Instr.mapUpdate 95 (.map (some b0)) (itV n0 x0) (.agg #[])).run Try.prog w = .ok () w' ∧ Hid (Off [b0] w w' ∧ Sm w' ob M (fun t n x => S t n x ∨ (t = t0 ∧ n = n0 ∧ x = x0)) (N + 1)) := by
  obtain ⟨D, hD, hat⟩ := h.inn t0 b0 h0 hm0
  obtain ⟨w', hrun, hD', hg⟩ := hD.update it_law Try.underlying95 hN (it_key n0 x0 hn0 hx0) unitElem_mk
  have o := grown_off hg
  have hM := hD.isMap
  refine ⟨w', hrun, o, ?_, fun t b ht hm => ?_, fun t ht hm n x hs => ?_, h.one, h.ne⟩
  · obtain ⟨D1, h1, a1⟩ := h.out
    exact ⟨D1, (map_off h1 o (by have := h.ne t0 b0 h0 hm0; simp; omega)).mono (by omega), a1⟩
  · by_cases e : t = t0
    · subst e
      rw [hm0] at hm
      cases hm
      refine ⟨_, hD', fun n x hn hx => ?_⟩
      by_cases e2 : n = n0 ∧ x = x0
      · obtain ⟨rfl, rfl⟩ := e2
        exact ⟨fun _ => .inr ⟨rfl, rfl, rfl⟩, fun _ => has_put_same hM (it_law.key (it_key n x hn hx)) _⟩
      · rw [has_put_other (fun k => e2 (it_inj hn hn0 hx hx0 k))]
        exact (hat n x hn hx).trans ⟨fun k => .inl k, fun k => k.resolve_right (fun q => e2 q.2)⟩
    · obtain ⟨D2, h2, a2⟩ := h.inn t b ht hm
      exact ⟨D2, (map_off h2 o (by simp; intro q; subst q; exact e (h.one t t0 _ ht h0 hm hm0))).mono (by omega), fun n x hn hx => (a2 n x hn hx).trans ⟨fun k => .inl k, fun k => k.resolve_right (fun q => e q.1)⟩⟩
  · rcases hs with hs | ⟨rfl, _⟩
    · exact h.non t ht hm n x hs
    · rw [hm0] at hm; cases hm
end
theorem step_upd {P : Program} {ops : Array Oper} {o : Oper} {a : Act} {w w' : World} {K : Act → World → Prop} {Q : Exit → Act → World → Prop} {E : Prop}
    (t : TypeId) (m x v : Operand) (hop : o.op = .mapUpdate t m x v) (hw : Region.wanted o (yielded ops a.tmps) = true) (b : Option Nat) (key val : Value) (hm : a.eval m = .map b) (hx : a.eval x = key) (hv : a.eval v = val) (hrun : (Instr.mapUpdate t (.map b) key val).run P w = .ok () w') (hK : K (a.put o.dst undef) w') :
    if Region.wanted o (yielded ops a.tmps) = true then Oper.wp P o a w K Q else E := by
  rw [if_pos hw]
  unfold Oper.wp
  simp [execOp, hop, hm, hx, hv, hrun, Result.andThen]
  exact hK
end Go.Proofs.Ythlgahkoignnkaa
