/- Layer 18: what was sent: a map of maps, both keyed by structs. -/
import Derived.Test.YtaeamogagaaodaaGh
import Derived.Maps.OwnSet
import Derived.DeepKeys5
namespace Go.Proofs.Ytaeamogagaaodaa
open Go.RowKit Go.Maps

/-- What one end sends in a session: connection, side, session. -/
structure TK where
  c : Int
  s : Int
  ss : Nat
def TK.ok (t : TK) : Prop := (Lit.int .i64 t.c).wf = true ∧ (Lit.int .i64 t.s).wf = true ∧ t.ss < 4294967296
def tkV (t : TK) : Value := .agg #[.int .i64 t.c, .int .i64 t.s, .int .u32 (t.ss : Nat)]
def tkL (t : TK) : Lit := .string (keyBytes [.int .i64 t.c, .int .i64 t.s, .int .u32 (t.ss : Nat)])
def itV (n : Nat) (x : ByteArray) : Value := .agg #[.int .u32 (n : Nat), .string x]
def itL (n : Nat) (x : ByteArray) : Lit := .string (keyBytes [.int .u32 (n : Nat), .string x.data.toList])
theorem wfu (c : Nat) (h : c < 4294967296) : (Lit.int .u32 (c : Nat)).wf = true := by
  have e1 : IntKind.u32.min = 0 := by decide
  have e2 : IntKind.u32.max = 4294967295 := by decide
  simp [Lit.wf, e1, e2]
  omega
theorem gh_laid : laidOutB Try.prog = true := by kernel_rfl
theorem gh_size : ∃ m, Try.prog.types.size = m + 3 := ⟨Try.prog.types.size - 3, by kernel_rfl⟩
theorem tk_law : Keyed Try.prog 83 := Keyed.of_law (deep_law_laid gh_laid (m := 3) (by omega) (of_decide_eq_true (by kernel_rfl)) (by kernel_rfl) (by rw [Try.underlying83]))
theorem it_law : Keyed Try.prog 98 := Keyed.of_law (deep_law_laid gh_laid (m := 3) (by omega) (of_decide_eq_true (by kernel_rfl)) (by kernel_rfl) (by rw [Try.underlying98]))
theorem tk_type : Try.prog.keyType 83 = true := by kernel_rfl
theorem it_type : Try.prog.keyType 98 = true := by kernel_rfl
theorem tk_cells : Try.prog.cellsOf 83 = 3 := by kernel_rfl
theorem it_cells : Try.prog.cellsOf 98 = 2 := by kernel_rfl
theorem ce_int : Try.prog.cellsOf 3 = 1 := by kernel_rfl
theorem ce_side : Try.prog.cellsOf 39 = 1 := by kernel_rfl
theorem ce_u32 : Try.prog.cellsOf 23 = 1 := by kernel_rfl
theorem ce_str : Try.prog.cellsOf 9 = 1 := by kernel_rfl
theorem tk_key (t : TK) (h : t.ok) : keyOf Try.prog 83 (tkV t) = some (tkL t) := by
  obtain ⟨m, hm⟩ := gh_size
  obtain ⟨h1, h2, h3⟩ := h
  have h3 := wfu _ h3
  unfold keyOf tkV tkL
  simp only [Try.underlying83, tk_type, hm]
  simp [Value.formed, Value.cells, Program.keyLits, Try.underlying83, Try.underlying3, Try.underlying39, Try.underlying23, tk_cells, ce_int, ce_side, ce_u32, h1, h2, h3]
theorem it_key (n : Nat) (x : ByteArray) (h : n < 4294967296) (hx : x.size ≤ maxLen) : keyOf Try.prog 98 (itV n x) = some (itL n x) := by
  obtain ⟨m, hm⟩ := gh_size
  have h := wfu _ h
  unfold keyOf itV itL
  simp only [Try.underlying98, it_type, hm]
  simp [Value.formed, Value.cells, Program.keyLits, Try.underlying98, Try.underlying9, Try.underlying23, it_cells, ce_str, ce_u32, h, hx]
theorem tk_inj {t t' : TK} (h : t.ok) (h' : t'.ok) (e : tkL t = tkL t') : t = t' := by
  have k := tk_key t h
  have k' := tk_key t' h'
  rw [← e] at k'
  have := tk_law.inj k k'
  obtain ⟨c, s, ss⟩ := t
  obtain ⟨c', s', ss'⟩ := t'
  simp [tkV] at this
  obtain ⟨rfl, rfl, h3⟩ := this
  have : ss = ss' := by omega
  rw [this]
theorem it_inj {n n' : Nat} {x x' : ByteArray} (h : n < 4294967296) (h' : n' < 4294967296) (hx : x.size ≤ maxLen) (hx' : x'.size ≤ maxLen) (e : itL n x = itL n' x') : n = n' ∧ x = x' := by
  have k := it_key n x h hx
  have k' := it_key n' x' h' hx'
  rw [← e] at k'
  have := it_law.inj k k'
  simp [itV] at this
  exact ⟨by omega, this.2⟩
/-- How an element of the outer map reads: the inner map's block. -/
def rdM : Value → Option (DataW Unit × List MemPlace)
  | .map none => some (.lit (.int .i64 (-1)), [])
  | .map (some b) => some (.lit (.int .i64 (b : Nat)), [])
  | _ => none
def dtm : Option Nat → DataW Unit
  | none => .lit (.int .i64 (-1))
  | some b => .lit (.int .i64 (b : Nat))
theorem rdM_mk (o : Option Nat) : rdM (.map o) = some (dtm o, []) := by cases o <;> rfl
theorem dtm_inj {o o' : Option Nat} (h : dtm o = dtm o') : o = o' := by
  cases o with
  | none => cases o' with
    | none => rfl
    | some y => simp [dtm] at h
  | some x => cases o' with
    | none => simp [dtm] at h
    | some y => simp [dtm] at h; rw [show x = y by omega]
theorem rdM_inv {v : Value} {o : Option Nat} {ps : List MemPlace} (h : rdM v = some (dtm o, ps)) : v = .map o := by
  unfold rdM at h
  split at h
  · simp only [Option.some.injEq, Prod.mk.injEq] at h
    rw [dtm_inj (o := none) (o' := o) h.1]
  · rename_i b
    simp only [Option.some.injEq, Prod.mk.injEq] at h
    rw [← dtm_inj (o := some b) (o' := o) h.1]
  · cases h
abbrev Snt := TK → Nat → ByteArray → Prop
/-- What was sent, in memory: the outer map ob, the inner ones by M. -/
structure Sm (w : World) (ob : Nat) (M : TK → Option Nat) (S : Snt) (N : Nat) : Prop where
  out : ∃ D, w.ownsMap Try.prog 83 rdM ob N D ∧ ∀ t, t.ok → D.atKey (tkL t) (dtm none) = dtm (M t)
  inn : ∀ t b, t.ok → M t = some b → ∃ D, w.ownsMap Try.prog 98 (unitElem (H := Unit)) b N D ∧ ∀ n x, n < 4294967296 → x.size ≤ maxLen → (has D (itL n x) = true ↔ S t n x)
  non : ∀ t, t.ok → M t = none → ∀ n x, ¬ S t n x
  one : ∀ t t' b, t.ok → t'.ok → M t = some b → M t' = some b → t = t'
  ne : ∀ t b, t.ok → M t = some b → b ≠ ob
theorem zero_inner (w : World) : (zeroValue 95).run Try.prog w = .ok (.map none) w := by kernel_rfl
theorem zero_unit (w : World) : (zeroValue 96).run Try.prog w = .ok (.agg #[]) w := by kernel_rfl
section
variable {w w' : World} {ob N : Nat} {M : TK → Option Nat} {S : Snt}
theorem Sm.look (h : Sm w ob M S N) (t : TK) (ht : t.ok) : (Instr.lookup 56 (.map (some ob)) (tkV t) false).run Try.prog w = .ok (.map (M t)) w := by
  obtain ⟨D, hD, hat⟩ := h.out
  obtain ⟨v, ps, hrun, hv⟩ := hD.lookup tk_law Try.underlying56 (zero_inner w) (rdM_mk none) (tk_key t ht)
  rw [hat t ht] at hv
  rw [hrun, rdM_inv hv]
open Classical in
theorem Sm.look2 (h : Sm w ob M S N) (t : TK) (ht : t.ok) (n : Nat) (x : ByteArray) (hn : n < 4294967296) (hx : x.size ≤ maxLen) : (Instr.lookup 95 (.map (M t)) (itV n x) true).run Try.prog w = .ok (.tuple #[.agg #[], .bool (decide (S t n x))]) w := by
  cases hm : M t with
  | none =>
    have := Maps.look_nil (w := w) true it_law Try.underlying95 (zero_unit w) (it_key n x hn hx)
    rw [decide_eq_false (h.non t ht hm n x)]
    exact this
  | some b =>
    obtain ⟨D, hD, hat⟩ := h.inn t b ht hm
    obtain ⟨v, ps, hrun, hv⟩ := hD.look_ok it_law Try.underlying95 (zero_unit w) unitElem_mk (it_key n x hn hx)
    obtain ⟨rfl, _⟩ := unitElem_inv hv
    rw [hrun]
    have e : has D (itL n x) = decide (S t n x) := by
      have := hat n x hn hx
      cases hh : has D (itL n x) with
      | true => rw [hh] at this; exact (decide_eq_true (this.1 rfl)).symm
      | false => rw [hh] at this; exact (decide_eq_false (fun k => by have := this.2 k; cases this)).symm
    rw [e]
theorem Sm.mono (h : Sm w ob M S N) {N' : Nat} (hN : N ≤ N') : Sm w ob M S N' := by
  refine ⟨?_, fun t b ht hm => ?_, h.non, h.one, h.ne⟩
  · obtain ⟨D, hD, hat⟩ := h.out
    exact ⟨D, hD.mono hN, hat⟩
  · obtain ⟨D, hD, hat⟩ := h.inn t b ht hm
    exact ⟨D, hD.mono hN, hat⟩
theorem map_off {k : TypeId} {R : Value → Option (DataW Unit × List MemPlace)} {b n : Nat} {D : DataW Unit} {l : List Nat} (h : w.ownsMap Try.prog k R b n D) (o : Off l w w') (hb : b ∉ l) : w'.ownsMap Try.prog k R b n D := by
  have hlt := h.lt
  obtain ⟨es, clock, hb', F, hs, hD⟩ := h
  exact ⟨es, clock, (o.block b hlt hb).trans hb', F, hs, hD⟩
theorem Sm.off {l : List Nat} (h : Sm w ob M S N) (o : Off l w w') (h1 : ob ∉ l) (h2 : ∀ t b, t.ok → M t = some b → b ∉ l) : Sm w' ob M S N := by
  refine ⟨?_, fun t b ht hm => ?_, h.non, h.one, h.ne⟩
  · obtain ⟨D, hD, hat⟩ := h.out
    exact ⟨D, map_off hD o h1, hat⟩
  · obtain ⟨D, hD, hat⟩ := h.inn t b ht hm
    exact ⟨D, map_off hD o (h2 t b ht hm), hat⟩
end
end Go.Proofs.Ytaeamogagaaodaa
