/- Layer 21: what the listed variables hold. -/
import Derived.Test.YtbhbjdmdabkomaaDoorTq1
import Derived.Test.YtbhbjdmdabkomaaDoorRows
import Derived.Lib.LaidTab
import Derived.Stop.LaidErr
import Derived.MakeChecks
import Derived.OpenShut
namespace Go.Proofs.YtbhbjdmdabkomaaDoor
set_option maxRecDepth 100000
open Go.RowKit Go.ChangeShapes
set_option maxRecDepth 100000
theorem gPwT : Tryd.prog.globalNamed "internal/strconv.uint64pow10" = some 4 := by kernel_rfl
/-- An array of strings that reads as a table. -/
theorem cells_of_strs {H : Type} {enc : TypeId × Value → H} {P : Program} {w : World} {base : Nat} {sp : Nat → Bool} {held : Bool} {fuel : Nat} {t e : TypeId} {n : Nat} {cs : List Value} {zs : List (List UInt8)} {p : List MemPlace}
    (ht : P.underlying t = some (.array n e)) (he : P.underlying e = some .string) (hce : P.cellsOf e = 1) (hct : P.cellsOf t = n)
    (h : DataW.trod enc P w base sp held fuel t cs = some (.agg (zs.map fun z => .lit (.string z)), p)) : cs = zs.map fun z => Value.string (tx z) := by
  obtain ⟨xs, m, _, hx, hl, hxl, hel⟩ := DataW.trod_array ht h
  rw [hct] at hl
  rw [hce] at hel
  have hxs : xs.map (·.1) = zs.map fun z => (DataW.lit (.string z) : DataW H) := by
    have := congrArg Prod.fst hx
    simpa using this.symm
  have hzl : zs.length = n := by
    have := congrArg List.length hxs
    simp at this
    omega
  apply List.ext_getElem?
  intro i
  by_cases hi : i < n
  · have h1 := hel i hi
    rw [Nat.mul_one] at h1
    obtain ⟨b, hb⟩ : ∃ b, xs[i]? = some b := ⟨_, List.getElem?_eq_getElem (by omega)⟩
    rw [hb] at h1
    obtain ⟨s, hc, rfl, _⟩ := DataW.trod_string he h1
    have h2 : (xs.map (·.1))[i]? = some (DataW.lit (.string s.data.toList) : DataW H) := by simp [hb]
    rw [hxs] at h2
    simp only [List.getElem?_map, Option.map_eq_some_iff, DataW.lit.injEq, Lit.string.injEq] at h2
    obtain ⟨z', hz', e⟩ := h2
    have h3 : cs[i]? = some (.string s) := by
      have := congrArg (·[0]?) hc
      simpa [List.getElem?_take, List.getElem?_drop] using this
    rw [h3, List.getElem?_map, hz', e]
    simp [tx]
  · rw [List.getElem?_eq_none (by omega), List.getElem?_eq_none (by simp; omega)]
/-- A table of texts at the head of what is listed. -/
theorem var_of_strs {nm : String} {g : Nat} {t : TypeId} {n : Nat} {zs : List (List UInt8)} {rest : List (String × DataW Unit)} {W : World} (hg : Tryd.prog.globalNamed nm = some g) (ht : (Tryd.prog.globals[g]?).map (·.type) = some t) (hu : Tryd.prog.underlying t = some (.array n 9)) (hc : Tryd.prog.cellsOf t = n)
    (h : laidMet Tryd.prog ((nm, .agg (zs.map fun z => .lit (.string z))) :: rest) W) : W.var? Tryd.prog nm = some (zs.map fun z => Value.string (tx z)).toArray := by
  obtain ⟨ps, ⟨g', t', cs, fuel, p, q, hg', ht', hvar, hd, _, _⟩, _⟩ := h
  obtain rfl := Option.some.inj (hg.symm.trans hg')
  obtain rfl := Option.some.inj (ht.symm.trans ht')
  rw [hvar, ← cells_of_strs (zs := zs) hu Tryd.underlying9 (by kernel_rfl) hc hd]
theorem lt_of_laid {W : World} (h0 : laidMetH Tryd.prog Rows.traceFactsRow.laid W) : Lt W := by
  have h : laidMet Tryd.prog Rows.traceFactsRow.laid W := by
    rw [← MakeChecks.laidMetH_plain _ _ _ (by kernel_rfl)]
    exact h0
  have e2 : (Rows.laid_internal_strconv_uint64pow10 : DataW Unit) = Lib.tabData .u64 Lib.pow10Tab := by kernel_rfl
  have e4 : (Rows.laid_parapet_trace_stateWords : DataW Unit) = .agg (sws.map fun z => .lit (.string z)) := by kernel_rfl
  have e5 : (Rows.laid_parapet_trace_factWords : DataW Unit) = .agg (fws.map fun z => .lit (.string z)) := by kernel_rfl
  have t2 : laidMet Tryd.prog (("internal/strconv.uint64pow10", Lib.tabData .u64 Lib.pow10Tab) :: [("parapet/trace.stateWords", Rows.laid_parapet_trace_stateWords), ("parapet/trace.factWords", Rows.laid_parapet_trace_factWords)]) W := by
    rw [← e2]
    exact h.tail.tail
  have t3 : laidMet Tryd.prog (("parapet/trace.stateWords", .agg (sws.map fun z => .lit (.string z))) :: [("parapet/trace.factWords", Rows.laid_parapet_trace_factWords)]) W := by
    rw [← e4]
    exact h.tail.tail.tail
  have t4 : laidMet Tryd.prog (("parapet/trace.factWords", .agg (fws.map fun z => .lit (.string z))) :: []) W := by
    rw [← e5]
    exact h.tail.tail.tail.tail
  exact ⟨Lib.tabIs_of_head gPwT (by kernel_rfl) Tryd.underlying196 Tryd.underlying181 (by kernel_rfl) (by kernel_rfl) t2, var_of_strs gSw (by kernel_rfl) Tryd.underlying168 (by kernel_rfl) t3, var_of_strs gFw (by kernel_rfl) Tryd.underlying95 (by kernel_rfl) t4⟩
theorem lr_of_laid {W : World} (h0 : laidMetH Tryd.prog Rows.traceRowsRow.laid W) : Lt W ∧ Lk W := by
  have h : laidMet Tryd.prog Rows.traceRowsRow.laid W := by
    rw [← MakeChecks.laidMetH_plain _ _ _ (by kernel_rfl)]
    exact h0
  have e2 : (Rows.laid_internal_strconv_uint64pow10 : DataW Unit) = Lib.tabData .u64 Lib.pow10Tab := by kernel_rfl
  have e3 : (Rows.laid_parapet_script_kindWords : DataW Unit) = .agg (kws.map fun z => .lit (.string z)) := by kernel_rfl
  have e4 : (Rows.laid_parapet_trace_stateWords : DataW Unit) = .agg (sws.map fun z => .lit (.string z)) := by kernel_rfl
  have e5 : (Rows.laid_parapet_trace_factWords : DataW Unit) = .agg (fws.map fun z => .lit (.string z)) := by kernel_rfl
  have t2 : laidMet Tryd.prog (("internal/strconv.uint64pow10", Lib.tabData .u64 Lib.pow10Tab) :: [("parapet/script.kindWords", Rows.laid_parapet_script_kindWords), ("parapet/trace.stateWords", Rows.laid_parapet_trace_stateWords), ("parapet/trace.factWords", Rows.laid_parapet_trace_factWords)]) W := by
    rw [← e2]
    exact h.tail.tail
  have t2b : laidMet Tryd.prog (("parapet/script.kindWords", .agg (kws.map fun z => .lit (.string z))) :: [("parapet/trace.stateWords", Rows.laid_parapet_trace_stateWords), ("parapet/trace.factWords", Rows.laid_parapet_trace_factWords)]) W := by
    rw [← e3]
    exact h.tail.tail.tail
  have t3 : laidMet Tryd.prog (("parapet/trace.stateWords", .agg (sws.map fun z => .lit (.string z))) :: [("parapet/trace.factWords", Rows.laid_parapet_trace_factWords)]) W := by
    rw [← e4]
    exact h.tail.tail.tail.tail
  have t4 : laidMet Tryd.prog (("parapet/trace.factWords", .agg (fws.map fun z => .lit (.string z))) :: []) W := by
    rw [← e5]
    exact h.tail.tail.tail.tail.tail
  have pw := Lib.tabIs_of_head gPwT (by kernel_rfl) Tryd.underlying196 Tryd.underlying181 (by kernel_rfl) (by kernel_rfl) t2
  exact ⟨⟨pw, var_of_strs gSw (by kernel_rfl) Tryd.underlying168 (by kernel_rfl) t3, var_of_strs gFw (by kernel_rfl) Tryd.underlying95 (by kernel_rfl) t4⟩, ⟨pw, var_of_strs gKw (by kernel_rfl) Tryd.underlying95 (by kernel_rfl) t2b⟩⟩
end Go.Proofs.YtbhbjdmdabkomaaDoor
