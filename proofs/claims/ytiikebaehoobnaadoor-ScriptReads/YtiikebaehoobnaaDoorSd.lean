/- Layer 20: the document's Param. -/
import Derived.Test.YtiikebaehoobnaaDoorSc
namespace Go.Proofs.YtiikebaehoobnaaDoor
set_option maxRecDepth 100000
open Go.RowKit Go.Maps
set_option maxRecDepth 100000
theorem step_callS {P : Program} {ops : Array Oper} {o : Oper} {a : Act} {w : World} {K : Act → World → Prop} {Q : Exit → Act → World → Prop} {E : Prop} {R : Value → World → Prop}
    (f : FuncId) (ts : Array Operand) (ty : Array TypeId) (_ : o.op = .call { callee := .value (.func f), args := ts, argTypes := ty }) (hw : Region.wanted o (yielded ops a.tmps) = true) (args : Array Value) (hrun : (execOp a.eval o).run P w = .ok (.enter f args) w) (hc : Calls P f args w fun e w' => ∃ v, e = .returned v ∧ R v w') (hK : ∀ v w', R v w' → K (a.put o.dst v) w') :
    if Region.wanted o (yielded ops a.tmps) = true then Oper.wp P o a w K Q else E := by
  rw [if_pos hw]
  unfold Oper.wp
  rw [hrun]
  refine hc.mono ?_
  rintro e w'' ⟨v, rfl, hr⟩
  exact hK _ _ hr
theorem belTS {W wx w' : World} (b : Below wx.heap.size wx w') (h : Below W.heap.size W wx) : Below W.heap.size W w' := h.trans (b.mono h.size)
/-- A piece of a text that is short. -/
theorem sz_app (a b : ByteArray) : (a ++ b).size = a.size + b.size := by
  show (a ++ b).data.size = a.data.size + b.data.size
  rw [ByteArray.data_append]
  simp
/-- Two texts, one behind the other. -/
theorem cat_run (a b : ByteArray) (h : a.size + b.size ≤ 9223372036854775807) : ∀ w, (binOp .add 9 (.string a) (.string b)).run Tryd.prog w = .ok (.string (a ++ b)) w := fun w => by
  have h' : ¬ 9223372036854775807 < a.size + b.size := by omega
  go_simp
end Go.Proofs.YtiikebaehoobnaaDoor
