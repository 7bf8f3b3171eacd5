/- An operation behind a guard. -/
import Derived.Test.YtohhidnockmkaaaRowo
namespace Go.Proofs.Ytohhidnockmkaaa
open Go.RowKit

/-- An operation whose guard lets it: as one without. -/
theorem wpList_let {P : Program} {ops : Array Oper} {Q : Exit → Act → World → Prop} {a : Act} {w : World} {rest : List Oper} {o : Oper} (hw : Region.wanted o (yielded ops a.tmps) = true) (h : wpList P ops Q ({ o with guard := none } :: rest) a w) : wpList P ops Q (o :: rest) a w := by
  obtain ⟨op, ty, dst, pos, after, guard⟩ := o
  unfold wpList at h ⊢
  rw [if_pos hw]
  rw [if_pos (by simp [Region.wanted])] at h
  exact h

end Go.Proofs.Ytohhidnockmkaaa
