/- Last and Records. -/
import Derived.Test.YtmleiemlfogffaaGreatDn2
namespace Go.Proofs.YtmleiemlfogffaaGreat
set_option maxRecDepth 100000
open Go.RowKit Go.Maps

def zR : Obj := .cells #[.int .i64 0, .int .i64 0, .int .u32 0, .int .u32 0] 140
theorem cells4 {w : World} {c : Nat} {a b d e : Value} {t : TypeId} (h : w.heap[c]? = some (.cells #[a, b, d, e] t (0, 0))) :
    w.cell? ⟨c, 0, none⟩ = some a ∧ w.cell? ⟨c, 1, none⟩ = some b ∧ w.cell? ⟨c, 2, none⟩ = some d ∧ w.cell? ⟨c, 3, none⟩ = some e ∧ ∀ n, w.frozen? ⟨c, n, none⟩ = false :=
  ⟨cell_of_row w c 0 _ _ _ h, cell_of_row w c 1 _ _ _ h, cell_of_row w c 2 _ _ _ h, cell_of_row w c 3 _ _ _ h, fun n => frozen_of_row w c n _ _ h⟩
theorem below4 {B g : Nat} {w0 w : World} (h : Below B w0 w) (hg : B ≤ g) (a b c d : Value) : Below B w0 ((((w.setCell ⟨g, 0, none⟩ a).setCell ⟨g, 1, none⟩ b).setCell ⟨g, 2, none⟩ c).setCell ⟨g, 3, none⟩ d) :=
  (((h.setCell hg a).setCell hg b).setCell hg c).setCell hg d
