/-
  No cell of these rows narrows 'for every input' (looked for: loops, veiled, ifaces, maps, wideKeys, modest, calm, conditions, laid).
  DERIVED. THE GIVEN ROWS OF THIS SEAT. 6 by the template 'for every input the law returns true; each argument reads behind the call as it read before'; 0 by the template 'total and deterministic' (their statements: YtboeefphjjgbpaaTotals.lean).
  GIVEN WITH THE SEED: the statements are not yours to turn. If you find one false, say at which input.
  Laid BY PROGRAM, IN A SANDBOX (cutbox-rows.mjs): the forced cells as the released guide's own fill.sh prints them over the translation a7d35d62d3da8018… (all of the seat's roots in one cut). By AI agents, Wed Nov 11 2026. No macro, syntax, notation, axiom, sorry.
-/
import Derived.Test.YtboeefphjjgbpaaChecked
import GoSem.Claim
import GoSem.ClaimJoined
import GoSem.ClaimMapViews
import Derived.JoinedTies
import Derived.KernelRfl
namespace Go.Proofs.Ytboeefphjjgbpaa
/- THE CELL 'sum', in the pinned program and in every row, IS THE sha256 OF THE DUMP (.gsa) THAT YtboeefphjjgbpaaProg.lean LOADS. Nothing in Lean hashes anything: it is a label: what it is worth is what the hold of that sum in a sandbox is worth. -/
noncomputable def Try.pinned : Pinned := { name := "ytboeefphjjgbpaa", sum := "a7d35d62d3da80187e601c977110c3faf99616f99dd3c7ef7ae716ea34224457", checked := Try.checked }
namespace Rows
def none {H : Type} : Left H := { results := [], args := [] }

/-- 'parapetlaw03.BurstLooks': WHATEVER THE INPUT: true; the input reads as it did. -/
def burstLooksSpec : ChangeSpec := { name := "burstLooks", fn := fun _ => fun
  | [d] => { results := [.lit (.bool true)], args := [d] }
  | _ => none }
def burstLooksRow : OpenClaim := { program := "ytboeefphjjgbpaa", sum := "a7d35d62d3da80187e601c977110c3faf99616f99dd3c7ef7ae716ea34224457", func := "parapet/parapetlaw03.BurstLooks", spec := "burstLooks", apart := false }
def BurstLooksSaid : Prop := burstLooksRow.holds Try.pinned (OpenSpec.ofChange burstLooksSpec)

/-- ITS FALSE NEIGHBOUR: 'it returns false'. Refute it at one input. -/
def burstLooksWrong : ChangeSpec := { name := "burstLooks", fn := fun _ => fun
  | [d] => { results := [.lit (.bool false)], args := [d] }
  | _ => none }
def BurstLooksWrongFalsely : Prop := burstLooksRow.holds Try.pinned (OpenSpec.ofChange burstLooksWrong)

/-- 'parapetlaw03.BurstMakes': WHATEVER THE INPUT: true; the input reads as it did. -/
def burstMakesSpec : ChangeSpec := { name := "burstMakes", fn := fun _ => fun
  | [d1, d2, d3] => { results := [.lit (.bool true)], args := [d1, d2, d3] }
  | _ => none }
def burstMakesRow : OpenClaim := { program := "ytboeefphjjgbpaa", sum := "a7d35d62d3da80187e601c977110c3faf99616f99dd3c7ef7ae716ea34224457", func := "parapet/parapetlaw03.BurstMakes", spec := "burstMakes", apart := false }
def BurstMakesSaid : Prop := burstMakesRow.holds Try.pinned (OpenSpec.ofChange burstMakesSpec)

/-- ITS FALSE NEIGHBOUR: 'it returns false'. Refute it at one input. -/
def burstMakesWrong : ChangeSpec := { name := "burstMakes", fn := fun _ => fun
  | [d1, d2, d3] => { results := [.lit (.bool false)], args := [d1, d2, d3] }
  | _ => none }
def BurstMakesWrongFalsely : Prop := burstMakesRow.holds Try.pinned (OpenSpec.ofChange burstMakesWrong)

/-- 'parapetlaw03.BurstShape': WHATEVER THE INPUT: true; the input reads as it did. -/
def burstShapeSpec : ChangeSpec := { name := "burstShape", fn := fun _ => fun
  | [d1, d2, d3] => { results := [.lit (.bool true)], args := [d1, d2, d3] }
  | _ => none }
def burstShapeRow : OpenClaim := { program := "ytboeefphjjgbpaa", sum := "a7d35d62d3da80187e601c977110c3faf99616f99dd3c7ef7ae716ea34224457", func := "parapet/parapetlaw03.BurstShape", spec := "burstShape", apart := false }
def BurstShapeSaid : Prop := burstShapeRow.holds Try.pinned (OpenSpec.ofChange burstShapeSpec)

/-- ITS FALSE NEIGHBOUR: 'it returns false'. Refute it at one input. -/
def burstShapeWrong : ChangeSpec := { name := "burstShape", fn := fun _ => fun
  | [d1, d2, d3] => { results := [.lit (.bool false)], args := [d1, d2, d3] }
  | _ => none }
def BurstShapeWrongFalsely : Prop := burstShapeRow.holds Try.pinned (OpenSpec.ofChange burstShapeWrong)

/-- 'parapetlaw03.BurstTurns': WHATEVER THE INPUT: true; the input reads as it did. -/
def burstTurnsSpec : ChangeSpec := { name := "burstTurns", fn := fun _ => fun
  | [d1, d2] => { results := [.lit (.bool true)], args := [d1, d2] }
  | _ => none }
def burstTurnsRow : OpenClaim := { program := "ytboeefphjjgbpaa", sum := "a7d35d62d3da80187e601c977110c3faf99616f99dd3c7ef7ae716ea34224457", func := "parapet/parapetlaw03.BurstTurns", spec := "burstTurns", apart := false }
def BurstTurnsSaid : Prop := burstTurnsRow.holds Try.pinned (OpenSpec.ofChange burstTurnsSpec)

/-- ITS FALSE NEIGHBOUR: 'it returns false'. Refute it at one input. -/
def burstTurnsWrong : ChangeSpec := { name := "burstTurns", fn := fun _ => fun
  | [d1, d2] => { results := [.lit (.bool false)], args := [d1, d2] }
  | _ => none }
def BurstTurnsWrongFalsely : Prop := burstTurnsRow.holds Try.pinned (OpenSpec.ofChange burstTurnsWrong)

/-- 'parapetlaw03.BurstOwn': WHATEVER THE INPUT: true; the input reads as it did. -/
def burstOwnSpec : ChangeSpec := { name := "burstOwn", fn := fun _ => fun
  | [d1, d2, d3] => { results := [.lit (.bool true)], args := [d1, d2, d3] }
  | _ => none }
def burstOwnRow : OpenClaim := { program := "ytboeefphjjgbpaa", sum := "a7d35d62d3da80187e601c977110c3faf99616f99dd3c7ef7ae716ea34224457", func := "parapet/parapetlaw03.BurstOwn", spec := "burstOwn", apart := false }
def BurstOwnSaid : Prop := burstOwnRow.holds Try.pinned (OpenSpec.ofChange burstOwnSpec)

/-- ITS FALSE NEIGHBOUR: 'it returns false'. Refute it at one input. -/
def burstOwnWrong : ChangeSpec := { name := "burstOwn", fn := fun _ => fun
  | [d1, d2, d3] => { results := [.lit (.bool false)], args := [d1, d2, d3] }
  | _ => none }
def BurstOwnWrongFalsely : Prop := burstOwnRow.holds Try.pinned (OpenSpec.ofChange burstOwnWrong)

/-- 'parapetlaw03.BurstSums': WHATEVER THE INPUT: true; the input reads as it did. -/
def burstSumsSpec : ChangeSpec := { name := "burstSums", fn := fun _ => fun
  | [d1, d2, d3] => { results := [.lit (.bool true)], args := [d1, d2, d3] }
  | _ => none }
def burstSumsRow : OpenClaim := { program := "ytboeefphjjgbpaa", sum := "a7d35d62d3da80187e601c977110c3faf99616f99dd3c7ef7ae716ea34224457", func := "parapet/parapetlaw03.BurstSums", spec := "burstSums", apart := false }
def BurstSumsSaid : Prop := burstSumsRow.holds Try.pinned (OpenSpec.ofChange burstSumsSpec)

/-- ITS FALSE NEIGHBOUR: 'it returns false'. Refute it at one input. -/
def burstSumsWrong : ChangeSpec := { name := "burstSums", fn := fun _ => fun
  | [d1, d2, d3] => { results := [.lit (.bool false)], args := [d1, d2, d3] }
  | _ => none }
def BurstSumsWrongFalsely : Prop := burstSumsRow.holds Try.pinned (OpenSpec.ofChange burstSumsWrong)

/- THE SECOND FORM. 'bulk': how many values and letters a reading holds, each counted each time it is reached (what is shared counts as often as it is met; a slice's spare places count too). A statement '..UptoSaid' is the law's where the arguments, and the package variables that the reading takes, are together of bulk at most 1048576: NARROWER than '..Said'. Prove '..Said' where nothing that the law and all that it calls make is longer than what came in: it says more and counts as full. Else prove '..UptoSaid'. A law counts once. -/
mutual
def uptoBulk {H : Type} : DataW H → Nat
  | .lit (.string bytes) => bytes.length + 1
  | .lit _ => 1
  | .nil => 1
  | .ptr d => uptoBulk d + 1
  | .slice elems spare => uptoBulkAll elems + uptoBulkAll spare + 1
  | .agg parts => uptoBulkAll parts + 1
  | .iface _ d => uptoBulk d + 1
  | .map entries => uptoBulkEntries entries + 1
  | .held _ => 1
def uptoBulkAll {H : Type} : List (DataW H) → Nat
  | [] => 0
  | d :: r => uptoBulk d + uptoBulkAll r
def uptoBulkEntries {H : Type} : List (Lit × DataW H) → Nat
  | [] => 0
  | x :: r => uptoBulkEntry x + uptoBulkEntries r
def uptoBulkEntry {H : Type} : Lit × DataW H → Nat
  | (.string bytes, d) => bytes.length + uptoBulk d + 1
  | (_, d) => uptoBulk d + 1
 end
def uptoSmall : (H : Type) → List (DataW H) → Bool := fun _ ds => decide (uptoBulkAll ds ≤ 1048576)
def OpenSpec.upto (s : _root_.Go.ChangeSpec) : _root_.Go.OpenSpec := { _root_.Go.OpenSpec.ofChange s with cond := some uptoSmall }

/-- 'parapetlaw03.BurstLooks', WHERE WHAT IT READS IS OF BULK AT MOST 1048576: true; the input reads as it did. -/
def burstLooksUptoRow : OpenClaim := { program := "ytboeefphjjgbpaa", sum := "a7d35d62d3da80187e601c977110c3faf99616f99dd3c7ef7ae716ea34224457", func := "parapet/parapetlaw03.BurstLooks", spec := "burstLooks", apart := false, narrowed := true }
def BurstLooksUptoSaid : Prop := burstLooksUptoRow.holds Try.pinned (OpenSpec.upto burstLooksSpec)

/-- 'parapetlaw03.BurstMakes', WHERE WHAT IT READS IS OF BULK AT MOST 1048576: true; the input reads as it did. -/
def burstMakesUptoRow : OpenClaim := { program := "ytboeefphjjgbpaa", sum := "a7d35d62d3da80187e601c977110c3faf99616f99dd3c7ef7ae716ea34224457", func := "parapet/parapetlaw03.BurstMakes", spec := "burstMakes", apart := false, narrowed := true }
def BurstMakesUptoSaid : Prop := burstMakesUptoRow.holds Try.pinned (OpenSpec.upto burstMakesSpec)

/-- 'parapetlaw03.BurstShape', WHERE WHAT IT READS IS OF BULK AT MOST 1048576: true; the input reads as it did. -/
def burstShapeUptoRow : OpenClaim := { program := "ytboeefphjjgbpaa", sum := "a7d35d62d3da80187e601c977110c3faf99616f99dd3c7ef7ae716ea34224457", func := "parapet/parapetlaw03.BurstShape", spec := "burstShape", apart := false, narrowed := true }
def BurstShapeUptoSaid : Prop := burstShapeUptoRow.holds Try.pinned (OpenSpec.upto burstShapeSpec)

/-- 'parapetlaw03.BurstTurns', WHERE WHAT IT READS IS OF BULK AT MOST 1048576: true; the input reads as it did. -/
def burstTurnsUptoRow : OpenClaim := { program := "ytboeefphjjgbpaa", sum := "a7d35d62d3da80187e601c977110c3faf99616f99dd3c7ef7ae716ea34224457", func := "parapet/parapetlaw03.BurstTurns", spec := "burstTurns", apart := false, narrowed := true }
def BurstTurnsUptoSaid : Prop := burstTurnsUptoRow.holds Try.pinned (OpenSpec.upto burstTurnsSpec)

/-- 'parapetlaw03.BurstOwn', WHERE WHAT IT READS IS OF BULK AT MOST 1048576: true; the input reads as it did. -/
def burstOwnUptoRow : OpenClaim := { program := "ytboeefphjjgbpaa", sum := "a7d35d62d3da80187e601c977110c3faf99616f99dd3c7ef7ae716ea34224457", func := "parapet/parapetlaw03.BurstOwn", spec := "burstOwn", apart := false, narrowed := true }
def BurstOwnUptoSaid : Prop := burstOwnUptoRow.holds Try.pinned (OpenSpec.upto burstOwnSpec)

/-- 'parapetlaw03.BurstSums', WHERE WHAT IT READS IS OF BULK AT MOST 1048576: true; the input reads as it did. -/
def burstSumsUptoRow : OpenClaim := { program := "ytboeefphjjgbpaa", sum := "a7d35d62d3da80187e601c977110c3faf99616f99dd3c7ef7ae716ea34224457", func := "parapet/parapetlaw03.BurstSums", spec := "burstSums", apart := false, narrowed := true }
def BurstSumsUptoSaid : Prop := burstSumsUptoRow.holds Try.pinned (OpenSpec.upto burstSumsSpec)

end Rows
end Go.Proofs.Ytboeefphjjgbpaa
