/-
  No cell of these rows narrows 'for every input' (looked for: loops, veiled, ifaces, maps, wideKeys, modest, calm, conditions, laid).
  DERIVED. THE GIVEN ROWS OF THIS SEAT. 5 by the template 'for every input the law returns true; each argument reads behind the call as it read before'; 0 by the template 'total and deterministic' (their statements: YtejjhenkhleibaaTotals.lean).
  GIVEN WITH THE SEED: the statements are not yours to turn. If you find one false, say at which input.
  Laid BY PROGRAM, IN A SANDBOX (cutbox-rows.mjs): the forced cells as the released guide's own fill.sh prints them over the translation 8b054072dc1f9507… (all of the seat's roots in one cut). By AI agents, Wed Nov 11 2026. No macro, syntax, notation, axiom, sorry.
-/
import Derived.Test.YtejjhenkhleibaaChecked
import GoSem.Claim
import GoSem.ClaimJoined
import GoSem.ClaimMapViews
import Derived.JoinedTies
import Derived.KernelRfl
namespace Go.Proofs.Ytejjhenkhleibaa
/- THE CELL 'sum', in the pinned program and in every row, IS THE sha256 OF THE DUMP (.gsa) THAT YtejjhenkhleibaaProg.lean LOADS. Nothing in Lean hashes anything: it is a label: what it is worth is what the hold of that sum in a sandbox is worth. -/
noncomputable def Try.pinned : Pinned := { name := "ytejjhenkhleibaa", sum := "8b054072dc1f950703524cc7c97757486fc14447ffa97dbeb6e9dad5829fcb57", checked := Try.checked }
namespace Rows
def none {H : Type} : Left H := { results := [], args := [] }

/-- 'parapetlaw05.MeterPlays': WHATEVER THE INPUT: true; the input reads as it did. -/
def meterPlaysSpec : ChangeSpec := { name := "meterPlays", fn := fun _ => fun
  | [d] => { results := [.lit (.bool true)], args := [d] }
  | _ => none }
def meterPlaysRow : OpenClaim := { program := "ytejjhenkhleibaa", sum := "8b054072dc1f950703524cc7c97757486fc14447ffa97dbeb6e9dad5829fcb57", func := "parapet/parapetlaw05.MeterPlays", spec := "meterPlays", inPlace := ["sync/atomic.LoadUint64", "sync/atomic.CompareAndSwapUint64", "sync/atomic.LoadPointer", "sync/atomic.CompareAndSwapPointer", "sync/atomic.LoadUint32", "sync/atomic.SwapUint64", "sync/atomic.OrUint32", "sync/atomic.AndUint32", "sync/atomic.SwapUint32", "sync/atomic.SwapPointer"], apart := false }
def MeterPlaysSaid : Prop := meterPlaysRow.holds Try.pinned (OpenSpec.ofChange meterPlaysSpec)

/-- ITS FALSE NEIGHBOUR: 'it returns false'. Refute it at one input. -/
def meterPlaysWrong : ChangeSpec := { name := "meterPlays", fn := fun _ => fun
  | [d] => { results := [.lit (.bool false)], args := [d] }
  | _ => none }
def MeterPlaysWrongFalsely : Prop := meterPlaysRow.holds Try.pinned (OpenSpec.ofChange meterPlaysWrong)

/-- 'parapetlaw05.MeterSums': WHATEVER THE INPUT: true; the input reads as it did. -/
def meterSumsSpec : ChangeSpec := { name := "meterSums", fn := fun _ => fun
  | [d] => { results := [.lit (.bool true)], args := [d] }
  | _ => none }
def meterSumsRow : OpenClaim := { program := "ytejjhenkhleibaa", sum := "8b054072dc1f950703524cc7c97757486fc14447ffa97dbeb6e9dad5829fcb57", func := "parapet/parapetlaw05.MeterSums", spec := "meterSums", inPlace := ["sync/atomic.LoadUint64", "sync/atomic.CompareAndSwapUint64", "sync/atomic.LoadPointer", "sync/atomic.CompareAndSwapPointer"], apart := false }
def MeterSumsSaid : Prop := meterSumsRow.holds Try.pinned (OpenSpec.ofChange meterSumsSpec)

/-- ITS FALSE NEIGHBOUR: 'it returns false'. Refute it at one input. -/
def meterSumsWrong : ChangeSpec := { name := "meterSums", fn := fun _ => fun
  | [d] => { results := [.lit (.bool false)], args := [d] }
  | _ => none }
def MeterSumsWrongFalsely : Prop := meterSumsRow.holds Try.pinned (OpenSpec.ofChange meterSumsWrong)

/-- 'parapetlaw05.MeterPeaks': WHATEVER THE INPUT: true; the input reads as it did. -/
def meterPeaksSpec : ChangeSpec := { name := "meterPeaks", fn := fun _ => fun
  | [d] => { results := [.lit (.bool true)], args := [d] }
  | _ => none }
def meterPeaksRow : OpenClaim := { program := "ytejjhenkhleibaa", sum := "8b054072dc1f950703524cc7c97757486fc14447ffa97dbeb6e9dad5829fcb57", func := "parapet/parapetlaw05.MeterPeaks", spec := "meterPeaks", inPlace := ["sync/atomic.LoadUint64", "sync/atomic.CompareAndSwapUint64", "sync/atomic.LoadPointer", "sync/atomic.CompareAndSwapPointer"], apart := false }
def MeterPeaksSaid : Prop := meterPeaksRow.holds Try.pinned (OpenSpec.ofChange meterPeaksSpec)

/-- ITS FALSE NEIGHBOUR: 'it returns false'. Refute it at one input. -/
def meterPeaksWrong : ChangeSpec := { name := "meterPeaks", fn := fun _ => fun
  | [d] => { results := [.lit (.bool false)], args := [d] }
  | _ => none }
def MeterPeaksWrongFalsely : Prop := meterPeaksRow.holds Try.pinned (OpenSpec.ofChange meterPeaksWrong)

/-- 'parapetlaw05.MeterFlags': WHATEVER THE INPUT: true; the input reads as it did. -/
def meterFlagsSpec : ChangeSpec := { name := "meterFlags", fn := fun _ => fun
  | [d1, d2, d3] => { results := [.lit (.bool true)], args := [d1, d2, d3] }
  | _ => none }
def meterFlagsRow : OpenClaim := { program := "ytejjhenkhleibaa", sum := "8b054072dc1f950703524cc7c97757486fc14447ffa97dbeb6e9dad5829fcb57", func := "parapet/parapetlaw05.MeterFlags", spec := "meterFlags", inPlace := ["sync/atomic.LoadUint64", "sync/atomic.CompareAndSwapUint64", "sync/atomic.LoadPointer", "sync/atomic.CompareAndSwapPointer", "sync/atomic.OrUint32", "sync/atomic.AndUint32", "sync/atomic.LoadUint32"], apart := false }
def MeterFlagsSaid : Prop := meterFlagsRow.holds Try.pinned (OpenSpec.ofChange meterFlagsSpec)

/-- ITS FALSE NEIGHBOUR: 'it returns false'. Refute it at one input. -/
def meterFlagsWrong : ChangeSpec := { name := "meterFlags", fn := fun _ => fun
  | [d1, d2, d3] => { results := [.lit (.bool false)], args := [d1, d2, d3] }
  | _ => none }
def MeterFlagsWrongFalsely : Prop := meterFlagsRow.holds Try.pinned (OpenSpec.ofChange meterFlagsWrong)

/-- 'parapetlaw05.MeterNil': WHATEVER THE INPUT: true; the input reads as it did. -/
def meterNilSpec : ChangeSpec := { name := "meterNil", fn := fun _ => fun
  | [d] => { results := [.lit (.bool true)], args := [d] }
  | _ => none }
def meterNilRow : OpenClaim := { program := "ytejjhenkhleibaa", sum := "8b054072dc1f950703524cc7c97757486fc14447ffa97dbeb6e9dad5829fcb57", func := "parapet/parapetlaw05.MeterNil", spec := "meterNil", inPlace := ["sync/atomic.LoadUint64", "sync/atomic.CompareAndSwapUint64", "sync/atomic.LoadPointer", "sync/atomic.CompareAndSwapPointer", "sync/atomic.SwapUint64", "sync/atomic.SwapPointer", "sync/atomic.OrUint32", "sync/atomic.AndUint32", "sync/atomic.LoadUint32", "sync/atomic.SwapUint32"], apart := false }
def MeterNilSaid : Prop := meterNilRow.holds Try.pinned (OpenSpec.ofChange meterNilSpec)

/-- ITS FALSE NEIGHBOUR: 'it returns false'. Refute it at one input. -/
def meterNilWrong : ChangeSpec := { name := "meterNil", fn := fun _ => fun
  | [d] => { results := [.lit (.bool false)], args := [d] }
  | _ => none }
def MeterNilWrongFalsely : Prop := meterNilRow.holds Try.pinned (OpenSpec.ofChange meterNilWrong)

/- THE SECOND FORM. 'bulk': how many values and letters a reading holds, each counted each time it is reached (what is shared counts as often as it is met; a slice's spare places count too). A statement '..UptoSaid' is the law's where the arguments, and the package variables that the reading takes, are together of bulk at most 1048576: NARROWER than '..Said'. Prove '..Said' where nothing that the law and all that it calls make is longer than what came in: it says more and counts as full. Else prove '..UptoSaid'. A law counts once. -/
mutual
def uptoBulk {H : Type} : DataW H → Nat
  | .lit (.string bytes) => bytes.length + 1
  | .lit _ => 1
  | .nil => 1
  | .ptr d => uptoBulk d + 1
  | .slice elems spare => uptoBulkAll elems + uptoBulkAll spare + 1
  | .agg parts => uptoBulkAll parts + 1
  | .iface _ d => uptoBulk d + 1
  | .map entries => uptoBulkEntries entries + 1
  | .held _ => 1
def uptoBulkAll {H : Type} : List (DataW H) → Nat
  | [] => 0
  | d :: r => uptoBulk d + uptoBulkAll r
def uptoBulkEntries {H : Type} : List (Lit × DataW H) → Nat
  | [] => 0
  | x :: r => uptoBulkEntry x + uptoBulkEntries r
def uptoBulkEntry {H : Type} : Lit × DataW H → Nat
  | (.string bytes, d) => bytes.length + uptoBulk d + 1
  | (_, d) => uptoBulk d + 1
 end
def uptoSmall : (H : Type) → List (DataW H) → Bool := fun _ ds => decide (uptoBulkAll ds ≤ 1048576)
def OpenSpec.upto (s : _root_.Go.ChangeSpec) : _root_.Go.OpenSpec := { _root_.Go.OpenSpec.ofChange s with cond := some uptoSmall }

/-- 'parapetlaw05.MeterPlays', WHERE WHAT IT READS IS OF BULK AT MOST 1048576: true; the input reads as it did. -/
def meterPlaysUptoRow : OpenClaim := { program := "ytejjhenkhleibaa", sum := "8b054072dc1f950703524cc7c97757486fc14447ffa97dbeb6e9dad5829fcb57", func := "parapet/parapetlaw05.MeterPlays", spec := "meterPlays", inPlace := ["sync/atomic.LoadUint64", "sync/atomic.CompareAndSwapUint64", "sync/atomic.LoadPointer", "sync/atomic.CompareAndSwapPointer", "sync/atomic.LoadUint32", "sync/atomic.SwapUint64", "sync/atomic.OrUint32", "sync/atomic.AndUint32", "sync/atomic.SwapUint32", "sync/atomic.SwapPointer"], apart := false, narrowed := true }
def MeterPlaysUptoSaid : Prop := meterPlaysUptoRow.holds Try.pinned (OpenSpec.upto meterPlaysSpec)

/-- 'parapetlaw05.MeterSums', WHERE WHAT IT READS IS OF BULK AT MOST 1048576: true; the input reads as it did. -/
def meterSumsUptoRow : OpenClaim := { program := "ytejjhenkhleibaa", sum := "8b054072dc1f950703524cc7c97757486fc14447ffa97dbeb6e9dad5829fcb57", func := "parapet/parapetlaw05.MeterSums", spec := "meterSums", inPlace := ["sync/atomic.LoadUint64", "sync/atomic.CompareAndSwapUint64", "sync/atomic.LoadPointer", "sync/atomic.CompareAndSwapPointer"], apart := false, narrowed := true }
def MeterSumsUptoSaid : Prop := meterSumsUptoRow.holds Try.pinned (OpenSpec.upto meterSumsSpec)

/-- 'parapetlaw05.MeterPeaks', WHERE WHAT IT READS IS OF BULK AT MOST 1048576: true; the input reads as it did. -/
def meterPeaksUptoRow : OpenClaim := { program := "ytejjhenkhleibaa", sum := "8b054072dc1f950703524cc7c97757486fc14447ffa97dbeb6e9dad5829fcb57", func := "parapet/parapetlaw05.MeterPeaks", spec := "meterPeaks", inPlace := ["sync/atomic.LoadUint64", "sync/atomic.CompareAndSwapUint64", "sync/atomic.LoadPointer", "sync/atomic.CompareAndSwapPointer"], apart := false, narrowed := true }
def MeterPeaksUptoSaid : Prop := meterPeaksUptoRow.holds Try.pinned (OpenSpec.upto meterPeaksSpec)

/-- 'parapetlaw05.MeterFlags', WHERE WHAT IT READS IS OF BULK AT MOST 1048576: true; the input reads as it did. -/
def meterFlagsUptoRow : OpenClaim := { program := "ytejjhenkhleibaa", sum := "8b054072dc1f950703524cc7c97757486fc14447ffa97dbeb6e9dad5829fcb57", func := "parapet/parapetlaw05.MeterFlags", spec := "meterFlags", inPlace := ["sync/atomic.LoadUint64", "sync/atomic.CompareAndSwapUint64", "sync/atomic.LoadPointer", "sync/atomic.CompareAndSwapPointer", "sync/atomic.OrUint32", "sync/atomic.AndUint32", "sync/atomic.LoadUint32"], apart := false, narrowed := true }
def MeterFlagsUptoSaid : Prop := meterFlagsUptoRow.holds Try.pinned (OpenSpec.upto meterFlagsSpec)

/-- 'parapetlaw05.MeterNil', WHERE WHAT IT READS IS OF BULK AT MOST 1048576: true; the input reads as it did. -/
def meterNilUptoRow : OpenClaim := { program := "ytejjhenkhleibaa", sum := "8b054072dc1f950703524cc7c97757486fc14447ffa97dbeb6e9dad5829fcb57", func := "parapet/parapetlaw05.MeterNil", spec := "meterNil", inPlace := ["sync/atomic.LoadUint64", "sync/atomic.CompareAndSwapUint64", "sync/atomic.LoadPointer", "sync/atomic.CompareAndSwapPointer", "sync/atomic.SwapUint64", "sync/atomic.SwapPointer", "sync/atomic.OrUint32", "sync/atomic.AndUint32", "sync/atomic.LoadUint32", "sync/atomic.SwapUint32"], apart := false, narrowed := true }
def MeterNilUptoSaid : Prop := meterNilUptoRow.holds Try.pinned (OpenSpec.upto meterNilSpec)

end Rows
end Go.Proofs.Ytejjhenkhleibaa
