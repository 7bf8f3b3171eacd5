/-
  No cell of these rows narrows 'for every input' (looked for: loops, veiled, ifaces, maps, wideKeys, modest, calm, conditions, laid).
  DERIVED. THE GIVEN ROWS OF THIS SEAT. 5 by the template 'for every input the law returns true; each argument reads behind the call as it read before'; 0 by the template 'total and deterministic' (their statements: YtjdedopijplblaaTotals.lean).
  GIVEN WITH THE SEED: the statements are not yours to turn. If you find one false, say at which input.
  Laid BY PROGRAM, IN A SANDBOX (cutbox-rows.mjs): the forced cells as the released guide's own fill.sh prints them over the translation 07168f148ea83335… (all of the seat's roots in one cut). By AI agents, Wed Nov 11 2026. No macro, syntax, notation, axiom, sorry.
-/
import Derived.Test.YtjdedopijplblaaChecked
import GoSem.Claim
import GoSem.ClaimJoined
import GoSem.ClaimMapViews
import Derived.JoinedTies
import Derived.KernelRfl
namespace Go.Proofs.Ytjdedopijplblaa
/- THE CELL 'sum', in the pinned program and in every row, IS THE sha256 OF THE DUMP (.gsa) THAT YtjdedopijplblaaProg.lean LOADS. Nothing in Lean hashes anything: it is a label: what it is worth is what the hold of that sum in a sandbox is worth. -/
noncomputable def Try.pinned : Pinned := { name := "ytjdedopijplblaa", sum := "07168f148ea83335631b64c3106c26df58493e4158a276fb1c35bbb74e450f0f", checked := Try.checked }
namespace Rows
def none {H : Type} : Left H := { results := [], args := [] }

/-- 'parapetlaw11.PassivePlays': WHATEVER THE INPUT: true; the input reads as it did. -/
def passivePlaysSpec : ChangeSpec := { name := "passivePlays", fn := fun _ => fun
  | [d1, d2] => { results := [.lit (.bool true)], args := [d1, d2] }
  | _ => none }
def passivePlaysRow : OpenClaim := { program := "ytjdedopijplblaa", sum := "07168f148ea83335631b64c3106c26df58493e4158a276fb1c35bbb74e450f0f", func := "parapet/parapetlaw11.PassivePlays", spec := "passivePlays", inPlace := ["(*internal/sync.Mutex).Lock", "internal/race.Disable", "sync/atomic.CompareAndSwapInt32", "internal/race.Enable", "internal/race.Acquire", "(*internal/sync.Mutex).lockSlow", "internal/sync.runtime_canSpin", "internal/sync.runtime_doSpin", "internal/sync.throw", "internal/sync.runtime_nanotime", "internal/sync.runtime_SemacquireMutex", "sync/atomic.AddInt32", "(*internal/sync.Mutex).Unlock", "internal/race.ReleaseMerge", "(*internal/sync.Mutex).unlockSlow", "internal/sync.fatal", "internal/sync.runtime_Semrelease", "sync/atomic.LoadUint32", "sync/atomic.StoreUint32"], unfollowed := true, recurses := true, apart := false }
def PassivePlaysSaid : Prop := passivePlaysRow.holds Try.pinned (OpenSpec.ofChange passivePlaysSpec)

/-- ITS FALSE NEIGHBOUR: 'it returns false'. Refute it at one input. -/
def passivePlaysWrong : ChangeSpec := { name := "passivePlays", fn := fun _ => fun
  | [d1, d2] => { results := [.lit (.bool false)], args := [d1, d2] }
  | _ => none }
def PassivePlaysWrongFalsely : Prop := passivePlaysRow.holds Try.pinned (OpenSpec.ofChange passivePlaysWrong)

/-- 'parapetlaw11.PassiveLatch': WHATEVER THE INPUT: true; the input reads as it did. -/
def passiveLatchSpec : ChangeSpec := { name := "passiveLatch", fn := fun _ => fun
  | [d] => { results := [.lit (.bool true)], args := [d] }
  | _ => none }
def passiveLatchRow : OpenClaim := { program := "ytjdedopijplblaa", sum := "07168f148ea83335631b64c3106c26df58493e4158a276fb1c35bbb74e450f0f", func := "parapet/parapetlaw11.PassiveLatch", spec := "passiveLatch", inPlace := ["(*internal/sync.Mutex).Lock", "internal/race.Disable", "sync/atomic.CompareAndSwapInt32", "internal/race.Enable", "internal/race.Acquire", "(*internal/sync.Mutex).lockSlow", "internal/sync.runtime_canSpin", "internal/sync.runtime_doSpin", "internal/sync.throw", "internal/sync.runtime_nanotime", "internal/sync.runtime_SemacquireMutex", "sync/atomic.AddInt32", "(*internal/sync.Mutex).Unlock", "internal/race.ReleaseMerge", "(*internal/sync.Mutex).unlockSlow", "internal/sync.fatal", "internal/sync.runtime_Semrelease", "sync/atomic.LoadUint32", "sync/atomic.StoreUint32"], unfollowed := true, recurses := true, apart := false }
def PassiveLatchSaid : Prop := passiveLatchRow.holds Try.pinned (OpenSpec.ofChange passiveLatchSpec)

/-- ITS FALSE NEIGHBOUR: 'it returns false'. Refute it at one input. -/
def passiveLatchWrong : ChangeSpec := { name := "passiveLatch", fn := fun _ => fun
  | [d] => { results := [.lit (.bool false)], args := [d] }
  | _ => none }
def PassiveLatchWrongFalsely : Prop := passiveLatchRow.holds Try.pinned (OpenSpec.ofChange passiveLatchWrong)

/-- 'parapetlaw11.PassiveWay': WHATEVER THE INPUT: true; the input reads as it did. -/
def passiveWaySpec : ChangeSpec := { name := "passiveWay", fn := fun _ => fun
  | [d1, d2, d3] => { results := [.lit (.bool true)], args := [d1, d2, d3] }
  | _ => none }
def passiveWayRow : OpenClaim := { program := "ytjdedopijplblaa", sum := "07168f148ea83335631b64c3106c26df58493e4158a276fb1c35bbb74e450f0f", func := "parapet/parapetlaw11.PassiveWay", spec := "passiveWay", inPlace := ["(*internal/sync.Mutex).Lock", "internal/race.Disable", "sync/atomic.CompareAndSwapInt32", "internal/race.Enable", "internal/race.Acquire", "(*internal/sync.Mutex).lockSlow", "internal/sync.runtime_canSpin", "internal/sync.runtime_doSpin", "internal/sync.throw", "internal/sync.runtime_nanotime", "internal/sync.runtime_SemacquireMutex", "sync/atomic.AddInt32", "(*internal/sync.Mutex).Unlock", "internal/race.ReleaseMerge", "(*internal/sync.Mutex).unlockSlow", "internal/sync.fatal", "internal/sync.runtime_Semrelease", "sync/atomic.LoadUint32", "sync/atomic.StoreUint32"], unfollowed := true, recurses := true, apart := false }
def PassiveWaySaid : Prop := passiveWayRow.holds Try.pinned (OpenSpec.ofChange passiveWaySpec)

/-- ITS FALSE NEIGHBOUR: 'it returns false'. Refute it at one input. -/
def passiveWayWrong : ChangeSpec := { name := "passiveWay", fn := fun _ => fun
  | [d1, d2, d3] => { results := [.lit (.bool false)], args := [d1, d2, d3] }
  | _ => none }
def PassiveWayWrongFalsely : Prop := passiveWayRow.holds Try.pinned (OpenSpec.ofChange passiveWayWrong)

/-- 'parapetlaw11.PassiveNil': WHATEVER THE INPUT: true; the input reads as it did. -/
def passiveNilSpec : ChangeSpec := { name := "passiveNil", fn := fun _ => fun
  | [d] => { results := [.lit (.bool true)], args := [d] }
  | _ => none }
def passiveNilRow : OpenClaim := { program := "ytjdedopijplblaa", sum := "07168f148ea83335631b64c3106c26df58493e4158a276fb1c35bbb74e450f0f", func := "parapet/parapetlaw11.PassiveNil", spec := "passiveNil", inPlace := ["(*internal/sync.Mutex).Lock", "internal/race.Disable", "sync/atomic.CompareAndSwapInt32", "internal/race.Enable", "internal/race.Acquire", "(*internal/sync.Mutex).lockSlow", "internal/sync.runtime_canSpin", "internal/sync.runtime_doSpin", "internal/sync.throw", "internal/sync.runtime_nanotime", "internal/sync.runtime_SemacquireMutex", "sync/atomic.AddInt32", "(*internal/sync.Mutex).Unlock", "internal/race.ReleaseMerge", "(*internal/sync.Mutex).unlockSlow", "internal/sync.fatal", "internal/sync.runtime_Semrelease", "sync/atomic.LoadUint32", "sync/atomic.StoreUint32"], unfollowed := true, recurses := true, apart := false }
def PassiveNilSaid : Prop := passiveNilRow.holds Try.pinned (OpenSpec.ofChange passiveNilSpec)

/-- ITS FALSE NEIGHBOUR: 'it returns false'. Refute it at one input. -/
def passiveNilWrong : ChangeSpec := { name := "passiveNil", fn := fun _ => fun
  | [d] => { results := [.lit (.bool false)], args := [d] }
  | _ => none }
def PassiveNilWrongFalsely : Prop := passiveNilRow.holds Try.pinned (OpenSpec.ofChange passiveNilWrong)

/-- 'parapetlaw11.PassiveOwn': WHATEVER THE INPUT: true; the input reads as it did. -/
def passiveOwnSpec : ChangeSpec := { name := "passiveOwn", fn := fun _ => fun
  | [d] => { results := [.lit (.bool true)], args := [d] }
  | _ => none }
def passiveOwnRow : OpenClaim := { program := "ytjdedopijplblaa", sum := "07168f148ea83335631b64c3106c26df58493e4158a276fb1c35bbb74e450f0f", func := "parapet/parapetlaw11.PassiveOwn", spec := "passiveOwn", inPlace := ["(*internal/sync.Mutex).Lock", "internal/race.Disable", "sync/atomic.CompareAndSwapInt32", "internal/race.Enable", "internal/race.Acquire", "(*internal/sync.Mutex).lockSlow", "internal/sync.runtime_canSpin", "internal/sync.runtime_doSpin", "internal/sync.throw", "internal/sync.runtime_nanotime", "internal/sync.runtime_SemacquireMutex", "sync/atomic.AddInt32", "(*internal/sync.Mutex).Unlock", "internal/race.ReleaseMerge", "(*internal/sync.Mutex).unlockSlow", "internal/sync.fatal", "internal/sync.runtime_Semrelease", "sync/atomic.LoadUint32", "sync/atomic.StoreUint32"], unfollowed := true, recurses := true, apart := false }
def PassiveOwnSaid : Prop := passiveOwnRow.holds Try.pinned (OpenSpec.ofChange passiveOwnSpec)

/-- ITS FALSE NEIGHBOUR: 'it returns false'. Refute it at one input. -/
def passiveOwnWrong : ChangeSpec := { name := "passiveOwn", fn := fun _ => fun
  | [d] => { results := [.lit (.bool false)], args := [d] }
  | _ => none }
def PassiveOwnWrongFalsely : Prop := passiveOwnRow.holds Try.pinned (OpenSpec.ofChange passiveOwnWrong)

/- THE SECOND FORM. 'bulk': how many values and letters a reading holds, each counted each time it is reached (what is shared counts as often as it is met; a slice's spare places count too). A statement '..UptoSaid' is the law's where the arguments, and the package variables that the reading takes, are together of bulk at most 1048576: NARROWER than '..Said'. Prove '..Said' where nothing that the law and all that it calls make is longer than what came in: it says more and counts as full. Else prove '..UptoSaid'. A law counts once. -/
mutual
def uptoBulk {H : Type} : DataW H → Nat
  | .lit (.string bytes) => bytes.length + 1
  | .lit _ => 1
  | .nil => 1
  | .ptr d => uptoBulk d + 1
  | .slice elems spare => uptoBulkAll elems + uptoBulkAll spare + 1
  | .agg parts => uptoBulkAll parts + 1
  | .iface _ d => uptoBulk d + 1
  | .map entries => uptoBulkEntries entries + 1
  | .held _ => 1
def uptoBulkAll {H : Type} : List (DataW H) → Nat
  | [] => 0
  | d :: r => uptoBulk d + uptoBulkAll r
def uptoBulkEntries {H : Type} : List (Lit × DataW H) → Nat
  | [] => 0
  | x :: r => uptoBulkEntry x + uptoBulkEntries r
def uptoBulkEntry {H : Type} : Lit × DataW H → Nat
  | (.string bytes, d) => bytes.length + uptoBulk d + 1
  | (_, d) => uptoBulk d + 1
 end
def uptoSmall : (H : Type) → List (DataW H) → Bool := fun _ ds => decide (uptoBulkAll ds ≤ 1048576)
def OpenSpec.upto (s : _root_.Go.ChangeSpec) : _root_.Go.OpenSpec := { _root_.Go.OpenSpec.ofChange s with cond := some uptoSmall }

/-- 'parapetlaw11.PassivePlays', WHERE WHAT IT READS IS OF BULK AT MOST 1048576: true; the input reads as it did. -/
def passivePlaysUptoRow : OpenClaim := { program := "ytjdedopijplblaa", sum := "07168f148ea83335631b64c3106c26df58493e4158a276fb1c35bbb74e450f0f", func := "parapet/parapetlaw11.PassivePlays", spec := "passivePlays", inPlace := ["(*internal/sync.Mutex).Lock", "internal/race.Disable", "sync/atomic.CompareAndSwapInt32", "internal/race.Enable", "internal/race.Acquire", "(*internal/sync.Mutex).lockSlow", "internal/sync.runtime_canSpin", "internal/sync.runtime_doSpin", "internal/sync.throw", "internal/sync.runtime_nanotime", "internal/sync.runtime_SemacquireMutex", "sync/atomic.AddInt32", "(*internal/sync.Mutex).Unlock", "internal/race.ReleaseMerge", "(*internal/sync.Mutex).unlockSlow", "internal/sync.fatal", "internal/sync.runtime_Semrelease", "sync/atomic.LoadUint32", "sync/atomic.StoreUint32"], unfollowed := true, recurses := true, apart := false, narrowed := true }
def PassivePlaysUptoSaid : Prop := passivePlaysUptoRow.holds Try.pinned (OpenSpec.upto passivePlaysSpec)

/-- 'parapetlaw11.PassiveLatch', WHERE WHAT IT READS IS OF BULK AT MOST 1048576: true; the input reads as it did. -/
def passiveLatchUptoRow : OpenClaim := { program := "ytjdedopijplblaa", sum := "07168f148ea83335631b64c3106c26df58493e4158a276fb1c35bbb74e450f0f", func := "parapet/parapetlaw11.PassiveLatch", spec := "passiveLatch", inPlace := ["(*internal/sync.Mutex).Lock", "internal/race.Disable", "sync/atomic.CompareAndSwapInt32", "internal/race.Enable", "internal/race.Acquire", "(*internal/sync.Mutex).lockSlow", "internal/sync.runtime_canSpin", "internal/sync.runtime_doSpin", "internal/sync.throw", "internal/sync.runtime_nanotime", "internal/sync.runtime_SemacquireMutex", "sync/atomic.AddInt32", "(*internal/sync.Mutex).Unlock", "internal/race.ReleaseMerge", "(*internal/sync.Mutex).unlockSlow", "internal/sync.fatal", "internal/sync.runtime_Semrelease", "sync/atomic.LoadUint32", "sync/atomic.StoreUint32"], unfollowed := true, recurses := true, apart := false, narrowed := true }
def PassiveLatchUptoSaid : Prop := passiveLatchUptoRow.holds Try.pinned (OpenSpec.upto passiveLatchSpec)

/-- 'parapetlaw11.PassiveWay', WHERE WHAT IT READS IS OF BULK AT MOST 1048576: true; the input reads as it did. -/
def passiveWayUptoRow : OpenClaim := { program := "ytjdedopijplblaa", sum := "07168f148ea83335631b64c3106c26df58493e4158a276fb1c35bbb74e450f0f", func := "parapet/parapetlaw11.PassiveWay", spec := "passiveWay", inPlace := ["(*internal/sync.Mutex).Lock", "internal/race.Disable", "sync/atomic.CompareAndSwapInt32", "internal/race.Enable", "internal/race.Acquire", "(*internal/sync.Mutex).lockSlow", "internal/sync.runtime_canSpin", "internal/sync.runtime_doSpin", "internal/sync.throw", "internal/sync.runtime_nanotime", "internal/sync.runtime_SemacquireMutex", "sync/atomic.AddInt32", "(*internal/sync.Mutex).Unlock", "internal/race.ReleaseMerge", "(*internal/sync.Mutex).unlockSlow", "internal/sync.fatal", "internal/sync.runtime_Semrelease", "sync/atomic.LoadUint32", "sync/atomic.StoreUint32"], unfollowed := true, recurses := true, apart := false, narrowed := true }
def PassiveWayUptoSaid : Prop := passiveWayUptoRow.holds Try.pinned (OpenSpec.upto passiveWaySpec)

/-- 'parapetlaw11.PassiveNil', WHERE WHAT IT READS IS OF BULK AT MOST 1048576: true; the input reads as it did. -/
def passiveNilUptoRow : OpenClaim := { program := "ytjdedopijplblaa", sum := "07168f148ea83335631b64c3106c26df58493e4158a276fb1c35bbb74e450f0f", func := "parapet/parapetlaw11.PassiveNil", spec := "passiveNil", inPlace := ["(*internal/sync.Mutex).Lock", "internal/race.Disable", "sync/atomic.CompareAndSwapInt32", "internal/race.Enable", "internal/race.Acquire", "(*internal/sync.Mutex).lockSlow", "internal/sync.runtime_canSpin", "internal/sync.runtime_doSpin", "internal/sync.throw", "internal/sync.runtime_nanotime", "internal/sync.runtime_SemacquireMutex", "sync/atomic.AddInt32", "(*internal/sync.Mutex).Unlock", "internal/race.ReleaseMerge", "(*internal/sync.Mutex).unlockSlow", "internal/sync.fatal", "internal/sync.runtime_Semrelease", "sync/atomic.LoadUint32", "sync/atomic.StoreUint32"], unfollowed := true, recurses := true, apart := false, narrowed := true }
def PassiveNilUptoSaid : Prop := passiveNilUptoRow.holds Try.pinned (OpenSpec.upto passiveNilSpec)

/-- 'parapetlaw11.PassiveOwn', WHERE WHAT IT READS IS OF BULK AT MOST 1048576: true; the input reads as it did. -/
def passiveOwnUptoRow : OpenClaim := { program := "ytjdedopijplblaa", sum := "07168f148ea83335631b64c3106c26df58493e4158a276fb1c35bbb74e450f0f", func := "parapet/parapetlaw11.PassiveOwn", spec := "passiveOwn", inPlace := ["(*internal/sync.Mutex).Lock", "internal/race.Disable", "sync/atomic.CompareAndSwapInt32", "internal/race.Enable", "internal/race.Acquire", "(*internal/sync.Mutex).lockSlow", "internal/sync.runtime_canSpin", "internal/sync.runtime_doSpin", "internal/sync.throw", "internal/sync.runtime_nanotime", "internal/sync.runtime_SemacquireMutex", "sync/atomic.AddInt32", "(*internal/sync.Mutex).Unlock", "internal/race.ReleaseMerge", "(*internal/sync.Mutex).unlockSlow", "internal/sync.fatal", "internal/sync.runtime_Semrelease", "sync/atomic.LoadUint32", "sync/atomic.StoreUint32"], unfollowed := true, recurses := true, apart := false, narrowed := true }
def PassiveOwnUptoSaid : Prop := passiveOwnUptoRow.holds Try.pinned (OpenSpec.upto passiveOwnSpec)

end Rows
end Go.Proofs.Ytjdedopijplblaa
