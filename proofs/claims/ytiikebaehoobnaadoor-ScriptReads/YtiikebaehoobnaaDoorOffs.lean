/- Off: of what was there only some blocks may have turned. -/
import Derived.Test.YtiikebaehoobnaaDoorProg
import Derived.WalkKit
import Derived.WalkSpells
import Derived.OpenShut
import Derived.Laws.BitsAllLaws
import Derived.Laws.Pointers
import Derived.Laws.LoneSync
import Derived.Laws.NewBlocks
import Derived.Lib.Builder
import Derived.RegionTactic
import Derived.RegionCalls
import Derived.Deep.DeepCutAuto
import Derived.Deep.RegionWith
import Derived.Deep.QuietTactic
namespace Go.Proofs.YtiikebaehoobnaaDoor
set_option maxRecDepth 100000
open Go.RowKit

/-- Of what was there only the blocks named may have turned. -/
structure Off (l : List Nat) (w w' : World) : Prop where
  os : w'.os = w.os
  tape : w'.tape = w.tape
  output : w'.output = w.output
  size : w.heap.size ≤ w'.heap.size
  block : ∀ k, k < w.heap.size → k ∉ l → w'.heap[k]? = w.heap[k]?
theorem Off.refl (l : List Nat) (w : World) : Off l w w := ⟨rfl, rfl, rfl, Nat.le_refl _, fun _ _ _ => rfl⟩
theorem Off.trans {l : List Nat} {u v w : World} (h : Off l u v) (k : Off l v w) : Off l u w :=
  ⟨k.os.trans h.os, k.tape.trans h.tape, k.output.trans h.output, Nat.le_trans h.size k.size, fun i hi hb => (k.block i (Nat.lt_of_lt_of_le hi h.size) hb).trans (h.block i hi hb)⟩
theorem Off.of_below {l : List Nat} {w w' : World} (h : Below w.heap.size w w') : Off l w w' := ⟨h.os, h.tape, h.output, h.size, fun k hk _ => h.block k hk⟩
theorem Off.more {l m : List Nat} {w w' : World} (h : Off l w w') (hs : ∀ k, k ∈ l → k ∈ m) : Off m w w' := ⟨h.os, h.tape, h.output, h.size, fun k hk hb => h.block k hk fun hm => hb (hs k hm)⟩
theorem Off.only {l m : List Nat} {w w' : World} (h : Off l w w') (hs : ∀ k, k ∈ l → k < w.heap.size → k ∈ m) : Off m w w' := ⟨h.os, h.tape, h.output, h.size, fun k hk hb => h.block k hk fun hm => hb (hs k hm hk)⟩
theorem Off.setCell (b i : Nat) (w : World) (v : Value) : Off [b] w (w.setCell ⟨b, i, none⟩ v) := ⟨rfl, rfl, rfl, by simp [World.setCell], fun k _ hb => heap_setCell_other w _ k v (by simpa using hb)⟩
theorem Off.alloc (l : List Nat) (w : World) (o : Obj) : Off l w (w.alloc o) := Off.of_below ((Below.refl _ _).alloc (Nat.le_refl _) _)
theorem Off.drew (l : List Nat) (w : World) : Off l w w.drew := ⟨rfl, rfl, rfl, Nat.le_refl _, fun _ _ _ => rfl⟩
theorem Off.drewN (l : List Nat) (w : World) (n : Nat) : Off l w (w.drewN n) := ⟨rfl, rfl, rfl, Nat.le_refl _, fun _ _ _ => rfl⟩
theorem Off.below {l : List Nat} {B : Nat} {w0 w w' : World} (h : Off l w w') (hb : Below B w0 w) (hB : ∀ k, k ∈ l → B ≤ k) (hs : B ≤ w.heap.size) : Below B w0 w' :=
  hb.trans ⟨h.os, h.tape, h.output, h.size, fun k hk => h.block k (by omega) (fun hm => by have := hB k hm; omega)⟩


end Go.Proofs.YtiikebaehoobnaaDoor
