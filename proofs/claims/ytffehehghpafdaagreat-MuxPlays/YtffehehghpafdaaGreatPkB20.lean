/- Part 21 of the texts on which the proofs of layer 13 rest: contracts of Go functions. -/
import Derived.OpenShut
import Derived.Deep.RegionWith
import Derived.Deep.DeepCutAuto
import Derived.RegionTactic
import Derived.Test.YtffehehghpafdaaGreatPkB04
import Derived.Test.YtffehehghpafdaaGreatPkB07
import Derived.Test.YtffehehghpafdaaGreatPkB17
import Derived.Test.YtffehehghpafdaaGreatPkB18
import Derived.Test.YtffehehghpafdaaGreatPkB19
namespace Go.Proofs.YtffehehghpafdaaGreat
set_option maxRecDepth 100000
open Go.RowKit
theorem lifeZ {w:World} {d m mx:Nat} {P:Pm} {cp:Value} (h:w.heap[d]?=some (.cells #[.int .u32 (P.c:Nat),.int .i64 (P.o:Nat),.int .i64 (P.i:Nat),.int .i64 (P.t:Nat),.int .u32 (P.n:Nat),.pointer (some ⟨m,0,none⟩),.int .u32 (mx:Nat),cp,.slice none 0 0,.int .i64 0,.int .i64 0,.int .i64 0,.bool false,.bool false,.bool false,.int .i64 0,.slice none 0 0,.bool false,.int .i64 0,.int .u32 0,.int .u32 0,.int .u32 0,.int .i64 0,.slice none 0 0,.bool false] 60 (0,0))) :
  ((((((((((((((w.setCell ⟨d,9,none⟩ (.int .i64 (P.t:Nat))).setCell ⟨d,10,none⟩ (.int .i64 0)).setCell ⟨d,11,none⟩ (.int .i64 (P.o:Nat))).setCell ⟨d,12,none⟩ (.bool false)).setCell ⟨d,13,none⟩ (.bool false)).setCell ⟨d,14,none⟩ (.bool false)).setCell ⟨d,15,none⟩ (.int .i64 0)).setCell ⟨d,16,none⟩ (.slice none 0 0)).setCell ⟨d,17,none⟩ (.bool false)).setCell ⟨d,18,none⟩ (.int .i64 1)).setCell ⟨d,19,none⟩ (.int .u32 0)).setCell ⟨d,20,none⟩ (.int .u32 0)).setCell ⟨d,21,none⟩ (.int .u32 0)).setCell ⟨d,22,none⟩ (.int .i64 0)).heap[d]?=some (.cells #[.int .u32 (P.c:Nat),.int .i64 (P.o:Nat),.int .i64 (P.i:Nat),.int .i64 (P.t:Nat),.int .u32 (P.n:Nat),.pointer (some ⟨m,0,none⟩),.int .u32 (mx:Nat),cp,.slice none 0 0,.int .i64 (P.t:Nat),.int .i64 0,.int .i64 (P.o:Nat),.bool false,.bool false,.bool false,.int .i64 0,.slice none 0 0,.bool false,.int .i64 1,.int .u32 0,.int .u32 0,.int .u32 0,.int .i64 0,.slice none 0 0,.bool false] 60 (0,0))∧Off [d] w ((((((((((((((w.setCell ⟨d,9,none⟩ (.int .i64 (P.t:Nat))).setCell ⟨d,10,none⟩ (.int .i64 0)).setCell ⟨d,11,none⟩ (.int .i64 (P.o:Nat))).setCell ⟨d,12,none⟩ (.bool false)).setCell ⟨d,13,none⟩ (.bool false)).setCell ⟨d,14,none⟩ (.bool false)).setCell ⟨d,15,none⟩ (.int .i64 0)).setCell ⟨d,16,none⟩ (.slice none 0 0)).setCell ⟨d,17,none⟩ (.bool false)).setCell ⟨d,18,none⟩ (.int .i64 1)).setCell ⟨d,19,none⟩ (.int .u32 0)).setCell ⟨d,20,none⟩ (.int .u32 0)).setCell ⟨d,21,none⟩ (.int .u32 0)).setCell ⟨d,22,none⟩ (.int .i64 0)):=by
 have e0:(w.setCell ⟨d,9,none⟩ (.int .i64 (P.t:Nat))).heap[d]?=some (.cells #[.int .u32 (P.c:Nat),.int .i64 (P.o:Nat),.int .i64 (P.i:Nat),.int .i64 (P.t:Nat),.int .u32 (P.n:Nat),.pointer (some ⟨m,0,none⟩),.int .u32 (mx:Nat),cp,.slice none 0 0,.int .i64 (P.t:Nat),.int .i64 0,.int .i64 0,.bool false,.bool false,.bool false,.int .i64 0,.slice none 0 0,.bool false,.int .i64 0,.int .u32 0,.int .u32 0,.int .u32 0,.int .i64 0,.slice none 0 0,.bool false] 60 (0,0)):=heap_setCell_same _ _ _ _ _ _ h
 have e1:((w.setCell ⟨d,9,none⟩ (.int .i64 (P.t:Nat))).setCell ⟨d,10,none⟩ (.int .i64 0)).heap[d]?=some (.cells #[.int .u32 (P.c:Nat),.int .i64 (P.o:Nat),.int .i64 (P.i:Nat),.int .i64 (P.t:Nat),.int .u32 (P.n:Nat),.pointer (some ⟨m,0,none⟩),.int .u32 (mx:Nat),cp,.slice none 0 0,.int .i64 (P.t:Nat),.int .i64 0,.int .i64 0,.bool false,.bool false,.bool false,.int .i64 0,.slice none 0 0,.bool false,.int .i64 0,.int .u32 0,.int .u32 0,.int .u32 0,.int .i64 0,.slice none 0 0,.bool false] 60 (0,0)):=heap_setCell_same _ _ _ _ _ _ e0
 have e2:(((w.setCell ⟨d,9,none⟩ (.int .i64 (P.t:Nat))).setCell ⟨d,10,none⟩ (.int .i64 0)).setCell ⟨d,11,none⟩ (.int .i64 (P.o:Nat))).heap[d]?=some (.cells #[.int .u32 (P.c:Nat),.int .i64 (P.o:Nat),.int .i64 (P.i:Nat),.int .i64 (P.t:Nat),.int .u32 (P.n:Nat),.pointer (some ⟨m,0,none⟩),.int .u32 (mx:Nat),cp,.slice none 0 0,.int .i64 (P.t:Nat),.int .i64 0,.int .i64 (P.o:Nat),.bool false,.bool false,.bool false,.int .i64 0,.slice none 0 0,.bool false,.int .i64 0,.int .u32 0,.int .u32 0,.int .u32 0,.int .i64 0,.slice none 0 0,.bool false] 60 (0,0)):=heap_setCell_same _ _ _ _ _ _ e1
 have e3:((((w.setCell ⟨d,9,none⟩ (.int .i64 (P.t:Nat))).setCell ⟨d,10,none⟩ (.int .i64 0)).setCell ⟨d,11,none⟩ (.int .i64 (P.o:Nat))).setCell ⟨d,12,none⟩ (.bool false)).heap[d]?=some (.cells #[.int .u32 (P.c:Nat),.int .i64 (P.o:Nat),.int .i64 (P.i:Nat),.int .i64 (P.t:Nat),.int .u32 (P.n:Nat),.pointer (some ⟨m,0,none⟩),.int .u32 (mx:Nat),cp,.slice none 0 0,.int .i64 (P.t:Nat),.int .i64 0,.int .i64 (P.o:Nat),.bool false,.bool false,.bool false,.int .i64 0,.slice none 0 0,.bool false,.int .i64 0,.int .u32 0,.int .u32 0,.int .u32 0,.int .i64 0,.slice none 0 0,.bool false] 60 (0,0)):=heap_setCell_same _ _ _ _ _ _ e2
 have e4:(((((w.setCell ⟨d,9,none⟩ (.int .i64 (P.t:Nat))).setCell ⟨d,10,none⟩ (.int .i64 0)).setCell ⟨d,11,none⟩ (.int .i64 (P.o:Nat))).setCell ⟨d,12,none⟩ (.bool false)).setCell ⟨d,13,none⟩ (.bool false)).heap[d]?=some (.cells #[.int .u32 (P.c:Nat),.int .i64 (P.o:Nat),.int .i64 (P.i:Nat),.int .i64 (P.t:Nat),.int .u32 (P.n:Nat),.pointer (some ⟨m,0,none⟩),.int .u32 (mx:Nat),cp,.slice none 0 0,.int .i64 (P.t:Nat),.int .i64 0,.int .i64 (P.o:Nat),.bool false,.bool false,.bool false,.int .i64 0,.slice none 0 0,.bool false,.int .i64 0,.int .u32 0,.int .u32 0,.int .u32 0,.int .i64 0,.slice none 0 0,.bool false] 60 (0,0)):=heap_setCell_same _ _ _ _ _ _ e3
 have e5:((((((w.setCell ⟨d,9,none⟩ (.int .i64 (P.t:Nat))).setCell ⟨d,10,none⟩ (.int .i64 0)).setCell ⟨d,11,none⟩ (.int .i64 (P.o:Nat))).setCell ⟨d,12,none⟩ (.bool false)).setCell ⟨d,13,none⟩ (.bool false)).setCell ⟨d,14,none⟩ (.bool false)).heap[d]?=some (.cells #[.int .u32 (P.c:Nat),.int .i64 (P.o:Nat),.int .i64 (P.i:Nat),.int .i64 (P.t:Nat),.int .u32 (P.n:Nat),.pointer (some ⟨m,0,none⟩),.int .u32 (mx:Nat),cp,.slice none 0 0,.int .i64 (P.t:Nat),.int .i64 0,.int .i64 (P.o:Nat),.bool false,.bool false,.bool false,.int .i64 0,.slice none 0 0,.bool false,.int .i64 0,.int .u32 0,.int .u32 0,.int .u32 0,.int .i64 0,.slice none 0 0,.bool false] 60 (0,0)):=heap_setCell_same _ _ _ _ _ _ e4
 have e6:(((((((w.setCell ⟨d,9,none⟩ (.int .i64 (P.t:Nat))).setCell ⟨d,10,none⟩ (.int .i64 0)).setCell ⟨d,11,none⟩ (.int .i64 (P.o:Nat))).setCell ⟨d,12,none⟩ (.bool false)).setCell ⟨d,13,none⟩ (.bool false)).setCell ⟨d,14,none⟩ (.bool false)).setCell ⟨d,15,none⟩ (.int .i64 0)).heap[d]?=some (.cells #[.int .u32 (P.c:Nat),.int .i64 (P.o:Nat),.int .i64 (P.i:Nat),.int .i64 (P.t:Nat),.int .u32 (P.n:Nat),.pointer (some ⟨m,0,none⟩),.int .u32 (mx:Nat),cp,.slice none 0 0,.int .i64 (P.t:Nat),.int .i64 0,.int .i64 (P.o:Nat),.bool false,.bool false,.bool false,.int .i64 0,.slice none 0 0,.bool false,.int .i64 0,.int .u32 0,.int .u32 0,.int .u32 0,.int .i64 0,.slice none 0 0,.bool false] 60 (0,0)):=heap_setCell_same _ _ _ _ _ _ e5
 have e7:((((((((w.setCell ⟨d,9,none⟩ (.int .i64 (P.t:Nat))).setCell ⟨d,10,none⟩ (.int .i64 0)).setCell ⟨d,11,none⟩ (.int .i64 (P.o:Nat))).setCell ⟨d,12,none⟩ (.bool false)).setCell ⟨d,13,none⟩ (.bool false)).setCell ⟨d,14,none⟩ (.bool false)).setCell ⟨d,15,none⟩ (.int .i64 0)).setCell ⟨d,16,none⟩ (.slice none 0 0)).heap[d]?=some (.cells #[.int .u32 (P.c:Nat),.int .i64 (P.o:Nat),.int .i64 (P.i:Nat),.int .i64 (P.t:Nat),.int .u32 (P.n:Nat),.pointer (some ⟨m,0,none⟩),.int .u32 (mx:Nat),cp,.slice none 0 0,.int .i64 (P.t:Nat),.int .i64 0,.int .i64 (P.o:Nat),.bool false,.bool false,.bool false,.int .i64 0,.slice none 0 0,.bool false,.int .i64 0,.int .u32 0,.int .u32 0,.int .u32 0,.int .i64 0,.slice none 0 0,.bool false] 60 (0,0)):=heap_setCell_same _ _ _ _ _ _ e6
 have e8:(((((((((w.setCell ⟨d,9,none⟩ (.int .i64 (P.t:Nat))).setCell ⟨d,10,none⟩ (.int .i64 0)).setCell ⟨d,11,none⟩ (.int .i64 (P.o:Nat))).setCell ⟨d,12,none⟩ (.bool false)).setCell ⟨d,13,none⟩ (.bool false)).setCell ⟨d,14,none⟩ (.bool false)).setCell ⟨d,15,none⟩ (.int .i64 0)).setCell ⟨d,16,none⟩ (.slice none 0 0)).setCell ⟨d,17,none⟩ (.bool false)).heap[d]?=some (.cells #[.int .u32 (P.c:Nat),.int .i64 (P.o:Nat),.int .i64 (P.i:Nat),.int .i64 (P.t:Nat),.int .u32 (P.n:Nat),.pointer (some ⟨m,0,none⟩),.int .u32 (mx:Nat),cp,.slice none 0 0,.int .i64 (P.t:Nat),.int .i64 0,.int .i64 (P.o:Nat),.bool false,.bool false,.bool false,.int .i64 0,.slice none 0 0,.bool false,.int .i64 0,.int .u32 0,.int .u32 0,.int .u32 0,.int .i64 0,.slice none 0 0,.bool false] 60 (0,0)):=heap_setCell_same _ _ _ _ _ _ e7
 have e9:((((((((((w.setCell ⟨d,9,none⟩ (.int .i64 (P.t:Nat))).setCell ⟨d,10,none⟩ (.int .i64 0)).setCell ⟨d,11,none⟩ (.int .i64 (P.o:Nat))).setCell ⟨d,12,none⟩ (.bool false)).setCell ⟨d,13,none⟩ (.bool false)).setCell ⟨d,14,none⟩ (.bool false)).setCell ⟨d,15,none⟩ (.int .i64 0)).setCell ⟨d,16,none⟩ (.slice none 0 0)).setCell ⟨d,17,none⟩ (.bool false)).setCell ⟨d,18,none⟩ (.int .i64 1)).heap[d]?=some (.cells #[.int .u32 (P.c:Nat),.int .i64 (P.o:Nat),.int .i64 (P.i:Nat),.int .i64 (P.t:Nat),.int .u32 (P.n:Nat),.pointer (some ⟨m,0,none⟩),.int .u32 (mx:Nat),cp,.slice none 0 0,.int .i64 (P.t:Nat),.int .i64 0,.int .i64 (P.o:Nat),.bool false,.bool false,.bool false,.int .i64 0,.slice none 0 0,.bool false,.int .i64 1,.int .u32 0,.int .u32 0,.int .u32 0,.int .i64 0,.slice none 0 0,.bool false] 60 (0,0)):=heap_setCell_same _ _ _ _ _ _ e8
 have e10:(((((((((((w.setCell ⟨d,9,none⟩ (.int .i64 (P.t:Nat))).setCell ⟨d,10,none⟩ (.int .i64 0)).setCell ⟨d,11,none⟩ (.int .i64 (P.o:Nat))).setCell ⟨d,12,none⟩ (.bool false)).setCell ⟨d,13,none⟩ (.bool false)).setCell ⟨d,14,none⟩ (.bool false)).setCell ⟨d,15,none⟩ (.int .i64 0)).setCell ⟨d,16,none⟩ (.slice none 0 0)).setCell ⟨d,17,none⟩ (.bool false)).setCell ⟨d,18,none⟩ (.int .i64 1)).setCell ⟨d,19,none⟩ (.int .u32 0)).heap[d]?=some (.cells #[.int .u32 (P.c:Nat),.int .i64 (P.o:Nat),.int .i64 (P.i:Nat),.int .i64 (P.t:Nat),.int .u32 (P.n:Nat),.pointer (some ⟨m,0,none⟩),.int .u32 (mx:Nat),cp,.slice none 0 0,.int .i64 (P.t:Nat),.int .i64 0,.int .i64 (P.o:Nat),.bool false,.bool false,.bool false,.int .i64 0,.slice none 0 0,.bool false,.int .i64 1,.int .u32 0,.int .u32 0,.int .u32 0,.int .i64 0,.slice none 0 0,.bool false] 60 (0,0)):=heap_setCell_same _ _ _ _ _ _ e9
 have e11:((((((((((((w.setCell ⟨d,9,none⟩ (.int .i64 (P.t:Nat))).setCell ⟨d,10,none⟩ (.int .i64 0)).setCell ⟨d,11,none⟩ (.int .i64 (P.o:Nat))).setCell ⟨d,12,none⟩ (.bool false)).setCell ⟨d,13,none⟩ (.bool false)).setCell ⟨d,14,none⟩ (.bool false)).setCell ⟨d,15,none⟩ (.int .i64 0)).setCell ⟨d,16,none⟩ (.slice none 0 0)).setCell ⟨d,17,none⟩ (.bool false)).setCell ⟨d,18,none⟩ (.int .i64 1)).setCell ⟨d,19,none⟩ (.int .u32 0)).setCell ⟨d,20,none⟩ (.int .u32 0)).heap[d]?=some (.cells #[.int .u32 (P.c:Nat),.int .i64 (P.o:Nat),.int .i64 (P.i:Nat),.int .i64 (P.t:Nat),.int .u32 (P.n:Nat),.pointer (some ⟨m,0,none⟩),.int .u32 (mx:Nat),cp,.slice none 0 0,.int .i64 (P.t:Nat),.int .i64 0,.int .i64 (P.o:Nat),.bool false,.bool false,.bool false,.int .i64 0,.slice none 0 0,.bool false,.int .i64 1,.int .u32 0,.int .u32 0,.int .u32 0,.int .i64 0,.slice none 0 0,.bool false] 60 (0,0)):=heap_setCell_same _ _ _ _ _ _ e10
 have e12:(((((((((((((w.setCell ⟨d,9,none⟩ (.int .i64 (P.t:Nat))).setCell ⟨d,10,none⟩ (.int .i64 0)).setCell ⟨d,11,none⟩ (.int .i64 (P.o:Nat))).setCell ⟨d,12,none⟩ (.bool false)).setCell ⟨d,13,none⟩ (.bool false)).setCell ⟨d,14,none⟩ (.bool false)).setCell ⟨d,15,none⟩ (.int .i64 0)).setCell ⟨d,16,none⟩ (.slice none 0 0)).setCell ⟨d,17,none⟩ (.bool false)).setCell ⟨d,18,none⟩ (.int .i64 1)).setCell ⟨d,19,none⟩ (.int .u32 0)).setCell ⟨d,20,none⟩ (.int .u32 0)).setCell ⟨d,21,none⟩ (.int .u32 0)).heap[d]?=some (.cells #[.int .u32 (P.c:Nat),.int .i64 (P.o:Nat),.int .i64 (P.i:Nat),.int .i64 (P.t:Nat),.int .u32 (P.n:Nat),.pointer (some ⟨m,0,none⟩),.int .u32 (mx:Nat),cp,.slice none 0 0,.int .i64 (P.t:Nat),.int .i64 0,.int .i64 (P.o:Nat),.bool false,.bool false,.bool false,.int .i64 0,.slice none 0 0,.bool false,.int .i64 1,.int .u32 0,.int .u32 0,.int .u32 0,.int .i64 0,.slice none 0 0,.bool false] 60 (0,0)):=heap_setCell_same _ _ _ _ _ _ e11
 have e13:((((((((((((((w.setCell ⟨d,9,none⟩ (.int .i64 (P.t:Nat))).setCell ⟨d,10,none⟩ (.int .i64 0)).setCell ⟨d,11,none⟩ (.int .i64 (P.o:Nat))).setCell ⟨d,12,none⟩ (.bool false)).setCell ⟨d,13,none⟩ (.bool false)).setCell ⟨d,14,none⟩ (.bool false)).setCell ⟨d,15,none⟩ (.int .i64 0)).setCell ⟨d,16,none⟩ (.slice none 0 0)).setCell ⟨d,17,none⟩ (.bool false)).setCell ⟨d,18,none⟩ (.int .i64 1)).setCell ⟨d,19,none⟩ (.int .u32 0)).setCell ⟨d,20,none⟩ (.int .u32 0)).setCell ⟨d,21,none⟩ (.int .u32 0)).setCell ⟨d,22,none⟩ (.int .i64 0)).heap[d]?=some (.cells #[.int .u32 (P.c:Nat),.int .i64 (P.o:Nat),.int .i64 (P.i:Nat),.int .i64 (P.t:Nat),.int .u32 (P.n:Nat),.pointer (some ⟨m,0,none⟩),.int .u32 (mx:Nat),cp,.slice none 0 0,.int .i64 (P.t:Nat),.int .i64 0,.int .i64 (P.o:Nat),.bool false,.bool false,.bool false,.int .i64 0,.slice none 0 0,.bool false,.int .i64 1,.int .u32 0,.int .u32 0,.int .u32 0,.int .i64 0,.slice none 0 0,.bool false] 60 (0,0)):=heap_setCell_same _ _ _ _ _ _ e12
 exact⟨e13,((((((((((((((Off.setCell d 9 w (.int .i64 (P.t:Nat))).trans (Off.setCell d 10 _ (.int .i64 0))).trans (Off.setCell d 11 _ (.int .i64 (P.o:Nat)))).trans (Off.setCell d 12 _ (.bool false))).trans (Off.setCell d 13 _ (.bool false))).trans (Off.setCell d 14 _ (.bool false))).trans (Off.setCell d 15 _ (.int .i64 0))).trans (Off.setCell d 16 _ (.slice none 0 0))).trans (Off.setCell d 17 _ (.bool false))).trans (Off.setCell d 18 _ (.int .i64 1))).trans (Off.setCell d 19 _ (.int .u32 0))).trans (Off.setCell d 20 _ (.int .u32 0))).trans (Off.setCell d 21 _ (.int .u32 0))).trans (Off.setCell d 22 _ (.int .i64 0)))⟩
set_option maxHeartbeats 6400000 in
theorem rlife_first (d m mx:Nat) (P:Pm) (cp:Value) (ms:Ms) (w:World) (h:w.heap[d]?=some (.cells #[.int .u32 (P.c:Nat),.int .i64 (P.o:Nat),.int .i64 (P.i:Nat),.int .i64 (P.t:Nat),.int .u32 (P.n:Nat),.pointer (some ⟨m,0,none⟩),.int .u32 (mx:Nat),cp,.slice none 0 0,.int .i64 0,.int .i64 0,.int .i64 0,.bool false,.bool false,.bool false,.int .i64 0,.slice none 0 0,.bool false,.int .i64 0,.int .u32 0,.int .u32 0,.int .u32 0,.int .i64 0,.slice none 0 0,.bool false] 60 (0,0))) (hi8:P.i≤8) :
  Calls Tryz.prog 95 #[.pointer (some ⟨d,0,none⟩),.int .i64 1] w fun e w'=>e=.returned (.tuple #[])∧Hid (Off [d] w w'∧∃ ga,w.heap.size≤ga∧ga<w'.heap.size∧w'.heap[d]?=some (.cells (RDC P m mx cp (.slice none 0 0) (.slice none 0 0) (dnew ms) (.slice (some ⟨ga,0,none⟩) P.i P.i)) 60 (0,0))∧w'.ownsRow 0 5 1 (.slice (some ⟨ga,0,none⟩) P.i P.i) P.i (CB (fun _=>0) P.i)):=by
 obtain⟨i0,hi,hz0,hz1,hz2⟩:=info_parts info_u8
 have hdl:d<w.heap.size:=(Array.getElem?_eq_some_iff.1 h).1
 have c1:w.cell? ⟨d,1,none⟩=some (.int .i64 (P.o:Nat)):=cell_of_row w d 1 _ _ _ h
 have c2:w.cell? ⟨d,2,none⟩=some (.int .i64 (P.i:Nat)):=cell_of_row w d 2 _ _ _ h
 have c3:w.cell? ⟨d,3,none⟩=some (.int .i64 (P.t:Nat)):=cell_of_row w d 3 _ _ _ h
 have c9:w.cell? ⟨d,9,none⟩=some (.int .i64 0):=cell_of_row w d 9 _ _ _ h
 have z9:=frozen_of_row w d 9 _ _ h
 have c10:w.cell? ⟨d,10,none⟩=some (.int .i64 0):=cell_of_row w d 10 _ _ _ h
 have z10:=frozen_of_row w d 10 _ _ h
 have c11:w.cell? ⟨d,11,none⟩=some (.int .i64 0):=cell_of_row w d 11 _ _ _ h
 have z11:=frozen_of_row w d 11 _ _ h
 have c12:w.cell? ⟨d,12,none⟩=some (.bool false):=cell_of_row w d 12 _ _ _ h
 have z12:=frozen_of_row w d 12 _ _ h
 have c13:w.cell? ⟨d,13,none⟩=some (.bool false):=cell_of_row w d 13 _ _ _ h
 have z13:=frozen_of_row w d 13 _ _ h
 have c14:w.cell? ⟨d,14,none⟩=some (.bool false):=cell_of_row w d 14 _ _ _ h
 have z14:=frozen_of_row w d 14 _ _ h
 have c15:w.cell? ⟨d,15,none⟩=some (.int .i64 0):=cell_of_row w d 15 _ _ _ h
 have z15:=frozen_of_row w d 15 _ _ h
 have c16:w.cell? ⟨d,16,none⟩=some (.slice none 0 0):=cell_of_row w d 16 _ _ _ h
 have z16:=frozen_of_row w d 16 _ _ h
 have c17:w.cell? ⟨d,17,none⟩=some (.bool false):=cell_of_row w d 17 _ _ _ h
 have z17:=frozen_of_row w d 17 _ _ h
 have c18:w.cell? ⟨d,18,none⟩=some (.int .i64 0):=cell_of_row w d 18 _ _ _ h
 have z18:=frozen_of_row w d 18 _ _ h
 have c19:w.cell? ⟨d,19,none⟩=some (.int .u32 0):=cell_of_row w d 19 _ _ _ h
 have z19:=frozen_of_row w d 19 _ _ h
 have c20:w.cell? ⟨d,20,none⟩=some (.int .u32 0):=cell_of_row w d 20 _ _ _ h
 have z20:=frozen_of_row w d 20 _ _ h
 have c21:w.cell? ⟨d,21,none⟩=some (.int .u32 0):=cell_of_row w d 21 _ _ _ h
 have z21:=frozen_of_row w d 21 _ _ h
 have c22:w.cell? ⟨d,22,none⟩=some (.int .i64 0):=cell_of_row w d 22 _ _ _ h
 have z22:=frozen_of_row w d 22 _ _ h
 have l14:=lifeZ h
 have H:Hid (_):=And.intro hdl l14
 clear h l14 hdl
 go_enter Tryz.func95,Tryz.ntmps95
 go_upto_region 7 with fail
 generalize ((((((((((((((w.setCell ⟨d,9,none⟩ (.int .i64 (P.t:Nat))).setCell ⟨d,10,none⟩ (.int .i64 0)).setCell ⟨d,11,none⟩ (.int .i64 (P.o:Nat))).setCell ⟨d,12,none⟩ (.bool false)).setCell ⟨d,13,none⟩ (.bool false)).setCell ⟨d,14,none⟩ (.bool false)).setCell ⟨d,15,none⟩ (.int .i64 0)).setCell ⟨d,16,none⟩ (.slice none 0 0)).setCell ⟨d,17,none⟩ (.bool false)).setCell ⟨d,18,none⟩ (.int .i64 1)).setCell ⟨d,19,none⟩ (.int .u32 0)).setCell ⟨d,20,none⟩ (.int .u32 0)).setCell ⟨d,21,none⟩ (.int .u32 0)).setCell ⟨d,22,none⟩ (.int .i64 0))=w1 at *
 have e1:=H.out.2.1
 have hd1:d<w1.heap.size:=Nat.lt_of_lt_of_le H.out.1 H.out.2.2.size
 have d2:w1.cell? ⟨d,2,none⟩=some (.int .i64 (P.i:Nat)):=cell_of_row w1 d 2 _ _ _ e1
 have H1:Hid (_):=And.intro e1 hd1
 clear e1 hd1 c1 c2 c3 c9 z9 c10 z10 c11 z11 c12 z12 c13 z13 c14 z14 c15 z15 c16 z16 c17 z17 c18 z18 c19 z19 c20 z20 c21 z21 c22 z22
 go_wp2_with (at_make;refine wpList_make8 _ rfl (.tmp 43) (.tmp 43) 29 rfl w1.heap.size 5 i0 Tryz.underlying29 hi hz0 hz1 hz2 _ _ _ _ P.i P.i rfl rfl rfl rfl (Nat.le_refl _) (by omega) (Nat.le_refl _) ?_)
 intro w2 hown2 hbel2
 have e2:=(hbel2.block d H1.out.2).trans H1.out.1
 have c23:w2.cell? ⟨d,23,none⟩=some (.slice none 0 0):=cell_of_row w2 d 23 _ _ _ e2
 have c24:w2.cell? ⟨d,24,none⟩=some (.bool false):=cell_of_row w2 d 24 _ _ _ e2
 have z23:=frozen_of_row w2 d 23 _ _ e2
 have z24:=frozen_of_row w2 d 24 _ _ e2
 have H2:Hid (_):=And.intro hown2 (And.intro hbel2 e2)
 clear hown2 hbel2 e2 d2 H1
 go_wp2_with fail
 go_end0
 obtain⟨hown2,hbel2,e2⟩:=H2.out
 have e3:(w2.setCell ⟨d,23,none⟩ (.slice (some ⟨w1.heap.size,0,none⟩) P.i P.i)).heap[d]?=some (.cells #[.int .u32 (P.c:Nat),.int .i64 (P.o:Nat),.int .i64 (P.i:Nat),.int .i64 (P.t:Nat),.int .u32 (P.n:Nat),.pointer (some ⟨m,0,none⟩),.int .u32 (mx:Nat),cp,.slice none 0 0,.int .i64 (P.t:Nat),.int .i64 0,.int .i64 (P.o:Nat),.bool false,.bool false,.bool false,.int .i64 0,.slice none 0 0,.bool false,.int .i64 1,.int .u32 0,.int .u32 0,.int .u32 0,.int .i64 0,.slice (some ⟨w1.heap.size,0,none⟩) P.i P.i,.bool false] 60 (0,0)):=heap_setCell_same _ _ _ _ _ _ e2
 have e4:((w2.setCell ⟨d,23,none⟩ (.slice (some ⟨w1.heap.size,0,none⟩) P.i P.i)).setCell ⟨d,24,none⟩ (.bool false)).heap[d]?=some (.cells #[.int .u32 (P.c:Nat),.int .i64 (P.o:Nat),.int .i64 (P.i:Nat),.int .i64 (P.t:Nat),.int .u32 (P.n:Nat),.pointer (some ⟨m,0,none⟩),.int .u32 (mx:Nat),cp,.slice none 0 0,.int .i64 (P.t:Nat),.int .i64 0,.int .i64 (P.o:Nat),.bool false,.bool false,.bool false,.int .i64 0,.slice none 0 0,.bool false,.int .i64 1,.int .u32 0,.int .u32 0,.int .u32 0,.int .i64 0,.slice (some ⟨w1.heap.size,0,none⟩) P.i P.i,.bool false] 60 (0,0)):=heap_setCell_same _ _ _ _ _ _ e3
 have o4:Off [d] w2 ((w2.setCell ⟨d,23,none⟩ (.slice (some ⟨w1.heap.size,0,none⟩) P.i P.i)).setCell ⟨d,24,none⟩ (.bool false)):=(Off.setCell d 23 w2 _).trans (Off.setCell d 24 _ (.bool false))
 have hga:=own_far hown2 ⟨w1.heap.size,0,none⟩ rfl
 have hs1:=H.out.2.2.size
 have hs4:=o4.size
 refine⟨rfl,(H.out.2.2.trans (Off.of_below hbel2)).trans o4,w1.heap.size,hs1,by have:=hga.2;simp only at this;omega,e4,own_offk (own_base hown2 (Nat.zero_le _)) o4 (fun k hk=>?_)⟩
 cases hk
 have:=H.out.1
 simp;omega
set_option maxHeartbeats 1600000 in
theorem rnew_bad (c:Nat) (o i t:Int) (n:Nat) (p:Option Addr) (x:Int) (w:World) (hE:¬ okP c o i t n) :
  Calls Tryz.prog 51 #[.agg #[.int .u32 c,.int .i64 o,.int .i64 i,.int .i64 t,.int .u32 n],.pointer p,.int .u32 x] w fun e w'=>e=.returned (.tuple #[.pointer none,.int .i64 90])∧Below w.heap.size w w':=by
 have hb:Below w.heap.size w (w.alloc (.cells #[.int .u32 c,.int .i64 o,.int .i64 i,.int .i64 t,.int .u32 n] 49)):=(Below.refl _ _).alloc (Nat.le_refl _) _
 have hC:=rlaw_any c o i t n (w.alloc (.cells #[.int .u32 c,.int .i64 o,.int .i64 i,.int .i64 t,.int .u32 n] 49)) false (decide_eq_false hE)
 have HB:Hid (_):=hb
 clear hE hb
 go_enter Tryz.func51,Tryz.ntmps51
 go_wp2_with (go_at_call 101;refine hC.mono ?_;rintro e w2 ⟨rfl,b2⟩)
 go_ret2
 exact⟨rfl,HB.out.trans (b2.mono HB.out.size)⟩
theorem ropened (mx n:Nat) (ms:Ms) (h:opE mx n ms=0):mx≠0∧10≤n:=by
 unfold opE at h
 by_cases h1:mx=0∨n<10
 ·rw[if_pos h1]at h;omega
 ·omega
theorem RB.made {w:World} {d m g n mx c ga:Nat} {P:Pm} {ms:Ms} (hP:Pok P) (hn:10≤n) (hx0:mx≠0) (hx:mx<4294967296) (hM:RR w m g n ms) (hC:RX w c m mx (vz ms.bs) false) (hoff:ms.off=false) (hm:m<c) (hg:g<c) (hc:c<d) (hd:d<ga) (hga:ga<w.heap.size)
  (hdev:w.heap[d]?=some (.cells (RDC P m mx (.pointer (some ⟨c,0,none⟩)) (.slice none 0 0) (.slice none 0 0) (dnew ms) (.slice (some ⟨ga,0,none⟩) P.i P.i)) 60 (0,0))) (hown:w.ownsRow 0 5 1 (.slice (some ⟨ga,0,none⟩) P.i P.i) P.i (CB (fun _=>0) P.i)) :
  RW w d m g n mx P [d,m,g,c,ga] (dnew ms):=by
 refine⟨⟨c,[],.pointer (some ⟨c,0,none⟩),.slice none 0 0,.slice none 0 0,.slice (some ⟨ga,0,none⟩) P.i P.i,fun k=>if k=d then 0 else if k=m∨k=g then 1 else if k=c then 2 else 6⟩,hdev,hM,fun _=>⟨rfl,hC,hoff⟩,.inl ⟨rfl,rfl⟩,World.ownsRow_nil w _ _ _,hown,fun i _=>(by show 0<256;omega),Vok.new,Nat.zero_le _,?_,?_,?_,?_,?_,fun k hk=>(by simp at hk),fun k hk=>(by cases hk),?_,hP,hn,hx0,hx,fun _=>rfl⟩
 ·intro k hk
  simp at hk
  omega
 ·exact⟨if_pos rfl,by simp⟩
 ·exact⟨by dsimp only;rw[if_neg (by omega),if_pos (.inl rfl)],by simp⟩
 ·exact⟨by dsimp only;rw[if_neg (by omega),if_pos (.inr rfl)],by simp⟩
 ·exact⟨by dsimp only;rw[if_neg (by omega),if_neg (by omega),if_pos rfl],by simp⟩
 ·intro k hk
  cases hk
  exact⟨by dsimp only;rw[if_neg (by omega),if_neg (by omega),if_neg (by omega)],by simp⟩
set_option maxHeartbeats 6400000 in
theorem rnew_any (m g n mx:Nat) (P:Pm) (hP:Pok P) (ms:Ms) (w:World) (hM:RR w m g n ms) (hx:mx<4294967296) (ht:ms.t<9223372036854774000) :
  Calls Tryz.prog 51 #[.agg #[.int .u32 (P.c:Nat),.int .i64 (P.o:Nat),.int .i64 (P.i:Nat),.int .i64 (P.t:Nat),.int .u32 (P.n:Nat)],.pointer (some ⟨m,0,none⟩),.int .u32 (mx:Nat)] w fun e w'=>∃ p,e=.returned (.tuple #[.pointer p,.int .i64 (opE mx n ms)])∧Hid (Off [m,g] w w'∧RR w' m g n (opS mx n ms)∧(opE mx n ms=0→∃ d U,p=some ⟨d,0,none⟩∧RW w' d m g n mx P U (dnew (opS mx n ms))∧∀ k,k ∈ U→k=m∨k=g∨w.heap.size≤k)∧(¬ opE mx n ms=0→p=none)):=by
 obtain⟨E,hE⟩:∃ x,opE mx n ms=x:=⟨_,rfl⟩
 rw[hE]
 have hb:Below w.heap.size w (w.alloc (.cells #[.int .u32 (P.c:Nat),.int .i64 (P.o:Nat),.int .i64 (P.i:Nat),.int .i64 (P.t:Nat),.int .u32 (P.n:Nat)] 49)):=(Below.refl _ _).alloc (Nat.le_refl _) _
 have hx0:=heap_alloc_new w (.cells #[.int .u32 (P.c:Nat),.int .i64 (P.o:Nat),.int .i64 (P.i:Nat),.int .i64 (P.t:Nat),.int .u32 (P.n:Nat)] 49)
 have hs:w.heap.size < (w.alloc (.cells #[.int .u32 (P.c:Nat),.int .i64 (P.o:Nat),.int .i64 (P.i:Nat),.int .i64 (P.t:Nat),.int .u32 (P.n:Nat)] 49)).heap.size:=by simp
 have hC:=rlaw_any P.c P.o P.i P.t P.n (w.alloc (.cells #[.int .u32 (P.c:Nat),.int .i64 (P.o:Nat),.int .i64 (P.i:Nat),.int .i64 (P.t:Nat),.int .u32 (P.n:Nat)] 49)) true (decide_eq_true hP.ok)
 have hO:∀ wx,RR wx m g n ms→Calls Tryz.prog 97 #[.pointer (some ⟨m,0,none⟩),.int .u32 (mx:Nat)] wx fun e w'=>∃ p,e=.returned (.tuple #[.pointer p,.int .i64 E])∧Hid (Off [m,g] wx w'∧RR w' m g n (opS mx n ms)∧(E=0→∃ d,p=some ⟨d,0,none⟩∧wx.heap.size≤d∧RX w' d m mx (vz ms.bs) false)∧(¬ E=0→p=none)):=by
  intro wx hMx
  subst hE
  exact ropen m g n mx ms wx hMx ht
 have HO:Hid (_):=hO
 have HH:Hid (_):=And.intro hb (And.intro hs (And.intro hx0 (And.intro hM (And.intro hE (And.intro hP hx)))))
 clear hO hb hs hx0 hM hE hP hx ht
 go_enter Tryz.func51,Tryz.ntmps51
 go_wp2_with (go_at_call 101;refine hC.mono ?_;rintro e w1 ⟨rfl,b1⟩)
 obtain⟨hb,hs,hx0,hM,_⟩:=HH.out
 have bb:=hb.trans (b1.mono hb.size)
 refine (HO.out w1 (hM.off (Off.of_below (l:=[]) bb) (by simp) (by simp))).mono ?_
 rintro e w2 ⟨p,rfl,h2⟩
 have l1:=hM.lt
 have l2:=hM.lg
 have l3:=b1.size
 have e2:w2.heap[w.heap.size]?=some (.cells #[.int .u32 (P.c:Nat),.int .i64 (P.o:Nat),.int .i64 (P.i:Nat),.int .i64 (P.t:Nat),.int .u32 (P.n:Nat)] 49 (0,0)):=by
  rw[h2.out.1.block w.heap.size (by omega) (by simp;omega),b1.block _ (by omega)]
  exact hx0
 have H2:Hid (_):=And.intro bb (And.intro h2.out (And.intro HH.out (And.intro (by omega:w.heap.size<w1.heap.size) (And.intro l1 l2))))
 by_cases he:E=0
 ·have e0:(E != 0)=false:=by simp[he]
  obtain⟨c,rfl,hc,hC2⟩:=h2.out.2.2.1 he
  have HE:Hid (_):=And.intro he (And.intro hc hC2)
  have p0:w2.cell? ⟨w.heap.size,0,none⟩=some (.int .u32 (P.c:Nat)):=cell_of_row w2 _ 0 _ _ _ e2
  have p1:w2.cell? ⟨w.heap.size,1,none⟩=some (.int .i64 (P.o:Nat)):=cell_of_row w2 _ 1 _ _ _ e2
  have p2:w2.cell? ⟨w.heap.size,2,none⟩=some (.int .i64 (P.i:Nat)):=cell_of_row w2 _ 2 _ _ _ e2
  have p3:w2.cell? ⟨w.heap.size,3,none⟩=some (.int .i64 (P.t:Nat)):=cell_of_row w2 _ 3 _ _ _ e2
  have p4:w2.cell? ⟨w.heap.size,4,none⟩=some (.int .u32 (P.n:Nat)):=cell_of_row w2 _ 4 _ _ _ e2
  have hF:=rlife_first w2.heap.size m mx P (.pointer (some ⟨c,0,none⟩)) (opS mx n ms) (w2.alloc (.cells #[.int .u32 (P.c:Nat),.int .i64 (P.o:Nat),.int .i64 (P.i:Nat),.int .i64 (P.t:Nat),.int .u32 (P.n:Nat),.pointer (some ⟨m,0,none⟩),.int .u32 (mx:Nat),.pointer (some ⟨c,0,none⟩),.slice none 0 0,.int .i64 0,.int .i64 0,.int .i64 0,.bool false,.bool false,.bool false,.int .i64 0,.slice none 0 0,.bool false,.int .i64 0,.int .u32 0,.int .u32 0,.int .u32 0,.int .i64 0,.slice none 0 0,.bool false] 60)) (heap_alloc_new w2 _) HH.out.2.2.2.2.2.1.i8
  clear hC b1 hb hs hx0 hM bb h2 e2 he hc hC2 HO l1 l2 l3
  go_wp2_with fail
  refine hF.mono ?_
  rintro e w3 ⟨rfl,h3⟩
  clear hF p0 p1 p2 p3 p4
  go_wp2_with fail
  go_ret2
  obtain⟨bb,⟨o2,m2,_,_⟩,⟨_,_,_,hM,hE,hP,hx⟩,hw1,l1,l2⟩:=H2.out
  obtain⟨he,hc,hC2⟩:=HE.out
  obtain⟨o3,ga,hga,hgl,hdev,hown⟩:=h3.out
  subst he
  obtain⟨mx0,n10⟩:=ropened mx n ms hE
  have hoff:=opS_off hM.l0 hE
  have oA:Off [] w2 (w2.alloc (.cells #[.int .u32 (P.c:Nat),.int .i64 (P.o:Nat),.int .i64 (P.i:Nat),.int .i64 (P.t:Nat),.int .u32 (P.n:Nat),.pointer (some ⟨m,0,none⟩),.int .u32 (mx:Nat),.pointer (some ⟨c,0,none⟩),.slice none 0 0,.int .i64 0,.int .i64 0,.int .i64 0,.bool false,.bool false,.bool false,.int .i64 0,.slice none 0 0,.bool false,.int .i64 0,.int .u32 0,.int .u32 0,.int .u32 0,.int .i64 0,.slice none 0 0,.bool false] 60)):=Off.alloc _ _ _
  have o23:Off [w2.heap.size] w2 w3:=(oA.more (by simp)).trans o3
  have hcl:=hC2.lt
  have k7:=o2.size
  rw[World.size_alloc]at hga
  have hm2:m<w2.heap.size:=m2.lt
  have hg2:g<w2.heap.size:=m2.lg
  have M3:=m2.off o23 (by simp;omega) (by simp;omega)
  have C3:=hC2.off o23 (by simp;omega)
  rw[← opS_vz hM.l0 (fun i hi=>hM.byte i (by omega)) (mx:=mx) (n:=n)]at C3
  refine⟨_,rfl,?_,M3,fun _=>⟨w2.heap.size,[w2.heap.size,m,g,c,ga],rfl,RB.made hP n10 mx0 hx M3 C3 hoff (by omega) (by omega) (by omega) (by omega) hgl hdev hown,?_⟩,fun h=>absurd rfl h⟩
  ·have q:=(Off.of_below (l:=[m,g]) bb).trans o2
   exact⟨o23.os.trans q.os,o23.tape.trans q.tape,o23.output.trans q.output,Nat.le_trans q.size o23.size,fun i hi hn=>(o23.block i (by have:=q.size;omega) (by simp;have:=q.size;have:=bb.size;omega)).trans (q.block i hi hn)⟩
  ·intro k hk
   simp at hk
   have:=bb.size
   omega
 ·have e0:(E != 0)=true:=by simp[he]
  obtain rfl:=h2.out.2.2.2 he
  have HE:Hid (_):=he
  clear he hC b1 hb hs hx0 hM bb h2 e2 l1 l2 l3
  go_wp2_with fail
  go_ret2
  obtain⟨bb,⟨o2,m2,_,_⟩,hh,_⟩:=H2.out
  exact⟨none,rfl,(Off.of_below bb).trans o2,m2,fun h=>absurd h HE.out,fun _=>rfl⟩
structure Iv (P:Pm) (s:Sd):Prop where
 st1:1≤s.st
 st6:s.st≤6
 ss:s.ss<4294967296
 nm:s.nm<4294967296
 sn:s.sn<4294967296
 hs:s.st=2∨s.st=3→s.sn=0∧s.nm=0∧s.ss≠0
 run:s.st=4→s.sn≤s.nm∧s.nm<P.n∧s.ss≠0
 od:s.od<4
 vr:s.v.run=decide (s.st=4)
 vok:Vok s.v
 s0:s.ss=0→s.nm=0
 z:s.ss=0∨s.ss=vz s.ms.bs
 d6:s.st=6→s.ap=(fun _=>0)∧s.hd=false
structure Mo (mx n:Nat) (s:Sd):Prop where
 n10:10≤n
 mx0:mx≠0
 mxl:mx<4294967296
 l0:0≤s.ms.l
 bz:Bz s.ms.bs
 off:s.st≠6→s.ms.off=false
theorem Mo.of {w:World} {d m g n mx:Nat} {P:Pm} {U:List Nat} {s:Sd} (h:DV w d m g n mx P U s):Mo mx n s:=by
 obtain⟨a,b,c,e,f,g⟩:=h.facts
 exact⟨c,e,f,b,a,g⟩
section
variable {P:Pm} {mx n:Nat} {s:Sd}
theorem vtrip_run (v:Vs) (x:Int):(vtrip v x).run=v.run:=by unfold vtrip;split <;> rfl
theorem vrun_run (v:Vs) (o:Bool):(vrun v o).run=o:=by
 unfold vrun
 split
 ·assumption
 ·rfl
theorem vtake_run (v:Vs) (bs:Nat→Nat):(vtake v bs).run=v.run:=by unfold vtake;split <;> rfl
theorem vack_run (v:Vs):(vack v).run=v.run:=by unfold vack;split <;> rfl
theorem dlatch_v (s:Sd) (x:Int):(dlatch s x).v=vtrip s.v x:=by unfold dlatch dnote;split <;> rfl
theorem dlatch_flds (s:Sd) (x:Int):(dlatch s x).st=s.st∧(dlatch s x).ss=s.ss∧(dlatch s x).nm=s.nm∧(dlatch s x).sn=s.sn∧(dlatch s x).od=s.od∧(dlatch s x).ms=s.ms∧(dlatch s x).ap=s.ap∧(dlatch s x).hd=s.hd:=by unfold dlatch dnote;split <;> exact⟨rfl,rfl,rfl,rfl,rfl,rfl,rfl,rfl⟩
theorem Iv.latch (h:Iv P s) (x:Int):Iv P (dlatch s x):=by
 unfold dlatch dnote
 split
 ·exact⟨h.st1,h.st6,h.ss,h.nm,h.sn,h.hs,h.run,h.od,(vtrip_run _ _).trans h.vr,h.vok.trip x,h.s0,h.z,h.d6⟩
 ·exact⟨h.st1,h.st6,h.ss,h.nm,h.sn,h.hs,h.run,h.od,(vtrip_run _ _).trans h.vr,h.vok.trip x,h.s0,h.z,h.d6⟩
theorem Iv.note (h:Iv P s) (x:Int):Iv P (dnote s x):=⟨h.st1,h.st6,h.ss,h.nm,h.sn,h.hs,h.run,h.od,h.vr,h.vok,h.s0,h.z,h.d6⟩
theorem Iv.leave (hv:Vok s.v) {k:Nat} (h1:1≤k) (h5:k≤5) (h4:k≠4) (h2:k≠2) (h3:k≠3):Iv P (dleave s k):=
 ⟨h1,Nat.le_succ_of_le h5,by show (0:Nat)<_;omega,by show (0:Nat)<_;omega,by show (0:Nat)<_;omega,fun e=>by have e:k=2∨k=3:=e;omega,fun e=>absurd e h4,by show (0:Nat)<4;omega,by
  show (vrun s.v false).run=decide (k=4)
  rw[vrun_run,decide_eq_false h4],hv.run false,fun _=>rfl,.inl rfl,fun e=>by have e:k=6:=e;omega⟩
theorem Iv.life {k:Nat} (h1:1≤k) (h6:k≤6) (h4:k≠4) (h2:k≠2) (h3:k≠3):Iv P (dlife s k):=
 ⟨h1,h6,by show (0:Nat)<_;omega,by show (0:Nat)<_;omega,by show (0:Nat)<_;omega,fun e=>by have e:k=2∨k=3:=e;omega,fun e=>absurd e h4,by show (0:Nat)<4;omega,(decide_eq_false h4).symm,Vok.new,fun _=>rfl,.inl rfl,fun _=>⟨rfl,rfl⟩⟩
theorem Iv.odd (h:Iv P s):Iv P (dodd s):=by
 unfold dodd
 split
 ·split
  ·rename_i h4
   exact⟨h.st1,h.st6,h.ss,h.nm,h.sn,h.hs,h.run,h4,h.vr,h.vok,h.s0,h.z,h.d6⟩
  ·refine Iv.leave ?_ (by omega) (by omega) (by omega) (by omega) (by omega)
   split
   ·rw[dlatch_v];exact h.vok.trip _
   ·exact h.vok
 ·exact h
theorem Iv.begin_ (h:Iv P s) (M:Mo mx n s) (hu:s.st≠6):Iv P (dbegin P mx n s).s:=by
 have hv:=nx_vz (mx:=mx) (n:=n) (s:=s.ms) M.n10 (M.off hu) M.l0 M.mxl
 unfold dbegin
 generalize nx mx n s.ms.bs false s.ms=X at *
 have hm:=M.mxl
 split
 ·refine Iv.leave ?_ (by omega) (by omega) (by omega) (by omega) (by omega)
  rw[dlatch_v];exact h.vok.trip _
 ·split
  ·exact Iv.life (by omega) (by omega) (by omega) (by omega) (by omega)
  ·rename_i e0
   have e0:X.e=0:=by simpa using e0
   obtain⟨v1,v2,v3⟩:=hv.1 e0
   refine⟨by show 1≤2;omega,by show 2≤6;omega,by show X.v<_;omega,by show (0:Nat)<_;omega,by show (0:Nat)<_;omega,fun _=>⟨rfl,rfl,by show X.v≠0;omega⟩,fun e=>by have e:(2:Nat)=4:=e;omega,by show (0:Nat)<4;omega,?_,h.vok.run false,fun _=>rfl,.inr ?_,fun e=>by have e:(2:Nat)=6:=e;omega⟩
   ·show (vrun s.v false).run=decide ((2:Nat)=4)
    rw[vrun_run];rfl
   ·show X.v=vz X.s.bs
    omega
theorem Mo.odd (M:Mo mx n s):Mo mx n (dodd s):=by
 refine⟨M.n10,M.mx0,M.mxl,by rw[dodd_ms];exact M.l0,by rw[dodd_ms];exact M.bz,fun _=>?_⟩
 rw[dodd_ms]
 by_cases h6:s.st=6
 ·exfalso
  have:dodd s=s:=by unfold dodd dbusy;rw[h6];rfl
  rename_i hh
  rw[this]at hh
  exact hh h6
 ·exact M.off h6
theorem Iv.wish (h:Iv P s) (M:Mo mx n s) (hu:s.st≠6):Iv P (dwish P mx n s).s:=by
 unfold dwish
 split
 ·exact h.odd
 ·split
  ·exact h.odd
  ·exact h.odd.begin_ M.odd (dodd_up hu)
theorem Iv.echo (h:Iv P s):Iv P (dechoS s):=by
 unfold dechoS
 split
 ·rename_i h2
  have hq:=h.hs (.inl h2)
  refine⟨by show 1≤3;omega,by show 3≤6;omega,h.ss,h.nm,h.sn,fun _=>hq,fun e=>by have e:(3:Nat)=4:=e;omega,by show (0:Nat)<4;omega,?_,h.vok.fresh,h.s0,h.z,fun e=>by have e:(3:Nat)=6:=e;omega⟩
  show s.v.run=decide ((3:Nat)=4)
  rw[h.vr,h2];rfl
 ·exact h
theorem Iv.start (h:Iv P s) (hP:Pok P):Iv P (dstartS s):=by
 unfold dstartS
 split
 ·rename_i h3
  have hq:=h.hs (.inr h3)
  have:=hP.n2
  refine⟨by show 1≤4;omega,by show 4≤6;omega,h.ss,h.nm,h.sn,fun e=>by have e:(4:Nat)=2∨(4:Nat)=3:=e;omega,fun _=>⟨by show s.sn≤s.nm;omega,by show s.nm<_;omega,hq.2.2⟩,by show (0:Nat)<4;omega,?_,(h.vok.run true).fresh,h.s0,h.z,fun e=>by have e:(4:Nat)=6:=e;omega⟩
  show (vrun s.v true).run=decide ((4:Nat)=4)
  rw[vrun_run];rfl
 ·exact h
theorem Iv.data (h:Iv P s) (hP:Pok P) {num fl:Nat} {bs:Nat→Nat} (h4:s.st=4) (hn:s.nm<num) (hc:num<P.n):Iv P (ddataS s num fl bs):=by
 have hq:=h.run h4
 have hp:=hP.n
 refine⟨h.st1,h.st6,h.ss,by show num<_;omega,by show s.sn+1<_;omega,fun e=>by have e:s.st=2∨s.st=3:=e;omega,fun _=>⟨by show s.sn+1≤num;omega,hc,hq.2.2⟩,by show (0:Nat)<4;omega,?_,(h.vok.fresh.hold _).take _,fun e=>absurd e hq.2.2,h.z,fun e=>by have e:s.st=6:=e;omega⟩
 show (vtake (vhold (vfresh s.v) (decide (8≤fl))) bs).run=decide (s.st=4)
 rw[vtake_run];exact h.vr
theorem Iv.last (h:Iv P s) (hP:Pok P) (h4:s.st=4):Iv P (dendS (dlastS P s)):=by
 have hq:=h.run h4
 have hp:=hP.n
 obtain⟨l1,l2,l3,l4,l5,l6,l7,l8⟩:=dlatch_flds (don { s with nm:=P.n }) 80
 refine⟨by show 1≤5;omega,by show 5≤6;omega,?_,?_,hp,fun e=>by have e:(5:Nat)=2∨(5:Nat)=3:=e;omega,fun e=>by have e:(5:Nat)=4:=e;omega,?_,?_,?_,?_,?_,fun e=>by have e:(5:Nat)=6:=e;omega⟩
 ·show (dlatch (don { s with nm:=P.n }) 80).ss<_
  rw[l2];exact h.ss
 ·show (dlatch (don { s with nm:=P.n }) 80).nm<_
  rw[l3];exact hp
 ·show (dlatch (don { s with nm:=P.n }) 80).od<4
  rw[l5];show (0:Nat)<4;omega
 ·show (vrun (dlatch (don { s with nm:=P.n }) 80).v false).run=decide ((5:Nat)=4)
  rw[vrun_run];rfl
 ·show Vok (vrun (dlatch (don { s with nm:=P.n }) 80).v false)
  rw[dlatch_v]
  exact (h.vok.fresh.trip _).run _
 ·intro e
  have e:(dlatch (don { s with nm:=P.n }) 80).ss=0:=e
  rw[l2]at e
  exact absurd e hq.2.2
 ·show (dlatch (don { s with nm:=P.n }) 80).ss=0∨(dlatch (don { s with nm:=P.n }) 80).ss=vz (dlatch (don { s with nm:=P.n }) 80).ms.bs
  rw[l2,l6];exact h.z
theorem Iv.take (h:Iv P s) (hP:Pok P) (M:Mo mx n s) (hu:s.st≠6) (k ss num fl len:Nat) (bs:Nat→Nat):Iv P (dtake P mx n s k ss num fl len bs).s:=by
 unfold dtake
 split
 ·split
  ·exact h.wish M hu
  ·exact h.odd
 ·split
  ·split
   ·exact h.echo
   ·exact h.odd
  ·split
   ·exact h.start hP
   ·split
    ·rename_i hh
     exact h.data hP hh.2.1.2.1 hh.2.1.2.2 hh.2.2.1
    ·split
     ·rename_i hh
      exact h.last hP hh.2.1.2.1
     ·exact h.odd
theorem Iv.hear (h:Iv P s) (hP:Pok P) (M:Mo mx n s) (hu:s.st≠6) (len:Nat) (bs:Nat→Nat):Iv P (dhear P mx n s len bs).s:=by
 unfold dhear
 split
 ·exact h
 ·split
  ·exact h
  ·split
   ·exact h
   ·exact h.take hP M hu _ _ _ _ _ _
theorem Iv.recv (h:Iv P s) (hP:Pok P) (M:Mo mx n s) (len:Nat) (bs:Nat→Nat):Iv P (drecv P mx n s len bs).s:=by
 unfold drecv
 split
 ·exact h
 ·rename_i hu
  split
  ·exact (h.hear hP M hu len bs).note _
  ·exact h.hear hP M hu len bs
theorem Iv.tick (h:Iv P s) (k:Int):Iv P (dtickS P s k):=by
 unfold dtickS
 split
 ·exact h
 ·split
  ·exact h
  ·have h':Iv P { s with dc:=tk P.t s.dc k.toNat }:=⟨h.st1,h.st6,h.ss,h.nm,h.sn,h.hs,h.run,h.od,h.vr,h.vok,h.s0,h.z,h.d6⟩
   split
   ·exact h'.latch _
   ·exact h'
theorem Iv.ack (h:Iv P s):Iv P (dackS s):=by
 unfold dackS
 split
 ·exact h
 ·exact⟨h.st1,h.st6,h.ss,h.nm,h.sn,h.hs,h.run,h.od,(vack_run _).trans h.vr,h.vok.ack,h.s0,h.z,h.d6⟩
theorem Iv.reset (h:Iv P s) (k:Int):Iv P (dresetS mx n s k):=by
 unfold dresetS
 split
 ·exact h
 ·split
  ·exact Iv.life (by omega) (by omega) (by omega) (by omega) (by omega)
  ·exact Iv.life (by omega) (by omega) (by omega) (by omega) (by omega)
theorem Iv.arm (h:Iv P s) (p:Int):Iv P { s with ms:=arS s.ms p }:=
 ⟨h.st1,h.st6,h.ss,h.nm,h.sn,h.hs,h.run,h.od,h.vr,h.vok,h.s0,by
  have:(arS s.ms p).bs=s.ms.bs:=by unfold arS;split <;> rfl
  show s.ss=0∨s.ss=vz (arS s.ms p).bs
  rw[this];exact h.z,h.d6⟩
theorem Iv.new_ (ms:Ms):Iv P (dnew ms):=
 ⟨by show 1≤1;omega,by show 1≤6;omega,by show (0:Nat)<_;omega,by show (0:Nat)<_;omega,by show (0:Nat)<_;omega,fun e=>by have e:(1:Nat)=2∨(1:Nat)=3:=e;omega,fun e=>by have e:(1:Nat)=4:=e;omega,by show (0:Nat)<4;omega,rfl,Vok.new,fun _=>rfl,.inl rfl,fun e=>by have e:(1:Nat)=6:=e;omega⟩
theorem Iv.sent (h:Iv P s) (hP:Pok P):s.st=4→s.sn+1<4294967296:=fun e=>by
 have:=h.run e
 have:=hP.n
 omega
def Gw (a b:Sd):Prop:=b.L.length≤a.L.length+3∧b.ms.t≤a.ms.t+6
theorem dbegin_t (M:Mo mx n s):(dbegin P mx n s).s.ms.t≤s.ms.t+6:=by
 have ht:=nx_t mx n s.ms.bs false s.ms M.n10 M.l0
 unfold dbegin
 generalize nx mx n s.ms.bs false s.ms=X at *
 split
 ·show (dlatch { s with ms:=X.s } 80).ms.t≤_
  rw[dlatch_ms];exact ht
 ·split
  ·exact ht
  ·exact ht
theorem dwish_t (M:Mo mx n s):(dwish P mx n s).s.ms.t≤s.ms.t+6:=by
 have e:=dodd_ms s
 unfold dwish
 split
 ·show (dodd s).ms.t≤_;rw[e];omega
 ·split
  ·show (dodd s).ms.t≤_;rw[e];omega
  ·have:=dbegin_t (P:=P) M.odd
   rw[e]at this;exact this
theorem dtake_t (M:Mo mx n s) (k ss num fl len:Nat) (bs:Nat→Nat):(dtake P mx n s k ss num fl len bs).s.ms.t≤s.ms.t+6:=by
 have e:=dodd_ms s
 have r:∀ x:Int,(drefuse P s x).s.ms.t≤s.ms.t+6:=fun x=>by show (dodd s).ms.t≤_;rw[e];omega
 unfold dtake
 split
 ·split
  ·exact dwish_t M
  ·exact r _
 ·split
  ·split
   ·show (dechoS s).ms.t≤_;unfold dechoS;split <;> (show s.ms.t≤_;omega)
   ·exact r _
  ·split
   ·show (dstartS s).ms.t≤_;unfold dstartS;split <;> (show s.ms.t≤_;omega)
   ·split
    ·show s.ms.t≤_;omega
    ·split
     ·show (dlatch (don { s with nm:=P.n }) 80).ms.t≤_
      rw[dlatch_ms];show s.ms.t≤_;omega
     ·exact r _
theorem gw_recv (M:Mo mx n s) (len:Nat) (bs:Nat→Nat):Gw s (drecv P mx n s len bs).s:=by
 have h1:=dhear_len P mx n s len bs
 have h2:(dhear P mx n s len bs).s.ms.t≤s.ms.t+6:=by
  unfold dhear
  split
  ·show s.ms.t≤_;omega
  ·split
   ·show s.ms.t≤_;omega
   ·split
    ·show s.ms.t≤_;omega
    ·exact dtake_t M _ _ _ _ _ _
 unfold drecv
 split
 ·exact⟨by show s.L.length≤_;omega,by show s.ms.t≤_;omega⟩
 ·split
  ·exact⟨by show ((dhear P mx n s len bs).s.L ++ [_]).length≤_;simp;omega,h2⟩
  ·exact⟨by omega,h2⟩
theorem gw_tick (k:Int):Gw s (dtickS P s k):=by
 unfold dtickS
 split
 ·exact⟨by omega,by omega⟩
 ·split
  ·exact⟨by omega,by omega⟩
  ·split
   ·refine⟨?_,?_⟩
    ·have:=dlatch_len { s with dc:=tk P.t s.dc k.toNat } 100
     have e:({ s with dc:=tk P.t s.dc k.toNat }:Sd).L.length=s.L.length:=rfl
     omega
    ·rw[dlatch_ms];show s.ms.t≤_;omega
   ·exact⟨by show s.L.length≤_;omega,by show s.ms.t≤_;omega⟩
theorem gw_ack:Gw s (dackS s):=by
 unfold dackS
 split <;> exact⟨by show s.L.length≤_;omega,by show s.ms.t≤_;omega⟩
theorem gw_reset (M:Mo mx n s) (k:Int):Gw s (dresetS mx n s k):=by
 obtain⟨_,h2,h3⟩:=reset_vz (mx:=mx) (n:=n) s k M.bz M.l0
 exact⟨by rw[h3];omega,h2⟩
theorem gw_arm (p:Int):Gw s { s with ms:=arS s.ms p }:=⟨by show s.L.length≤_;omega,by
 have:(arS s.ms p).t=s.ms.t:=by unfold arS;split <;> rfl
 show (arS s.ms p).t≤_;omega⟩
end
end Go.Proofs.YtffehehghpafdaaGreat
namespace Go.Proofs.YtffehehghpafdaaGreat
set_option maxRecDepth 100000
open Go.RowKit
theorem own_form {w:World} {B e n:Nat} {v:Value} {xs:List Value} (h:w.ownsRow B e 1 v n xs):∃ a cap,v=.slice a n cap∧(0<n→∃ g,a=some ⟨g,0,none⟩∧B≤g):=by
 rcases h.2 with ⟨rfl,rfl⟩ | ⟨g,cap,cur,hv,hg,_⟩
 ·exact⟨none,0,rfl,fun h=>by omega⟩
 ·exact⟨_,cap,hv,fun _=>⟨g,rfl,hg⟩⟩
theorem xor8 (a b:Nat) (ha:a<256) (hb:b<256):bits .xor .u8 (a:Int) (b:Int)=((a ^^^ b:Nat):Int):=u8_xor_nat a b ha hb
def fl (f:Nat→Nat) (k q:Nat):Nat:=if q=k / 8 then f (k / 8) ^^^ 2 ^ (7-k % 8) else f q
theorem fl_lt {f:Nat→Nat} {n:Nat} (hf:∀ i,i<n→f i<256) (k:Nat) (hk:k / 8<n):∀ i,i<n→fl f k i<256:=by
 intro i hi
 unfold fl
 by_cases h:i=k / 8
 ·rw[if_pos h]
  exact Nat.xor_lt_two_pow (n:=8) (hf _ hk) (Nat.pow_lt_pow_right (by omega) (by omega))
 ·rw[if_neg h];exact hf i hi
theorem fl_fb (f:Nat→Nat) (k n:Nat):PM.fb (fl f k) n=if n=k then !PM.fb f n else PM.fb f n:=by
 unfold PM.fb fl
 by_cases h:n / 8=k / 8
 ·rw[if_pos h,Nat.testBit_xor,Nat.testBit_two_pow,h]
  by_cases e:n=k
  ·subst e
   rw[if_pos rfl]
   simp
  ·rw[if_neg e]
   have:¬ 7-k % 8=7-n % 8:=by omega
   simp[this]
 ·rw[if_neg h,if_neg (fun e=>h (by rw[e]))]
theorem fl_V (f:Nat→Nat) (k n:Nat) (hk:k<n):PM.V (PM.fb (fl f k)) n=PM.V (PM.fb f) n ^^^ 2 ^ (n-1-k):=by
 rw[PM.V_congr _ (fun i=>if i=k then !PM.fb f i else PM.fb f i) n (fun i _=>fl_fb f k i)]
 exact PM.V_flip (PM.fb f) n k hk
theorem pow7 (k:Nat):(128:Int) / 2 ^ (k % 8)=((2 ^ (7-k % 8):Nat):Int):=by
 have h:∀ z:Fin 8,(128:Int) / 2 ^ z.val=((2 ^ (7-z.val):Nat):Int):=by decide
 exact h ⟨k % 8,by omega⟩
theorem burst_true {x s i N fr:Nat} (hi:i<s) (hN:fr+s≤N) (hb:x.testBit (s-1-i)=true) :
  PM.C (x >>> (s-i)) (2 ^ (N-fr-i)) ^^^ 2 ^ (N-1 - (fr+i))=PM.C (x >>> (s - (i+1))) (2 ^ (N-fr - (i+1))):=by
 rw[show s - (i+1)=s-1-i by omega,PM.shr_true hb (show s-i=s-1-i+1 by omega),show N-fr-i=(N-fr - (i+1))+1 by omega,Nat.pow_succ,Nat.mul_comm (2 ^ _) 2,PM.C_two_right,PM.dbl_add _ 1 (by omega),PM.C_xor_left,PM.C_two_left,PM.C_one_left,show N-1 - (fr+i)=N-fr - (i+1) by omega]
theorem burst_false {x s i N fr:Nat} (hi:i<s) (hN:fr+s≤N) (hb:x.testBit (s-1-i)=false) :
  PM.C (x >>> (s-i)) (2 ^ (N-fr-i))=PM.C (x >>> (s - (i+1))) (2 ^ (N-fr - (i+1))):=by
 rw[show s - (i+1)=s-1-i by omega,PM.shr_false hb (show s-i=s-1-i+1 by omega),show N-fr-i=(N-fr - (i+1))+1 by omega,Nat.pow_succ,Nat.mul_comm (2 ^ _) 2,PM.C_two_right,PM.C_two_left]
theorem and32_one (a:Nat) (h:a<4294967296):bits .and .u32 (a:Int) 1=((a % 2:Nat):Int):=by
 have:=u32_and_nat a 1 h (by omega)
 rw[nat_mask1]at this
 exact this
theorem bit32 (x k:Nat) (hx:x<4294967296):(bits .and .u32 ((x:Int) / 2 ^ k) 1 != 0)=x.testBit k:=by
 have e:(x:Int) / 2 ^ k=((x >>> k:Nat):Int):=by rw[Nat.shiftRight_eq_div_pow];simp
 have hl:x >>> k<4294967296:=by rw[Nat.shiftRight_eq_div_pow];exact Nat.lt_of_le_of_lt (Nat.div_le_self _ _) hx
 rw[e,and32_one _ hl,shr_bit]
 cases x.testBit k <;> rfl
set_option maxHeartbeats 1000000 in
theorem burst_no (a0:Option Addr) (len cap:Nat) (n:Int) (x:Nat) (w:World) (hl:len≤100000) (hx:x<4294967296) (hno:x=0∨8*len<PM.bl x) :
  Calls Tryz.prog 54 #[.slice a0 len cap,.int .i64 n,.int .u32 x] w fun e w'=>e=.returned (.tuple #[.slice none 0 0,.bool false])∧w'=w:=by
 have hbit:=fun k=>bit32 x k hx
 have hbl:=PM.bl_le (n:=x) (k:=32) (by omega)
 go_enter Tryz.func54,Tryz.ntmps54
 go_wp2_with fail
 go_loop [8,9] (fun s c=>∃ i:Nat,i≤32∧c=.int .i64 i∧s=.int .i64 (PM.bl (x % 2 ^ i):Nat)) (fun _ c=>32 - (intOf c).toNat)
 case atStart=>exact⟨0,by omega,rfl,by rw[Nat.pow_zero,Nat.mod_one];rfl⟩
 case round=>
  obtain⟨i,hi32,rfl,rfl⟩:=hrel
  by_cases hlt:i<32
  ·have t1:=hbit i
   clear hbit
   cases hb:x.testBit i
   ·rw[hb]at t1
    go_wp2
    go_round
    case rel=>exact⟨i+1,by omega,by go_num,by rw[PM.bl_mod_false hb]⟩
    case measure=>simp[intOf] <;> omega
   ·rw[hb]at t1
    go_wp2
    go_round
    case rel=>exact⟨i+1,by omega,by go_num,by rw[PM.bl_mod_true hb];go_num⟩
    case measure=>simp[intOf] <;> omega
  ·obtain rfl:i=32:=by omega
   rw[Nat.mod_eq_of_lt (show x<2 ^ 32 from hx)]
   rcases hno with hx0 | hroom
   ·rw[show PM.bl x=0 by rw[hx0];rfl]
    clear hbit hx0 hbl
    go_wp2
    go_ret2
    exact⟨rfl,rfl⟩
   ·have hs0:((PM.bl x:Int) == 0)=false:=by simp;omega
    have hd:decide ((8:Int) * (len:Int) - (PM.bl x:Int)+1<1)=true:=by simp;omega
    clear hbit
    generalize PM.bl x=s at *
    go_wp2
    go_ret2
    exact⟨rfl,rfl⟩
def BurstOut (B:Nat) (w':World) (len x:Nat) (bs:Nat→Nat) (v:Value):Prop:=
 ∃ f d,w'.ownsRow B 5 1 v len (CB f len)∧(∀ i,i<len→f i<256)∧PM.V (PM.fb f) (8*len)=PM.V (PM.fb bs) (8*len) ^^^ PM.C x (2 ^ d)
set_option maxRecDepth 100000 in
set_option maxHeartbeats 1000000 in
theorem burst_yes (a0:Option Addr) (len cap:Nat) (n:Int) (x:Nat) (bs:Nat→Nat) (w:World) (hr:Row8 w a0 len cap bs) (hl:len≤100000) (hx:x<4294967296) (hx0:x≠0) (hroom:PM.bl x≤8*len) :
  Calls Tryz.prog 54 #[.slice a0 len cap,.int .i64 n,.int .u32 x] w fun e w'=>∃ v,e=.returned (.tuple #[v,.bool true])∧Below w.heap.size w w'∧BurstOut w.heap.size w' len x bs v:=by
 obtain⟨i0,hi,hz0,hz1,hz2⟩:=info_parts info_u8
 have hbit:=fun k=>bit32 x k hx
 have hbl:=PM.bl_le (n:=x) (k:=32) (by omega)
 have hpos:0<PM.bl x:=by rw[PM.bl_pos hx0];omega
 have hbd:=build0
 go_enter Tryz.func54,Tryz.ntmps54
 go_wp2_with fail
 go_loop [8,9] (fun s c=>∃ i:Nat,i≤32∧c=.int .i64 i∧s=.int .i64 (PM.bl (x % 2 ^ i):Nat)) (fun _ c=>32 - (intOf c).toNat)
 case atStart=>exact⟨0,by omega,rfl,by rw[Nat.pow_zero,Nat.mod_one];rfl⟩
 case round=>
  obtain⟨i,hi32,rfl,rfl⟩:=hrel
  by_cases hlt:i<32
  ·have t1:=hbit i
   clear hbit
   cases hb:x.testBit i
   ·rw[hb]at t1
    go_wp2
    go_round
    case rel=>exact⟨i+1,by omega,by go_num,by rw[PM.bl_mod_false hb]⟩
    case measure=>simp[intOf] <;> omega
   ·rw[hb]at t1
    go_wp2
    go_round
    case rel=>exact⟨i+1,by omega,by go_num,by rw[PM.bl_mod_true hb];go_num⟩
    case measure=>simp[intOf] <;> omega
  ·obtain rfl:i=32:=by omega
   rw[Nat.mod_eq_of_lt (show x<2 ^ 32 from hx)]
   have HX:Hid (x<2 ^ PM.bl x):=PM.lt_bl x
   have hs0:((PM.bl x:Int) == 0)=false:=by simp;omega
   have hd:decide ((8:Int) * (len:Int) - (PM.bl x:Int)+1<1)=false:=by simp;omega
   have hrm:wrap64 ((IntKind.u64.wrap n).tmod (8 * (len:Int) - (PM.bl x:Int)+1))=((((n % 18446744073709551616) % (8 * (len:Int) - (PM.bl x:Int)+1)).toNat:Nat):Int):=by
    rw[IntKind.wrap_u64,Int.tmod_eq_emod_of_nonneg (by omega)]
    have h1:=Int.emod_nonneg (n % 18446744073709551616) (show (8 * (len:Int) - (PM.bl x:Int)+1)≠0 by omega)
    have h2:=Int.emod_lt_of_pos (n % 18446744073709551616) (show 0<8 * (len:Int) - (PM.bl x:Int)+1 by omega)
    unfold wrap64
    omega
   have hfr:((n % 18446744073709551616) % (8 * (len:Int) - (PM.bl x:Int)+1)).toNat+PM.bl x≤8*len:=by
    have h1:=Int.emod_nonneg (n % 18446744073709551616) (show (8 * (len:Int) - (PM.bl x:Int)+1)≠0 by omega)
    have h2:=Int.emod_lt_of_pos (n % 18446744073709551616) (show 0<8 * (len:Int) - (PM.bl x:Int)+1 by omega)
    omega
   generalize ((n % 18446744073709551616) % (8 * (len:Int) - (PM.bl x:Int)+1)).toNat=fr at *
   generalize PM.bl x=s at *
   have hbelA:Below w.heap.size w (w.alloc (.cells #[] 5)):=(Below.refl _ _).alloc (Nat.le_refl _) _
   have R0:=hr.below hbelA
   have O0:(w.alloc (.cells #[] 5)).ownsRow w.heap.size 5 1 (.slice (some ⟨w.heap.size,0,none⟩) 0 0) 0 (CB bs 0):=World.ownsRow_made w #[] 0 (Nat.le_refl _) (Nat.zero_le _) rfl
   have hszA:=hbelA.size
   go_wp2_with (at_builtin;refine wpList_append_row8 rfl (.tmp 44) (.tmp 45) 29 rfl w.heap.size 5 i0 (.int .u8 0) Tryz.underlying29 hi hz0 hz1 hz2 rfl _ 0 _ rfl O0 a0 len cap bs rfl R0 (by unfold maxLen;omega) (by omega) hszA ?_)
   intro v2 w2 hown2 hgrow2
   have hbel2:Below w.heap.size w w2:=hbelA.grown hgrow2 hszA (fun k hk=>(O0.lt k hk).1)
   rw[show CB bs 0=[] from rfl,List.nil_append]at hown2
   have hb0:=hr.byte
   clear hgrow2 O0 R0 hbelA hbd hr hrm
   obtain⟨ax,cx,rfl,hax⟩:=own_form hown2
   go_wp2_with fail
   go_loopw [13,14] (fun c _ wr=>∃ i f,i≤s∧c=.int .i64 ((i:Nat):Int)∧wr.ownsRow w.heap.size 5 1 (.slice ax len cx) len (CB f len)∧(∀ i,i<len→f i<256)∧PM.V (PM.fb f) (8*len)=PM.V (PM.fb bs) (8*len) ^^^ PM.C (x >>> (s-i)) (2 ^ (8*len-fr-i))∧Below w.heap.size w wr) (fun c _ _=>s - (intOf c).toNat)
   case atStart=>exact⟨0,bs,by omega,rfl,hown2,hb0,by rw[Nat.sub_zero,Nat.shiftRight_eq_div_pow,Nat.div_eq_of_lt HX.out,PM.C_zero_left,Nat.xor_zero],hbel2⟩
   case round=>
    clear hown2 hbel2 hb0
    obtain⟨i,f,hi2,rfl,hown,hfb,hfV,hbel⟩:=hrel
    have HV:Hid (PM.V (PM.fb f) (8*len)=PM.V (PM.fb bs) (8*len) ^^^ PM.C (x >>> (s-i)) (2 ^ (8*len-fr-i))):=hfV
    clear hfV
    by_cases hlt2:i<s
    ·have t1:=hbit (s-1-i)
     clear hbit
     cases hb:x.testBit (s-1-i)
     ·rw[hb]at t1
      go_wp2
      go_roundw
      case rel=>exact⟨i+1,f,by omega,by go_num,hown,hfb,by rw[HV.out,burst_false hlt2 hfr hb],hbel⟩
      case measure=>simp[intOf] <;> omega
     ·rw[hb]at t1
      obtain⟨gx,rfl,hgx⟩:=hax (by omega)
      obtain⟨k,hk⟩:∃ k,k=fr+i:=⟨_,rfl⟩
      have hk1:(fr:Int) + (i:Int)=(k:Int):=by omega
      have hk8:k / 8<len:=by omega
      obtain⟨q,hq⟩:∃ q,q=k / 8:=⟨_,rfl⟩
      obtain⟨m,hm⟩:∃ m,m=k % 8:=⟨_,rfl⟩
      have hq1:(k:Int) / 8=(q:Int):=by omega
      have hm1:(k:Int) % 8=(m:Int):=by omega
      have hq2:(k:Int).tdiv 8=(q:Int):=by rw[Int.tdiv_eq_ediv_of_nonneg (by omega)];exact hq1
      have hm2:(k:Int).tmod 8=(m:Int):=by rw[Int.tmod_eq_emod_of_nonneg (by omega)];exact hm1
      have hp:(128:Int) / 2 ^ m=((2 ^ (7-m):Nat):Int):=by rw[hm];exact pow7 k
      have hql:q<len:=by omega
      have hm8:m<8:=by omega
      have hcx:=hown.cellAt q (by omega)
      rw[CB_get _ len _ hql]at hcx
      have hfx:=hown.frozenAt q
      have hX:=xor8 (f q) (2 ^ (7-m)) (hfb q hql) (show 2 ^ (7-m)<2 ^ 8 from Nat.pow_lt_pow_right (by omega) (by omega))
      have hown3:(wr.drew.setCell ⟨gx,q,none⟩ (.int .u8 ((f q ^^^ 2 ^ (7-m):Nat):Int))).ownsRow w.heap.size 5 1 (.slice (some ⟨gx,0,none⟩) len cx) len (CB (fl f k) len):=by
       have h:=((show wr.drew.ownsRow w.heap.size 5 1 (.slice (some ⟨gx,0,none⟩) len cx) len (CB f len) from hown).stored q (.int .u8 ((f q ^^^ 2 ^ (7-m):Nat):Int))).1
       rw[CB_set,CB_congr _ (fl f k) len (fun i _=>by unfold fl;rw[hq,hm])]at h
       exact h
      have hbel3:Below w.heap.size w (wr.drew.setCell ⟨gx,q,none⟩ (.int .u8 ((f q ^^^ 2 ^ (7-m):Nat):Int))):=hbel.drew.setCell (p:=⟨gx,q,none⟩) hgx _
      have HO:Hid (_):=hown3
      have HB:Hid (_):=hbel3
      have HF:Hid (∀ i,i<len→fl f k i<256):=fl_lt hfb k hk8
      have HW:Hid (PM.V (PM.fb (fl f k)) (8*len)=PM.V (PM.fb bs) (8*len) ^^^ PM.C (x >>> (s - (i+1))) (2 ^ (8*len-fr - (i+1)))):=by
       show _=_
       rw[fl_V f k (8*len) (by omega),HV.out,hk,Nat.xor_assoc,burst_true hlt2 hfr hb]
      have hkl:k<800000:=by omega
      clear hk hq hm hown hbel hown3 hbel3 hax HV hfb
      generalize f q ^^^ 2 ^ (7-m)=y at *
      generalize 2 ^ (7-m)=z at *
      go_wp2_with fail
      go_region
      all_goals (go_wp2_with fail;go_roundw)
      case rel=>exact⟨i+1,fl f k,by omega,by go_num,HO.out,HF.out,HW.out,HB.out⟩
      case measure=>simp[intOf] <;> omega
    ·obtain rfl:i=s:=by omega
     clear hbit hax
     go_wp2
     go_ret2
     exact⟨_,rfl,hbel,f,8*len-fr-i,hown,hfb,by rw[HV.out,Nat.sub_self,Nat.shiftRight_zero]⟩
theorem Row8.off0 {l:List Nat} {w w':World} {a:Option Addr} {len cap:Nat} {bs:Nat→Nat} (h:Row8 w a len cap bs) (q:Off l w w') (hl:∀ x,a=some x→0<len→x.block ∉ l):Row8 w' a len cap bs:=by
 by_cases h0:0<len
 ·exact h.off q (fun x hx=>hl x hx h0)
 ·exact⟨h.byte,h.nil,fun x hx i hi=>absurd hi (by omega),h.le⟩
theorem Off.set {l:List Nat} {w w':World} (h:Off l w w') {b o:Nat} {v:Value} (hb:b ∈ l):Off l w (w'.setCell ⟨b,o,none⟩ v):=
 h.trans ((Off.setCell b o w' v).more (fun k hk=>by simp at hk;rw[hk];exact hb))
theorem row8_of4 {w:World} {g b0 b1 b2 b3:Nat} {bs:Nat→Nat} (hb:∀ i,i<4→bs i<256) (e0:bs 0=b0) (e1:bs 1=b1) (e2:bs 2=b2) (e3:bs 3=b3) (h0:w.cell? ⟨g,0,none⟩=some (.int .u8 (b0:Nat))) (h1:w.cell? ⟨g,1,none⟩=some (.int .u8 (b1:Nat))) (h2:w.cell? ⟨g,2,none⟩=some (.int .u8 (b2:Nat))) (h3:w.cell? ⟨g,3,none⟩=some (.int .u8 (b3:Nat))) :
  Row8 w (some ⟨g,0,none⟩) 4 4 bs:=by
 subst e0 e1 e2 e3
 refine⟨hb,(fun h=>by cases h),fun x hx i hi=>?_,Nat.le_refl _⟩
 cases hx
 have c:i=0∨i=1∨i=2∨i=3:=by omega
 rcases c with rfl | rfl | rfl | rfl
 ·exact h0
 ·exact h1
 ·exact h2
 ·exact h3
set_option maxRecDepth 100000 in
set_option maxHeartbeats 1000000 in
theorem rsign_own (P:Pm) (hP:Pok P) (w:World) :
  Calls Tryz.prog 52 #[.agg #[.int .u32 (P.c:Nat),.int .i64 (P.o:Nat),.int .i64 (P.i:Nat),.int .i64 (P.t:Nat),.int .u32 (P.n:Nat)]] w fun e w'=>∃ g,e=.returned (.slice (some ⟨g,0,none⟩) 4 4) ∧
   Hid (w'.heap[g]?=some (.cells #[.int .u8 (dsg P 0:Nat),.int .u8 (dsg P 1:Nat),.int .u8 (dsg P 2:Nat),.int .u8 (dsg P 3:Nat)] 5 (0,0))∧w.heap.size≤g∧Below w.heap.size w w'):=by
 unfold dsg
 have hE:=hP.ok
 have hc:=hP.c
 have hn:=hP.n
 generalize P.c=c at *
 generalize P.o=O at *
 generalize P.i=I at *
 generalize P.t=T at *
 generalize P.n=n at *
 have hb:Below w.heap.size w (w.alloc (.cells #[.int .u32 c,.int .i64 O,.int .i64 I,.int .i64 T,.int .u32 n] 49)):=(Below.refl _ _).alloc (Nat.le_refl _) _
 have hF:=rencode_good c O I T n (w.alloc (.cells #[.int .u32 c,.int .i64 O,.int .i64 I,.int .i64 T,.int .u32 n] 49)) hc hn hE
 obtain⟨_,hO,hI,_,_⟩:=hE
 have hby:=pe_lt (c:=c) (o:=O) (i:=I) (t:=T) (n:=n) (by omega) (by omega)
 have hk:=PM.K_lt (pe c O I T n) 14
 have hB0:=fun a cap w1 (R1:Row8 w1 a 14 cap (pe c O I T n))=>refSum_row a 14 cap (pe c O I T n) w1 R1 (by omega)
 obtain⟨k,hkd⟩:∃ k,k=PM.K (pe c O I T n) 14:=⟨_,rfl⟩
 rw[← hkd]at hk hB0 ⊢
 clear hO hI hkd hP
 go_enter Tryz.func52,Tryz.ntmps52
 go_wp2_with fail
 refine hF.mono ?_
 rintro e w1 ⟨a,cap,rfl,H1⟩
 obtain⟨O1,hb1⟩:=H1.out
 have hb2:=below_all hb hb.size hb1
 obtain⟨a1,c1,e1,R1⟩:=own_row8 O1 (fun k _=>hby k)
 simp only[Value.slice.injEq,true_and]at e1
 obtain⟨rfl,rfl⟩:=e1
 have hB:=hB0 _ _ w1 R1
 clear hb hF hb1 H1 O1 R1 hby hB0
 go_wp2_with fail
 refine hB.mono ?_
 rintro e w2 ⟨rfl,hb3'⟩
 have hb3:=below_all hb2 hb2.size hb3'
 clear hB hb3' hb2
 go_wp2_with fail
 refine (refWord_any k _ hk).mono ?_
 rintro e w4 ⟨rfl,rfl⟩
 have HB:Hid (_):=And.intro (heap_alloc_new w2 (.cells #[.int .u8 ((k:Int) / 16777216),.int .u8 ((k:Int) / 65536 % 256),.int .u8 ((k:Int) / 256 % 256),.int .u8 ((k:Int) % 256)] 5)) (And.intro hb3.size (hb3.alloc hb3.size (.cells #[.int .u8 ((k:Int) / 16777216),.int .u8 ((k:Int) / 65536 % 256),.int .u8 ((k:Int) / 256 % 256),.int .u8 ((k:Int) % 256)] 5)))
 have HK:Hid (_):=hk
 clear hb3 hk
 go_wp2_with fail
 go_ret
 have hk:=HK.out
 have e0:(k:Int) / 16777216=((PM.w4 k 0:Nat):Int):=by show _=((k / 16777216 % 256:Nat):Int);omega
 have e1:(k:Int) / 65536 % 256=((PM.w4 k 1:Nat):Int):=by show _=((k / 65536 % 256:Nat):Int);omega
 have e2:(k:Int) / 256 % 256=((PM.w4 k 2:Nat):Int):=by show _=((k / 256 % 256:Nat):Int);omega
 have e3:(k:Int) % 256=((PM.w4 k 3:Nat):Int):=by show _=((k % 256:Nat):Int);omega
 have h:=HB.out
 rw[← e0,← e1,← e2,← e3]
 exact⟨_,rfl,h⟩
def osig (P:Pm) (odd:Bool):Nat→Nat:=if odd=true then (fun i=>if i=0 then dsg P 0 ^^^ 1 else dsg P i) else dsg P
def oses (s:Sd) (odd:Bool):Nat:=if odd=true then (s.ss+1) % 4294967296 else s.ss
def onum (s:Sd) (N:Int):Nat:=(s.nm + (N % 4294967296).toNat) % 4294967296
def Fo (P:Pm) (s:Sd) (k N fl:Int) (odd:Bool) (len:Nat) (bs:Nat→Nat) (x:Nat) (f:Fm):Prop:=
 (k=1→f=encI 1 P.c 0 0 0 4 (osig P odd))∧(k=2→odd=false→f=encI 2 P.c s.ss 0 0 4 (dsg P))∧(k=3→f=encI 3 P.c (oses s odd) 0 0 0 (fun _=>0)) ∧
 (k=4→f=encI 4 P.c (oses s odd) (onum s N) fl len bs)∧(k=5→f=encI 5 P.c (oses s odd) P.n 0 0 (fun _=>0)) ∧
 (k=2→∃ so sg,f=encI 2 P.c so 0 0 4 sg)∧(k=6→f=(len,bs))∧(k=7→(x≠0∧PM.bl x≤8 * (encI 4 P.c (oses s odd) (onum s N) fl len bs).1)→DE f.2 f.1=42) ∧
 (k=7→¬ (x≠0∧PM.bl x≤8 * (encI 4 P.c (oses s odd) (onum s N) fl len bs).1)→f=encI 4 P.c (oses s odd) (onum s N) fl len bs)
theorem osig_f (P:Pm):osig P false=dsg P:=by unfold osig;rw[if_neg (by simp)]
theorem osig_false (P:Pm) (i:Nat):osig P false i=dsg P i:=by unfold osig;rw[if_neg (by simp)]
theorem osig_zero (P:Pm) {x0:Nat} (h:dsg P 0 ^^^ 1=x0):osig P true 0=x0:=by unfold osig;rw[if_pos rfl,if_pos rfl,h]
theorem osig_succ (P:Pm) (i:Nat) (h:i≠0):osig P true i=dsg P i:=by unfold osig;rw[if_pos rfl,if_neg h]
theorem xor1 (x:Nat) (h:x<256):bits .xor .u8 (x:Int) 1=((x ^^^ 1:Nat):Int):=u8_xor_nat x 1 h (by omega)
theorem so_facts (ss:Nat):∃ so:Nat,(ss+1) % 4294967296=so∧IntKind.u32.wrap ((ss:Int)+1)=(so:Int)∧((ss:Int)+1) % 4294967296=(so:Int):=
 ⟨_,rfl,by rw[IntKind.wrap_u32];omega,by omega⟩
theorem x0_facts (P:Pm):∃ x0:Nat,dsg P 0 ^^^ 1=x0∧bits .xor .u8 (dsg P 0:Int) 1=(x0:Int):=⟨_,rfl,xor1 _ (dsg_byte P 0 (by omega))⟩
theorem nu_facts (s:Sd) (N:Int):∃ nN nu:Nat,onum s N=nu∧nu<4294967296∧IntKind.u32.wrap N=(nN:Int)∧N % 4294967296=(nN:Int)∧IntKind.u32.wrap ((s.nm:Int) + (nN:Int))=(nu:Int)∧((s.nm:Int) + (nN:Int)) % 4294967296=(nu:Int):=by
 refine⟨(N % 4294967296).toNat,onum s N,rfl,by unfold onum;omega,by rw[IntKind.wrap_u32];omega,by omega,?_,?_⟩
 ·rw[IntKind.wrap_u32];unfold onum;omega
 ·unfold onum;omega
theorem oses_false (s:Sd):oses s false=s.ss:=by unfold oses;rw[if_neg (by simp)]
theorem oses_lt {s:Sd} (h:s.ss<4294967296) (odd:Bool):oses s odd<4294967296:=by
 unfold oses
 split
 ·omega
 ·exact h
theorem encI_byte (k c s n:Nat) (f:Int) (len:Nat) (bs:Nat→Nat) (hb:∀ i,i<len→bs i<256):∀ i,i < (encI k c s n f len bs).1→(encI k c s n f len bs).2 i<256:=by
 unfold encI
 by_cases h:LW k c s n f len len=0
 ·have hf:=(LW_zero h).2.2.2.2
  obtain⟨F,rfl⟩:∃ F:Nat,f=(F:Int):=⟨f.toNat,by omega⟩
  exact encF_byte k c s n F len bs hb
 ·rw[if_neg h];intro i hi;exact absurd hi (Nat.not_lt_zero i)
theorem encI_len (k c s n:Nat) (f:Int) (len:Nat) (bs:Nat→Nat):(encI k c s n f len bs).1≤27:=by
 unfold encI
 by_cases h:LW k c s n f len len=0
 ·rw[if_pos h]
  have:=(LW_zero h).2.2.2.1
  show 15+len+4≤27
  omega
 ·rw[if_neg h];show 0≤27;omega
theorem osig_byte (P:Pm) (odd:Bool):∀ i,i<4→osig P odd i<256:=by
 intro i hi
 have h:=dsg_byte P
 unfold osig
 cases odd
 ·exact h i hi
 ·show (if i=0 then dsg P 0 ^^^ 1 else dsg P i)<256
  split
  ·exact Nat.xor_lt_two_pow (n:=8) (h 0 (by omega)) (by omega)
  ·exact h i hi
theorem spoilt_DE {k c s n:Nat} {f:Int} {len:Nat} {bs f7:Nat→Nat} {x d:Nat} (hx:x<4294967296) (h0:x≠0) (hroom:PM.bl x≤8 * (encI k c s n f len bs).1) (hV:PM.V (PM.fb f7) (8 * (encI k c s n f len bs).1)=PM.V (PM.fb (encI k c s n f len bs).2) (8 * (encI k c s n f len bs).1) ^^^ PM.C x (2 ^ d)) :
  DE f7 (encI k c s n f len bs).1=42:=by
 unfold encI at *
 by_cases hE:LW k c s n f len len=0
 ·rw[if_pos hE]at *
  have hz:=LW_zero hE
  refine DE_check (by show 19≤15+len+4;omega) (by show 15+len+4≤27;omega) (fun h=>?_)
  have hS:PM.R PM.g 32 (PM.V (PM.fb (PM.sl (fr k c s n f.toNat len bs) (15+len))) (8 * (15+len+4)))=0:=PM.V_sl _ _
  unfold vld at h
  rw[hV,PM.R_xor]at h
  rw[show PM.R PM.g 32 (PM.V (PM.fb (15+len+4,PM.sl (fr k c s n f.toNat len bs) (15+len)).2) (8 * (15+len+4,PM.sl (fr k c s n f.toNat len bs) (15+len)).1))=0 from hS,Nat.zero_xor]at h
  exact h0 (PM.burst x d hx h)
 ·rw[if_neg hE]at hroom
  exfalso
  have:PM.bl x≤0:=hroom
  rw[PM.bl_pos h0]at this
  omega
theorem spoilt_f {k c s n:Nat} {f:Int} {len:Nat} {bs f7:Nat→Nat} {x d:Nat} {F:Fm} (e:encI k c s n f len bs=F) (hx:x<4294967296) (h0:x≠0) (hroom:PM.bl x≤8*F.1) (hV:PM.V (PM.fb f7) (8*F.1)=PM.V (PM.fb F.2) (8*F.1) ^^^ PM.C x (2 ^ d)):DE f7 F.1=42:=by
 subst e
 exact spoilt_DE hx h0 hroom hV
section
variable {w w':World} {d m g n mx:Nat} {P:Pm} {U l:List Nat} {s:Sd}
theorem DX.off {B:Bk} {A:Prop} (h:DX w d m g n mx P U s B A) (q:Off l w w') (hl:∀ k,k ∈ U→k ∉ l):DX w' d m g n mx P U s B A:=
 ⟨(q.block d h.dlt (hl _ h.kd.2)).trans h.dev,h.mem.off q (hl _ h.km.2) (hl _ h.kg.2),fun hs=>⟨(h.cel hs).1,(h.cel hs).2.1.off q (hl _ h.kc.2),(h.cel hs).2.2⟩,h.dog.off q (hl _ h.kb.2),h.val.off q (hl _ h.kv.2) (hl _ h.kw.2) (fun k hk hM=>hl k (h.kM k hM).2 hk),h.log.off q (fun k hk=>hl _ (h.kl k hk).2),own_offk h.app q (fun k hk=>hl _ (h.ka k hk).2),h.apb,fun k hk=>Nat.lt_of_lt_of_le (h.ltU k hk) q.size,h.kd,h.km,h.kg,h.kc,h.kb,h.kv,h.kw,h.kM,h.kl,h.ka,h.pok,h.n10,h.mx0,h.mxl⟩
theorem RB.off {B:Bk2} {A:Prop} (h:RB w d m g n mx P U s B A) (q:Off l w w') (hl:∀ k,k ∈ U→k ∉ l):RB w' d m g n mx P U s B A:=
 ⟨(q.block d h.dlt (hl _ h.kd.2)).trans h.dev,h.mem.off q (hl _ h.km.2) (hl _ h.kg.2),fun hs=>⟨(h.cel hs).1,(h.cel hs).2.1.off q (hl _ h.kc.2),(h.cel hs).2.2⟩,h.val.off q (fun k hk hM=>hl k (h.kM k hM).2 hk),own_offk h.log q (fun k hk=>hl _ (h.kl k hk).2),own_offk h.app q (fun k hk=>hl _ (h.ka k hk).2),h.apb,h.vok,h.dcl,fun k hk=>Nat.lt_of_lt_of_le (h.ltU k hk) q.size,h.kd,h.km,h.kg,h.kc,h.kM,h.kl,h.ka,h.pok,h.n10,h.mx0,h.mxl,h.nl⟩
theorem DV.off (h:DV w d m g n mx P U s) (q:Off l w w') (hl:∀ k,k ∈ U→k ∉ l):DV w' d m g n mx P U s:=by
 obtain⟨B,h⟩:=h
 exact⟨B,h.off q hl⟩
theorem RW.off (h:RW w d m g n mx P U s) (q:Off l w w') (hl:∀ k,k ∈ U→k ∉ l):RW w' d m g n mx P U s:=by
 obtain⟨B,h⟩:=h
 exact⟨B,h.off q hl⟩
end
structure Pl where
 d:Nat
 m:Nat
 g:Nat
 e:Nat
 r:Nat
 q:Nat
 n:Nat
 mx:Nat
 P:Pm
 K:List (Nat × Option Obj)
structure Bt (w0 w:World) (L:Pl) (s t:Sd) (F:List Nat) (U V:List Nat):Prop where
 bel:Below w0.heap.size w0 w
 dv:DV w L.d L.m L.g L.n L.mx L.P U s
 rw:RW w L.e L.r L.q L.n L.mx L.P V t
 uv:∀ k,k ∈ U→w0.heap.size≤k∧k ∉ V
 vb:∀ k,k ∈ V→w0.heap.size≤k
 fr:∀ k,k ∈ F→k<w.heap.size∧k ∉ U∧k ∉ V
 kp:∀ x,x ∈ L.K→(x.1<w.heap.size∧x.1 ∉ U∧x.1 ∉ V)∧w.heap[x.1]?=x.2
section
variable {w0 w w':World} {L:Pl} {s t s':Sd} {F U V U':List Nat}
end
section
variable {w0 w w':World} {L:Pl} {s t:Sd} {b:Nat} {O:Array Value} {a:Option Addr} {len cap:Nat} {bs:Nat→Nat}
end
def Two (w0 w:World) (L:Pl) (s:Sd):Prop:=∃ U V,Bt w0 w L s s [] U V
theorem two_made {w0 w w1 w2:World} {L:Pl} {s:Sd} {U V:List Nat} (bel:Below w0.heap.size w0 w) (o1:Off [L.m,L.g] w w1) (D:DV w1 L.d L.m L.g L.n L.mx L.P U s) (hU:∀ k,k ∈ U→k=L.m∨k=L.g∨w.heap.size≤k)
  (o2:Off [L.r,L.q] w1 w2) (R:RW w2 L.e L.r L.q L.n L.mx L.P V s) (hV:∀ k,k ∈ V→k=L.r∨k=L.q∨w1.heap.size≤k) (h0:w0.heap.size≤L.m∧w0.heap.size≤L.g∧w0.heap.size≤L.r∧w0.heap.size≤L.q)
  (hne:L.m≠L.r∧L.m≠L.q∧L.g≠L.r∧L.g≠L.q) (hlt:L.r<w.heap.size∧L.q<w.heap.size) (hK:L.K=[]):Two w0 w2 L s:=by
 have s1:=o1.size
 have sb:=bel.size
 have b1:Below w0.heap.size w0 w1:=o1.below bel (by simp;omega) bel.size
 have hUr:∀ k,k ∈ U→k ∉ [L.r,L.q]:=fun k hk hm=>by
  have:=hU k hk
  simp at hm
  omega
 refine⟨U,V,o2.below b1 (by simp;omega) b1.size,D.off o2 hUr,R,fun k hk=>⟨?_,fun hm=>?_⟩,fun k hk=>?_,fun k hk=>by simp at hk,fun x hx=>by rw[hK]at hx;simp at hx⟩
 ·have:=hU k hk;omega
 ·have h1:=hU k hk
  have h2:=hV k hm
  have h3:=D.ult k hk
  omega
 ·have:=hV k hk;omega
end Go.Proofs.YtffehehghpafdaaGreat
namespace Go.Proofs.YtffehehghpafdaaGreat
set_option maxRecDepth 100000
open Go.RowKit
structure Dr where
 d:Nat
 m:Nat
 g:Nat
 n:Nat
 mx:Nat
 P:Pm
 s:Sd
structure Thing where
 U:List Nat
 T:World→Prop
 st:∀ w w' l,T w→Off l w w'→(∀ k,k ∈ U→k ∉ l)→T w'
def noT:Thing:=⟨[],fun _=>True,fun _ _ _ _ _ _=>trivial⟩
def putT (t:Nat→Thing) (i:Nat) (x:Thing):Nat→Thing:=fun j=>if j=i then x else t j
theorem putT_same (t:Nat→Thing) (i:Nat) (x:Thing):putT t i x i=x:=if_pos rfl
theorem putT_ne (t:Nat→Thing) {i j:Nat} (x:Thing) (h:j≠i):putT t i x j=t j:=if_neg h
structure Al (w0 w:World) (t:Nat→Thing):Prop where
 bel:Below w0.heap.size w0 w
 ok:∀ i,(t i).T w
 lt:∀ i k,k ∈ (t i).U→w0.heap.size≤k∧k<w.heap.size
 dis:∀ i j,i≠j→∀ k,k ∈ (t i).U→k ∉ (t j).U
section
variable {w0 w w':World} {t:Nat→Thing}
theorem Al.start (w:World):Al w w (fun _=>noT):=⟨Below.refl _ _,fun _=>trivial,fun _ k hk=>by simp[noT]at hk,fun _ _ _ k hk=>by simp[noT]at hk⟩
theorem Al.size (h:Al w0 w t):w0.heap.size≤w.heap.size:=h.bel.size
theorem Al.get (h:Al w0 w t) {i:Nat} {x:Thing} (e:t i=x):x.T w:=e ▸ h.ok i
theorem Al.turn (h:Al w0 w t) (i:Nat) (x:Thing) (o:Off (t i).U w w') (hx:x.T w') (hl:∀ k,k ∈ x.U→w0.heap.size≤k∧k<w'.heap.size) (hd:∀ k,k ∈ x.U→∀ j,j≠i→k ∉ (t j).U):Al w0 w' (putT t i x) where
 bel:=o.below h.bel (fun k hk=>(h.lt i k hk).1) h.bel.size
 ok:=fun j=>by
  by_cases e:j=i
  ·subst e;rw[putT_same];exact hx
  ·rw[putT_ne t x e];exact (t j).st w w' _ (h.ok j) o (h.dis j i e)
 lt:=fun j k hk=>by
  by_cases e:j=i
  ·subst e;rw[putT_same]at hk;exact hl k hk
  ·rw[putT_ne t x e]at hk;have:=h.lt j k hk;exact⟨this.1,Nat.lt_of_lt_of_le this.2 o.size⟩
 dis:=fun a b hab k ha hb=>by
  by_cases ea:a=i
  ·subst ea
   rw[putT_same]at ha
   rw[putT_ne t x (Ne.symm hab)]at hb
   exact hd k ha b (Ne.symm hab) hb
  ·by_cases eb:b=i
   ·subst eb
    rw[putT_ne t x ea]at ha
    rw[putT_same]at hb
    exact hd k hb a ea ha
   ·rw[putT_ne t x ea]at ha
    rw[putT_ne t x eb]at hb
    exact h.dis a b hab k ha hb
theorem Al.step (h:Al w0 w t) (i:Nat) (x:Thing) {U:List Nat} (hU:(t i).U=U) (g:Gr U w x.U w') (hx:x.T w') (hl:∀ k,k ∈ x.U→k<w'.heap.size):Al w0 w' (putT t i x):=by
 subst hU
 refine h.turn i x g.off hx (fun k hk=>⟨?_,hl k hk⟩) (fun k hk j hj hm=>?_)
 ·rcases g.new k hk with h1 | h1
  ·exact (h.lt i k h1).1
  ·exact Nat.le_trans h.bel.size h1
 ·exact g.out (h.lt j k hm).2 (h.dis j i hj k hm) hk
theorem Al.below (h:Al w0 w t) (b:Below w.heap.size w w'):Al w0 w' t:=
 ⟨h.bel.trans (b.mono h.bel.size),fun i=>(t i).st w w' [] (h.ok i) (Off.of_below b) (by simp),fun i k hk=>⟨(h.lt i k hk).1,Nat.lt_of_lt_of_le (h.lt i k hk).2 b.size⟩,h.dis⟩
theorem Al.same (h:Al w0 w t) {t':Nat→Thing} (e:∀ i,t' i=t i):Al w0 w t':=by
 have:t'=t:=funext e
 rw[this];exact h
end
end Go.Proofs.YtffehehghpafdaaGreat
