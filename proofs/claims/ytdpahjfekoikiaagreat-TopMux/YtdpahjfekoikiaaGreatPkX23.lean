/- Part 24: contracts that the proof rests on. -/
import Derived.OpenShut
import Derived.Deep.RegionWith
import Derived.Deep.DeepCutAuto
import Derived.RegionTactic
import Derived.Test.YtdpahjfekoikiaaGreatPkX22
set_option maxHeartbeats 64000000
set_option maxRecDepth 100000
namespace Go.Proofs.YtdpahjfekoikiaaGreat
open Tryz
open Go.RowKit
theorem uD {w:World} {d m mx:Nat} {P:Pm} {cp:Value} (h:w.heap[d]?=some (.cells #[.int .u32 (P.c:Nat),.int .i64 (P.o:Nat),.int .i64 (P.i:Nat),.int .i64 (P.t:Nat),.int .u32 (P.n:Nat),aa m 0,.int .u32 (mx:Nat),cp,.slice none 0 0,.int .i64 0,.int .i64 0,.int .i64 0,.bool false,.bool false,.bool false,.int .i64 0,.slice none 0 0,.bool false,.int .i64 0,.int .u32 0,.int .u32 0,.int .u32 0,.int .i64 0,.slice none 0 0,.bool false] 134 (0,0))) :
  ((((((((((((((w.setCell ⟨d,9,none⟩ (.int .i64 (P.t:Nat))).setCell ⟨d,10,none⟩ (.int .i64 0)).setCell ⟨d,11,none⟩ (.int .i64 (P.o:Nat))).setCell ⟨d,12,none⟩ (.bool false)).setCell ⟨d,13,none⟩ (.bool false)).setCell ⟨d,14,none⟩ (.bool false)).setCell ⟨d,15,none⟩ (.int .i64 0)).setCell ⟨d,16,none⟩ (.slice none 0 0)).setCell ⟨d,17,none⟩ (.bool false)).setCell ⟨d,18,none⟩ (.int .i64 1)).setCell ⟨d,19,none⟩ (.int .u32 0)).setCell ⟨d,20,none⟩ (.int .u32 0)).setCell ⟨d,21,none⟩ (.int .u32 0)).setCell ⟨d,22,none⟩ (.int .i64 0)).heap[d]?=some (.cells #[.int .u32 (P.c:Nat),.int .i64 (P.o:Nat),.int .i64 (P.i:Nat),.int .i64 (P.t:Nat),.int .u32 (P.n:Nat),aa m 0,.int .u32 (mx:Nat),cp,.slice none 0 0,.int .i64 (P.t:Nat),.int .i64 0,.int .i64 (P.o:Nat),.bool false,.bool false,.bool false,.int .i64 0,.slice none 0 0,.bool false,.int .i64 1,.int .u32 0,.int .u32 0,.int .u32 0,.int .i64 0,.slice none 0 0,.bool false] 134 (0,0))∧Off [d] w ((((((((((((((w.setCell ⟨d,9,none⟩ (.int .i64 (P.t:Nat))).setCell ⟨d,10,none⟩ (.int .i64 0)).setCell ⟨d,11,none⟩ (.int .i64 (P.o:Nat))).setCell ⟨d,12,none⟩ (.bool false)).setCell ⟨d,13,none⟩ (.bool false)).setCell ⟨d,14,none⟩ (.bool false)).setCell ⟨d,15,none⟩ (.int .i64 0)).setCell ⟨d,16,none⟩ (.slice none 0 0)).setCell ⟨d,17,none⟩ (.bool false)).setCell ⟨d,18,none⟩ (.int .i64 1)).setCell ⟨d,19,none⟩ (.int .u32 0)).setCell ⟨d,20,none⟩ (.int .u32 0)).setCell ⟨d,21,none⟩ (.int .u32 0)).setCell ⟨d,22,none⟩ (.int .i64 0)):=by
 have e0:(w.setCell ⟨d,9,none⟩ (.int .i64 (P.t:Nat))).heap[d]?=some (.cells #[.int .u32 (P.c:Nat),.int .i64 (P.o:Nat),.int .i64 (P.i:Nat),.int .i64 (P.t:Nat),.int .u32 (P.n:Nat),aa m 0,.int .u32 (mx:Nat),cp,.slice none 0 0,.int .i64 (P.t:Nat),.int .i64 0,.int .i64 0,.bool false,.bool false,.bool false,.int .i64 0,.slice none 0 0,.bool false,.int .i64 0,.int .u32 0,.int .u32 0,.int .u32 0,.int .i64 0,.slice none 0 0,.bool false] 134 (0,0)):=heap_setCell_same _ _ _ _ _ _ h
 have e1:((w.setCell ⟨d,9,none⟩ (.int .i64 (P.t:Nat))).setCell ⟨d,10,none⟩ (.int .i64 0)).heap[d]?=some (.cells #[.int .u32 (P.c:Nat),.int .i64 (P.o:Nat),.int .i64 (P.i:Nat),.int .i64 (P.t:Nat),.int .u32 (P.n:Nat),aa m 0,.int .u32 (mx:Nat),cp,.slice none 0 0,.int .i64 (P.t:Nat),.int .i64 0,.int .i64 0,.bool false,.bool false,.bool false,.int .i64 0,.slice none 0 0,.bool false,.int .i64 0,.int .u32 0,.int .u32 0,.int .u32 0,.int .i64 0,.slice none 0 0,.bool false] 134 (0,0)):=heap_setCell_same _ _ _ _ _ _ e0
 have e2:(((w.setCell ⟨d,9,none⟩ (.int .i64 (P.t:Nat))).setCell ⟨d,10,none⟩ (.int .i64 0)).setCell ⟨d,11,none⟩ (.int .i64 (P.o:Nat))).heap[d]?=some (.cells #[.int .u32 (P.c:Nat),.int .i64 (P.o:Nat),.int .i64 (P.i:Nat),.int .i64 (P.t:Nat),.int .u32 (P.n:Nat),aa m 0,.int .u32 (mx:Nat),cp,.slice none 0 0,.int .i64 (P.t:Nat),.int .i64 0,.int .i64 (P.o:Nat),.bool false,.bool false,.bool false,.int .i64 0,.slice none 0 0,.bool false,.int .i64 0,.int .u32 0,.int .u32 0,.int .u32 0,.int .i64 0,.slice none 0 0,.bool false] 134 (0,0)):=heap_setCell_same _ _ _ _ _ _ e1
 have e3:((((w.setCell ⟨d,9,none⟩ (.int .i64 (P.t:Nat))).setCell ⟨d,10,none⟩ (.int .i64 0)).setCell ⟨d,11,none⟩ (.int .i64 (P.o:Nat))).setCell ⟨d,12,none⟩ (.bool false)).heap[d]?=some (.cells #[.int .u32 (P.c:Nat),.int .i64 (P.o:Nat),.int .i64 (P.i:Nat),.int .i64 (P.t:Nat),.int .u32 (P.n:Nat),aa m 0,.int .u32 (mx:Nat),cp,.slice none 0 0,.int .i64 (P.t:Nat),.int .i64 0,.int .i64 (P.o:Nat),.bool false,.bool false,.bool false,.int .i64 0,.slice none 0 0,.bool false,.int .i64 0,.int .u32 0,.int .u32 0,.int .u32 0,.int .i64 0,.slice none 0 0,.bool false] 134 (0,0)):=heap_setCell_same _ _ _ _ _ _ e2
 have e4:(((((w.setCell ⟨d,9,none⟩ (.int .i64 (P.t:Nat))).setCell ⟨d,10,none⟩ (.int .i64 0)).setCell ⟨d,11,none⟩ (.int .i64 (P.o:Nat))).setCell ⟨d,12,none⟩ (.bool false)).setCell ⟨d,13,none⟩ (.bool false)).heap[d]?=some (.cells #[.int .u32 (P.c:Nat),.int .i64 (P.o:Nat),.int .i64 (P.i:Nat),.int .i64 (P.t:Nat),.int .u32 (P.n:Nat),aa m 0,.int .u32 (mx:Nat),cp,.slice none 0 0,.int .i64 (P.t:Nat),.int .i64 0,.int .i64 (P.o:Nat),.bool false,.bool false,.bool false,.int .i64 0,.slice none 0 0,.bool false,.int .i64 0,.int .u32 0,.int .u32 0,.int .u32 0,.int .i64 0,.slice none 0 0,.bool false] 134 (0,0)):=heap_setCell_same _ _ _ _ _ _ e3
 have e5:((((((w.setCell ⟨d,9,none⟩ (.int .i64 (P.t:Nat))).setCell ⟨d,10,none⟩ (.int .i64 0)).setCell ⟨d,11,none⟩ (.int .i64 (P.o:Nat))).setCell ⟨d,12,none⟩ (.bool false)).setCell ⟨d,13,none⟩ (.bool false)).setCell ⟨d,14,none⟩ (.bool false)).heap[d]?=some (.cells #[.int .u32 (P.c:Nat),.int .i64 (P.o:Nat),.int .i64 (P.i:Nat),.int .i64 (P.t:Nat),.int .u32 (P.n:Nat),aa m 0,.int .u32 (mx:Nat),cp,.slice none 0 0,.int .i64 (P.t:Nat),.int .i64 0,.int .i64 (P.o:Nat),.bool false,.bool false,.bool false,.int .i64 0,.slice none 0 0,.bool false,.int .i64 0,.int .u32 0,.int .u32 0,.int .u32 0,.int .i64 0,.slice none 0 0,.bool false] 134 (0,0)):=heap_setCell_same _ _ _ _ _ _ e4
 have e6:(((((((w.setCell ⟨d,9,none⟩ (.int .i64 (P.t:Nat))).setCell ⟨d,10,none⟩ (.int .i64 0)).setCell ⟨d,11,none⟩ (.int .i64 (P.o:Nat))).setCell ⟨d,12,none⟩ (.bool false)).setCell ⟨d,13,none⟩ (.bool false)).setCell ⟨d,14,none⟩ (.bool false)).setCell ⟨d,15,none⟩ (.int .i64 0)).heap[d]?=some (.cells #[.int .u32 (P.c:Nat),.int .i64 (P.o:Nat),.int .i64 (P.i:Nat),.int .i64 (P.t:Nat),.int .u32 (P.n:Nat),aa m 0,.int .u32 (mx:Nat),cp,.slice none 0 0,.int .i64 (P.t:Nat),.int .i64 0,.int .i64 (P.o:Nat),.bool false,.bool false,.bool false,.int .i64 0,.slice none 0 0,.bool false,.int .i64 0,.int .u32 0,.int .u32 0,.int .u32 0,.int .i64 0,.slice none 0 0,.bool false] 134 (0,0)):=heap_setCell_same _ _ _ _ _ _ e5
 have e7:((((((((w.setCell ⟨d,9,none⟩ (.int .i64 (P.t:Nat))).setCell ⟨d,10,none⟩ (.int .i64 0)).setCell ⟨d,11,none⟩ (.int .i64 (P.o:Nat))).setCell ⟨d,12,none⟩ (.bool false)).setCell ⟨d,13,none⟩ (.bool false)).setCell ⟨d,14,none⟩ (.bool false)).setCell ⟨d,15,none⟩ (.int .i64 0)).setCell ⟨d,16,none⟩ (.slice none 0 0)).heap[d]?=some (.cells #[.int .u32 (P.c:Nat),.int .i64 (P.o:Nat),.int .i64 (P.i:Nat),.int .i64 (P.t:Nat),.int .u32 (P.n:Nat),aa m 0,.int .u32 (mx:Nat),cp,.slice none 0 0,.int .i64 (P.t:Nat),.int .i64 0,.int .i64 (P.o:Nat),.bool false,.bool false,.bool false,.int .i64 0,.slice none 0 0,.bool false,.int .i64 0,.int .u32 0,.int .u32 0,.int .u32 0,.int .i64 0,.slice none 0 0,.bool false] 134 (0,0)):=heap_setCell_same _ _ _ _ _ _ e6
 have e8:(((((((((w.setCell ⟨d,9,none⟩ (.int .i64 (P.t:Nat))).setCell ⟨d,10,none⟩ (.int .i64 0)).setCell ⟨d,11,none⟩ (.int .i64 (P.o:Nat))).setCell ⟨d,12,none⟩ (.bool false)).setCell ⟨d,13,none⟩ (.bool false)).setCell ⟨d,14,none⟩ (.bool false)).setCell ⟨d,15,none⟩ (.int .i64 0)).setCell ⟨d,16,none⟩ (.slice none 0 0)).setCell ⟨d,17,none⟩ (.bool false)).heap[d]?=some (.cells #[.int .u32 (P.c:Nat),.int .i64 (P.o:Nat),.int .i64 (P.i:Nat),.int .i64 (P.t:Nat),.int .u32 (P.n:Nat),aa m 0,.int .u32 (mx:Nat),cp,.slice none 0 0,.int .i64 (P.t:Nat),.int .i64 0,.int .i64 (P.o:Nat),.bool false,.bool false,.bool false,.int .i64 0,.slice none 0 0,.bool false,.int .i64 0,.int .u32 0,.int .u32 0,.int .u32 0,.int .i64 0,.slice none 0 0,.bool false] 134 (0,0)):=heap_setCell_same _ _ _ _ _ _ e7
 have e9:((((((((((w.setCell ⟨d,9,none⟩ (.int .i64 (P.t:Nat))).setCell ⟨d,10,none⟩ (.int .i64 0)).setCell ⟨d,11,none⟩ (.int .i64 (P.o:Nat))).setCell ⟨d,12,none⟩ (.bool false)).setCell ⟨d,13,none⟩ (.bool false)).setCell ⟨d,14,none⟩ (.bool false)).setCell ⟨d,15,none⟩ (.int .i64 0)).setCell ⟨d,16,none⟩ (.slice none 0 0)).setCell ⟨d,17,none⟩ (.bool false)).setCell ⟨d,18,none⟩ (.int .i64 1)).heap[d]?=some (.cells #[.int .u32 (P.c:Nat),.int .i64 (P.o:Nat),.int .i64 (P.i:Nat),.int .i64 (P.t:Nat),.int .u32 (P.n:Nat),aa m 0,.int .u32 (mx:Nat),cp,.slice none 0 0,.int .i64 (P.t:Nat),.int .i64 0,.int .i64 (P.o:Nat),.bool false,.bool false,.bool false,.int .i64 0,.slice none 0 0,.bool false,.int .i64 1,.int .u32 0,.int .u32 0,.int .u32 0,.int .i64 0,.slice none 0 0,.bool false] 134 (0,0)):=heap_setCell_same _ _ _ _ _ _ e8
 have e10:(((((((((((w.setCell ⟨d,9,none⟩ (.int .i64 (P.t:Nat))).setCell ⟨d,10,none⟩ (.int .i64 0)).setCell ⟨d,11,none⟩ (.int .i64 (P.o:Nat))).setCell ⟨d,12,none⟩ (.bool false)).setCell ⟨d,13,none⟩ (.bool false)).setCell ⟨d,14,none⟩ (.bool false)).setCell ⟨d,15,none⟩ (.int .i64 0)).setCell ⟨d,16,none⟩ (.slice none 0 0)).setCell ⟨d,17,none⟩ (.bool false)).setCell ⟨d,18,none⟩ (.int .i64 1)).setCell ⟨d,19,none⟩ (.int .u32 0)).heap[d]?=some (.cells #[.int .u32 (P.c:Nat),.int .i64 (P.o:Nat),.int .i64 (P.i:Nat),.int .i64 (P.t:Nat),.int .u32 (P.n:Nat),aa m 0,.int .u32 (mx:Nat),cp,.slice none 0 0,.int .i64 (P.t:Nat),.int .i64 0,.int .i64 (P.o:Nat),.bool false,.bool false,.bool false,.int .i64 0,.slice none 0 0,.bool false,.int .i64 1,.int .u32 0,.int .u32 0,.int .u32 0,.int .i64 0,.slice none 0 0,.bool false] 134 (0,0)):=heap_setCell_same _ _ _ _ _ _ e9
 have e11:((((((((((((w.setCell ⟨d,9,none⟩ (.int .i64 (P.t:Nat))).setCell ⟨d,10,none⟩ (.int .i64 0)).setCell ⟨d,11,none⟩ (.int .i64 (P.o:Nat))).setCell ⟨d,12,none⟩ (.bool false)).setCell ⟨d,13,none⟩ (.bool false)).setCell ⟨d,14,none⟩ (.bool false)).setCell ⟨d,15,none⟩ (.int .i64 0)).setCell ⟨d,16,none⟩ (.slice none 0 0)).setCell ⟨d,17,none⟩ (.bool false)).setCell ⟨d,18,none⟩ (.int .i64 1)).setCell ⟨d,19,none⟩ (.int .u32 0)).setCell ⟨d,20,none⟩ (.int .u32 0)).heap[d]?=some (.cells #[.int .u32 (P.c:Nat),.int .i64 (P.o:Nat),.int .i64 (P.i:Nat),.int .i64 (P.t:Nat),.int .u32 (P.n:Nat),aa m 0,.int .u32 (mx:Nat),cp,.slice none 0 0,.int .i64 (P.t:Nat),.int .i64 0,.int .i64 (P.o:Nat),.bool false,.bool false,.bool false,.int .i64 0,.slice none 0 0,.bool false,.int .i64 1,.int .u32 0,.int .u32 0,.int .u32 0,.int .i64 0,.slice none 0 0,.bool false] 134 (0,0)):=heap_setCell_same _ _ _ _ _ _ e10
 have e12:(((((((((((((w.setCell ⟨d,9,none⟩ (.int .i64 (P.t:Nat))).setCell ⟨d,10,none⟩ (.int .i64 0)).setCell ⟨d,11,none⟩ (.int .i64 (P.o:Nat))).setCell ⟨d,12,none⟩ (.bool false)).setCell ⟨d,13,none⟩ (.bool false)).setCell ⟨d,14,none⟩ (.bool false)).setCell ⟨d,15,none⟩ (.int .i64 0)).setCell ⟨d,16,none⟩ (.slice none 0 0)).setCell ⟨d,17,none⟩ (.bool false)).setCell ⟨d,18,none⟩ (.int .i64 1)).setCell ⟨d,19,none⟩ (.int .u32 0)).setCell ⟨d,20,none⟩ (.int .u32 0)).setCell ⟨d,21,none⟩ (.int .u32 0)).heap[d]?=some (.cells #[.int .u32 (P.c:Nat),.int .i64 (P.o:Nat),.int .i64 (P.i:Nat),.int .i64 (P.t:Nat),.int .u32 (P.n:Nat),aa m 0,.int .u32 (mx:Nat),cp,.slice none 0 0,.int .i64 (P.t:Nat),.int .i64 0,.int .i64 (P.o:Nat),.bool false,.bool false,.bool false,.int .i64 0,.slice none 0 0,.bool false,.int .i64 1,.int .u32 0,.int .u32 0,.int .u32 0,.int .i64 0,.slice none 0 0,.bool false] 134 (0,0)):=heap_setCell_same _ _ _ _ _ _ e11
 have e13:((((((((((((((w.setCell ⟨d,9,none⟩ (.int .i64 (P.t:Nat))).setCell ⟨d,10,none⟩ (.int .i64 0)).setCell ⟨d,11,none⟩ (.int .i64 (P.o:Nat))).setCell ⟨d,12,none⟩ (.bool false)).setCell ⟨d,13,none⟩ (.bool false)).setCell ⟨d,14,none⟩ (.bool false)).setCell ⟨d,15,none⟩ (.int .i64 0)).setCell ⟨d,16,none⟩ (.slice none 0 0)).setCell ⟨d,17,none⟩ (.bool false)).setCell ⟨d,18,none⟩ (.int .i64 1)).setCell ⟨d,19,none⟩ (.int .u32 0)).setCell ⟨d,20,none⟩ (.int .u32 0)).setCell ⟨d,21,none⟩ (.int .u32 0)).setCell ⟨d,22,none⟩ (.int .i64 0)).heap[d]?=some (.cells #[.int .u32 (P.c:Nat),.int .i64 (P.o:Nat),.int .i64 (P.i:Nat),.int .i64 (P.t:Nat),.int .u32 (P.n:Nat),aa m 0,.int .u32 (mx:Nat),cp,.slice none 0 0,.int .i64 (P.t:Nat),.int .i64 0,.int .i64 (P.o:Nat),.bool false,.bool false,.bool false,.int .i64 0,.slice none 0 0,.bool false,.int .i64 1,.int .u32 0,.int .u32 0,.int .u32 0,.int .i64 0,.slice none 0 0,.bool false] 134 (0,0)):=heap_setCell_same _ _ _ _ _ _ e12
 exact⟨e13,((((((((((((((Off.setCell d 9 w (.int .i64 (P.t:Nat))).trans (Off.setCell d 10 _ (.int .i64 0))).trans (Off.setCell d 11 _ (.int .i64 (P.o:Nat)))).trans (Off.setCell d 12 _ (.bool false))).trans (Off.setCell d 13 _ (.bool false))).trans (Off.setCell d 14 _ (.bool false))).trans (Off.setCell d 15 _ (.int .i64 0))).trans (Off.setCell d 16 _ (.slice none 0 0))).trans (Off.setCell d 17 _ (.bool false))).trans (Off.setCell d 18 _ (.int .i64 1))).trans (Off.setCell d 19 _ (.int .u32 0))).trans (Off.setCell d 20 _ (.int .u32 0))).trans (Off.setCell d 21 _ (.int .u32 0))).trans (Off.setCell d 22 _ (.int .i64 0)))⟩
theorem lh (d m mx:Nat) (P:Pm) (cp:Value) (ms:Ms) (w:World) (h:w.heap[d]?=some (.cells #[.int .u32 (P.c:Nat),.int .i64 (P.o:Nat),.int .i64 (P.i:Nat),.int .i64 (P.t:Nat),.int .u32 (P.n:Nat),aa m 0,.int .u32 (mx:Nat),cp,.slice none 0 0,.int .i64 0,.int .i64 0,.int .i64 0,.bool false,.bool false,.bool false,.int .i64 0,.slice none 0 0,.bool false,.int .i64 0,.int .u32 0,.int .u32 0,.int .u32 0,.int .i64 0,.slice none 0 0,.bool false] 134 (0,0))) (hi8:P.i≤8) :
  Calls prog 91 #[aa d 0,.int .i64 1] w fun e w'=>e=.returned (.tuple #[])∧Hid (Off [d] w w'∧∃ ga,w.heap.size≤ga∧ga<w'.heap.size∧w'.heap[d]?=some (.cells (vm P m mx cp (.slice none 0 0) (.slice none 0 0) (bj ms) (.slice (ac ga 0) P.i P.i)) 134 (0,0))∧w'.ownsRow 0 5 1 (.slice (ac ga 0) P.i P.i) P.i (CB (fun _=>0) P.i)):=by
 obtain⟨i0,hi,hz0,hz1,hz2⟩:=info_parts aS
 have hdl:d<w.heap.size:=(Array.getElem?_eq_some_iff.1 h).1
 have c1:w.cell? ⟨d,1,none⟩=some (.int .i64 (P.o:Nat)):=ab w d 1 _ _ _ h
 have c2:w.cell? ⟨d,2,none⟩=some (.int .i64 (P.i:Nat)):=ab w d 2 _ _ _ h
 have c3:w.cell? ⟨d,3,none⟩=some (.int .i64 (P.t:Nat)):=ab w d 3 _ _ _ h
 have c9:w.cell? ⟨d,9,none⟩=some (.int .i64 0):=ab w d 9 _ _ _ h
 have z9:=frozen_of_row w d 9 _ _ h
 have c10:w.cell? ⟨d,10,none⟩=some (.int .i64 0):=ab w d 10 _ _ _ h
 have z10:=frozen_of_row w d 10 _ _ h
 have c11:w.cell? ⟨d,11,none⟩=some (.int .i64 0):=ab w d 11 _ _ _ h
 have z11:=frozen_of_row w d 11 _ _ h
 have c12:w.cell? ⟨d,12,none⟩=some (.bool false):=ab w d 12 _ _ _ h
 have z12:=frozen_of_row w d 12 _ _ h
 have c13:w.cell? ⟨d,13,none⟩=some (.bool false):=ab w d 13 _ _ _ h
 have z13:=frozen_of_row w d 13 _ _ h
 have c14:w.cell? ⟨d,14,none⟩=some (.bool false):=ab w d 14 _ _ _ h
 have z14:=frozen_of_row w d 14 _ _ h
 have c15:w.cell? ⟨d,15,none⟩=some (.int .i64 0):=ab w d 15 _ _ _ h
 have z15:=frozen_of_row w d 15 _ _ h
 have c16:w.cell? ⟨d,16,none⟩=some (.slice none 0 0):=ab w d 16 _ _ _ h
 have z16:=frozen_of_row w d 16 _ _ h
 have c17:w.cell? ⟨d,17,none⟩=some (.bool false):=ab w d 17 _ _ _ h
 have z17:=frozen_of_row w d 17 _ _ h
 have c18:w.cell? ⟨d,18,none⟩=some (.int .i64 0):=ab w d 18 _ _ _ h
 have z18:=frozen_of_row w d 18 _ _ h
 have c19:w.cell? ⟨d,19,none⟩=some (.int .u32 0):=ab w d 19 _ _ _ h
 have z19:=frozen_of_row w d 19 _ _ h
 have c20:w.cell? ⟨d,20,none⟩=some (.int .u32 0):=ab w d 20 _ _ _ h
 have z20:=frozen_of_row w d 20 _ _ h
 have c21:w.cell? ⟨d,21,none⟩=some (.int .u32 0):=ab w d 21 _ _ _ h
 have z21:=frozen_of_row w d 21 _ _ h
 have c22:w.cell? ⟨d,22,none⟩=some (.int .i64 0):=ab w d 22 _ _ _ h
 have z22:=frozen_of_row w d 22 _ _ h
 have l14:=uD h
 have H:Hid (_):=And.intro hdl l14
 clear h l14 hdl
 go_enter func91,ntmps91
 go_upto_region 7 with fail
 generalize ((((((((((((((w.setCell ⟨d,9,none⟩ (.int .i64 (P.t:Nat))).setCell ⟨d,10,none⟩ (.int .i64 0)).setCell ⟨d,11,none⟩ (.int .i64 (P.o:Nat))).setCell ⟨d,12,none⟩ (.bool false)).setCell ⟨d,13,none⟩ (.bool false)).setCell ⟨d,14,none⟩ (.bool false)).setCell ⟨d,15,none⟩ (.int .i64 0)).setCell ⟨d,16,none⟩ (.slice none 0 0)).setCell ⟨d,17,none⟩ (.bool false)).setCell ⟨d,18,none⟩ (.int .i64 1)).setCell ⟨d,19,none⟩ (.int .u32 0)).setCell ⟨d,20,none⟩ (.int .u32 0)).setCell ⟨d,21,none⟩ (.int .u32 0)).setCell ⟨d,22,none⟩ (.int .i64 0))=w1 at *
 have e1:=H.out.2.1
 have hd1:d<w1.heap.size:=Nat.lt_of_lt_of_le H.out.1 H.out.2.2.size
 have d2:w1.cell? ⟨d,2,none⟩=some (.int .i64 (P.i:Nat)):=ab w1 d 2 _ _ _ e1
 have H1:Hid (_):=And.intro e1 hd1
 clear e1 hd1 c1 c2 c3 c9 z9 c10 z10 c11 z11 c12 z12 c13 z13 c14 z14 c15 z15 c16 z16 c17 z17 c18 z18 c19 z19 c20 z20 c21 z21 c22 z22
 go_wp2_with (at_make;refine aH _ rfl (.tmp 43) (.tmp 43) 43 rfl w1.heap.size 5 i0 underlying43 hi hz0 hz1 hz2 _ _ _ _ P.i P.i rfl rfl rfl rfl (Nat.le_refl _) (by omega) (Nat.le_refl _) ?_)
 intro w2 hown2 hbel2
 have e2:=(hbel2.block d H1.out.2).trans H1.out.1
 have c23:w2.cell? ⟨d,23,none⟩=some (.slice none 0 0):=ab w2 d 23 _ _ _ e2
 have c24:w2.cell? ⟨d,24,none⟩=some (.bool false):=ab w2 d 24 _ _ _ e2
 have z23:=frozen_of_row w2 d 23 _ _ e2
 have z24:=frozen_of_row w2 d 24 _ _ e2
 have H2:Hid (_):=And.intro hown2 (And.intro hbel2 e2)
 clear hown2 hbel2 e2 d2 H1
 go_wp2_with fail
 go_end0
 obtain⟨hown2,hbel2,e2⟩:=H2.out
 have e3:(w2.setCell ⟨d,23,none⟩ (.slice (ac w1.heap.size 0) P.i P.i)).heap[d]?=some (.cells #[.int .u32 (P.c:Nat),.int .i64 (P.o:Nat),.int .i64 (P.i:Nat),.int .i64 (P.t:Nat),.int .u32 (P.n:Nat),aa m 0,.int .u32 (mx:Nat),cp,.slice none 0 0,.int .i64 (P.t:Nat),.int .i64 0,.int .i64 (P.o:Nat),.bool false,.bool false,.bool false,.int .i64 0,.slice none 0 0,.bool false,.int .i64 1,.int .u32 0,.int .u32 0,.int .u32 0,.int .i64 0,.slice (ac w1.heap.size 0) P.i P.i,.bool false] 134 (0,0)):=heap_setCell_same _ _ _ _ _ _ e2
 have e4:((w2.setCell ⟨d,23,none⟩ (.slice (ac w1.heap.size 0) P.i P.i)).setCell ⟨d,24,none⟩ (.bool false)).heap[d]?=some (.cells #[.int .u32 (P.c:Nat),.int .i64 (P.o:Nat),.int .i64 (P.i:Nat),.int .i64 (P.t:Nat),.int .u32 (P.n:Nat),aa m 0,.int .u32 (mx:Nat),cp,.slice none 0 0,.int .i64 (P.t:Nat),.int .i64 0,.int .i64 (P.o:Nat),.bool false,.bool false,.bool false,.int .i64 0,.slice none 0 0,.bool false,.int .i64 1,.int .u32 0,.int .u32 0,.int .u32 0,.int .i64 0,.slice (ac w1.heap.size 0) P.i P.i,.bool false] 134 (0,0)):=heap_setCell_same _ _ _ _ _ _ e3
 have o4:Off [d] w2 ((w2.setCell ⟨d,23,none⟩ (.slice (ac w1.heap.size 0) P.i P.i)).setCell ⟨d,24,none⟩ (.bool false)):=(Off.setCell d 23 w2 _).trans (Off.setCell d 24 _ (.bool false))
 have hga:=gq hown2 ⟨w1.heap.size,0,none⟩ rfl
 have hs1:=H.out.2.2.size
 have hs4:=o4.size
 refine⟨rfl,(H.out.2.2.trans (Off.of_below hbel2)).trans o4,w1.heap.size,hs1,by have:=hga.2;simp only at this;omega,e4,an (ak hown2 (Nat.zero_le _)) o4 (fun k hk=>?_)⟩
 cases hk
 have:=H.out.1
 simp;omega
theorem sU (mx n:Nat) (ms:Ms) (h:gc mx n ms=0):mx≠0∧10≤n:=by
 unfold gc at h
 by_cases h1:mx=0∨n<10
 ·rw[if_pos h1]at h;omega
 ·omega
theorem RB.made {w:World} {d m g n mx c ga:Nat} {P:Pm} {ms:Ms} (hP:Pok P) (hn:10≤n) (hx0:mx≠0) (hx:mx<4294967296) (hM:RR w m g n ms) (hC:RX w c m mx (vz ms.bs) false) (hoff:ms.off=false) (hm:m<c) (hg:g<c) (hc:c<d) (hd:d<ga) (hga:ga<w.heap.size)
  (hdev:w.heap[d]?=some (.cells (vm P m mx (aa c 0) (.slice none 0 0) (.slice none 0 0) (bj ms) (.slice (ac ga 0) P.i P.i)) 134 (0,0))) (hown:w.ownsRow 0 5 1 (.slice (ac ga 0) P.i P.i) P.i (CB (fun _=>0) P.i)) :
  RW w d m g n mx P [d,m,g,c,ga] (bj ms):=by
 refine⟨⟨c,[],aa c 0,.slice none 0 0,.slice none 0 0,.slice (ac ga 0) P.i P.i,fun k=>if k=d then 0 else if k=m∨k=g then 1 else if k=c then 2 else 6⟩,hdev,hM,fun _=>⟨rfl,hC,hoff⟩,.inl ⟨rfl,rfl⟩,World.ownsRow_nil w _ _ _,hown,fun i _=>(by show 0<256;omega),Vok.new,Nat.zero_le _,?_,?_,?_,?_,?_,fun k hk=>(by simp at hk),fun k hk=>(by cases hk),?_,hP,hn,hx0,hx,fun _=>rfl⟩
 ·intro k hk
  simp at hk
  omega
 ·exact⟨if_pos rfl,by simp⟩
 ·exact⟨by dsimp only;rw[if_neg (by omega),if_pos (.inl rfl)],by simp⟩
 ·exact⟨by dsimp only;rw[if_neg (by omega),if_pos (.inr rfl)],by simp⟩
 ·exact⟨by dsimp only;rw[if_neg (by omega),if_neg (by omega),if_pos rfl],by simp⟩
 ·intro k hk
  cases hk
  exact⟨by dsimp only;rw[if_neg (by omega),if_neg (by omega),if_neg (by omega)],by simp⟩
theorem qS (m g n mx:Nat) (P:Pm) (hP:Pok P) (ms:Ms) (w:World) (hM:RR w m g n ms) (hx:mx<4294967296) (ht:ms.t<9223372036854774000) :
  Calls prog 50 #[.agg #[.int .u32 (P.c:Nat),.int .i64 (P.o:Nat),.int .i64 (P.i:Nat),.int .i64 (P.t:Nat),.int .u32 (P.n:Nat)],aa m 0,.int .u32 (mx:Nat)] w fun e w'=>∃ p,e=.returned (.tuple #[.pointer p,.int .i64 (gc mx n ms)])∧Hid (Off [m,g] w w'∧RR w' m g n (iy mx n ms)∧(gc mx n ms=0→∃ d U,p=ac d 0∧RW w' d m g n mx P U (bj (iy mx n ms))∧∀ k,k ∈ U→k=m∨k=g∨w.heap.size≤k)∧(¬ gc mx n ms=0→p=none)):=by
 obtain⟨E,hE⟩:∃ x,gc mx n ms=x:=⟨_,rfl⟩
 rw[hE]
 have hb:Below w.heap.size w (w.alloc (.cells #[.int .u32 (P.c:Nat),.int .i64 (P.o:Nat),.int .i64 (P.i:Nat),.int .i64 (P.t:Nat),.int .u32 (P.n:Nat)] 29)):=(Below.refl _ _).alloc (Nat.le_refl _) _
 have hx0:=aB w (.cells #[.int .u32 (P.c:Nat),.int .i64 (P.o:Nat),.int .i64 (P.i:Nat),.int .i64 (P.t:Nat),.int .u32 (P.n:Nat)] 29)
 have hs:w.heap.size < (w.alloc (.cells #[.int .u32 (P.c:Nat),.int .i64 (P.o:Nat),.int .i64 (P.i:Nat),.int .i64 (P.t:Nat),.int .u32 (P.n:Nat)] 29)).heap.size:=by simp
 have hC:=lf P.c P.o P.i P.t P.n (w.alloc (.cells #[.int .u32 (P.c:Nat),.int .i64 (P.o:Nat),.int .i64 (P.i:Nat),.int .i64 (P.t:Nat),.int .u32 (P.n:Nat)] 29)) true (decide_eq_true hP.ok)
 have hO:∀ wx,RR wx m g n ms→Calls prog 90 #[aa m 0,.int .u32 (mx:Nat)] wx fun e w'=>∃ p,e=.returned (.tuple #[.pointer p,.int .i64 E])∧Hid (Off [m,g] wx w'∧RR w' m g n (iy mx n ms)∧(E=0→∃ d,p=ac d 0∧wx.heap.size≤d∧RX w' d m mx (vz ms.bs) false)∧(¬ E=0→p=none)):=by
  intro wx hMx
  subst hE
  exact uQ m g n mx ms wx hMx ht
 have HO:Hid (_):=hO
 have HH:Hid (_):=And.intro hb (And.intro hs (And.intro hx0 (And.intro hM (And.intro hE (And.intro hP hx)))))
 clear hO hb hs hx0 hM hE hP hx ht
 go_enter func50,ntmps50
 go_wp2_with (go_at_call 89;refine hC.mono ?_;rintro e w1 ⟨rfl,b1⟩)
 obtain⟨hb,hs,hx0,hM,_⟩:=HH.out
 have bb:=hb.trans (b1.mono hb.size)
 refine (HO.out w1 (hM.off (Off.of_below (l:=[]) bb) (by simp) (by simp))).mono ?_
 rintro e w2 ⟨p,rfl,h2⟩
 have l1:=hM.lt
 have l2:=hM.lg
 have l3:=b1.size
 have e2:w2.heap[w.heap.size]?=some (.cells #[.int .u32 (P.c:Nat),.int .i64 (P.o:Nat),.int .i64 (P.i:Nat),.int .i64 (P.t:Nat),.int .u32 (P.n:Nat)] 29 (0,0)):=by
  rw[h2.out.1.block w.heap.size (by omega) (by simp;omega),b1.block _ (by omega)]
  exact hx0
 have H2:Hid (_):=And.intro bb (And.intro h2.out (And.intro HH.out (And.intro (by omega:w.heap.size<w1.heap.size) (And.intro l1 l2))))
 by_cases he:E=0
 ·have e0:(E != 0)=false:=by simp[he]
  obtain⟨c,rfl,hc,hC2⟩:=h2.out.2.2.1 he
  have HE:Hid (_):=And.intro he (And.intro hc hC2)
  have p0:w2.cell? ⟨w.heap.size,0,none⟩=some (.int .u32 (P.c:Nat)):=ab w2 _ 0 _ _ _ e2
  have p1:w2.cell? ⟨w.heap.size,1,none⟩=some (.int .i64 (P.o:Nat)):=ab w2 _ 1 _ _ _ e2
  have p2:w2.cell? ⟨w.heap.size,2,none⟩=some (.int .i64 (P.i:Nat)):=ab w2 _ 2 _ _ _ e2
  have p3:w2.cell? ⟨w.heap.size,3,none⟩=some (.int .i64 (P.t:Nat)):=ab w2 _ 3 _ _ _ e2
  have p4:w2.cell? ⟨w.heap.size,4,none⟩=some (.int .u32 (P.n:Nat)):=ab w2 _ 4 _ _ _ e2
  have hF:=lh w2.heap.size m mx P (aa c 0) (iy mx n ms) (w2.alloc (.cells #[.int .u32 (P.c:Nat),.int .i64 (P.o:Nat),.int .i64 (P.i:Nat),.int .i64 (P.t:Nat),.int .u32 (P.n:Nat),aa m 0,.int .u32 (mx:Nat),aa c 0,.slice none 0 0,.int .i64 0,.int .i64 0,.int .i64 0,.bool false,.bool false,.bool false,.int .i64 0,.slice none 0 0,.bool false,.int .i64 0,.int .u32 0,.int .u32 0,.int .u32 0,.int .i64 0,.slice none 0 0,.bool false] 134)) (aB w2 _) HH.out.2.2.2.2.2.1.i8
  clear hC b1 hb hs hx0 hM bb h2 e2 he hc hC2 HO l1 l2 l3
  go_wp2_with fail
  refine hF.mono ?_
  rintro e w3 ⟨rfl,h3⟩
  clear hF p0 p1 p2 p3 p4
  go_wp2_with fail
  go_ret2
  obtain⟨bb,⟨o2,m2,_,_⟩,⟨_,_,_,hM,hE,hP,hx⟩,hw1,l1,l2⟩:=H2.out
  obtain⟨he,hc,hC2⟩:=HE.out
  obtain⟨o3,ga,hga,hgl,hdev,hown⟩:=h3.out
  subst he
  obtain⟨mx0,n10⟩:=sU mx n ms hE
  have hoff:=nt hM.l0 hE
  have oA:Off [] w2 (w2.alloc (.cells #[.int .u32 (P.c:Nat),.int .i64 (P.o:Nat),.int .i64 (P.i:Nat),.int .i64 (P.t:Nat),.int .u32 (P.n:Nat),aa m 0,.int .u32 (mx:Nat),aa c 0,.slice none 0 0,.int .i64 0,.int .i64 0,.int .i64 0,.bool false,.bool false,.bool false,.int .i64 0,.slice none 0 0,.bool false,.int .i64 0,.int .u32 0,.int .u32 0,.int .u32 0,.int .i64 0,.slice none 0 0,.bool false] 134)):=Off.alloc _ _ _
  have o23:Off [w2.heap.size] w2 w3:=(oA.more (by simp)).trans o3
  have hcl:=hC2.lt
  have k7:=o2.size
  rw[World.size_alloc]at hga
  have hm2:m<w2.heap.size:=m2.lt
  have hg2:g<w2.heap.size:=m2.lg
  have M3:=m2.off o23 (by simp;omega) (by simp;omega)
  have C3:=hC2.off o23 (by simp;omega)
  rw[← tZ hM.l0 (fun i hi=>hM.byte i (by omega)) (mx:=mx) (n:=n)]at C3
  refine⟨_,rfl,?_,M3,fun _=>⟨w2.heap.size,[w2.heap.size,m,g,c,ga],rfl,RB.made hP n10 mx0 hx M3 C3 hoff (by omega) (by omega) (by omega) (by omega) hgl hdev hown,?_⟩,fun h=>absurd rfl h⟩
  ·have q:=(Off.of_below (l:=[m,g]) bb).trans o2
   exact⟨o23.os.trans q.os,o23.tape.trans q.tape,o23.output.trans q.output,Nat.le_trans q.size o23.size,fun i hi hn=>(o23.block i (by have:=q.size;omega) (by simp;have:=q.size;have:=bb.size;omega)).trans (q.block i hi hn)⟩
  ·intro k hk
   simp at hk
   have:=bb.size
   omega
 ·have e0:(E != 0)=true:=by simp[he]
  obtain rfl:=h2.out.2.2.2 he
  have HE:Hid (_):=he
  clear he hC b1 hb hs hx0 hM bb h2 e2 l1 l2 l3
  go_wp2_with fail
  go_ret2
  obtain⟨bb,⟨o2,m2,_,_⟩,hh,_⟩:=H2.out
  exact⟨none,rfl,(Off.of_below bb).trans o2,m2,fun h=>absurd h HE.out,fun _=>rfl⟩
theorem qJ {w:World} {B e n:Nat} {v:Value} {xs:List Value} (h:w.ownsRow B e 1 v n xs):∃ a cap,v=.slice a n cap∧(0<n→∃ g,a=ac g 0∧B≤g):=by
 rcases h.2 with ⟨rfl,rfl⟩ | ⟨g,cap,cur,hv,hg,_⟩
 ·exact⟨none,0,rfl,fun h=>by omega⟩
 ·exact⟨_,cap,hv,fun _=>⟨g,rfl,hg⟩⟩
theorem vH (a b:Nat) (ha:a<256) (hb:b<256):bits .xor .u8 (a:Int) (b:Int)=((a ^^^ b:Nat):Int):=u8_xor_nat a b ha hb
def fl (f:Nat→Nat) (k q:Nat):Nat:=if q=k / 8 then f (k / 8) ^^^ 2 ^ (7-k % 8) else f q
theorem ux {f:Nat→Nat} {n:Nat} (hf:∀ i,i<n→f i<256) (k:Nat) (hk:k / 8<n):∀ i,i<n→fl f k i<256:=by
 intro i hi
 unfold fl
 by_cases h:i=k / 8
 ·rw[if_pos h]
  exact Nat.xor_lt_two_pow (n:=8) (hf _ hk) (Nat.pow_lt_pow_right (by omega) (by omega))
 ·rw[if_neg h];exact hf i hi
theorem uw (f:Nat→Nat) (k n:Nat):PM.fb (fl f k) n=if n=k then !PM.fb f n else PM.fb f n:=by
 unfold PM.fb fl
 by_cases h:n / 8=k / 8
 ·rw[if_pos h,Nat.testBit_xor,Nat.testBit_two_pow,h]
  by_cases e:n=k
  ·subst e
   rw[if_pos rfl]
   simp
  ·rw[if_neg e]
   have:¬ 7-k % 8=7-n % 8:=by omega
   simp[this]
 ·rw[if_neg h,if_neg (fun e=>h (by rw[e]))]
theorem vq (f:Nat→Nat) (k n:Nat) (hk:k<n):PM.V (PM.fb (fl f k)) n=PM.V (PM.fb f) n ^^^ 2 ^ (n-1-k):=by
 rw[PM.V_congr _ (fun i=>if i=k then !PM.fb f i else PM.fb f i) n (fun i _=>uw f k i)]
 exact PM.V_flip (PM.fb f) n k hk
theorem vB (k:Nat):(128:Int) / 2 ^ (k % 8)=((2 ^ (7-k % 8):Nat):Int):=by
 have h:∀ z:Fin 8,(128:Int) / 2 ^ z.val=((2 ^ (7-z.val):Nat):Int):=by decide
 exact h ⟨k % 8,by omega⟩
theorem lK {x s i N fr:Nat} (hi:i<s) (hN:fr+s≤N) (hb:x.testBit (s-1-i)=true) :
  PM.C (x >>> (s-i)) (2 ^ (N-fr-i)) ^^^ 2 ^ (N-1 - (fr+i))=PM.C (x >>> (s - (i+1))) (2 ^ (N-fr - (i+1))):=by
 rw[show s - (i+1)=s-1-i by omega,PM.shr_true hb (show s-i=s-1-i+1 by omega),show N-fr-i=(N-fr - (i+1))+1 by omega,Nat.pow_succ,Nat.mul_comm (2 ^ _) 2,PM.C_two_right,PM.dbl_add _ 1 (by omega),PM.C_xor_left,PM.C_two_left,PM.C_one_left,show N-1 - (fr+i)=N-fr - (i+1) by omega]
theorem jZ {x s i N fr:Nat} (hi:i<s) (hN:fr+s≤N) (hb:x.testBit (s-1-i)=false) :
  PM.C (x >>> (s-i)) (2 ^ (N-fr-i))=PM.C (x >>> (s - (i+1))) (2 ^ (N-fr - (i+1))):=by
 rw[show s - (i+1)=s-1-i by omega,PM.shr_false hb (show s-i=s-1-i+1 by omega),show N-fr-i=(N-fr - (i+1))+1 by omega,Nat.pow_succ,Nat.mul_comm (2 ^ _) 2,PM.C_two_right,PM.C_two_left]
theorem nJ (a:Nat) (h:a<4294967296):bits .and .u32 (a:Int) 1=((a % 2:Nat):Int):=by
 have:=u32_and_nat a 1 h (by omega)
 rw[nat_mask1]at this
 exact this
theorem pB (x k:Nat) (hx:x<4294967296):(bits .and .u32 ((x:Int) / 2 ^ k) 1 != 0)=x.testBit k:=by
 have e:(x:Int) / 2 ^ k=((x >>> k:Nat):Int):=by rw[Nat.shiftRight_eq_div_pow];simp
 have hl:x >>> k<4294967296:=by rw[Nat.shiftRight_eq_div_pow];exact Nat.lt_of_le_of_lt (Nat.div_le_self _ _) hx
 rw[e,nJ _ hl,jM]
 cases x.testBit k <;> rfl
theorem pH (a0:Option Addr) (len cap:Nat) (n:Int) (x:Nat) (w:World) (hl:len≤100000) (hx:x<4294967296) (hno:x=0∨8*len<PM.bl x) :
  Calls prog 53 #[.slice a0 len cap,.int .i64 n,.int .u32 x] w fun e w'=>e=.returned (.tuple #[.slice none 0 0,.bool false])∧w'=w:=by
 have hbit:=fun k=>pB x k hx
 have hbl:=PM.bl_le (n:=x) (k:=32) (by omega)
 go_enter func53,ntmps53
 go_wp2_with fail
 go_loop [8,9] (fun s c=>∃ i:Nat,i≤32∧c=.int .i64 i∧s=.int .i64 (PM.bl (x % 2 ^ i):Nat)) (fun _ c=>32 - (intOf c).toNat)
 case atStart=>exact⟨0,by omega,rfl,by rw[Nat.pow_zero,Nat.mod_one];rfl⟩
 case round=>
  obtain⟨i,hi32,rfl,rfl⟩:=hrel
  by_cases hlt:i<32
  ·have t1:=hbit i
   clear hbit
   cases hb:x.testBit i
   ·rw[hb]at t1
    go_wp2
    go_round
    case rel=>exact⟨i+1,by omega,by go_num,by rw[PM.bl_mod_false hb]⟩
    case measure=>simp[intOf] <;> omega
   ·rw[hb]at t1
    go_wp2
    go_round
    case rel=>exact⟨i+1,by omega,by go_num,by rw[PM.bl_mod_true hb];go_num⟩
    case measure=>simp[intOf] <;> omega
  ·obtain rfl:i=32:=by omega
   rw[Nat.mod_eq_of_lt (show x<2 ^ 32 from hx)]
   rcases hno with hx0 | hroom
   ·rw[show PM.bl x=0 by rw[hx0];rfl]
    clear hbit hx0 hbl
    go_wp2
    go_ret2
    exact⟨rfl,rfl⟩
   ·have hs0:((PM.bl x:Int) == 0)=false:=by simp;omega
    have hd:decide ((8:Int) * (len:Int) - (PM.bl x:Int)+1<1)=true:=by simp;omega
    clear hbit
    generalize PM.bl x=s at *
    go_wp2
    go_ret2
    exact⟨rfl,rfl⟩
def pq (B:Nat) (w':World) (len x:Nat) (bs:Nat→Nat) (v:Value):Prop:=
 ∃ f d,w'.ownsRow B 5 1 v len (CB f len)∧(∀ i,i<len→f i<256)∧PM.V (PM.fb f) (8*len)=PM.V (PM.fb bs) (8*len) ^^^ PM.C x (2 ^ d)
theorem nM (a0:Option Addr) (len cap:Nat) (n:Int) (x:Nat) (bs:Nat→Nat) (w:World) (hr:Row8 w a0 len cap bs) (hl:len≤100000) (hx:x<4294967296) (hx0:x≠0) (hroom:PM.bl x≤8*len) :
  Calls prog 53 #[.slice a0 len cap,.int .i64 n,.int .u32 x] w fun e w'=>∃ v,e=.returned (.tuple #[v,.bool true])∧Below w.heap.size w w'∧pq w.heap.size w' len x bs v:=by
 obtain⟨i0,hi,hz0,hz1,hz2⟩:=info_parts aS
 have hbit:=fun k=>pB x k hx
 have hbl:=PM.bl_le (n:=x) (k:=32) (by omega)
 have hpos:0<PM.bl x:=by rw[PM.bl_pos hx0];omega
 have hbd:=pG
 go_enter func53,ntmps53
 go_wp2_with fail
 go_loop [8,9] (fun s c=>∃ i:Nat,i≤32∧c=.int .i64 i∧s=.int .i64 (PM.bl (x % 2 ^ i):Nat)) (fun _ c=>32 - (intOf c).toNat)
 case atStart=>exact⟨0,by omega,rfl,by rw[Nat.pow_zero,Nat.mod_one];rfl⟩
 case round=>
  obtain⟨i,hi32,rfl,rfl⟩:=hrel
  by_cases hlt:i<32
  ·have t1:=hbit i
   clear hbit
   cases hb:x.testBit i
   ·rw[hb]at t1
    go_wp2
    go_round
    case rel=>exact⟨i+1,by omega,by go_num,by rw[PM.bl_mod_false hb]⟩
    case measure=>simp[intOf] <;> omega
   ·rw[hb]at t1
    go_wp2
    go_round
    case rel=>exact⟨i+1,by omega,by go_num,by rw[PM.bl_mod_true hb];go_num⟩
    case measure=>simp[intOf] <;> omega
  ·obtain rfl:i=32:=by omega
   rw[Nat.mod_eq_of_lt (show x<2 ^ 32 from hx)]
   have HX:Hid (x<2 ^ PM.bl x):=PM.lt_bl x
   have hs0:((PM.bl x:Int) == 0)=false:=by simp;omega
   have hd:decide ((8:Int) * (len:Int) - (PM.bl x:Int)+1<1)=false:=by simp;omega
   have hrm:wrap64 ((IntKind.u64.wrap n).tmod (8 * (len:Int) - (PM.bl x:Int)+1))=((((n % 18446744073709551616) % (8 * (len:Int) - (PM.bl x:Int)+1)).toNat:Nat):Int):=by
    rw[IntKind.wrap_u64,Int.tmod_eq_emod_of_nonneg (by omega)]
    have h1:=Int.emod_nonneg (n % 18446744073709551616) (show (8 * (len:Int) - (PM.bl x:Int)+1)≠0 by omega)
    have h2:=Int.emod_lt_of_pos (n % 18446744073709551616) (show 0<8 * (len:Int) - (PM.bl x:Int)+1 by omega)
    unfold wrap64
    omega
   have hfr:((n % 18446744073709551616) % (8 * (len:Int) - (PM.bl x:Int)+1)).toNat+PM.bl x≤8*len:=by
    have h1:=Int.emod_nonneg (n % 18446744073709551616) (show (8 * (len:Int) - (PM.bl x:Int)+1)≠0 by omega)
    have h2:=Int.emod_lt_of_pos (n % 18446744073709551616) (show 0<8 * (len:Int) - (PM.bl x:Int)+1 by omega)
    omega
   generalize ((n % 18446744073709551616) % (8 * (len:Int) - (PM.bl x:Int)+1)).toNat=fr at *
   generalize PM.bl x=s at *
   have hbelA:Below w.heap.size w (w.alloc (.cells #[] 5)):=(Below.refl _ _).alloc (Nat.le_refl _) _
   have R0:=hr.below hbelA
   have O0:(w.alloc (.cells #[] 5)).ownsRow w.heap.size 5 1 (.slice (ac w.heap.size 0) 0 0) 0 (CB bs 0):=World.ownsRow_made w #[] 0 (Nat.le_refl _) (Nat.zero_le _) rfl
   have hszA:=hbelA.size
   go_wp2_with (at_builtin;refine ae rfl (.tmp 44) (.tmp 45) 43 rfl w.heap.size 5 i0 (.int .u8 0) underlying43 hi hz0 hz1 hz2 rfl _ 0 _ rfl O0 a0 len cap bs rfl R0 (by unfold maxLen;omega) (by omega) hszA ?_)
   intro v2 w2 hown2 hgrow2
   have hbel2:Below w.heap.size w w2:=hbelA.grown hgrow2 hszA (fun k hk=>(O0.lt k hk).1)
   rw[show CB bs 0=[] from rfl,List.nil_append]at hown2
   have hb0:=hr.byte
   clear hgrow2 O0 R0 hbelA hbd hr hrm
   obtain⟨ax,cx,rfl,hax⟩:=qJ hown2
   go_wp2_with fail
   go_loopw [13,14] (fun c _ wr=>∃ i f,i≤s∧c=.int .i64 ((i:Nat):Int)∧wr.ownsRow w.heap.size 5 1 (.slice ax len cx) len (CB f len)∧(∀ i,i<len→f i<256)∧PM.V (PM.fb f) (8*len)=PM.V (PM.fb bs) (8*len) ^^^ PM.C (x >>> (s-i)) (2 ^ (8*len-fr-i))∧Below w.heap.size w wr) (fun c _ _=>s - (intOf c).toNat)
   case atStart=>exact⟨0,bs,by omega,rfl,hown2,hb0,by rw[Nat.sub_zero,Nat.shiftRight_eq_div_pow,Nat.div_eq_of_lt HX.out,PM.C_zero_left,Nat.xor_zero],hbel2⟩
   case round=>
    clear hown2 hbel2 hb0
    obtain⟨i,f,hi2,rfl,hown,hfb,hfV,hbel⟩:=hrel
    have HV:Hid (PM.V (PM.fb f) (8*len)=PM.V (PM.fb bs) (8*len) ^^^ PM.C (x >>> (s-i)) (2 ^ (8*len-fr-i))):=hfV
    clear hfV
    by_cases hlt2:i<s
    ·have t1:=hbit (s-1-i)
     clear hbit
     cases hb:x.testBit (s-1-i)
     ·rw[hb]at t1
      go_wp2
      go_roundw
      case rel=>exact⟨i+1,f,by omega,by go_num,hown,hfb,by rw[HV.out,jZ hlt2 hfr hb],hbel⟩
      case measure=>simp[intOf] <;> omega
     ·rw[hb]at t1
      obtain⟨gx,rfl,hgx⟩:=hax (by omega)
      obtain⟨k,hk⟩:∃ k,k=fr+i:=⟨_,rfl⟩
      have hk1:(fr:Int) + (i:Int)=(k:Int):=by omega
      have hk8:k / 8<len:=by omega
      obtain⟨q,hq⟩:∃ q,q=k / 8:=⟨_,rfl⟩
      obtain⟨m,hm⟩:∃ m,m=k % 8:=⟨_,rfl⟩
      have hq1:(k:Int) / 8=(q:Int):=by omega
      have hm1:(k:Int) % 8=(m:Int):=by omega
      have hq2:(k:Int).tdiv 8=(q:Int):=by rw[Int.tdiv_eq_ediv_of_nonneg (by omega)];exact hq1
      have hm2:(k:Int).tmod 8=(m:Int):=by rw[Int.tmod_eq_emod_of_nonneg (by omega)];exact hm1
      have hp:(128:Int) / 2 ^ m=((2 ^ (7-m):Nat):Int):=by rw[hm];exact vB k
      have hql:q<len:=by omega
      have hm8:m<8:=by omega
      have hcx:=hown.cellAt q (by omega)
      rw[az _ len _ hql]at hcx
      have hfx:=hown.frozenAt q
      have hX:=vH (f q) (2 ^ (7-m)) (hfb q hql) (show 2 ^ (7-m)<2 ^ 8 from Nat.pow_lt_pow_right (by omega) (by omega))
      have hown3:(wr.drew.setCell ⟨gx,q,none⟩ (.int .u8 ((f q ^^^ 2 ^ (7-m):Nat):Int))).ownsRow w.heap.size 5 1 (.slice (ac gx 0) len cx) len (CB (fl f k) len):=by
       have h:=((show wr.drew.ownsRow w.heap.size 5 1 (.slice (ac gx 0) len cx) len (CB f len) from hown).stored q (.int .u8 ((f q ^^^ 2 ^ (7-m):Nat):Int))).1
       rw[d9,cn _ (fl f k) len (fun i _=>by unfold fl;rw[hq,hm])]at h
       exact h
      have hbel3:Below w.heap.size w (wr.drew.setCell ⟨gx,q,none⟩ (.int .u8 ((f q ^^^ 2 ^ (7-m):Nat):Int))):=hbel.drew.setCell (p:=⟨gx,q,none⟩) hgx _
      have HO:Hid (_):=hown3
      have HB:Hid (_):=hbel3
      have HF:Hid (∀ i,i<len→fl f k i<256):=ux hfb k hk8
      have HW:Hid (PM.V (PM.fb (fl f k)) (8*len)=PM.V (PM.fb bs) (8*len) ^^^ PM.C (x >>> (s - (i+1))) (2 ^ (8*len-fr - (i+1)))):=by
       show _=_
       rw[vq f k (8*len) (by omega),HV.out,hk,Nat.xor_assoc,lK hlt2 hfr hb]
      have hkl:k<800000:=by omega
      clear hk hq hm hown hbel hown3 hbel3 hax HV hfb
      generalize f q ^^^ 2 ^ (7-m)=y at *
      generalize 2 ^ (7-m)=z at *
      go_wp2_with fail
      go_region
      all_goals (go_wp2_with fail;go_roundw)
      case rel=>exact⟨i+1,fl f k,by omega,by go_num,HO.out,HF.out,HW.out,HB.out⟩
      case measure=>simp[intOf] <;> omega
    ·obtain rfl:i=s:=by omega
     clear hbit hax
     go_wp2
     go_ret2
     exact⟨_,rfl,hbel,f,8*len-fr-i,hown,hfb,by rw[HV.out,Nat.sub_self,Nat.shiftRight_zero]⟩
theorem Row8.off0 {l:List Nat} {w w':World} {a:Option Addr} {len cap:Nat} {bs:Nat→Nat} (h:Row8 w a len cap bs) (q:Off l w w') (hl:∀ x,a=some x→0<len→x.block ∉ l):Row8 w' a len cap bs:=by
 by_cases h0:0<len
 ·exact h.off q (fun x hx=>hl x hx h0)
 ·exact⟨h.byte,h.nil,fun x hx i hi=>absurd hi (by omega),h.le⟩
theorem Off.set {l:List Nat} {w w':World} (h:Off l w w') {b o:Nat} {v:Value} (hb:b ∈ l):Off l w (w'.setCell ⟨b,o,none⟩ v):=
 h.trans ((Off.setCell b o w' v).more (fun k hk=>by simp at hk;rw[hk];exact hb))
theorem bn {w:World} {g b0 b1 b2 b3:Nat} {bs:Nat→Nat} (hb:∀ i,i<4→bs i<256) (e0:bs 0=b0) (e1:bs 1=b1) (e2:bs 2=b2) (e3:bs 3=b3) (h0:w.cell? ⟨g,0,none⟩=some (.int .u8 (b0:Nat))) (h1:w.cell? ⟨g,1,none⟩=some (.int .u8 (b1:Nat))) (h2:w.cell? ⟨g,2,none⟩=some (.int .u8 (b2:Nat))) (h3:w.cell? ⟨g,3,none⟩=some (.int .u8 (b3:Nat))) :
  Row8 w (ac g 0) 4 4 bs:=by
 subst e0 e1 e2 e3
 refine⟨hb,(fun h=>by cases h),fun x hx i hi=>?_,Nat.le_refl _⟩
 cases hx
 have c:i=0∨i=1∨i=2∨i=3:=by omega
 rcases c with rfl | rfl | rfl | rfl
 ·exact h0
 ·exact h1
 ·exact h2
 ·exact h3
theorem cP (P:Pm) (hP:Pok P) (w:World) :
  Calls prog 51 #[.agg #[.int .u32 (P.c:Nat),.int .i64 (P.o:Nat),.int .i64 (P.i:Nat),.int .i64 (P.t:Nat),.int .u32 (P.n:Nat)]] w fun e w'=>∃ g,e=.returned (.slice (ac g 0) 4 4) ∧
   Hid (w'.heap[g]?=some (.cells #[.int .u8 (bZ P 0:Nat),.int .u8 (bZ P 1:Nat),.int .u8 (bZ P 2:Nat),.int .u8 (bZ P 3:Nat)] 5 (0,0))∧w.heap.size≤g∧Below w.heap.size w w'):=by
 unfold bZ
 have hE:=hP.ok
 have hc:=hP.c
 have hn:=hP.n
 generalize P.c=c at *
 generalize P.o=O at *
 generalize P.i=I at *
 generalize P.t=T at *
 generalize P.n=n at *
 have hb:Below w.heap.size w (w.alloc (.cells #[.int .u32 c,.int .i64 O,.int .i64 I,.int .i64 T,.int .u32 n] 29)):=(Below.refl _ _).alloc (Nat.le_refl _) _
 have hF:=jK c O I T n (w.alloc (.cells #[.int .u32 c,.int .i64 O,.int .i64 I,.int .i64 T,.int .u32 n] 29)) hc hn hE
 obtain⟨_,hO,hI,_,_⟩:=hE
 have hby:=qO (c:=c) (o:=O) (i:=I) (t:=T) (n:=n) (by omega) (by omega)
 have hk:=PM.K_lt (pe c O I T n) 14
 have hB0:=fun a cap w1 (R1:Row8 w1 a 14 cap (pe c O I T n))=>ie a 14 cap (pe c O I T n) w1 R1 (by omega)
 obtain⟨k,hkd⟩:∃ k,k=PM.K (pe c O I T n) 14:=⟨_,rfl⟩
 rw[← hkd]at hk hB0 ⊢
 clear hO hI hkd hP
 go_enter func51,ntmps51
 go_wp2_with fail
 refine hF.mono ?_
 rintro e w1 ⟨a,cap,rfl,H1⟩
 obtain⟨O1,hb1⟩:=H1.out
 have hb2:=aF hb hb.size hb1
 obtain⟨a1,c1,e1,R1⟩:=aO O1 (fun k _=>hby k)
 simp only[Value.slice.injEq,true_and]at e1
 obtain⟨rfl,rfl⟩:=e1
 have hB:=hB0 _ _ w1 R1
 clear hb hF hb1 H1 O1 R1 hby hB0
 go_wp2_with fail
 refine hB.mono ?_
 rintro e w2 ⟨rfl,hb3'⟩
 have hb3:=aF hb2 hb2.size hb3'
 clear hB hb3' hb2
 go_wp2_with fail
 refine (bD k _ hk).mono ?_
 rintro e w4 ⟨rfl,rfl⟩
 have HB:Hid (_):=And.intro (aB w2 (.cells #[.int .u8 ((k:Int) / 16777216),.int .u8 ((k:Int) / 65536 % 256),.int .u8 ((k:Int) / 256 % 256),.int .u8 ((k:Int) % 256)] 5)) (And.intro hb3.size (hb3.alloc hb3.size (.cells #[.int .u8 ((k:Int) / 16777216),.int .u8 ((k:Int) / 65536 % 256),.int .u8 ((k:Int) / 256 % 256),.int .u8 ((k:Int) % 256)] 5)))
 have HK:Hid (_):=hk
 clear hb3 hk
 go_wp2_with fail
 go_ret
 have hk:=HK.out
 have e0:(k:Int) / 16777216=((PM.w4 k 0:Nat):Int):=by show _=((k / 16777216 % 256:Nat):Int);omega
 have e1:(k:Int) / 65536 % 256=((PM.w4 k 1:Nat):Int):=by show _=((k / 65536 % 256:Nat):Int);omega
 have e2:(k:Int) / 256 % 256=((PM.w4 k 2:Nat):Int):=by show _=((k / 256 % 256:Nat):Int);omega
 have e3:(k:Int) % 256=((PM.w4 k 3:Nat):Int):=by show _=((k % 256:Nat):Int);omega
 have h:=HB.out
 rw[← e0,← e1,← e2,← e3]
 exact⟨_,rfl,h⟩
def cB (P:Pm) (odd:Bool):Nat→Nat:=if odd=true then (fun i=>if i=0 then bZ P 0 ^^^ 1 else bZ P i) else bZ P
def bI (s:Sd) (odd:Bool):Nat:=if odd=true then (s.ss+1) % 4294967296 else s.ss
def jA (s:Sd) (N:Int):Nat:=(s.nm + (N % 4294967296).toNat) % 4294967296
def Fo (P:Pm) (s:Sd) (k N fl:Int) (odd:Bool) (len:Nat) (bs:Nat→Nat) (x:Nat) (f:Fm):Prop:=
 (k=1→f=ch 1 P.c 0 0 0 4 (cB P odd))∧(k=2→odd=false→f=ch 2 P.c s.ss 0 0 4 (bZ P))∧(k=3→f=ch 3 P.c (bI s odd) 0 0 0 (fun _=>0)) ∧
 (k=4→f=ch 4 P.c (bI s odd) (jA s N) fl len bs)∧(k=5→f=ch 5 P.c (bI s odd) P.n 0 0 (fun _=>0)) ∧
 (k=2→∃ so sg,f=ch 2 P.c so 0 0 4 sg)∧(k=6→f=(len,bs))∧(k=7→(x≠0∧PM.bl x≤8 * (ch 4 P.c (bI s odd) (jA s N) fl len bs).1)→DE f.2 f.1=42) ∧
 (k=7→¬ (x≠0∧PM.bl x≤8 * (ch 4 P.c (bI s odd) (jA s N) fl len bs).1)→f=ch 4 P.c (bI s odd) (jA s N) fl len bs)
theorem qI (P:Pm):cB P false=bZ P:=by unfold cB;rw[if_neg (by simp)]
theorem ai (P:Pm) (i:Nat):cB P false i=bZ P i:=by unfold cB;rw[if_neg (by simp)]
theorem cN (P:Pm) {x0:Nat} (h:bZ P 0 ^^^ 1=x0):cB P true 0=x0:=by unfold cB;rw[if_pos rfl,if_pos rfl,h]
theorem ay (P:Pm) (i:Nat) (h:i≠0):cB P true i=bZ P i:=by unfold cB;rw[if_pos rfl,if_neg h]
theorem vG (x:Nat) (h:x<256):bits .xor .u8 (x:Int) 1=((x ^^^ 1:Nat):Int):=u8_xor_nat x 1 h (by omega)
theorem dx (ss:Nat):∃ so:Nat,(ss+1) % 4294967296=so∧IntKind.u32.wrap ((ss:Int)+1)=(so:Int)∧((ss:Int)+1) % 4294967296=(so:Int):=
 ⟨_,rfl,by rw[IntKind.wrap_u32];omega,by omega⟩
theorem dA (P:Pm):∃ x0:Nat,bZ P 0 ^^^ 1=x0∧bits .xor .u8 (bZ P 0:Int) 1=(x0:Int):=⟨_,rfl,vG _ (du P 0 (by omega))⟩
theorem kT (s:Sd) (N:Int):∃ nN nu:Nat,jA s N=nu∧nu<4294967296∧IntKind.u32.wrap N=(nN:Int)∧N % 4294967296=(nN:Int)∧IntKind.u32.wrap ((s.nm:Int) + (nN:Int))=(nu:Int)∧((s.nm:Int) + (nN:Int)) % 4294967296=(nu:Int):=by
 refine⟨(N % 4294967296).toNat,jA s N,rfl,by unfold jA;omega,by rw[IntKind.wrap_u32];omega,by omega,?_,?_⟩
 ·rw[IntKind.wrap_u32];unfold jA;omega
 ·unfold jA;omega
theorem cr (s:Sd):bI s false=s.ss:=by unfold bI;rw[if_neg (by simp)]
theorem dZ {s:Sd} (h:s.ss<4294967296) (odd:Bool):bI s odd<4294967296:=by
 unfold bI
 split
 ·omega
 ·exact h
theorem b9 (k c s n:Nat) (f:Int) (len:Nat) (bs:Nat→Nat) (hb:∀ i,i<len→bs i<256):∀ i,i < (ch k c s n f len bs).1→(ch k c s n f len bs).2 i<256:=by
 unfold ch
 by_cases h:LW k c s n f len len=0
 ·have hf:=(cR h).2.2.2.2
  obtain⟨F,rfl⟩:∃ F:Nat,f=(F:Int):=⟨f.toNat,by omega⟩
  exact cu k c s n F len bs hb
 ·rw[if_neg h];intro i hi;exact absurd hi (Nat.not_lt_zero i)
theorem cV (k c s n:Nat) (f:Int) (len:Nat) (bs:Nat→Nat):(ch k c s n f len bs).1≤27:=by
 unfold ch
 by_cases h:LW k c s n f len len=0
 ·rw[if_pos h]
  have:=(cR h).2.2.2.1
  show 15+len+4≤27
  omega
 ·rw[if_neg h];show 0≤27;omega
theorem aG (P:Pm) (odd:Bool):∀ i,i<4→cB P odd i<256:=by
 intro i hi
 have h:=du P
 unfold cB
 cases odd
 ·exact h i hi
 ·show (if i=0 then bZ P 0 ^^^ 1 else bZ P i)<256
  split
  ·exact Nat.xor_lt_two_pow (n:=8) (h 0 (by omega)) (by omega)
  ·exact h i hi
theorem oR {k c s n:Nat} {f:Int} {len:Nat} {bs f7:Nat→Nat} {x d:Nat} (hx:x<4294967296) (h0:x≠0) (hroom:PM.bl x≤8 * (ch k c s n f len bs).1) (hV:PM.V (PM.fb f7) (8 * (ch k c s n f len bs).1)=PM.V (PM.fb (ch k c s n f len bs).2) (8 * (ch k c s n f len bs).1) ^^^ PM.C x (2 ^ d)) :
  DE f7 (ch k c s n f len bs).1=42:=by
 unfold ch at *
 by_cases hE:LW k c s n f len len=0
 ·rw[if_pos hE]at *
  have hz:=cR hE
  refine jY (by show 19≤15+len+4;omega) (by show 15+len+4≤27;omega) (fun h=>?_)
  have hS:PM.R PM.g 32 (PM.V (PM.fb (PM.sl (fr k c s n f.toNat len bs) (15+len))) (8 * (15+len+4)))=0:=PM.V_sl _ _
  unfold rJ at h
  rw[hV,PM.R_xor]at h
  rw[show PM.R PM.g 32 (PM.V (PM.fb (15+len+4,PM.sl (fr k c s n f.toNat len bs) (15+len)).2) (8 * (15+len+4,PM.sl (fr k c s n f.toNat len bs) (15+len)).1))=0 from hS,Nat.zero_xor]at h
  exact h0 (PM.burst x d hx h)
 ·rw[if_neg hE]at hroom
  exfalso
  have:PM.bl x≤0:=hroom
  rw[PM.bl_pos h0]at this
  omega
theorem rj {k c s n:Nat} {f:Int} {len:Nat} {bs f7:Nat→Nat} {x d:Nat} {F:Fm} (e:ch k c s n f len bs=F) (hx:x<4294967296) (h0:x≠0) (hroom:PM.bl x≤8*F.1) (hV:PM.V (PM.fb f7) (8*F.1)=PM.V (PM.fb F.2) (8*F.1) ^^^ PM.C x (2 ^ d)):DE f7 F.1=42:=by
 subst e
 exact oR hx h0 hroom hV
section
variable {w w':World} {d m g n mx:Nat} {P:Pm} {U l:List Nat} {s:Sd}
theorem DX.off {B:Bk} {A:Prop} (h:DX w d m g n mx P U s B A) (q:Off l w w') (hl:∀ k,k ∈ U→k ∉ l):DX w' d m g n mx P U s B A:=
 ⟨(q.block d h.dlt (hl _ h.kd.2)).trans h.dev,h.mem.off q (hl _ h.km.2) (hl _ h.kg.2),fun hs=>⟨(h.cel hs).1,(h.cel hs).2.1.off q (hl _ h.kc.2),(h.cel hs).2.2⟩,h.dog.off q (hl _ h.kb.2),h.val.off q (hl _ h.kv.2) (hl _ h.kw.2) (fun k hk hM=>hl k (h.kM k hM).2 hk),h.log.off q (fun k hk=>hl _ (h.kl k hk).2),an h.app q (fun k hk=>hl _ (h.ka k hk).2),h.apb,fun k hk=>Nat.lt_of_lt_of_le (h.ltU k hk) q.size,h.kd,h.km,h.kg,h.kc,h.kb,h.kv,h.kw,h.kM,h.kl,h.ka,h.pok,h.n10,h.mx0,h.mxl⟩
theorem RB.off {B:Bk2} {A:Prop} (h:RB w d m g n mx P U s B A) (q:Off l w w') (hl:∀ k,k ∈ U→k ∉ l):RB w' d m g n mx P U s B A:=
 ⟨(q.block d h.dlt (hl _ h.kd.2)).trans h.dev,h.mem.off q (hl _ h.km.2) (hl _ h.kg.2),fun hs=>⟨(h.cel hs).1,(h.cel hs).2.1.off q (hl _ h.kc.2),(h.cel hs).2.2⟩,h.val.off q (fun k hk hM=>hl k (h.kM k hM).2 hk),an h.log q (fun k hk=>hl _ (h.kl k hk).2),an h.app q (fun k hk=>hl _ (h.ka k hk).2),h.apb,h.vok,h.dcl,fun k hk=>Nat.lt_of_lt_of_le (h.ltU k hk) q.size,h.kd,h.km,h.kg,h.kc,h.kM,h.kl,h.ka,h.pok,h.n10,h.mx0,h.mxl,h.nl⟩
theorem DV.off (h:DV w d m g n mx P U s) (q:Off l w w') (hl:∀ k,k ∈ U→k ∉ l):DV w' d m g n mx P U s:=by
 obtain⟨B,h⟩:=h
 exact⟨B,h.off q hl⟩
theorem RW.off (h:RW w d m g n mx P U s) (q:Off l w w') (hl:∀ k,k ∈ U→k ∉ l):RW w' d m g n mx P U s:=by
 obtain⟨B,h⟩:=h
 exact⟨B,h.off q hl⟩
end
structure Pl where
 d:Nat
 m:Nat
 g:Nat
 e:Nat
 r:Nat
 q:Nat
 n:Nat
 mx:Nat
 P:Pm
 K:List (Nat × Option Obj)
structure Bt (w0 w:World) (L:Pl) (s t:Sd) (F:List Nat) (U V:List Nat):Prop where
 bel:Below w0.heap.size w0 w
 dv:DV w L.d L.m L.g L.n L.mx L.P U s
 rw:RW w L.e L.r L.q L.n L.mx L.P V t
 uv:∀ k,k ∈ U→w0.heap.size≤k∧k ∉ V
 vb:∀ k,k ∈ V→w0.heap.size≤k
 fr:∀ k,k ∈ F→k<w.heap.size∧k ∉ U∧k ∉ V
 kp:∀ x,x ∈ L.K→(x.1<w.heap.size∧x.1 ∉ U∧x.1 ∉ V)∧w.heap[x.1]?=x.2
section
variable {w0 w w':World} {L:Pl} {s t s':Sd} {F U V U':List Nat}
end
section
variable {w0 w w':World} {L:Pl} {s t:Sd} {b:Nat} {O:Array Value} {a:Option Addr} {len cap:Nat} {bs:Nat→Nat}
end
def vn (w0 w:World) (L:Pl) (s:Sd):Prop:=∃ U V,Bt w0 w L s s [] U V
theorem rt {w0 w w1 w2:World} {L:Pl} {s:Sd} {U V:List Nat} (bel:Below w0.heap.size w0 w) (o1:Off [L.m,L.g] w w1) (D:DV w1 L.d L.m L.g L.n L.mx L.P U s) (hU:∀ k,k ∈ U→k=L.m∨k=L.g∨w.heap.size≤k)
  (o2:Off [L.r,L.q] w1 w2) (R:RW w2 L.e L.r L.q L.n L.mx L.P V s) (hV:∀ k,k ∈ V→k=L.r∨k=L.q∨w1.heap.size≤k) (h0:w0.heap.size≤L.m∧w0.heap.size≤L.g∧w0.heap.size≤L.r∧w0.heap.size≤L.q)
  (hne:L.m≠L.r∧L.m≠L.q∧L.g≠L.r∧L.g≠L.q) (hlt:L.r<w.heap.size∧L.q<w.heap.size) (hK:L.K=[]):vn w0 w2 L s:=by
 have s1:=o1.size
 have sb:=bel.size
 have b1:Below w0.heap.size w0 w1:=o1.below bel (by simp;omega) bel.size
 have hUr:∀ k,k ∈ U→k ∉ [L.r,L.q]:=fun k hk hm=>by
  have:=hU k hk
  simp at hm
  omega
 refine⟨U,V,o2.below b1 (by simp;omega) b1.size,D.off o2 hUr,R,fun k hk=>⟨?_,fun hm=>?_⟩,fun k hk=>?_,fun k hk=>by simp at hk,fun x hx=>by rw[hK]at hx;simp at hx⟩
 ·have:=hU k hk;omega
 ·have h1:=hU k hk
  have h2:=hV k hm
  have h3:=D.ult k hk
  omega
 ·have:=hV k hk;omega
end Go.Proofs.YtdpahjfekoikiaaGreat
namespace Go.Proofs.YtdpahjfekoikiaaGreat
open Tryz
open Go.RowKit
structure Dr where
 d:Nat
 m:Nat
 g:Nat
 n:Nat
 mx:Nat
 P:Pm
 s:Sd
structure Thing where
 U:List Nat
 T:World→Prop
 st:∀ w w' l,T w→Off l w w'→(∀ k,k ∈ U→k ∉ l)→T w'
def pn:Thing:=⟨[],fun _=>True,fun _ _ _ _ _ _=>trivial⟩
def dh (t:Nat→Thing) (i:Nat) (x:Thing):Nat→Thing:=fun j=>if j=i then x else t j
theorem aR (t:Nat→Thing) (i:Nat) (x:Thing):dh t i x i=x:=if_pos rfl
theorem ag (t:Nat→Thing) {i j:Nat} (x:Thing) (h:j≠i):dh t i x j=t j:=if_neg h
structure Al (w0 w:World) (t:Nat→Thing):Prop where
 bel:Below w0.heap.size w0 w
 ok:∀ i,(t i).T w
 lt:∀ i k,k ∈ (t i).U→w0.heap.size≤k∧k<w.heap.size
 dis:∀ i j,i≠j→∀ k,k ∈ (t i).U→k ∉ (t j).U
section
variable {w0 w w':World} {t:Nat→Thing}
theorem Al.start (w:World):Al w w (fun _=>pn):=⟨Below.refl _ _,fun _=>trivial,fun _ k hk=>by simp[pn]at hk,fun _ _ _ k hk=>by simp[pn]at hk⟩
theorem Al.size (h:Al w0 w t):w0.heap.size≤w.heap.size:=h.bel.size
theorem Al.get (h:Al w0 w t) {i:Nat} {x:Thing} (e:t i=x):x.T w:=e ▸ h.ok i
theorem Al.turn (h:Al w0 w t) (i:Nat) (x:Thing) (o:Off (t i).U w w') (hx:x.T w') (hl:∀ k,k ∈ x.U→w0.heap.size≤k∧k<w'.heap.size) (hd:∀ k,k ∈ x.U→∀ j,j≠i→k ∉ (t j).U):Al w0 w' (dh t i x) where
 bel:=o.below h.bel (fun k hk=>(h.lt i k hk).1) h.bel.size
 ok:=fun j=>by
  by_cases e:j=i
  ·subst e;rw[aR];exact hx
  ·rw[ag t x e];exact (t j).st w w' _ (h.ok j) o (h.dis j i e)
 lt:=fun j k hk=>by
  by_cases e:j=i
  ·subst e;rw[aR]at hk;exact hl k hk
  ·rw[ag t x e]at hk;have:=h.lt j k hk;exact⟨this.1,Nat.lt_of_lt_of_le this.2 o.size⟩
 dis:=fun a b hab k ha hb=>by
  by_cases ea:a=i
  ·subst ea
   rw[aR]at ha
   rw[ag t x (Ne.symm hab)]at hb
   exact hd k ha b (Ne.symm hab) hb
  ·by_cases eb:b=i
   ·subst eb
    rw[ag t x ea]at ha
    rw[aR]at hb
    exact hd k hb a ea ha
   ·rw[ag t x ea]at ha
    rw[ag t x eb]at hb
    exact h.dis a b hab k ha hb
theorem Al.step (h:Al w0 w t) (i:Nat) (x:Thing) {U:List Nat} (hU:(t i).U=U) (g:Gr U w x.U w') (hx:x.T w') (hl:∀ k,k ∈ x.U→k<w'.heap.size):Al w0 w' (dh t i x):=by
 subst hU
 refine h.turn i x g.off hx (fun k hk=>⟨?_,hl k hk⟩) (fun k hk j hj hm=>?_)
 ·rcases g.new k hk with h1 | h1
  ·exact (h.lt i k h1).1
  ·exact Nat.le_trans h.bel.size h1
 ·exact g.out (h.lt j k hm).2 (h.dis j i hj k hm) hk
theorem Al.below (h:Al w0 w t) (b:Below w.heap.size w w'):Al w0 w' t:=
 ⟨h.bel.trans (b.mono h.bel.size),fun i=>(t i).st w w' [] (h.ok i) (Off.of_below b) (by simp),fun i k hk=>⟨(h.lt i k hk).1,Nat.lt_of_lt_of_le (h.lt i k hk).2 b.size⟩,h.dis⟩
end
end Go.Proofs.YtdpahjfekoikiaaGreat
namespace Go.Proofs.YtdpahjfekoikiaaGreat
open Tryz
open Go.RowKit
def Pc (c:Nat):Pm:=⟨c,2,1,10,9⟩
theorem pu (c:Nat) (h:c≠0) (hc:c<4294967296):Pok (Pc c):=⟨by unfold iY Pc;dsimp only;omega,hc,by show (9:Nat)<4294967296;omega⟩
theorem vC (w:World) (c:Int):∃ W,w.alloc (.cells #[.int .u32 c,.int .i64 2,.int .i64 1,.int .i64 10,.int .u32 9] 29)=W∧Below w.heap.size w W∧W.heap[w.heap.size]?=some (.cells #[.int .u32 c,.int .i64 2,.int .i64 1,.int .i64 10,.int .u32 9] 29 (0,0)):=by
 refine⟨_,rfl,(Below.refl _ w).alloc (Nat.le_refl _) _,aB w _⟩
theorem qj (c:Nat) (h0:c≠0) (hc:c<4294967296) (w:World) :
  Calls prog 20 #[.int .u32 (c:Nat)] w fun e w'=>∃ L:Pl,e=.returned (.tuple (t5 L.d L.m L.e))∧Hid (L.n=16∧L.mx=99∧L.P=Pc c∧vn w w' L (bj M0)):=by
 have hS:Calls prog 6 #[] w fun e w'=>e=.returned (.agg uL)∧Below w.heap.size w w':=i7 w
 have hP:=pu c h0 hc
 have hO:=qG 99 (by omega)
 go_enter func20,ntmps20
 go_wp2_with (go_at_call 6;refine hS.mono ?_;rintro e w1 ⟨rfl,b1⟩)
 obtain⟨W,hW,bW,pW⟩:=vC w1 (c:Nat)
 rw[hW]
 have hM:=qC 16 W (by omega)
 refine hM.mono ?_
 rintro e w3 ⟨m,g,rfl,h3⟩
 have hR:=sS 16 w3 (by omega)
 clear hM hS hW
 go_wp2_with fail
 refine hR.mono ?_
 rintro e w4 ⟨r,q,rfl,h4⟩
 obtain⟨m1,g1,o3,x3⟩:=h3.out
 obtain⟨r1,q1,o4,x4⟩:=h4.out
 have lp:w1.heap.size<W.heap.size:=(Array.getElem?_eq_some_iff.1 pW).1
 have s3:=o3.size
 have s4:=o4.size
 have p4:w4.heap[w1.heap.size]?=_:=(o4.block _ (by omega) (by simp)).trans ((o3.block _ lp (by simp)).trans pW)
 have x3':=x3.off o4 (by simp) (by simp)
 have hN:Calls prog 8 #[.agg #[.int .u32 (c:Nat),.int .i64 2,.int .i64 1,.int .i64 10,.int .u32 9],aa m 0,.int .u32 99] w4 _:=ni m g 16 99 (Pc c) hP M0 w4 x3' (by omega) (by decide) hO.1
 rw[hO.2]at hN
 have k0:=ab w4 w1.heap.size 0 _ _ _ p4
 have k1:=ab w4 w1.heap.size 1 _ _ _ p4
 have k2:=ab w4 w1.heap.size 2 _ _ _ p4
 have k3:=ab w4 w1.heap.size 3 _ _ _ p4
 have k4:=ab w4 w1.heap.size 4 _ _ _ p4
 have bel:Below w.heap.size w w4:=o4.below (o3.below (b1.trans (bW.mono b1.size)) (by simp) (Nat.le_trans b1.size bW.size)) (by simp) (Nat.le_trans (Nat.le_trans b1.size bW.size) s3)
 have lr:=x4.lt
 have lg:=x4.lg
 have HA:Hid (_):=And.intro bel (And.intro x4 (And.intro p4 (And.intro (And.intro m1 g1) (And.intro (And.intro r1 q1) (And.intro (And.intro lp b1.size) (And.intro (And.intro bW.size (And.intro s3 s4)) (And.intro (And.intro x3.lt x3.lg) (And.intro lr lg))))))))
 clear hR h3 h4 m1 g1 r1 q1 o3 o4 x3 x3' x4 b1 bW pW bel lr lg p4
 go_wp2_with fail
 refine hN.mono ?_
 rintro e w5 ⟨d,rfl,h5⟩
 obtain⟨U,o5,D5,hU⟩:=h5.out
 obtain⟨bel,x4,p4,hm,hr,⟨lp',lb⟩,⟨lW,l3,l4⟩,⟨lm,lg⟩,⟨lr,lq⟩⟩:=HA.out
 have x5:=x4.off o5 (by simp;omega) (by simp;omega)
 have p5:w5.heap[w1.heap.size]?=_:=(o5.block _ (by omega) (by simp;omega)).trans p4
 have k0:=ab w5 w1.heap.size 0 _ _ _ p5
 have k1:=ab w5 w1.heap.size 1 _ _ _ p5
 have k2:=ab w5 w1.heap.size 2 _ _ _ p5
 have k3:=ab w5 w1.heap.size 3 _ _ _ p5
 have k4:=ab w5 w1.heap.size 4 _ _ _ p5
 have hQ:Calls prog 50 #[.agg #[.int .u32 (c:Nat),.int .i64 2,.int .i64 1,.int .i64 10,.int .u32 9],aa r 0,.int .u32 99] w5 _:=qS r q 16 99 (Pc c) hP M0 w5 x5 (by omega) (by decide)
 have HB:Hid (_):=And.intro o5 (And.intro D5 hU)
 clear hN h5 o5 D5 hU bel x4 p4 x5 p5
 go_wp2_with fail
 refine hQ.mono ?_
 rintro e w6 ⟨p,rfl,h6⟩
 obtain⟨o6,_,h6a,_⟩:=h6.out
 obtain⟨d',V,rfl,R6,hV⟩:=h6a hO.1
 rw[hO.2]at R6
 have HC:Hid (_):=And.intro o6 (And.intro R6 hV)
 clear hQ h6 o6 R6 hV h6a
 go_wp2_with fail
 refine bodyPost_ret (v:=.tuple (t5 d m d')) (by simp[results,results20,go_sem]) rfl ?_
 obtain⟨o5,D5,hU⟩:=HB.out
 obtain⟨o6,R6,hV⟩:=HC.out
 obtain⟨bel,_⟩:=HA.out
 have z1:w.heap.size≤m:=by omega
 have z2:w.heap.size≤g:=by omega
 have z3:w.heap.size≤r:=by omega
 have z4:w.heap.size≤q:=by omega
 have y1:m≠r:=by omega
 have y2:m≠q:=by omega
 have y3:g≠r:=by omega
 have y4:g≠q:=by omega
 exact⟨⟨d,m,g,d',r,q,16,99,Pc c,[]⟩,rfl,rfl,rfl,rfl,rt bel o5 D5 hU o6 R6 hV ⟨z1,z2,z3,z4⟩ ⟨y1,y2,y3,y4⟩ ⟨lr,lq⟩ rfl⟩
open Go.RowKit Go.Maps
structure Prt where
 c:Nat
 d:Nat
 k:Nat
 n:Nat
def qQ:Value→Option (DataW Unit × List MemPlace)
 | .agg cs=>match cs.toList with
  | [.pointer none,.pointer none]=>some (.lit (.int .i64 (-1)),[])
  | [.pointer (some ⟨d,0,none⟩),.pointer (some ⟨k,0,none⟩)]=>some (.agg [.lit (.int .i64 d),.lit (.int .i64 k)],[])
  | _=>none
 | _=>none
def fK:Option (Nat × Nat)→DataW Unit
 | none=>.lit (.int .i64 (-1))
 | some x=>.agg [.lit (.int .i64 x.1),.lit (.int .i64 x.2)]
def po:Option (Nat × Nat)→Value
 | none=>.agg #[.pointer none,.pointer none]
 | some x=>.agg #[aa x.1 0,aa x.2 0]
theorem jD (o:Option (Nat × Nat)):qQ (po o)=some (fK o,[]):=by cases o <;> rfl
theorem j7 {o o':Option (Nat × Nat)} (h:fK o=fK o'):o=o':=by
 cases o with
 | none=>cases o' with
  | none=>rfl
  | some y=>simp[fK]at h
 | some x=>cases o' with
  | none=>simp[fK]at h
  | some y=>
   obtain⟨a,b⟩:=x
   obtain⟨a',b'⟩:=y
   simp[fK]at h
   obtain⟨h1,h2⟩:=h
   rw[show a=a' by omega,show b=b' by omega]
theorem nw {v:Value} {o:Option (Nat × Nat)} {ps:List MemPlace} (h:qQ v=some (fK o,ps)):v=po o:=by
 unfold qQ at h
 split at h
 ·rename_i cs
  split at h
  ·rename_i e
   simp only[Option.some.injEq,Prod.mk.injEq]at h
   have:=j7 (o:=none) (o':=o) h.1
   subst this
   have e2:cs=#[.pointer none,.pointer none]:=Array.toList_inj.1 e
   rw[e2];rfl
  ·rename_i d k e
   simp only[Option.some.injEq,Prod.mk.injEq]at h
   have:=j7 (o:=some (d,k)) (o':=o) h.1
   subst this
   have e2:cs=#[aa d 0,aa k 0]:=Array.toList_inj.1 e
   rw[e2];rfl
  ·cases h
 ·cases h
def dO:List Prt→Nat→Option Prt
 | [],_=>none
 | p :: L,c=>if p.c=c then some p else dO L c
def dM (L:List Prt) (c:Nat):Option (Nat × Nat):=(dO L c).map fun p=>(p.d,p.k)
theorem m8 {L:List Prt} {c:Nat} {p:Prt} (h:dO L c=some p):p ∈ L∧p.c=c:=by
 induction L with
 | nil=>simp[dO]at h
 | cons q L ih=>
  unfold dO at h
  split at h
  ·rename_i e
   cases h
   exact⟨by simp,e⟩
  ·exact⟨by simp[(ih h).1],(ih h).2⟩
theorem kq {L:List Prt} {c:Nat} (h:dO L c=none):∀ p,p ∈ L→p.c≠c:=by
 induction L with
 | nil=>simp
 | cons q L ih=>
  unfold dO at h
  split at h
  ·cases h
  ·rename_i e
   intro p hp
   rcases List.mem_cons.1 hp with rfl | hp
   ·exact e
   ·exact ih h p hp
theorem m6 (L M:List Prt) (c:Nat):dO (L ++ M) c=match dO L c with | some p=>some p | none=>dO M c:=by
 induction L with
 | nil=>rfl
 | cons q L ih=>
  simp only[List.cons_append,dO]
  split
  ·rfl
  ·exact ih
structure MX (w:World) (b:Nat) (L:List Prt) (lost l mb nn:Nat) (D:DataW Unit):Prop where
 blk:w.heap[b]?=some (.cells #[.map (some mb),aa l 0] 71 (0,0))
 los:Met w l (lost:Nat) none 0 0 none
 map:w.ownsMap prog 27 qQ mb nn D
 nle:nn≤L.length
 siz:Maps.size D=L.length
 at_:∀ c:Nat,c<4294967296→D.atKey (.int .u32 (c:Nat)) (fK none)=fK (dM L c)
 has_:∀ c:Nat,c<4294967296→has D (.int .u32 (c:Nat))=(dO L c).isSome
 key:∀ c:Int,has D (.int .u32 c)=true→∃ p,p ∈ L∧c=(p.c:Nat)
 met:∀ p,p ∈ L→Met w p.k (p.n:Nat) none 0 0 none∧p.k≠l∧p.c<4294967296
 one:L.Pairwise (fun p q=>p.c≠q.c∧p.k≠q.k)
def ix (L:List Prt) (b l mb:Nat):List Nat:=b :: l :: mb :: L.map (·.k)
def Mxx (w:World) (b:Nat) (L:List Prt) (lost:Nat) (V:List Nat):Prop:=∃ l mb nn D,MX w b L lost l mb nn D∧V=ix L b l mb
section
variable {w w':World} {b:Nat} {L:List Prt} {lost l mb nn:Nat} {D:DataW Unit}
theorem MX.lt (h:MX w b L lost l mb nn D):∀ k,k ∈ ix L b l mb→k<w.heap.size:=by
 intro k hk
 simp[ix]at hk
 rcases hk with rfl | rfl | rfl | ⟨p,hp,rfl⟩
 ·exact (Array.getElem?_eq_some_iff.1 h.blk).1
 ·exact h.los.lt
 ·exact h.map.lt
 ·exact (h.met p hp).1.lt
theorem MX.off {o:List Nat} (h:MX w b L lost l mb nn D) (ho:Off o w w') (hl:∀ k,k ∈ ix L b l mb→k ∉ o):MX w' b L lost l mb nn D where
 blk:=(ho.block b (h.lt b (by simp[ix])) (hl b (by simp[ix]))).trans h.blk
 los:=h.los.off ho (hl l (by simp[ix]))
 map:=aK h.map ho (hl mb (by simp[ix]))
 nle:=h.nle
 siz:=h.siz
 at_:=h.at_
 has_:=h.has_
 key:=h.key
 met:=fun p hp=>⟨(h.met p hp).1.off ho (hl p.k (by simp[ix];exact .inr (.inr (.inr ⟨p,hp,rfl⟩)))),(h.met p hp).2⟩
 one:=h.one
theorem MX.c0 (h:MX w b L lost l mb nn D):w.cell? ⟨b,0,none⟩=some (.map (some mb)):=ab w b 0 _ _ _ h.blk
theorem MX.c1 (h:MX w b L lost l mb nn D):w.cell? ⟨b,1,none⟩=some (aa l 0):=ab w b 1 _ _ _ h.blk
end
theorem eI:Keyed prog 27:=int_keyed underlying27
theorem lD (w:World):(zeroValue 97).run prog w=.ok (po none) w:=by kernel_rfl
theorem mN (c:Nat) (h:c<4294967296):(Lit.int .u32 (c:Nat)).wf=true:=by
 have e1:IntKind.u32.min=0:=by decide
 have e2:IntKind.u32.max=4294967295:=by decide
 simp[Lit.wf,e1,e2]
 omega
section
variable {w:World} {b:Nat} {L:List Prt} {lost l mb nn:Nat} {D:DataW Unit}
theorem MX.look (h:MX w b L lost l mb nn D) (c:Nat) (hc:c<4294967296) :
  (Instr.lookup 67 (.map (some mb)) (.int .u32 (c:Nat)) false).run prog w=.ok (po (dM L c)) w:=by
 obtain⟨v,ps,hrun,hv⟩:=h.map.lookup eI underlying67 (lD w) (zd:=fK none) (zp:=[]) (jD none) (keyOf_int_mk underlying27 (mN c hc))
 rw[h.at_ c hc]at hv
 rw[hrun,nw hv]
theorem MX.look2 (h:MX w b L lost l mb nn D) (c:Nat) (hc:c<4294967296) :
  (Instr.lookup 67 (.map (some mb)) (.int .u32 (c:Nat)) true).run prog w=.ok (.tuple #[po (dM L c),.bool (dO L c).isSome]) w:=by
 obtain⟨v,ps,hrun,hv⟩:=h.map.look_ok eI underlying67 (lD w) (zd:=fK none) (zp:=[]) (jD none) (keyOf_int_mk underlying27 (mN c hc))
 rw[h.at_ c hc]at hv
 rw[hrun,nw hv,h.has_ c hc]
end
end Go.Proofs.YtdpahjfekoikiaaGreat
namespace Go.Proofs.YtdpahjfekoikiaaGreat
open Tryz
open Go.RowKit Go.Maps
theorem tT (mb:Nat) (w:World):(binOp BinOp.eql 67 (.map (some mb)) (.map none)).run prog w=.ok (.bool false) w:=by kernel_rfl
theorem qP (p q:Value) (w:World):(Instr.field 97 (.agg #[p,q]) 1).run prog w=.ok q w:=by kernel_rfl
theorem sM (p q:Value) (w:World):(Instr.field 97 (.agg #[p,q]) 0).run prog w=.ok p w:=by kernel_rfl
theorem dS (b mb:Nat) (w:World) (c0:w.cell? ⟨b,0,none⟩=some (.map (some mb))):Calls prog 30 #[aa b 0] w fun e w'=>e=.returned (.bool false)∧w'=w:=by
 have hne:=tT mb w
 go_enter func30,ntmps30
 go_wp2_with fail
 go_ret
 exact⟨rfl,rfl⟩
theorem oE (b:Nat) (L:List Prt) (lost:Nat) (V:List Nat) (w:World) (h:Mxx w b L lost V) (hn:lost<1000000):Calls prog 19 #[aa b 0] w fun e w'=>e=.returned (.int .i64 (lost:Nat))∧w'=w:=by
 obtain⟨l,mb,nn,D,h,_⟩:=h
 have c0:=h.c0
 have c1:=h.c1
 have hq:=dS b mb w c0
 have ht:=jd (lost:Nat) l none none 0 0 w h.los
 have h1:IntKind.i64.wrap ((lost:Nat):Int)=(lost:Int):=by rw[IntKind.wrap_i64];omega
 go_enter func19,ntmps19
 go_wp2_with (first
  | (go_at_call 30;refine hq.mono ?_;rintro e w' ⟨rfl,rfl⟩)
  | (go_at_call 47;refine ht.mono ?_;rintro e w' ⟨rfl,rfl⟩))
 go_ret
 exact⟨rfl,rfl⟩
def tt (L:List Prt) (c:Nat):Nat:=match dO L c with | some p=>p.n | none=>0
theorem iW (b:Nat) (L:List Prt) (lost:Nat) (V:List Nat) (c:Nat) (w:World) (h:Mxx w b L lost V) (hc:c<4294967296) (hn:tt L c<1000000):Calls prog 17 #[aa b 0,.int .u32 (c:Nat)] w fun e w'=>e=.returned (.int .i64 (tt L c:Nat))∧w'=w:=by
 obtain⟨l,mb,nn,D,h,_⟩:=h
 have c0:=h.c0
 have hq:=dS b mb w c0
 have hk:=h.look c hc
 have hfs:=qP
 cases hm:dO L c with
 | none=>
  have e1:tt L c=0:=by unfold tt;rw[hm]
  have e2:po (dM L c)=.agg #[.pointer none,.pointer none]:=by unfold dM;rw[hm];rfl
  rw[e2]at hk
  rw[e1]
  clear hn
  go_enter func17,ntmps17
  go_wp2_with (first
   | (go_at_call 30;refine hq.mono ?_;rintro e w' ⟨rfl,rfl⟩)
   | (go_at_call 47;refine (pb _).mono ?_;rintro e w' ⟨rfl,rfl⟩))
  go_ret
  exact⟨rfl,rfl⟩
 | some p=>
  have e1:tt L c=p.n:=by unfold tt;rw[hm]
  have e2:po (dM L c)=.agg #[aa p.d 0,aa p.k 0]:=by unfold dM;rw[hm];rfl
  rw[e2]at hk
  rw[e1]at hn ⊢
  have ht:=jd (p.n:Nat) p.k none none 0 0 w (h.met p (m8 hm).1).1
  generalize p.n=n at *
  have h1:IntKind.i64.wrap ((n:Nat):Int)=(n:Int):=by rw[IntKind.wrap_i64];omega
  clear hm e1 e2
  go_enter func17,ntmps17
  go_wp2_with (first
   | (go_at_call 30;refine hq.mono ?_;rintro e w' ⟨rfl,rfl⟩)
   | (go_at_call 47;refine ht.mono ?_;rintro e w' ⟨rfl,rfl⟩))
  go_ret
  exact⟨rfl,rfl⟩
theorem kR (w:World):Calls prog 5 #[] w fun e w'=>e=.returned (aa (w.heap.size+2) 0)∧Hid (Below w.heap.size w w'∧w'.heap.size=w.heap.size+3∧Mxx w' (w.heap.size+2) [] 0 [w.heap.size+2,w.heap.size+1,w.heap.size]):=by
 have hmk:=@run_makeMap prog
 go_enter func5,ntmps5
 go_wp2_with (go_at_call 24;refine (go _).mono ?_;rintro e w' ⟨rfl,rfl⟩)
 go_ret
 refine⟨rfl,?_⟩
 clear hmk
 generalize hw1:w.alloc (Obj.map #[] 0)=w1
 generalize hw2:w1.alloc (Obj.cells (lE 0 none 0 0 none) 155)=w2
 have s1:w1.heap.size=w.heap.size+1:=by rw[← hw1];simp
 have s2:w2.heap.size=w.heap.size+2:=by rw[← hw2];simp[s1]
 have o1:Off [] w w1:=hw1 ▸ Off.alloc [] w _
 have o2:Off [] w1 w2:=hw2 ▸ Off.alloc [] w1 _
 have o3:∀ o,Off [] w2 (w2.alloc o):=fun o=>Off.alloc [] w2 o
 have m1:w1.ownsMap prog 27 qQ w.heap.size 0 (.map []):=hw1 ▸ World.ownsMap_made w prog 27 qQ
 have m2:Met w2 (w.heap.size+1) 0 none 0 0 none:=by
  have:=gp w1
  rw[hw2,s1]at this
  exact this
 refine⟨((o1.trans o2).trans (o3 _)).below (Below.refl _ _) (by simp) (Nat.le_refl _),by simp[s2],w.heap.size+1,w.heap.size,0,.map [],?_,rfl⟩
 have hb:=aB w2 (Obj.cells #[Value.map (some w.heap.size),aa (w.heap.size+1) 0] 71)
 rw[s2]at hb
 exact⟨hb,m2.off (o3 _) (by simp),aK (aK m1 o2 (by simp)) (o3 _) (by simp),Nat.le_refl _,rfl,fun c _=>rfl,fun c _=>rfl,fun c h=>by simp[has]at h,fun p hp=>by simp at hp,List.Pairwise.nil⟩
theorem eM (d c:Nat) (w:World) (c0:w.cell? ⟨d,0,none⟩=some (.int .u32 (c:Nat))):Calls prog 31 #[aa d 0] w fun e w'=>e=.returned (.int .u32 (c:Nat))∧w'=w:=by
 go_enter func31,ntmps31
 go_wp2_with fail
 go_ret
 exact⟨rfl,rfl⟩
end Go.Proofs.YtdpahjfekoikiaaGreat
