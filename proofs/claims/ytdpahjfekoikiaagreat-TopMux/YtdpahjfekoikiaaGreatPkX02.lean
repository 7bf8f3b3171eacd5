/- Part 3: contracts that the proof rests on. -/
import Derived.Test.YtdpahjfekoikiaaGreatProg
import Derived.WalkKit
import Derived.WalkSpells
import Derived.OpenShut
import Derived.Laws.BitsAllLaws
import Derived.Laws.Pointers
import Derived.Laws.LoneSync
import Derived.Laws.NewBlocks
import Derived.Lib.Builder
import Derived.RegionTactic
import Derived.RegionCalls
import Derived.Deep.DeepCutAuto
import Derived.Deep.RegionWith
import Derived.Deep.QuietTactic
import Derived.Laws.AppendOwnNone
import Derived.Laws.CopyOwn
import Derived.WalkSmall
import Derived.Test.YtdpahjfekoikiaaGreatPkX01
set_option maxHeartbeats 64000000
set_option maxRecDepth 100000
namespace Go.Proofs.YtdpahjfekoikiaaGreat
open Tryz
open Go.RowKit
structure Off (l:List Nat) (w w':World):Prop where
 os:w'.os=w.os
 tape:w'.tape=w.tape
 output:w'.output=w.output
 size:w.heap.size≤w'.heap.size
 block:∀ k,k<w.heap.size→k ∉ l→w'.heap[k]?=w.heap[k]?
theorem Off.refl (l:List Nat) (w:World):Off l w w:=⟨rfl,rfl,rfl,Nat.le_refl _,fun _ _ _=>rfl⟩
theorem Off.trans {l:List Nat} {u v w:World} (h:Off l u v) (k:Off l v w):Off l u w:=
 ⟨k.os.trans h.os,k.tape.trans h.tape,k.output.trans h.output,Nat.le_trans h.size k.size,fun i hi hb=>(k.block i (Nat.lt_of_lt_of_le hi h.size) hb).trans (h.block i hi hb)⟩
theorem Off.of_below {l:List Nat} {w w':World} (h:Below w.heap.size w w'):Off l w w':=⟨h.os,h.tape,h.output,h.size,fun k hk _=>h.block k hk⟩
theorem Off.more {l m:List Nat} {w w':World} (h:Off l w w') (hs:∀ k,k ∈ l→k ∈ m):Off m w w':=⟨h.os,h.tape,h.output,h.size,fun k hk hb=>h.block k hk fun hm=>hb (hs k hm)⟩
theorem Off.only {l m:List Nat} {w w':World} (h:Off l w w') (hs:∀ k,k ∈ l→k<w.heap.size→k ∈ m):Off m w w':=⟨h.os,h.tape,h.output,h.size,fun k hk hb=>h.block k hk fun hm=>hb (hs k hm hk)⟩
theorem Off.setCell (b i:Nat) (w:World) (v:Value):Off [b] w (w.setCell ⟨b,i,none⟩ v):=⟨rfl,rfl,rfl,by simp[World.setCell],fun k _ hb=>heap_setCell_other w _ k v (by simpa using hb)⟩
theorem Off.alloc (l:List Nat) (w:World) (o:Obj):Off l w (w.alloc o):=Off.of_below ((Below.refl _ _).alloc (Nat.le_refl _) _)
theorem Off.drew (l:List Nat) (w:World):Off l w w.drew:=⟨rfl,rfl,rfl,Nat.le_refl _,fun _ _ _=>rfl⟩
theorem Off.drewN (l:List Nat) (w:World) (n:Nat):Off l w (w.drewN n):=⟨rfl,rfl,rfl,Nat.le_refl _,fun _ _ _=>rfl⟩
theorem Off.below {l:List Nat} {B:Nat} {w0 w w':World} (h:Off l w w') (hb:Below B w0 w) (hB:∀ k,k ∈ l→B≤k) (hs:B≤w.heap.size):Below B w0 w':=
 hb.trans ⟨h.os,h.tape,h.output,h.size,fun k hk=>h.block k (by omega) (fun hm=>by have:=hB k hm;omega)⟩
structure Vr (w:World) (p:Nat) (v:Value) (ty:TypeId):Prop where
 at_:w.heap[p]?=some (.cells #[v] ty (0,0))
theorem Vr.lt {w:World} {p:Nat} {v:Value} {ty:TypeId} (h:Vr w p v ty):p<w.heap.size:=(Array.getElem?_eq_some_iff.1 h.at_).1
theorem Vr.c {w:World} {p:Nat} {v:Value} {ty:TypeId} (h:Vr w p v ty):w.cell? ⟨p,0,none⟩=some v:=ab w p 0 _ _ _ h.at_
theorem Vr.fz {w:World} {p:Nat} {v:Value} {ty:TypeId} (h:Vr w p v ty):w.frozen? ⟨p,0,none⟩=false:=frozen_of_row w p 0 _ _ h.at_
theorem Vr.off {l:List Nat} {w w':World} {p:Nat} {v:Value} {ty:TypeId} (h:Vr w p v ty) (k:Off l w w') (hb:p ∉ l):Vr w' p v ty:=⟨(k.block p h.lt hb).trans h.at_⟩
theorem Vr.new (w:World) (v:Value) (ty:TypeId):Vr (w.alloc (.cells #[v] ty)) w.heap.size v ty:=⟨aB w _⟩
theorem Vr.set {w:World} {p:Nat} {v:Value} {ty:TypeId} (h:Vr w p v ty) (v':Value):Vr (w.setCell ⟨p,0,none⟩ v') p v' ty:=⟨heap_setCell_same _ _ _ _ _ _ h.at_⟩
def GC (k d m c t:Int):Array Value:=#[.int .i32 k,.int .u32 0,.int .u32 d,.int .i32 m,.int .u32 0,.int .i64 c,.int .i64 t]
structure GR (w:World) (b:Nat) (k d m c t:Int):Prop where
 at_:w.heap[b]?=some (.cells (GC k d m c t) 237 (0,0))
section
variable {w w':World} {b:Nat} {k d m c t:Int}
theorem GR.lt (h:GR w b k d m c t):b<w.heap.size:=(Array.getElem?_eq_some_iff.1 h.at_).1
theorem GR.c0 (h:GR w b k d m c t):w.cell? ⟨b,0,none⟩=some (.int .i32 k):=ab w b 0 _ _ _ h.at_
theorem GR.c2 (h:GR w b k d m c t):w.cell? ⟨b,2,none⟩=some (.int .u32 d):=ab w b 2 _ _ _ h.at_
theorem GR.c3 (h:GR w b k d m c t):w.cell? ⟨b,3,none⟩=some (.int .i32 m):=ab w b 3 _ _ _ h.at_
theorem GR.c5 (h:GR w b k d m c t):w.cell? ⟨b,5,none⟩=some (.int .i64 c):=ab w b 5 _ _ _ h.at_
theorem GR.c6 (h:GR w b k d m c t):w.cell? ⟨b,6,none⟩=some (.int .i64 t):=ab w b 6 _ _ _ h.at_
theorem GR.fz (h:GR w b k d m c t) (j:Nat):w.frozen? ⟨b,j,none⟩=false:=frozen_of_row w b j _ _ h.at_
theorem GR.off {l:List Nat} (h:GR w b k d m c t) (q:Off l w w') (hb:b ∉ l):GR w' b k d m c t:=⟨(q.block b h.lt hb).trans h.at_⟩
theorem GR.s0 (h:GR w b k d m c t) (x:Int):GR (w.setCell ⟨b,0,none⟩ (.int .i32 x)) b x d m c t:=⟨heap_setCell_same _ _ _ _ _ _ h.at_⟩
theorem GR.s2 (h:GR w b k d m c t) (x:Int):GR (w.setCell ⟨b,2,none⟩ (.int .u32 x)) b k x m c t:=⟨heap_setCell_same _ _ _ _ _ _ h.at_⟩
theorem GR.s3 (h:GR w b k d m c t) (x:Int):GR (w.setCell ⟨b,3,none⟩ (.int .i32 x)) b k d x c t:=⟨heap_setCell_same _ _ _ _ _ _ h.at_⟩
theorem GR.s5 (h:GR w b k d m c t) (x:Int):GR (w.setCell ⟨b,5,none⟩ (.int .i64 x)) b k d m x t:=⟨heap_setCell_same _ _ _ _ _ _ h.at_⟩
theorem GR.s6 (h:GR w b k d m c t) (x:Int):GR (w.setCell ⟨b,6,none⟩ (.int .i64 x)) b k d m c x:=⟨heap_setCell_same _ _ _ _ _ _ h.at_⟩
theorem GR.drew (h:GR w b k d m c t):GR w.drew b k d m c t:=⟨h.at_⟩
end
theorem pV (w:World) :
  Calls prog 104 #[] w fun e w'=>e=.returned (aa w.heap.size 0)∧(Off [] w w'∧GR w' w.heap.size 0 0 0 0 0):=by
 go_enter func104,ntmps104
 go_wp2
 go_ret
 exact⟨rfl,Off.alloc _ _ _,⟨aB w _⟩⟩
theorem jL (w:World) (b i:Nat) (cs:Array Value) (ty:TypeId) (x v:Value) (hg:w.heap[b]?=some (.cells cs ty (0,0))) (hv:cs[i]?=some v):(w.setCell ⟨b,i,none⟩ x).setCell ⟨b,i,none⟩ v=w:=by
 have h:((w.setCell ⟨b,i,none⟩ x).setCell ⟨b,i,none⟩ v).heap=w.heap:=by
  apply Array.ext_getElem?
  intro k
  by_cases hk:k=b
  ·subst hk
   rw[heap_setCell_same _ _ _ _ _ _ (heap_setCell_same _ _ _ _ _ _ hg),hg,Array.setIfInBounds_setIfInBounds]
   congr 2
   apply Array.ext_getElem?
   intro j
   rw[Array.getElem?_setIfInBounds]
   split
   ·subst_vars
    split
    ·exact hv.symm
    ·rw[Array.getElem?_eq_none (by omega)]
   ·rfl
  ·rw[heap_setCell_other _ _ _ _ hk,heap_setCell_other _ _ _ _ hk]
 cases w
 simp only[World.setCell]at h ⊢
 rw[h]
theorem fJ (b:Nat) (d c t:Int) (w:World) (h:GR w b 0 d 0 c t) :
  Calls prog 87 #[aa b 0] w fun e w'=>e=.returned (.int .i64 c)∧w'=w:=by
 have h0:=h.c0
 have hz:=h.fz 0
 go_enter_defers func87,ntmps87
 go_wp2_with fail
 refine (eK ⟨b,0,none⟩ _ h0 hz).mono ?_
 rintro e w2 ⟨rfl,hw⟩
 have g2:GR w2 b 1 d 0 c t:=hw ▸ h.s0 1
 have hh:Hid (_):=hw
 clear h0 hz hw
 have h5:=g2.c5
 go_wp2_with fail
 refine leaves_cons (f:=128) (args:=#[aa b 0]) (by simp) (by simp[go_sem]) ?_
 refine (co ⟨b,0,none⟩ .returning _ g2.c0 (g2.fz 0)).mono ?_
 rintro e u' w'' ⟨rfl,rfl,hw'⟩
 refine⟨_,results_tmp rfl _ _ _,rfl,?_⟩
 rw[hw',hh.out]
 exact jL w b 0 _ _ _ _ h.at_ rfl
end Go.Proofs.YtdpahjfekoikiaaGreat
namespace Go.Proofs.YtdpahjfekoikiaaGreat
open Tryz
open Go.RowKit
theorem te (b pc pg pf:Nat) (k d m c t x:Int) (y:Value) (w:World) (h:GR w b k d m c t) (vc:Vr w pc (.int .i64 x) 32) (vg:Vr w pg (aa b 0) 184) (vf:Vr w pf y 4) (hbf:b≠pf) :
  Calls prog 175 (t5 pc pg pf) w fun e w'=>e=.returned (.tuple #[]) ∧
   (Off [b,pf] w w'∧GR w' b k d m x t∧Vr w' pf (.bool true) 4):=by
 have h1:=vc.c
 have h2:=vg.c
 have h3:=vf.c
 have h5:=h.c5
 have z5:=h.fz 5
 have z3:=vf.fz
 have h3':(w.setCell ⟨b,5,none⟩ (.int .i64 x)).cell? ⟨pf,0,none⟩=some y:=(World.cell?_setCell_other _ _ _ _ (by simp)).trans h3
 go_enter func175,ntmps175
 go_wp2_with fail
 go_end0
 have o1:Off [b,pf] w (w.setCell ⟨b,5,none⟩ (.int .i64 x)):=(Off.setCell b 5 w _).more (by simp)
 have o2:Off [pf] (w.setCell ⟨b,5,none⟩ (.int .i64 x)) ((w.setCell ⟨b,5,none⟩ (.int .i64 x)).setCell ⟨pf,0,none⟩ (.bool true)):=Off.setCell pf 0 _ _
 exact⟨rfl,o1.trans (o2.more (by simp)),(h.s5 x).off o2 (by simpa using hbf),(vf.off (Off.setCell b 5 w _) (by simp;omega)).set _⟩
theorem mH (b:Nat) (x t:Int) (hx:¬ x=0) (w:World) (h:GR w b 0 0 0 0 t) :
  Calls prog 142 #[aa b 0,.int .i64 x] w fun e w'=>e=.returned (.bool true)∧(Off [b] w w'∧GR w' b 0 1 0 x (wrap64 (t+1))):=by
 have hmf:∀ (fn:Fn) (first cap:Array Value) (w:World),(Instr.makeFunc fn first cap).run prog w=.ok (.func fn first cap) w:=fun _ _ _ _=>rfl
 go_enter_defers func142,ntmps142
 go_wp2_with fail
 have o1:Off [] w ((w.alloc (.cells #[aa b 0] 184)).alloc (.cells #[.int .i64 x] 32)):=(Off.alloc _ _ _).trans (Off.alloc _ _ _)
 have vg1:=(Vr.new w (aa b 0) 184).off (Off.alloc [] _ (.cells #[.int .i64 x] 32)) (by simp)
 have vc1:=Vr.new (w.alloc (.cells #[aa b 0] 184)) (.int .i64 x) 32
 rw[World.size_alloc]at vc1
 have g1:=h.off o1 (by simp)
 have lb:=h.lt
 generalize (w.alloc (.cells #[aa b 0] 184)).alloc (.cells #[.int .i64 x] 32)=w1 at *
 refine (eK ⟨b,0,none⟩ _ g1.c0 (g1.fz 0)).mono ?_
 rintro e w2 ⟨rfl,hw⟩
 have g2:GR w2 b 1 0 0 0 t:=hw ▸ g1.s0 1
 have o2:Off [b] w1 w2:=hw ▸ Off.setCell b 0 w1 _
 clear hw
 have vg2:=vg1.off o2 (by simp;omega)
 have vc2:=vc1.off o2 (by simp;omega)
 have o2':Off [b] w w2:=(o1.more (by simp)).trans o2
 clear g1 vg1 vc1 o1 o2
 have cg:=vg2.c
 have c6:=g2.c6
 have z6:=g2.fz 6
 have lg:=vg2.lt
 have lc:=vc2.lt
 have l2:=g2.lt
 go_wp2_with fail
 have s2:w.heap.size≤w2.heap.size:=o2'.size
 have o3:Off [b] w2 ((w2.setCell ⟨b,6,none⟩ (.int .i64 (wrap64 (t+1)))).alloc (.cells #[.bool false] 4)):=(Off.setCell b 6 w2 _).trans (Off.alloc _ _ _)
 have vf3:=Vr.new (w2.setCell ⟨b,6,none⟩ (.int .i64 (wrap64 (t+1)))) (.bool false) 4
 have g3:=(g2.s6 (wrap64 (t+1))).off (Off.alloc [] _ (.cells #[.bool false] 4)) (by simp)
 rw[show (w2.setCell ⟨b,6,none⟩ (.int .i64 (wrap64 (t+1)))).heap.size=w2.heap.size by simp[World.setCell]]at vf3
 generalize (w2.setCell ⟨b,6,none⟩ (.int .i64 (wrap64 (t+1)))).alloc (.cells #[.bool false] 4)=w3 at *
 have vg3:=vg2.off o3 (by simp;omega)
 have vc3:=vc2.off o3 (by simp;omega)
 have o3':=o2'.trans o3
 clear vg2 vc2 g2 o2' o3 c6 z6 cg
 have o4:=Off.setCell b 3 w3 (.int .i32 1)
 have hf:=te b (w.heap.size+1) w.heap.size w2.heap.size 1 0 1 0 (wrap64 (t+1)) x (.bool false) (w3.setCell ⟨b,3,none⟩ (.int .i32 1)) (g3.s3 1) (vc3.off o4 (by simp;omega)) (vg3.off o4 (by simp;omega)) (vf3.off o4 (by simp;omega)) (by omega)
 refine (uu 175 b 2 _ w3 _ (fun _=>by kernel_rfl) g3.c2 g3.c3 (g3.fz 3) hf ?_).mono ?_
 ·rintro w5 ⟨_,g5,_⟩
  exact⟨g5.c2,g5.c3,g5.fz 2,g5.fz 3⟩
 rintro e w6 ⟨rfl,w5,⟨o5,g5,v5⟩,hw⟩
 have g6:GR w6 b 1 1 0 x (wrap64 (t+1)):=hw ▸ (g5.drew.s2 1).s3 0
 have o6:Off [b] w5 w6:=hw ▸ ((Off.drew _ _).trans (Off.setCell b 2 _ _)).trans (Off.setCell b 3 _ _)
 have v6:=v5.off o6 (by simp;omega)
 have m1:∀ k,k ∈ [b]→k ∈ [b,w2.heap.size]:=by simp
 have o7:Off [b] w w6:=((((o3'.more m1).trans (o4.more m1)).trans o5).trans (o6.more m1)).only (by simp;omega)
 clear hf g5 v5 o5 o4 o3' hw vf3 vg3 vc3 g3
 have cf:=v6.c
 go_wp2_with fail
 refine leaves_cons (f:=128) (args:=#[aa b 0]) (by simp) (by simp[go_sem]) ?_
 refine (co ⟨b,0,none⟩ .returning _ g6.c0 (g6.fz 0)).mono ?_
 rintro e u' w'' ⟨rfl,rfl,hw⟩
 have g8:GR w'' b 0 1 0 x (wrap64 (t+1)):=hw ▸ g6.s0 0
 have o8:Off [b] w6 w'':=hw ▸ Off.setCell b 0 _ _
 exact⟨_,results_tmp rfl _ _ _,rfl,o7.trans o8,g8⟩
theorem mG (b:Nat) (x c t:Int) (hx:¬ x=0) (w:World) (h:GR w b 0 1 0 c t) :
  Calls prog 142 #[aa b 0,.int .i64 x] w fun e w'=>e=.returned (.bool false)∧(Off [b] w w'∧GR w' b 0 1 0 c (wrap64 (t+1))):=by
 have hmf:∀ (fn:Fn) (first cap:Array Value) (w:World),(Instr.makeFunc fn first cap).run prog w=.ok (.func fn first cap) w:=fun _ _ _ _=>rfl
 go_enter_defers func142,ntmps142
 go_wp2_with fail
 have o1:Off [] w ((w.alloc (.cells #[aa b 0] 184)).alloc (.cells #[.int .i64 x] 32)):=(Off.alloc _ _ _).trans (Off.alloc _ _ _)
 have vg1:=(Vr.new w (aa b 0) 184).off (Off.alloc [] _ (.cells #[.int .i64 x] 32)) (by simp)
 have vc1:=Vr.new (w.alloc (.cells #[aa b 0] 184)) (.int .i64 x) 32
 rw[World.size_alloc]at vc1
 have g1:=h.off o1 (by simp)
 have lb:=h.lt
 generalize (w.alloc (.cells #[aa b 0] 184)).alloc (.cells #[.int .i64 x] 32)=w1 at *
 refine (eK ⟨b,0,none⟩ _ g1.c0 (g1.fz 0)).mono ?_
 rintro e w2 ⟨rfl,hw⟩
 have g2:GR w2 b 1 1 0 c t:=hw ▸ g1.s0 1
 have o2:Off [b] w1 w2:=hw ▸ Off.setCell b 0 w1 _
 clear hw
 have vg2:=vg1.off o2 (by simp;omega)
 have vc2:=vc1.off o2 (by simp;omega)
 have o2':Off [b] w w2:=(o1.more (by simp)).trans o2
 clear g1 vg1 vc1 o1 o2
 have cg:=vg2.c
 have c6:=g2.c6
 have z6:=g2.fz 6
 have lg:=vg2.lt
 have lc:=vc2.lt
 have l2:=g2.lt
 go_wp2_with fail
 have s2:w.heap.size≤w2.heap.size:=o2'.size
 have o3:Off [b] w2 ((w2.setCell ⟨b,6,none⟩ (.int .i64 (wrap64 (t+1)))).alloc (.cells #[.bool false] 4)):=(Off.setCell b 6 w2 _).trans (Off.alloc _ _ _)
 have vf3:=Vr.new (w2.setCell ⟨b,6,none⟩ (.int .i64 (wrap64 (t+1)))) (.bool false) 4
 have g3:=(g2.s6 (wrap64 (t+1))).off (Off.alloc [] _ (.cells #[.bool false] 4)) (by simp)
 rw[show (w2.setCell ⟨b,6,none⟩ (.int .i64 (wrap64 (t+1)))).heap.size=w2.heap.size by simp[World.setCell]]at vf3
 generalize (w2.setCell ⟨b,6,none⟩ (.int .i64 (wrap64 (t+1)))).alloc (.cells #[.bool false] 4)=w3 at *
 have vg3:=vg2.off o3 (by simp;omega)
 have vc3:=vc2.off o3 (by simp;omega)
 have o3':=o2'.trans o3
 clear vg2 vc2 g2 o2' o3 c6 z6 cg
 refine (sd ⟨b,2,none⟩ _ w3 g3.c2).mono ?_
 rintro e w6 ⟨rfl,hw⟩
 have g6:GR w6 b 1 1 0 c (wrap64 (t+1)):=hw ▸ g3
 have v6:Vr w6 w2.heap.size (.bool false) 4:=hw ▸ vf3
 have o7:Off [b] w w6:=hw ▸ o3'
 clear o3' hw vf3 vg3 vc3 g3
 have cf:=v6.c
 go_wp2_with fail
 refine leaves_cons (f:=128) (args:=#[aa b 0]) (by simp) (by simp[go_sem]) ?_
 refine (co ⟨b,0,none⟩ .returning _ g6.c0 (g6.fz 0)).mono ?_
 rintro e u' w'' ⟨rfl,rfl,hw⟩
 have g8:GR w'' b 0 1 0 c (wrap64 (t+1)):=hw ▸ g6.s0 0
 have o8:Off [b] w6 w'':=hw ▸ Off.setCell b 0 _ _
 exact⟨_,results_tmp rfl _ _ _,rfl,o7.trans o8,g8⟩
def BRow (k:IntKind) (w:World) (a:Option Addr) (len cap:Nat) (zs:List Int):Prop:=
 (a=none∧len=0∧cap=0∧zs=[]) ∨
 ∃ x,a=some x∧len≤cap∧cap≤maxLen∧zs.length=cap∧(∀ i,i<zs.length→w.cell? (x.add i)=some (.int k (zs.getD i 0)))∧∀ n ∈ zs,(Lit.int k n).wf=true
structure Row8 (w:World) (a:Option Addr) (len cap:Nat) (bs:Nat→Nat):Prop where
 byte:∀ i,i<len→bs i<256
 nil:a=none→len=0∧cap=0
 src:∀ x,a=some x→∀ i,i<len→w.cell? (x.add i)=some (.int .u8 (bs i))
 le:len≤cap
theorem BRow.len_le {k:IntKind} {w:World} {a:Option Addr} {len cap:Nat} {zs:List Int} (h:BRow k w a len cap zs):len≤9223372036854775807:=by
 rcases h with ⟨_,rfl,_,_⟩ | ⟨x,_,hl,hm,_⟩
 ·omega
 ·unfold maxLen at hm;omega
theorem Row8.plain {w:World} {a:Option Addr} {len cap:Nat} {bs:Nat→Nat} (h:Row8 w a len cap bs) (hp:0<len) :
  ∃ b off,a=ac b off∧b<w.heap.size∧∀ i,i<len→bs i<256∧w.cell? ⟨b,off+i,none⟩=some (.int .u8 (bs i)):=by
 cases a with
 | none=>have:=(h.nil rfl).1;omega
 | some x=>
  obtain⟨b,off,spot⟩:=x
  have h0:=h.src _ rfl 0 hp
  have hspot:spot=none:=by simpa [Addr.add] using World.cell?_spot h0
  subst hspot
  refine⟨b,off,rfl,?_,fun i hi=>⟨h.byte i hi,?_⟩⟩
  ·simpa [Addr.add] using World.block_lt_of_cell? w _ h0
  ·rw[← Go.WideShapes.add_plain];exact h.src _ rfl i hi
theorem Row8.below {w w':World} {a:Option Addr} {len cap:Nat} {bs:Nat→Nat} (h:Row8 w a len cap bs) (hb:Below w.heap.size w w'):Row8 w' a len cap bs:=
 ⟨h.byte,h.nil,fun x hx i hi=>by
  have h1:=h.src x hx i hi
  exact (hb.cell (World.block_lt_of_cell? w _ h1)).trans h1,h.le⟩
def CB (bs:Nat→Nat) (n:Nat):List Value:=(List.range n).map fun t=>Value.int .u8 (bs t)
theorem ah (bs:Nat→Nat) (n:Nat):(CB bs n).length=n:=by simp[CB]
theorem az (bs:Nat→Nat) (n i:Nat) (h:i<n):(CB bs n)[i]?=some (.int .u8 (bs i)):=by simp[CB,h]
theorem bg (bs:Nat→Nat) (n i:Nat) (h:n≤i):(CB bs n)[i]?=none:=by simp[CB,h]
theorem gu (bs:Nat→Nat) (n:Nat):∀ u ∈ CB bs n,u.oneCell'=true:=by
 intro u hu
 simp only[CB,List.mem_map]at hu
 obtain⟨t,_,rfl⟩:=hu
 rfl
theorem aX (f g:Nat→Nat) (n m:Nat):CB f n ++ CB g m=CB (fun i=>if i<n then f i else g (i-n)) (n+m):=by
 apply List.ext_getElem?
 intro i
 by_cases h:i<n
 ·rw[List.getElem?_append_left (by rw[ah];exact h),az f n i h,az _ _ i (by omega),if_pos h]
 ·rw[List.getElem?_append_right (by rw[ah];omega),ah]
  by_cases h2:i<n+m
  ·rw[az g m _ (by omega),az _ _ i h2,if_neg h]
  ·rw[bg _ _ _ (by omega),bg _ _ _ (by omega)]
theorem ae {P:Program} {w:World} {ops:Array Oper} {rest:List Oper} {o:Oper} {a:Act} {Q:Exit→Act→World→Prop} (hgd:o.guard=none) (s x:Operand) (t:TypeId)
  (ho:o.op=.call { callee:=.builtin .append,args:=#[s,x],argTypes:=#[t,t] })
  (base:Nat) (e:TypeId) (i:TypeInfo) (z:Value) (ht:P.underlying t=some (.slice e)) (hi:P.info? e=some i) (hz:i.zero=some z)
  (hsize:i.size=1) (hby:i.bytes=1) (hzs:z.cells.size=1)
  (v:Value) (n:Nat) (xs:List Value) (hs:a.eval s=v) (hown:w.ownsRow base e 1 v n xs)
  (ao:Option Addr) (m c:Nat) (bs:Nat→Nat) (hx:a.eval x=.slice ao m c) (hrow:Row8 w ao m c bs)
  (h63:n+m≤maxLen) (hbytes:n+m≤140737488355328) (hbase:base≤w.heap.size)
  (h:∀ v' w',w'.ownsRow base e 1 v' (n+m) (xs ++ CB bs m)→w.grownBy w' v.ownBlock→wpList P ops Q rest (a.put o.dst v') w'):wpList P ops Q (o :: rest) a w:=by
 cases ao with
 | none=>
  obtain⟨rfl,rfl⟩:=hrow.nil rfl
  refine wpList_append_own_none hgd s x t ho base e i 1 ht hi v n xs hs hown hx ?_
  have he:xs ++ CB bs 0=xs:=by simp[CB]
  exact h v w (by rw[he];exact hown) ⟨rfl,rfl,rfl,Nat.le_refl _,fun _ _ _=>rfl⟩
 | some ad=>
  refine wpList_append_own _ hgd s x t ho base e i z 1 1 ht hi hz hsize hby hzs (by decide) v n xs hs hown ad m c (CB bs m) hx (by rw[ah,Nat.mul_one]) ?_ (gu bs m) h63 (by omega) hbase (fun v' w' h1 h2 _=>h v' w' h1 h2)
  intro j u hj
  by_cases hlt:j<m
  ·rw[az bs m j hlt]at hj
   cases hj
   exact hrow.src ad rfl j hlt
  ·rw[bg bs m j (by omega)]at hj;cases hj
theorem aS:(prog.info? 5).map (fun i=>(i.zero,i.size,i.bytes))=some (some (.int .u8 0),1,1):=by kernel_rfl
theorem jN:(prog.info? 5).map (·.size)=some 1:=by kernel_rfl
theorem bN {w w':World} {B e size n:Nat} {v:Value} {xs:List Value} (h:w.ownsRow B e size v n xs) (hb:Below w.heap.size w w'):w'.ownsRow B e size v n xs:=by
 refine⟨h.1,?_⟩
 rcases h.2 with hn | ⟨g,cap,cur,rfl,hg,hgg,rest⟩
 ·exact .inl hn
 ·exact .inr ⟨g,cap,cur,rfl,hg,by rw[hb.block g (Array.getElem?_eq_some_iff.1 hgg).1];exact hgg,rest⟩
theorem ak {w:World} {B B' e size n:Nat} {v:Value} {xs:List Value} (h:w.ownsRow B e size v n xs) (hb:B'≤B):w.ownsRow B' e size v n xs:=by
 refine⟨h.1,?_⟩
 rcases h.2 with hn | ⟨g,cap,cur,rfl,hg,rest⟩
 ·exact .inl hn
 ·exact .inr ⟨g,cap,cur,rfl,Nat.le_trans hb hg,rest⟩
theorem aF {B:Nat} {w0 w w':World} (h:Below B w0 w) (hB:B≤w.heap.size) (k:Below w.heap.size w w'):Below B w0 w':=h.trans (k.mono hB)
theorem aO {w:World} {B e n:Nat} {v:Value} {bs:Nat→Nat} (h:w.ownsRow B e 1 v n (CB bs n)) (hb:∀ i,i<n→bs i<256) :
  ∃ a cap,v=.slice a n cap∧Row8 w a n cap bs:=by
 rcases h.2 with ⟨rfl,rfl⟩ | ⟨g,cap,cur,hv,_,_,hnc,_⟩
 ·exact⟨none,0,rfl,hb,fun _=>⟨rfl,rfl⟩,(fun x hx=>by cases hx),Nat.le_refl _⟩
 ·subst hv
  refine⟨_,cap,rfl,hb,(fun hx=>by cases hx),fun x hx i hi=>?_,hnc⟩
  cases hx
  rw[Go.WideShapes.add_plain,Nat.zero_add,h.cellAt i (by omega),az bs n i hi]
theorem ev (w:World) (cs:Array Value) (e:TypeId) (bs:Nat→Nat) (n:Nat) (hb:∀ i,i<n→bs i<256) (hc:∀ i,i<n→cs[i]?=some (.int .u8 (bs i:Nat))) :
  Row8 (w.alloc (.cells cs e)) (ac w.heap.size 0) n n bs:=by
 refine⟨hb,(fun hx=>by cases hx),fun x hx i hi=>?_,Nat.le_refl _⟩
 cases hx
 rw[Go.WideShapes.add_plain,Nat.zero_add,ab _ _ _ cs e (0,0) (aB w _)]
 exact hc i hi
theorem Row8.from_ {w:World} {b off len cap:Nat} {bs:Nat→Nat} (h:Row8 w (ac b off) len cap bs) (n:Nat) (hn:n≤len):Row8 w (ac b (off+n)) (len-n) (cap-n) (fun i=>bs (n+i)):=by
 refine⟨fun i hi=>h.byte _ (by omega),(fun hx=>by cases hx),fun x hx i hi=>?_,by have:=h.le;omega⟩
 cases hx
 have:=h.src _ rfl (n+i) (by omega)
 rw[Go.WideShapes.add_plain]at this ⊢
 rw[show off+n+i=off + (n+i) by omega]
 exact this
theorem Row8.upto {w:World} {a:Option Addr} {len cap:Nat} {bs:Nat→Nat} (h:Row8 w a len cap bs) (n:Nat) (hn:n≤len):Row8 w a n cap bs:=
 ⟨fun i hi=>h.byte _ (by omega),(fun hx=>by have:=h.nil hx;exact⟨by omega,this.2⟩),fun x hx i hi=>h.src x hx i (by omega),by have:=h.le;omega⟩
theorem Row8.drewN {w:World} {a:Option Addr} {len cap:Nat} {bs:Nat→Nat} (h:Row8 w a len cap bs) (n:Nat):Row8 (w.drewN n) a len cap bs:=h.below (below_drewN (Below.refl _ _) n)
theorem cn (f g:Nat→Nat) (n:Nat) (h:∀ i,i<n→f i=g i):CB f n=CB g n:=by
 apply List.ext_getElem?
 intro i
 by_cases hi:i<n
 ·rw[az f n i hi,az g n i hi,h i hi]
 ·rw[bg f n i (by omega),bg g n i (by omega)]
theorem rM (f:Nat→Nat) (n k:Nat) (h:k≤n):(CB f n).take k=CB f k:=by
 apply List.ext_getElem?
 intro i
 rw[List.getElem?_take]
 by_cases hi:i<k
 ·rw[if_pos hi,az f n i (by omega),az f k i hi]
 ·rw[if_neg hi,bg f k i (by omega)]
theorem d9 (f:Nat→Nat) (n j x:Nat):(CB f n).set j (.int .u8 (x:Nat))=CB (fun i=>if i=j then x else f i) n:=by
 apply List.ext_getElem?
 intro i
 rw[List.getElem?_set]
 by_cases hj:j=i
 ·subst hj
  by_cases hi:j<n
  ·rw[if_pos rfl,if_pos (by rw[ah];exact hi),az _ n j hi,if_pos rfl]
  ·rw[if_pos rfl,if_neg (by rw[ah];exact hi),bg _ n j (by omega)]
 ·rw[if_neg hj]
  by_cases hi:i<n
  ·rw[az f n i hi,az _ n i hi,if_neg (by omega)]
  ·rw[bg f n i (by omega),bg _ n i (by omega)]
theorem rN (n:Nat):List.replicate n (Value.int .u8 0)=CB (fun _=>0) n:=by
 apply List.ext_getElem?
 intro i
 by_cases hi:i<n
 ·rw[az _ n i hi,List.getElem?_replicate,if_pos hi];rfl
 ·rw[bg _ n i (by omega),List.getElem?_replicate,if_neg hi]
theorem aH {P:Program} (w:World) {ops:Array Oper} {rest:List Oper} {o:Oper} {a:Act} {Q:Exit→Act→World→Prop}
  (hg:o.guard=none) (l c:Operand) (t:TypeId) (hop:o.op=Op.makeSlice t l c)
  (base:Nat) (e:TypeId) (i:TypeInfo) (h1:P.underlying t=some (.slice e)) (h2:P.info? e=some i) (h3:i.zero=some (.int .u8 0)) (h4:i.size=1) (h5:i.bytes=1)
  (kl kc:IntKind) (L C:Int) (n m:Nat) (hl:a.eval l=.int kl L) (hc:a.eval c=.int kc C) (hL:L=(n:Int)) (hC:C=(m:Int)) (hnm:n≤m) (b2:m≤281474976710656) (b4:base≤w.heap.size)
  (hK:∀ w',w'.ownsRow base e 1 (.slice (ac w.heap.size 0) n m) n (CB (fun _=>0) n)→Below base w w'→wpList P ops Q rest (a.put o.dst (.slice (ac w.heap.size 0) n m)) w') :
  wpList P ops Q (o :: rest) a w:=by
 refine wpList_plain hg fun K hK'=>?_
 subst hL
 subst hC
 have hr:=run_make (P:=P) w t e i _ h1 h2 h3 kl kc n m (by omega) (by omega) (by rw[h5];omega) (by omega)
 simp only[Int.toNat_natCast]at hr
 rw[h4,Nat.mul_one]at hr
 have hz:(madeCells (Value.int .u8 0).cells m).toList=CB (fun _=>0) m:=(toList_madeCells_one (.int .u8 0) m).trans (rN m)
 have hml:m≤maxLen:=by unfold maxLen;omega
 have hsz:(madeCells (Value.int .u8 0).cells m).size=m*1:=by rw[size_madeCells];omega
 have hln:(CB (fun _=>0) n).length=n*1:=by rw[ah];omega
 have htk:(madeCells (Value.int .u8 0).cells m).toList.take (n*1)=CB (fun _=>0) n:=by rw[hz,Nat.mul_one,rM _ _ _ hnm]
 have hk:=hK _ ⟨hln,.inr ⟨w.heap.size,m,_,rfl,b4,aB w _,hnm,hml,hsz,htk⟩⟩ ((Below.refl _ _).alloc b4 _)
 unfold Oper.wp
 simp[execOp,hop,hl,hc,hr,Result.andThen]
 exact hK' _ _ hk
theorem jQ {P:Program} {w:World} {ops:Array Oper} {rest:List Oper} {o:Oper} {a:Act} {Q:Exit→Act→World→Prop} (hgd:o.guard=none) (d s:Operand) (dT sT:TypeId)
  (ho:o.op=.call { callee:=.builtin .copy,args:=#[d,s],argTypes:=#[dT,sT] }) (elem:TypeId) (hu:P.underlying dT=some (.slice elem)) (hsz:(P.info? elem).map (·.size)=some 1)
  (base g n cap:Nat) (f:Nat→Nat) (hd:a.eval d=.slice (ac g 0) n cap) (hown:w.ownsRow base elem 1 (.slice (ac g 0) n cap) n (CB f n))
  (ao:Option Addr) (m c:Nat) (bs:Nat→Nat) (hs:a.eval s=.slice ao m c) (hrow:Row8 w ao m c bs)
  (w0:World) (hb:Below base w0 w)
  (h:∀ w',w'.ownsRow base elem 1 (.slice (ac g 0) n cap) n (CB (fun i=>if i<m then bs i else f i) n)→Below base w0 w'→wpList P ops Q rest (a.put o.dst (goInt (min m n:Nat))) w') :
  wpList P ops Q (o :: rest) a w:=by
 rcases hown.2 with ⟨h',_⟩ | ⟨g',cap',cur,h',hbg,hg,hnc,hcm,hcs,a4⟩
 ·simp at h'
 ·simp only[Value.slice.injEq,Option.some.injEq,Addr.mk.injEq,and_true,true_and]at h'
  obtain⟨rfl,rfl⟩:=h'
  have hmin:Nat.min m n=min m n:=rfl
  refine wpList_copy_splice hgd d s dT sT ho elem hu hsz _ ao n cap m c hd hs g 0 cur.toList elem (by simpa using hg) (CB bs (min m n)) (by rw[ah,hmin]) ?_ (by rw[ah,Array.length_toList,hcs];omega) (gu _ _) base w0 hb hbg ?_
  ·intro hpos
   refine⟨rfl,?_⟩
   rw[ah]at hpos
   cases ao with
   | none=>have:=(hrow.nil rfl).1;omega
   | some ad=>
    refine⟨ad,rfl,fun j v hj=>?_⟩
    by_cases hlt:j<min m n
    ·rw[az _ _ _ hlt]at hj
     cases hj
     exact hrow.src ad rfl j (by omega)
    ·rw[bg _ _ _ (by omega)]at hj;cases hj
  ·intro w' hg' hb'
   rw[ah]
   refine h w' ⟨by rw[ah];omega,.inr ⟨g,cap,_,rfl,hbg,hg'.out,hnc,hcm,?_,?_⟩⟩ hb'
   ·rw[List.size_toArray,length_splice _ _ _ (by rw[ah,Array.length_toList,hcs];omega),Array.length_toList,hcs]
   ·rw[Nat.mul_one]at a4 ⊢
    simp only[splice,List.take_zero,List.nil_append,Nat.zero_add,ah]
    apply List.ext_getElem?
    intro i
    rw[List.getElem?_take]
    by_cases hi:i<n
    ·rw[if_pos hi,az _ n i hi]
     by_cases him:i<m
     ·rw[if_pos him,List.getElem?_append_left (by rw[ah];omega),az _ _ _ (by omega)]
     ·rw[if_neg him,List.getElem?_append_right (by rw[ah];omega),ah,List.getElem?_drop,show min m n + (i-min m n)=i by omega]
      have:=congrArg (·[i]?) a4
      simp only[List.getElem?_take,if_pos hi,az f n i hi]at this
      exact this
    ·rw[if_neg hi,bg _ n i (by omega)]
structure Vs where
 run:Bool
 held:Bool
 fr:Bool
 lat:Int
 sm:Bool
 bs:Nat→Nat
def ly:Vs:=⟨false,false,false,0,false,fun _=>0⟩
def dH (s:Vs) (x:Int):Vs:=if x=0 then s else { s with fr:=false,sm:=false,lat:=if s.lat=0 then x else s.lat }
def cC (s:Vs) (o:Bool):Vs:=if s.run=o then s else { s with run:=o,held:=false,sm:=false }
def cF (s:Vs) (o:Bool):Vs:={ s with held:=o && s.run }
def bJ (s:Vs):Vs:={ s with fr:=s.lat != 0 }
def bP (s:Vs) (bs:Nat→Nat):Vs:=if s.run=true∧s.lat=0 then { s with sm:=true,bs:=bs } else s
def bK (s:Vs):Bool:=s.run && (s.lat != 0 && s.fr)
def aL (s:Vs):Bool:=s.run && (!s.held && s.sm)
def dy (s:Vs):Nat→Nat:=if aL s=true then s.bs else fun _=>0
theorem Row8.off {l:List Nat} {w w':World} {a:Option Addr} {len cap:Nat} {bs:Nat→Nat} (h:Row8 w a len cap bs) (q:Off l w w') (hl:∀ x,a=some x→x.block ∉ l):Row8 w' a len cap bs:=by
 refine⟨h.byte,h.nil,fun x hx i hi=>?_,h.le⟩
 have h1:=h.src x hx i hi
 have hlt:=World.block_lt_of_cell? w _ h1
 have hb:(x.add i).block=x.block:=by unfold Addr.add;split <;> rfl
 have he:w'.heap[(x.add i).block]?=w.heap[(x.add i).block]?:=q.block _ hlt (by rw[hb];exact hl x hx)
 rw[← h1]
 unfold World.cell?
 rw[he]
def VC (n:Nat) (s:Vs) (g:Nat) (v:Value):Array Value:=#[.int .i64 (n:Nat),.bool s.run,.bool s.held,aa g 0,.bool s.fr,v]
def VV (w:World) (M:List Nat) (n:Nat) (s:Vs) (v:Value):Prop:=(s.sm=false∧v=.slice none 0 0)∨(s.sm=true∧(w.ownsRow 0 5 1 v n (CB s.bs n)∧∀ k,v.ownBlock=some k→k ∈ M)∧∀ i,i<n→s.bs i<256)
theorem an {l:List Nat} {w w':World} {B e size n:Nat} {v:Value} {xs:List Value} (h:w.ownsRow B e size v n xs) (q:Off l w w') (hl:∀ k,v.ownBlock=some k→k ∉ l):w'.ownsRow B e size v n xs:=by
 refine⟨h.1,?_⟩
 rcases h.2 with hn | ⟨g,cap,cur,rfl,hg,hgg,rest⟩
 ·exact .inl hn
 ·exact .inr ⟨g,cap,cur,rfl,hg,by rw[q.block g (Array.getElem?_eq_some_iff.1 hgg).1 (hl g rfl)];exact hgg,rest⟩
theorem VV.off {l:List Nat} {w w':World} {M:List Nat} {n:Nat} {s:Vs} {v:Value} (h:VV w M n s v) (q:Off l w w') (hl:∀ k,k ∈ l→k ∉ M):VV w' M n s v:=by
 rcases h with h | ⟨h1,h2,h3⟩
 ·exact .inl h
 ·exact .inr ⟨h1,⟨an h2.1 q (fun k hk hm=>hl k hm (h2.2 k hk)),h2.2⟩,h3⟩
structure VR (w:World) (b g:Nat) (M:List Nat) (n:Nat) (s:Vs):Prop where
 ex:∃ v t,w.heap[b]?=some (.cells (VC n s g v) 186 (0,0))∧GR w g 0 (if s.lat=0 then 0 else 1) 0 s.lat t∧VV w M n s v
 bM:b ∉ M
 gM:g ∉ M
 ne:g≠b
 n1:1≤n
 n8:n≤8
section
variable {w w':World} {b g:Nat} {M:List Nat} {n:Nat} {s:Vs}
theorem VR.lt (h:VR w b g M n s):b<w.heap.size:=by
 obtain⟨v,t,h1,_⟩:=h.ex
 exact (Array.getElem?_eq_some_iff.1 h1).1
theorem VR.off {l:List Nat} (h:VR w b g M n s) (q:Off l w w') (hb:b ∉ l) (hg:g ∉ l) (hl:∀ k,k ∈ l→k ∉ M):VR w' b g M n s:=by
 obtain⟨v,t,h1,h2,h3⟩:=h.ex
 exact⟨⟨v,t,(q.block b h.lt hb).trans h1,h2.off q hg,h3.off q hl⟩,h.bM,h.gM,h.ne,h.n1,h.n8⟩
theorem VR.cells (h:VR w b g M n s):∃ v t,w.cell? ⟨b,0,none⟩=some (.int .i64 (n:Nat))∧w.cell? ⟨b,1,none⟩=some (.bool s.run)∧w.cell? ⟨b,2,none⟩=some (.bool s.held)∧w.cell? ⟨b,3,none⟩=some (aa g 0) ∧
  w.cell? ⟨b,4,none⟩=some (.bool s.fr)∧w.cell? ⟨b,5,none⟩=some v∧(∀ j,w.frozen? ⟨b,j,none⟩=false)∧GR w g 0 (if s.lat=0 then 0 else 1) 0 s.lat t∧VV w M n s v∧w.heap[b]?=some (.cells (VC n s g v) 186 (0,0)):=by
 obtain⟨v,t,e,h2,h3⟩:=h.ex
 exact⟨v,t,ab w b 0 _ _ _ e,ab w b 1 _ _ _ e,ab w b 2 _ _ _ e,ab w b 3 _ _ _ e,ab w b 4 _ _ _ e,ab w b 5 _ _ _ e,fun j=>frozen_of_row w b j _ _ e,h2,h3,e⟩
end
theorem er (b g:Nat) (M:List Nat) (n:Nat) (s:Vs) (w:World) (h:VR w b g M n s) :
  Calls prog 88 #[aa b 0] w fun e w'=>e=.returned (.bool (s.lat != 0))∧w'=w:=by
 obtain⟨v,t,c0,c1,c2,c3,c4,c5,fz,G,V,hb⟩:=h.cells
 have H:Hid (_):=G
 clear G V hb h
 by_cases hl:s.lat=0
 ·rw[hl]
  go_enter func88,ntmps88
  go_wp2_with fail
  refine (fJ g _ _ t w H.out).mono ?_
  rintro e w2 ⟨rfl,rfl⟩
  rw[hl]
  go_wp2_with fail
  go_ret
  exact⟨rfl,rfl⟩
 ·have hl':(s.lat != 0)=true:=by simpa using hl
  rw[hl']
  go_enter func88,ntmps88
  go_wp2_with fail
  refine (fJ g _ _ t w H.out).mono ?_
  rintro e w2 ⟨rfl,rfl⟩
  go_wp2_with fail
  go_ret
  exact⟨rfl,rfl⟩
theorem fC (b g:Nat) (M:List Nat) (n:Nat) (s:Vs) (w:World) (h:VR w b g M n s) :
  Calls prog 45 #[aa b 0] w fun e w'=>e=.returned (.int .i64 s.lat)∧w'=w:=by
 obtain⟨v,t,c0,c1,c2,c3,c4,c5,fz,G,V,hb⟩:=h.cells
 have H:Hid (_):=G
 clear G V hb h
 go_enter func45,ntmps45
 go_wp2_with fail
 refine (fJ g _ _ t w H.out).mono ?_
 rintro e w2 ⟨rfl,rfl⟩
 go_wp2_with fail
 go_ret
 exact⟨rfl,rfl⟩
theorem fE (b g:Nat) (M:List Nat) (n:Nat) (s:Vs) (w:World) (h:VR w b g M n s) :
  Calls prog 46 #[aa b 0] w fun e w'=>e=.returned (.bool (bK s))∧w'=w:=by
 obtain⟨v,t,c0,c1,c2,c3,c4,c5,fz,G,V,hb⟩:=h.cells
 have hl:=er b g M n s w h
 clear G V hb h
 unfold bK
 cases hr:s.run
 ·rw[hr]at c1
  go_enter func46,ntmps46
  go_wp2_with fail
  go_ret
  exact⟨rfl,rfl⟩
 ·rw[hr]at c1
  generalize (s.lat != 0)=q at hl ⊢
  cases q
  ·go_enter func46,ntmps46
   go_wp2_with (go_at_call 88;refine hl.mono ?_;rintro e w' ⟨rfl,rfl⟩)
   go_ret
   exact⟨rfl,rfl⟩
  ·go_enter func46,ntmps46
   go_wp2_with (go_at_call 88;refine hl.mono ?_;rintro e w' ⟨rfl,rfl⟩)
   go_ret
   exact⟨rfl,rfl⟩
theorem ry (b n:Nat) (r hd:Bool) (x:Value) (w:World) (c0:w.cell? ⟨b,0,none⟩=some (.int .i64 (n:Nat))) (c1:w.cell? ⟨b,1,none⟩=some (.bool r)) (c2:w.cell? ⟨b,2,none⟩=some (.bool hd)) (c5:w.cell? ⟨b,5,none⟩=some x) (h8:n≤8)
  (hx:r=false∨hd=true∨x=.slice none 0 0) :
  Calls prog 43 #[aa b 0] w fun e w'=>∃ v,e=.returned (.tuple #[v,.bool false])∧Hid (w'.ownsRow w.heap.size 5 1 v n (CB (fun _=>0) n)∧Below w.heap.size w w'):=by
 obtain⟨i0,hi,hz0,hz1,hz2⟩:=info_parts aS
 cases r
 ·go_enter func43,ntmps43
  go_wp2_with (at_make;refine aH _ rfl (.tmp 27) (.tmp 27) 43 rfl w.heap.size 5 i0 underlying43 hi hz0 hz1 hz2 _ _ _ _ n n rfl rfl rfl rfl (Nat.le_refl _) (by omega) (Nat.le_refl _) ?_)
  intro w1 hown1 hbel1
  have H:Hid (_):=And.intro hown1 hbel1
  clear hown1 hbel1
  go_wp2_with fail
  go_ret2
  exact⟨_,rfl,H⟩
 ·cases hd
  ·have e:x=.slice none 0 0:=by rcases hx with h | h | h <;> simp_all
   subst e
   have he:∀ w:World,(binOp .eql 43 (.slice none 0 0) (.slice none 0 0)).run prog w=.ok (.bool true) w:=fun _=>by kernel_rfl
   go_enter func43,ntmps43
   go_wp2_with (at_make;refine aH _ rfl (.tmp 27) (.tmp 27) 43 rfl w.heap.size 5 i0 underlying43 hi hz0 hz1 hz2 _ _ _ _ n n rfl rfl rfl rfl (Nat.le_refl _) (by omega) (Nat.le_refl _) ?_)
   intro w1 hown1 hbel1
   have H:Hid (_):=And.intro hown1 hbel1
   clear hown1 hbel1
   go_wp2_with fail
   go_ret2
   exact⟨_,rfl,H⟩
  ·go_enter func43,ntmps43
   go_wp2_with (at_make;refine aH _ rfl (.tmp 27) (.tmp 27) 43 rfl w.heap.size 5 i0 underlying43 hi hz0 hz1 hz2 _ _ _ _ n n rfl rfl rfl rfl (Nat.le_refl _) (by omega) (Nat.le_refl _) ?_)
   intro w1 hown1 hbel1
   have H:Hid (_):=And.intro hown1 hbel1
   clear hown1 hbel1
   go_wp2_with fail
   go_ret2
   exact⟨_,rfl,H⟩
theorem tj (b n:Nat) (ad:Addr) (cap:Nat) (bs:Nat→Nat) (w:World) (c1:w.cell? ⟨b,1,none⟩=some (.bool true)) (c2:w.cell? ⟨b,2,none⟩=some (.bool false)) (c5:w.cell? ⟨b,5,none⟩=some (.slice (some ad) n cap)) (h8:n≤8)
  (R:Row8 w (some ad) n cap bs) :
  Calls prog 43 #[aa b 0] w fun e w'=>∃ v,e=.returned (.tuple #[v,.bool true])∧Hid (w'.ownsRow w.heap.size 5 1 v n (CB bs n)∧Below w.heap.size w w'):=by
 obtain⟨i0,hi,hz0,hz1,hz2⟩:=info_parts aS
 have O0:=World.ownsRow_nil w w.heap.size 5 1
 have he:∀ w:World,(binOp .eql 43 (.slice (some ad) n cap) (.slice none 0 0)).run prog w=.ok (.bool false) w:=fun _=>by kernel_rfl
 go_enter func43,ntmps43
 go_wp2_with (at_builtin;refine ae rfl (.const (.slice none 0 0)) (.tmp 32) 43 rfl w.heap.size 5 i0 (.int .u8 0) underlying43 hi hz0 hz1 hz2 rfl _ 0 _ rfl O0 (some ad) n cap bs rfl R (by unfold maxLen;omega) (by omega) (Nat.le_refl _) ?_)
 intro v2 w2 hown2 hgrow2
 have hbel2:Below w.heap.size w w2:=(Below.refl _ _).grown hgrow2 (Nat.le_refl _) (fun j hj=>by cases hj)
 have H:Hid (_):=And.intro hown2 hbel2
 clear hown2 hbel2 hgrow2 O0 R
 go_wp2_with fail
 go_ret2
 exact⟨_,rfl,H⟩
theorem fD (b g:Nat) (M:List Nat) (n:Nat) (s:Vs) (w:World) (h:VR w b g M n s) :
  Calls prog 43 #[aa b 0] w fun e w'=>∃ v,e=.returned (.tuple #[v,.bool (aL s)])∧Hid (w'.ownsRow w.heap.size 5 1 v n (CB (dy s) n)∧Below w.heap.size w w'):=by
 obtain⟨v,t,c0,c1,c2,c3,c4,c5,fz,G,V,hb⟩:=h.cells
 by_cases ho:aL s=true
 ·unfold dy
  rw[if_pos ho,ho]
  simp only[aL,Bool.and_eq_true,Bool.not_eq_true']at ho
  obtain⟨o1,o2,o3⟩:=ho
  rcases V with ⟨e,_⟩ | ⟨_,⟨V,_⟩,hby⟩
  ·rw[o3]at e;cases e
  obtain⟨a,cap,rfl,R⟩:=aO V hby
  have n1:=h.n1
  obtain⟨hb',off',rfl,_⟩:=R.plain (by omega)
  exact tj b n _ cap s.bs w (o1 ▸ c1) (o2 ▸ c2) c5 h.n8 R
 ·have ho':aL s=false:=by simpa using ho
  unfold dy
  rw[if_neg ho,ho']
  refine ry b n s.run s.held v w c0 c1 c2 c5 h.n8 ?_
  rcases V with ⟨_,rfl⟩ | ⟨e,_⟩
  ·exact .inr (.inr rfl)
  ·unfold aL at ho'
   rw[e]at ho'
   cases hr:s.run
   ·exact .inl rfl
   ·rw[hr]at ho'
    cases hh:s.held
    ·rw[hh]at ho';cases ho'
    ·exact .inr (.inl rfl)
end Go.Proofs.YtdpahjfekoikiaaGreat
namespace Go.Proofs.YtdpahjfekoikiaaGreat
open Tryz
open Go.RowKit
section
variable {w w':World} {b g:Nat} {M:List Nat} {n:Nat} {s:Vs}
theorem VR.upd (h:VR w b g M n s) (s':Vs) (q:Off [b] w w') (hl:s'.lat=s.lat) (hc:∀ v,w.heap[b]?=some (.cells (VC n s g v) 186 (0,0))→VV w M n s v→∃ v',w'.heap[b]?=some (.cells (VC n s' g v') 186 (0,0))∧VV w' M n s' v'):VR w' b g M n s':=by
 obtain⟨v,t,e,G,V⟩:=h.ex
 obtain⟨v',e',V'⟩:=hc v e V
 exact⟨⟨v',t,e',by rw[hl];exact G.off q (by simpa using h.ne),V'⟩,h.bM,h.gM,h.ne,h.n1,h.n8⟩
end
theorem eA (b g:Nat) (M:List Nat) (n:Nat) (s:Vs) (o:Bool) (w:World) (h:VR w b g M n s) :
  Calls prog 81 #[aa b 0,.bool o] w fun e w'=>e=.returned (.tuple #[])∧Hid (Off [b,g] w w'∧VR w' b g M n (cC s o)):=by
 obtain⟨v,t,c0,c1,c2,c3,c4,c5,fz,G,V,hb⟩:=h.cells
 have z1:=fz 1
 have z2:=fz 2
 have z5:=fz 5
 unfold cC
 by_cases hr:s.run=o
 ·rw[if_pos hr]
  have H:Hid (_):=h
  rw[hr]at c1
  clear h G V hb
  cases o
  ·go_enter func81,ntmps81
   go_wp2_with fail
   refine bodyPost_ret (results_none rfl _ _ _) rfl ?_
   exact⟨rfl,Off.refl _ _,H.out⟩
  ·go_enter func81,ntmps81
   go_wp2_with fail
   refine bodyPost_ret (results_none rfl _ _ _) rfl ?_
   exact⟨rfl,Off.refl _ _,H.out⟩
 ·rw[if_neg hr]
  have o1:=Off.setCell b 1 w (.bool o)
  have o2:=o1.trans (Off.setCell b 2 _ (.bool false))
  have o3:=o2.trans (Off.setCell b 5 _ (.slice none 0 0))
  have F:Hid (Off [b,g] w (((w.setCell ⟨b,1,none⟩ (.bool o)).setCell ⟨b,2,none⟩ (.bool false)).setCell ⟨b,5,none⟩ (.slice none 0 0))∧VR (((w.setCell ⟨b,1,none⟩ (.bool o)).setCell ⟨b,2,none⟩ (.bool false)).setCell ⟨b,5,none⟩ (.slice none 0 0)) b g M n { s with run:=o,held:=false,sm:=false }):=
   ⟨o3.more (by simp),h.upd _ o3 rfl fun v e _=>⟨.slice none 0 0,heap_setCell_same _ _ _ _ _ _ (heap_setCell_same _ _ _ _ _ _ (heap_setCell_same _ _ _ _ _ _ e)),.inl ⟨rfl,rfl⟩⟩⟩
  clear h G V hb o1 o2 o3
  have hr':s.run = !o:=by cases o <;> cases hq:s.run <;> simp_all
  rw[hr']at c1
  clear hr
  cases o
  ·go_enter func81,ntmps81
   go_wp2_with fail
   go_end0
   exact⟨rfl,F⟩
  ·go_enter func81,ntmps81
   go_wp2_with fail
   go_end0
   exact⟨rfl,F⟩
theorem jg (b g:Nat) (M:List Nat) (n:Nat) (s:Vs) (o:Bool) (w:World) (h:VR w b g M n s) :
  Calls prog 83 #[aa b 0,.bool o] w fun e w'=>e=.returned (.tuple #[])∧Hid (Off [b,g] w w'∧VR w' b g M n (cF s o)):=by
 obtain⟨v,t,c0,c1,c2,c3,c4,c5,fz,G,V,hb⟩:=h.cells
 have z2:=fz 2
 unfold cF
 have o1:=Off.setCell b 2 w (.bool (o && s.run))
 have F:Hid (Off [b,g] w (w.setCell ⟨b,2,none⟩ (.bool (o && s.run)))∧VR (w.setCell ⟨b,2,none⟩ (.bool (o && s.run))) b g M n { s with held:=o && s.run }):=
  ⟨o1.more (by simp),h.upd _ o1 rfl fun v e V=>⟨v,heap_setCell_same _ _ _ _ _ _ e,VV.off (s:={ s with held:=o && s.run }) V o1 (by simpa using h.bM)⟩⟩
 clear h G V hb o1
 cases o
 ·go_enter func83,ntmps83
  go_wp2_with fail
  go_end0
  exact⟨rfl,F⟩
 ·go_enter func83,ntmps83
  go_wp2_with fail
  go_end0
  exact⟨rfl,F⟩
theorem ip (b g:Nat) (M:List Nat) (n:Nat) (s:Vs) (w:World) (h:VR w b g M n s) :
  Calls prog 125 #[aa b 0] w fun e w'=>e=.returned (.tuple #[])∧Hid (Off [b,g] w w'∧VR w' b g M n (bJ s)):=by
 obtain⟨v,t,c0,c1,c2,c3,c4,c5,fz,G,V,hb⟩:=h.cells
 have z4:=fz 4
 have hl:=er b g M n s w h
 unfold bJ
 generalize (s.lat != 0)=q at hl ⊢
 have o1:=Off.setCell b 4 w (.bool q)
 have F:Hid (Off [b,g] w (w.setCell ⟨b,4,none⟩ (.bool q))∧VR (w.setCell ⟨b,4,none⟩ (.bool q)) b g M n { s with fr:=q }):=
  ⟨o1.more (by simp),h.upd _ o1 rfl fun v e V=>⟨v,heap_setCell_same _ _ _ _ _ _ e,VV.off (s:={ s with fr:=q }) V o1 (by simpa using h.bM)⟩⟩
 clear h G V hb o1
 go_enter func125,ntmps125
 go_wp2_with (go_at_call 88;refine hl.mono ?_;rintro e w' ⟨rfl,rfl⟩)
 go_end0
 exact⟨rfl,F⟩
def eB (s:Vs) (x:Int):Bool:=decide (¬ x=0∧s.lat=0)
theorem rC (b:Nat) (w:World) :
  Calls prog 105 #[aa b 0,.int .i64 0] w fun e w'=>e=.returned (.bool false)∧w'=w:=by
 go_enter func105,ntmps105
 go_wp2_with fail
 go_ret
 exact⟨rfl,rfl⟩
theorem mK (b g:Nat) (x:Int) (hx:¬ x=0) (q:Bool) (w:World) (P:World→Prop) (v y:Value) (c3:w.cell? ⟨b,3,none⟩=some (aa g 0)) (c4:w.cell? ⟨b,4,none⟩=some y) (c5:w.cell? ⟨b,5,none⟩=some v) (z4:w.frozen? ⟨b,4,none⟩=false) (z5:w.frozen? ⟨b,5,none⟩=false)
  (hg:Calls prog 142 #[aa g 0,.int .i64 x] ((w.setCell ⟨b,5,none⟩ (.slice none 0 0)).setCell ⟨b,4,none⟩ (.bool false)) fun e w'=>e=.returned (.bool q)∧P w') :
  Calls prog 105 #[aa b 0,.int .i64 x] w fun e w'=>e=.returned (.bool q)∧P w':=by
 go_enter func105,ntmps105
 go_wp2_with fail
 refine hg.mono ?_
 rintro e w2 ⟨rfl,p⟩
 have H:Hid (_):=p
 clear p hg
 go_wp2_with fail
 go_ret
 exact⟨rfl,H.out⟩
theorem eQ (b g:Nat) (M:List Nat) (n:Nat) (s:Vs) (x:Int) (w:World) (h:VR w b g M n s) :
  Calls prog 105 #[aa b 0,.int .i64 x] w fun e w'=>e=.returned (.bool (eB s x))∧Hid (Off [b,g] w w'∧VR w' b g M n (dH s x)):=by
 unfold eB dH
 by_cases hx:x=0
 ·rw[if_pos hx,decide_eq_false (fun k=>k.1 hx)]
  subst hx
  exact (rC b w).mono (fun _ _ ⟨he,hw⟩=>⟨he,by subst hw;exact⟨Off.refl _ _,h⟩⟩)
 ·rw[if_neg hx]
  obtain⟨v,t,c0,c1,c2,c3,c4,c5,fz,G,V,hb⟩:=h.cells
  have o1:=Off.setCell b 5 w (.slice none 0 0)
  have o2:=o1.trans (Off.setCell b 4 _ (.bool false))
  have e2:((w.setCell ⟨b,5,none⟩ (.slice none 0 0)).setCell ⟨b,4,none⟩ (.bool false)).heap[b]?=some (.cells (VC n { s with fr:=false,sm:=false } g (.slice none 0 0)) 186 (0,0)):=heap_setCell_same _ _ _ _ _ _ (heap_setCell_same _ _ _ _ _ _ hb)
  have G2:=G.off o2 (by simpa using h.ne)
  have s2:=Nat.lt_of_lt_of_le h.lt o2.size
  refine mK b g x hx (decide (¬ x=0∧s.lat=0)) w (fun w'=>Hid (Off [b,g] w w'∧VR w' b g M n { s with fr:=false,sm:=false,lat:=if s.lat=0 then x else s.lat })) v _ c3 c4 c5 (fz 4) (fz 5) ?_
  generalize (w.setCell ⟨b,5,none⟩ (.slice none 0 0)).setCell ⟨b,4,none⟩ (.bool false)=w2 at *
  by_cases hl:s.lat=0
  ·rw[decide_eq_true ⟨hx,hl⟩,if_pos hl]
   rw[if_pos hl,hl]at G2
   refine (mH g x t hx w2 G2).mono ?_
   rintro e w3 ⟨rfl,o3,G3⟩
   refine⟨rfl,(o2.more (by simp)).trans (o3.more (by simp)),⟨⟨_,wrap64 (t+1),(o3.block b s2 (by simpa using Ne.symm h.ne)).trans e2,?_,.inl ⟨rfl,rfl⟩⟩,h.bM,h.gM,h.ne,h.n1,h.n8⟩⟩
   show GR w3 g 0 (if x=0 then 0 else 1) 0 x _
   rw[if_neg hx]
   exact G3
  ·rw[decide_eq_false (fun k=>hl k.2),if_neg hl]
   rw[if_neg hl]at G2
   refine (mG g x s.lat t hx w2 G2).mono ?_
   rintro e w3 ⟨rfl,o3,G3⟩
   refine⟨rfl,(o2.more (by simp)).trans (o3.more (by simp)),⟨⟨_,wrap64 (t+1),(o3.block b s2 (by simpa using Ne.symm h.ne)).trans e2,?_,.inl ⟨rfl,rfl⟩⟩,h.bM,h.gM,h.ne,h.n1,h.n8⟩⟩
   show GR w3 g 0 (if s.lat=0 then 0 else 1) 0 s.lat _
   rw[if_neg hl]
   exact G3
def rA (n len:Nat):Int:=if len=n then 0 else 45
theorem pd (b n:Nat) (a:Option Addr) (len cap:Nat) (w:World) (c0:w.cell? ⟨b,0,none⟩=some (.int .i64 (n:Nat))) (hn:¬ len=n) :
  Calls prog 84 #[aa b 0,.slice a len cap] w fun e w'=>e=.returned (.int .i64 45)∧w'=w:=by
 have hI:¬ (len:Int)=(n:Int):=by omega
 go_enter func84,ntmps84
 go_wp2_with fail
 go_ret
 exact⟨rfl,rfl⟩
theorem rB (b n:Nat) (r q:Bool) (a:Option Addr) (cap:Nat) (w:World) (c0:w.cell? ⟨b,0,none⟩=some (.int .i64 (n:Nat))) (c1:w.cell? ⟨b,1,none⟩=some (.bool r))
  (hl:Calls prog 88 #[aa b 0] w fun e w'=>e=.returned (.bool q)∧w'=w) (hx:r=false∨q=true) :
  Calls prog 84 #[aa b 0,.slice a n cap] w fun e w'=>e=.returned (.int .i64 0)∧w'=w:=by
 cases r
 ·go_enter func84,ntmps84
  go_wp2_with fail
  go_ret
  exact⟨rfl,rfl⟩
 ·have e:q=true:=by rcases hx with h | h <;> simp_all
  subst e
  go_enter func84,ntmps84
  go_wp2_with (go_at_call 88;refine hl.mono ?_;rintro e w' ⟨rfl,rfl⟩)
  go_ret
  exact⟨rfl,rfl⟩
theorem ph (b n:Nat) (v:Value) (a:Option Addr) (cap:Nat) (bs:Nat→Nat) (w:World) (R:Row8 w a n cap bs) (h8:n≤8) (c0:w.cell? ⟨b,0,none⟩=some (.int .i64 (n:Nat))) (c1:w.cell? ⟨b,1,none⟩=some (.bool true)) (c5:w.cell? ⟨b,5,none⟩=some v) (z5:w.frozen? ⟨b,5,none⟩=false) (hlt:b<w.heap.size)
  (hl:Calls prog 88 #[aa b 0] w fun e w'=>e=.returned (.bool false)∧w'=w) :
  Calls prog 84 #[aa b 0,.slice a n cap] w fun e w'=>e=.returned (.int .i64 0)∧Hid (∃ u w2,w2.ownsRow w.heap.size 5 1 u n (CB bs n)∧Below w.heap.size w w2∧w'=w2.setCell ⟨b,5,none⟩ u):=by
 obtain⟨i0,hi,hz0,hz1,hz2⟩:=info_parts aS
 have O0:=World.ownsRow_nil w w.heap.size 5 1
 go_enter func84,ntmps84
 go_wp2_with (first | (go_at_call 88;refine hl.mono ?_;rintro e w' ⟨rfl,hw⟩;have hw:=hw.symm;subst hw) | (at_builtin;refine ae rfl (.const (.slice none 0 0)) (.tmp 24) 43 rfl w.heap.size 5 i0 (.int .u8 0) underlying43 hi hz0 hz1 hz2 rfl _ 0 _ rfl O0 a n cap bs rfl R (by unfold maxLen;omega) (by omega) (Nat.le_refl _) ?_))
 intro v2 w2 hown2 hgrow2
 have hbel2:Below w.heap.size w w2:=(Below.refl _ _).grown hgrow2 (Nat.le_refl _) (fun j hj=>by cases hj)
 have d5:w2.cell? ⟨b,5,none⟩=some v:=(hbel2.cell hlt).trans c5
 have y5:w2.frozen? ⟨b,5,none⟩=false:=(hbel2.frozen hlt).trans z5
 obtain⟨a2,k2,rfl,_⟩:=aO hown2 R.byte
 have H:Hid (∃ w2' ,w2'.ownsRow w.heap.size 5 1 (.slice a2 n k2) n (CB bs n)∧Below w.heap.size w w2'∧w2=w2'):=⟨w2,hown2,hbel2,rfl⟩
 clear hown2 hbel2 hgrow2 O0 R c0 c1 c5 z5 hl
 go_wp2_with fail
 go_ret
 obtain⟨_,h1,h2,rfl⟩:=H.out
 exact⟨rfl,_,_,h1,h2,rfl⟩
theorem jh (b g:Nat) (M:List Nat) (n:Nat) (s:Vs) (a:Option Addr) (len cap:Nat) (bs:Nat→Nat) (w:World) (h:VR w b g M n s) (R:Row8 w a len cap bs) :
  Calls prog 84 #[aa b 0,.slice a len cap] w fun e w'=>e=.returned (.int .i64 (rA n len))∧Hid (∃ M',Off [b,g] w w'∧VR w' b g M' n (if len=n then bP s bs else s)∧∀ k,k ∈ M'→k ∈ M∨w.heap.size≤k∧k<w'.heap.size):=by
 obtain⟨v,t,c0,c1,c2,c3,c4,c5,fz,G,V,hb⟩:=h.cells
 have hl:=er b g M n s w h
 unfold rA
 by_cases hn:len=n
 ·subst hn
  rw[if_pos rfl,if_pos rfl]
  unfold bP
  by_cases hs:s.run=true∧s.lat=0
  ·rw[if_pos hs]
   rw[show (s.lat != 0)=false by simpa using hs.2]at hl
   refine (ph b len v a cap bs w R h.n8 c0 (hs.1 ▸ c1) c5 (fz 5) h.lt hl).mono ?_
   rintro e w3 ⟨rfl,H⟩
   obtain⟨u,w2,h1,h2,rfl⟩:=H.out
   have o2:Off [b] w w2:=Off.of_below h2
   have o3:=Off.setCell b 5 w2 u
   have hob:∀ k,u.ownBlock=some k→w.heap.size≤k∧k<w2.heap.size:=by
    intro k hk
    rcases h1.2 with hn | ⟨g',cap',cur',rfl,hg',hh,_⟩
    ·rw[hn.1]at hk;cases hk
    ·cases hk;exact⟨hg',(Array.getElem?_eq_some_iff.1 hh).1⟩
   have hbk:∀ k,u.ownBlock=some k→k ∉ [b]:=fun k hk hm=>by have:=hob k hk;have:=h.lt;simp at hm;omega
   cases hu:u.ownBlock with
   | none=>
    refine⟨rfl,M,(o2.more (by simp)).trans (o3.more (by simp)),h.upd _ (o2.trans o3) rfl fun v' e' _=>⟨u,heap_setCell_same _ _ _ _ _ _ ((h2.block b h.lt).trans e'),.inr ⟨rfl,⟨an (ak h1 (Nat.zero_le _)) o3 hbk,?_⟩,R.byte⟩⟩,fun k hk=>.inl hk⟩
    intro k hk
    rw[hu]at hk;cases hk
   | some k0=>
    have hk0:=hob k0 hu
    obtain⟨v1,t1,x1,x2,_⟩:=h.ex
    have hb1:=h.lt
    have hg1:=x2.lt
    refine⟨rfl,[k0],(o2.more (by simp)).trans (o3.more (by simp)),⟨⟨u,t1,heap_setCell_same _ _ _ _ _ _ ((h2.block b h.lt).trans x1),x2.off (o2.trans o3) (by simpa using h.ne),.inr ⟨rfl,⟨an (ak h1 (Nat.zero_le _)) o3 hbk,?_⟩,R.byte⟩⟩,?_,?_,h.ne,h.n1,h.n8⟩,?_⟩
    ·intro k hk
     rw[hu]at hk;cases hk;simp
    ·simp;omega
    ·simp;omega
    ·intro k hk
     simp at hk;subst hk;exact .inr ⟨hk0.1,Nat.lt_of_lt_of_le hk0.2 o3.size⟩
  ·rw[if_neg hs]
   refine (rB b len s.run _ a cap w c0 c1 hl ?_).mono (fun _ _ ⟨he,hw⟩=>⟨he,by subst hw;exact⟨M,Off.refl _ _,h,fun _ hk=>.inl hk⟩⟩)
   cases hr:s.run
   ·exact .inl rfl
   ·exact .inr (by simpa using fun k=>hs ⟨hr,k⟩)
 ·rw[if_neg hn,if_neg hn]
  exact (pd b n a len cap w c0 hn).mono (fun _ _ ⟨he,hw⟩=>⟨he,by subst hw;exact⟨M,Off.refl _ _,h,fun _ hk=>.inl hk⟩⟩)
theorem nA (n:Nat) (w:World) (h1:1≤n) (h8:n≤8) :
  Calls prog 61 #[.int .i64 (n:Nat)] w fun e w'=>∃ b g,e=.returned (.tuple #[aa b 0,.int .i64 0])∧Hid (w.heap.size≤b∧w.heap.size≤g∧b<w'.heap.size∧g<w'.heap.size∧Off [] w w'∧VR w' b g [] n ly):=by
 go_enter func61,ntmps61
 go_wp2_with fail
 refine (pV w).mono ?_
 rintro e w2 ⟨rfl,o2,G2⟩
 have K:Hid (_):=And.intro o2 G2
 clear o2 G2
 go_wp2_with fail
 go_ret2
 obtain⟨o2,G2⟩:=K.out
 have hg:=G2.lt
 have oa:=Off.alloc [] w2 (.cells (VC n ly w.heap.size (.slice none 0 0)) 186)
 refine⟨w2.heap.size,w.heap.size,rfl,o2.size,Nat.le_refl _,by rw[World.size_alloc];omega,by rw[World.size_alloc];omega,o2.trans (Off.alloc _ _ _),⟨⟨_,0,aB w2 _,G2.off (Off.alloc [] _ _) (by simp),.inl ⟨rfl,rfl⟩⟩,by simp,by simp,by omega,h1,h8⟩⟩
end Go.Proofs.YtdpahjfekoikiaaGreat
namespace Go.Proofs.YtdpahjfekoikiaaGreat
open Tryz
open Go.RowKit
theorem tp (a:Addr) (d:Int) (w:World) (h0:w.cell? a=some (.int .u32 d)) :
  Calls prog 172 #[.pointer (some a)] w fun e w'=>e=.returned (.bool (d != 0))∧w'=w:=by
 have hl:=run_call_load (P:=prog) func201 (by kernel_rfl) (by kernel_rfl) (by kernel_rfl) .u32 (by kernel_rfl) h0
 go_enter func172,ntmps172
 go_wp2
 go_ret
 exact⟨rfl,rfl⟩
def ul (b:Bool):Int:=if b then 1 else 0
theorem tU (a:Addr) (x:Value) (b:Bool) (w:World) (hc:w.cell? a=some x) (hz:w.frozen? a=false) :
  Calls prog 173 #[.pointer (some a),.bool b] w fun e w'=>e=.returned (.tuple #[])∧w'=w.drew.setCell a (.int .u32 (ul b)):=by
 have hc':w.drew.cell? a=some x:=by go_simp
 have hz':w.drew.frozen? a=false:=by go_simp
 have hst:=fun y:Int=>run_call_store (P:=prog) func202 (by kernel_rfl) (by kernel_rfl) (by kernel_rfl) (by kernel_rfl) (k:=.u32) (y:=y) hc' hz'
 cases b
 ·have hst0:=hst 0
  clear hst
  go_enter func173,ntmps173
  go_wp2
  go_region_calls
  all_goals (go_end0;exact⟨rfl,rfl⟩)
 ·have hst1:=hst 1
  clear hst
  go_enter func173,ntmps173
  go_wp2
  go_region_calls
  all_goals (go_end0;exact⟨rfl,rfl⟩)
structure Ms where
 bs:Nat→Nat
 off:Bool
 ar:Bool
 l:Int
 t:Int
structure Held (w:World) (b g n:Nat) (bs:Nat→Nat) (v:Value):Prop where
 own:w.ownsRow 0 5 1 v n (CB bs n)
 at_:(v=.slice none 0 0∧n=0∧g=b)∨(g≠b∧∃ cap,v=.slice (ac g 0) n cap)
section
variable {w w':World} {b g n:Nat} {bs:Nat→Nat} {v:Value}
theorem Held.off {l:List Nat} (h:Held w b g n bs v) (q:Off l w w') (hg:g ∉ l):Held w' b g n bs v:=by
 refine⟨⟨h.own.1,?_⟩,h.at_⟩
 rcases h.own.2 with hn | ⟨g',cap,cur,hv,hg0,hgg,rest⟩
 ·exact .inl hn
 ·rcases h.at_ with ⟨hv',_⟩ | ⟨_,cap',hv'⟩
  ·rw[hv]at hv';simp at hv'
  ·rw[hv]at hv'
   simp only[Value.slice.injEq,Option.some.injEq,Addr.mk.injEq,and_true,true_and]at hv'
   obtain⟨rfl,rfl⟩:=hv'
   exact .inr ⟨_,_,cur,hv,hg0,by rw[q.block _ (Array.getElem?_eq_some_iff.1 hgg).1 hg];exact hgg,rest⟩
theorem Held.lt (h:Held w b g n bs v) (hb:b<w.heap.size):g<w.heap.size:=by
 rcases h.at_ with ⟨_,_,rfl⟩ | ⟨_,cap,rfl⟩
 ·exact hb
 ·exact (h.own.lt g rfl).2
theorem Held.row (h:Held w b g n bs v) (hb:∀ i,i<n→bs i<256):∃ a cap,v=.slice a n cap∧Row8 w a n cap bs:=aO h.own hb
theorem Held.plain (h:Held w b g n bs v) (hn:0<n):g≠b∧∃ cap,v=.slice (ac g 0) n cap:=by
 rcases h.at_ with ⟨_,rfl,_⟩ | h
 ·omega
 ·exact h
theorem Held.here (h:Held w b g n bs v) (q:Off [b] w w'):Held w' b g n bs v:=by
 rcases h.at_ with ⟨rfl,rfl,rfl⟩ | hg
 ·exact⟨World.ownsRow_nil _ _ _ _,.inl ⟨rfl,rfl,rfl⟩⟩
 ·exact h.off q (by simpa using hg.1)
theorem Held.set (h:Held w b g n bs v) (j x:Nat) (hj:j<n):Held (w.setCell ⟨g,j,none⟩ (.int .u8 (x:Nat))) b g n (fun i=>if i=j then x else bs i) v:=by
 obtain⟨hg,cap,rfl⟩:=h.plain (by omega)
 refine⟨?_,.inr ⟨hg,cap,rfl⟩⟩
 have:=(h.own.stored j (.int .u8 (x:Nat))).1
 rwa [d9]at this
end
def MC (v:Value) (s:Ms):Array Value:=#[v,.int .u32 (ul s.off),.bool s.ar,.int .i64 s.l,.int .i64 s.t]
structure MR (w:World) (b g n:Nat) (s:Ms):Prop where
 ex:∃ v,w.heap[b]?=some (.cells (MC v s) 77 (0,0))∧Held w b g n s.bs v
 byte:∀ i,i<n→s.bs i<256
 l0:0≤s.l
 l1:s.l≤9223372036854775807
 t0:0≤s.t
 nn:n≤4096
section
variable {w w':World} {b g n:Nat} {s:Ms}
theorem MR.lt (h:MR w b g n s):b<w.heap.size:=by
 obtain⟨v,hv,_⟩:=h.ex
 exact (Array.getElem?_eq_some_iff.1 hv).1
theorem MR.lg (h:MR w b g n s):g<w.heap.size:=by
 obtain⟨v,hv,hh⟩:=h.ex
 exact hh.lt h.lt
theorem MR.off {l:List Nat} (h:MR w b g n s) (q:Off l w w') (hb:b ∉ l) (hg:g ∉ l):MR w' b g n s:=by
 obtain⟨v,hv,hh⟩:=h.ex
 exact⟨⟨v,(q.block b h.lt hb).trans hv,hh.off q hg⟩,h.byte,h.l0,h.l1,h.t0,h.nn⟩
theorem MR.cells (h:MR w b g n s):∃ a cap,w.cell? ⟨b,0,none⟩=some (.slice a n cap)∧Row8 w a n cap s.bs∧(0<n→g≠b∧a=ac g 0)∧w.cell? ⟨b,1,none⟩=some (.int .u32 (ul s.off)) ∧
  w.cell? ⟨b,2,none⟩=some (.bool s.ar)∧w.cell? ⟨b,3,none⟩=some (.int .i64 s.l)∧w.cell? ⟨b,4,none⟩=some (.int .i64 s.t)∧∀ j,w.frozen? ⟨b,j,none⟩=false:=by
 obtain⟨v,hv,hh⟩:=h.ex
 obtain⟨a,cap,rfl,hr⟩:=hh.row h.byte
 refine⟨a,cap,ab w b 0 _ _ _ hv,hr,fun hn=>?_,ab w b 1 _ _ _ hv,ab w b 2 _ _ _ hv,ab w b 3 _ _ _ hv,ab w b 4 _ _ _ hv,fun j=>frozen_of_row w b j _ _ hv⟩
 obtain⟨hg,cap',he⟩:=hh.plain hn
 simp only[Value.slice.injEq]at he
 exact⟨hg,he.1⟩
theorem MR.held (h:MR w b g n s) (j:Nat) (hj:j<n):w.cell? ⟨g,j,none⟩=some (.int .u8 (s.bs j:Nat))∧w.frozen? ⟨g,j,none⟩=false:=by
 obtain⟨v,hv,hh⟩:=h.ex
 obtain⟨hg,cap,rfl⟩:=hh.plain (by omega)
 exact⟨by rw[hh.own.cellAt j (by omega),az _ _ _ hj],hh.own.frozenAt j⟩
theorem MR.upd (h:MR w b g n s) (s':Ms) (q:Off [b] w w') (hc:∀ v,w.heap[b]?=some (.cells (MC v s) 77 (0,0))→w'.heap[b]?=some (.cells (MC v s') 77 (0,0)))
  (hbs:s'.bs=s.bs) (l0:0≤s'.l) (l1:s'.l≤9223372036854775807) (t0:0≤s'.t):MR w' b g n s':=by
 obtain⟨v,hv,hh⟩:=h.ex
 exact⟨⟨v,hc v hv,hbs ▸ hh.here q⟩,hbs ▸ h.byte,l0,l1,t0,h.nn⟩
theorem MR.put (h:MR w b g n s) (j x:Nat) (hj:j<n) (hx:x<256):MR (w.setCell ⟨g,j,none⟩ (.int .u8 (x:Nat))) b g n { s with bs:=fun i=>if i=j then x else s.bs i }:=by
 obtain⟨v,hv,hh⟩:=h.ex
 have hg:=(hh.plain (by omega)).1
 refine⟨⟨v,(heap_setCell_other w _ b _ (Ne.symm hg)).trans hv,hh.set j x hj⟩,fun i hi=>?_,h.l0,h.l1,h.t0,h.nn⟩
 by_cases e:i=j
 ·simp[e,hx]
 ·simp[e,h.byte i hi]
theorem MR.drew (h:MR w b g n s):MR w.drew b g n s:=h.off (Off.drew [] _) (by simp) (by simp)
theorem MR.drewN (h:MR w b g n s) (k:Nat):MR (w.drewN k) b g n s:=h.off (Off.drewN [] _ k) (by simp) (by simp)
end
def gr (s:Ms) (n:Nat) (p:Int):Int:=if s.off then 70 else if p<0∨(n:Int)≤p then 2 else 0
theorem iZ (b g n:Nat) (s:Ms) (p:Int) (w:World) (h:MR w b g n s) :
  Calls prog 140 #[aa b 0,.int .i64 p] w fun e w'=>e=.returned (.int .i64 (gr s n p))∧w'=w:=by
 obtain⟨a,cap,c0,_,_,c1,_⟩:=h.cells
 have hl:=tp ⟨b,1,none⟩ _ w c1
 unfold gr
 cases ho:s.off
 ·rw[ho]at hl
  have e1:(ul false != 0)=false:=rfl
  rw[e1]at hl
  by_cases hp:p<0
  ·rw[if_neg (by simp),if_pos (.inl hp)]
   go_enter func140,ntmps140
   go_wp2_with (go_at_call 172;refine hl.mono ?_;rintro e w' ⟨rfl,rfl⟩)
   go_ret
   exact⟨rfl,rfl⟩
  ·by_cases hn:(n:Int)≤p
   ·rw[if_neg (by simp),if_pos (.inr hn)]
    go_enter func140,ntmps140
    go_wp2_with (go_at_call 172;refine hl.mono ?_;rintro e w' ⟨rfl,rfl⟩)
    go_ret
    exact⟨rfl,rfl⟩
   ·rw[if_neg (by simp),if_neg (by omega)]
    go_enter func140,ntmps140
    go_wp2_with (go_at_call 172;refine hl.mono ?_;rintro e w' ⟨rfl,rfl⟩)
    go_ret
    exact⟨rfl,rfl⟩
 ·rw[ho]at hl
  have e1:(ul true != 0)=true:=rfl
  rw[e1]at hl
  rw[if_pos rfl]
  go_enter func140,ntmps140
  go_wp2_with (go_at_call 172;refine hl.mono ?_;rintro e w' ⟨rfl,rfl⟩)
  go_ret
  exact⟨rfl,rfl⟩
end Go.Proofs.YtdpahjfekoikiaaGreat
namespace Go.Proofs.YtdpahjfekoikiaaGreat
open Tryz
open Go.RowKit
def gU (bs:Nat→Nat) (j x:Nat):Nat→Nat:=fun i=>if i=j then x else bs i
def fR (s:Ms) (n:Nat) (p:Int):Int:=if gr s n p≠0 then gr s n p else if s.ar=true∧s.l=0 then 70 else 0
def gh (s:Ms) (n:Nat) (p:Int) (c:Nat):Ms:=
 if gr s n p≠0 then s else if s.ar=true∧s.l=0 then { s with off:=true } else { s with bs:=gU s.bs p.toNat c,l:=if s.ar then s.l-1 else s.l,t:=s.t+1 }
theorem g9 {s:Ms} {n:Nat} {p:Int} (h:gr s n p=0):s.off=false∧0≤p∧p < (n:Int):=by
 unfold gr at h
 cases ho:s.off
 ·rw[ho,if_neg (by simp)]at h
  by_cases e:p<0∨(n:Int)≤p
  ·rw[if_pos e]at h;omega
  ·exact⟨rfl,by omega,by omega⟩
 ·rw[ho,if_pos rfl]at h;omega
theorem tv {s:Ms} {n:Nat} {p:Int} {c:Nat} (hr:gr s n p≠0):fR s n p=gr s n p∧gh s n p c=s:=⟨if_pos hr,if_pos hr⟩
theorem jR {s:Ms} {n:Nat} {p:Int} {c:Nat} (hr:gr s n p=0) (ha:s.ar=true) (hl:s.l=0):fR s n p=70∧gh s n p c={ s with off:=true }:=
 ⟨(if_neg (fun k=>k hr)).trans (if_pos ⟨ha,hl⟩),(if_neg (fun k=>k hr)).trans (if_pos ⟨ha,hl⟩)⟩
theorem nE {s:Ms} {n:Nat} {p:Int} {c:Nat} (hr:gr s n p=0) (ha:s.ar=false):fR s n p=0∧gh s n p c={ s with bs:=gU s.bs p.toNat c,t:=s.t+1 }:=by
 refine⟨(if_neg (fun k=>k hr)).trans (if_neg (by simp[ha])),(if_neg (fun k=>k hr)).trans ((if_neg (by simp[ha])).trans ?_)⟩
 simp[ha]
theorem nF {s:Ms} {n:Nat} {p:Int} {c:Nat} (hr:gr s n p=0) (ha:s.ar=true) (hl:s.l≠0):fR s n p=0∧gh s n p c={ s with bs:=gU s.bs p.toNat c,l:=s.l-1,t:=s.t+1 }:=by
 refine⟨(if_neg (fun k=>k hr)).trans (if_neg (by simp[hl])),(if_neg (fun k=>k hr)).trans ((if_neg (by simp[hl])).trans ?_)⟩
 simp[ha]
theorem Off.pair {b g:Nat} {w w':World} (h:Off [b] w w'):Off [b,g] w w':=h.more (by simp)
theorem Off.pair' {b g:Nat} {w w':World} (h:Off [g] w w'):Off [b,g] w w':=h.more (by simp)
theorem eR (b g n:Nat) (s:Ms) (p:Int) (c:Nat) (w:World) (h:MR w b g n s) (hc:c<256) (ht:s.t<9223372036854775807) :
  Calls prog 141 #[aa b 0,.int .i64 p,.int .u8 (c:Nat)] w fun e w'=>e=.returned (.int .i64 (fR s n p))∧(Off [b,g] w w'∧MR w' b g n (gh s n p c)):=by
 have hR:=iZ b g n s p w h
 by_cases hr:gr s n p=0
 ·rw[hr]at hR
  obtain⟨hoff,hp0,hpn⟩:=g9 hr
  obtain⟨j,rfl⟩:=Int.eq_ofNat_of_zero_le hp0
  have hj:j<n:=by omega
  obtain⟨a,cap,c0,_,hpl,c1,c2,c3,c4,fz⟩:=h.cells
  obtain⟨hgb,rfl⟩:=hpl (by omega)
  obtain⟨cg,fg⟩:=h.held j hj
  have hl0:=h.l0
  have hl1:=h.l1
  have ht0:=h.t0
  have H:Hid (_):=h
  have fz1:=fz 1
  have fz3:=fz 3
  have fz4:=fz 4
  clear h fz hpl
  cases ha:s.ar
  ·rw[ha]at c2
   obtain⟨hE,hS⟩:=nE (c:=c) hr ha
   rw[hE,hS]
   clear hE hS hr
   go_enter func141,ntmps141
   go_wp2_with (go_at_call 140;refine hR.mono ?_;rintro e w' ⟨rfl,rfl⟩)
   go_ret
   refine⟨rfl,(Off.setCell g j _ _).pair'.trans (Off.setCell b 4 _ _).pair,?_⟩
   exact (H.out.put j c hj hc).upd { s with bs:=gU s.bs j c,t:=s.t+1 } (Off.setCell b 4 _ _) (fun v hv=>heap_setCell_same _ _ _ _ _ _ hv) rfl hl0 hl1 (by show 0≤s.t+1;omega)
  ·rw[ha]at c2
   by_cases hz:s.l=0
   ·obtain⟨hE,hS⟩:=jR (c:=c) hr ha hz
    rw[hE,hS]
    rw[hz]at c3
    have hst:=tU ⟨b,1,none⟩ _ true _ c1 fz1
    clear hE hS hr
    go_enter func141,ntmps141
    go_wp2_with (first | (go_at_call 140;refine hR.mono ?_;rintro e w' ⟨rfl,hw⟩;rw[hw];clear hw) | (go_at_call 173;refine hst.mono ?_;rintro e w' ⟨rfl,rfl⟩))
    go_ret
    refine⟨rfl,((Off.drew [b] _).trans (Off.setCell b 1 _ _)).pair,?_⟩
    exact H.out.drew.upd { s with off:=true } (Off.setCell b 1 _ _) (fun v hv=>heap_setCell_same _ _ _ _ _ _ hv) rfl hl0 hl1 ht0
   ·obtain⟨hE,hS⟩:=nF (c:=c) hr ha hz
    rw[hE,hS]
    clear hE hS hr
    go_enter func141,ntmps141
    go_wp2_with (go_at_call 140;refine hR.mono ?_;rintro e w' ⟨rfl,rfl⟩)
    go_ret
    refine⟨rfl,((Off.setCell b 3 _ _).pair.trans (Off.setCell g j _ _).pair').trans (Off.setCell b 4 _ _).pair,?_⟩
    have h1:=H.out.upd { s with l:=s.l-1 } (Off.setCell b 3 _ (.int .i64 (s.l-1))) (fun v hv=>heap_setCell_same _ _ _ _ _ _ hv) rfl (by show 0≤s.l-1;omega) (by show s.l-1≤_;omega) ht0
    exact (h1.put j c hj hc).upd { s with bs:=gU s.bs j c,l:=s.l-1,t:=s.t+1 } (Off.setCell b 4 _ _) (fun v hv=>heap_setCell_same _ _ _ _ _ _ hv) rfl (by show 0≤s.l-1;omega) (by show s.l-1≤_;omega) (by show 0≤s.t+1;omega)
 ·obtain⟨hE,hS⟩:=tv (c:=c) hr
  rw[hE,hS]
  have H:Hid (_):=h
  clear h hE hS
  generalize gr s n p=r at *
  go_enter func141,ntmps141
  go_wp2_with (go_at_call 140;refine hR.mono ?_;rintro e w' ⟨rfl,rfl⟩)
  go_ret
  exact⟨rfl,Off.refl _ _,H.out⟩
def t8 (s:Ms) (n:Nat) (p:Int):Nat:=if gr s n p≠0 then 0 else s.bs p.toNat
theorem ib (b g n:Nat) (s:Ms) (p:Int) (w:World) (h:MR w b g n s) :
  Calls prog 99 #[aa b 0,.int .i64 p] w fun e w'=>e=.returned (.tuple #[.int .u8 (t8 s n p:Nat),.int .i64 (gr s n p)])∧w'=w:=by
 have hR:=iZ b g n s p w h
 unfold t8
 by_cases hr:gr s n p=0
 ·rw[hr]at hR ⊢
  rw[if_neg (by simp)]
  obtain⟨hoff,hp0,hpn⟩:=g9 hr
  obtain⟨j,rfl⟩:=Int.eq_ofNat_of_zero_le hp0
  have hj:j<n:=by omega
  obtain⟨a,cap,c0,_,hpl,_⟩:=h.cells
  obtain⟨hgb,rfl⟩:=hpl (by omega)
  obtain⟨cg,fg⟩:=h.held j hj
  clear h hpl hr
  rw[Int.toNat_natCast]
  generalize s.bs j=x at *
  go_enter func99,ntmps99
  go_wp2_with (go_at_call 140;refine hR.mono ?_;rintro e w' ⟨rfl,rfl⟩)
  go_ret2
  exact⟨rfl,rfl⟩
 ·rw[if_pos hr]
  clear h
  generalize gr s n p=r at *
  go_enter func99,ntmps99
  go_wp2_with (go_at_call 140;refine hR.mono ?_;rintro e w' ⟨rfl,rfl⟩)
  go_ret2
  exact⟨rfl,rfl⟩
theorem tX (b:Bool):(ul b != 0)=b:=by cases b <;> rfl
theorem jz (b g n:Nat) (s:Ms) (w:World) (h:MR w b g n s) :
  Calls prog 217 #[aa b 0] w fun e w'=>e=.returned (.bool s.off)∧w'=w:=by
 obtain⟨_,_,_,_,_,c1,_⟩:=h.cells
 have hl:=tp ⟨b,1,none⟩ _ w c1
 rw[tX]at hl
 clear h c1
 generalize s.off=x at *
 go_enter func217,ntmps217
 go_wp2_with (go_at_call 172;refine hl.mono ?_;rintro e w' ⟨rfl,rfl⟩)
 go_ret
 exact⟨rfl,rfl⟩
theorem ik (b g n:Nat) (s:Ms) (w:World) (h:MR w b g n s) :
  Calls prog 57 #[aa b 0] w fun e w'=>e=.returned (.int .i64 (n:Nat))∧w'=w:=by
 obtain⟨_,_,c0,_⟩:=h.cells
 clear h
 go_enter func57,ntmps57
 go_wp2_with fail
 go_ret
 exact⟨rfl,rfl⟩
end Go.Proofs.YtdpahjfekoikiaaGreat
