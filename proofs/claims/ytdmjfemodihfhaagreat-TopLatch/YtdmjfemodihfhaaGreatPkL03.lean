/- Part 4: contracts that the proof rests on. -/
import Derived.Test.YtdmjfemodihfhaaGreatProg
import Derived.WalkKit
import Derived.WalkSpells
import Derived.OpenShut
import Derived.Defers
import Derived.Recover
import Derived.Laws.BitsAllLaws
import Derived.Laws.Pointers
import Derived.Laws.LoneSync
import Derived.Laws.NewBlocks
import Derived.RegionTactic
import Derived.RegionCalls
import Derived.ChangeAlike
import Derived.Deep.DeepCutAuto
import Derived.Deep.RegionWith
import Derived.Deep.QuietTactic
import Derived.Test.YtdmjfemodihfhaaGreatPkL02
set_option maxHeartbeats 64000000
set_option maxRecDepth 100000
namespace Go.Proofs.YtdmjfemodihfhaaGreat
set_option maxRecDepth 100000
open Go.RowKit
theorem disable (w:World):(callFunc 175 #[]).run Tryz.prog w=.ok (.value (.tuple #[])) w:=run_call_mark0 Tryz.func175 (by kernel_rfl) (by kernel_rfl) (by kernel_rfl) .disable (by kernel_rfl) w
theorem enable (w:World):(callFunc 177 #[]).run Tryz.prog w=.ok (.value (.tuple #[])) w:=run_call_mark0 Tryz.func177 (by kernel_rfl) (by kernel_rfl) (by kernel_rfl) .enable (by kernel_rfl) w
theorem acquire (a:Addr) (w:World):(callFunc 178 #[.pointer (some a)]).run Tryz.prog w=.ok (.value (.tuple #[])) w:=run_call_marked Tryz.func178 (by kernel_rfl) (by kernel_rfl) (by kernel_rfl) .acquire (by kernel_rfl) a w
theorem releaseMerge (a:Addr) (w:World):(callFunc 180 #[.pointer (some a)]).run Tryz.prog w=.ok (.value (.tuple #[])) w:=run_call_marked Tryz.func180 (by kernel_rfl) (by kernel_rfl) (by kernel_rfl) .releaseMerge (by kernel_rfl) a w
theorem sy (a:Addr) (d:Int) (w:World) (h0:w.cell? a=some (.int .u32 d)) :
  Calls Tryz.prog 183 #[.pointer (some a)] w fun e w'=>e=.returned (.bool (d != 0))∧w'=w:=by
 have hl:=run_call_load (P:=Tryz.prog) Tryz.func215 (by kernel_rfl) (by kernel_rfl) (by kernel_rfl) .u32 (by kernel_rfl) h0
 go_enter Tryz.func183,Tryz.ntmps183
 go_wp2
 go_ret
 exact⟨rfl,rfl⟩
theorem jH (a:Addr) (x:Value) (u:FrameMode) (w:World) (hc:w.cell? a=some x) (hz:w.frozen? a=false) :
  CallsD Tryz.prog 141 #[.pointer (some a),.bool true] u w fun e u' w'=>u'=u∧(e=.returned (.tuple #[])∧w'=w.drew.setCell a (.int .u32 1)):=by
 have hc':w.drew.cell? a=some x:=by go_simp
 have hz':w.drew.frozen? a=false:=by go_simp
 have hst:=run_call_store (P:=Tryz.prog) Tryz.func173 (by kernel_rfl) (by kernel_rfl) (by kernel_rfl) (by kernel_rfl) (k:=.u32) (y:=1) hc' hz'
 go_enter_d Tryz.func141,Tryz.ntmps141
 go_wp2
 go_region_calls
 all_goals (go_end0;exact⟨rfl,rfl⟩)
theorem vJ (a:Addr) (w:World) (hc:w.cell? a=some (.int .i32 1)) (hz:w.frozen? a=false) :
  Calls Tryz.prog 143 #[.pointer (some a)] w fun e w'=>e=.returned (.tuple #[])∧w'=w.setCell a (.int .i32 0):=by
 have hd:=disable
 have he:=enable
 have hr:=releaseMerge
 have hadd:=run_call_add (P:=Tryz.prog) Tryz.func181 (by kernel_rfl) (by kernel_rfl) (by kernel_rfl) .i32 (by kernel_rfl) (y:=-1) (s:=0) hc hz (by simp[go_sem];rfl)
 have hcv:=run_convert_to_unsafe (P:=Tryz.prog) (src:=281) (dst:=167) Tryz.underlying281 Tryz.underlying167 (by kernel_rfl) hc
 go_enter Tryz.func143,Tryz.ntmps143
 go_wp2
 go_end0
 exact⟨rfl,rfl⟩
theorem cq (a:Addr) (u:FrameMode) (w:World) (hc:w.cell? a=some (.int .i32 1)) (hz:w.frozen? a=false) :
  CallsD Tryz.prog 115 #[.pointer (some a)] u w fun e u' w'=>u'=u∧(e=.returned (.tuple #[])∧w'=w.setCell a (.int .i32 0)):=by
 go_enter_d Tryz.func115,Tryz.ntmps115
 go_wp2_with (go_at_call 143;refine (vJ a _ hc hz).mono ?_;rintro e w' ⟨rfl,rfl⟩)
 go_end0
 exact⟨rfl,rfl⟩
theorem zu (a:Addr) (w:World) (hc:w.cell? a=some (.int .i32 0)) (hz:w.frozen? a=false) :
  Calls Tryz.prog 142 #[.pointer (some a)] w fun e w'=>e=.returned (.tuple #[])∧w'=w.setCell a (.int .i32 1):=by
 have hd:=disable
 have he:=enable
 have ha:=acquire
 have hcas:=run_call_cas_hit (P:=Tryz.prog) Tryz.func176 (by kernel_rfl) (by kernel_rfl) (by kernel_rfl) .i32 (by kernel_rfl) (y:=1) hc hz
 have hc':(w.setCell a (.int .i32 1)).cell? a=some (.int .i32 1):=World.cell?_setCell_same w a _ hc
 have hcv:=run_convert_to_unsafe (P:=Tryz.prog) (src:=281) (dst:=167) Tryz.underlying281 Tryz.underlying167 (by kernel_rfl) hc'
 go_enter Tryz.func142,Tryz.ntmps142
 go_wp2
 first | go_end0 | (simp only[Exit.inBlock,Exit.then];refine bodyPost_ret (results_none rfl _ _ _) rfl ?_) | refine bodyPost_ret (results_none rfl _ _ _) rfl ?_
 exact⟨rfl,rfl⟩
theorem eK (a:Addr) (w:World) (hc:w.cell? a=some (.int .i32 0)) (hz:w.frozen? a=false) :
  Calls Tryz.prog 114 #[.pointer (some a)] w fun e w'=>e=.returned (.tuple #[])∧w'=w.setCell a (.int .i32 1):=by
 go_enter Tryz.func114,Tryz.ntmps114
 go_wp2_with (go_at_call 142;refine (zu a _ hc hz).mono ?_;rintro e w' ⟨rfl,rfl⟩)
 go_end0
 exact⟨rfl,rfl⟩
theorem vm (F:FuncId) (b o:Nat) (cap:Array Value) (w:World) (Post:World→Prop) (hcf:∀ w,(callFunc F cap).run Tryz.prog w=.ok (.enter F cap) w)
  (h0:w.cell? ⟨b,o,none⟩=some (.int .u32 0)) (h1:w.cell? ⟨b,o+1,none⟩=some (.int .i32 0)) (f1:w.frozen? ⟨b,o+1,none⟩=false)
  (hf:Calls Tryz.prog F cap (w.setCell ⟨b,o+1,none⟩ (.int .i32 1)) fun e w2=>e=.returned (.tuple #[])∧Post w2)
  (hP:∀ w2,Post w2→w2.cell? ⟨b,o,none⟩=some (.int .u32 0)∧w2.cell? ⟨b,o+1,none⟩=some (.int .i32 1)∧w2.frozen? ⟨b,o,none⟩=false∧w2.frozen? ⟨b,o+1,none⟩=false) :
  Calls Tryz.prog 230 #[.pointer (some ⟨b,o,none⟩),.func (.func F) #[] cap] w fun e w'=>e=.returned (.tuple #[]) ∧
   ∃ w2,Post w2∧w'=(w2.drew.setCell ⟨b,o,none⟩ (.int .u32 1)).setCell ⟨b,o+1,none⟩ (.int .i32 0):=by
 have h01:(w.setCell ⟨b,o+1,none⟩ (.int .i32 1)).cell? ⟨b,o,none⟩=some (.int .u32 0):=(World.cell?_setCell_other _ ⟨b,o+1,none⟩ ⟨b,o,none⟩ _ (by simp)).trans h0
 have hld:=sy ⟨b,o,none⟩ 0 _ h01
 go_enter_defers Tryz.func230,Tryz.ntmps230
 go_wp2_with (first | (go_at_call 114;refine (eK ⟨b,o+1,none⟩ _ h1 f1).mono ?_;rintro e w' ⟨rfl,rfl⟩) | (go_at_call 183;refine hld.mono ?_;rintro e w' ⟨rfl,rfl⟩))
 refine hf.mono ?_
 rintro e w2 ⟨rfl,hpost⟩
 obtain⟨c0,c1,z0,z1⟩:=hP w2 hpost
 clear hf hP hld hcf
 go_wp2_with fail
 refine leaves_cons (f:=141) (args:=#[.pointer (some ⟨b,o,none⟩),.bool true]) (by simp) (by simp[go_sem]) ?_
 refine (jH ⟨b,o,none⟩ (.int .u32 0) .returning _ c0 z0).mono ?_
 rintro e u' w'' ⟨rfl,rfl,rfl⟩
 refine leaves_cons (f:=115) (args:=#[.pointer (some ⟨b,o+1,none⟩)]) (by simp[settle]) (by simp[go_sem]) ?_
 refine (cq ⟨b,o+1,none⟩ _ _ ?_ (by simp[z1])).mono ?_
 ·refine (World.cell?_setCell_other _ ⟨b,o,none⟩ ⟨b,o+1,none⟩ _ (by simp)).trans ?_
  rw[World.cell?_drew];exact c1
 rintro e u' w'' ⟨rfl,rfl,rfl⟩
 simp[Leaves,settle,results,Tryz.results230]
 exact⟨w2,hpost,rfl⟩
theorem zt (F:FuncId) (b o:Nat) (cap:Array Value) (w:World) (Post:World→Prop) (hcf:∀ w,(callFunc F cap).run Tryz.prog w=.ok (.enter F cap) w)
  (h0:w.cell? ⟨b,o,none⟩=some (.int .u32 0)) (h1:w.cell? ⟨b,o+1,none⟩=some (.int .i32 0)) (f1:w.frozen? ⟨b,o+1,none⟩=false)
  (hf:Calls Tryz.prog F cap (w.setCell ⟨b,o+1,none⟩ (.int .i32 1)) fun e w2=>e=.returned (.tuple #[])∧Post w2)
  (hP:∀ w2,Post w2→w2.cell? ⟨b,o,none⟩=some (.int .u32 0)∧w2.cell? ⟨b,o+1,none⟩=some (.int .i32 1)∧w2.frozen? ⟨b,o,none⟩=false∧w2.frozen? ⟨b,o+1,none⟩=false) :
  Calls Tryz.prog 216 #[.pointer (some ⟨b,o,none⟩),.func (.func F) #[] cap] w fun e w'=>e=.returned (.tuple #[]) ∧
   ∃ w2,Post w2∧w'=(w2.drew.setCell ⟨b,o,none⟩ (.int .u32 1)).setCell ⟨b,o+1,none⟩ (.int .i32 0):=by
 have hS:=vm F b o cap w Post hcf h0 h1 f1 hf hP
 have hld:=sy ⟨b,o,none⟩ 0 _ h0
 clear hf hP hcf
 go_enter Tryz.func216,Tryz.ntmps216
 go_wp2_with (first | (go_at_call 183;refine hld.mono ?_;rintro e w' ⟨rfl,rfl⟩) | (go_at_call 230;refine hS.mono ?_;rintro e w' ⟨rfl,h⟩))
 go_end0
 exact⟨rfl,h⟩
theorem vN (a:Addr) (fv:Value) (w:World) (h0:w.cell? a=some (.int .u32 1)) :
  Calls Tryz.prog 216 #[.pointer (some a),fv] w fun e w'=>e=.returned (.tuple #[])∧w'=w:=by
 have hld:=sy a 1 _ h0
 go_enter Tryz.func216,Tryz.ntmps216
 go_wp2_with (go_at_call 183;refine hld.mono ?_;rintro e w' ⟨rfl,rfl⟩)
 go_end0
 exact⟨rfl,rfl⟩
structure Vr (w:World) (p:Nat) (v:Value) (ty:TypeId):Prop where
 at_:w.heap[p]?=some (.cells #[v] ty (0,0))
theorem Vr.lt {w:World} {p:Nat} {v:Value} {ty:TypeId} (h:Vr w p v ty):p<w.heap.size:=(Array.getElem?_eq_some_iff.1 h.at_).1
theorem Vr.c {w:World} {p:Nat} {v:Value} {ty:TypeId} (h:Vr w p v ty):w.cell? ⟨p,0,none⟩=some v:=ac w p 0 _ _ _ h.at_
theorem Vr.fz {w:World} {p:Nat} {v:Value} {ty:TypeId} (h:Vr w p v ty):w.frozen? ⟨p,0,none⟩=false:=frozen_of_row w p 0 _ _ h.at_
theorem Vr.off {l:List Nat} {w w':World} {p:Nat} {v:Value} {ty:TypeId} (h:Vr w p v ty) (k:Off l w w') (hb:p ∉ l):Vr w' p v ty:=⟨(k.block p h.lt hb).trans h.at_⟩
theorem Vr.new (w:World) (v:Value) (ty:TypeId):Vr (w.alloc (.cells #[v] ty)) w.heap.size v ty:=⟨au w _⟩
theorem Vr.set {w:World} {p:Nat} {v:Value} {ty:TypeId} (h:Vr w p v ty) (v':Value):Vr (w.setCell ⟨p,0,none⟩ v') p v' ty:=⟨heap_setCell_same _ _ _ _ _ _ h.at_⟩
def GC (k d m c t:Int):Array Value:=#[.int .i32 k,.int .u32 0,.int .u32 d,.int .i32 m,.int .u32 0,.int .i64 c,.int .i64 t]
structure GR (w:World) (b:Nat) (k d m c t:Int):Prop where
 at_:w.heap[b]?=some (.cells (GC k d m c t) 238 (0,0))
section
variable {w w':World} {b:Nat} {k d m c t:Int}
theorem GR.lt (h:GR w b k d m c t):b<w.heap.size:=(Array.getElem?_eq_some_iff.1 h.at_).1
theorem GR.c0 (h:GR w b k d m c t):w.cell? ⟨b,0,none⟩=some (.int .i32 k):=ac w b 0 _ _ _ h.at_
theorem GR.c2 (h:GR w b k d m c t):w.cell? ⟨b,2,none⟩=some (.int .u32 d):=ac w b 2 _ _ _ h.at_
theorem GR.c3 (h:GR w b k d m c t):w.cell? ⟨b,3,none⟩=some (.int .i32 m):=ac w b 3 _ _ _ h.at_
theorem GR.c4 (h:GR w b k d m c t):w.cell? ⟨b,4,none⟩=some (.int .u32 0):=ac w b 4 _ _ _ h.at_
theorem GR.c5 (h:GR w b k d m c t):w.cell? ⟨b,5,none⟩=some (.int .i64 c):=ac w b 5 _ _ _ h.at_
theorem GR.c6 (h:GR w b k d m c t):w.cell? ⟨b,6,none⟩=some (.int .i64 t):=ac w b 6 _ _ _ h.at_
theorem GR.fz (h:GR w b k d m c t) (j:Nat):w.frozen? ⟨b,j,none⟩=false:=frozen_of_row w b j _ _ h.at_
theorem GR.off {l:List Nat} (h:GR w b k d m c t) (q:Off l w w') (hb:b ∉ l):GR w' b k d m c t:=⟨(q.block b h.lt hb).trans h.at_⟩
theorem GR.s0 (h:GR w b k d m c t) (x:Int):GR (w.setCell ⟨b,0,none⟩ (.int .i32 x)) b x d m c t:=⟨heap_setCell_same _ _ _ _ _ _ h.at_⟩
theorem GR.s2 (h:GR w b k d m c t) (x:Int):GR (w.setCell ⟨b,2,none⟩ (.int .u32 x)) b k x m c t:=⟨heap_setCell_same _ _ _ _ _ _ h.at_⟩
theorem GR.s3 (h:GR w b k d m c t) (x:Int):GR (w.setCell ⟨b,3,none⟩ (.int .i32 x)) b k d x c t:=⟨heap_setCell_same _ _ _ _ _ _ h.at_⟩
theorem GR.s4 (h:GR w b k d m c t):GR (w.setCell ⟨b,4,none⟩ (.int .u32 0)) b k d m c t:=⟨heap_setCell_same _ _ _ _ _ _ h.at_⟩
theorem GR.s5 (h:GR w b k d m c t) (x:Int):GR (w.setCell ⟨b,5,none⟩ (.int .i64 x)) b k d m x t:=⟨heap_setCell_same _ _ _ _ _ _ h.at_⟩
theorem GR.s6 (h:GR w b k d m c t) (x:Int):GR (w.setCell ⟨b,6,none⟩ (.int .i64 x)) b k d m c x:=⟨heap_setCell_same _ _ _ _ _ _ h.at_⟩
theorem GR.drew (h:GR w b k d m c t):GR w.drew b k d m c t:=⟨h.at_⟩
end
theorem tF (w:World) :
  Calls Tryz.prog 117 #[] w fun e w'=>e=.returned (.pointer (some ⟨w.heap.size,0,none⟩))∧(Off [] w w'∧GR w' w.heap.size 0 0 0 0 0):=by
 go_enter Tryz.func117,Tryz.ntmps117
 go_wp2
 go_ret
 exact⟨rfl,Off.alloc _ _ _,⟨au w _⟩⟩
theorem k9 (w:World) (b i:Nat) (cs:Array Value) (ty:TypeId) (x v:Value) (hg:w.heap[b]?=some (.cells cs ty (0,0))) (hv:cs[i]?=some v):(w.setCell ⟨b,i,none⟩ x).setCell ⟨b,i,none⟩ v=w:=by
 have h:((w.setCell ⟨b,i,none⟩ x).setCell ⟨b,i,none⟩ v).heap=w.heap:=by
  apply Array.ext_getElem?
  intro k
  by_cases hk:k=b
  ·subst hk
   rw[heap_setCell_same _ _ _ _ _ _ (heap_setCell_same _ _ _ _ _ _ hg),hg,Array.setIfInBounds_setIfInBounds]
   congr 2
   apply Array.ext_getElem?
   intro j
   rw[Array.getElem?_setIfInBounds]
   split
   ·subst_vars
    split
    ·exact hv.symm
    ·rw[Array.getElem?_eq_none (by omega)]
   ·rfl
  ·rw[heap_setCell_other _ _ _ _ hk,heap_setCell_other _ _ _ _ hk]
 cases w
 simp only[World.setCell]at h ⊢
 rw[h]
theorem ix (b:Nat) (d c t:Int) (w:World) (h:GR w b 0 d 0 c t) :
  Calls Tryz.prog 91 #[.pointer (some ⟨b,0,none⟩)] w fun e w'=>e=.returned (.int .i64 c)∧w'=w:=by
 have h0:=h.c0
 have hz:=h.fz 0
 go_enter_defers Tryz.func91,Tryz.ntmps91
 go_wp2_with fail
 refine (eK ⟨b,0,none⟩ _ h0 hz).mono ?_
 rintro e w2 ⟨rfl,hw⟩
 have g2:GR w2 b 1 d 0 c t:=hw ▸ h.s0 1
 have hh:Hid (_):=hw
 clear h0 hz hw
 have h5:=g2.c5
 go_wp2_with fail
 refine leaves_cons (f:=115) (args:=#[.pointer (some ⟨b,0,none⟩)]) (by simp) (by simp[go_sem]) ?_
 refine (cq ⟨b,0,none⟩ .returning _ g2.c0 (g2.fz 0)).mono ?_
 rintro e u' w'' ⟨rfl,rfl,hw'⟩
 refine⟨_,results_tmp rfl _ _ _,rfl,?_⟩
 rw[hw',hh.out]
 exact k9 w b 0 _ _ _ _ h.at_ rfl
theorem tW (b:Nat) (d c t:Int) (w:World) (h:GR w b 0 d 0 c t) :
  Calls Tryz.prog 258 #[.pointer (some ⟨b,0,none⟩)] w fun e w'=>e=.returned (.int .i64 c)∧(Off [b] w w'∧GR w' b 0 0 0 0 0):=by
 have h0:=h.c0
 have hz:=h.fz 0
 go_enter_defers Tryz.func258,Tryz.ntmps258
 go_wp2_with fail
 refine (eK ⟨b,0,none⟩ _ h0 hz).mono ?_
 rintro e w2 ⟨rfl,hw⟩
 have g2:GR w2 b 1 d 0 c t:=hw ▸ h.s0 1
 have o2:Off [b] w w2:=hw ▸ Off.setCell b 0 w _
 clear hw h h0 hz
 have h2:=g2.c2
 have h3:=g2.c3
 have h4:=g2.c4
 have h5:=g2.c5
 have h6:=g2.c6
 have z2:=g2.fz 2
 have z3:=g2.fz 3
 have z4:=g2.fz 4
 have z5:=g2.fz 5
 have z6:=g2.fz 6
 go_wp2_with fail
 refine leaves_cons (f:=115) (args:=#[.pointer (some ⟨b,0,none⟩)]) (by simp) (by simp[go_sem]) ?_
 have g3:=((((g2.s2 0).s3 0).s4).s5 0).s6 0
 refine (cq ⟨b,0,none⟩ .returning _ g3.c0 (g3.fz 0)).mono ?_
 rintro e u' w'' ⟨rfl,rfl,hw⟩
 have g4:GR w'' b 0 0 0 0 0:=hw ▸ g3.s0 0
 have o3:Off [b] w2 w'':=hw ▸ ((((((Off.setCell b 2 w2 _).trans (Off.setCell b 3 _ _)).trans (Off.setCell b 4 _ _)).trans (Off.setCell b 5 _ _)).trans (Off.setCell b 6 _ _)).trans (Off.setCell b 0 _ _))
 exact⟨_,results_tmp rfl _ _ _,rfl,o2.trans o3,g4⟩
end Go.Proofs.YtdmjfemodihfhaaGreat
namespace Go.Proofs.YtdmjfemodihfhaaGreat
set_option maxRecDepth 100000
open Go.RowKit
theorem we (b pc pg pf:Nat) (k d m c t x:Int) (y:Value) (w:World) (h:GR w b k d m c t) (vc:Vr w pc (.int .i64 x) 24) (vg:Vr w pg (.pointer (some ⟨b,0,none⟩)) 192) (vf:Vr w pf y 4) (hbf:b≠pf) :
  Calls Tryz.prog 217 #[.pointer (some ⟨pc,0,none⟩),.pointer (some ⟨pg,0,none⟩),.pointer (some ⟨pf,0,none⟩)] w fun e w'=>e=.returned (.tuple #[]) ∧
   (Off [b,pf] w w'∧GR w' b k d m x t∧Vr w' pf (.bool true) 4):=by
 have h1:=vc.c
 have h2:=vg.c
 have h3:=vf.c
 have h5:=h.c5
 have z5:=h.fz 5
 have z3:=vf.fz
 have h3':(w.setCell ⟨b,5,none⟩ (.int .i64 x)).cell? ⟨pf,0,none⟩=some y:=(World.cell?_setCell_other _ _ _ _ (by simp)).trans h3
 go_enter Tryz.func217,Tryz.ntmps217
 go_wp2_with fail
 go_end0
 have o1:Off [b,pf] w (w.setCell ⟨b,5,none⟩ (.int .i64 x)):=(Off.setCell b 5 w _).more (by simp)
 have o2:Off [pf] (w.setCell ⟨b,5,none⟩ (.int .i64 x)) ((w.setCell ⟨b,5,none⟩ (.int .i64 x)).setCell ⟨pf,0,none⟩ (.bool true)):=Off.setCell pf 0 _ _
 exact⟨rfl,o1.trans (o2.more (by simp)),(h.s5 x).off o2 (by simpa using hbf),(vf.off (Off.setCell b 5 w _) (by simp;omega)).set _⟩
theorem oX (b:Nat) (x t:Int) (hx:¬ x=0) (w:World) (h:GR w b 0 0 0 0 t) :
  Calls Tryz.prog 184 #[.pointer (some ⟨b,0,none⟩),.int .i64 x] w fun e w'=>e=.returned (.bool true)∧(Off [b] w w'∧GR w' b 0 1 0 x (wrap64 (t+1))):=by
 have hmf:∀ (fn:Fn) (first cap:Array Value) (w:World),(Instr.makeFunc fn first cap).run Tryz.prog w=.ok (.func fn first cap) w:=fun _ _ _ _=>rfl
 go_enter_defers Tryz.func184,Tryz.ntmps184
 go_wp2_with fail
 have o1:Off [] w ((w.alloc (.cells #[.pointer (some ⟨b,0,none⟩)] 192)).alloc (.cells #[.int .i64 x] 24)):=(Off.alloc _ _ _).trans (Off.alloc _ _ _)
 have vg1:=(Vr.new w (.pointer (some ⟨b,0,none⟩)) 192).off (Off.alloc [] _ (.cells #[.int .i64 x] 24)) (by simp)
 have vc1:=Vr.new (w.alloc (.cells #[.pointer (some ⟨b,0,none⟩)] 192)) (.int .i64 x) 24
 rw[World.size_alloc]at vc1
 have g1:=h.off o1 (by simp)
 have lb:=h.lt
 generalize (w.alloc (.cells #[.pointer (some ⟨b,0,none⟩)] 192)).alloc (.cells #[.int .i64 x] 24)=w1 at *
 refine (eK ⟨b,0,none⟩ _ g1.c0 (g1.fz 0)).mono ?_
 rintro e w2 ⟨rfl,hw⟩
 have g2:GR w2 b 1 0 0 0 t:=hw ▸ g1.s0 1
 have o2:Off [b] w1 w2:=hw ▸ Off.setCell b 0 w1 _
 clear hw
 have vg2:=vg1.off o2 (by simp;omega)
 have vc2:=vc1.off o2 (by simp;omega)
 have o2':Off [b] w w2:=(o1.more (by simp)).trans o2
 clear g1 vg1 vc1 o1 o2
 have cg:=vg2.c
 have c6:=g2.c6
 have z6:=g2.fz 6
 have lg:=vg2.lt
 have lc:=vc2.lt
 have l2:=g2.lt
 go_wp2_with fail
 have s2:w.heap.size≤w2.heap.size:=o2'.size
 have o3:Off [b] w2 ((w2.setCell ⟨b,6,none⟩ (.int .i64 (wrap64 (t+1)))).alloc (.cells #[.bool false] 4)):=(Off.setCell b 6 w2 _).trans (Off.alloc _ _ _)
 have vf3:=Vr.new (w2.setCell ⟨b,6,none⟩ (.int .i64 (wrap64 (t+1)))) (.bool false) 4
 have g3:=(g2.s6 (wrap64 (t+1))).off (Off.alloc [] _ (.cells #[.bool false] 4)) (by simp)
 rw[show (w2.setCell ⟨b,6,none⟩ (.int .i64 (wrap64 (t+1)))).heap.size=w2.heap.size by simp[World.setCell]]at vf3
 generalize (w2.setCell ⟨b,6,none⟩ (.int .i64 (wrap64 (t+1)))).alloc (.cells #[.bool false] 4)=w3 at *
 have vg3:=vg2.off o3 (by simp;omega)
 have vc3:=vc2.off o3 (by simp;omega)
 have o3':=o2'.trans o3
 clear vg2 vc2 g2 o2' o3 c6 z6 cg
 have o4:=Off.setCell b 3 w3 (.int .i32 1)
 have hf:=we b (w.heap.size+1) w.heap.size w2.heap.size 1 0 1 0 (wrap64 (t+1)) x (.bool false) (w3.setCell ⟨b,3,none⟩ (.int .i32 1)) (g3.s3 1) (vc3.off o4 (by simp;omega)) (vg3.off o4 (by simp;omega)) (vf3.off o4 (by simp;omega)) (by omega)
 refine (zt 217 b 2 _ w3 _ (fun _=>by kernel_rfl) g3.c2 g3.c3 (g3.fz 3) hf ?_).mono ?_
 ·rintro w5 ⟨_,g5,_⟩
  exact⟨g5.c2,g5.c3,g5.fz 2,g5.fz 3⟩
 rintro e w6 ⟨rfl,w5,⟨o5,g5,v5⟩,hw⟩
 have g6:GR w6 b 1 1 0 x (wrap64 (t+1)):=hw ▸ (g5.drew.s2 1).s3 0
 have o6:Off [b] w5 w6:=hw ▸ ((Off.drew _ _).trans (Off.setCell b 2 _ _)).trans (Off.setCell b 3 _ _)
 have v6:=v5.off o6 (by simp;omega)
 have m1:∀ k,k ∈ [b]→k ∈ [b,w2.heap.size]:=by simp
 have o7:Off [b] w w6:=((((o3'.more m1).trans (o4.more m1)).trans o5).trans (o6.more m1)).only (by simp;omega)
 clear hf g5 v5 o5 o4 o3' hw vf3 vg3 vc3 g3
 have cf:=v6.c
 go_wp2_with fail
 refine leaves_cons (f:=115) (args:=#[.pointer (some ⟨b,0,none⟩)]) (by simp) (by simp[go_sem]) ?_
 refine (cq ⟨b,0,none⟩ .returning _ g6.c0 (g6.fz 0)).mono ?_
 rintro e u' w'' ⟨rfl,rfl,hw⟩
 have g8:GR w'' b 0 1 0 x (wrap64 (t+1)):=hw ▸ g6.s0 0
 have o8:Off [b] w6 w'':=hw ▸ Off.setCell b 0 _ _
 exact⟨_,results_tmp rfl _ _ _,rfl,o7.trans o8,g8⟩
theorem pz (b:Nat) (x c t:Int) (hx:¬ x=0) (w:World) (h:GR w b 0 1 0 c t) :
  Calls Tryz.prog 184 #[.pointer (some ⟨b,0,none⟩),.int .i64 x] w fun e w'=>e=.returned (.bool false)∧(Off [b] w w'∧GR w' b 0 1 0 c (wrap64 (t+1))):=by
 have hmf:∀ (fn:Fn) (first cap:Array Value) (w:World),(Instr.makeFunc fn first cap).run Tryz.prog w=.ok (.func fn first cap) w:=fun _ _ _ _=>rfl
 go_enter_defers Tryz.func184,Tryz.ntmps184
 go_wp2_with fail
 have o1:Off [] w ((w.alloc (.cells #[.pointer (some ⟨b,0,none⟩)] 192)).alloc (.cells #[.int .i64 x] 24)):=(Off.alloc _ _ _).trans (Off.alloc _ _ _)
 have vg1:=(Vr.new w (.pointer (some ⟨b,0,none⟩)) 192).off (Off.alloc [] _ (.cells #[.int .i64 x] 24)) (by simp)
 have vc1:=Vr.new (w.alloc (.cells #[.pointer (some ⟨b,0,none⟩)] 192)) (.int .i64 x) 24
 rw[World.size_alloc]at vc1
 have g1:=h.off o1 (by simp)
 have lb:=h.lt
 generalize (w.alloc (.cells #[.pointer (some ⟨b,0,none⟩)] 192)).alloc (.cells #[.int .i64 x] 24)=w1 at *
 refine (eK ⟨b,0,none⟩ _ g1.c0 (g1.fz 0)).mono ?_
 rintro e w2 ⟨rfl,hw⟩
 have g2:GR w2 b 1 1 0 c t:=hw ▸ g1.s0 1
 have o2:Off [b] w1 w2:=hw ▸ Off.setCell b 0 w1 _
 clear hw
 have vg2:=vg1.off o2 (by simp;omega)
 have vc2:=vc1.off o2 (by simp;omega)
 have o2':Off [b] w w2:=(o1.more (by simp)).trans o2
 clear g1 vg1 vc1 o1 o2
 have cg:=vg2.c
 have c6:=g2.c6
 have z6:=g2.fz 6
 have lg:=vg2.lt
 have lc:=vc2.lt
 have l2:=g2.lt
 go_wp2_with fail
 have s2:w.heap.size≤w2.heap.size:=o2'.size
 have o3:Off [b] w2 ((w2.setCell ⟨b,6,none⟩ (.int .i64 (wrap64 (t+1)))).alloc (.cells #[.bool false] 4)):=(Off.setCell b 6 w2 _).trans (Off.alloc _ _ _)
 have vf3:=Vr.new (w2.setCell ⟨b,6,none⟩ (.int .i64 (wrap64 (t+1)))) (.bool false) 4
 have g3:=(g2.s6 (wrap64 (t+1))).off (Off.alloc [] _ (.cells #[.bool false] 4)) (by simp)
 rw[show (w2.setCell ⟨b,6,none⟩ (.int .i64 (wrap64 (t+1)))).heap.size=w2.heap.size by simp[World.setCell]]at vf3
 generalize (w2.setCell ⟨b,6,none⟩ (.int .i64 (wrap64 (t+1)))).alloc (.cells #[.bool false] 4)=w3 at *
 have vg3:=vg2.off o3 (by simp;omega)
 have vc3:=vc2.off o3 (by simp;omega)
 have o3':=o2'.trans o3
 clear vg2 vc2 g2 o2' o3 c6 z6 cg
 refine (vN ⟨b,2,none⟩ _ w3 g3.c2).mono ?_
 rintro e w6 ⟨rfl,hw⟩
 have g6:GR w6 b 1 1 0 c (wrap64 (t+1)):=hw ▸ g3
 have v6:Vr w6 w2.heap.size (.bool false) 4:=hw ▸ vf3
 have o7:Off [b] w w6:=hw ▸ o3'
 clear o3' hw vf3 vg3 vc3 g3
 have cf:=v6.c
 go_wp2_with fail
 refine leaves_cons (f:=115) (args:=#[.pointer (some ⟨b,0,none⟩)]) (by simp) (by simp[go_sem]) ?_
 refine (cq ⟨b,0,none⟩ .returning _ g6.c0 (g6.fz 0)).mono ?_
 rintro e u' w'' ⟨rfl,rfl,hw⟩
 have g8:GR w'' b 0 1 0 c (wrap64 (t+1)):=hw ▸ g6.s0 0
 have o8:Off [b] w6 w'':=hw ▸ Off.setCell b 0 _ _
 exact⟨_,results_tmp rfl _ _ _,rfl,o7.trans o8,g8⟩
structure Vs where
 run:Bool
 held:Bool
 fr:Bool
 lat:Int
 sm:Bool
 bs:Nat→Nat
def ni:Vs:=⟨false,false,false,0,false,fun _=>0⟩
def cH (s:Vs) (x:Int):Vs:=if x=0 then s else { s with fr:=false,sm:=false,lat:=if s.lat=0 then x else s.lat }
def dE (s:Vs) (o:Bool):Vs:=if s.run=o then s else { s with run:=o,held:=false,sm:=false }
def fD (s:Vs) (o:Bool):Vs:={ s with held:=o && s.run }
def dj (s:Vs):Vs:={ s with fr:=s.lat != 0 }
def dH (s:Vs) (bs:Nat→Nat):Vs:=if s.run=true∧s.lat=0 then { s with sm:=true,bs:=bs } else s
def ak (s:Vs):Bool:=s.run && (s.lat != 0 && s.fr)
def gh (s:Vs):Vs:=if ak s=true then { s with lat:=0,fr:=false } else s
def ax (s:Vs):Bool:=s.run && (!s.held && s.sm)
def dC (s:Vs):Nat→Nat:=if ax s=true then s.bs else fun _=>0
theorem Row8.off {l:List Nat} {w w':World} {a:Option Addr} {len cap:Nat} {bs:Nat→Nat} (h:Row8 w a len cap bs) (q:Off l w w') (hl:∀ x,a=some x→x.block ∉ l):Row8 w' a len cap bs:=by
 refine⟨h.byte,h.nil,fun x hx i hi=>?_,h.le⟩
 have h1:=h.src x hx i hi
 have hlt:=World.block_lt_of_cell? w _ h1
 have hb:(x.add i).block=x.block:=by unfold Addr.add;split <;> rfl
 have he:w'.heap[(x.add i).block]?=w.heap[(x.add i).block]?:=q.block _ hlt (by rw[hb];exact hl x hx)
 rw[← h1]
 unfold World.cell?
 rw[he]
def VC (n:Nat) (s:Vs) (g:Nat) (v:Value):Array Value:=#[.int .i64 (n:Nat),.bool s.run,.bool s.held,.pointer (some ⟨g,0,none⟩),.bool s.fr,v]
def VV (w:World) (M:List Nat) (n:Nat) (s:Vs) (v:Value):Prop:=(s.sm=false∧v=.slice none 0 0)∨(s.sm=true∧(w.ownsRow 0 5 1 v n (CB s.bs n)∧∀ k,v.ownBlock=some k→k ∈ M)∧∀ i,i<n→s.bs i<256)
theorem aC {l:List Nat} {w w':World} {B e size n:Nat} {v:Value} {xs:List Value} (h:w.ownsRow B e size v n xs) (q:Off l w w') (hl:∀ k,v.ownBlock=some k→k ∉ l):w'.ownsRow B e size v n xs:=by
 refine⟨h.1,?_⟩
 rcases h.2 with hn | ⟨g,cap,cur,rfl,hg,hgg,rest⟩
 ·exact .inl hn
 ·exact .inr ⟨g,cap,cur,rfl,hg,by rw[q.block g (Array.getElem?_eq_some_iff.1 hgg).1 (hl g rfl)];exact hgg,rest⟩
theorem VV.off {l:List Nat} {w w':World} {M:List Nat} {n:Nat} {s:Vs} {v:Value} (h:VV w M n s v) (q:Off l w w') (hl:∀ k,k ∈ l→k ∉ M):VV w' M n s v:=by
 rcases h with h | ⟨h1,h2,h3⟩
 ·exact .inl h
 ·exact .inr ⟨h1,⟨aC h2.1 q (fun k hk hm=>hl k hm (h2.2 k hk)),h2.2⟩,h3⟩
structure VR (w:World) (b g:Nat) (M:List Nat) (n:Nat) (s:Vs):Prop where
 ex:∃ v t,w.heap[b]?=some (.cells (VC n s g v) 194 (0,0))∧GR w g 0 (if s.lat=0 then 0 else 1) 0 s.lat t∧VV w M n s v
 bM:b ∉ M
 gM:g ∉ M
 ne:g≠b
 n1:1≤n
 n8:n≤8
section
variable {w w':World} {b g:Nat} {M:List Nat} {n:Nat} {s:Vs}
theorem VR.lt (h:VR w b g M n s):b<w.heap.size:=by
 obtain⟨v,t,h1,_⟩:=h.ex
 exact (Array.getElem?_eq_some_iff.1 h1).1
theorem VR.off {l:List Nat} (h:VR w b g M n s) (q:Off l w w') (hb:b ∉ l) (hg:g ∉ l) (hl:∀ k,k ∈ l→k ∉ M):VR w' b g M n s:=by
 obtain⟨v,t,h1,h2,h3⟩:=h.ex
 exact⟨⟨v,t,(q.block b h.lt hb).trans h1,h2.off q hg,h3.off q hl⟩,h.bM,h.gM,h.ne,h.n1,h.n8⟩
theorem VR.cells (h:VR w b g M n s):∃ v t,w.cell? ⟨b,0,none⟩=some (.int .i64 (n:Nat))∧w.cell? ⟨b,1,none⟩=some (.bool s.run)∧w.cell? ⟨b,2,none⟩=some (.bool s.held)∧w.cell? ⟨b,3,none⟩=some (.pointer (some ⟨g,0,none⟩)) ∧
  w.cell? ⟨b,4,none⟩=some (.bool s.fr)∧w.cell? ⟨b,5,none⟩=some v∧(∀ j,w.frozen? ⟨b,j,none⟩=false)∧GR w g 0 (if s.lat=0 then 0 else 1) 0 s.lat t∧VV w M n s v∧w.heap[b]?=some (.cells (VC n s g v) 194 (0,0)):=by
 obtain⟨v,t,e,h2,h3⟩:=h.ex
 exact⟨v,t,ac w b 0 _ _ _ e,ac w b 1 _ _ _ e,ac w b 2 _ _ _ e,ac w b 3 _ _ _ e,ac w b 4 _ _ _ e,ac w b 5 _ _ _ e,fun j=>frozen_of_row w b j _ _ e,h2,h3,e⟩
end
theorem fK (b g:Nat) (M:List Nat) (n:Nat) (s:Vs) (w:World) (h:VR w b g M n s) :
  Calls Tryz.prog 92 #[.pointer (some ⟨b,0,none⟩)] w fun e w'=>e=.returned (.bool (s.lat != 0))∧w'=w:=by
 obtain⟨v,t,c0,c1,c2,c3,c4,c5,fz,G,V,hb⟩:=h.cells
 have H:Hid (_):=G
 clear G V hb h
 by_cases hl:s.lat=0
 ·rw[hl]
  go_enter Tryz.func92,Tryz.ntmps92
  go_wp2_with fail
  refine (ix g _ _ t w H.out).mono ?_
  rintro e w2 ⟨rfl,rfl⟩
  rw[hl]
  go_wp2_with fail
  go_ret
  exact⟨rfl,rfl⟩
 ·have hl':(s.lat != 0)=true:=by simpa using hl
  rw[hl']
  go_enter Tryz.func92,Tryz.ntmps92
  go_wp2_with fail
  refine (ix g _ _ t w H.out).mono ?_
  rintro e w2 ⟨rfl,rfl⟩
  go_wp2_with fail
  go_ret
  exact⟨rfl,rfl⟩
theorem gQ (b g:Nat) (M:List Nat) (n:Nat) (s:Vs) (w:World) (h:VR w b g M n s) :
  Calls Tryz.prog 68 #[.pointer (some ⟨b,0,none⟩)] w fun e w'=>e=.returned (.int .i64 s.lat)∧w'=w:=by
 obtain⟨v,t,c0,c1,c2,c3,c4,c5,fz,G,V,hb⟩:=h.cells
 have H:Hid (_):=G
 clear G V hb h
 go_enter Tryz.func68,Tryz.ntmps68
 go_wp2_with fail
 refine (ix g _ _ t w H.out).mono ?_
 rintro e w2 ⟨rfl,rfl⟩
 go_wp2_with fail
 go_ret
 exact⟨rfl,rfl⟩
theorem fM (b g:Nat) (M:List Nat) (n:Nat) (s:Vs) (w:World) (h:VR w b g M n s) :
  Calls Tryz.prog 69 #[.pointer (some ⟨b,0,none⟩)] w fun e w'=>e=.returned (.bool (ak s))∧w'=w:=by
 obtain⟨v,t,c0,c1,c2,c3,c4,c5,fz,G,V,hb⟩:=h.cells
 have hl:=fK b g M n s w h
 clear G V hb h
 unfold ak
 cases hr:s.run
 ·rw[hr]at c1
  go_enter Tryz.func69,Tryz.ntmps69
  go_wp2_with fail
  go_ret
  exact⟨rfl,rfl⟩
 ·rw[hr]at c1
  generalize (s.lat != 0)=q at hl ⊢
  cases q
  ·go_enter Tryz.func69,Tryz.ntmps69
   go_wp2_with (go_at_call 92;refine hl.mono ?_;rintro e w' ⟨rfl,rfl⟩)
   go_ret
   exact⟨rfl,rfl⟩
  ·go_enter Tryz.func69,Tryz.ntmps69
   go_wp2_with (go_at_call 92;refine hl.mono ?_;rintro e w' ⟨rfl,rfl⟩)
   go_ret
   exact⟨rfl,rfl⟩
theorem ur (b n:Nat) (r hd:Bool) (x:Value) (w:World) (c0:w.cell? ⟨b,0,none⟩=some (.int .i64 (n:Nat))) (c1:w.cell? ⟨b,1,none⟩=some (.bool r)) (c2:w.cell? ⟨b,2,none⟩=some (.bool hd)) (c5:w.cell? ⟨b,5,none⟩=some x) (h8:n≤8)
  (hx:r=false∨hd=true∨x=.slice none 0 0) :
  Calls Tryz.prog 66 #[.pointer (some ⟨b,0,none⟩)] w fun e w'=>∃ v,e=.returned (.tuple #[v,.bool false])∧Hid (w'.ownsRow w.heap.size 5 1 v n (CB (fun _=>0) n)∧Below w.heap.size w w'):=by
 obtain⟨i0,hi,hz0,hz1,hz2⟩:=info_parts bQ
 cases r
 ·go_enter Tryz.func66,Tryz.ntmps66
  go_wp2_with (at_make;refine aX _ rfl (.tmp 27) (.tmp 27) 37 rfl w.heap.size 5 i0 Tryz.underlying37 hi hz0 hz1 hz2 _ _ _ _ n n rfl rfl rfl rfl (Nat.le_refl _) (by omega) (Nat.le_refl _) ?_)
  intro w1 hown1 hbel1
  have H:Hid (_):=And.intro hown1 hbel1
  clear hown1 hbel1
  go_wp2_with fail
  go_ret2
  exact⟨_,rfl,H⟩
 ·cases hd
  ·have e:x=.slice none 0 0:=by rcases hx with h | h | h <;> simp_all
   subst e
   have he:∀ w:World,(binOp .eql 37 (.slice none 0 0) (.slice none 0 0)).run Tryz.prog w=.ok (.bool true) w:=fun _=>by kernel_rfl
   go_enter Tryz.func66,Tryz.ntmps66
   go_wp2_with (at_make;refine aX _ rfl (.tmp 27) (.tmp 27) 37 rfl w.heap.size 5 i0 Tryz.underlying37 hi hz0 hz1 hz2 _ _ _ _ n n rfl rfl rfl rfl (Nat.le_refl _) (by omega) (Nat.le_refl _) ?_)
   intro w1 hown1 hbel1
   have H:Hid (_):=And.intro hown1 hbel1
   clear hown1 hbel1
   go_wp2_with fail
   go_ret2
   exact⟨_,rfl,H⟩
  ·go_enter Tryz.func66,Tryz.ntmps66
   go_wp2_with (at_make;refine aX _ rfl (.tmp 27) (.tmp 27) 37 rfl w.heap.size 5 i0 Tryz.underlying37 hi hz0 hz1 hz2 _ _ _ _ n n rfl rfl rfl rfl (Nat.le_refl _) (by omega) (Nat.le_refl _) ?_)
   intro w1 hown1 hbel1
   have H:Hid (_):=And.intro hown1 hbel1
   clear hown1 hbel1
   go_wp2_with fail
   go_ret2
   exact⟨_,rfl,H⟩
theorem uQ (b n:Nat) (ad:Addr) (cap:Nat) (bs:Nat→Nat) (w:World) (c1:w.cell? ⟨b,1,none⟩=some (.bool true)) (c2:w.cell? ⟨b,2,none⟩=some (.bool false)) (c5:w.cell? ⟨b,5,none⟩=some (.slice (some ad) n cap)) (h8:n≤8)
  (R:Row8 w (some ad) n cap bs) :
  Calls Tryz.prog 66 #[.pointer (some ⟨b,0,none⟩)] w fun e w'=>∃ v,e=.returned (.tuple #[v,.bool true])∧Hid (w'.ownsRow w.heap.size 5 1 v n (CB bs n)∧Below w.heap.size w w'):=by
 obtain⟨i0,hi,hz0,hz1,hz2⟩:=info_parts bQ
 have O0:=World.ownsRow_nil w w.heap.size 5 1
 have he:∀ w:World,(binOp .eql 37 (.slice (some ad) n cap) (.slice none 0 0)).run Tryz.prog w=.ok (.bool false) w:=fun _=>by kernel_rfl
 go_enter Tryz.func66,Tryz.ntmps66
 go_wp2_with (at_builtin;refine aT rfl (.const (.slice none 0 0)) (.tmp 32) 37 rfl w.heap.size 5 i0 (.int .u8 0) Tryz.underlying37 hi hz0 hz1 hz2 rfl _ 0 _ rfl O0 (some ad) n cap bs rfl R (by unfold maxLen;omega) (by omega) (Nat.le_refl _) ?_)
 intro v2 w2 hown2 hgrow2
 have hbel2:Below w.heap.size w w2:=(Below.refl _ _).grown hgrow2 (Nat.le_refl _) (fun j hj=>by cases hj)
 have H:Hid (_):=And.intro hown2 hbel2
 clear hown2 hbel2 hgrow2 O0 R
 go_wp2_with fail
 go_ret2
 exact⟨_,rfl,H⟩
theorem gP (b g:Nat) (M:List Nat) (n:Nat) (s:Vs) (w:World) (h:VR w b g M n s) :
  Calls Tryz.prog 66 #[.pointer (some ⟨b,0,none⟩)] w fun e w'=>∃ v,e=.returned (.tuple #[v,.bool (ax s)])∧Hid (w'.ownsRow w.heap.size 5 1 v n (CB (dC s) n)∧Below w.heap.size w w'):=by
 obtain⟨v,t,c0,c1,c2,c3,c4,c5,fz,G,V,hb⟩:=h.cells
 by_cases ho:ax s=true
 ·unfold dC
  rw[if_pos ho,ho]
  simp only[ax,Bool.and_eq_true,Bool.not_eq_true']at ho
  obtain⟨o1,o2,o3⟩:=ho
  rcases V with ⟨e,_⟩ | ⟨_,⟨V,_⟩,hby⟩
  ·rw[o3]at e;cases e
  obtain⟨a,cap,rfl,R⟩:=aS V hby
  have n1:=h.n1
  obtain⟨hb',off',rfl,_⟩:=R.plain (by omega)
  exact uQ b n _ cap s.bs w (o1 ▸ c1) (o2 ▸ c2) c5 h.n8 R
 ·have ho':ax s=false:=by simpa using ho
  unfold dC
  rw[if_neg ho,ho']
  refine ur b n s.run s.held v w c0 c1 c2 c5 h.n8 ?_
  rcases V with ⟨_,rfl⟩ | ⟨e,_⟩
  ·exact .inr (.inr rfl)
  ·unfold ax at ho'
   rw[e]at ho'
   cases hr:s.run
   ·exact .inl rfl
   ·rw[hr]at ho'
    cases hh:s.held
    ·rw[hh]at ho';cases ho'
    ·exact .inr (.inl rfl)
end Go.Proofs.YtdmjfemodihfhaaGreat
namespace Go.Proofs.YtdmjfemodihfhaaGreat
set_option maxRecDepth 100000
open Go.RowKit
section
variable {w w':World} {b g:Nat} {M:List Nat} {n:Nat} {s:Vs}
theorem VR.upd (h:VR w b g M n s) (s':Vs) (q:Off [b] w w') (hl:s'.lat=s.lat) (hc:∀ v,w.heap[b]?=some (.cells (VC n s g v) 194 (0,0))→VV w M n s v→∃ v',w'.heap[b]?=some (.cells (VC n s' g v') 194 (0,0))∧VV w' M n s' v'):VR w' b g M n s':=by
 obtain⟨v,t,e,G,V⟩:=h.ex
 obtain⟨v',e',V'⟩:=hc v e V
 exact⟨⟨v',t,e',by rw[hl];exact G.off q (by simpa using h.ne),V'⟩,h.bM,h.gM,h.ne,h.n1,h.n8⟩
end
theorem fo (b g:Nat) (M:List Nat) (n:Nat) (s:Vs) (o:Bool) (w:World) (h:VR w b g M n s) :
  Calls Tryz.prog 167 #[.pointer (some ⟨b,0,none⟩),.bool o] w fun e w'=>e=.returned (.tuple #[])∧Hid (Off [b,g] w w'∧VR w' b g M n (dE s o)):=by
 obtain⟨v,t,c0,c1,c2,c3,c4,c5,fz,G,V,hb⟩:=h.cells
 have z1:=fz 1
 have z2:=fz 2
 have z5:=fz 5
 unfold dE
 by_cases hr:s.run=o
 ·rw[if_pos hr]
  have H:Hid (_):=h
  rw[hr]at c1
  clear h G V hb
  cases o
  ·go_enter Tryz.func167,Tryz.ntmps167
   go_wp2_with fail
   refine bodyPost_ret (results_none rfl _ _ _) rfl ?_
   exact⟨rfl,Off.refl _ _,H.out⟩
  ·go_enter Tryz.func167,Tryz.ntmps167
   go_wp2_with fail
   refine bodyPost_ret (results_none rfl _ _ _) rfl ?_
   exact⟨rfl,Off.refl _ _,H.out⟩
 ·rw[if_neg hr]
  have o1:=Off.setCell b 1 w (.bool o)
  have o2:=o1.trans (Off.setCell b 2 _ (.bool false))
  have o3:=o2.trans (Off.setCell b 5 _ (.slice none 0 0))
  have F:Hid (Off [b,g] w (((w.setCell ⟨b,1,none⟩ (.bool o)).setCell ⟨b,2,none⟩ (.bool false)).setCell ⟨b,5,none⟩ (.slice none 0 0))∧VR (((w.setCell ⟨b,1,none⟩ (.bool o)).setCell ⟨b,2,none⟩ (.bool false)).setCell ⟨b,5,none⟩ (.slice none 0 0)) b g M n { s with run:=o,held:=false,sm:=false }):=
   ⟨o3.more (by simp),h.upd _ o3 rfl fun v e _=>⟨.slice none 0 0,heap_setCell_same _ _ _ _ _ _ (heap_setCell_same _ _ _ _ _ _ (heap_setCell_same _ _ _ _ _ _ e)),.inl ⟨rfl,rfl⟩⟩⟩
  clear h G V hb o1 o2 o3
  have hr':s.run = !o:=by cases o <;> cases hq:s.run <;> simp_all
  rw[hr']at c1
  clear hr
  cases o
  ·go_enter Tryz.func167,Tryz.ntmps167
   go_wp2_with fail
   go_end0
   exact⟨rfl,F⟩
  ·go_enter Tryz.func167,Tryz.ntmps167
   go_wp2_with fail
   go_end0
   exact⟨rfl,F⟩
theorem kI (b g:Nat) (M:List Nat) (n:Nat) (s:Vs) (o:Bool) (w:World) (h:VR w b g M n s) :
  Calls Tryz.prog 169 #[.pointer (some ⟨b,0,none⟩),.bool o] w fun e w'=>e=.returned (.tuple #[])∧Hid (Off [b,g] w w'∧VR w' b g M n (fD s o)):=by
 obtain⟨v,t,c0,c1,c2,c3,c4,c5,fz,G,V,hb⟩:=h.cells
 have z2:=fz 2
 unfold fD
 have o1:=Off.setCell b 2 w (.bool (o && s.run))
 have F:Hid (Off [b,g] w (w.setCell ⟨b,2,none⟩ (.bool (o && s.run)))∧VR (w.setCell ⟨b,2,none⟩ (.bool (o && s.run))) b g M n { s with held:=o && s.run }):=
  ⟨o1.more (by simp),h.upd _ o1 rfl fun v e V=>⟨v,heap_setCell_same _ _ _ _ _ _ e,VV.off (s:={ s with held:=o && s.run }) V o1 (by simpa using h.bM)⟩⟩
 clear h G V hb o1
 cases o
 ·go_enter Tryz.func169,Tryz.ntmps169
  go_wp2_with fail
  go_end0
  exact⟨rfl,F⟩
 ·go_enter Tryz.func169,Tryz.ntmps169
  go_wp2_with fail
  go_end0
  exact⟨rfl,F⟩
theorem jC (b g:Nat) (M:List Nat) (n:Nat) (s:Vs) (w:World) (h:VR w b g M n s) :
  Calls Tryz.prog 201 #[.pointer (some ⟨b,0,none⟩)] w fun e w'=>e=.returned (.tuple #[])∧Hid (Off [b,g] w w'∧VR w' b g M n (dj s)):=by
 obtain⟨v,t,c0,c1,c2,c3,c4,c5,fz,G,V,hb⟩:=h.cells
 have z4:=fz 4
 have hl:=fK b g M n s w h
 unfold dj
 generalize (s.lat != 0)=q at hl ⊢
 have o1:=Off.setCell b 4 w (.bool q)
 have F:Hid (Off [b,g] w (w.setCell ⟨b,4,none⟩ (.bool q))∧VR (w.setCell ⟨b,4,none⟩ (.bool q)) b g M n { s with fr:=q }):=
  ⟨o1.more (by simp),h.upd _ o1 rfl fun v e V=>⟨v,heap_setCell_same _ _ _ _ _ _ e,VV.off (s:={ s with fr:=q }) V o1 (by simpa using h.bM)⟩⟩
 clear h G V hb o1
 go_enter Tryz.func201,Tryz.ntmps201
 go_wp2_with (go_at_call 92;refine hl.mono ?_;rintro e w' ⟨rfl,rfl⟩)
 go_end0
 exact⟨rfl,F⟩
def fG (s:Vs) (x:Int):Bool:=decide (¬ x=0∧s.lat=0)
theorem uh (b:Nat) (w:World) :
  Calls Tryz.prog 148 #[.pointer (some ⟨b,0,none⟩),.int .i64 0] w fun e w'=>e=.returned (.bool false)∧w'=w:=by
 go_enter Tryz.func148,Tryz.ntmps148
 go_wp2_with fail
 go_ret
 exact⟨rfl,rfl⟩
theorem oY (b g:Nat) (x:Int) (hx:¬ x=0) (q:Bool) (w:World) (P:World→Prop) (v y:Value) (c3:w.cell? ⟨b,3,none⟩=some (.pointer (some ⟨g,0,none⟩))) (c4:w.cell? ⟨b,4,none⟩=some y) (c5:w.cell? ⟨b,5,none⟩=some v) (z4:w.frozen? ⟨b,4,none⟩=false) (z5:w.frozen? ⟨b,5,none⟩=false)
  (hg:Calls Tryz.prog 184 #[.pointer (some ⟨g,0,none⟩),.int .i64 x] ((w.setCell ⟨b,5,none⟩ (.slice none 0 0)).setCell ⟨b,4,none⟩ (.bool false)) fun e w'=>e=.returned (.bool q)∧P w') :
  Calls Tryz.prog 148 #[.pointer (some ⟨b,0,none⟩),.int .i64 x] w fun e w'=>e=.returned (.bool q)∧P w':=by
 go_enter Tryz.func148,Tryz.ntmps148
 go_wp2_with fail
 refine hg.mono ?_
 rintro e w2 ⟨rfl,p⟩
 have H:Hid (_):=p
 clear p hg
 go_wp2_with fail
 go_ret
 exact⟨rfl,H.out⟩
theorem gc (b g:Nat) (M:List Nat) (n:Nat) (s:Vs) (x:Int) (w:World) (h:VR w b g M n s) :
  Calls Tryz.prog 148 #[.pointer (some ⟨b,0,none⟩),.int .i64 x] w fun e w'=>e=.returned (.bool (fG s x))∧Hid (Off [b,g] w w'∧VR w' b g M n (cH s x)):=by
 unfold fG cH
 by_cases hx:x=0
 ·rw[if_pos hx,decide_eq_false (fun k=>k.1 hx)]
  subst hx
  exact (uh b w).mono (fun _ _ ⟨he,hw⟩=>⟨he,by subst hw;exact⟨Off.refl _ _,h⟩⟩)
 ·rw[if_neg hx]
  obtain⟨v,t,c0,c1,c2,c3,c4,c5,fz,G,V,hb⟩:=h.cells
  have o1:=Off.setCell b 5 w (.slice none 0 0)
  have o2:=o1.trans (Off.setCell b 4 _ (.bool false))
  have e2:((w.setCell ⟨b,5,none⟩ (.slice none 0 0)).setCell ⟨b,4,none⟩ (.bool false)).heap[b]?=some (.cells (VC n { s with fr:=false,sm:=false } g (.slice none 0 0)) 194 (0,0)):=heap_setCell_same _ _ _ _ _ _ (heap_setCell_same _ _ _ _ _ _ hb)
  have G2:=G.off o2 (by simpa using h.ne)
  have s2:=Nat.lt_of_lt_of_le h.lt o2.size
  refine oY b g x hx (decide (¬ x=0∧s.lat=0)) w (fun w'=>Hid (Off [b,g] w w'∧VR w' b g M n { s with fr:=false,sm:=false,lat:=if s.lat=0 then x else s.lat })) v _ c3 c4 c5 (fz 4) (fz 5) ?_
  generalize (w.setCell ⟨b,5,none⟩ (.slice none 0 0)).setCell ⟨b,4,none⟩ (.bool false)=w2 at *
  by_cases hl:s.lat=0
  ·rw[decide_eq_true ⟨hx,hl⟩,if_pos hl]
   rw[if_pos hl,hl]at G2
   refine (oX g x t hx w2 G2).mono ?_
   rintro e w3 ⟨rfl,o3,G3⟩
   refine⟨rfl,(o2.more (by simp)).trans (o3.more (by simp)),⟨⟨_,wrap64 (t+1),(o3.block b s2 (by simpa using Ne.symm h.ne)).trans e2,?_,.inl ⟨rfl,rfl⟩⟩,h.bM,h.gM,h.ne,h.n1,h.n8⟩⟩
   show GR w3 g 0 (if x=0 then 0 else 1) 0 x _
   rw[if_neg hx]
   exact G3
  ·rw[decide_eq_false (fun k=>hl k.2),if_neg hl]
   rw[if_neg hl]at G2
   refine (pz g x s.lat t hx w2 G2).mono ?_
   rintro e w3 ⟨rfl,o3,G3⟩
   refine⟨rfl,(o2.more (by simp)).trans (o3.more (by simp)),⟨⟨_,wrap64 (t+1),(o3.block b s2 (by simpa using Ne.symm h.ne)).trans e2,?_,.inl ⟨rfl,rfl⟩⟩,h.bM,h.gM,h.ne,h.n1,h.n8⟩⟩
   show GR w3 g 0 (if s.lat=0 then 0 else 1) 0 s.lat _
   rw[if_neg hl]
   exact G3
def tr (n len:Nat):Int:=if len=n then 0 else 45
theorem rV (b n:Nat) (a:Option Addr) (len cap:Nat) (w:World) (c0:w.cell? ⟨b,0,none⟩=some (.int .i64 (n:Nat))) (hn:¬ len=n) :
  Calls Tryz.prog 170 #[.pointer (some ⟨b,0,none⟩),.slice a len cap] w fun e w'=>e=.returned (.int .i64 45)∧w'=w:=by
 have hI:¬ (len:Int)=(n:Int):=by omega
 go_enter Tryz.func170,Tryz.ntmps170
 go_wp2_with fail
 go_ret
 exact⟨rfl,rfl⟩
theorem ux (b n:Nat) (r q:Bool) (a:Option Addr) (cap:Nat) (w:World) (c0:w.cell? ⟨b,0,none⟩=some (.int .i64 (n:Nat))) (c1:w.cell? ⟨b,1,none⟩=some (.bool r))
  (hl:Calls Tryz.prog 92 #[.pointer (some ⟨b,0,none⟩)] w fun e w'=>e=.returned (.bool q)∧w'=w) (hx:r=false∨q=true) :
  Calls Tryz.prog 170 #[.pointer (some ⟨b,0,none⟩),.slice a n cap] w fun e w'=>e=.returned (.int .i64 0)∧w'=w:=by
 cases r
 ·go_enter Tryz.func170,Tryz.ntmps170
  go_wp2_with fail
  go_ret
  exact⟨rfl,rfl⟩
 ·have e:q=true:=by rcases hx with h | h <;> simp_all
  subst e
  go_enter Tryz.func170,Tryz.ntmps170
  go_wp2_with (go_at_call 92;refine hl.mono ?_;rintro e w' ⟨rfl,rfl⟩)
  go_ret
  exact⟨rfl,rfl⟩
theorem rd (b n:Nat) (v:Value) (a:Option Addr) (cap:Nat) (bs:Nat→Nat) (w:World) (R:Row8 w a n cap bs) (h8:n≤8) (c0:w.cell? ⟨b,0,none⟩=some (.int .i64 (n:Nat))) (c1:w.cell? ⟨b,1,none⟩=some (.bool true)) (c5:w.cell? ⟨b,5,none⟩=some v) (z5:w.frozen? ⟨b,5,none⟩=false) (hlt:b<w.heap.size)
  (hl:Calls Tryz.prog 92 #[.pointer (some ⟨b,0,none⟩)] w fun e w'=>e=.returned (.bool false)∧w'=w) :
  Calls Tryz.prog 170 #[.pointer (some ⟨b,0,none⟩),.slice a n cap] w fun e w'=>e=.returned (.int .i64 0)∧Hid (∃ u w2,w2.ownsRow w.heap.size 5 1 u n (CB bs n)∧Below w.heap.size w w2∧w'=w2.setCell ⟨b,5,none⟩ u):=by
 obtain⟨i0,hi,hz0,hz1,hz2⟩:=info_parts bQ
 have O0:=World.ownsRow_nil w w.heap.size 5 1
 go_enter Tryz.func170,Tryz.ntmps170
 go_wp2_with (first | (go_at_call 92;refine hl.mono ?_;rintro e w' ⟨rfl,hw⟩;have hw:=hw.symm;subst hw) | (at_builtin;refine aT rfl (.const (.slice none 0 0)) (.tmp 24) 37 rfl w.heap.size 5 i0 (.int .u8 0) Tryz.underlying37 hi hz0 hz1 hz2 rfl _ 0 _ rfl O0 a n cap bs rfl R (by unfold maxLen;omega) (by omega) (Nat.le_refl _) ?_))
 intro v2 w2 hown2 hgrow2
 have hbel2:Below w.heap.size w w2:=(Below.refl _ _).grown hgrow2 (Nat.le_refl _) (fun j hj=>by cases hj)
 have d5:w2.cell? ⟨b,5,none⟩=some v:=(hbel2.cell hlt).trans c5
 have y5:w2.frozen? ⟨b,5,none⟩=false:=(hbel2.frozen hlt).trans z5
 obtain⟨a2,k2,rfl,_⟩:=aS hown2 R.byte
 have H:Hid (∃ w2' ,w2'.ownsRow w.heap.size 5 1 (.slice a2 n k2) n (CB bs n)∧Below w.heap.size w w2'∧w2=w2'):=⟨w2,hown2,hbel2,rfl⟩
 clear hown2 hbel2 hgrow2 O0 R c0 c1 c5 z5 hl
 go_wp2_with fail
 go_ret
 obtain⟨_,h1,h2,rfl⟩:=H.out
 exact⟨rfl,_,_,h1,h2,rfl⟩
theorem kP (b g:Nat) (M:List Nat) (n:Nat) (s:Vs) (a:Option Addr) (len cap:Nat) (bs:Nat→Nat) (w:World) (h:VR w b g M n s) (R:Row8 w a len cap bs) :
  Calls Tryz.prog 170 #[.pointer (some ⟨b,0,none⟩),.slice a len cap] w fun e w'=>e=.returned (.int .i64 (tr n len))∧Hid (∃ M',Off [b,g] w w'∧VR w' b g M' n (if len=n then dH s bs else s)∧∀ k,k ∈ M'→k ∈ M∨w.heap.size≤k∧k<w'.heap.size):=by
 obtain⟨v,t,c0,c1,c2,c3,c4,c5,fz,G,V,hb⟩:=h.cells
 have hl:=fK b g M n s w h
 unfold tr
 by_cases hn:len=n
 ·subst hn
  rw[if_pos rfl,if_pos rfl]
  unfold dH
  by_cases hs:s.run=true∧s.lat=0
  ·rw[if_pos hs]
   rw[show (s.lat != 0)=false by simpa using hs.2]at hl
   refine (rd b len v a cap bs w R h.n8 c0 (hs.1 ▸ c1) c5 (fz 5) h.lt hl).mono ?_
   rintro e w3 ⟨rfl,H⟩
   obtain⟨u,w2,h1,h2,rfl⟩:=H.out
   have o2:Off [b] w w2:=Off.of_below h2
   have o3:=Off.setCell b 5 w2 u
   have hob:∀ k,u.ownBlock=some k→w.heap.size≤k∧k<w2.heap.size:=by
    intro k hk
    rcases h1.2 with hn | ⟨g',cap',cur',rfl,hg',hh,_⟩
    ·rw[hn.1]at hk;cases hk
    ·cases hk;exact⟨hg',(Array.getElem?_eq_some_iff.1 hh).1⟩
   have hbk:∀ k,u.ownBlock=some k→k ∉ [b]:=fun k hk hm=>by have:=hob k hk;have:=h.lt;simp at hm;omega
   cases hu:u.ownBlock with
   | none=>
    refine⟨rfl,M,(o2.more (by simp)).trans (o3.more (by simp)),h.upd _ (o2.trans o3) rfl fun v' e' _=>⟨u,heap_setCell_same _ _ _ _ _ _ ((h2.block b h.lt).trans e'),.inr ⟨rfl,⟨aC (aI h1 (Nat.zero_le _)) o3 hbk,?_⟩,R.byte⟩⟩,fun k hk=>.inl hk⟩
    intro k hk
    rw[hu]at hk;cases hk
   | some k0=>
    have hk0:=hob k0 hu
    obtain⟨v1,t1,x1,x2,_⟩:=h.ex
    have hb1:=h.lt
    have hg1:=x2.lt
    refine⟨rfl,[k0],(o2.more (by simp)).trans (o3.more (by simp)),⟨⟨u,t1,heap_setCell_same _ _ _ _ _ _ ((h2.block b h.lt).trans x1),x2.off (o2.trans o3) (by simpa using h.ne),.inr ⟨rfl,⟨aC (aI h1 (Nat.zero_le _)) o3 hbk,?_⟩,R.byte⟩⟩,?_,?_,h.ne,h.n1,h.n8⟩,?_⟩
    ·intro k hk
     rw[hu]at hk;cases hk;simp
    ·simp;omega
    ·simp;omega
    ·intro k hk
     simp at hk;subst hk;exact .inr ⟨hk0.1,Nat.lt_of_lt_of_le hk0.2 o3.size⟩
  ·rw[if_neg hs]
   refine (ux b len s.run _ a cap w c0 c1 hl ?_).mono (fun _ _ ⟨he,hw⟩=>⟨he,by subst hw;exact⟨M,Off.refl _ _,h,fun _ hk=>.inl hk⟩⟩)
   cases hr:s.run
   ·exact .inl rfl
   ·exact .inr (by simpa using fun k=>hs ⟨hr,k⟩)
 ·rw[if_neg hn,if_neg hn]
  exact (rV b n a len cap w c0 hn).mono (fun _ _ ⟨he,hw⟩=>⟨he,by subst hw;exact⟨M,Off.refl _ _,h,fun _ hk=>.inl hk⟩⟩)
def j7 (s:Vs):Int:=if ak s=true then 0 else 110
theorem mK (b g:Nat) (M:List Nat) (n:Nat) (s:Vs) (w:World) (h:VR w b g M n s) :
  Calls Tryz.prog 256 #[.pointer (some ⟨b,0,none⟩)] w fun e w'=>e=.returned (.int .i64 (j7 s))∧Hid (Off [b,g] w w'∧VR w' b g M n (gh s)):=by
 obtain⟨v,t,c0,c1,c2,c3,c4,c5,fz,G,V,hb⟩:=h.cells
 have hq:=fM b g M n s w h
 unfold j7 gh
 by_cases hr:ak s=true
 ·rw[if_pos hr,if_pos hr]
  rw[hr]at hq
  have H:Hid (_):=h
  have HG:Hid (_):=G
  have HV:Hid (_):=V
  have HB:Hid (_):=hb
  have hlt:=h.lt
  have hne:=h.ne
  clear h G V hb
  go_enter Tryz.func256,Tryz.ntmps256
  go_wp2_with (go_at_call 69;refine hq.mono ?_;rintro e w' ⟨rfl,hw⟩;have hw:=hw.symm;subst hw)
  refine (tW g _ _ t w HG.out).mono ?_
  rintro e w2 ⟨rfl,o2,G2⟩
  have e2:w2.heap[b]?=_:=(o2.block b hlt (by simpa using Ne.symm hne)).trans HB.out
  have d4:w2.cell? ⟨b,4,none⟩=some (.bool s.fr):=ac w2 b 4 _ _ _ e2
  have y4:w2.frozen? ⟨b,4,none⟩=false:=frozen_of_row w2 b 4 _ _ e2
  have K:Hid (Off [g] w w2∧GR w2 g 0 0 0 0 0∧w2.heap[b]?=some (.cells (VC n s g v) 194 (0,0))):=⟨o2,G2,e2⟩
  clear o2 G2 e2 c0 c1 c2 c3 c4 c5 hq
  go_wp2_with fail
  go_ret
  obtain⟨o2,G2,e2⟩:=K.out
  have hh:=H.out
  have o3:=Off.setCell b 4 w2 (.bool false)
  refine⟨rfl,(o2.more (by simp)).trans (o3.more (by simp)),⟨⟨v,0,heap_setCell_same _ _ _ _ _ _ e2,?_,?_⟩,hh.bM,hh.gM,hh.ne,hh.n1,hh.n8⟩⟩
  ·exact G2.off o3 (by simpa using hne)
  ·exact VV.off (s:={ s with lat:=0,fr:=false }) (VV.off (s:={ s with lat:=0,fr:=false }) HV.out o2 (by simpa using hh.gM)) o3 (by simpa using hh.bM)
 ·rw[if_neg hr,if_neg hr]
  rw[show ak s=false by simpa using hr]at hq
  have H:Hid (_):=h
  clear h G V hb
  go_enter Tryz.func256,Tryz.ntmps256
  go_wp2_with (go_at_call 69;refine hq.mono ?_;rintro e w' ⟨rfl,rfl⟩)
  go_ret
  exact⟨rfl,Off.refl _ _,H.out⟩
theorem qp (n:Nat) (w:World) (h1:1≤n) (h8:n≤8) :
  Calls Tryz.prog 96 #[.int .i64 (n:Nat)] w fun e w'=>∃ b g,e=.returned (.tuple #[.pointer (some ⟨b,0,none⟩),.int .i64 0])∧Hid (w.heap.size≤b∧w.heap.size≤g∧b<w'.heap.size∧g<w'.heap.size∧Off [] w w'∧VR w' b g [] n ni):=by
 go_enter Tryz.func96,Tryz.ntmps96
 go_wp2_with fail
 refine (tF w).mono ?_
 rintro e w2 ⟨rfl,o2,G2⟩
 have K:Hid (_):=And.intro o2 G2
 clear o2 G2
 go_wp2_with fail
 go_ret2
 obtain⟨o2,G2⟩:=K.out
 have hg:=G2.lt
 have oa:=Off.alloc [] w2 (.cells (VC n ni w.heap.size (.slice none 0 0)) 194)
 refine⟨w2.heap.size,w.heap.size,rfl,o2.size,Nat.le_refl _,by rw[World.size_alloc];omega,by rw[World.size_alloc];omega,o2.trans (Off.alloc _ _ _),⟨⟨_,0,au w2 _,G2.off (Off.alloc [] _ _) (by simp),.inl ⟨rfl,rfl⟩⟩,by simp,by simp,by omega,h1,h8⟩⟩
end Go.Proofs.YtdmjfemodihfhaaGreat
namespace Go.Proofs.YtdmjfemodihfhaaGreat
set_option maxRecDepth 100000
open Go.RowKit
theorem xj (a:Addr) (d:Int) (w:World) (h0:w.cell? a=some (.int .u32 d)) :
  Calls Tryz.prog 183 #[.pointer (some a)] w fun e w'=>e=.returned (.bool (d != 0))∧w'=w:=by
 have hl:=run_call_load (P:=Tryz.prog) Tryz.func215 (by kernel_rfl) (by kernel_rfl) (by kernel_rfl) .u32 (by kernel_rfl) h0
 go_enter Tryz.func183,Tryz.ntmps183
 go_wp2
 go_ret
 exact⟨rfl,rfl⟩
def yF (b:Bool):Int:=if b then 1 else 0
theorem tl (a:Addr) (x:Value) (b:Bool) (w:World) (hc:w.cell? a=some x) (hz:w.frozen? a=false) :
  Calls Tryz.prog 141 #[.pointer (some a),.bool b] w fun e w'=>e=.returned (.tuple #[])∧w'=w.drew.setCell a (.int .u32 (yF b)):=by
 have hc':w.drew.cell? a=some x:=by go_simp
 have hz':w.drew.frozen? a=false:=by go_simp
 have hst:=fun y:Int=>run_call_store (P:=Tryz.prog) Tryz.func173 (by kernel_rfl) (by kernel_rfl) (by kernel_rfl) (by kernel_rfl) (k:=.u32) (y:=y) hc' hz'
 cases b
 ·have hst0:=hst 0
  clear hst
  go_enter Tryz.func141,Tryz.ntmps141
  go_wp2
  go_region_calls
  all_goals (go_end0;exact⟨rfl,rfl⟩)
 ·have hst1:=hst 1
  clear hst
  go_enter Tryz.func141,Tryz.ntmps141
  go_wp2
  go_region_calls
  all_goals (go_end0;exact⟨rfl,rfl⟩)
structure Ms where
 bs:Nat→Nat
 off:Bool
 ar:Bool
 l:Int
 t:Int
structure Held (w:World) (b g n:Nat) (bs:Nat→Nat) (v:Value):Prop where
 own:w.ownsRow 0 5 1 v n (CB bs n)
 at_:(v=.slice none 0 0∧n=0∧g=b)∨(g≠b∧∃ cap,v=.slice (some ⟨g,0,none⟩) n cap)
section
variable {w w':World} {b g n:Nat} {bs:Nat→Nat} {v:Value}
theorem Held.off {l:List Nat} (h:Held w b g n bs v) (q:Off l w w') (hg:g ∉ l):Held w' b g n bs v:=by
 refine⟨⟨h.own.1,?_⟩,h.at_⟩
 rcases h.own.2 with hn | ⟨g',cap,cur,hv,hg0,hgg,rest⟩
 ·exact .inl hn
 ·rcases h.at_ with ⟨hv',_⟩ | ⟨_,cap',hv'⟩
  ·rw[hv]at hv';simp at hv'
  ·rw[hv]at hv'
   simp only[Value.slice.injEq,Option.some.injEq,Addr.mk.injEq,and_true,true_and]at hv'
   obtain⟨rfl,rfl⟩:=hv'
   exact .inr ⟨_,_,cur,hv,hg0,by rw[q.block _ (Array.getElem?_eq_some_iff.1 hgg).1 hg];exact hgg,rest⟩
theorem Held.lt (h:Held w b g n bs v) (hb:b<w.heap.size):g<w.heap.size:=by
 rcases h.at_ with ⟨_,_,rfl⟩ | ⟨_,cap,rfl⟩
 ·exact hb
 ·exact (h.own.lt g rfl).2
theorem Held.row (h:Held w b g n bs v) (hb:∀ i,i<n→bs i<256):∃ a cap,v=.slice a n cap∧Row8 w a n cap bs:=aS h.own hb
theorem Held.plain (h:Held w b g n bs v) (hn:0<n):g≠b∧∃ cap,v=.slice (some ⟨g,0,none⟩) n cap:=by
 rcases h.at_ with ⟨_,rfl,_⟩ | h
 ·omega
 ·exact h
theorem Held.here (h:Held w b g n bs v) (q:Off [b] w w'):Held w' b g n bs v:=by
 rcases h.at_ with ⟨rfl,rfl,rfl⟩ | hg
 ·exact⟨World.ownsRow_nil _ _ _ _,.inl ⟨rfl,rfl,rfl⟩⟩
 ·exact h.off q (by simpa using hg.1)
theorem Held.set (h:Held w b g n bs v) (j x:Nat) (hj:j<n):Held (w.setCell ⟨g,j,none⟩ (.int .u8 (x:Nat))) b g n (fun i=>if i=j then x else bs i) v:=by
 obtain⟨hg,cap,rfl⟩:=h.plain (by omega)
 refine⟨?_,.inr ⟨hg,cap,rfl⟩⟩
 have:=(h.own.stored j (.int .u8 (x:Nat))).1
 rwa [eT]at this
end
def MC (v:Value) (s:Ms):Array Value:=#[v,.int .u32 (yF s.off),.bool s.ar,.int .i64 s.l,.int .i64 s.t]
structure MR (w:World) (b g n:Nat) (s:Ms):Prop where
 ex:∃ v,w.heap[b]?=some (.cells (MC v s) 182 (0,0))∧Held w b g n s.bs v
 byte:∀ i,i<n→s.bs i<256
 l0:0≤s.l
 l1:s.l≤9223372036854775807
 t0:0≤s.t
 nn:n≤4096
section
variable {w w':World} {b g n:Nat} {s:Ms}
theorem MR.lt (h:MR w b g n s):b<w.heap.size:=by
 obtain⟨v,hv,_⟩:=h.ex
 exact (Array.getElem?_eq_some_iff.1 hv).1
theorem MR.lg (h:MR w b g n s):g<w.heap.size:=by
 obtain⟨v,hv,hh⟩:=h.ex
 exact hh.lt h.lt
theorem MR.off {l:List Nat} (h:MR w b g n s) (q:Off l w w') (hb:b ∉ l) (hg:g ∉ l):MR w' b g n s:=by
 obtain⟨v,hv,hh⟩:=h.ex
 exact⟨⟨v,(q.block b h.lt hb).trans hv,hh.off q hg⟩,h.byte,h.l0,h.l1,h.t0,h.nn⟩
theorem MR.cells (h:MR w b g n s):∃ a cap,w.cell? ⟨b,0,none⟩=some (.slice a n cap)∧Row8 w a n cap s.bs∧(0<n→g≠b∧a=some ⟨g,0,none⟩)∧w.cell? ⟨b,1,none⟩=some (.int .u32 (yF s.off)) ∧
  w.cell? ⟨b,2,none⟩=some (.bool s.ar)∧w.cell? ⟨b,3,none⟩=some (.int .i64 s.l)∧w.cell? ⟨b,4,none⟩=some (.int .i64 s.t)∧∀ j,w.frozen? ⟨b,j,none⟩=false:=by
 obtain⟨v,hv,hh⟩:=h.ex
 obtain⟨a,cap,rfl,hr⟩:=hh.row h.byte
 refine⟨a,cap,ac w b 0 _ _ _ hv,hr,fun hn=>?_,ac w b 1 _ _ _ hv,ac w b 2 _ _ _ hv,ac w b 3 _ _ _ hv,ac w b 4 _ _ _ hv,fun j=>frozen_of_row w b j _ _ hv⟩
 obtain⟨hg,cap',he⟩:=hh.plain hn
 simp only[Value.slice.injEq]at he
 exact⟨hg,he.1⟩
theorem MR.held (h:MR w b g n s) (j:Nat) (hj:j<n):w.cell? ⟨g,j,none⟩=some (.int .u8 (s.bs j:Nat))∧w.frozen? ⟨g,j,none⟩=false:=by
 obtain⟨v,hv,hh⟩:=h.ex
 obtain⟨hg,cap,rfl⟩:=hh.plain (by omega)
 exact⟨by rw[hh.own.cellAt j (by omega),aL _ _ _ hj],hh.own.frozenAt j⟩
theorem MR.upd (h:MR w b g n s) (s':Ms) (q:Off [b] w w') (hc:∀ v,w.heap[b]?=some (.cells (MC v s) 182 (0,0))→w'.heap[b]?=some (.cells (MC v s') 182 (0,0)))
  (hbs:s'.bs=s.bs) (l0:0≤s'.l) (l1:s'.l≤9223372036854775807) (t0:0≤s'.t):MR w' b g n s':=by
 obtain⟨v,hv,hh⟩:=h.ex
 exact⟨⟨v,hc v hv,hbs ▸ hh.here q⟩,hbs ▸ h.byte,l0,l1,t0,h.nn⟩
theorem MR.put (h:MR w b g n s) (j x:Nat) (hj:j<n) (hx:x<256):MR (w.setCell ⟨g,j,none⟩ (.int .u8 (x:Nat))) b g n { s with bs:=fun i=>if i=j then x else s.bs i }:=by
 obtain⟨v,hv,hh⟩:=h.ex
 have hg:=(hh.plain (by omega)).1
 refine⟨⟨v,(heap_setCell_other w _ b _ (Ne.symm hg)).trans hv,hh.set j x hj⟩,fun i hi=>?_,h.l0,h.l1,h.t0,h.nn⟩
 by_cases e:i=j
 ·simp[e,hx]
 ·simp[e,h.byte i hi]
theorem MR.drew (h:MR w b g n s):MR w.drew b g n s:=h.off (Off.drew [] _) (by simp) (by simp)
theorem MR.drewN (h:MR w b g n s) (k:Nat):MR (w.drewN k) b g n s:=h.off (Off.drewN [] _ k) (by simp) (by simp)
end
def jV (s:Ms) (n:Nat) (p:Int):Int:=if s.off then 70 else if p<0∨(n:Int)≤p then 2 else 0
theorem kF (b g n:Nat) (s:Ms) (p:Int) (w:World) (h:MR w b g n s) :
  Calls Tryz.prog 145 #[.pointer (some ⟨b,0,none⟩),.int .i64 p] w fun e w'=>e=.returned (.int .i64 (jV s n p))∧w'=w:=by
 obtain⟨a,cap,c0,_,_,c1,_⟩:=h.cells
 have hl:=xj ⟨b,1,none⟩ _ w c1
 unfold jV
 cases ho:s.off
 ·rw[ho]at hl
  have e1:(yF false != 0)=false:=rfl
  rw[e1]at hl
  by_cases hp:p<0
  ·rw[if_neg (by simp),if_pos (.inl hp)]
   go_enter Tryz.func145,Tryz.ntmps145
   go_wp2_with (go_at_call 183;refine hl.mono ?_;rintro e w' ⟨rfl,rfl⟩)
   go_ret
   exact⟨rfl,rfl⟩
  ·by_cases hn:(n:Int)≤p
   ·rw[if_neg (by simp),if_pos (.inr hn)]
    go_enter Tryz.func145,Tryz.ntmps145
    go_wp2_with (go_at_call 183;refine hl.mono ?_;rintro e w' ⟨rfl,rfl⟩)
    go_ret
    exact⟨rfl,rfl⟩
   ·rw[if_neg (by simp),if_neg (by omega)]
    go_enter Tryz.func145,Tryz.ntmps145
    go_wp2_with (go_at_call 183;refine hl.mono ?_;rintro e w' ⟨rfl,rfl⟩)
    go_ret
    exact⟨rfl,rfl⟩
 ·rw[ho]at hl
  have e1:(yF true != 0)=true:=rfl
  rw[e1]at hl
  rw[if_pos rfl]
  go_enter Tryz.func145,Tryz.ntmps145
  go_wp2_with (go_at_call 183;refine hl.mono ?_;rintro e w' ⟨rfl,rfl⟩)
  go_ret
  exact⟨rfl,rfl⟩
end Go.Proofs.YtdmjfemodihfhaaGreat
