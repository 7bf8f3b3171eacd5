/- Part 4: contracts that the proof rests on. -/
import Derived.Test.YtenilkloffnjlaaGreatProg
import Derived.WalkKit
import Derived.WalkSpells
import Derived.OpenShut
import Derived.Defers
import Derived.Recover
import Derived.Laws.BitsAllLaws
import Derived.Laws.Pointers
import Derived.Laws.LoneSync
import Derived.Laws.NewBlocks
import Derived.RegionTactic
import Derived.RegionCalls
import Derived.ChangeAlike
import Derived.Deep.DeepCutAuto
import Derived.Deep.RegionWith
import Derived.Deep.QuietTactic
import Derived.Test.YtenilkloffnjlaaGreatPkH02
set_option maxHeartbeats 64000000
set_option maxRecDepth 100000
namespace Go.Proofs.YtenilkloffnjlaaGreat
open Tryz
open Go.RowKit Go.Maps
theorem vI:(prog.info? 37).map (fun i=>(i.zero,i.size,i.bytes))=some (some (.slice none 0 0),1,24):=by kernel_rfl
theorem jT {B:Nat} {w0 w:World} (h:Below B w0 w) (hs:B≤w0.heap.size) (o:Obj):Below B w0 (w.alloc o):=h.alloc (Nat.le_trans hs h.size) o
theorem cK {B:Nat} {w0 w:World} (h:Below B w0 w) (n:Nat):Below B w0 (w.drewN n):=⟨h.os,h.tape,h.output,h.size,h.block⟩
theorem um {ops:Array Oper} {o:Oper} {a:Act} {w:World} {K:Act→World→Prop} {Q:Exit→Act→World→Prop} {E:Prop}
  (hg:o.guard=none) (s x:Operand) (hop:o.op=Op.call { callee:=Callee.builtin Builtin.append,args:=#[s,x],argTypes:=#[108,108] }) (hty:o.type=108)
  (B n g:Nat) (vs:List Value) (y v:Value) (hs:a.eval s=v) (hown:w.ownsRow B 37 1 v n vs) (hx:a.eval x=.slice (af g 0) 1 1)
  (hgc:w.cell? ⟨g,0,none⟩=some y) (hy:y.oneCell'=true) (hn:n<1000000) (hB:B≤w.heap.size)
  (hK:∀ g' cap' w',Hid (w'.ownsRow B 37 1 (.slice (af g' 0) (n+1) cap') (n+1) (vs ++ [y])∧w.grownBy w' v.ownBlock∧(v.ownBlock=some g'∨g'=w.heap.size))→K (a.put o.dst (.slice (af g' 0) (n+1) cap')) w') :
  if Region.wanted o (yielded ops a.tmps)=true then Oper.wp prog o a w K Q else E:=by
 have hw:Region.wanted o (yielded ops a.tmps)=true:=by simp[Region.wanted,hg]
 rw[if_pos hw]
 obtain⟨i,hi,h0,h1,h2⟩:=info_parts vI
 obtain⟨v',w',hrun,h3,h4,_,h5⟩:=run_append_own_at w B 108 108 37 i _ 1 24 underlying108 hi h0 h1 h2 rfl (by decide) v n vs hown ⟨g,0,none⟩ 1 1 [y] rfl (by
  intro j u hj
  cases j with
  | zero=>simp at hj;subst hj;simpa [Addr.add] using hgc
  | succ j=>simp at hj) (by intro u hu;simp at hu;subst hu;exact hy) (by unfold maxLen;omega) (by omega) hB
 obtain⟨g',cap',rfl,_,_⟩:=mD h3
 unfold Oper.wp execOp
 simp only[hop,hty,resolve,invoke,builtin,Sem.run_bind,Sem.run_pure,Result.andThen_ok,List.map_toArray,List.map_cons,List.map_nil,hs,hx,hrun]
 refine hK g' cap' w' ⟨h3,h4,?_⟩
 rcases h5 with h5 | h5
 ·left;rw[← h5];rfl
 ·right;simpa [Value.ownBlock] using h5
theorem rQ {P:Program} {ops:Array Oper} {o:Oper} {a:Act} {w:World} {K:Act→World→Prop} {Q:Exit→Act→World→Prop} {E:Prop} {R:Value→World→Prop}
  (f:FuncId) (ts:Array Operand) (ty:Array TypeId) (_:o.op=.call { callee:=.value (.func f),args:=ts,argTypes:=ty }) (hw:Region.wanted o (yielded ops a.tmps)=true) (args:Array Value) (hrun:(execOp a.eval o).run P w=.ok (.enter f args) w) (hc:Calls P f args w fun e w'=>∃ v,e=.returned v∧R v w') (hK:∀ v w',R v w'→K (a.put o.dst v) w') :
  if Region.wanted o (yielded ops a.tmps)=true then Oper.wp P o a w K Q else E:=by
 rw[if_pos hw]
 unfold Oper.wp
 rw[hrun]
 refine hc.mono ?_
 rintro e w'' ⟨v,rfl,hr⟩
 exact hK _ _ hr
theorem Row8.offB {l:List Nat} {w w':World} {a:Option Addr} {len cap:Nat} {bs:Nat→Nat} (h:Row8 w a len cap bs) (q:Off l w w') (hl:∀ x,a=some x→x.block ∉ l):Row8 w' a len cap bs:=by
 refine⟨h.byte,h.nil,fun x hx i hi=>?_,h.le⟩
 have h1:=h.src x hx i hi
 have hlt:=World.block_lt_of_cell? w _ h1
 have hb:(x.add i).block=x.block:=by unfold Addr.add;split <;> rfl
 have he:w'.heap[(x.add i).block]?=w.heap[(x.add i).block]?:=q.block _ hlt (by rw[hb];exact hl x hx)
 rw[← h1]
 unfold World.cell?
 rw[he]
theorem Bg.put {B:Nat} {w w2 wx wa wy:World} {b m g cap:Nat} {v:Value} {vs:List Value} {p p':Option Addr} {L:List gm} {x:Value} {n:Nat} {bs:Nat→Nat} (h:Bg B w b m v vs p L)
  (o2:Off [m] w w2) (h2m:Met w2 m (gf (L ++ [(n,bs)]):Nat) p' 0 0 none) (h2p:Pk 0 w2 p' (rF (L ++ [(n,bs)])))
  (hx:Below w2.heap.size w2 wx) (ho:wx.ownsRow w2.heap.size 5 1 x n (CB bs n)) (h27:n≤27) (hb:∀ i,i<n→bs i<256) (hn:L.length<4096) (hBw:B≤w2.heap.size)
  (ha:Below wx.heap.size wx wa) (hr:wy.ownsRow B 37 1 (.slice (af g 0) (L.length+1) cap) (L.length+1) (vs ++ [x])) (hg:wa.grownBy wy v.ownBlock) (hgb:v.ownBlock=some g∨g=wa.heap.size) :
  Off (b :: m :: v.ownBlock.toList) w (wy.setCell ⟨b,0,none⟩ (.slice (af g 0) (L.length+1) cap)) ∧
  Bg B (wy.setCell ⟨b,0,none⟩ (.slice (af g 0) (L.length+1) cap)) b m (.slice (af g 0) (L.length+1) cap) (vs ++ [x]) p' (L ++ [(n,bs)])∧(v.ownBlock=some g∨w.heap.size≤g):=by
 have f2:Fl B w2 v vs L:=h.fl.keep o2 fun y hy hs=>by
  simp only[List.mem_singleton]at hy
  subst hy
  refine⟨fun e=>?_,fun c f hc=>?_⟩
  ·obtain⟨c,hc⟩:=aT h.fl.rows e
   exact ey h.met.at_ hc (by decide) rfl
  ·exact ey h.met.at_ hc (by decide) rfl
 have hbm:b≠m:=ey h.at_ h.met.at_ (by decide)
 have b2:w2.heap[b]?=_:=(o2.block b h.lt (by simpa using hbm)).trans h.at_
 have h2a:Below w2.heap.size w2 wa:=hx.trans (ha.mono hx.size)
 have f3:=f2.more h2a (cU (aS ho hBw) ha) h27 hb hn hr hg
 have rest:∀ (k:Nat) (c:Array Value) (e:TypeId) (f:Nat × Nat),w2.heap[k]?=some (.cells c e f)→e≠37→wy.heap[k]?=some (.cells c e f):=by
  intro k c e f hk he
  have hlt:=(Array.getElem?_eq_some_iff.1 hk).1
  have hka:wa.heap[k]?=_:=(h2a.block k hlt).trans hk
  refine (hg.block k (Nat.lt_of_lt_of_le hlt h2a.size) fun ek=>?_).trans hka
  obtain⟨c',hc'⟩:=aT (f2.below h2a).rows ek.symm
  exact ey hka hc' he rfl
 have by_:=rest b _ _ _ b2 (by decide)
 have o3:=Off.setCell b 0 wy (.slice (af g 0) (L.length+1) cap)
 have my:Met wy m (gf (L ++ [(n,bs)]):Nat) p' 0 0 none:=⟨rest m _ _ _ h2m.at_ (by decide)⟩
 have py:Pk 0 wy p' (rF (L ++ [(n,bs)])):=by
  generalize rF (L ++ [(n,bs)])=q at h2p
  cases h2p with
  | none=>exact .none
  | some c v' h' hc=>exact .some c v' h' (rest c _ _ _ hc (by decide))
 have B0:Bg B (wy.setCell ⟨b,0,none⟩ (.slice (af g 0) (L.length+1) cap)) b m (.slice (af g 0) (L.length+1) cap) (vs ++ [x]) p' (L ++ [(n,bs)]):=by
  refine⟨heap_setCell_same _ _ _ _ _ _ by_,f3.keep o3 fun y hy hs=>?_,my.off o3 (by simpa using hbm.symm),?_,h.bB,h.mB⟩
  ·simp only[List.mem_singleton]at hy
   subst hy
   refine⟨fun e=>?_,fun c f hc=>?_⟩
   ·obtain⟨c,hc⟩:=aT f3.rows e
    exact ey by_ hc (by decide) rfl
   ·exact ey by_ hc (by decide) rfl
  ·generalize rF (L ++ [(n,bs)])=q at py
   cases py with
   | none=>exact .none
   | some c v' h' hc=>exact .some c v' h' ((o3.block c (Array.getElem?_eq_some_iff.1 hc).1 (by simpa using ey hc by_ (by decide))).trans hc)
 have o4:Off (b :: m :: v.ownBlock.toList) w wy:=by
  have q1:Off (b :: m :: v.ownBlock.toList) w2 wa:=Off.of_below h2a
  have q2:Off (b :: m :: v.ownBlock.toList) wa wy:=⟨hg.os,hg.tape,hg.output,hg.size,fun k hk hm=>hg.block k hk fun e=>hm (by rw[← e];simp)⟩
  exact ((o2.more (by simp)).trans q1).trans q2
 refine⟨o4.trans (o3.more (by simp)),B0,?_⟩
 rcases hgb with e | e
 ·exact .inl e
 ·right
  have:=o2.size
  have:=h2a.size
  omega
def Grb (B:Nat) (w':World) (n at_ x:Nat) (f:Nat→Nat) (v:Value):Prop:=
 ∃ g,w'.ownsRow B 5 1 v n (CB (xr f g) n)∧(∀ i,i<n→g i<256)∧∀ k,k<8*n→PM.fb g k=PM.ly at_ (PM.bl x) x (PM.bl x) k
theorem kj (B:Nat) (b m:Nat) (v:Value) (vs:List Value) (p:Option Addr) (L:List gm) (i:Nat) (f:gm) (at_ x:Nat) (w:World) (h:Bg B w b m v vs p L) (hi:L[i]?=some f) (hx:x<4294967296) (hx0:x≠0) (hfit:at_+PM.bl x≤8*f.1) :
  Calls prog 102 #[ac b 0,.int .i64 (i:Nat),.int .i64 (at_:Nat),.int .u32 (x:Nat)] w fun e w'=>∃ g c,e=.returned (.tuple #[.slice (af g 0) f.1 c,.int .i64 0])∧Hid (Below w.heap.size w w'∧Grb w.heap.size w' f.1 at_ x f.2 (.slice (af g 0) f.1 c)∧w.heap.size≤g):=by
 have h27:=(h.fl.small f (List.mem_of_getElem? hi)).1
 have hby:=(h.fl.small f (List.mem_of_getElem? hi)).2
 have hG:=gp B b m v vs p L i f w h hi
 clear h hi
 go_enter func102,ntmps102
 go_wp2_with fail
 refine hG.mono ?_
 rintro e w1 ⟨a1,cap1,rfl,H1⟩
 have hM:=tT f.1 at_ x w1 hx hx0 (by omega) hfit
 clear hG
 go_wp2_with fail
 refine hM.mono ?_
 rintro e w2 ⟨v2,rfl,H2⟩
 obtain⟨b2,g,og,gb,gl⟩:=H2.out
 obtain⟨a2,cap2,rfl,R2⟩:=aY og gb
 have R1:Row8 w2 a1 f.1 cap1 f.2:=by
  obtain⟨a1',cap1',e1,R1⟩:=aY (cU H1.out.2 b2) hby
  simp only[Value.slice.injEq,true_and]at e1
  obtain⟨rfl,rfl⟩:=e1
  exact R1
 have hT:=ux a1 a2 f.1 cap1 cap2 f.2 g w2 R1 R2 (by omega)
 have HH:Hid (_):=And.intro gb (And.intro gl (And.intro H1.out.1 b2))
 clear hM H2 H1 og gb gl R1 R2 b2
 go_wp2_with fail
 refine hT.mono ?_
 rintro e w3 ⟨c3,rfl,H3⟩
 clear hT
 go_wp2_with fail
 go_ret2
 have s1:=HH.out.2.2.1.size
 have s2:=HH.out.2.2.2.size
 exact⟨_,_,rfl,HH.out.2.2.1.trans ((HH.out.2.2.2.trans (H3.out.1.mono s2)).mono s1),⟨g,aS H3.out.2 (Nat.le_trans s1 s2),HH.out.1,HH.out.2.1⟩,Nat.le_trans s1 s2⟩
theorem ti (B:Nat) (b m:Nat) (v:Value) (vs:List Value) (p:Option Addr) (L:List gm) (i:Nat) (f:gm) (at_:Int) (x:Nat) (w:World) (h:Bg B w b m v vs p L) (hi:L[i]?=some f) (hx:x<4294967296) (ha : -9223372036854775808≤at_∧at_<9223372036854775808) (he:cF f.1 at_ x≠0) :
  Calls prog 102 #[ac b 0,.int .i64 (i:Nat),.int .i64 at_,.int .u32 (x:Nat)] w fun e w'=>e=.returned (.tuple #[.slice none 0 0,.int .i64 (cF f.1 at_ x)])∧Hid (Below w.heap.size w w'):=by
 have h27:=(h.fl.small f (List.mem_of_getElem? hi)).1
 have hG:=gp B b m v vs p L i f w h hi
 have hM:=fun w1=>vT f.1 at_ x w1 hx (by omega) ha he
 generalize cF f.1 at_ x=y at *
 clear h hi
 go_enter func102,ntmps102
 go_wp2_with fail
 refine hG.mono ?_
 rintro e w1 ⟨a1,cap1,rfl,H1⟩
 clear hG
 go_wp2_with fail
 refine (hM _).mono ?_
 rintro e w2 ⟨rfl,rfl⟩
 clear hM
 go_wp2_with fail
 go_ret2
 exact⟨rfl,H1.out.1⟩
theorem tj (B:Nat) (b m:Nat) (v:Value) (vs:List Value) (p:Option Addr) (L:List gm) (i at_ x:Int) (w:World) (h:Bg B w b m v vs p L) (hi:i<0∨(L.length:Int)≤i) :
  Calls prog 102 #[ac b 0,.int .i64 i,.int .i64 at_,.int .u32 x] w fun e w'=>e=.returned (.tuple #[.slice none 0 0,.int .i64 151])∧w'=w:=by
 have hG:=ko B b m v vs p L i w h hi
 clear h hi
 go_enter func102,ntmps102
 go_wp2_with fail
 refine hG.mono ?_
 rintro e w1 ⟨rfl,rfl⟩
 clear hG
 go_wp2_with fail
 go_ret2
 exact⟨rfl,rfl⟩
open Go.RowKit
theorem disable (w:World):(callFunc 177 #[]).run prog w=.ok (.value (.tuple #[])) w:=run_call_mark0 func177 (by kernel_rfl) (by kernel_rfl) (by kernel_rfl) .disable (by kernel_rfl) w
theorem enable (w:World):(callFunc 179 #[]).run prog w=.ok (.value (.tuple #[])) w:=run_call_mark0 func179 (by kernel_rfl) (by kernel_rfl) (by kernel_rfl) .enable (by kernel_rfl) w
theorem acquire (a:Addr) (w:World):(callFunc 180 #[.pointer (some a)]).run prog w=.ok (.value (.tuple #[])) w:=run_call_marked func180 (by kernel_rfl) (by kernel_rfl) (by kernel_rfl) .acquire (by kernel_rfl) a w
theorem releaseMerge (a:Addr) (w:World):(callFunc 182 #[.pointer (some a)]).run prog w=.ok (.value (.tuple #[])) w:=run_call_marked func182 (by kernel_rfl) (by kernel_rfl) (by kernel_rfl) .releaseMerge (by kernel_rfl) a w
theorem uO (a:Addr) (d:Int) (w:World) (h0:w.cell? a=some (.int .u32 d)) :
  Calls prog 186 #[.pointer (some a)] w fun e w'=>e=.returned (.bool (d != 0))∧w'=w:=by
 have hl:=run_call_load (P:=prog) func218 (by kernel_rfl) (by kernel_rfl) (by kernel_rfl) .u32 (by kernel_rfl) h0
 go_enter func186,ntmps186
 go_wp2
 go_ret
 exact⟨rfl,rfl⟩
theorem lB (a:Addr) (x:Value) (u:FrameMode) (w:World) (hc:w.cell? a=some x) (hz:w.frozen? a=false) :
  CallsD prog 143 #[.pointer (some a),.bool true] u w fun e u' w'=>u'=u∧(e=.returned (.tuple #[])∧w'=w.drew.setCell a (.int .u32 1)):=by
 have hc':w.drew.cell? a=some x:=by go_simp
 have hz':w.drew.frozen? a=false:=by go_simp
 have hst:=run_call_store (P:=prog) func175 (by kernel_rfl) (by kernel_rfl) (by kernel_rfl) (by kernel_rfl) (k:=.u32) (y:=1) hc' hz'
 go_enter_d func143,ntmps143
 go_wp2
 go_region_calls
 all_goals (go_end0;exact⟨rfl,rfl⟩)
theorem yC (a:Addr) (w:World) (hc:w.cell? a=some (.int .i32 1)) (hz:w.frozen? a=false) :
  Calls prog 145 #[.pointer (some a)] w fun e w'=>e=.returned (.tuple #[])∧w'=w.setCell a (.int .i32 0):=by
 have hd:=disable
 have he:=enable
 have hr:=releaseMerge
 have hadd:=run_call_add (P:=prog) func183 (by kernel_rfl) (by kernel_rfl) (by kernel_rfl) .i32 (by kernel_rfl) (y:=-1) (s:=0) hc hz (by simp[go_sem];rfl)
 have hcv:=run_convert_to_unsafe (P:=prog) (src:=283) (dst:=167) underlying283 underlying167 (by kernel_rfl) hc
 go_enter func145,ntmps145
 go_wp2
 go_end0
 exact⟨rfl,rfl⟩
theorem cT (a:Addr) (u:FrameMode) (w:World) (hc:w.cell? a=some (.int .i32 1)) (hz:w.frozen? a=false) :
  CallsD prog 117 #[.pointer (some a)] u w fun e u' w'=>u'=u∧(e=.returned (.tuple #[])∧w'=w.setCell a (.int .i32 0)):=by
 go_enter_d func117,ntmps117
 go_wp2_with (go_at_call 145;refine (yC a _ hc hz).mono ?_;rintro e w' ⟨rfl,rfl⟩)
 go_end0
 exact⟨rfl,rfl⟩
theorem abP (a:Addr) (w:World) (hc:w.cell? a=some (.int .i32 0)) (hz:w.frozen? a=false) :
  Calls prog 144 #[.pointer (some a)] w fun e w'=>e=.returned (.tuple #[])∧w'=w.setCell a (.int .i32 1):=by
 have hd:=disable
 have he:=enable
 have ha:=acquire
 have hcas:=run_call_cas_hit (P:=prog) func178 (by kernel_rfl) (by kernel_rfl) (by kernel_rfl) .i32 (by kernel_rfl) (y:=1) hc hz
 have hc':(w.setCell a (.int .i32 1)).cell? a=some (.int .i32 1):=World.cell?_setCell_same w a _ hc
 have hcv:=run_convert_to_unsafe (P:=prog) (src:=283) (dst:=167) underlying283 underlying167 (by kernel_rfl) hc'
 go_enter func144,ntmps144
 go_wp2
 first | go_end0 | (simp only[Exit.inBlock,Exit.then];refine bodyPost_ret (results_none rfl _ _ _) rfl ?_) | refine bodyPost_ret (results_none rfl _ _ _) rfl ?_
 exact⟨rfl,rfl⟩
theorem fH (a:Addr) (w:World) (hc:w.cell? a=some (.int .i32 0)) (hz:w.frozen? a=false) :
  Calls prog 116 #[.pointer (some a)] w fun e w'=>e=.returned (.tuple #[])∧w'=w.setCell a (.int .i32 1):=by
 go_enter func116,ntmps116
 go_wp2_with (go_at_call 144;refine (abP a _ hc hz).mono ?_;rintro e w' ⟨rfl,rfl⟩)
 go_end0
 exact⟨rfl,rfl⟩
theorem zq (F:FuncId) (b o:Nat) (cap:Array Value) (w:World) (Post:World→Prop) (hcf:∀ w,(callFunc F cap).run prog w=.ok (.enter F cap) w)
  (h0:w.cell? ⟨b,o,none⟩=some (.int .u32 0)) (h1:w.cell? ⟨b,o+1,none⟩=some (.int .i32 0)) (f1:w.frozen? ⟨b,o+1,none⟩=false)
  (hf:Calls prog F cap (w.setCell ⟨b,o+1,none⟩ (.int .i32 1)) fun e w2=>e=.returned (.tuple #[])∧Post w2)
  (hP:∀ w2,Post w2→w2.cell? ⟨b,o,none⟩=some (.int .u32 0)∧w2.cell? ⟨b,o+1,none⟩=some (.int .i32 1)∧w2.frozen? ⟨b,o,none⟩=false∧w2.frozen? ⟨b,o+1,none⟩=false) :
  Calls prog 233 #[ac b o,.func (.func F) #[] cap] w fun e w'=>e=.returned (.tuple #[]) ∧
   ∃ w2,Post w2∧w'=(w2.drew.setCell ⟨b,o,none⟩ (.int .u32 1)).setCell ⟨b,o+1,none⟩ (.int .i32 0):=by
 have h01:(w.setCell ⟨b,o+1,none⟩ (.int .i32 1)).cell? ⟨b,o,none⟩=some (.int .u32 0):=(World.cell?_setCell_other _ ⟨b,o+1,none⟩ ⟨b,o,none⟩ _ (by simp)).trans h0
 have hld:=uO ⟨b,o,none⟩ 0 _ h01
 go_enter_defers func233,ntmps233
 go_wp2_with (first | (go_at_call 116;refine (fH ⟨b,o+1,none⟩ _ h1 f1).mono ?_;rintro e w' ⟨rfl,rfl⟩) | (go_at_call 186;refine hld.mono ?_;rintro e w' ⟨rfl,rfl⟩))
 refine hf.mono ?_
 rintro e w2 ⟨rfl,hpost⟩
 obtain⟨c0,c1,z0,z1⟩:=hP w2 hpost
 clear hf hP hld hcf
 go_wp2_with fail
 refine leaves_cons (f:=143) (args:=#[ac b o,.bool true]) (by simp) (by simp[go_sem]) ?_
 refine (lB ⟨b,o,none⟩ (.int .u32 0) .returning _ c0 z0).mono ?_
 rintro e u' w'' ⟨rfl,rfl,rfl⟩
 refine leaves_cons (f:=117) (args:=#[ac b (o+1)]) (by simp[settle]) (by simp[go_sem]) ?_
 refine (cT ⟨b,o+1,none⟩ _ _ ?_ (by simp[z1])).mono ?_
 ·refine (World.cell?_setCell_other _ ⟨b,o,none⟩ ⟨b,o+1,none⟩ _ (by simp)).trans ?_
  rw[World.cell?_drew];exact c1
 rintro e u' w'' ⟨rfl,rfl,rfl⟩
 simp[Leaves,settle,results,results233]
 exact⟨w2,hpost,rfl⟩
theorem abK (F:FuncId) (b o:Nat) (cap:Array Value) (w:World) (Post:World→Prop) (hcf:∀ w,(callFunc F cap).run prog w=.ok (.enter F cap) w)
  (h0:w.cell? ⟨b,o,none⟩=some (.int .u32 0)) (h1:w.cell? ⟨b,o+1,none⟩=some (.int .i32 0)) (f1:w.frozen? ⟨b,o+1,none⟩=false)
  (hf:Calls prog F cap (w.setCell ⟨b,o+1,none⟩ (.int .i32 1)) fun e w2=>e=.returned (.tuple #[])∧Post w2)
  (hP:∀ w2,Post w2→w2.cell? ⟨b,o,none⟩=some (.int .u32 0)∧w2.cell? ⟨b,o+1,none⟩=some (.int .i32 1)∧w2.frozen? ⟨b,o,none⟩=false∧w2.frozen? ⟨b,o+1,none⟩=false) :
  Calls prog 219 #[ac b o,.func (.func F) #[] cap] w fun e w'=>e=.returned (.tuple #[]) ∧
   ∃ w2,Post w2∧w'=(w2.drew.setCell ⟨b,o,none⟩ (.int .u32 1)).setCell ⟨b,o+1,none⟩ (.int .i32 0):=by
 have hS:=zq F b o cap w Post hcf h0 h1 f1 hf hP
 have hld:=uO ⟨b,o,none⟩ 0 _ h0
 clear hf hP hcf
 go_enter func219,ntmps219
 go_wp2_with (first | (go_at_call 186;refine hld.mono ?_;rintro e w' ⟨rfl,rfl⟩) | (go_at_call 233;refine hS.mono ?_;rintro e w' ⟨rfl,h⟩))
 go_end0
 exact⟨rfl,h⟩
theorem yi (a:Addr) (fv:Value) (w:World) (h0:w.cell? a=some (.int .u32 1)) :
  Calls prog 219 #[.pointer (some a),fv] w fun e w'=>e=.returned (.tuple #[])∧w'=w:=by
 have hld:=uO a 1 _ h0
 go_enter func219,ntmps219
 go_wp2_with (go_at_call 186;refine hld.mono ?_;rintro e w' ⟨rfl,rfl⟩)
 go_end0
 exact⟨rfl,rfl⟩
structure Vr (w:World) (p:Nat) (v:Value) (ty:TypeId):Prop where
 at_:w.heap[p]?=some (.cells #[v] ty (0,0))
theorem Vr.lt {w:World} {p:Nat} {v:Value} {ty:TypeId} (h:Vr w p v ty):p<w.heap.size:=(Array.getElem?_eq_some_iff.1 h.at_).1
theorem Vr.c {w:World} {p:Nat} {v:Value} {ty:TypeId} (h:Vr w p v ty):w.cell? ⟨p,0,none⟩=some v:=ae w p 0 _ _ _ h.at_
theorem Vr.fz {w:World} {p:Nat} {v:Value} {ty:TypeId} (h:Vr w p v ty):w.frozen? ⟨p,0,none⟩=false:=frozen_of_row w p 0 _ _ h.at_
theorem Vr.off {l:List Nat} {w w':World} {p:Nat} {v:Value} {ty:TypeId} (h:Vr w p v ty) (k:Off l w w') (hb:p ∉ l):Vr w' p v ty:=⟨(k.block p h.lt hb).trans h.at_⟩
theorem Vr.new (w:World) (v:Value) (ty:TypeId):Vr (w.alloc (.cells #[v] ty)) w.heap.size v ty:=⟨aB w _⟩
theorem Vr.set {w:World} {p:Nat} {v:Value} {ty:TypeId} (h:Vr w p v ty) (v':Value):Vr (w.setCell ⟨p,0,none⟩ v') p v' ty:=⟨heap_setCell_same _ _ _ _ _ _ h.at_⟩
def GC (k d m c t:Int):Array Value:=#[.int .i32 k,.int .u32 0,.int .u32 d,.int .i32 m,.int .u32 0,.int .i64 c,.int .i64 t]
structure GR (w:World) (b:Nat) (k d m c t:Int):Prop where
 at_:w.heap[b]?=some (.cells (GC k d m c t) 239 (0,0))
section
variable {w w':World} {b:Nat} {k d m c t:Int}
theorem GR.lt (h:GR w b k d m c t):b<w.heap.size:=(Array.getElem?_eq_some_iff.1 h.at_).1
theorem GR.c0 (h:GR w b k d m c t):w.cell? ⟨b,0,none⟩=some (.int .i32 k):=ae w b 0 _ _ _ h.at_
theorem GR.c2 (h:GR w b k d m c t):w.cell? ⟨b,2,none⟩=some (.int .u32 d):=ae w b 2 _ _ _ h.at_
theorem GR.c3 (h:GR w b k d m c t):w.cell? ⟨b,3,none⟩=some (.int .i32 m):=ae w b 3 _ _ _ h.at_
theorem GR.c4 (h:GR w b k d m c t):w.cell? ⟨b,4,none⟩=some (.int .u32 0):=ae w b 4 _ _ _ h.at_
theorem GR.c5 (h:GR w b k d m c t):w.cell? ⟨b,5,none⟩=some (.int .i64 c):=ae w b 5 _ _ _ h.at_
theorem GR.c6 (h:GR w b k d m c t):w.cell? ⟨b,6,none⟩=some (.int .i64 t):=ae w b 6 _ _ _ h.at_
theorem GR.fz (h:GR w b k d m c t) (j:Nat):w.frozen? ⟨b,j,none⟩=false:=frozen_of_row w b j _ _ h.at_
theorem GR.off {l:List Nat} (h:GR w b k d m c t) (q:Off l w w') (hb:b ∉ l):GR w' b k d m c t:=⟨(q.block b h.lt hb).trans h.at_⟩
theorem GR.s0 (h:GR w b k d m c t) (x:Int):GR (w.setCell ⟨b,0,none⟩ (.int .i32 x)) b x d m c t:=⟨heap_setCell_same _ _ _ _ _ _ h.at_⟩
theorem GR.s2 (h:GR w b k d m c t) (x:Int):GR (w.setCell ⟨b,2,none⟩ (.int .u32 x)) b k x m c t:=⟨heap_setCell_same _ _ _ _ _ _ h.at_⟩
theorem GR.s3 (h:GR w b k d m c t) (x:Int):GR (w.setCell ⟨b,3,none⟩ (.int .i32 x)) b k d x c t:=⟨heap_setCell_same _ _ _ _ _ _ h.at_⟩
theorem GR.s4 (h:GR w b k d m c t):GR (w.setCell ⟨b,4,none⟩ (.int .u32 0)) b k d m c t:=⟨heap_setCell_same _ _ _ _ _ _ h.at_⟩
theorem GR.s5 (h:GR w b k d m c t) (x:Int):GR (w.setCell ⟨b,5,none⟩ (.int .i64 x)) b k d m x t:=⟨heap_setCell_same _ _ _ _ _ _ h.at_⟩
theorem GR.s6 (h:GR w b k d m c t) (x:Int):GR (w.setCell ⟨b,6,none⟩ (.int .i64 x)) b k d m c x:=⟨heap_setCell_same _ _ _ _ _ _ h.at_⟩
theorem GR.drew (h:GR w b k d m c t):GR w.drew b k d m c t:=⟨h.at_⟩
end
theorem vo (w:World) :
  Calls prog 119 #[] w fun e w'=>e=.returned (ac w.heap.size 0)∧(Off [] w w'∧GR w' w.heap.size 0 0 0 0 0):=by
 go_enter func119,ntmps119
 go_wp2
 go_ret
 exact⟨rfl,Off.alloc _ _ _,⟨aB w _⟩⟩
theorem nU (w:World) (b i:Nat) (cs:Array Value) (ty:TypeId) (x v:Value) (hg:w.heap[b]?=some (.cells cs ty (0,0))) (hv:cs[i]?=some v):(w.setCell ⟨b,i,none⟩ x).setCell ⟨b,i,none⟩ v=w:=by
 have h:((w.setCell ⟨b,i,none⟩ x).setCell ⟨b,i,none⟩ v).heap=w.heap:=by
  apply Array.ext_getElem?
  intro k
  by_cases hk:k=b
  ·subst hk
   rw[heap_setCell_same _ _ _ _ _ _ (heap_setCell_same _ _ _ _ _ _ hg),hg,Array.setIfInBounds_setIfInBounds]
   congr 2
   apply Array.ext_getElem?
   intro j
   rw[Array.getElem?_setIfInBounds]
   split
   ·subst_vars
    split
    ·exact hv.symm
    ·rw[Array.getElem?_eq_none (by omega)]
   ·rfl
  ·rw[heap_setCell_other _ _ _ _ hk,heap_setCell_other _ _ _ _ hk]
 cases w
 simp only[World.setCell]at h ⊢
 rw[h]
theorem jk (b:Nat) (d c t:Int) (w:World) (h:GR w b 0 d 0 c t) :
  Calls prog 87 #[ac b 0] w fun e w'=>e=.returned (.int .i64 c)∧w'=w:=by
 have h0:=h.c0
 have hz:=h.fz 0
 go_enter_defers func87,ntmps87
 go_wp2_with fail
 refine (fH ⟨b,0,none⟩ _ h0 hz).mono ?_
 rintro e w2 ⟨rfl,hw⟩
 have g2:GR w2 b 1 d 0 c t:=hw ▸ h.s0 1
 have hh:Hid (_):=hw
 clear h0 hz hw
 have h5:=g2.c5
 go_wp2_with fail
 refine leaves_cons (f:=117) (args:=#[ac b 0]) (by simp) (by simp[go_sem]) ?_
 refine (cT ⟨b,0,none⟩ .returning _ g2.c0 (g2.fz 0)).mono ?_
 rintro e u' w'' ⟨rfl,rfl,hw'⟩
 refine⟨_,results_tmp rfl _ _ _,rfl,?_⟩
 rw[hw',hh.out]
 exact nU w b 0 _ _ _ _ h.at_ rfl
theorem vO (b:Nat) (d c t:Int) (w:World) (h:GR w b 0 d 0 c t) :
  Calls prog 261 #[ac b 0] w fun e w'=>e=.returned (.int .i64 c)∧(Off [b] w w'∧GR w' b 0 0 0 0 0):=by
 have h0:=h.c0
 have hz:=h.fz 0
 go_enter_defers func261,ntmps261
 go_wp2_with fail
 refine (fH ⟨b,0,none⟩ _ h0 hz).mono ?_
 rintro e w2 ⟨rfl,hw⟩
 have g2:GR w2 b 1 d 0 c t:=hw ▸ h.s0 1
 have o2:Off [b] w w2:=hw ▸ Off.setCell b 0 w _
 clear hw h h0 hz
 have h2:=g2.c2
 have h3:=g2.c3
 have h4:=g2.c4
 have h5:=g2.c5
 have h6:=g2.c6
 have z2:=g2.fz 2
 have z3:=g2.fz 3
 have z4:=g2.fz 4
 have z5:=g2.fz 5
 have z6:=g2.fz 6
 go_wp2_with fail
 refine leaves_cons (f:=117) (args:=#[ac b 0]) (by simp) (by simp[go_sem]) ?_
 have g3:=((((g2.s2 0).s3 0).s4).s5 0).s6 0
 refine (cT ⟨b,0,none⟩ .returning _ g3.c0 (g3.fz 0)).mono ?_
 rintro e u' w'' ⟨rfl,rfl,hw⟩
 have g4:GR w'' b 0 0 0 0 0:=hw ▸ g3.s0 0
 have o3:Off [b] w2 w'':=hw ▸ ((((((Off.setCell b 2 w2 _).trans (Off.setCell b 3 _ _)).trans (Off.setCell b 4 _ _)).trans (Off.setCell b 5 _ _)).trans (Off.setCell b 6 _ _)).trans (Off.setCell b 0 _ _))
 exact⟨_,results_tmp rfl _ _ _,rfl,o2.trans o3,g4⟩
end Go.Proofs.YtenilkloffnjlaaGreat
namespace Go.Proofs.YtenilkloffnjlaaGreat
open Tryz
open Go.RowKit
theorem zw (b pc pg pf:Nat) (k d m c t x:Int) (y:Value) (w:World) (h:GR w b k d m c t) (vc:Vr w pc (.int .i64 x) 24) (vg:Vr w pg (ac b 0) 192) (vf:Vr w pf y 4) (hbf:b≠pf) :
  Calls prog 220 (aA pc pg pf) w fun e w'=>e=.returned (.tuple #[]) ∧
   (Off [b,pf] w w'∧GR w' b k d m x t∧Vr w' pf (.bool true) 4):=by
 have h1:=vc.c
 have h2:=vg.c
 have h3:=vf.c
 have h5:=h.c5
 have z5:=h.fz 5
 have z3:=vf.fz
 have h3':(w.setCell ⟨b,5,none⟩ (.int .i64 x)).cell? ⟨pf,0,none⟩=some y:=(World.cell?_setCell_other _ _ _ _ (by simp)).trans h3
 go_enter func220,ntmps220
 go_wp2_with fail
 go_end0
 have o1:Off [b,pf] w (w.setCell ⟨b,5,none⟩ (.int .i64 x)):=(Off.setCell b 5 w _).more (by simp)
 have o2:Off [pf] (w.setCell ⟨b,5,none⟩ (.int .i64 x)) ((w.setCell ⟨b,5,none⟩ (.int .i64 x)).setCell ⟨pf,0,none⟩ (.bool true)):=Off.setCell pf 0 _ _
 exact⟨rfl,o1.trans (o2.more (by simp)),(h.s5 x).off o2 (by simpa using hbf),(vf.off (Off.setCell b 5 w _) (by simp;omega)).set _⟩
theorem rW (b:Nat) (x t:Int) (hx:¬ x=0) (w:World) (h:GR w b 0 0 0 0 t) :
  Calls prog 187 #[ac b 0,.int .i64 x] w fun e w'=>e=.returned (.bool true)∧(Off [b] w w'∧GR w' b 0 1 0 x (wrap64 (t+1))):=by
 have hmf:∀ (fn:Fn) (first cap:Array Value) (w:World),(Instr.makeFunc fn first cap).run prog w=.ok (.func fn first cap) w:=fun _ _ _ _=>rfl
 go_enter_defers func187,ntmps187
 go_wp2_with fail
 have o1:Off [] w ((w.alloc (.cells #[ac b 0] 192)).alloc (.cells #[.int .i64 x] 24)):=(Off.alloc _ _ _).trans (Off.alloc _ _ _)
 have vg1:=(Vr.new w (ac b 0) 192).off (Off.alloc [] _ (.cells #[.int .i64 x] 24)) (by simp)
 have vc1:=Vr.new (w.alloc (.cells #[ac b 0] 192)) (.int .i64 x) 24
 rw[World.size_alloc]at vc1
 have g1:=h.off o1 (by simp)
 have lb:=h.lt
 generalize (w.alloc (.cells #[ac b 0] 192)).alloc (.cells #[.int .i64 x] 24)=w1 at *
 refine (fH ⟨b,0,none⟩ _ g1.c0 (g1.fz 0)).mono ?_
 rintro e w2 ⟨rfl,hw⟩
 have g2:GR w2 b 1 0 0 0 t:=hw ▸ g1.s0 1
 have o2:Off [b] w1 w2:=hw ▸ Off.setCell b 0 w1 _
 clear hw
 have vg2:=vg1.off o2 (by simp;omega)
 have vc2:=vc1.off o2 (by simp;omega)
 have o2':Off [b] w w2:=(o1.more (by simp)).trans o2
 clear g1 vg1 vc1 o1 o2
 have cg:=vg2.c
 have c6:=g2.c6
 have z6:=g2.fz 6
 have lg:=vg2.lt
 have lc:=vc2.lt
 have l2:=g2.lt
 go_wp2_with fail
 have s2:w.heap.size≤w2.heap.size:=o2'.size
 have o3:Off [b] w2 ((w2.setCell ⟨b,6,none⟩ (.int .i64 (wrap64 (t+1)))).alloc (.cells #[.bool false] 4)):=(Off.setCell b 6 w2 _).trans (Off.alloc _ _ _)
 have vf3:=Vr.new (w2.setCell ⟨b,6,none⟩ (.int .i64 (wrap64 (t+1)))) (.bool false) 4
 have g3:=(g2.s6 (wrap64 (t+1))).off (Off.alloc [] _ (.cells #[.bool false] 4)) (by simp)
 rw[show (w2.setCell ⟨b,6,none⟩ (.int .i64 (wrap64 (t+1)))).heap.size=w2.heap.size by simp[World.setCell]]at vf3
 generalize (w2.setCell ⟨b,6,none⟩ (.int .i64 (wrap64 (t+1)))).alloc (.cells #[.bool false] 4)=w3 at *
 have vg3:=vg2.off o3 (by simp;omega)
 have vc3:=vc2.off o3 (by simp;omega)
 have o3':=o2'.trans o3
 clear vg2 vc2 g2 o2' o3 c6 z6 cg
 have o4:=Off.setCell b 3 w3 (.int .i32 1)
 have hf:=zw b (w.heap.size+1) w.heap.size w2.heap.size 1 0 1 0 (wrap64 (t+1)) x (.bool false) (w3.setCell ⟨b,3,none⟩ (.int .i32 1)) (g3.s3 1) (vc3.off o4 (by simp;omega)) (vg3.off o4 (by simp;omega)) (vf3.off o4 (by simp;omega)) (by omega)
 refine (abK 220 b 2 _ w3 _ (fun _=>by kernel_rfl) g3.c2 g3.c3 (g3.fz 3) hf ?_).mono ?_
 ·rintro w5 ⟨_,g5,_⟩
  exact⟨g5.c2,g5.c3,g5.fz 2,g5.fz 3⟩
 rintro e w6 ⟨rfl,w5,⟨o5,g5,v5⟩,hw⟩
 have g6:GR w6 b 1 1 0 x (wrap64 (t+1)):=hw ▸ (g5.drew.s2 1).s3 0
 have o6:Off [b] w5 w6:=hw ▸ ((Off.drew _ _).trans (Off.setCell b 2 _ _)).trans (Off.setCell b 3 _ _)
 have v6:=v5.off o6 (by simp;omega)
 have m1:∀ k,k ∈ [b]→k ∈ [b,w2.heap.size]:=by simp
 have o7:Off [b] w w6:=((((o3'.more m1).trans (o4.more m1)).trans o5).trans (o6.more m1)).only (by simp;omega)
 clear hf g5 v5 o5 o4 o3' hw vf3 vg3 vc3 g3
 have cf:=v6.c
 go_wp2_with fail
 refine leaves_cons (f:=117) (args:=#[ac b 0]) (by simp) (by simp[go_sem]) ?_
 refine (cT ⟨b,0,none⟩ .returning _ g6.c0 (g6.fz 0)).mono ?_
 rintro e u' w'' ⟨rfl,rfl,hw⟩
 have g8:GR w'' b 0 1 0 x (wrap64 (t+1)):=hw ▸ g6.s0 0
 have o8:Off [b] w6 w'':=hw ▸ Off.setCell b 0 _ _
 exact⟨_,results_tmp rfl _ _ _,rfl,o7.trans o8,g8⟩
theorem rV (b:Nat) (x c t:Int) (hx:¬ x=0) (w:World) (h:GR w b 0 1 0 c t) :
  Calls prog 187 #[ac b 0,.int .i64 x] w fun e w'=>e=.returned (.bool false)∧(Off [b] w w'∧GR w' b 0 1 0 c (wrap64 (t+1))):=by
 have hmf:∀ (fn:Fn) (first cap:Array Value) (w:World),(Instr.makeFunc fn first cap).run prog w=.ok (.func fn first cap) w:=fun _ _ _ _=>rfl
 go_enter_defers func187,ntmps187
 go_wp2_with fail
 have o1:Off [] w ((w.alloc (.cells #[ac b 0] 192)).alloc (.cells #[.int .i64 x] 24)):=(Off.alloc _ _ _).trans (Off.alloc _ _ _)
 have vg1:=(Vr.new w (ac b 0) 192).off (Off.alloc [] _ (.cells #[.int .i64 x] 24)) (by simp)
 have vc1:=Vr.new (w.alloc (.cells #[ac b 0] 192)) (.int .i64 x) 24
 rw[World.size_alloc]at vc1
 have g1:=h.off o1 (by simp)
 have lb:=h.lt
 generalize (w.alloc (.cells #[ac b 0] 192)).alloc (.cells #[.int .i64 x] 24)=w1 at *
 refine (fH ⟨b,0,none⟩ _ g1.c0 (g1.fz 0)).mono ?_
 rintro e w2 ⟨rfl,hw⟩
 have g2:GR w2 b 1 1 0 c t:=hw ▸ g1.s0 1
 have o2:Off [b] w1 w2:=hw ▸ Off.setCell b 0 w1 _
 clear hw
 have vg2:=vg1.off o2 (by simp;omega)
 have vc2:=vc1.off o2 (by simp;omega)
 have o2':Off [b] w w2:=(o1.more (by simp)).trans o2
 clear g1 vg1 vc1 o1 o2
 have cg:=vg2.c
 have c6:=g2.c6
 have z6:=g2.fz 6
 have lg:=vg2.lt
 have lc:=vc2.lt
 have l2:=g2.lt
 go_wp2_with fail
 have s2:w.heap.size≤w2.heap.size:=o2'.size
 have o3:Off [b] w2 ((w2.setCell ⟨b,6,none⟩ (.int .i64 (wrap64 (t+1)))).alloc (.cells #[.bool false] 4)):=(Off.setCell b 6 w2 _).trans (Off.alloc _ _ _)
 have vf3:=Vr.new (w2.setCell ⟨b,6,none⟩ (.int .i64 (wrap64 (t+1)))) (.bool false) 4
 have g3:=(g2.s6 (wrap64 (t+1))).off (Off.alloc [] _ (.cells #[.bool false] 4)) (by simp)
 rw[show (w2.setCell ⟨b,6,none⟩ (.int .i64 (wrap64 (t+1)))).heap.size=w2.heap.size by simp[World.setCell]]at vf3
 generalize (w2.setCell ⟨b,6,none⟩ (.int .i64 (wrap64 (t+1)))).alloc (.cells #[.bool false] 4)=w3 at *
 have vg3:=vg2.off o3 (by simp;omega)
 have vc3:=vc2.off o3 (by simp;omega)
 have o3':=o2'.trans o3
 clear vg2 vc2 g2 o2' o3 c6 z6 cg
 refine (yi ⟨b,2,none⟩ _ w3 g3.c2).mono ?_
 rintro e w6 ⟨rfl,hw⟩
 have g6:GR w6 b 1 1 0 c (wrap64 (t+1)):=hw ▸ g3
 have v6:Vr w6 w2.heap.size (.bool false) 4:=hw ▸ vf3
 have o7:Off [b] w w6:=hw ▸ o3'
 clear o3' hw vf3 vg3 vc3 g3
 have cf:=v6.c
 go_wp2_with fail
 refine leaves_cons (f:=117) (args:=#[ac b 0]) (by simp) (by simp[go_sem]) ?_
 refine (cT ⟨b,0,none⟩ .returning _ g6.c0 (g6.fz 0)).mono ?_
 rintro e u' w'' ⟨rfl,rfl,hw⟩
 have g8:GR w'' b 0 1 0 c (wrap64 (t+1)):=hw ▸ g6.s0 0
 have o8:Off [b] w6 w'':=hw ▸ Off.setCell b 0 _ _
 exact⟨_,results_tmp rfl _ _ _,rfl,o7.trans o8,g8⟩
structure Vs where
 run:Bool
 held:Bool
 fr:Bool
 lat:Int
 sm:Bool
 bs:Nat→Nat
def om:Vs:=⟨false,false,false,0,false,fun _=>0⟩
def du (s:Vs) (x:Int):Vs:=if x=0 then s else { s with fr:=false,sm:=false,lat:=if s.lat=0 then x else s.lat }
def dS (s:Vs) (o:Bool):Vs:=if s.run=o then s else { s with run:=o,held:=false,sm:=false }
def fL (s:Vs) (o:Bool):Vs:={ s with held:=o && s.run }
def dF (s:Vs):Vs:={ s with fr:=s.lat != 0 }
def dY (s:Vs) (bs:Nat→Nat):Vs:=if s.run=true∧s.lat=0 then { s with sm:=true,bs:=bs } else s
def au (s:Vs):Bool:=s.run && (s.lat != 0 && s.fr)
def ja (s:Vs):Vs:=if au s=true then { s with lat:=0,fr:=false } else s
def aE (s:Vs):Bool:=s.run && (!s.held && s.sm)
def co (s:Vs):Nat→Nat:=if aE s=true then s.bs else fun _=>0
theorem Row8.off {l:List Nat} {w w':World} {a:Option Addr} {len cap:Nat} {bs:Nat→Nat} (h:Row8 w a len cap bs) (q:Off l w w') (hl:∀ x,a=some x→x.block ∉ l):Row8 w' a len cap bs:=by
 refine⟨h.byte,h.nil,fun x hx i hi=>?_,h.le⟩
 have h1:=h.src x hx i hi
 have hlt:=World.block_lt_of_cell? w _ h1
 have hb:(x.add i).block=x.block:=by unfold Addr.add;split <;> rfl
 have he:w'.heap[(x.add i).block]?=w.heap[(x.add i).block]?:=q.block _ hlt (by rw[hb];exact hl x hx)
 rw[← h1]
 unfold World.cell?
 rw[he]
def VC (n:Nat) (s:Vs) (g:Nat) (v:Value):Array Value:=#[.int .i64 (n:Nat),.bool s.run,.bool s.held,ac g 0,.bool s.fr,v]
def VV (w:World) (M:List Nat) (n:Nat) (s:Vs) (v:Value):Prop:=(s.sm=false∧v=.slice none 0 0)∨(s.sm=true∧(w.ownsRow 0 5 1 v n (CB s.bs n)∧∀ k,v.ownBlock=some k→k ∈ M)∧∀ i,i<n→s.bs i<256)
theorem aO {l:List Nat} {w w':World} {B e size n:Nat} {v:Value} {xs:List Value} (h:w.ownsRow B e size v n xs) (q:Off l w w') (hl:∀ k,v.ownBlock=some k→k ∉ l):w'.ownsRow B e size v n xs:=by
 refine⟨h.1,?_⟩
 rcases h.2 with hn | ⟨g,cap,cur,rfl,hg,hgg,rest⟩
 ·exact .inl hn
 ·exact .inr ⟨g,cap,cur,rfl,hg,by rw[q.block g (Array.getElem?_eq_some_iff.1 hgg).1 (hl g rfl)];exact hgg,rest⟩
theorem VV.off {l:List Nat} {w w':World} {M:List Nat} {n:Nat} {s:Vs} {v:Value} (h:VV w M n s v) (q:Off l w w') (hl:∀ k,k ∈ l→k ∉ M):VV w' M n s v:=by
 rcases h with h | ⟨h1,h2,h3⟩
 ·exact .inl h
 ·exact .inr ⟨h1,⟨aO h2.1 q (fun k hk hm=>hl k hm (h2.2 k hk)),h2.2⟩,h3⟩
structure VR (w:World) (b g:Nat) (M:List Nat) (n:Nat) (s:Vs):Prop where
 ex:∃ v t,w.heap[b]?=some (.cells (VC n s g v) 194 (0,0))∧GR w g 0 (if s.lat=0 then 0 else 1) 0 s.lat t∧VV w M n s v
 bM:b ∉ M
 gM:g ∉ M
 ne:g≠b
 n1:1≤n
 n8:n≤8
section
variable {w w':World} {b g:Nat} {M:List Nat} {n:Nat} {s:Vs}
theorem VR.lt (h:VR w b g M n s):b<w.heap.size:=by
 obtain⟨v,t,h1,_⟩:=h.ex
 exact (Array.getElem?_eq_some_iff.1 h1).1
theorem VR.off {l:List Nat} (h:VR w b g M n s) (q:Off l w w') (hb:b ∉ l) (hg:g ∉ l) (hl:∀ k,k ∈ l→k ∉ M):VR w' b g M n s:=by
 obtain⟨v,t,h1,h2,h3⟩:=h.ex
 exact⟨⟨v,t,(q.block b h.lt hb).trans h1,h2.off q hg,h3.off q hl⟩,h.bM,h.gM,h.ne,h.n1,h.n8⟩
theorem VR.cells (h:VR w b g M n s):∃ v t,w.cell? ⟨b,0,none⟩=some (.int .i64 (n:Nat))∧w.cell? ⟨b,1,none⟩=some (.bool s.run)∧w.cell? ⟨b,2,none⟩=some (.bool s.held)∧w.cell? ⟨b,3,none⟩=some (ac g 0) ∧
  w.cell? ⟨b,4,none⟩=some (.bool s.fr)∧w.cell? ⟨b,5,none⟩=some v∧(∀ j,w.frozen? ⟨b,j,none⟩=false)∧GR w g 0 (if s.lat=0 then 0 else 1) 0 s.lat t∧VV w M n s v∧w.heap[b]?=some (.cells (VC n s g v) 194 (0,0)):=by
 obtain⟨v,t,e,h2,h3⟩:=h.ex
 exact⟨v,t,ae w b 0 _ _ _ e,ae w b 1 _ _ _ e,ae w b 2 _ _ _ e,ae w b 3 _ _ _ e,ae w b 4 _ _ _ e,ae w b 5 _ _ _ e,fun j=>frozen_of_row w b j _ _ e,h2,h3,e⟩
end
theorem gA (b g:Nat) (M:List Nat) (n:Nat) (s:Vs) (w:World) (h:VR w b g M n s) :
  Calls prog 88 #[ac b 0] w fun e w'=>e=.returned (.bool (s.lat != 0))∧w'=w:=by
 obtain⟨v,t,c0,c1,c2,c3,c4,c5,fz,G,V,hb⟩:=h.cells
 have H:Hid (_):=G
 clear G V hb h
 by_cases hl:s.lat=0
 ·rw[hl]
  go_enter func88,ntmps88
  go_wp2_with fail
  refine (jk g _ _ t w H.out).mono ?_
  rintro e w2 ⟨rfl,rfl⟩
  rw[hl]
  go_wp2_with fail
  go_ret
  exact⟨rfl,rfl⟩
 ·have hl':(s.lat != 0)=true:=by simpa using hl
  rw[hl']
  go_enter func88,ntmps88
  go_wp2_with fail
  refine (jk g _ _ t w H.out).mono ?_
  rintro e w2 ⟨rfl,rfl⟩
  go_wp2_with fail
  go_ret
  exact⟨rfl,rfl⟩
theorem jb (b g:Nat) (M:List Nat) (n:Nat) (s:Vs) (w:World) (h:VR w b g M n s) :
  Calls prog 62 #[ac b 0] w fun e w'=>e=.returned (.int .i64 s.lat)∧w'=w:=by
 obtain⟨v,t,c0,c1,c2,c3,c4,c5,fz,G,V,hb⟩:=h.cells
 have H:Hid (_):=G
 clear G V hb h
 go_enter func62,ntmps62
 go_wp2_with fail
 refine (jk g _ _ t w H.out).mono ?_
 rintro e w2 ⟨rfl,rfl⟩
 go_wp2_with fail
 go_ret
 exact⟨rfl,rfl⟩
theorem gH (b g:Nat) (M:List Nat) (n:Nat) (s:Vs) (w:World) (h:VR w b g M n s) :
  Calls prog 63 #[ac b 0] w fun e w'=>e=.returned (.bool (au s))∧w'=w:=by
 obtain⟨v,t,c0,c1,c2,c3,c4,c5,fz,G,V,hb⟩:=h.cells
 have hl:=gA b g M n s w h
 clear G V hb h
 unfold au
 cases hr:s.run
 ·rw[hr]at c1
  go_enter func63,ntmps63
  go_wp2_with fail
  go_ret
  exact⟨rfl,rfl⟩
 ·rw[hr]at c1
  generalize (s.lat != 0)=q at hl ⊢
  cases q
  ·go_enter func63,ntmps63
   go_wp2_with (go_at_call 88;refine hl.mono ?_;rintro e w' ⟨rfl,rfl⟩)
   go_ret
   exact⟨rfl,rfl⟩
  ·go_enter func63,ntmps63
   go_wp2_with (go_at_call 88;refine hl.mono ?_;rintro e w' ⟨rfl,rfl⟩)
   go_ret
   exact⟨rfl,rfl⟩
theorem xn (b n:Nat) (r hd:Bool) (x:Value) (w:World) (c0:w.cell? ⟨b,0,none⟩=some (.int .i64 (n:Nat))) (c1:w.cell? ⟨b,1,none⟩=some (.bool r)) (c2:w.cell? ⟨b,2,none⟩=some (.bool hd)) (c5:w.cell? ⟨b,5,none⟩=some x) (h8:n≤8)
  (hx:r=false∨hd=true∨x=.slice none 0 0) :
  Calls prog 60 #[ac b 0] w fun e w'=>∃ v,e=.returned (.tuple #[v,.bool false])∧Hid (w'.ownsRow w.heap.size 5 1 v n (CB (fun _=>0) n)∧Below w.heap.size w w'):=by
 obtain⟨i0,hi,hz0,hz1,hz2⟩:=info_parts cq
 cases r
 ·go_enter func60,ntmps60
  go_wp2_with (at_make;refine bk _ rfl (.tmp 27) (.tmp 27) 37 rfl w.heap.size 5 i0 underlying37 hi hz0 hz1 hz2 _ _ _ _ n n rfl rfl rfl rfl (Nat.le_refl _) (by omega) (Nat.le_refl _) ?_)
  intro w1 hown1 hbel1
  have H:Hid (_):=And.intro hown1 hbel1
  clear hown1 hbel1
  go_wp2_with fail
  go_ret2
  exact⟨_,rfl,H⟩
 ·cases hd
  ·have e:x=.slice none 0 0:=by rcases hx with h | h | h <;> simp_all
   subst e
   have he:∀ w:World,(binOp .eql 37 (.slice none 0 0) (.slice none 0 0)).run prog w=.ok (.bool true) w:=fun _=>by kernel_rfl
   go_enter func60,ntmps60
   go_wp2_with (at_make;refine bk _ rfl (.tmp 27) (.tmp 27) 37 rfl w.heap.size 5 i0 underlying37 hi hz0 hz1 hz2 _ _ _ _ n n rfl rfl rfl rfl (Nat.le_refl _) (by omega) (Nat.le_refl _) ?_)
   intro w1 hown1 hbel1
   have H:Hid (_):=And.intro hown1 hbel1
   clear hown1 hbel1
   go_wp2_with fail
   go_ret2
   exact⟨_,rfl,H⟩
  ·go_enter func60,ntmps60
   go_wp2_with (at_make;refine bk _ rfl (.tmp 27) (.tmp 27) 37 rfl w.heap.size 5 i0 underlying37 hi hz0 hz1 hz2 _ _ _ _ n n rfl rfl rfl rfl (Nat.le_refl _) (by omega) (Nat.le_refl _) ?_)
   intro w1 hown1 hbel1
   have H:Hid (_):=And.intro hown1 hbel1
   clear hown1 hbel1
   go_wp2_with fail
   go_ret2
   exact⟨_,rfl,H⟩
theorem zG (b n:Nat) (ad:Addr) (cap:Nat) (bs:Nat→Nat) (w:World) (c1:w.cell? ⟨b,1,none⟩=some (.bool true)) (c2:w.cell? ⟨b,2,none⟩=some (.bool false)) (c5:w.cell? ⟨b,5,none⟩=some (.slice (some ad) n cap)) (h8:n≤8)
  (R:Row8 w (some ad) n cap bs) :
  Calls prog 60 #[ac b 0] w fun e w'=>∃ v,e=.returned (.tuple #[v,.bool true])∧Hid (w'.ownsRow w.heap.size 5 1 v n (CB bs n)∧Below w.heap.size w w'):=by
 obtain⟨i0,hi,hz0,hz1,hz2⟩:=info_parts cq
 have O0:=World.ownsRow_nil w w.heap.size 5 1
 have he:∀ w:World,(binOp .eql 37 (.slice (some ad) n cap) (.slice none 0 0)).run prog w=.ok (.bool false) w:=fun _=>by kernel_rfl
 go_enter func60,ntmps60
 go_wp2_with (at_builtin;refine aP rfl (.const (.slice none 0 0)) (.tmp 32) 37 rfl w.heap.size 5 i0 (.int .u8 0) underlying37 hi hz0 hz1 hz2 rfl _ 0 _ rfl O0 (some ad) n cap bs rfl R (by unfold maxLen;omega) (by omega) (Nat.le_refl _) ?_)
 intro v2 w2 hown2 hgrow2
 have hbel2:Below w.heap.size w w2:=(Below.refl _ _).grown hgrow2 (Nat.le_refl _) (fun j hj=>by cases hj)
 have H:Hid (_):=And.intro hown2 hbel2
 clear hown2 hbel2 hgrow2 O0 R
 go_wp2_with fail
 go_ret2
 exact⟨_,rfl,H⟩
theorem jc (b g:Nat) (M:List Nat) (n:Nat) (s:Vs) (w:World) (h:VR w b g M n s) :
  Calls prog 60 #[ac b 0] w fun e w'=>∃ v,e=.returned (.tuple #[v,.bool (aE s)])∧Hid (w'.ownsRow w.heap.size 5 1 v n (CB (co s) n)∧Below w.heap.size w w'):=by
 obtain⟨v,t,c0,c1,c2,c3,c4,c5,fz,G,V,hb⟩:=h.cells
 by_cases ho:aE s=true
 ·unfold co
  rw[if_pos ho,ho]
  simp only[aE,Bool.and_eq_true,Bool.not_eq_true']at ho
  obtain⟨o1,o2,o3⟩:=ho
  rcases V with ⟨e,_⟩ | ⟨_,⟨V,_⟩,hby⟩
  ·rw[o3]at e;cases e
  obtain⟨a,cap,rfl,R⟩:=aY V hby
  have n1:=h.n1
  obtain⟨hb',off',rfl,_⟩:=R.plain (by omega)
  exact zG b n _ cap s.bs w (o1 ▸ c1) (o2 ▸ c2) c5 h.n8 R
 ·have ho':aE s=false:=by simpa using ho
  unfold co
  rw[if_neg ho,ho']
  refine xn b n s.run s.held v w c0 c1 c2 c5 h.n8 ?_
  rcases V with ⟨_,rfl⟩ | ⟨e,_⟩
  ·exact .inr (.inr rfl)
  ·unfold aE at ho'
   rw[e]at ho'
   cases hr:s.run
   ·exact .inl rfl
   ·rw[hr]at ho'
    cases hh:s.held
    ·rw[hh]at ho';cases ho'
    ·exact .inr (.inl rfl)
end Go.Proofs.YtenilkloffnjlaaGreat
namespace Go.Proofs.YtenilkloffnjlaaGreat
open Tryz
open Go.RowKit
section
variable {w w':World} {b g:Nat} {M:List Nat} {n:Nat} {s:Vs}
theorem VR.upd (h:VR w b g M n s) (s':Vs) (q:Off [b] w w') (hl:s'.lat=s.lat) (hc:∀ v,w.heap[b]?=some (.cells (VC n s g v) 194 (0,0))→VV w M n s v→∃ v',w'.heap[b]?=some (.cells (VC n s' g v') 194 (0,0))∧VV w' M n s' v'):VR w' b g M n s':=by
 obtain⟨v,t,e,G,V⟩:=h.ex
 obtain⟨v',e',V'⟩:=hc v e V
 exact⟨⟨v',t,e',by rw[hl];exact G.off q (by simpa using h.ne),V'⟩,h.bM,h.gM,h.ne,h.n1,h.n8⟩
end
theorem gI (b g:Nat) (M:List Nat) (n:Nat) (s:Vs) (o:Bool) (w:World) (h:VR w b g M n s) :
  Calls prog 169 #[ac b 0,.bool o] w fun e w'=>e=.returned (.tuple #[])∧Hid (Off [b,g] w w'∧VR w' b g M n (dS s o)):=by
 obtain⟨v,t,c0,c1,c2,c3,c4,c5,fz,G,V,hb⟩:=h.cells
 have z1:=fz 1
 have z2:=fz 2
 have z5:=fz 5
 unfold dS
 by_cases hr:s.run=o
 ·rw[if_pos hr]
  have H:Hid (_):=h
  rw[hr]at c1
  clear h G V hb
  cases o
  ·go_enter func169,ntmps169
   go_wp2_with fail
   refine bodyPost_ret (results_none rfl _ _ _) rfl ?_
   exact⟨rfl,Off.refl _ _,H.out⟩
  ·go_enter func169,ntmps169
   go_wp2_with fail
   refine bodyPost_ret (results_none rfl _ _ _) rfl ?_
   exact⟨rfl,Off.refl _ _,H.out⟩
 ·rw[if_neg hr]
  have o1:=Off.setCell b 1 w (.bool o)
  have o2:=o1.trans (Off.setCell b 2 _ (.bool false))
  have o3:=o2.trans (Off.setCell b 5 _ (.slice none 0 0))
  have F:Hid (Off [b,g] w (((w.setCell ⟨b,1,none⟩ (.bool o)).setCell ⟨b,2,none⟩ (.bool false)).setCell ⟨b,5,none⟩ (.slice none 0 0))∧VR (((w.setCell ⟨b,1,none⟩ (.bool o)).setCell ⟨b,2,none⟩ (.bool false)).setCell ⟨b,5,none⟩ (.slice none 0 0)) b g M n { s with run:=o,held:=false,sm:=false }):=
   ⟨o3.more (by simp),h.upd _ o3 rfl fun v e _=>⟨.slice none 0 0,heap_setCell_same _ _ _ _ _ _ (heap_setCell_same _ _ _ _ _ _ (heap_setCell_same _ _ _ _ _ _ e)),.inl ⟨rfl,rfl⟩⟩⟩
  clear h G V hb o1 o2 o3
  have hr':s.run = !o:=by cases o <;> cases hq:s.run <;> simp_all
  rw[hr']at c1
  clear hr
  cases o
  ·go_enter func169,ntmps169
   go_wp2_with fail
   go_end0
   exact⟨rfl,F⟩
  ·go_enter func169,ntmps169
   go_wp2_with fail
   go_end0
   exact⟨rfl,F⟩
theorem mQ (b g:Nat) (M:List Nat) (n:Nat) (s:Vs) (o:Bool) (w:World) (h:VR w b g M n s) :
  Calls prog 171 #[ac b 0,.bool o] w fun e w'=>e=.returned (.tuple #[])∧Hid (Off [b,g] w w'∧VR w' b g M n (fL s o)):=by
 obtain⟨v,t,c0,c1,c2,c3,c4,c5,fz,G,V,hb⟩:=h.cells
 have z2:=fz 2
 unfold fL
 have o1:=Off.setCell b 2 w (.bool (o && s.run))
 have F:Hid (Off [b,g] w (w.setCell ⟨b,2,none⟩ (.bool (o && s.run)))∧VR (w.setCell ⟨b,2,none⟩ (.bool (o && s.run))) b g M n { s with held:=o && s.run }):=
  ⟨o1.more (by simp),h.upd _ o1 rfl fun v e V=>⟨v,heap_setCell_same _ _ _ _ _ _ e,VV.off (s:={ s with held:=o && s.run }) V o1 (by simpa using h.bM)⟩⟩
 clear h G V hb o1
 cases o
 ·go_enter func171,ntmps171
  go_wp2_with fail
  go_end0
  exact⟨rfl,F⟩
 ·go_enter func171,ntmps171
  go_wp2_with fail
  go_end0
  exact⟨rfl,F⟩
theorem lD (b g:Nat) (M:List Nat) (n:Nat) (s:Vs) (w:World) (h:VR w b g M n s) :
  Calls prog 204 #[ac b 0] w fun e w'=>e=.returned (.tuple #[])∧Hid (Off [b,g] w w'∧VR w' b g M n (dF s)):=by
 obtain⟨v,t,c0,c1,c2,c3,c4,c5,fz,G,V,hb⟩:=h.cells
 have z4:=fz 4
 have hl:=gA b g M n s w h
 unfold dF
 generalize (s.lat != 0)=q at hl ⊢
 have o1:=Off.setCell b 4 w (.bool q)
 have F:Hid (Off [b,g] w (w.setCell ⟨b,4,none⟩ (.bool q))∧VR (w.setCell ⟨b,4,none⟩ (.bool q)) b g M n { s with fr:=q }):=
  ⟨o1.more (by simp),h.upd _ o1 rfl fun v e V=>⟨v,heap_setCell_same _ _ _ _ _ _ e,VV.off (s:={ s with fr:=q }) V o1 (by simpa using h.bM)⟩⟩
 clear h G V hb o1
 go_enter func204,ntmps204
 go_wp2_with (go_at_call 88;refine hl.mono ?_;rintro e w' ⟨rfl,rfl⟩)
 go_end0
 exact⟨rfl,F⟩
def gJ (s:Vs) (x:Int):Bool:=decide (¬ x=0∧s.lat=0)
theorem xt (b:Nat) (w:World) :
  Calls prog 150 #[ac b 0,.int .i64 0] w fun e w'=>e=.returned (.bool false)∧w'=w:=by
 go_enter func150,ntmps150
 go_wp2_with fail
 go_ret
 exact⟨rfl,rfl⟩
theorem rY (b g:Nat) (x:Int) (hx:¬ x=0) (q:Bool) (w:World) (P:World→Prop) (v y:Value) (c3:w.cell? ⟨b,3,none⟩=some (ac g 0)) (c4:w.cell? ⟨b,4,none⟩=some y) (c5:w.cell? ⟨b,5,none⟩=some v) (z4:w.frozen? ⟨b,4,none⟩=false) (z5:w.frozen? ⟨b,5,none⟩=false)
  (hg:Calls prog 187 #[ac g 0,.int .i64 x] ((w.setCell ⟨b,5,none⟩ (.slice none 0 0)).setCell ⟨b,4,none⟩ (.bool false)) fun e w'=>e=.returned (.bool q)∧P w') :
  Calls prog 150 #[ac b 0,.int .i64 x] w fun e w'=>e=.returned (.bool q)∧P w':=by
 go_enter func150,ntmps150
 go_wp2_with fail
 refine hg.mono ?_
 rintro e w2 ⟨rfl,p⟩
 have H:Hid (_):=p
 clear p hg
 go_wp2_with fail
 go_ret
 exact⟨rfl,H.out⟩
theorem ic (b g:Nat) (M:List Nat) (n:Nat) (s:Vs) (x:Int) (w:World) (h:VR w b g M n s) :
  Calls prog 150 #[ac b 0,.int .i64 x] w fun e w'=>e=.returned (.bool (gJ s x))∧Hid (Off [b,g] w w'∧VR w' b g M n (du s x)):=by
 unfold gJ du
 by_cases hx:x=0
 ·rw[if_pos hx,decide_eq_false (fun k=>k.1 hx)]
  subst hx
  exact (xt b w).mono (fun _ _ ⟨he,hw⟩=>⟨he,by subst hw;exact⟨Off.refl _ _,h⟩⟩)
 ·rw[if_neg hx]
  obtain⟨v,t,c0,c1,c2,c3,c4,c5,fz,G,V,hb⟩:=h.cells
  have o1:=Off.setCell b 5 w (.slice none 0 0)
  have o2:=o1.trans (Off.setCell b 4 _ (.bool false))
  have e2:((w.setCell ⟨b,5,none⟩ (.slice none 0 0)).setCell ⟨b,4,none⟩ (.bool false)).heap[b]?=some (.cells (VC n { s with fr:=false,sm:=false } g (.slice none 0 0)) 194 (0,0)):=heap_setCell_same _ _ _ _ _ _ (heap_setCell_same _ _ _ _ _ _ hb)
  have G2:=G.off o2 (by simpa using h.ne)
  have s2:=Nat.lt_of_lt_of_le h.lt o2.size
  refine rY b g x hx (decide (¬ x=0∧s.lat=0)) w (fun w'=>Hid (Off [b,g] w w'∧VR w' b g M n { s with fr:=false,sm:=false,lat:=if s.lat=0 then x else s.lat })) v _ c3 c4 c5 (fz 4) (fz 5) ?_
  generalize (w.setCell ⟨b,5,none⟩ (.slice none 0 0)).setCell ⟨b,4,none⟩ (.bool false)=w2 at *
  by_cases hl:s.lat=0
  ·rw[decide_eq_true ⟨hx,hl⟩,if_pos hl]
   rw[if_pos hl,hl]at G2
   refine (rW g x t hx w2 G2).mono ?_
   rintro e w3 ⟨rfl,o3,G3⟩
   refine⟨rfl,(o2.more (by simp)).trans (o3.more (by simp)),⟨⟨_,wrap64 (t+1),(o3.block b s2 (by simpa using Ne.symm h.ne)).trans e2,?_,.inl ⟨rfl,rfl⟩⟩,h.bM,h.gM,h.ne,h.n1,h.n8⟩⟩
   show GR w3 g 0 (if x=0 then 0 else 1) 0 x _
   rw[if_neg hx]
   exact G3
  ·rw[decide_eq_false (fun k=>hl k.2),if_neg hl]
   rw[if_neg hl]at G2
   refine (rV g x s.lat t hx w2 G2).mono ?_
   rintro e w3 ⟨rfl,o3,G3⟩
   refine⟨rfl,(o2.more (by simp)).trans (o3.more (by simp)),⟨⟨_,wrap64 (t+1),(o3.block b s2 (by simpa using Ne.symm h.ne)).trans e2,?_,.inl ⟨rfl,rfl⟩⟩,h.bM,h.gM,h.ne,h.n1,h.n8⟩⟩
   show GR w3 g 0 (if s.lat=0 then 0 else 1) 0 s.lat _
   rw[if_neg hl]
   exact G3
def xo (n len:Nat):Int:=if len=n then 0 else 45
theorem uy (b n:Nat) (a:Option Addr) (len cap:Nat) (w:World) (c0:w.cell? ⟨b,0,none⟩=some (.int .i64 (n:Nat))) (hn:¬ len=n) :
  Calls prog 172 #[ac b 0,.slice a len cap] w fun e w'=>e=.returned (.int .i64 45)∧w'=w:=by
 have hI:¬ (len:Int)=(n:Int):=by omega
 go_enter func172,ntmps172
 go_wp2_with fail
 go_ret
 exact⟨rfl,rfl⟩
theorem xp (b n:Nat) (r q:Bool) (a:Option Addr) (cap:Nat) (w:World) (c0:w.cell? ⟨b,0,none⟩=some (.int .i64 (n:Nat))) (c1:w.cell? ⟨b,1,none⟩=some (.bool r))
  (hl:Calls prog 88 #[ac b 0] w fun e w'=>e=.returned (.bool q)∧w'=w) (hx:r=false∨q=true) :
  Calls prog 172 #[ac b 0,.slice a n cap] w fun e w'=>e=.returned (.int .i64 0)∧w'=w:=by
 cases r
 ·go_enter func172,ntmps172
  go_wp2_with fail
  go_ret
  exact⟨rfl,rfl⟩
 ·have e:q=true:=by rcases hx with h | h <;> simp_all
  subst e
  go_enter func172,ntmps172
  go_wp2_with (go_at_call 88;refine hl.mono ?_;rintro e w' ⟨rfl,rfl⟩)
  go_ret
  exact⟨rfl,rfl⟩
theorem uz (b n:Nat) (v:Value) (a:Option Addr) (cap:Nat) (bs:Nat→Nat) (w:World) (R:Row8 w a n cap bs) (h8:n≤8) (c0:w.cell? ⟨b,0,none⟩=some (.int .i64 (n:Nat))) (c1:w.cell? ⟨b,1,none⟩=some (.bool true)) (c5:w.cell? ⟨b,5,none⟩=some v) (z5:w.frozen? ⟨b,5,none⟩=false) (hlt:b<w.heap.size)
  (hl:Calls prog 88 #[ac b 0] w fun e w'=>e=.returned (.bool false)∧w'=w) :
  Calls prog 172 #[ac b 0,.slice a n cap] w fun e w'=>e=.returned (.int .i64 0)∧Hid (∃ u w2,w2.ownsRow w.heap.size 5 1 u n (CB bs n)∧Below w.heap.size w w2∧w'=w2.setCell ⟨b,5,none⟩ u):=by
 obtain⟨i0,hi,hz0,hz1,hz2⟩:=info_parts cq
 have O0:=World.ownsRow_nil w w.heap.size 5 1
 go_enter func172,ntmps172
 go_wp2_with (first | (go_at_call 88;refine hl.mono ?_;rintro e w' ⟨rfl,hw⟩;have hw:=hw.symm;subst hw) | (at_builtin;refine aP rfl (.const (.slice none 0 0)) (.tmp 24) 37 rfl w.heap.size 5 i0 (.int .u8 0) underlying37 hi hz0 hz1 hz2 rfl _ 0 _ rfl O0 a n cap bs rfl R (by unfold maxLen;omega) (by omega) (Nat.le_refl _) ?_))
 intro v2 w2 hown2 hgrow2
 have hbel2:Below w.heap.size w w2:=(Below.refl _ _).grown hgrow2 (Nat.le_refl _) (fun j hj=>by cases hj)
 have d5:w2.cell? ⟨b,5,none⟩=some v:=(hbel2.cell hlt).trans c5
 have y5:w2.frozen? ⟨b,5,none⟩=false:=(hbel2.frozen hlt).trans z5
 obtain⟨a2,k2,rfl,_⟩:=aY hown2 R.byte
 have H:Hid (∃ w2' ,w2'.ownsRow w.heap.size 5 1 (.slice a2 n k2) n (CB bs n)∧Below w.heap.size w w2'∧w2=w2'):=⟨w2,hown2,hbel2,rfl⟩
 clear hown2 hbel2 hgrow2 O0 R c0 c1 c5 z5 hl
 go_wp2_with fail
 go_ret
 obtain⟨_,h1,h2,rfl⟩:=H.out
 exact⟨rfl,_,_,h1,h2,rfl⟩
theorem mS (b g:Nat) (M:List Nat) (n:Nat) (s:Vs) (a:Option Addr) (len cap:Nat) (bs:Nat→Nat) (w:World) (h:VR w b g M n s) (R:Row8 w a len cap bs) :
  Calls prog 172 #[ac b 0,.slice a len cap] w fun e w'=>e=.returned (.int .i64 (xo n len))∧Hid (∃ M',Off [b,g] w w'∧VR w' b g M' n (if len=n then dY s bs else s)∧∀ k,k ∈ M'→k ∈ M∨w.heap.size≤k∧k<w'.heap.size):=by
 obtain⟨v,t,c0,c1,c2,c3,c4,c5,fz,G,V,hb⟩:=h.cells
 have hl:=gA b g M n s w h
 unfold xo
 by_cases hn:len=n
 ·subst hn
  rw[if_pos rfl,if_pos rfl]
  unfold dY
  by_cases hs:s.run=true∧s.lat=0
  ·rw[if_pos hs]
   rw[show (s.lat != 0)=false by simpa using hs.2]at hl
   refine (uz b len v a cap bs w R h.n8 c0 (hs.1 ▸ c1) c5 (fz 5) h.lt hl).mono ?_
   rintro e w3 ⟨rfl,H⟩
   obtain⟨u,w2,h1,h2,rfl⟩:=H.out
   have o2:Off [b] w w2:=Off.of_below h2
   have o3:=Off.setCell b 5 w2 u
   have hob:∀ k,u.ownBlock=some k→w.heap.size≤k∧k<w2.heap.size:=by
    intro k hk
    rcases h1.2 with hn | ⟨g',cap',cur',rfl,hg',hh,_⟩
    ·rw[hn.1]at hk;cases hk
    ·cases hk;exact⟨hg',(Array.getElem?_eq_some_iff.1 hh).1⟩
   have hbk:∀ k,u.ownBlock=some k→k ∉ [b]:=fun k hk hm=>by have:=hob k hk;have:=h.lt;simp at hm;omega
   cases hu:u.ownBlock with
   | none=>
    refine⟨rfl,M,(o2.more (by simp)).trans (o3.more (by simp)),h.upd _ (o2.trans o3) rfl fun v' e' _=>⟨u,heap_setCell_same _ _ _ _ _ _ ((h2.block b h.lt).trans e'),.inr ⟨rfl,⟨aO (aS h1 (Nat.zero_le _)) o3 hbk,?_⟩,R.byte⟩⟩,fun k hk=>.inl hk⟩
    intro k hk
    rw[hu]at hk;cases hk
   | some k0=>
    have hk0:=hob k0 hu
    obtain⟨v1,t1,x1,x2,_⟩:=h.ex
    have hb1:=h.lt
    have hg1:=x2.lt
    refine⟨rfl,[k0],(o2.more (by simp)).trans (o3.more (by simp)),⟨⟨u,t1,heap_setCell_same _ _ _ _ _ _ ((h2.block b h.lt).trans x1),x2.off (o2.trans o3) (by simpa using h.ne),.inr ⟨rfl,⟨aO (aS h1 (Nat.zero_le _)) o3 hbk,?_⟩,R.byte⟩⟩,?_,?_,h.ne,h.n1,h.n8⟩,?_⟩
    ·intro k hk
     rw[hu]at hk;cases hk;simp
    ·simp;omega
    ·simp;omega
    ·intro k hk
     simp at hk;subst hk;exact .inr ⟨hk0.1,Nat.lt_of_lt_of_le hk0.2 o3.size⟩
  ·rw[if_neg hs]
   refine (xp b len s.run _ a cap w c0 c1 hl ?_).mono (fun _ _ ⟨he,hw⟩=>⟨he,by subst hw;exact⟨M,Off.refl _ _,h,fun _ hk=>.inl hk⟩⟩)
   cases hr:s.run
   ·exact .inl rfl
   ·exact .inr (by simpa using fun k=>hs ⟨hr,k⟩)
 ·rw[if_neg hn,if_neg hn]
  exact (uy b n a len cap w c0 hn).mono (fun _ _ ⟨he,hw⟩=>⟨he,by subst hw;exact⟨M,Off.refl _ _,h,fun _ hk=>.inl hk⟩⟩)
def sY (s:Vs):Int:=if au s=true then 0 else 110
theorem qx (b g:Nat) (M:List Nat) (n:Nat) (s:Vs) (w:World) (h:VR w b g M n s) :
  Calls prog 259 #[ac b 0] w fun e w'=>e=.returned (.int .i64 (sY s))∧Hid (Off [b,g] w w'∧VR w' b g M n (ja s)):=by
 obtain⟨v,t,c0,c1,c2,c3,c4,c5,fz,G,V,hb⟩:=h.cells
 have hq:=gH b g M n s w h
 unfold sY ja
 by_cases hr:au s=true
 ·rw[if_pos hr,if_pos hr]
  rw[hr]at hq
  have H:Hid (_):=h
  have HG:Hid (_):=G
  have HV:Hid (_):=V
  have HB:Hid (_):=hb
  have hlt:=h.lt
  have hne:=h.ne
  clear h G V hb
  go_enter func259,ntmps259
  go_wp2_with (go_at_call 63;refine hq.mono ?_;rintro e w' ⟨rfl,hw⟩;have hw:=hw.symm;subst hw)
  refine (vO g _ _ t w HG.out).mono ?_
  rintro e w2 ⟨rfl,o2,G2⟩
  have e2:w2.heap[b]?=_:=(o2.block b hlt (by simpa using Ne.symm hne)).trans HB.out
  have d4:w2.cell? ⟨b,4,none⟩=some (.bool s.fr):=ae w2 b 4 _ _ _ e2
  have y4:w2.frozen? ⟨b,4,none⟩=false:=frozen_of_row w2 b 4 _ _ e2
  have K:Hid (Off [g] w w2∧GR w2 g 0 0 0 0 0∧w2.heap[b]?=some (.cells (VC n s g v) 194 (0,0))):=⟨o2,G2,e2⟩
  clear o2 G2 e2 c0 c1 c2 c3 c4 c5 hq
  go_wp2_with fail
  go_ret
  obtain⟨o2,G2,e2⟩:=K.out
  have hh:=H.out
  have o3:=Off.setCell b 4 w2 (.bool false)
  refine⟨rfl,(o2.more (by simp)).trans (o3.more (by simp)),⟨⟨v,0,heap_setCell_same _ _ _ _ _ _ e2,?_,?_⟩,hh.bM,hh.gM,hh.ne,hh.n1,hh.n8⟩⟩
  ·exact G2.off o3 (by simpa using hne)
  ·exact VV.off (s:={ s with lat:=0,fr:=false }) (VV.off (s:={ s with lat:=0,fr:=false }) HV.out o2 (by simpa using hh.gM)) o3 (by simpa using hh.bM)
 ·rw[if_neg hr,if_neg hr]
  rw[show au s=false by simpa using hr]at hq
  have H:Hid (_):=h
  clear h G V hb
  go_enter func259,ntmps259
  go_wp2_with (go_at_call 63;refine hq.mono ?_;rintro e w' ⟨rfl,rfl⟩)
  go_ret
  exact⟨rfl,Off.refl _ _,H.out⟩
theorem sZ (n:Nat) (w:World) (h1:1≤n) (h8:n≤8) :
  Calls prog 98 #[.int .i64 (n:Nat)] w fun e w'=>∃ b g,e=.returned (.tuple #[ac b 0,.int .i64 0])∧Hid (w.heap.size≤b∧w.heap.size≤g∧b<w'.heap.size∧g<w'.heap.size∧Off [] w w'∧VR w' b g [] n om):=by
 go_enter func98,ntmps98
 go_wp2_with fail
 refine (vo w).mono ?_
 rintro e w2 ⟨rfl,o2,G2⟩
 have K:Hid (_):=And.intro o2 G2
 clear o2 G2
 go_wp2_with fail
 go_ret2
 obtain⟨o2,G2⟩:=K.out
 have hg:=G2.lt
 have oa:=Off.alloc [] w2 (.cells (VC n om w.heap.size (.slice none 0 0)) 194)
 refine⟨w2.heap.size,w.heap.size,rfl,o2.size,Nat.le_refl _,by rw[World.size_alloc];omega,by rw[World.size_alloc];omega,o2.trans (Off.alloc _ _ _),⟨⟨_,0,aB w2 _,G2.off (Off.alloc [] _ _) (by simp),.inl ⟨rfl,rfl⟩⟩,by simp,by simp,by omega,h1,h8⟩⟩
end Go.Proofs.YtenilkloffnjlaaGreat
