/- Part 4 of the texts on which the proof rests: contracts of Go functions. -/
import Derived.Test.YtiopiheomoehbaaGreatPkF02
namespace Go.Proofs.YtiopiheomoehbaaGreat
set_option maxRecDepth 100000
open Go.RowKit Go.Maps
theorem info_bsB:(Tryz.prog.info? 25).map (fun i=>(i.zero,i.size,i.bytes))=some (some (.slice none 0 0),1,24):=by kernel_rfl
theorem belowAB {B:Nat} {w0 w:World} (h:Below B w0 w) (hs:B≤w0.heap.size) (o:Obj):Below B w0 (w.alloc o):=h.alloc (Nat.le_trans hs h.size) o
theorem below_drewNB {B:Nat} {w0 w:World} (h:Below B w0 w) (n:Nat):Below B w0 (w.drewN n):=⟨h.os,h.tape,h.output,h.size,h.block⟩
theorem step_appF {ops:Array Oper} {o:Oper} {a:Act} {w:World} {K:Act→World→Prop} {Q:Exit→Act→World→Prop} {E:Prop}
  (hg:o.guard=none) (s x:Operand) (hop:o.op=Op.call { callee:=Callee.builtin Builtin.append,args:=#[s,x],argTypes:=#[89,89] }) (hty:o.type=89)
  (B n g:Nat) (vs:List Value) (y v:Value) (hs:a.eval s=v) (hown:w.ownsRow B 25 1 v n vs) (hx:a.eval x=.slice (some ⟨g,0,none⟩) 1 1)
  (hgc:w.cell? ⟨g,0,none⟩=some y) (hy:y.oneCell'=true) (hn:n<1000000) (hB:B≤w.heap.size)
  (hK:∀ g' cap' w',Hid (w'.ownsRow B 25 1 (.slice (some ⟨g',0,none⟩) (n+1) cap') (n+1) (vs ++ [y])∧w.grownBy w' v.ownBlock∧(v.ownBlock=some g'∨g'=w.heap.size))→K (a.put o.dst (.slice (some ⟨g',0,none⟩) (n+1) cap')) w') :
  if Region.wanted o (yielded ops a.tmps)=true then Oper.wp Tryz.prog o a w K Q else E:=by
 have hw:Region.wanted o (yielded ops a.tmps)=true:=by simp[Region.wanted,hg]
 rw[if_pos hw]
 obtain⟨i,hi,h0,h1,h2⟩:=info_parts info_bsB
 obtain⟨v',w',hrun,h3,h4,_,h5⟩:=run_append_own_at w B 89 89 25 i _ 1 24 Tryz.underlying89 hi h0 h1 h2 rfl (by decide) v n vs hown ⟨g,0,none⟩ 1 1 [y] rfl (by
  intro j u hj
  cases j with
  | zero=>simp at hj;subst hj;simpa [Addr.add] using hgc
  | succ j=>simp at hj) (by intro u hu;simp at hu;subst hu;exact hy) (by unfold maxLen;omega) (by omega) hB
 obtain⟨g',cap',rfl,_,_⟩:=own_some1 h3
 unfold Oper.wp execOp
 simp only[hop,hty,resolve,invoke,builtin,Sem.run_bind,Sem.run_pure,Result.andThen_ok,List.map_toArray,List.map_cons,List.map_nil,hs,hx,hrun]
 refine hK g' cap' w' ⟨h3,h4,?_⟩
 rcases h5 with h5 | h5
 ·left;rw[← h5];rfl
 ·right;simpa [Value.ownBlock] using h5
theorem step_callB {P:Program} {ops:Array Oper} {o:Oper} {a:Act} {w:World} {K:Act→World→Prop} {Q:Exit→Act→World→Prop} {E:Prop} {R:Value→World→Prop}
  (f:FuncId) (ts:Array Operand) (ty:Array TypeId) (_:o.op=.call { callee:=.value (.func f),args:=ts,argTypes:=ty }) (hw:Region.wanted o (yielded ops a.tmps)=true) (args:Array Value) (hrun:(execOp a.eval o).run P w=.ok (.enter f args) w) (hc:Calls P f args w fun e w'=>∃ v,e=.returned v∧R v w') (hK:∀ v w',R v w'→K (a.put o.dst v) w') :
  if Region.wanted o (yielded ops a.tmps)=true then Oper.wp P o a w K Q else E:=by
 rw[if_pos hw]
 unfold Oper.wp
 rw[hrun]
 refine hc.mono ?_
 rintro e w'' ⟨v,rfl,hr⟩
 exact hK _ _ hr
theorem Row8.offB {l:List Nat} {w w':World} {a:Option Addr} {len cap:Nat} {bs:Nat→Nat} (h:Row8 w a len cap bs) (q:Off l w w') (hl:∀ x,a=some x→x.block ∉ l):Row8 w' a len cap bs:=by
 refine⟨h.byte,h.nil,fun x hx i hi=>?_,h.le⟩
 have h1:=h.src x hx i hi
 have hlt:=World.block_lt_of_cell? w _ h1
 have hb:(x.add i).block=x.block:=by unfold Addr.add;split <;> rfl
 have he:w'.heap[(x.add i).block]?=w.heap[(x.add i).block]?:=q.block _ hlt (by rw[hb];exact hl x hx)
 rw[← h1]
 unfold World.cell?
 rw[he]
theorem Bg.put {B:Nat} {w w2 wx wa wy:World} {b m g cap:Nat} {v:Value} {vs:List Value} {p p':Option Addr} {L:List Bfm} {x:Value} {n:Nat} {bs:Nat→Nat} (h:Bg B w b m v vs p L)
  (o2:Off [m] w w2) (h2m:Met w2 m (tots (L ++ [(n,bs)]):Nat) p' 0 0 none) (h2p:Pk 0 w2 p' (pkf (L ++ [(n,bs)])))
  (hx:Below w2.heap.size w2 wx) (ho:wx.ownsRow w2.heap.size 5 1 x n (CB bs n)) (h27:n≤27) (hb:∀ i,i<n→bs i<256) (hn:L.length<4096) (hBw:B≤w2.heap.size)
  (ha:Below wx.heap.size wx wa) (hr:wy.ownsRow B 25 1 (.slice (some ⟨g,0,none⟩) (L.length+1) cap) (L.length+1) (vs ++ [x])) (hg:wa.grownBy wy v.ownBlock) (hgb:v.ownBlock=some g∨g=wa.heap.size) :
  Off (b :: m :: v.ownBlock.toList) w (wy.setCell ⟨b,0,none⟩ (.slice (some ⟨g,0,none⟩) (L.length+1) cap)) ∧
  Bg B (wy.setCell ⟨b,0,none⟩ (.slice (some ⟨g,0,none⟩) (L.length+1) cap)) b m (.slice (some ⟨g,0,none⟩) (L.length+1) cap) (vs ++ [x]) p' (L ++ [(n,bs)])∧(v.ownBlock=some g∨w.heap.size≤g):=by
 have f2:Fl B w2 v vs L:=h.fl.keep o2 fun y hy hs=>by
  simp only[List.mem_singleton]at hy
  subst hy
  refine⟨fun e=>?_,fun c f hc=>?_⟩
  ·obtain⟨c,hc⟩:=own_type h.fl.rows e
   exact tdiff h.met.at_ hc (by decide) rfl
  ·exact tdiff h.met.at_ hc (by decide) rfl
 have hbm:b≠m:=tdiff h.at_ h.met.at_ (by decide)
 have b2:w2.heap[b]?=_:=(o2.block b h.lt (by simpa using hbm)).trans h.at_
 have h2a:Below w2.heap.size w2 wa:=hx.trans (ha.mono hx.size)
 have f3:=f2.more h2a (own_below (own_base ho hBw) ha) h27 hb hn hr hg
 have rest:∀ (k:Nat) (c:Array Value) (e:TypeId) (f:Nat × Nat),w2.heap[k]?=some (.cells c e f)→e≠25→wy.heap[k]?=some (.cells c e f):=by
  intro k c e f hk he
  have hlt:=(Array.getElem?_eq_some_iff.1 hk).1
  have hka:wa.heap[k]?=_:=(h2a.block k hlt).trans hk
  refine (hg.block k (Nat.lt_of_lt_of_le hlt h2a.size) fun ek=>?_).trans hka
  obtain⟨c',hc'⟩:=own_type (f2.below h2a).rows ek.symm
  exact tdiff hka hc' he rfl
 have by_:=rest b _ _ _ b2 (by decide)
 have o3:=Off.setCell b 0 wy (.slice (some ⟨g,0,none⟩) (L.length+1) cap)
 have my:Met wy m (tots (L ++ [(n,bs)]):Nat) p' 0 0 none:=⟨rest m _ _ _ h2m.at_ (by decide)⟩
 have py:Pk 0 wy p' (pkf (L ++ [(n,bs)])):=by
  generalize pkf (L ++ [(n,bs)])=q at h2p
  cases h2p with
  | none=>exact .none
  | some c v' h' hc=>exact .some c v' h' (rest c _ _ _ hc (by decide))
 have B0:Bg B (wy.setCell ⟨b,0,none⟩ (.slice (some ⟨g,0,none⟩) (L.length+1) cap)) b m (.slice (some ⟨g,0,none⟩) (L.length+1) cap) (vs ++ [x]) p' (L ++ [(n,bs)]):=by
  refine⟨heap_setCell_same _ _ _ _ _ _ by_,f3.keep o3 fun y hy hs=>?_,my.off o3 (by simpa using hbm.symm),?_,h.bB,h.mB⟩
  ·simp only[List.mem_singleton]at hy
   subst hy
   refine⟨fun e=>?_,fun c f hc=>?_⟩
   ·obtain⟨c,hc⟩:=own_type f3.rows e
    exact tdiff by_ hc (by decide) rfl
   ·exact tdiff by_ hc (by decide) rfl
  ·generalize pkf (L ++ [(n,bs)])=q at py
   cases py with
   | none=>exact .none
   | some c v' h' hc=>exact .some c v' h' ((o3.block c (Array.getElem?_eq_some_iff.1 hc).1 (by simpa using tdiff hc by_ (by decide))).trans hc)
 have o4:Off (b :: m :: v.ownBlock.toList) w wy:=by
  have q1:Off (b :: m :: v.ownBlock.toList) w2 wa:=Off.of_below h2a
  have q2:Off (b :: m :: v.ownBlock.toList) wa wy:=⟨hg.os,hg.tape,hg.output,hg.size,fun k hk hm=>hg.block k hk fun e=>hm (by rw[← e];simp)⟩
  exact ((o2.more (by simp)).trans q1).trans q2
 refine⟨o4.trans (o3.more (by simp)),B0,?_⟩
 rcases hgb with e | e
 ·exact .inl e
 ·right
  have:=o2.size
  have:=h2a.size
  omega
def Grb (B:Nat) (w':World) (n at_ x:Nat) (f:Nat→Nat) (v:Value):Prop:=
 ∃ g,w'.ownsRow B 5 1 v n (CB (xr f g) n)∧(∀ i,i<n→g i<256)∧∀ k,k<8*n→PM.fb g k=PM.ly at_ (PM.bl x) x (PM.bl x) k
set_option maxHeartbeats 1000000 in
theorem bgarb_good (B:Nat) (b m:Nat) (v:Value) (vs:List Value) (p:Option Addr) (L:List Bfm) (i:Nat) (f:Bfm) (at_ x:Nat) (w:World) (h:Bg B w b m v vs p L) (hi:L[i]?=some f) (hx:x<4294967296) (hx0:x≠0) (hfit:at_+PM.bl x≤8*f.1) :
  Calls Tryz.prog 80 #[.pointer (some ⟨b,0,none⟩),.int .i64 (i:Nat),.int .i64 (at_:Nat),.int .u32 (x:Nat)] w fun e w'=>∃ g c,e=.returned (.tuple #[.slice (some ⟨g,0,none⟩) f.1 c,.int .i64 0])∧Hid (Below w.heap.size w w'∧Grb w.heap.size w' f.1 at_ x f.2 (.slice (some ⟨g,0,none⟩) f.1 c)∧w.heap.size≤g):=by
 have h27:=(h.fl.small f (List.mem_of_getElem? hi)).1
 have hby:=(h.fl.small f (List.mem_of_getElem? hi)).2
 have hG:=bget_any B b m v vs p L i f w h hi
 clear h hi
 go_enter Tryz.func80,Tryz.ntmps80
 go_wp2_with fail
 refine hG.mono ?_
 rintro e w1 ⟨a1,cap1,rfl,H1⟩
 have hM:=make_good f.1 at_ x w1 hx hx0 (by omega) hfit
 clear hG
 go_wp2_with fail
 refine hM.mono ?_
 rintro e w2 ⟨v2,rfl,H2⟩
 obtain⟨b2,g,og,gb,gl⟩:=H2.out
 obtain⟨a2,cap2,rfl,R2⟩:=own_row8 og gb
 have R1:Row8 w2 a1 f.1 cap1 f.2:=by
  obtain⟨a1',cap1',e1,R1⟩:=own_row8 (own_below H1.out.2 b2) hby
  simp only[Value.slice.injEq,true_and]at e1
  obtain⟨rfl,rfl⟩:=e1
  exact R1
 have hT:=turn_good a1 a2 f.1 cap1 cap2 f.2 g w2 R1 R2 (by omega)
 have HH:Hid (_):=And.intro gb (And.intro gl (And.intro H1.out.1 b2))
 clear hM H2 H1 og gb gl R1 R2 b2
 go_wp2_with fail
 refine hT.mono ?_
 rintro e w3 ⟨c3,rfl,H3⟩
 clear hT
 go_wp2_with fail
 go_ret2
 have s1:=HH.out.2.2.1.size
 have s2:=HH.out.2.2.2.size
 exact⟨_,_,rfl,HH.out.2.2.1.trans ((HH.out.2.2.2.trans (H3.out.1.mono s2)).mono s1),⟨g,own_base H3.out.2 (Nat.le_trans s1 s2),HH.out.1,HH.out.2.1⟩,Nat.le_trans s1 s2⟩
theorem bgarb_bad (B:Nat) (b m:Nat) (v:Value) (vs:List Value) (p:Option Addr) (L:List Bfm) (i:Nat) (f:Bfm) (at_:Int) (x:Nat) (w:World) (h:Bg B w b m v vs p L) (hi:L[i]?=some f) (hx:x<4294967296) (ha : -9223372036854775808≤at_∧at_<9223372036854775808) (he:mkErr f.1 at_ x≠0) :
  Calls Tryz.prog 80 #[.pointer (some ⟨b,0,none⟩),.int .i64 (i:Nat),.int .i64 at_,.int .u32 (x:Nat)] w fun e w'=>e=.returned (.tuple #[.slice none 0 0,.int .i64 (mkErr f.1 at_ x)])∧Hid (Below w.heap.size w w'):=by
 have h27:=(h.fl.small f (List.mem_of_getElem? hi)).1
 have hG:=bget_any B b m v vs p L i f w h hi
 have hM:=fun w1=>make_bad f.1 at_ x w1 hx (by omega) ha he
 generalize mkErr f.1 at_ x=y at *
 clear h hi
 go_enter Tryz.func80,Tryz.ntmps80
 go_wp2_with fail
 refine hG.mono ?_
 rintro e w1 ⟨a1,cap1,rfl,H1⟩
 clear hG
 go_wp2_with fail
 refine (hM _).mono ?_
 rintro e w2 ⟨rfl,rfl⟩
 clear hM
 go_wp2_with fail
 go_ret2
 exact⟨rfl,H1.out.1⟩
theorem bgarb_out (B:Nat) (b m:Nat) (v:Value) (vs:List Value) (p:Option Addr) (L:List Bfm) (i at_ x:Int) (w:World) (h:Bg B w b m v vs p L) (hi:i<0∨(L.length:Int)≤i) :
  Calls Tryz.prog 80 #[.pointer (some ⟨b,0,none⟩),.int .i64 i,.int .i64 at_,.int .u32 x] w fun e w'=>e=.returned (.tuple #[.slice none 0 0,.int .i64 151])∧w'=w:=by
 have hG:=bget_out B b m v vs p L i w h hi
 clear h hi
 go_enter Tryz.func80,Tryz.ntmps80
 go_wp2_with fail
 refine hG.mono ?_
 rintro e w1 ⟨rfl,rfl⟩
 clear hG
 go_wp2_with fail
 go_ret2
 exact⟨rfl,rfl⟩
end Go.Proofs.YtiopiheomoehbaaGreat
