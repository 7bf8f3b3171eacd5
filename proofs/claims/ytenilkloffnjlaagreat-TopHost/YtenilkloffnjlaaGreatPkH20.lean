/- Part 21: contracts that the proof rests on. -/
import Derived.Deep.RegionLaw
import Derived.Deep.RegionHeld3
import Derived.Test.YtenilkloffnjlaaGreatPkH13
set_option maxHeartbeats 64000000
set_option maxRecDepth 100000
namespace Go.Proofs.YtenilkloffnjlaaGreat
open Tryz
open Go.RowKit
theorem gq (w:World) (wx:World) (hb:Below (w.alloc (.cells bH 50)).heap.size (w.alloc (.cells bH 50)) wx) :
  Box wx w.heap.size 0 0 0 0 0 (.slice none 0 0):=nd w 0 0 0 0 0 _ wx hb
theorem eC (w:World) (o:Array Value) (i:Nat) (wx:World) (hb:Below (w.alloc (.cells o 50)).heap.size (w.alloc (.cells o 50)) wx):wx.frozen? ⟨w.heap.size,i,none⟩=false:=by
 rw[hb.frozen (p:=⟨w.heap.size,i,none⟩) (by simp)]
 simp
theorem eQ {P:Program} {ops:Array Oper} {o:Oper} {a:Act} {w:World} {K:Act→World→Prop} {Q:Exit→Act→World→Prop} {E:Prop}
  (hg:o.guard=none) (t:Operand) (f:FuncId) (_:o.op=.call { callee:=.value (.func f),args:=#[t],argTypes:=#[37] }) (args:Array Value) (v:Value) (hc:Calls P f args w fun e w'=>e=.returned v∧∃ m,w'=w.drewN m) (hrun:(execOp a.eval o).run P w=.ok (.enter f args) w) (hK:∀ m,K (a.put o.dst v) (w.drewN m)) :
  if Region.wanted o (yielded ops a.tmps)=true then Oper.wp P o a w K Q else E:=by
 have hw:Region.wanted o (yielded ops a.tmps)=true:=by simp[Region.wanted,hg]
 rw[if_pos hw]
 unfold Oper.wp
 rw[hrun]
 refine hc.mono ?_
 rintro e w'' ⟨rfl,m,rfl⟩
 exact hK m
theorem n6 {ops:Array Oper} {o:Oper} {a:Act} {w:World} {K:Act→World→Prop} {Q:Exit→Act→World→Prop} {E:Prop}
  (hg:o.guard=none) (s x:Operand) (hop:o.op=Op.call { callee:=Callee.builtin Builtin.append,args:=#[s,x],argTypes:=#[37,37] })
  (B:Nat) (w0:World) (hb:Below B w0 w) (hB0:B≤w0.heap.size) (hs:a.eval s=.slice none 0 0) (ad:Addr) (m c:Nat) (bs:Nat→Nat) (hx:a.eval x=.slice (some ad) m c) (hrow:Row8 w (some ad) m c bs) (hm:m≤1000000) (hby:∀ i,i<m→bs i<256)
  (hK:∀ a' c' w',Hid (w'.ownsRow B 5 1 (.slice a' m c') m (CB bs m))→Below B w0 w'→K (a.put o.dst (.slice a' m c')) w') :
  if Region.wanted o (yielded ops a.tmps)=true then Oper.wp prog o a w K Q else E:=by
 obtain⟨i0,hi,hz0,hz1,hz2⟩:=info_parts cq
 have hw:Region.wanted o (yielded ops a.tmps)=true:=by simp[Region.wanted,hg]
 rw[if_pos hw]
 have hBw:B≤w.heap.size:=Nat.le_trans hB0 hb.size
 refine wp_append_own w s x _ hop B 5 i0 (.int .u8 0) 1 1 underlying37 hi hz0 hz1 hz2 rfl (by decide) _ 0 [] hs (World.ownsRow_nil _ _ _ _) ad m c (CB bs m) hx (by rw[az,Nat.mul_one]) ?_ (ke bs m) (by unfold maxLen;omega) (by omega) hBw ?_
 ·intro j u hj
  by_cases hlt:j<m
  ·rw[aZ bs m j hlt]at hj
   cases hj
   exact hrow.src ad rfl j hlt
  ·rw[cz bs m j (by omega)]at hj;cases hj
 ·intro v' w' h1 h2 _
  rw[List.nil_append,Nat.zero_add]at h1
  obtain⟨a',c',rfl,_⟩:=aY h1 hby
  exact hK a' c' w' h1 (hb.grown h2 hBw (fun j hj=>by cases hj))
theorem sa (b off len cap x0 x1 x2 x3:Nat) (w:World) (hlen:(3:Int) < (len:Int)) (h0:x0<256) (h1:x1<256) (h2:x2<256) (h3:x3<256)
  (c0:w.cell? ⟨b,off,none⟩=some (.int .u8 x0)) (c1:w.cell? ⟨b,off+1,none⟩=some (.int .u8 x1)) (c2:w.cell? ⟨b,off+2,none⟩=some (.int .u8 x2)) (c3:w.cell? ⟨b,off+3,none⟩=some (.int .u8 x3)) :
  Calls prog 195 #[.slice (af b off) len cap] w fun e w'=>e=.returned (.int .u32 ((x0*16777216+x1*65536+x2*256+x3:Nat):Int))∧∃ m,w'=w.drewN m:=by
 have hn:=lG x0 x1 x2 x3 h0 h1 h2 h3
 have l0:(0:Int) < (len:Int):=by omega
 have l1:(1:Int) < (len:Int):=by omega
 have l2:(2:Int) < (len:Int):=by omega
 generalize x0*16777216+x1*65536+x2*256+x3=y at *
 go_enter func195,ntmps195
 go_wp2_with fail
 go_quiet (fail)
 go_wp2
 go_ret
 exact⟨rfl,_,rfl⟩
theorem iF (b off len cap i L C:Nat) (bs:Nat→Nat) (w:World) (hr:Row8 w (af b off) len cap bs) (h:i+4≤len) (hL:4≤L) :
  Calls prog 195 #[.slice (af b (off+i)) L C] w fun e w'=>e=.returned (.int .u32 (aC bs i:Nat))∧∃ m,w'=w.drewN m:=by
 have s:=hr.src _ rfl
 have q:=hr.byte
 have t0:=s i (by omega);have t1:=s (i+1) (by omega);have t2:=s (i+2) (by omega);have t3:=s (i+3) (by omega)
 rw[Go.WideShapes.add_plain]at t0 t1 t2 t3
 exact sa b (off+i) L C _ _ _ _ w (by omega) (q i (by omega)) (q (i+1) (by omega)) (q (i+2) (by omega)) (q (i+3) (by omega)) t0 t1 t2 t3
theorem nY {w2:World} {B g m:Nat} {v:Value} {xs:List Value} (h:w2.ownsRow B 5 1 v m xs) (hlt:g<B) (v0 v1 v2 v3 v4 v5:Value) :
  ((((((w2.setCell ⟨g,0,none⟩ v0).setCell ⟨g,1,none⟩ v1).setCell ⟨g,2,none⟩ v2).setCell ⟨g,3,none⟩ v3).setCell ⟨g,4,none⟩ v4).setCell ⟨g,5,none⟩ v5).ownsRow B 5 1 v m xs:=
 ownsRow_setCell_below (ownsRow_setCell_below (ownsRow_setCell_below (ownsRow_setCell_below (ownsRow_setCell_below (ownsRow_setCell_below h (a:=⟨g,0,none⟩) hlt _) (a:=⟨g,1,none⟩) hlt _) (a:=⟨g,2,none⟩) hlt _) (a:=⟨g,3,none⟩) hlt _) (a:=⟨g,4,none⟩) hlt _) (a:=⟨g,5,none⟩) hlt _
theorem eP {w w2:World} {B g:Nat} (h:Below B w w2) (hle:B≤g) (v0 v1 v2 v3 v4 v5:Value) :
  Below B w ((((((w2.setCell ⟨g,0,none⟩ v0).setCell ⟨g,1,none⟩ v1).setCell ⟨g,2,none⟩ v2).setCell ⟨g,3,none⟩ v3).setCell ⟨g,4,none⟩ v4).setCell ⟨g,5,none⟩ v5):=
 (((((h.setCell (p:=⟨g,0,none⟩) hle _).setCell (p:=⟨g,1,none⟩) hle _).setCell (p:=⟨g,2,none⟩) hle _).setCell (p:=⟨g,3,none⟩) hle _).setCell (p:=⟨g,4,none⟩) hle _).setCell (p:=⟨g,5,none⟩) hle _
theorem i7 {w2:World} {g b o:Nat} {x:Value} (h:w2.cell? ⟨b,o,none⟩=some x) (hne:¬ b=g) (v0 v1 v2 v3 v4 v5:Value) :
  ((((((w2.setCell ⟨g,0,none⟩ v0).setCell ⟨g,1,none⟩ v1).setCell ⟨g,2,none⟩ v2).setCell ⟨g,3,none⟩ v3).setCell ⟨g,4,none⟩ v4).setCell ⟨g,5,none⟩ v5).cell? ⟨b,o,none⟩=some x:=by
 have hg:g≠b:=fun e=>hne e.symm
 rw[World.cell?_setCell_far _ _ _ _ hg,World.cell?_setCell_far _ _ _ _ hg,World.cell?_setCell_far _ _ _ _ hg,World.cell?_setCell_far _ _ _ _ hg,World.cell?_setCell_far _ _ _ _ hg,World.cell?_setCell_far _ _ _ _ hg]
 exact h
theorem qX (b off len cap:Nat) (bs:Nat→Nat) (w:World) (hr:Row8 w (af b off) len cap bs) (h1:19≤len) (h2:len≤27) :
  Calls prog 159 #[.slice (af b off) len cap] w fun e w'=>∃ a' c',e=.returned (.agg #[.int .i64 (bs 0:Nat),.int .u32 (aC bs 1:Nat),.int .u32 (aC bs 5:Nat),.int .u32 (aC bs 9:Nat),.int .i64 (bs 13:Nat),.slice a' (len-19) c']) ∧
   Hid (w'.ownsRow w.heap.size 5 1 (.slice a' (len-19) c') (len-19) (CB (fun i=>bs (15+i)) (len-19))∧Below w.heap.size w w'):=by
 have hcap:=hr.le
 have hne:¬ b=w.heap.size:=by
  obtain⟨b',off',e,hb',_⟩:=hr.plain (by omega)
  cases e
  omega
 have hY:=gq w
 have hYf:=fun i wx hb=>eC w bH i wx hb
 have hA:Below w.heap.size w (w.alloc (.cells bH 50)):=(Below.refl _ _).alloc (Nat.le_refl _) _
 have hAs:w.heap.size < (w.alloc (.cells bH 50)).heap.size:=by simp
 have hAr:=hr.below hA
 clear hr
 go_enter func159,ntmps159
 go_upto_region 1 with fail
 generalize w.alloc (.cells bH 50)=wa at *
 have hR:∀ wx,Below wa.heap.size wa wx→Row8 wx (af b off) len cap bs:=fun wx hb=>hAr.below hb
 have hW1:=fun wx hb=>iF b off len cap 1 (len-1) (cap-1) bs wx (hR wx hb) (by omega) (by omega)
 have hW5:=fun wx hb=>iF b off len cap 5 (len-5) (cap-5) bs wx (hR wx hb) (by omega) (by omega)
 have hW9:=fun wx hb=>iF b off len cap 9 (len-9) (cap-9) bs wx (hR wx hb) (by omega) (by omega)
 obtain⟨q,hq⟩:∃ q,q=len-4:=⟨_,rfl⟩
 have HQ:Hid (q-15=len-19):=show q-15=len-19 by omega
 have hqI:(len:Int)-4=(q:Int):=by omega
 have hqw:wrap64 ((len:Int)-4)=(q:Int):=by unfold wrap64;omega
 have hqv:IntKind.i64.wrap ((len:Int)-4)=(q:Int):=by rw[IntKind.wrap_i64];omega
 have hqu:wrap64 (q:Int)=(q:Int):=by unfold wrap64;omega
 have hqt:IntKind.i64.wrap (q:Int)=(q:Int):=by rw[IntKind.wrap_i64];omega
 have hD:∀ wx,Below wa.heap.size wa wx→Row8 wx (af b (off+15)) (q-15) (cap-15) (fun i=>bs (15+i)):=fun wx hb=>by
  have R:=((hR wx hb).from_ 15 (by omega)).upto (q-15) (by omega)
  exact R
 have hc:∀ wx,Below wa.heap.size wa wx→wx.cell? ⟨b,off,none⟩=some (.int .u8 (bs 0:Nat))∧wx.cell? ⟨b,off+13,none⟩=some (.int .u8 (bs 13:Nat)):=fun wx hb=>by
  have s:=(hR wx hb).src _ rfl
  have t0:=s 0 (by omega);have t1:=s 13 (by omega)
  rw[Go.WideShapes.add_plain]at t0 t1
  exact⟨t0,t1⟩
 have hby:∀ i,i<q-15→bs (15+i)<256:=fun i hi=>hAr.byte _ (by omega)
 obtain⟨k0,k13⟩:=hc wa (Below.refl _ _)
 have hw0:IntKind.i64.wrap (bs 0:Int)=(bs 0:Int):=by have:=hAr.byte 0 (by omega);rw[IntKind.wrap_i64];omega
 have hw13:IntKind.i64.wrap (bs 13:Int)=(bs 13:Int):=by have:=hAr.byte 13 (by omega);rw[IntKind.wrap_i64];omega
 have n1:¬ cap=1:=by omega
 have n5:¬ cap=5:=by omega
 have n9:¬ cap=9:=by omega
 have n15:¬ cap=15:=by omega
 have i0:(0:Int) < (len:Int):=by omega
 have j0:0<len:=by omega
 have i1:(1:Int) ≤ (len:Int):=by omega
 have i5:(5:Int) ≤ (len:Int):=by omega
 have i9:(9:Int) ≤ (len:Int):=by omega
 have i13:(13:Int) < (len:Int):=by omega
 have iq:(15:Int) ≤ (q:Int):=by omega
 have iq2:(q:Int) ≤ (cap:Int):=by omega
 have iq0:(0:Int) ≤ (q:Int):=by omega
 have hmq:q-15≤1000000:=by omega
 have HA:Hid (Below w.heap.size w wa∧w.heap.size<wa.heap.size):=⟨hA,hAs⟩
 clear hq hAr h1 h2 hcap hA hAs hR
 go_region_held3 (fun w'=>w'.cell? ⟨b,off,none⟩=some (.int .u8 (bs 0:Int))∧w'.cell? ⟨b,off+13,none⟩=some (.int .u8 (bs 13:Int))) (first | (with_reducible refine⟨i7 ?_ hne _ _ _ _ _ _,i7 ?_ hne _ _ _ _ _ _⟩;exact (hc w2 hB2).1;exact (hc w2 hB2).2) | with_reducible exact hc w2 hB2 | exact hc _ (by repeat (first | with_reducible assumption | with_reducible refine below_drewN ?_ _ | with_reducible refine Below.drew ?_ | with_reducible exact Below.refl _ _))) (first
  | (refine eQ rfl (.tmp 8) 195 rfl #[.slice (af b (off+1)) (len-1) (cap-1)] _ (hW1 _ (by repeat (first | with_reducible assumption | with_reducible refine below_drewN ?_ _ | with_reducible refine Below.drew ?_ | with_reducible exact Below.refl _ _))) (by kernel_rfl) ?_;intro m)
  | (refine eQ rfl (.tmp 11) 195 rfl #[.slice (af b (off+5)) (len-5) (cap-5)] _ (hW5 _ (by repeat (first | with_reducible assumption | with_reducible refine below_drewN ?_ _ | with_reducible refine Below.drew ?_ | with_reducible exact Below.refl _ _))) (by kernel_rfl) ?_;intro m)
  | (refine eQ rfl (.tmp 14) 195 rfl #[.slice (af b (off+9)) (len-9) (cap-9)] _ (hW9 _ (by repeat (first | with_reducible assumption | with_reducible refine below_drewN ?_ _ | with_reducible refine Below.drew ?_ | with_reducible exact Below.refl _ _))) (by kernel_rfl) ?_;intro m)
  | (refine n6 rfl (.const (.slice none 0 0)) (.tmp 24) rfl wa.heap.size wa (by repeat (first | with_reducible assumption | with_reducible refine below_drewN ?_ _ | with_reducible refine Below.drew ?_ | with_reducible exact Below.refl _ _)) (Nat.le_refl _) rfl ⟨b,off+15,none⟩ (q-15) (cap-15) (fun i=>bs (15+i)) rfl (hD _ (by repeat (first | with_reducible assumption | with_reducible refine below_drewN ?_ _ | with_reducible refine Below.drew ?_ | with_reducible exact Below.refl _ _))) hmq hby ?_;intro a2 c2 w2 HO hB2;obtain⟨y0,y1',y2,y3,y4,y5'⟩:=hY w2 hB2;have yf:=fun i=>hYf i w2 hB2;have HB:Hid (_):=hB2))
 all_goals
  go_wp2_with fail
  refine bodyPost_ret (v:=.agg #[.int .i64 (bs 0:Nat),.int .u32 (aC bs 1:Nat),.int .u32 (aC bs 5:Nat),.int .u32 (aC bs 9:Nat),.int .i64 (bs 13:Nat),.slice a2 (q-15) c2]) (by simp[results,results159,go_sem,y0,y1',y2,y3,y4,y5']) rfl ⟨a2,c2,by rw[HQ.out],?_,?_⟩
  ·rw[← HQ.out]
   exact aS (nY HO.out HA.out.2 _ _ _ _ _ _) (Nat.le_of_lt HA.out.2)
  ·exact eP (HA.out.1.trans (HB.out.mono (Nat.le_of_lt HA.out.2))) (Nat.le_refl _) _ _ _ _ _ _
theorem nz (a:Option Addr) (len cap:Nat) (w:World) (h:len<19) :
  Calls prog 134 #[.slice a len cap] w fun e w'=>e=.returned (.tuple #[.agg bH,.int .i64 40])∧Below w.heap.size w w':=by
 have hA:Below w.heap.size w (w.alloc (.cells bH 50)):=(Below.refl _ _).alloc (Nat.le_refl _) _
 have q:decide ((len:Int)<19)=true:=by simp;omega
 go_enter func134,ntmps134
 go_wp2_with fail
 refine bodyPost_ret (v:=.tuple #[.agg bH,.int .i64 40]) (by simp[results,results134,go_sem]) rfl ⟨rfl,hA⟩
theorem qV (a:Option Addr) (len cap:Nat) (w:World) (h:27<len) :
  Calls prog 134 #[.slice a len cap] w fun e w'=>e=.returned (.tuple #[.agg bH,.int .i64 41])∧Below w.heap.size w w':=by
 have hA:Below w.heap.size w (w.alloc (.cells bH 50)):=(Below.refl _ _).alloc (Nat.le_refl _) _
 have q:decide ((len:Int)<19)=false:=by simp;omega
 have q2:decide ((27:Int) < (len:Int))=true:=by simp;omega
 go_enter func134,ntmps134
 go_wp2_with fail
 refine bodyPost_ret (v:=.tuple #[.agg bH,.int .i64 41]) (by simp[results,results134,go_sem]) rfl ⟨rfl,hA⟩
theorem nt (a:Option Addr) (len cap:Nat) (bs:Nat→Nat) (w:World) (hr:Row8 w a len cap bs) (h1:19≤len) (h2:len≤27) (hv:¬ xJ bs len) :
  Calls prog 134 #[.slice a len cap] w fun e w'=>e=.returned (.tuple #[.agg bH,.int .i64 42])∧Below w.heap.size w w':=by
 have hA:Below w.heap.size w (w.alloc (.cells bH 50)):=(Below.refl _ _).alloc (Nat.le_refl _) _
 have hV:=mO a len cap bs (w.alloc (.cells bH 50)) (hr.below hA) (by omega)
 have hd:decide (4≤len∧PM.R PM.g 32 (PM.V (PM.fb bs) (8*len))=0)=false:=decide_eq_false (fun e=>hv e.2)
 rw[hd]at hV
 clear hd
 have q:decide ((len:Int)<19)=false:=by simp;omega
 have q2:decide ((27:Int) < (len:Int))=false:=by simp;omega
 have Y:=gq w _ (Below.refl _ _)
 have yf:=fun i=>eC w bH i _ (Below.refl _ _)
 obtain⟨y0,y1,y2,y3,y4,y5⟩:=Y
 clear hv hr
 go_enter func134,ntmps134
 go_wp2_with fail
 generalize w.alloc (.cells bH 50)=wa at *
 refine hV.mono ?_
 rintro e w1 ⟨rfl,m,rfl⟩
 clear hV
 go_wp2_with fail
 refine bodyPost_ret (v:=.tuple #[.agg bH,.int .i64 42]) (by simp[results,results134,go_sem,y0,y1,y2,y3,y4,y5]) rfl ⟨rfl,eP (below_drewN hA _) (Nat.le_refl _) _ _ _ _ _ _⟩
theorem kF (b off len cap:Nat) (bs:Nat→Nat) (w:World) (hr:Row8 w (af b off) len cap bs) (h1:19≤len) (h2:len≤27) (hv:xJ bs len) (E:Int) (hE:LW (bs 0) (aC bs 1) (aC bs 5) (aC bs 9) (bs 13) ((len-19:Nat):Int) (bs 14)=E) :
  Calls prog 134 #[.slice (af b off) len cap] w fun e w'=>
   (E≠0→e=.returned (.tuple #[.agg bH,.int .i64 E])∧Below w.heap.size w w') ∧
   (E=0→∃ a' c',e=.returned (.tuple #[.agg #[.int .i64 (bs 0:Nat),.int .u32 (aC bs 1:Nat),.int .u32 (aC bs 5:Nat),.int .u32 (aC bs 9:Nat),.int .i64 (bs 13:Nat),.slice a' (len-19) c'],.int .i64 0]) ∧
     Hid (w'.ownsRow w.heap.size 5 1 (.slice a' (len-19) c') (len-19) (CB (fun i=>bs (15+i)) (len-19))∧Below w.heap.size w w')):=by
 have hA:Below w.heap.size w (w.alloc (.cells bH 50)):=(Below.refl _ _).alloc (Nat.le_refl _) _
 have hAs:w.heap.size < (w.alloc (.cells bH 50)).heap.size:=by simp
 have hY:=gq w
 have hYf:=fun i wx hb=>eC w bH i wx hb
 have hrA:=hr.below hA
 have hV:=mO _ len cap bs (w.alloc (.cells bH 50)) hrA (by omega)
 have hd:decide (4≤len∧PM.R PM.g 32 (PM.V (PM.fb bs) (8*len))=0)=true:=decide_eq_true ⟨by omega,hv⟩
 rw[hd]at hV
 clear hd
 have q:decide ((len:Int)<19)=false:=by simp;omega
 have q2:decide ((27:Int) < (len:Int))=false:=by simp;omega
 have h14:(bs 14)<256:=hr.byte 14 (by omega)
 have hw14:IntKind.i64.wrap (bs 14:Int)=(bs 14:Int):=by rw[IntKind.wrap_i64];omega
 have i14:(14:Int) < (len:Int):=by omega
 clear hv hr
 go_enter func134,ntmps134
 go_wp2_with fail
 generalize w.alloc (.cells bH 50)=wa at *
 refine hV.mono ?_
 rintro e w1 ⟨rfl,m,rfl⟩
 have hM:Below wa.heap.size wa (wa.drewN m):=below_drewN (Below.refl _ _) m
 have hF:=qX b off len cap bs (wa.drewN m) (hrA.below hM) h1 h2
 rw[show (wa.drewN m).heap.size=wa.heap.size by simp]at hF
 clear hV
 go_wp2_with fail
 refine hF.mono ?_
 rintro e w2 ⟨a2,c2,rfl,H2⟩
 have hb2:Below wa.heap.size wa w2:=hM.trans H2.out.2
 have hs2:=hb2.size
 clear hF hM
 obtain⟨n,hn⟩:∃ n,n=len-19:=⟨_,rfl⟩
 rw[← hn]at hE H2 ⊢
 have HN:Hid (n=len-19):=hn
 have hX:=nd w2 (bs 0:Nat) (aC bs 1) (aC bs 5) (aC bs 9) (bs 13:Nat) (.slice a2 n c2)
 have hC:Below wa.heap.size wa (w2.alloc (.cells #[.int .i64 (bs 0:Nat),.int .u32 (aC bs 1:Nat),.int .u32 (aC bs 5:Nat),.int .u32 (aC bs 9:Nat),.int .i64 (bs 13:Nat),.slice a2 n c2] 50)):=hb2.alloc hs2 _
 have hO:=H2.out.1.alloc (.cells #[.int .i64 (bs 0:Nat),.int .u32 (aC bs 1:Nat),.int .u32 (aC bs 5:Nat),.int .u32 (aC bs 9:Nat),.int .i64 (bs 13:Nat),.slice a2 n c2] 50)
 have hCs:w2.heap.size < (w2.alloc (.cells #[.int .i64 (bs 0:Nat),.int .u32 (aC bs 1:Nat),.int .u32 (aC bs 5:Nat),.int .u32 (aC bs 9:Nat),.int .i64 (bs 13:Nat),.slice a2 n c2] 50)).heap.size:=by simp
 clear hn H2
 go_upto_region 8 with fail
 generalize w2.alloc (.cells #[.int .i64 (bs 0:Nat),.int .u32 (aC bs 1:Nat),.int .u32 (aC bs 5:Nat),.int .u32 (aC bs 9:Nat),.int .i64 (bs 13:Nat),.slice a2 n c2] 50)=w3 at *
 have X3:=hX w3 (Below.refl _ _)
 obtain⟨x0,x1,x2,x3,x4,x5⟩:=X3
 have k14:=(hrA.below hC).src _ rfl 14 (by omega)
 rw[Go.WideShapes.add_plain]at k14
 have hFt:=mg (bs 0:Nat) (aC bs 1) (aC bs 5) (aC bs 9) (bs 13:Nat) a2 n c2 (bs 14:Nat) w3.drew
 rw[hE]at hFt
 go_cut [5] (fun v wx=>v=.int .i64 E∧Hid (Below w3.heap.size w3 wx))
 case first=>
  go_region_with (go_at_call 156;refine hFt.mono ?_;rintro e w4 ⟨rfl,hb4⟩)
  all_goals (go_wp2_with fail;go_meet;exact⟨rfl,(Below.refl _ _).drew.trans hb4⟩)
 case rest=>
  obtain⟨rfl,H4⟩:=hcut
  obtain⟨w4,rfl⟩:∃ x,x=wc:=⟨_,rfl⟩
  have hs3:=hC.size
  have hb4:Below wa.heap.size wa w4:=bD hC hs3 H4.out
  have Y4:=hY w4 hb4
  have yf:=fun i=>hYf i w4 hb4
  obtain⟨y0,y1,y2,y3,y4,y5⟩:=Y4
  have X4:=hX w4 H4.out
  obtain⟨z0,z1,z2,z3,z4,z5⟩:=X4
  have hO4:=cU hO H4.out
  have HH:Hid (_):=And.intro hA (And.intro hAs (And.intro hb4 hO4))
  clear hFt hE hX hY hYf x0 x1 x2 x3 x4 x5 k14 hC hO hCs hb2 hs2 hrA H4 hb4 hO4 hA hAs hs3
  by_cases hE0:E=0
  ·subst hE0
   go_wp2_with fail
   refine bodyPost_ret (v:=.tuple #[.agg #[.int .i64 (bs 0:Nat),.int .u32 (aC bs 1:Nat),.int .u32 (aC bs 5:Nat),.int .u32 (aC bs 9:Nat),.int .i64 (bs 13:Nat),.slice a2 n c2],.int .i64 0]) (by simp[results,results134,go_sem,y0,y1,y2,y3,y4,y5]) rfl ⟨a2,c2,by rw[← HN.out],?_,?_⟩
   ·rw[← HN.out]
    exact aS (nY HH.out.2.2.2 HH.out.2.1 _ _ _ _ _ _) (Nat.le_of_lt HH.out.2.1)
   ·exact eP (HH.out.1.trans (HH.out.2.2.1.mono (Nat.le_of_lt HH.out.2.1))) (Nat.le_refl _) _ _ _ _ _ _
  ·have qE:(E == 0)=false:=by simpa using hE0
   go_wp2_with fail
   refine bodyPost_ret (v:=.tuple #[.agg bH,.int .i64 E]) (by simp[results,results134,go_sem,y0,y1,y2,y3,y4,y5]) rfl ⟨fun _=>⟨rfl,?_⟩,fun h=>absurd h hE0⟩
   exact eP (HH.out.1.trans (HH.out.2.2.1.mono (Nat.le_of_lt HH.out.2.1))) (Nat.le_refl _) _ _ _ _ _ _
theorem gP (a:Option Addr) (len cap:Nat) (bs:Nat→Nat) (w:World) (hr:Row8 w a len cap bs) (h:DE bs len=0) :
  Calls prog 134 #[.slice a len cap] w fun e w'=>∃ a' c',e=.returned (.tuple #[.agg #[.int .i64 (bs 0:Nat),.int .u32 (aC bs 1:Nat),.int .u32 (aC bs 5:Nat),.int .u32 (aC bs 9:Nat),.int .i64 (bs 13:Nat),.slice a' (len-19) c'],.int .i64 0]) ∧
    Hid (w'.ownsRow w.heap.size 5 1 (.slice a' (len-19) c') (len-19) (CB (fun i=>bs (15+i)) (len-19))∧Below w.heap.size w w'):=by
 obtain⟨h1,h2,h3,h4⟩:=gN h
 obtain⟨b,off,rfl,_,_⟩:=hr.plain (by omega)
 exact (kF b off len cap bs w hr h1 h2 h3 0 h4).mono fun e w' h=>h.2 rfl
theorem gO (a:Option Addr) (len cap:Nat) (bs:Nat→Nat) (w:World) (hr:Row8 w a len cap bs) (h:DE bs len≠0) :
  Calls prog 134 #[.slice a len cap] w fun e w'=>e=.returned (.tuple #[.agg bH,.int .i64 (DE bs len)])∧Below w.heap.size w w':=by
 by_cases h1:len<19
 ·rw[show DE bs len=40 from if_pos h1]
  exact nz a len cap w h1
 ·by_cases h2:27<len
  ·rw[show DE bs len=41 by unfold DE;rw[if_neg h1,if_pos h2]]
   exact qV a len cap w h2
  ·by_cases h3:xJ bs len
   ·have hD:DE bs len=LW (bs 0) (aC bs 1) (aC bs 5) (aC bs 9) (bs 13) ((len-19:Nat):Int) (bs 14):=by unfold DE;rw[if_neg h1,if_neg h2,if_neg (fun e=>e h3)]
    obtain⟨b,off,rfl,_,_⟩:=hr.plain (by omega)
    exact (kF b off len cap bs w hr (by omega) (by omega) h3 _ hD.symm).mono fun e w' q=>q.1 h
   ·rw[oI (by omega) (by omega) h3]
    exact nt a len cap bs w hr (by omega) (by omega) h3
theorem iC {w:World} {B e n cap:Nat} {a:Option Addr} {bs:Nat→Nat} (h:w.ownsRow B e 1 (.slice a n cap) n (CB bs n)) (hb:∀ i,i<n→bs i<256):Row8 w a n cap bs:=by
 obtain⟨a1,c1,e1,R1⟩:=aY h hb
 simp only[Value.slice.injEq,true_and]at e1
 obtain⟨rfl,rfl⟩:=e1
 exact R1
end Go.Proofs.YtenilkloffnjlaaGreat
