/- Part 50: contracts that the proof rests on. -/
import Derived.Test.YtenilkloffnjlaaGreatPkH33
import Derived.Test.YtenilkloffnjlaaGreatPkH48
set_option maxHeartbeats 64000000
set_option maxRecDepth 100000
namespace Go.Proofs.YtenilkloffnjlaaGreat
open Tryz
open Go.RowKit
theorem qj (b off len cap:Nat) (bs:Nat→Nat) (w:World) (hr:Row8 w (af b off) len cap bs) (h1:19≤len) (h2:len≤27) (hv:xJ bs len) (hE:LW (bs 0) (aC bs 1) (aC bs 5) (aC bs 9) (bs 13) ((len-19:Nat):Int) (bs 14)=0) :
  Calls prog 33 #[.slice (af b off) len cap] w fun e w'=>
   ∃ a' c',e=.returned (.tuple #[.agg #[.int .i64 (bs 0:Nat),.int .u32 (aC bs 1:Nat),.int .u32 (aC bs 5:Nat),.int .u32 (aC bs 9:Nat),.int .i64 (bs 13:Nat),.slice a' (len-19) c'],.int .i64 0]) ∧
    Hid (w'.ownsRow w.heap.size 5 1 (.slice a' (len-19) c') (len-19) (CB (fun i=>bs (15+i)) (len-19))∧Below w.heap.size w w'):=by
 obtain⟨i0,hi,hz0,hz1,hz2⟩:=info_parts cq
 have hcap:=hr.le
 have hbl:b<w.heap.size:=by
  obtain⟨b',off',e,hb',_⟩:=hr.plain (by omega)
  cases e
  exact hb'
 have hA:Below w.heap.size w (w.alloc (.cells bH 50)):=(Below.refl _ _).alloc (Nat.le_refl _) _
 have hAs:w.heap.size < (w.alloc (.cells bH 50)).heap.size:=by simp
 have hY:=gq w
 have hYf:=fun i wx hb=>eC w bH i wx hb
 have hrA:=hr.below hA
 have hV:=nS _ len cap bs (w.alloc (.cells bH 50)) hrA (by omega)
 have hd:decide (4≤len∧PM.R PM.g 32 (PM.V (PM.fb bs) (8*len))=0)=true:=decide_eq_true ⟨by omega,hv⟩
 rw[hd]at hV
 clear hd
 have q:decide ((len:Int)<19)=false:=by simp;omega
 have q2:decide ((27:Int) < (len:Int))=false:=by simp;omega
 have h14:(bs 14)<256:=hr.byte 14 (by omega)
 have hw14:IntKind.i64.wrap (bs 14:Int)=(bs 14:Int):=by rw[IntKind.wrap_i64];omega
 have i14:(14:Int) < (len:Int):=by omega
 clear hv hr
 obtain⟨n,hn⟩:∃ n,n=len-19:=⟨_,rfl⟩
 rw[← hn]at hE ⊢
 have HNN:Hid (n=len-19):=hn
 clear hn
 go_enter func33,ntmps33
 go_wp2_with fail
 generalize w.alloc (.cells bH 50)=wa at *
 refine hV.mono ?_
 rintro e w1 ⟨rfl,hb1⟩
 clear hV
 have hs1:=hb1.size
 have hne:¬ b=w1.heap.size:=by omega
 have hr1:=hrA.below hb1
 have hR:∀ wx,Below w1.heap.size w1 wx→Row8 wx (af b off) len cap bs:=fun wx hb=>hr1.below hb
 have hW1:=fun wx hb=>fu b off len cap 1 4 (cap-1) bs wx (hR wx hb) (by omega) (by omega)
 have hW5:=fun wx hb=>fu b off len cap 5 4 (cap-5) bs wx (hR wx hb) (by omega) (by omega)
 have hW9:=fun wx hb=>fu b off len cap 9 4 (cap-9) bs wx (hR wx hb) (by omega) (by omega)
 have hc:∀ wx,Below w1.heap.size w1 wx→wx.cell? ⟨b,off,none⟩=some (.int .u8 (bs 0:Nat))∧wx.cell? ⟨b,off+13,none⟩=some (.int .u8 (bs 13:Nat)):=fun wx hb=>by
  have s:=(hR wx hb).src _ rfl
  have t0:=s 0 (by omega);have t1:=s 13 (by omega)
  rw[Go.WideShapes.add_plain]at t0 t1
  exact⟨t0,t1⟩
 have hZ:∀ m wx,Below ((w1.drewN m).alloc (.cells bH 50)).heap.size ((w1.drewN m).alloc (.cells bH 50)) wx→Box wx w1.heap.size 0 0 0 0 0 (.slice none 0 0):=fun m wx hb=>gq (w1.drewN m) wx hb
 have hZf:∀ m i wx,Below ((w1.drewN m).alloc (.cells bH 50)).heap.size ((w1.drewN m).alloc (.cells bH 50)) wx→wx.frozen? ⟨w1.heap.size,i,none⟩=false:=fun m i wx hb=>eC (w1.drewN m) _ i wx hb
 have hZ0:Box (w1.drew.alloc (.cells bH 50)) w1.heap.size 0 0 0 0 0 (.slice none 0 0):=hZ 1 _ (Below.refl _ _)
 have hZ0f:∀ i,(w1.drew.alloc (.cells bH 50)).frozen? ⟨w1.heap.size,i,none⟩=false:=fun i=>hZf 1 i _ (Below.refl _ _)
 have z0:=fun m=>(hZ m _ (Below.refl _ _)).c0
 have z1:=fun m=>(hZ m _ (Below.refl _ _)).c1
 have z2:=fun m=>(hZ m _ (Below.refl _ _)).c2
 have z3:=fun m=>(hZ m _ (Below.refl _ _)).c3
 have z4:=fun m=>(hZ m _ (Below.refl _ _)).c4
 have z5:=fun m=>(hZ m _ (Below.refl _ _)).c5
 have zf:=fun m i=>hZf m i _ (Below.refl _ _)
 obtain⟨y0,y1,y2,y3,y4,y5⟩:=hZ0
 obtain⟨k0,k13⟩:=hc w1 (Below.refl _ _)
 have hw0:IntKind.i64.wrap (bs 0:Int)=(bs 0:Int):=by have:=hr1.byte 0 (by omega);rw[IntKind.wrap_i64];omega
 have hw13:IntKind.i64.wrap (bs 13:Int)=(bs 13:Int):=by have:=hr1.byte 13 (by omega);rw[IntKind.wrap_i64];omega
 have n1:¬ cap=1:=by omega
 have n5:¬ cap=5:=by omega
 have n9:¬ cap=9:=by omega
 have n15:¬ cap=15:=by omega
 have l0:(0:Int) < (len:Int):=by omega
 have j0:0<len:=by omega
 have l13:(13:Int) < (len:Int):=by omega
 have c5:(5:Int) ≤ (cap:Int):=by omega
 have c9:(9:Int) ≤ (cap:Int):=by omega
 have c13:(13:Int) ≤ (cap:Int):=by omega
 go_upto_region 7 with fail
 go_cut [4] (fun v wx=>v=ac w1.heap.size 0∧Hid (Box wx w1.heap.size (bs 0:Nat) (aC bs 1) (aC bs 5) (aC bs 9) (bs 13:Nat) (.slice none 0 0)∧Below w1.heap.size w1 wx∧w1.heap.size<wx.heap.size∧∀ i,wx.frozen? ⟨w1.heap.size,i,none⟩=false))
 case first=>
  go_region_held3 (fun w'=>w'.cell? ⟨b,off,none⟩=some (.int .u8 (bs 0:Int))∧w'.cell? ⟨b,off+13,none⟩=some (.int .u8 (bs 13:Int))) (first | (with_reducible refine⟨i7 ?_ hne _ _ _ _ _ _,i7 ?_ hne _ _ _ _ _ _⟩ <;> first | exact (hc _ (by repeat (first | with_reducible assumption | with_reducible refine below_drewN ?_ _ | with_reducible refine Below.drew ?_ | with_reducible refine cJ ?_ _ | with_reducible exact Below.refl _ _))).1 | exact (hc _ (by repeat (first | with_reducible assumption | with_reducible refine below_drewN ?_ _ | with_reducible refine Below.drew ?_ | with_reducible refine cJ ?_ _ | with_reducible exact Below.refl _ _))).2) | exact hc _ (by repeat (first | with_reducible assumption | with_reducible refine below_drewN ?_ _ | with_reducible refine Below.drew ?_ | with_reducible refine cJ ?_ _ | with_reducible exact Below.refl _ _))) (first
  | (refine eQ rfl (.tmp 23) 66 rfl #[.slice (af b (off+1)) 4 (cap-1)] _ (hW1 _ (by repeat (first | with_reducible assumption | with_reducible refine below_drewN ?_ _ | with_reducible refine Below.drew ?_ | with_reducible refine cJ ?_ _ | with_reducible exact Below.refl _ _))) (by kernel_rfl) ?_;intro m)
  | (refine eQ rfl (.tmp 26) 66 rfl #[.slice (af b (off+5)) 4 (cap-5)] _ (hW5 _ (by repeat (first | with_reducible assumption | with_reducible refine below_drewN ?_ _ | with_reducible refine Below.drew ?_ | with_reducible refine cJ ?_ _ | with_reducible exact Below.refl _ _))) (by kernel_rfl) ?_;intro m)
  | (refine eQ rfl (.tmp 29) 66 rfl #[.slice (af b (off+9)) 4 (cap-9)] _ (hW9 _ (by repeat (first | with_reducible assumption | with_reducible refine below_drewN ?_ _ | with_reducible refine Below.drew ?_ | with_reducible refine cJ ?_ _ | with_reducible exact Below.refl _ _))) (by kernel_rfl) ?_;intro m))
  all_goals
   go_wp2_with fail
   go_meet
   refine⟨rfl,zn (k0:=0) (c0:=0) (s0:=0) (n0:=0) (f0:=0) (v0:=.slice none 0 0) ?_ _ _ _ _ _ _,eP ?_ (Nat.le_refl _) _ _ _ _ _ _,?_,?_⟩
   ·first | exact hZ _ _ (below_drewN (Below.refl _ _) _) | exact hZ _ _ (Below.refl _ _) | exact hZ 1 _ (below_drewN (Below.refl _ _) _) | exact hZ 1 _ (Below.refl _ _)
   ·repeat (first | with_reducible assumption | with_reducible refine below_drewN ?_ _ | with_reducible refine Below.drew ?_ | with_reducible refine cJ ?_ _ | with_reducible exact Below.refl _ _)
   ·simp
   ·intro i
    simp only[World.frozen?_setCell]
    first | exact hZf _ i _ (below_drewN (Below.refl _ _) _) | exact hZf _ i _ (Below.refl _ _) | exact hZf 1 i _ (below_drewN (Below.refl _ _) _) | exact hZf 1 i _ (Below.refl _ _)
 case rest=>
  obtain⟨rfl,H2⟩:=hcut
  obtain⟨w2,rfl⟩:∃ x,x=wc:=⟨_,rfl⟩
  obtain⟨X2,hb2,hs2,hf2⟩:=H2.out
  have hr2:=hR w2 hb2
  have hb2w:Below wa.heap.size wa w2:=bD hb1 hs1 hb2
  have h2s:=hb2w.size
  clear H2 hb2 hW1 hW5 hW9 hc hZ hZf hZ0f z0 z1 z2 z3 z4 z5 zf y0 y1 y2 y3 y4 y5 k0 k13 hw0 hw13 n1 n5 n9 l0 j0 l13 c5 c9 c13 hR hr1 hrA
  generalize w1.heap.size=g at *
  clear hb1
  obtain⟨qq,hq⟩:∃ q,q=len-4:=⟨_,rfl⟩
  have hn:n=len-19:=HNN.out
  have hqI:(len:Int)-4=(qq:Int):=by omega
  have iq:(15:Int) ≤ (qq:Int):=by omega
  have iq2:(qq:Int) ≤ (cap:Int):=by omega
  have iq0:(0:Int) ≤ (qq:Int):=by omega
  have hqn:qq-15=n:=by omega
  have R2:=((hr2.from_ 15 (by omega)).upto n (by omega))
  have hn27:n≤27:=by omega
  have HL:Hid (_):=And.intro hq hn
  have O0:(w2.alloc (.cells #[] 5)).ownsRow w2.heap.size 5 1 (.slice (af w2.heap.size 0) 0 0) 0 (CB bs 0):=World.ownsRow_made w2 #[] 0 (Nat.le_refl _) (Nat.zero_le _) rfl
  have hC:Below w2.heap.size w2 (w2.alloc (.cells #[] 5)):=(Below.refl _ _).alloc (Nat.le_refl _) _
  have hsC:=hC.size
  have R0:=R2.below hC
  have hby:∀ i,i<n→bs (15+i)<256:=R2.byte
  clear hq hn
  go_wp2_with (at_builtin;refine aP rfl (.tmp 36) (.tmp 41) 37 rfl w2.heap.size 5 i0 (.int .u8 0) underlying37 hi hz0 hz1 hz2 rfl _ 0 _ rfl O0 _ n _ _ rfl R0 (by unfold maxLen;omega) (by omega) hsC ?_)
  intro v3 w3 own3 G3
  have hb3:Below w2.heap.size w2 w3:=hC.grown G3 hsC (fun j hj=>(O0.lt j hj).1)
  rw[show CB bs 0=[] from rfl,List.nil_append]at own3
  obtain⟨a3,c3,rfl,R3⟩:=aY own3 hby
  have X3:=X2.below hs2 hb3
  have hf3:∀ i,w3.frozen? ⟨g,i,none⟩=false:=fun i=>by rw[hb3.frozen (p:=⟨g,i,none⟩) hs2];exact hf2 i
  have k14:=(hr2.below hb3).src _ rfl 14 (by omega)
  rw[Go.WideShapes.add_plain]at k14
  have hb3a:Below wa.heap.size wa w3:=bD hb2w h2s hb3
  have hb4:Below wa.heap.size wa (w3.setCell ⟨g,5,none⟩ (.slice a3 n c3)):=hb3a.setCell (p:=⟨g,5,none⟩) hs1 _
  have X4:=uQ X3 (.slice a3 n c3)
  have own4:=ownsRow_setCell_below own3 (a:=⟨g,5,none⟩) hs2 (.slice a3 n c3)
  have hr4:=(hr2.below hb3)
  have k14':(w3.setCell ⟨g,5,none⟩ (.slice a3 n c3)).cell? ⟨b,off+14,none⟩=some (.int .u8 (bs 14:Nat)):=by rw[World.cell?_setCell_far _ _ _ _ (fun e=>hne e.symm)];exact k14
  rw[xO]at hE
  have hE2:LW (bs 0:Nat) (aC bs 1:Nat) (aC bs 5:Nat) (aC bs 9:Nat) (bs 13:Nat) (n:Nat) (n:Nat)=0∧(bs 14:Int)=(n:Int):=by
   split at hE
   ·cases hE
   ·next q=>
    refine⟨hE,Classical.byContradiction fun z=>q ⟨?_,?_,z⟩⟩ <;> (rw[hE];decide)
  clear hE
  obtain⟨hE,e14⟩:=hE2
  have hL:=nR (bs 0:Nat) (aC bs 1) (aC bs 5) (aC bs 9) (bs 13:Nat) a3 n c3 (w3.setCell ⟨g,5,none⟩ (.slice a3 n c3)) hE
  clear hE
  have hs3:w2.heap.size≤w3.heap.size:=hb3.size
  have hg4:g < (w3.setCell ⟨g,5,none⟩ (.slice a3 n c3)).heap.size:=by simp;omega
  have hb4s:b < (w3.setCell ⟨g,5,none⟩ (.slice a3 n c3)).heap.size:=by simp;omega
  have hs4:=hb4.size
  obtain⟨x0,x1,x2,x3,x4,x5⟩:=X3
  clear own3 R3 G3 O0 hC hsC R0 R2 hr2 hr4 k14 hb3 hb3a X2 hf2
  go_wp2_with fail
  generalize w3.setCell ⟨g,5,none⟩ (.slice a3 n c3)=w4 at *
  refine hL.mono ?_
  rintro e w5 ⟨rfl,hb5'⟩
  have hb5:=bD hb4 hs4 hb5'
  have hs5:=hb5.size
  have X5:=X4.below hg4 hb5'
  have k14:w5.cell? ⟨b,off+14,none⟩=some (.int .u8 (bs 14:Nat)):=(hb5'.cell (p:=⟨b,off+14,none⟩) hb4s).trans k14'
  have own5:=cU own4 hb5'
  have hg5:g<w5.heap.size:=Nat.lt_of_lt_of_le hg4 hb5'.size
  obtain⟨z0,z1,z2,z3,z4,z5⟩:=X5
  clear hL x0 x1 x2 x3 x4 x5 hf3 k14' own4 hb4 hb5' hg4 hb4s hs4
  go_upto_region 10 with fail
  go_cut [61] (fun v wx=>v=.bool false∧Hid (Below w5.heap.size w5 wx))
  case first=>
   have q14:((bs 14:Int) == (n:Int))=true:=by simpa using e14
   have r14:((bs 14:Int) != (n:Int))=false:=by simpa using e14
   clear e14
   go_quiet (fail)
   go_wp2_with fail
   go_meet
   exact⟨rfl,by first | exact (Below.refl _ _).drew | exact below_drewN (Below.refl _ _) _ | exact Below.refl _ _⟩
  case rest=>
   obtain⟨rfl,H6⟩:=hcut
   obtain⟨w6,rfl⟩:∃ x,x=wc:=⟨_,rfl⟩
   have hb6:=bD hb5 hs5 H6.out
   have yf:=fun i=>hYf i w6 hb6
   obtain⟨y0,y1,y2,y3,y4,y5⟩:=hY w6 hb6
   have X5:Box w5 g (bs 0:Nat) (aC bs 1) (aC bs 5) (aC bs 9) (bs 13:Nat) (.slice a3 n c3):=⟨z0,z1,z2,z3,z4,z5⟩
   obtain⟨u0,u1,u2,u3,u4,u5⟩:=X5.below hg5 H6.out
   have own6:=cU own5 H6.out
   have hgw:¬ w.heap.size=g:=by omega
   have hgw':¬ g=w.heap.size:=by omega
   have HH:Hid (_):=And.intro hA (And.intro hAs (And.intro hb6 (And.intro own6 h2s)))
   clear hY hYf z0 z1 z2 z3 z4 z5 X5 own5 own6 hb5 hb6 hs5 H6 k14 hg5 hA hAs
   go_wp2_with fail
   refine bodyPost_ret (v:=.tuple #[.agg #[.int .i64 (bs 0:Nat),.int .u32 (aC bs 1:Nat),.int .u32 (aC bs 5:Nat),.int .u32 (aC bs 9:Nat),.int .i64 (bs 13:Nat),.slice a3 n c3],.int .i64 0]) (by simp[results,results33,go_sem,y0,y1,y2,y3,y4,y5]) rfl ⟨a3,c3,rfl,?_,?_⟩
   ·exact aS (nY HH.out.2.2.2.1 (Nat.lt_of_lt_of_le HH.out.2.1 HH.out.2.2.2.2) _ _ _ _ _ _) (Nat.le_trans (Nat.le_of_lt HH.out.2.1) HH.out.2.2.2.2)
   ·exact eP (HH.out.1.trans (HH.out.2.2.1.mono (Nat.le_of_lt HH.out.2.1))) (Nat.le_refl _) _ _ _ _ _ _
theorem rL (a:Option Addr) (len cap:Nat) (bs:Nat→Nat) (w:World) (hr:Row8 w a len cap bs) (h:DE bs len=0) :
  Calls prog 33 #[.slice a len cap] w fun e w'=>∃ a' c',e=.returned (.tuple #[.agg #[.int .i64 (bs 0:Nat),.int .u32 (aC bs 1:Nat),.int .u32 (aC bs 5:Nat),.int .u32 (aC bs 9:Nat),.int .i64 (bs 13:Nat),.slice a' (len-19) c'],.int .i64 0]) ∧
    Hid (w'.ownsRow w.heap.size 5 1 (.slice a' (len-19) c') (len-19) (CB (fun i=>bs (15+i)) (len-19))∧Below w.heap.size w w'):=by
 obtain⟨h1,h2,h3,h4⟩:=gN h
 obtain⟨b,off,rfl,_,_⟩:=hr.plain (by omega)
 exact qj b off len cap bs w hr h1 h2 h3 h4
end Go.Proofs.YtenilkloffnjlaaGreat
