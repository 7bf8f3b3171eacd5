/- Part 34: contracts that the proof rests on. -/
import Derived.Test.YtdpahjfekoikiaaGreatPkX32
set_option maxHeartbeats 64000000
set_option maxRecDepth 100000
namespace Go.Proofs.YtdpahjfekoikiaaGreat
open Tryz
open Go.RowKit
section
variable {w w':World} {d:Nat} {P:Pm} {U l:List Nat} {s:Sh} {B:Bh}
theorem HX.off (h:HX w d P U s B) (q:Off l w w') (hl:∀ k,k ∈ U→k ∉ l):HX w' d P U s B:=
 ⟨(q.block d h.dlt (hl _ h.kd.2)).trans h.dev,h.dog.off q (hl _ h.kb.2),h.val.off q (hl _ h.kv.2) (hl _ h.kw.2) (fun k hk hM=>hl k (h.kM k hM).2 hk),h.log.off q (fun k hk=>hl _ (h.kl k hk).2),an h.app q (fun k hk=>hl _ (h.ka k hk).2),h.apb,fun k hk=>Nat.lt_of_lt_of_le (h.ltU k hk) q.size,h.kd,h.kb,h.kv,h.kw,h.kM,h.kl,h.ka,h.pok⟩
theorem HX.apf (h:HX w d P U s B) {a:Option Addr} {len cap:Nat} (e:B.av=.slice a len cap) (y:Addr) (hy:a=some y):y.block ∈ U∧y.block≠d:=by
 have hk:=h.ka y.block (by rw[e,hy];rfl)
 exact⟨hk.2,fun q=>by have:=hk.1;rw[q,h.kd.1]at this;omega⟩
theorem HV.off (h:HV w d P U s) (q:Off l w w') (hl:∀ k,k ∈ U→k ∉ l):HV w' d P U s:=by
 obtain⟨B,h⟩:=h
 exact⟨B,h.off q hl⟩
end
theorem Gr.new_ {U U1:List Nat} {w w1 w2:World} {b:Nat} (h:Gr U w U1 w1) (q:Off [b] w1 w2) (hb:w.heap.size≤b):Gr U w U1 w2:=
 ⟨⟨q.os.trans h.off.os,q.tape.trans h.off.tape,q.output.trans h.off.output,Nat.le_trans h.off.size q.size,fun k hk hn=>(q.block k (Nat.lt_of_lt_of_le hk h.off.size) (by simp;omega)).trans (h.off.block k hk hn)⟩,h.new⟩
theorem kC (b:Nat) (w:World) (x0 x1 x2 x3 x4 x5:Value) :
  Off [b] w ((((((w.setCell ⟨b,0,none⟩ x0).setCell ⟨b,1,none⟩ x1).setCell ⟨b,2,none⟩ x2).setCell ⟨b,3,none⟩ x3).setCell ⟨b,4,none⟩ x4).setCell ⟨b,5,none⟩ x5):=
 (((((Off.setCell b 0 w x0).trans (Off.setCell b 1 _ x1)).trans (Off.setCell b 2 _ x2)).trans (Off.setCell b 3 _ x3)).trans (Off.setCell b 4 _ x4)).trans (Off.setCell b 5 _ x5)
structure Un (U:List Nat) (w w':World) (d:Nat) (P:Pm) (s:Sh) (f:Fm) (k ss num fl:Nat) (a:Option Addr) (len cap:Nat) (bs:Nat→Nat):Prop where
 hv:∃ U',Gr U w U' w'∧HV w' d P U' s∧∀ y,a=some y→y.block≠d∧(y.block ∈ U'∨w.heap.size≤y.block)∧y.block<w'.heap.size
 fm:f=cH k P.c ss num fl len bs
 row:Row8 w' a len cap bs
def zU:Array Value:=cm
theorem dn {w2:World} {g b o:Nat} {x:Value} (h:w2.cell? ⟨b,o,none⟩=some x) (hne:¬ b=g) (v0 v1 v2 v3 v4 v5:Value) :
  ((((((w2.setCell ⟨g,0,none⟩ v0).setCell ⟨g,1,none⟩ v1).setCell ⟨g,2,none⟩ v2).setCell ⟨g,3,none⟩ v3).setCell ⟨g,4,none⟩ v4).setCell ⟨g,5,none⟩ v5).cell? ⟨b,o,none⟩=some x:=by
 have hg:g≠b:=fun e=>hne e.symm
 rw[World.cell?_setCell_far _ _ _ _ hg,World.cell?_setCell_far _ _ _ _ hg,World.cell?_setCell_far _ _ _ _ hg,World.cell?_setCell_far _ _ _ _ hg,World.cell?_setCell_far _ _ _ _ hg,World.cell?_setCell_far _ _ _ _ hg]
 exact h
theorem p7 {w:World} {b:Nat} {t:TypeId} (x0 x1 x2 x3 x4 x5:Value) {y0 y1 y2 y3 y4 y5:Value} (e:w.heap[b]?=some (.cells #[y0,y1,y2,y3,y4,y5] t (0,0))) :
  ((((((w.setCell ⟨b,0,none⟩ x0).setCell ⟨b,1,none⟩ x1).setCell ⟨b,2,none⟩ x2).setCell ⟨b,3,none⟩ x3).setCell ⟨b,4,none⟩ x4).setCell ⟨b,5,none⟩ x5).heap[b]?=some (.cells #[x0,x1,x2,x3,x4,x5] t (0,0)):=by
 have e0:(w.setCell ⟨b,0,none⟩ x0).heap[b]?=some (.cells #[x0,y1,y2,y3,y4,y5] t (0,0)):=heap_setCell_same _ _ _ _ _ _ e
 have e1:((w.setCell ⟨b,0,none⟩ x0).setCell ⟨b,1,none⟩ x1).heap[b]?=some (.cells #[x0,x1,y2,y3,y4,y5] t (0,0)):=heap_setCell_same _ _ _ _ _ _ e0
 have e2:(((w.setCell ⟨b,0,none⟩ x0).setCell ⟨b,1,none⟩ x1).setCell ⟨b,2,none⟩ x2).heap[b]?=some (.cells #[x0,x1,x2,y3,y4,y5] t (0,0)):=heap_setCell_same _ _ _ _ _ _ e1
 have e3:((((w.setCell ⟨b,0,none⟩ x0).setCell ⟨b,1,none⟩ x1).setCell ⟨b,2,none⟩ x2).setCell ⟨b,3,none⟩ x3).heap[b]?=some (.cells #[x0,x1,x2,x3,y4,y5] t (0,0)):=heap_setCell_same _ _ _ _ _ _ e2
 have e4:(((((w.setCell ⟨b,0,none⟩ x0).setCell ⟨b,1,none⟩ x1).setCell ⟨b,2,none⟩ x2).setCell ⟨b,3,none⟩ x3).setCell ⟨b,4,none⟩ x4).heap[b]?=some (.cells #[x0,x1,x2,x3,x4,y5] t (0,0)):=heap_setCell_same _ _ _ _ _ _ e3
 have e5:((((((w.setCell ⟨b,0,none⟩ x0).setCell ⟨b,1,none⟩ x1).setCell ⟨b,2,none⟩ x2).setCell ⟨b,3,none⟩ x3).setCell ⟨b,4,none⟩ x4).setCell ⟨b,5,none⟩ x5).heap[b]?=some (.cells #[x0,x1,x2,x3,x4,x5] t (0,0)):=heap_setCell_same _ _ _ _ _ _ e4
 exact e5
theorem iS {w:World} {b:Nat} (e:w.heap[b]?=some (.cells zU 103 (0,0))) :
  (w.cell? ⟨b,0,none⟩=some (.int .i64 0)∧w.cell? ⟨b,1,none⟩=some (.int .u32 0)∧w.cell? ⟨b,2,none⟩=some (.int .u32 0)∧w.cell? ⟨b,3,none⟩=some (.int .u32 0)∧w.cell? ⟨b,4,none⟩=some (.int .i64 0)∧w.cell? ⟨b,5,none⟩=some (.slice none 0 0))∧∀ j,w.frozen? ⟨b,j,none⟩=false:=
 ⟨⟨ab w b 0 _ _ _ e,ab w b 1 _ _ _ e,ab w b 2 _ _ _ e,ab w b 3 _ _ _ e,ab w b 4 _ _ _ e,ab w b 5 _ _ _ e⟩,fun j=>frozen_of_row w b j _ _ e⟩
theorem kB (d:Nat) (P:Pm) (U:List Nat) (s:Sh) (w:World) (h:HV w d P U s) :
  Calls prog 64 #[aa d 0] w fun e w'=>∃ g,e=.returned (.slice (ac g 0) 4 4)∧Hid (Row8 w' (ac g 0) 4 4 (bZ P)∧(w.heap.size≤g∧g<w'.heap.size)∧Below w.heap.size w w'):=by
 unfold bZ
 obtain⟨B,h0⟩:=h
 have c0:=h0.c0
 have c1:=h0.c1
 have c2:=h0.c2
 have c3:=h0.c3
 have c4:=h0.c4
 have hG:=fN P.c P.o P.i P.t P.n w h0.pok.c h0.pok.n h0.pok.ok
 have K0:=PM.K_lt (pe P.c P.o P.i P.t P.n) 14
 clear h0
 generalize PM.K (pe P.c P.o P.i P.t P.n) 14=KK at *
 go_enter func64,ntmps64
 go_wp2_with fail
 refine hG.mono ?_
 rintro e w2 ⟨rfl,b2⟩
 have hr:=fA w2 KK K0
 have hB:=cJ KK w2 K0
 have b3:Below w2.heap.size w2 (w2.alloc (.cells #[.int .u8 ((KK:Nat) / 16777216:Int),.int .u8 ((KK:Nat) / 65536 % 256:Int),.int .u8 ((KK:Nat) / 256 % 256:Int),.int .u8 ((KK:Nat) % 256:Int)] 5)):=(Below.refl _ _).alloc (Nat.le_refl _) _
 have b4:=b2.trans (b3.mono b2.size)
 have l3:w2.heap.size < (w2.alloc (.cells #[.int .u8 ((KK:Nat) / 16777216:Int),.int .u8 ((KK:Nat) / 65536 % 256:Int),.int .u8 ((KK:Nat) / 256 % 256:Int),.int .u8 ((KK:Nat) % 256:Int)] 5)).heap.size:=by rw[World.size_alloc];omega
 have HB:Hid (_):=And.intro hr (And.intro (And.intro b2.size l3) b4)
 clear hG b2 b3 b4 l3 hr K0 c0 c1 c2 c3 c4
 go_wp2_with fail
 refine hB.mono ?_
 rintro e w3 ⟨rfl,rfl⟩
 clear hB
 go_wp2_with fail
 go_ret
 exact⟨_,rfl,HB⟩
theorem me (d:Nat) (P:Pm) (U:List Nat) (s:Sh) (w:World) (h:HV w d P U s) (hsn:s.sn+1<4294967296) (hL:s.L.length<800000) (h1:s.st≠1) (h2:s.st≠2) (h3:s.st≠3) (hn:s.sn+1=P.n) :
  Calls prog 65 #[aa d 0] w fun e w'=>∃ k ss num fl a len cap bs,e=.returned (.agg #[.int .i64 ((k:Nat):Int),.int .u32 0,.int .u32 ((ss:Nat):Int),.int .u32 ((num:Nat):Int),.int .i64 ((fl:Nat):Int),.slice a len cap])∧Hid (Un U w w' d P (aN P s).1 (aN P s).2 k ss num fl a len cap bs):=by
 have hN:aN P s=if s.sn+1=P.n then (gK { s with sn:=s.sn+1 },cH 5 P.c s.ss (s.sn+1) 0 0 (fun _=>0)) else ({ s with sn:=s.sn+1 },cH 4 P.c s.ss (s.sn+1) (aD s) P.o s.ap):=by
  unfold aN
  rw[if_neg h1,if_neg h2,if_neg h3]
 rw[hN]
 clear hN h1 h2 h3
 have hb0:Below w.heap.size w (w.alloc (.cells zU 103)):=(Below.refl _ _).alloc (Nat.le_refl _) _
 have hx0:=aB w (.cells zU 103)
 have hs0:w.heap.size < (w.alloc (.cells zU 103)).heap.size:=by simp
 have hU:w.heap.size ∉ U:=fun hm=>by have:=HV.ult h _ hm;omega
 obtain⟨B,x0⟩:=HV.below h hb0
 obtain⟨sn1,hs1⟩:∃ k,s.sn+1=k:=⟨_,rfl⟩
 have hw:IntKind.u32.wrap ((s.sn:Int)+1)=(sn1:Int):=by rw[IntKind.wrap_u32];omega
 have hm:((s.sn:Int)+1) % 4294967296=(sn1:Int):=by omega
 have c11:=x0.c11
 have f11:=x0.fz 11
 have o1:=Off.setCell d 11 (w.alloc (.cells zU 103)) (.int .u32 (sn1:Nat))
 have x1:=x0.own o1 (s':={ s with sn:=sn1 }) (heap_setCell_same _ _ _ _ _ _ x0.dev) rfl rfl rfl rfl
 have g1:=(Gr.below (U:=U) hb0).trans (Gr.same (U:=U) o1 (by simp[x0.kd.2]))
 have hdn:¬ d=w.heap.size:=fun e=>hU (by rw[← e];exact x0.kd.2)
 have hdn':¬ w.heap.size=d:=fun e=>hdn e.symm
 have e1:=(o1.block w.heap.size hs0 (by simpa using hdn')).trans hx0
 have l1:w.heap.size < ((w.alloc (.cells zU 103)).setCell ⟨d,11,none⟩ (.int .u32 (sn1:Nat))).heap.size:=Nat.lt_of_lt_of_le hs0 o1.size
 have H1:Hid (_):=And.intro x1 (And.intro g1 (And.intro e1 (And.intro l1 (And.intro hU hL))))
 rw[hs1]at hn ⊢
 clear h hb0 hx0 hs0 x0 o1 x1 g1 e1 l1 hU hL hs1 hsn
 unfold zU at *
 rw[if_pos hn]
 subst hn
 go_enter func65,ntmps65
 go_wp2_with fail
 generalize hw1:(w.alloc (.cells cm 103)).setCell ⟨d,11,none⟩ (.int .u32 (P.n:Int))=w1 at *
 clear hw1 c11 f11 hw hm
 have c11:w1.cell? ⟨d,11,none⟩=some (.int .u32 (P.n:Nat)):=H1.out.1.c11
 have c4:=H1.out.1.c4
 go_quiet (fail)
 go_wp2_with fail
 have x2:=H1.out.1.newd (Off.drewN [] w1 nq)
 have hE:=ks d P U { s with sn:=P.n } _ ⟨B,x2⟩ (by have:=H1.out.2.2.2.2.2;show s.L.length<_;omega)
 clear x2 c4 c11
 go_wp2_with fail
 refine hE.mono ?_
 rintro e w3 ⟨rfl,h3⟩
 obtain⟨U3,g3,B3,x3⟩:=h3.out
 obtain⟨x1,g1,e1,l1,hU,hL⟩:=H1.out
 have G3:Gr U w1 U3 w3:=(Gr.same (l:=[]) (Off.drewN [] w1 nq) (by simp)).trans g3
 have e3:=(G3.far ⟨l1,hU⟩).2.trans e1
 have hU3:=(G3.far ⟨l1,hU⟩).1
 obtain⟨⟨q0,q1,q2,q3,q4,q5⟩,fz⟩:=iS e3
 have f0:=fz 0
 have f1:=fz 1
 have f2:=fz 2
 have f3:=fz 3
 have f4:=fz 4
 have f5:=fz 5
 have c9:w3.cell? ⟨d,9,none⟩=some (.int .u32 (s.ss:Nat)):=by
  have h9:=x3.c9
  rw[show (gK { s with sn:=P.n }).ss=s.ss from by unfold gK eq aQ dR;split <;> rfl]at h9
  exact h9
 have c11:w3.cell? ⟨d,11,none⟩=some (.int .u32 (P.n:Nat)):=by
  have h11:=x3.c11
  rw[show (gK { s with sn:=P.n }).sn=P.n from by unfold gK eq aQ dR;split <;> rfl]at h11
  exact h11
 have H3:Hid (_):=And.intro (g1.trans G3) (And.intro x3 hU3)
 clear hE h3 g3 x3 x1 g1 e1 l1 hU hL G3 hU3 fz H1
 go_wp2_with fail
 have HS:w3.drew.cell? ⟨d,9,none⟩=some (Value.int .u32 (s.ss:Nat))∧w3.drew.cell? ⟨d,11,none⟩=some (Value.int .u32 (P.n:Nat)):=⟨c9,c11⟩
 have HT:=HS
 have H3e:Hid (w3.drew.heap[w.heap.size]?=_):=e3
 clear e3
 refine wp_region_held_drew (S:=fun w'=>w'.cell? ⟨d,9,none⟩=some (Value.int .u32 (s.ss:Nat))∧w'.cell? ⟨d,11,none⟩=some (Value.int .u32 (P.n:Nat))) (by kernel_rfl) HS (fun _=>?_)
 refine aC (a':={ tmps:=#[aa d 0,undef,aa w.heap.size 0,aa d 0,aa d 0,aa d 6,aa d 11,Value.int .u32 (s.sn:Nat),Value.int .u32 (P.n:Nat),aa d 0,aa d 6,aa d 11,aa d 0,aa d 0,aa d 6,aa d 11,Value.int .u32 (P.n:Nat),aa d 0,aa d 0,aa d 0,aa d 4,Value.int .u32 (P.n:Nat),Value.bool true,aa d 0,Value.tuple #[],undef,undef,undef,undef,undef,undef,undef,undef,undef,undef,undef,undef,undef,undef,undef,undef,undef,undef,undef,undef,undef,undef,undef,undef,undef,undef,undef,undef,undef,undef,undef],defers:=[] }) (l':=#[false,false,false,false,false,false,false,false,false,false,false,false]) (by kernel_rfl) (by kernel_rfl) ?_
 refine aP (i:=0) (v:=aa d 0) ?_
 refine aP (i:=1) (v:=aa d 0) ?_
 refine aP (i:=2) (v:=aa d 6) ?_
 refine aP (i:=3) (v:=aa d 9) ?_
 refine aP (i:=4) (v:=Value.int .u32 (s.ss:Nat)) ?_
 refine aP (i:=5) (v:=aa d 0) ?_
 refine aP (i:=6) (v:=aa d 0) ?_
 refine aP (i:=7) (v:=aa d 6) ?_
 refine aP (i:=8) (v:=aa d 11) ?_
 refine aP (i:=9) (v:=Value.int .u32 (P.n:Nat)) ?_
 refine aP (i:=10) (v:=Value.agg #[Value.int .i64 5,Value.int .u32 0,Value.int .u32 (s.ss:Nat),Value.int .u32 (P.n:Nat),Value.int .i64 0,Value.slice none 0 0]) ?_
 refine aC (a':={ tmps:=#[aa d 0,undef,aa w.heap.size 0,aa d 0,aa d 0,aa d 6,aa d 11,Value.int .u32 (s.sn:Nat),Value.int .u32 (P.n:Nat),aa d 0,aa d 6,aa d 11,aa d 0,aa d 0,aa d 6,aa d 11,Value.int .u32 (P.n:Nat),aa d 0,aa d 0,aa d 0,aa d 4,Value.int .u32 (P.n:Nat),Value.bool true,aa d 0,Value.tuple #[],aa d 0,aa d 0,aa d 6,aa d 9,Value.int .u32 (s.ss:Nat),aa d 0,aa d 0,aa d 6,aa d 11,Value.int .u32 (P.n:Nat),Value.agg #[Value.int .i64 5,Value.int .u32 0,Value.int .u32 (s.ss:Nat),Value.int .u32 (P.n:Nat),Value.int .i64 0,Value.slice none 0 0],undef,undef,undef,undef,undef,undef,undef,undef,undef,undef,undef,undef,undef,undef,undef,undef,undef,undef,undef,undef],defers:=[] }) (l':=#[true,true,true,true,true,true,true,true,true,true,true,false]) (by kernel_rfl) (by kernel_rfl) ?_
 refine dQ (i:=11) (((((((w3.drew.setCell ⟨w.heap.size,0,none⟩ (Value.int .i64 5)).setCell ⟨w.heap.size,1,none⟩ (Value.int .u32 0)).setCell ⟨w.heap.size,2,none⟩ (Value.int .u32 (s.ss:Nat))).setCell ⟨w.heap.size,3,none⟩ (Value.int .u32 (P.n:Nat))).setCell ⟨w.heap.size,4,none⟩ (Value.int .i64 0)).setCell ⟨w.heap.size,5,none⟩ (Value.slice none 0 0))) (by kernel_rfl) rfl (by kernel_rfl) (by go_simp) ⟨dn HS.1 hdn _ _ _ _ _ _,dn HS.2 hdn _ _ _ _ _ _⟩ ?_
 refine aC (a':={ tmps:=#[aa d 0,undef,aa w.heap.size 0,aa d 0,aa d 0,aa d 6,aa d 11,Value.int .u32 (s.sn:Nat),Value.int .u32 (P.n:Nat),aa d 0,aa d 6,aa d 11,aa d 0,aa d 0,aa d 6,aa d 11,Value.int .u32 (P.n:Nat),aa d 0,aa d 0,aa d 0,aa d 4,Value.int .u32 (P.n:Nat),Value.bool true,aa d 0,Value.tuple #[],aa d 0,aa d 0,aa d 6,aa d 9,Value.int .u32 (s.ss:Nat),aa d 0,aa d 0,aa d 6,aa d 11,Value.int .u32 (P.n:Nat),Value.agg #[Value.int .i64 5,Value.int .u32 0,Value.int .u32 (s.ss:Nat),Value.int .u32 (P.n:Nat),Value.int .i64 0,Value.slice none 0 0],undef,undef,undef,undef,undef,undef,undef,undef,undef,undef,undef,undef,undef,undef,undef,undef,undef,undef,undef,undef],defers:=[] }) (l':=#[true,true,true,true,true,true,true,true,true,true,true,true]) (by kernel_rfl) (by kernel_rfl) ?_
 refine wpAnyH_done (by kernel_rfl) ?_ _
 have e9:=p7 (Value.int .i64 5) (Value.int .u32 0) (Value.int .u32 (s.ss:Nat)) (Value.int .u32 (P.n:Nat)) (Value.int .i64 0) (Value.slice none 0 0) H3e.out
 have H9:Hid (_):=kC w.heap.size w3.drew (Value.int .i64 5) (Value.int .u32 0) (Value.int .u32 (s.ss:Nat)) (Value.int .u32 (P.n:Nat)) (Value.int .i64 0) (Value.slice none 0 0)
 clear q0 q1 q2 q3 q4 q5 f0 f1 f2 f3 f4 f5 HS HT
 generalize ((((((w3.drew.setCell ⟨w.heap.size,0,none⟩ (Value.int .i64 5)).setCell ⟨w.heap.size,1,none⟩ (Value.int .u32 0)).setCell ⟨w.heap.size,2,none⟩ (Value.int .u32 (s.ss:Nat))).setCell ⟨w.heap.size,3,none⟩ (Value.int .u32 (P.n:Nat))).setCell ⟨w.heap.size,4,none⟩ (Value.int .i64 0)).setCell ⟨w.heap.size,5,none⟩ (Value.slice none 0 0))=w9 at *
 have r0:=ab w9 w.heap.size 0 _ _ _ e9
 have r1:=ab w9 w.heap.size 1 _ _ _ e9
 have r2:=ab w9 w.heap.size 2 _ _ _ e9
 have r3:=ab w9 w.heap.size 3 _ _ _ e9
 have r4:=ab w9 w.heap.size 4 _ _ _ e9
 have r5:=ab w9 w.heap.size 5 _ _ _ e9
 clear e9
 go_wp2_with fail
 refine bodyPost_ret (v:=.agg #[Value.int .i64 5,Value.int .u32 0,Value.int .u32 (s.ss:Nat),Value.int .u32 (P.n:Nat),Value.int .i64 0,Value.slice none 0 0]) (by simp[results,results65,go_sem,r0,r1,r2,r3,r4,r5]) rfl ?_
 have oo:=H9.out
 obtain⟨g3,x3,hU3⟩:=H3.out
 exact⟨5,s.ss,P.n,0,none,0,0,fun _=>0,rfl,⟨U3,(g3.trans (Gr.same (l:=[]) (Off.drew [] w3) (by simp))).new_ oo (Nat.le_refl _),⟨B3,(x3.newd (Off.drew [] w3)).off oo (fun k hk hm=>by simp at hm;subst hm;exact hU3.2 hk)⟩,fun y hy=>by cases hy⟩,rfl,bY _ _⟩
theorem mf (d:Nat) (P:Pm) (U:List Nat) (s:Sh) (w:World) (h:HV w d P U s) (hsn:s.sn+1<4294967296) (hL:s.L.length<800000) (h1:s.st≠1) (h2:s.st≠2) (h3:s.st≠3) (hn:¬ s.sn+1=P.n) :
  Calls prog 65 #[aa d 0] w fun e w'=>∃ k ss num fl a len cap bs,e=.returned (.agg #[.int .i64 ((k:Nat):Int),.int .u32 0,.int .u32 ((ss:Nat):Int),.int .u32 ((num:Nat):Int),.int .i64 ((fl:Nat):Int),.slice a len cap])∧Hid (Un U w w' d P (aN P s).1 (aN P s).2 k ss num fl a len cap bs):=by
 have hN:aN P s=if s.sn+1=P.n then (gK { s with sn:=s.sn+1 },cH 5 P.c s.ss (s.sn+1) 0 0 (fun _=>0)) else ({ s with sn:=s.sn+1 },cH 4 P.c s.ss (s.sn+1) (aD s) P.o s.ap):=by
  unfold aN
  rw[if_neg h1,if_neg h2,if_neg h3]
 rw[hN]
 clear hN h1 h2 h3
 have hb0:Below w.heap.size w (w.alloc (.cells zU 103)):=(Below.refl _ _).alloc (Nat.le_refl _) _
 have hx0:=aB w (.cells zU 103)
 have hs0:w.heap.size < (w.alloc (.cells zU 103)).heap.size:=by simp
 have hU:w.heap.size ∉ U:=fun hm=>by have:=HV.ult h _ hm;omega
 obtain⟨B,x0⟩:=HV.below h hb0
 obtain⟨sn1,hs1⟩:∃ k,s.sn+1=k:=⟨_,rfl⟩
 have hw:IntKind.u32.wrap ((s.sn:Int)+1)=(sn1:Int):=by rw[IntKind.wrap_u32];omega
 have hm:((s.sn:Int)+1) % 4294967296=(sn1:Int):=by omega
 have c11:=x0.c11
 have f11:=x0.fz 11
 have o1:=Off.setCell d 11 (w.alloc (.cells zU 103)) (.int .u32 (sn1:Nat))
 have x1:=x0.own o1 (s':={ s with sn:=sn1 }) (heap_setCell_same _ _ _ _ _ _ x0.dev) rfl rfl rfl rfl
 have g1:=(Gr.below (U:=U) hb0).trans (Gr.same (U:=U) o1 (by simp[x0.kd.2]))
 have hdn:¬ d=w.heap.size:=fun e=>hU (by rw[← e];exact x0.kd.2)
 have hdn':¬ w.heap.size=d:=fun e=>hdn e.symm
 have e1:=(o1.block w.heap.size hs0 (by simpa using hdn')).trans hx0
 have l1:w.heap.size < ((w.alloc (.cells zU 103)).setCell ⟨d,11,none⟩ (.int .u32 (sn1:Nat))).heap.size:=Nat.lt_of_lt_of_le hs0 o1.size
 have H1:Hid (_):=And.intro x1 (And.intro g1 (And.intro e1 (And.intro l1 (And.intro hU hL))))
 rw[hs1]at hn ⊢
 clear h hb0 hx0 hs0 x0 o1 x1 g1 e1 l1 hU hL hs1 hsn
 unfold zU at *
 rw[if_neg hn]
 have HN:Hid (_):=hn
 clear hn
 go_enter func65,ntmps65
 go_wp2_with fail
 generalize hw1:(w.alloc (.cells cm 103)).setCell ⟨d,11,none⟩ (.int .u32 (sn1:Int))=w1 at *
 clear hw1 c11 f11 hw hm
 have c11:w1.cell? ⟨d,11,none⟩=some (.int .u32 (sn1:Nat)):=H1.out.1.c11
 have c4:=H1.out.1.c4
 have hn':((sn1:Int) == (P.n:Int))=false:=by have h:=HN.out;simp;intro e;exact h (by omega)
 go_quiet (fail)
 go_wp2_with fail
 obtain⟨x1,g1,e1,l1,hU,hL⟩:=H1.out
 have x2:=x1.newd (Off.drewN [] w1 nq)
 have G2:Gr U w U (w1.drewN nq):=g1.trans (Gr.same (l:=[]) (Off.drewN [] w1 nq) (by simp))
 have e2:(w1.drewN nq).heap[w.heap.size]?=_:=((Off.drewN [] w1 nq).block w.heap.size l1 (by simp)).trans e1
 have l2:w.heap.size < (w1.drewN nq).heap.size:=Nat.lt_of_lt_of_le l1 (Off.drewN [] w1 nq).size
 clear x1 g1 e1 l1 H1 c4 c11 hn'
 generalize w1.drewN nq=w2 at *
 have xd:=x2.newd (Off.drew [] w2)
 have hF:=mg d P U { s with sn:=sn1 } _ ⟨B,xd⟩
 obtain⟨a5,cap5,hav,r5⟩:=aO xd.app xd.apb
 have hfar:∀ y,a5=some y→y.block ∈ U∧y.block≠d:=fun y hy=>xd.apf hav y hy
 have ed:w2.drew.heap[w.heap.size]?=_:=e2
 obtain⟨⟨q0,q1,q2,q3,q4,q5⟩,fz⟩:=iS ed
 have HS:w2.drew.cell? ⟨d,9,none⟩=some (.int .u32 (s.ss:Nat))∧w2.drew.cell? ⟨d,11,none⟩=some (.int .u32 (sn1:Nat))∧w2.drew.cell? ⟨d,14,none⟩=some (.slice a5 P.o cap5):=⟨xd.c9,xd.c11,by rw[← hav];exact xd.c14⟩
 have H2:Hid (_):=And.intro (G2.trans (Gr.same (l:=[]) (Off.drew [] w2) (by simp))) (And.intro xd (And.intro ed (And.intro l2 (And.intro hU (And.intro r5 hfar)))))
 clear x2 G2 e2 l2 xd r5 hfar ed hU hL hav q0 q1 q2 q3 q4 q5 fz
 refine wp_region_held_drew (S:=fun w'=>w'.cell? ⟨d,9,none⟩=some (Value.int .u32 (s.ss:Nat))∧w'.cell? ⟨d,11,none⟩=some (Value.int .u32 (sn1:Nat))∧w'.cell? ⟨d,14,none⟩=some (Value.slice a5 P.o cap5)) (by kernel_rfl) HS (fun _=>?_)
 refine aC (a':={ tmps:=#[aa d 0,undef,aa w.heap.size 0,aa d 0,aa d 0,aa d 6,aa d 11,Value.int .u32 (s.sn:Nat),Value.int .u32 (sn1:Nat),aa d 0,aa d 6,aa d 11,aa d 0,aa d 0,aa d 6,aa d 11,Value.int .u32 (sn1:Nat),aa d 0,aa d 0,aa d 0,aa d 4,Value.int .u32 (P.n:Nat),Value.bool false,undef,undef,undef,undef,undef,undef,undef,undef,undef,undef,undef,undef,undef,undef,undef,undef,undef,undef,undef,undef,undef,undef,undef,undef,undef,undef,undef,undef,undef,undef,undef,undef,undef],defers:=[] }) (l':=#[false,false,false,false,false,false,false,false,false,false,false,false,false,false,false,false,false,false,false,false,false]) (by kernel_rfl) (by kernel_rfl) ?_
 refine aP (i:=0) (v:=aa d 0) ?_
 refine aP (i:=1) (v:=aa d 0) ?_
 refine aP (i:=2) (v:=aa d 6) ?_
 refine aP (i:=3) (v:=aa d 9) ?_
 refine aP (i:=4) (v:=Value.int .u32 (s.ss:Nat)) ?_
 refine aP (i:=5) (v:=aa d 0) ?_
 refine aP (i:=6) (v:=aa d 0) ?_
 refine aP (i:=7) (v:=aa d 6) ?_
 refine aP (i:=8) (v:=aa d 11) ?_
 refine aP (i:=9) (v:=Value.int .u32 (sn1:Nat)) ?_
 refine aP (i:=10) (v:=aa d 0) ?_
 refine aP (i:=11) (v:=aa d 0) ?_
 refine aP (i:=12) (v:=aa d 6) ?_
 refine aP (i:=14) (v:=aa d 0) ?_
 refine aP (i:=15) (v:=aa d 0) ?_
 refine aP (i:=16) (v:=aa d 6) ?_
 refine aP (i:=17) (v:=aa d 14) ?_
 refine aP (i:=18) (v:=Value.slice a5 P.o cap5) ?_
 refine aC (a':={ tmps:=#[aa d 0,undef,aa w.heap.size 0,aa d 0,aa d 0,aa d 6,aa d 11,Value.int .u32 (s.sn:Nat),Value.int .u32 (sn1:Nat),aa d 0,aa d 6,aa d 11,aa d 0,aa d 0,aa d 6,aa d 11,Value.int .u32 (sn1:Nat),aa d 0,aa d 0,aa d 0,aa d 4,Value.int .u32 (P.n:Nat),Value.bool false,undef,undef,undef,undef,undef,undef,undef,undef,undef,undef,undef,undef,undef,aa d 0,aa d 0,aa d 6,aa d 9,Value.int .u32 (s.ss:Nat),aa d 0,aa d 0,aa d 6,aa d 11,Value.int .u32 (sn1:Nat),aa d 0,aa d 0,aa d 6,undef,aa d 0,aa d 0,aa d 6,aa d 14,Value.slice a5 P.o cap5,undef],defers:=[] }) (l':=#[true,true,true,true,true,true,true,true,true,true,true,true,true,false,true,true,true,true,true,false,false]) (by kernel_rfl) (by kernel_rfl) ?_
 refine cw (i:=13) 109 #[aa d 6] (by kernel_rfl) rfl (by kernel_rfl) (by go_simp) ?_
 refine (hF).mono ?_
 rintro e w6 ⟨rfl,b6⟩
 have HT:w6.cell? ⟨d,9,none⟩=some (Value.int .u32 (s.ss:Nat))∧w6.cell? ⟨d,11,none⟩=some (Value.int .u32 (sn1:Nat))∧w6.cell? ⟨d,14,none⟩=some (Value.slice a5 P.o cap5):=⟨(b6.cell (p:=⟨d,9,none⟩) H2.out.2.1.dlt).trans HS.1,(b6.cell (p:=⟨d,11,none⟩) H2.out.2.1.dlt).trans HS.2.1,(b6.cell (p:=⟨d,14,none⟩) H2.out.2.1.dlt).trans HS.2.2⟩
 have e6:=(b6.block w.heap.size H2.out.2.2.2.1).trans H2.out.2.2.1
 obtain⟨⟨q0,q1,q2,q3,q4,q5⟩,fz⟩:=iS e6
 have f0:=fz 0
 have f1:=fz 1
 have f2:=fz 2
 have f3:=fz 3
 have f4:=fz 4
 have f5:=fz 5
 clear hF fz
 refine⟨_,rfl,HT,?_⟩
 refine aC (a':={ tmps:=#[aa d 0,undef,aa w.heap.size 0,aa d 0,aa d 0,aa d 6,aa d 11,Value.int .u32 (s.sn:Nat),Value.int .u32 (sn1:Nat),aa d 0,aa d 6,aa d 11,aa d 0,aa d 0,aa d 6,aa d 11,Value.int .u32 (sn1:Nat),aa d 0,aa d 0,aa d 0,aa d 4,Value.int .u32 (P.n:Nat),Value.bool false,undef,undef,undef,undef,undef,undef,undef,undef,undef,undef,undef,undef,undef,aa d 0,aa d 0,aa d 6,aa d 9,Value.int .u32 (s.ss:Nat),aa d 0,aa d 0,aa d 6,aa d 11,Value.int .u32 (sn1:Nat),aa d 0,aa d 0,aa d 6,Value.int .i64 (aD { s with sn:=sn1 }:Nat),aa d 0,aa d 0,aa d 6,aa d 14,Value.slice a5 P.o cap5,undef],defers:=[] }) (l':=#[true,true,true,true,true,true,true,true,true,true,true,true,true,true,true,true,true,true,true,false,false]) (by kernel_rfl) (by kernel_rfl) ?_
 refine aP (i:=19) (v:=Value.agg #[Value.int .i64 4,Value.int .u32 0,Value.int .u32 (s.ss:Nat),Value.int .u32 (sn1:Nat),Value.int .i64 (aD { s with sn:=sn1 }:Nat),Value.slice a5 P.o cap5]) ?_
 refine aC (a':={ tmps:=#[aa d 0,undef,aa w.heap.size 0,aa d 0,aa d 0,aa d 6,aa d 11,Value.int .u32 (s.sn:Nat),Value.int .u32 (sn1:Nat),aa d 0,aa d 6,aa d 11,aa d 0,aa d 0,aa d 6,aa d 11,Value.int .u32 (sn1:Nat),aa d 0,aa d 0,aa d 0,aa d 4,Value.int .u32 (P.n:Nat),Value.bool false,undef,undef,undef,undef,undef,undef,undef,undef,undef,undef,undef,undef,undef,aa d 0,aa d 0,aa d 6,aa d 9,Value.int .u32 (s.ss:Nat),aa d 0,aa d 0,aa d 6,aa d 11,Value.int .u32 (sn1:Nat),aa d 0,aa d 0,aa d 6,Value.int .i64 (aD { s with sn:=sn1 }:Nat),aa d 0,aa d 0,aa d 6,aa d 14,Value.slice a5 P.o cap5,Value.agg #[Value.int .i64 4,Value.int .u32 0,Value.int .u32 (s.ss:Nat),Value.int .u32 (sn1:Nat),Value.int .i64 (aD { s with sn:=sn1 }:Nat),Value.slice a5 P.o cap5]],defers:=[] }) (l':=#[true,true,true,true,true,true,true,true,true,true,true,true,true,true,true,true,true,true,true,true,false]) (by kernel_rfl) (by kernel_rfl) ?_
 refine dQ (i:=20) (((((((w6.setCell ⟨w.heap.size,0,none⟩ (Value.int .i64 4)).setCell ⟨w.heap.size,1,none⟩ (Value.int .u32 0)).setCell ⟨w.heap.size,2,none⟩ (Value.int .u32 (s.ss:Nat))).setCell ⟨w.heap.size,3,none⟩ (Value.int .u32 (sn1:Nat))).setCell ⟨w.heap.size,4,none⟩ (Value.int .i64 (aD { s with sn:=sn1 }:Nat))).setCell ⟨w.heap.size,5,none⟩ (Value.slice a5 P.o cap5))) (by kernel_rfl) rfl (by kernel_rfl) (by go_simp) ⟨dn HT.1 hdn _ _ _ _ _ _,dn HT.2.1 hdn _ _ _ _ _ _,dn HT.2.2 hdn _ _ _ _ _ _⟩ ?_
 refine aC (a':={ tmps:=#[aa d 0,undef,aa w.heap.size 0,aa d 0,aa d 0,aa d 6,aa d 11,Value.int .u32 (s.sn:Nat),Value.int .u32 (sn1:Nat),aa d 0,aa d 6,aa d 11,aa d 0,aa d 0,aa d 6,aa d 11,Value.int .u32 (sn1:Nat),aa d 0,aa d 0,aa d 0,aa d 4,Value.int .u32 (P.n:Nat),Value.bool false,undef,undef,undef,undef,undef,undef,undef,undef,undef,undef,undef,undef,undef,aa d 0,aa d 0,aa d 6,aa d 9,Value.int .u32 (s.ss:Nat),aa d 0,aa d 0,aa d 6,aa d 11,Value.int .u32 (sn1:Nat),aa d 0,aa d 0,aa d 6,Value.int .i64 (aD { s with sn:=sn1 }:Nat),aa d 0,aa d 0,aa d 6,aa d 14,Value.slice a5 P.o cap5,Value.agg #[Value.int .i64 4,Value.int .u32 0,Value.int .u32 (s.ss:Nat),Value.int .u32 (sn1:Nat),Value.int .i64 (aD { s with sn:=sn1 }:Nat),Value.slice a5 P.o cap5]],defers:=[] }) (l':=#[true,true,true,true,true,true,true,true,true,true,true,true,true,true,true,true,true,true,true,true,true]) (by kernel_rfl) (by kernel_rfl) ?_
 refine wpAnyH_done (by kernel_rfl) ?_ _
 have e9:=p7 (Value.int .i64 4) (Value.int .u32 0) (Value.int .u32 (s.ss:Nat)) (Value.int .u32 (sn1:Nat)) (Value.int .i64 (aD { s with sn:=sn1 }:Nat)) (Value.slice a5 P.o cap5) e6
 have H9:Hid (_):=kC w.heap.size w6 (Value.int .i64 4) (Value.int .u32 0) (Value.int .u32 (s.ss:Nat)) (Value.int .u32 (sn1:Nat)) (Value.int .i64 (aD { s with sn:=sn1 }:Nat)) (Value.slice a5 P.o cap5)
 clear q0 q1 q2 q3 q4 q5 f0 f1 f2 f3 f4 f5 HS HT
 generalize ((((((w6.setCell ⟨w.heap.size,0,none⟩ (Value.int .i64 4)).setCell ⟨w.heap.size,1,none⟩ (Value.int .u32 0)).setCell ⟨w.heap.size,2,none⟩ (Value.int .u32 (s.ss:Nat))).setCell ⟨w.heap.size,3,none⟩ (Value.int .u32 (sn1:Nat))).setCell ⟨w.heap.size,4,none⟩ (Value.int .i64 (aD { s with sn:=sn1 }:Nat))).setCell ⟨w.heap.size,5,none⟩ (Value.slice a5 P.o cap5))=w9 at *
 have r0:=ab w9 w.heap.size 0 _ _ _ e9
 have r1:=ab w9 w.heap.size 1 _ _ _ e9
 have r2:=ab w9 w.heap.size 2 _ _ _ e9
 have r3:=ab w9 w.heap.size 3 _ _ _ e9
 have r4:=ab w9 w.heap.size 4 _ _ _ e9
 have r5:=ab w9 w.heap.size 5 _ _ _ e9
 clear e9
 go_wp2_with fail
 refine bodyPost_ret (v:=.agg #[Value.int .i64 4,Value.int .u32 0,Value.int .u32 (s.ss:Nat),Value.int .u32 (sn1:Nat),Value.int .i64 (aD { s with sn:=sn1 }:Nat),Value.slice a5 P.o cap5]) (by simp[results,results65,go_sem,r0,r1,r2,r3,r4,r5]) rfl ?_
 have oo:=H9.out
 obtain⟨G2,xd,ed,l2,hU,r5,hfar⟩:=H2.out
 have x6:=xd.newd (Off.of_below b6)
 have hne:∀ y,a5=some y→y.block≠w.heap.size:=fun y hy e=>hU (by rw[← e];exact (hfar y hy).1)
 have hLt:∀ y,a5=some y→y.block<w9.heap.size:=fun y hy=>Nat.lt_of_lt_of_le (x6.ltU _ (hfar y hy).1) oo.size
 refine⟨4,s.ss,sn1,aD { s with sn:=sn1 },a5,P.o,cap5,rfl,s.ap,?_⟩
 have hfl:aD { s with sn:=sn1 }=aD s:=rfl
 exact⟨⟨U,(G2.trans (Gr.below b6)).new_ oo (Nat.le_refl _),⟨B,x6.off oo (fun k hk hm=>by simp at hm;subst hm;exact hU hk)⟩,fun y hy=>⟨(hfar y hy).2,.inl (hfar y hy).1,hLt y hy⟩⟩,(by show cH 4 P.c s.ss sn1 (aD s) P.o s.ap=cH 4 P.c s.ss sn1 (aD { s with sn:=sn1 }) P.o s.ap;rw[hfl]),(r5.below b6).off oo (fun y hy=>by simpa using hne y hy)⟩
theorem oh (d:Nat) (P:Pm) (U:List Nat) (s:Sh) (w:World) (h:HV w d P U s) (hsn:s.sn+1<4294967296) (hL:s.L.length<800000) (h1:s.st≠1) (h2:s.st≠2) (h3:s.st≠3) :
  Calls prog 65 #[aa d 0] w fun e w'=>∃ k ss num fl a len cap bs,e=.returned (.agg #[.int .i64 ((k:Nat):Int),.int .u32 0,.int .u32 ((ss:Nat):Int),.int .u32 ((num:Nat):Int),.int .i64 ((fl:Nat):Int),.slice a len cap])∧Hid (Un U w w' d P (aN P s).1 (aN P s).2 k ss num fl a len cap bs):=by
 by_cases hn:s.sn+1=P.n
 ·exact me d P U s w h hsn hL h1 h2 h3 hn
 ·exact mf d P U s w h hsn hL h1 h2 h3 hn
end Go.Proofs.YtdpahjfekoikiaaGreat
namespace Go.Proofs.YtdpahjfekoikiaaGreat
open Tryz
open Go.RowKit
theorem ow (d:Nat) (P:Pm) (U:List Nat) (s:Sh) (w:World) (h:HV w d P U s) (hsn:s.st=4∨s.st=5→s.sn+1<4294967296) (h5:1≤s.st∧s.st≤5) (hL:s.L.length<800000) :
  Calls prog 34 #[aa d 0] w fun e w'=>∃ k ss num fl a len cap bs,e=.returned (.agg #[.int .i64 ((k:Nat):Int),.int .u32 0,.int .u32 ((ss:Nat):Int),.int .u32 ((num:Nat):Int),.int .i64 ((fl:Nat):Int),.slice a len cap])∧Hid (Un U w w' d P (aN P s).1 (aN P s).2 k ss num fl a len cap bs):=by
 have hb0:Below w.heap.size w (w.alloc (.cells zU 103)):=(Below.refl _ _).alloc (Nat.le_refl _) _
 have hx0:=aB w (.cells zU 103)
 have hs0:w.heap.size < (w.alloc (.cells zU 103)).heap.size:=by simp
 have hU:w.heap.size ∉ U:=fun hm=>by have:=HV.ult h _ hm;omega
 have hv0:=HV.below h hb0
 obtain⟨B,x0⟩:=id hv0
 have hdn:¬ d=w.heap.size:=fun e=>hU (by rw[← e];exact x0.kd.2)
 have hdn':¬ w.heap.size=d:=fun e=>hdn e.symm
 have c8:=x0.c8
 have c9:=x0.c9
 by_cases h123:s.st=1∨s.st=2
 ·have hS:=kB d P U s _ hv0
  have xd:=x0.newd (Off.drew [] _)
  have hSd:=kB d P U s _ ⟨B,xd⟩
  have H0:Hid (_):=And.intro hb0 (And.intro hx0 (And.intro hs0 (And.intro hU hv0)))
  have HS:(w.alloc (.cells zU 103)).drew.cell? ⟨d,9,none⟩=some (.int .u32 (s.ss:Nat)):=xd.c9
  have HD:Hid (_):=x0.dlt
  clear h hb0 hx0 hs0 hU hv0 x0 xd hL hsn h5
  unfold zU at *
  unfold aN
  rcases h123 with h1 | h1
  ·rw[if_pos h1]
   rw[h1]at c8
   clear h1 hSd HS
   go_enter func34,ntmps34
   go_wp2_with fail
   refine hS.mono ?_
   rintro e w2 ⟨g,rfl,h2⟩
   obtain⟨r2,hg,b2⟩:=h2.out
   obtain⟨hb0,hx0,hs0,hU,hv0⟩:=H0.out
   have e2:=(b2.block w.heap.size hs0).trans hx0
   obtain⟨⟨q0,q1,q2,q3,q4,q5⟩,fz⟩:=iS e2
   have f0:=fz 0
   have f1:=fz 1
   have f2:=fz 2
   have f3:=fz 3
   have f4:=fz 4
   have f5:=fz 5
   have H2:Hid (_):=And.intro r2 (And.intro hg (And.intro b2 (And.intro hb0 (And.intro hs0 (And.intro hU hv0)))))
   clear hS h2 r2 hg b2 hb0 hx0 hs0 hU hv0 e2 fz H0 c8 c9
   go_wp2_with fail
   refine bodyPost_ret (v:=.agg #[.int .i64 1,.int .u32 0,.int .u32 0,.int .u32 0,.int .i64 0,.slice (ac g 0) 4 4]) (by simp[results,results34,go_sem,q0,q1,q2,q3,q4,q5]) rfl ?_
   obtain⟨r2,hg,b2,hb0,hs0,hU,hv0⟩:=H2.out
   have oo:=kC w.heap.size w2 (.int .i64 1) (.int .u32 0) (.int .u32 0) (.int .u32 0) (.int .i64 0) (.slice (ac g 0) 4 4)
   exact⟨1,0,0,0,ac g 0,4,4,bZ P,rfl,⟨U,((Gr.below hb0).trans (Gr.below b2)).new_ oo (Nat.le_refl _),HV.off (HV.below hv0 b2) oo (fun k hk hm=>by simp at hm;subst hm;exact hU hk),fun y hy=>by cases hy;have:=HD.out;exact⟨by show g≠d;omega,.inr (by show w.heap.size≤g;omega),Nat.lt_of_lt_of_le hg.2 oo.size⟩⟩,rfl,r2.off oo (fun y hy=>by cases hy;simp;omega)⟩
  ·rw[if_neg (by omega),if_pos h1]
   rw[h1]at c8
   clear h1 hS c9
   go_enter func34,ntmps34
   go_wp2_with fail
   refine wp_region_held_drew (S:=fun w'=>w'.cell? ⟨d,9,none⟩=some (Value.int .u32 (s.ss:Nat))) (by kernel_rfl) HS (fun _=>?_)
   refine aC (a':={ tmps:=#[aa d 0,undef,aa w.heap.size 0,aa d 0,aa d 0,aa d 6,aa d 8,Value.int .i64 ((2:Nat):Int),Value.bool false,Value.bool false,undef,undef,undef,Value.bool true,Value.bool true,undef,undef,undef,undef,undef,undef,undef,undef,undef,undef,undef,undef,undef,undef,undef,undef,undef,undef],defers:=[] }) (l':=#[false,false,false,false,false,false,false,false,false]) (by kernel_rfl) (by kernel_rfl) ?_
   refine aP (i:=0) (v:=aa d 0) ?_
   refine aP (i:=1) (v:=aa d 0) ?_
   refine aP (i:=2) (v:=aa d 6) ?_
   refine aP (i:=3) (v:=aa d 9) ?_
   refine aP (i:=4) (v:=Value.int .u32 (s.ss:Nat)) ?_
   refine aP (i:=5) (v:=aa d 0) ?_
   refine aC (a':={ tmps:=#[aa d 0,undef,aa w.heap.size 0,aa d 0,aa d 0,aa d 6,aa d 8,Value.int .i64 ((2:Nat):Int),Value.bool false,Value.bool false,undef,undef,undef,Value.bool true,Value.bool true,aa d 0,aa d 0,aa d 6,aa d 9,Value.int .u32 (s.ss:Nat),aa d 0,undef,undef,undef,undef,undef,undef,undef,undef,undef,undef,undef,undef],defers:=[] }) (l':=#[true,true,true,true,true,true,false,false,false]) (by kernel_rfl) (by kernel_rfl) ?_
   refine cw (i:=6) 64 #[aa d 0] (by kernel_rfl) rfl (by kernel_rfl) (by go_simp) ?_
   refine (hSd).mono ?_
   rintro e w2 ⟨g,rfl,h2⟩
   have HT:w2.cell? ⟨d,9,none⟩=some (Value.int .u32 (s.ss:Nat)):=(h2.out.2.2.cell (p:=⟨d,9,none⟩) HD.out).trans HS
   have e2:=(h2.out.2.2.block w.heap.size H0.out.2.2.1).trans H0.out.2.1
   obtain⟨⟨q0,q1,q2,q3,q4,q5⟩,fz⟩:=iS e2
   have f0:=fz 0
   have f1:=fz 1
   have f2:=fz 2
   have f3:=fz 3
   have f4:=fz 4
   have f5:=fz 5
   clear hSd fz
   refine⟨_,rfl,HT,?_⟩
   refine aC (a':={ tmps:=#[aa d 0,undef,aa w.heap.size 0,aa d 0,aa d 0,aa d 6,aa d 8,Value.int .i64 ((2:Nat):Int),Value.bool false,Value.bool false,undef,undef,undef,Value.bool true,Value.bool true,aa d 0,aa d 0,aa d 6,aa d 9,Value.int .u32 (s.ss:Nat),aa d 0,Value.slice (ac g 0) 4 4,undef,undef,undef,undef,undef,undef,undef,undef,undef,undef,undef],defers:=[] }) (l':=#[true,true,true,true,true,true,true,false,false]) (by kernel_rfl) (by kernel_rfl) ?_
   refine aP (i:=7) (v:=Value.agg #[Value.int .i64 2,Value.int .u32 0,Value.int .u32 (s.ss:Nat),Value.int .u32 0,Value.int .i64 0,Value.slice (ac g 0) 4 4]) ?_
   refine aC (a':={ tmps:=#[aa d 0,undef,aa w.heap.size 0,aa d 0,aa d 0,aa d 6,aa d 8,Value.int .i64 ((2:Nat):Int),Value.bool false,Value.bool false,undef,undef,undef,Value.bool true,Value.bool true,aa d 0,aa d 0,aa d 6,aa d 9,Value.int .u32 (s.ss:Nat),aa d 0,Value.slice (ac g 0) 4 4,Value.agg #[Value.int .i64 2,Value.int .u32 0,Value.int .u32 (s.ss:Nat),Value.int .u32 0,Value.int .i64 0,Value.slice (ac g 0) 4 4],undef,undef,undef,undef,undef,undef,undef,undef,undef,undef],defers:=[] }) (l':=#[true,true,true,true,true,true,true,true,false]) (by kernel_rfl) (by kernel_rfl) ?_
   refine dQ (i:=8) (((((((w2.setCell ⟨w.heap.size,0,none⟩ (Value.int .i64 2)).setCell ⟨w.heap.size,1,none⟩ (Value.int .u32 0)).setCell ⟨w.heap.size,2,none⟩ (Value.int .u32 (s.ss:Nat))).setCell ⟨w.heap.size,3,none⟩ (Value.int .u32 0)).setCell ⟨w.heap.size,4,none⟩ (Value.int .i64 0)).setCell ⟨w.heap.size,5,none⟩ (Value.slice (ac g 0) 4 4))) (by kernel_rfl) rfl (by kernel_rfl) (by go_simp) (dn HT hdn _ _ _ _ _ _) ?_
   refine aC (a':={ tmps:=#[aa d 0,undef,aa w.heap.size 0,aa d 0,aa d 0,aa d 6,aa d 8,Value.int .i64 ((2:Nat):Int),Value.bool false,Value.bool false,undef,undef,undef,Value.bool true,Value.bool true,aa d 0,aa d 0,aa d 6,aa d 9,Value.int .u32 (s.ss:Nat),aa d 0,Value.slice (ac g 0) 4 4,Value.agg #[Value.int .i64 2,Value.int .u32 0,Value.int .u32 (s.ss:Nat),Value.int .u32 0,Value.int .i64 0,Value.slice (ac g 0) 4 4],undef,undef,undef,undef,undef,undef,undef,undef,undef,undef],defers:=[] }) (l':=#[true,true,true,true,true,true,true,true,true]) (by kernel_rfl) (by kernel_rfl) ?_
   refine wpAnyH_done (by kernel_rfl) ?_ _
   have e9:=p7 (Value.int .i64 2) (Value.int .u32 0) (Value.int .u32 (s.ss:Nat)) (Value.int .u32 0) (Value.int .i64 0) (Value.slice (ac g 0) 4 4) e2
   have H9:Hid (_):=kC w.heap.size w2 (Value.int .i64 2) (Value.int .u32 0) (Value.int .u32 (s.ss:Nat)) (Value.int .u32 0) (Value.int .i64 0) (Value.slice (ac g 0) 4 4)
   clear q0 q1 q2 q3 q4 q5 f0 f1 f2 f3 f4 f5 HS HT
   generalize ((((((w2.setCell ⟨w.heap.size,0,none⟩ (Value.int .i64 2)).setCell ⟨w.heap.size,1,none⟩ (Value.int .u32 0)).setCell ⟨w.heap.size,2,none⟩ (Value.int .u32 (s.ss:Nat))).setCell ⟨w.heap.size,3,none⟩ (Value.int .u32 0)).setCell ⟨w.heap.size,4,none⟩ (Value.int .i64 0)).setCell ⟨w.heap.size,5,none⟩ (Value.slice (ac g 0) 4 4))=w9 at *
   have r0:=ab w9 w.heap.size 0 _ _ _ e9
   have r1:=ab w9 w.heap.size 1 _ _ _ e9
   have r2:=ab w9 w.heap.size 2 _ _ _ e9
   have r3:=ab w9 w.heap.size 3 _ _ _ e9
   have r4:=ab w9 w.heap.size 4 _ _ _ e9
   have r5:=ab w9 w.heap.size 5 _ _ _ e9
   clear e9
   go_wp2_with fail
   refine bodyPost_ret (v:=.agg #[Value.int .i64 2,Value.int .u32 0,Value.int .u32 (s.ss:Nat),Value.int .u32 0,Value.int .i64 0,Value.slice (ac g 0) 4 4]) (by simp[results,results34,go_sem,r0,r1,r2,r3,r4,r5]) rfl ?_
   have oo:=H9.out
   obtain⟨hb0,hx0,hs0,hU,hv0⟩:=H0.out
   obtain⟨r2,hg,b2⟩:=h2.out
   have bd:=(Below.drew (Below.refl (w.alloc (.cells cm 103)).heap.size (w.alloc (.cells cm 103)))).trans b2
   have hg':(w.alloc (.cells cm 103)).heap.size≤g:=hg.1
   exact⟨2,s.ss,0,0,ac g 0,4,4,bZ P,rfl,⟨U,((Gr.below hb0).trans (Gr.below bd)).new_ oo (Nat.le_refl _),HV.off (HV.below hv0 bd) oo (fun k hk hm=>by simp at hm;subst hm;exact hU hk),fun y hy=>by cases hy;have:=HD.out;exact⟨by show g≠d;omega,.inr (by show w.heap.size≤g;omega),Nat.lt_of_lt_of_le hg.2 oo.size⟩⟩,rfl,r2.off oo (fun y hy=>by cases hy;simp;omega)⟩
 ·by_cases h3:s.st=3
  ·have bb:Below w.heap.size w (w.alloc (.cells #[.int .i64 3,.int .u32 0,.int .u32 (s.ss:Nat),.int .u32 0,.int .i64 0,.slice none 0 0] 103)):=(Below.refl _ _).alloc (Nat.le_refl _) _
   have H0:Hid (_):=And.intro bb (HV.below h bb)
   rw[h3]at c8
   unfold aN
   rw[if_neg (by omega),if_neg (by omega),if_pos h3]
   clear h hb0 hx0 hs0 hU hv0 x0 hL hsn h5 h123 h3 bb
   unfold zU at *
   go_enter func34,ntmps34
   go_wp2_with fail
   refine bodyPost_ret (v:=.agg #[.int .i64 3,.int .u32 0,.int .u32 (s.ss:Nat),.int .u32 0,.int .i64 0,.slice none 0 0]) (by simp[results,results34,go_sem]) rfl ?_
   exact⟨3,s.ss,0,0,none,0,0,fun _=>0,rfl,⟨U,Gr.below H0.out.1,H0.out.2,fun y hy=>by cases hy⟩,rfl,bY _ _⟩
  ·have hD:=oh d P U s _ hv0 (hsn (by omega)) hL (by omega) (by omega) h3
   have H0:Hid (_):=And.intro hb0 (And.intro hx0 (And.intro hs0 hU))
   have n1:((s.st:Int) == 1)=false:=by simp;omega
   have n2:((s.st:Int) == 2)=false:=by simp;omega
   have n3:((s.st:Int) == 3)=false:=by simp;omega
   clear h hb0 hx0 hs0 hU hv0 x0 hL hsn h5 h123 h3 c9
   unfold zU at *
   go_enter func34,ntmps34
   go_wp2_with fail
   refine hD.mono ?_
   rintro e w2 ⟨k,ss,num,fl,a,len,cap,bs,rfl,h2⟩
   obtain⟨hb0,hx0,hs0,hU⟩:=H0.out
   obtain⟨⟨U2,g2,v2,far⟩,fm,row⟩:=h2.out
   have F2:=g2.far ⟨hs0,hU⟩
   have e2:=F2.2.trans hx0
   obtain⟨⟨q0,q1,q2,q3,q4,q5⟩,fz⟩:=iS e2
   have f0:=fz 0
   have f1:=fz 1
   have f2:=fz 2
   have f3:=fz 3
   have f4:=fz 4
   have f5:=fz 5
   have hne:∀ y,a=some y→y.block≠w.heap.size:=fun y hy e=>by
    rcases (far y hy).2.1 with hm | hm
    ·rw[e]at hm;exact F2.1.2 hm
    ·omega
   have H2:Hid (_):=And.intro ((Gr.below (U:=U) hb0).trans g2) (And.intro v2 (And.intro fm (And.intro row (And.intro far (And.intro F2.1 (And.intro hne hs0))))))
   clear hD h2 hb0 hx0 hs0 hU g2 v2 fm row far F2 e2 fz hne H0 c8
   go_wp2_with fail
   refine bodyPost_ret (v:=.agg #[.int .i64 (k:Nat),.int .u32 0,.int .u32 (ss:Nat),.int .u32 (num:Nat),.int .i64 (fl:Nat),.slice a len cap]) (by simp[results,results34,go_sem,q0,q1,q2,q3,q4,q5]) rfl ?_
   obtain⟨g2,v2,fm,row,far,F2,hne,hs0⟩:=H2.out
   have oo:=kC w.heap.size w2 (.int .i64 (k:Nat)) (.int .u32 0) (.int .u32 (ss:Nat)) (.int .u32 (num:Nat)) (.int .i64 (fl:Nat)) (.slice a len cap)
   exact⟨k,ss,num,fl,a,len,cap,bs,rfl,⟨U2,g2.new_ oo (Nat.le_refl _),v2.off oo (fun k hk hm=>by simp at hm;subst hm;exact F2.2 hk),fun y hy=>⟨(far y hy).1,(far y hy).2.1.imp id (fun h=>by omega),Nat.lt_of_lt_of_le (far y hy).2.2 oo.size⟩⟩,fm,row.off oo (fun y hy=>by simpa using hne y hy)⟩
theorem om (d:Nat) (P:Pm) (U:List Nat) (s:Sh) (w:World) (h:HV w d P U s) (ho:s.ms<4) (hL:s.L.length<900000) :
  Calls prog 33 #[aa d 0] w fun e w'=>e=.returned (.tuple #[])∧Hid (∃ U',Gr U w U' w'∧HV w' d P U' (br s)):=by
 obtain⟨B,h⟩:=h
 have c8:=h.c8
 have c12:=h.c12
 have c13:=h.c13
 have z13:=h.fz 13
 unfold br
 by_cases h1:s.st=1
 ·rw[if_pos (.inl h1)]
  rw[h1]at c8
  have H:Hid (_):=h
  clear h h1 c12 c13 z13
  go_enter func33,ntmps33
  go_wp2_with fail
  refine bodyPost_ret (results_none rfl _ _ _) rfl ?_
  exact⟨rfl,U,Gr.refl _ _,B,H.out⟩
 ·have n1:((s.st:Int) == 1)=false:=by simp;omega
  have n1':((s.st:Int)=1)=False:=by simp;omega
  by_cases hw:s.wt=false
  ·rw[if_pos (.inr hw)]
   rw[hw]at c12
   have H:Hid (_):=h
   clear h h1 c13 z13
   go_enter func33,ntmps33
   go_wp2_with fail
   refine bodyPost_ret (results_none rfl _ _ _) rfl ?_
   exact⟨rfl,U,Gr.refl _ _,B,H.out⟩
  ·rw[if_neg (by simp[h1,hw])]
   have hw':s.wt=true:=by simpa using hw
   rw[hw']at c12
   obtain⟨m1,hm1⟩:∃ k,s.ms+1=k:=⟨_,rfl⟩
   rw[hm1]
   have o1:=Off.setCell d 13 w (.int .i64 (m1:Int))
   have x1:=h.own o1 (s':={ s with ms:=m1 }) (heap_setCell_same _ _ _ _ _ _ h.dev) rfl rfl rfl rfl
   have g1:Gr U w U (w.setCell ⟨d,13,none⟩ (.int .i64 (m1:Int))):=Gr.same o1 (by simp[h.kd.2])
   have i1:(s.ms:Int)+1=(m1:Int):=by omega
   have i2:IntKind.i64.wrap ((s.ms:Int)+1)=(m1:Int):=by rw[IntKind.wrap_i64];omega
   clear hm1
   by_cases h4:m1<4
   ·rw[if_pos h4]
    have h4':(m1:Int)<4:=by omega
    have H:Hid (_):=And.intro g1 x1
    clear h h1 o1 x1 g1 hL h4 hw hw'
    go_enter func33,ntmps33
    go_wp2_with fail
    refine bodyPost_ret (results_none rfl _ _ _) rfl ?_
    exact⟨rfl,U,H.out.1,B,H.out.2⟩
   ·rw[if_neg h4]
    have h4':¬ (m1:Int)<4:=by omega
    by_cases hr:s.st=4
    ·rw[if_pos hr]
     have hT:=gL d P U { s with ms:=m1 } 131 _ ⟨B,x1⟩ (by omega) (by decide) hL
     rw[hr]at c8
     have H:Hid (_):=g1
     clear h h1 o1 x1 g1 hL h4 hw hw' hr n1 n1'
     go_enter func33,ntmps33
     go_wp2_with (go_at_call 62;refine hT.mono ?_;rintro e w2 ⟨rfl,h2⟩)
     obtain⟨U2,g2,x2⟩:=h2.out
     have hV:=iO d P U2 _ w2 x2
     have H2:Hid (_):=H.out.trans g2
     clear hT h2 g2 x2 c8 c12 c13 z13 H
     go_wp2_with (go_at_call 63;refine hV.mono ?_;rintro e w3 ⟨rfl,h3⟩)
     go_end0
     obtain⟨U3,g3,x3⟩:=h3.out
     exact⟨rfl,U3,H2.out.trans g3,x3⟩
    ·rw[if_neg hr]
     have hr':(((s.st:Nat):Int) == 4)=false:=by simp;omega
     have hV:=iO d P U { s with ms:=m1 } _ ⟨B,x1⟩
     have H:Hid (_):=g1
     clear h h1 o1 x1 g1 hL h4 hr hw hw'
     go_enter func33,ntmps33
     go_wp2_with (go_at_call 63;refine hV.mono ?_;rintro e w3 ⟨rfl,h3⟩)
     go_end0
     obtain⟨U3,g3,x3⟩:=h3.out
     exact⟨rfl,U3,H.out.trans g3,x3⟩
def up (U:List Nat) (w w':World) (d:Nat) (P:Pm) (s:Sh) (f:Fm) (v:Value):Prop:=
 ∃ U',Gr U w U' w'∧HV w' d P U' s∧Fr w' w.heap.size v f∧∀ k,v.ownBlock=some k→k ∉ U'
theorem sy (s:Sh):(br s).L.length≤s.L.length+1:=by
 unfold br
 split
 ·omega
 ·split
  ·show s.L.length≤_;omega
  ·show (if s.st=4 then aQ { s with ms:=s.ms+1 } 131 else { s with ms:=s.ms+1 }).L.length≤_
   split
   ·unfold aQ dR
    split <;> simp
   ·show s.L.length≤_;omega
theorem pZ (s:Sh) (h:1≤s.st∧s.st≤4):1 ≤ (br s).st∧(br s).st≤4∧((br s).st=4→s.st=4∧(br s).sn=s.sn):=by
 unfold br
 split
 ·exact⟨h.1,h.2,fun e=>⟨e,rfl⟩⟩
 ·split
  ·exact⟨h.1,h.2,fun e=>⟨e,rfl⟩⟩
  ·exact⟨by show 1≤1;omega,by show 1≤4;omega,fun e=>by have e:(1:Nat)=4:=e;omega⟩
theorem oz (d:Nat) (P:Pm) (U:List Nat) (s:Sh) (w:World) (h:HV w d P U s) (ho:s.ms<4) (h5:1≤s.st∧s.st≤5) (hsn:s.st=4→s.sn+1<4294967296) (hL:s.L.length<700000) :
  Calls prog 13 #[aa d 0] w fun e w'=>∃ v,e=.returned (.tuple #[v,.int .i64 (gR s)])∧Hid (up U w w' d P (aj P s) (af P s) v):=by
 obtain⟨B,x⟩:=id h
 have c8:=x.c8
 unfold gR aj af
 by_cases hd:s.st=5
 ·rw[if_pos hd,if_pos hd,if_pos hd]
  rw[hd]at c8
  have H:Hid (_):=h
  clear h x ho h5 hsn hL hd
  go_enter func13,ntmps13
  go_wp2_with fail
  go_ret2
  exact⟨_,rfl,U,Gr.refl _ _,H.out,fu _ _ _,fun k hk=>by cases hk⟩
 ·rw[if_neg hd,if_neg hd,if_neg hd]
  have n5:((s.st:Int) == 5)=false:=by simp;omega
  have hM:=om d P U s w h ho (by omega)
  have hq:=pZ s ⟨h5.1,by omega⟩
  have hl:=sy s
  have hN:∀ w2 U2,HV w2 d P U2 (br s)→Calls prog 34 #[aa d 0] w2 fun e w'=>∃ k ss num fl a len cap bs,e=.returned (.agg #[.int .i64 ((k:Nat):Int),.int .u32 0,.int .u32 ((ss:Nat):Int),.int .u32 ((num:Nat):Int),.int .i64 ((fl:Nat):Int),.slice a len cap])∧Hid (Un U2 w2 w' d P (aN P (br s)).1 (aN P (br s)).2 k ss num fl a len cap bs):=by
   intro w2 U2 v2
   refine ow d P U2 (br s) w2 v2 (fun e=>?_) ⟨hq.1,by omega⟩ (by omega)
   rcases e with e | e
   ·rw[(hq.2.2 e).2];exact hsn (hq.2.2 e).1
   ·omega
  generalize aN P (br s)=R at *
  have HN:Hid (_):=hN
  clear h x ho h5 hsn hL hd hq hl hN
  go_enter func13,ntmps13
  go_wp2_with fail
  refine hM.mono ?_
  rintro e w2 ⟨rfl,h2⟩
  obtain⟨U2,g2,v2⟩:=h2.out
  have hN:=HN.out w2 U2 v2
  have H2:Hid (_):=g2
  clear hM h2 g2 v2 HN c8 n5
  go_wp2_with fail
  refine hN.mono ?_
  rintro e w3 ⟨k,ss,num,fl,a,len,cap,bs,rfl,h3⟩
  obtain⟨⟨U3,g3,⟨B3,x3⟩,far⟩,fm,row⟩:=h3.out
  have hb4:∀ ob,Below w3.heap.size w3 (w3.alloc ob):=fun ob=>(Below.refl _ _).alloc (Nat.le_refl _) _
  have hU3:w3.heap.size ∉ U3:=fun hm=>by have:=x3.ltU _ hm;omega
  have hdn:¬ d=w3.heap.size:=fun e=>hU3 (by rw[← e];exact x3.kd.2)
  have hdn':¬ w3.heap.size=d:=fun e=>hdn e.symm
  have c0:∀ ob,(w3.alloc ob).cell? ⟨d,0,none⟩=some (.int .u32 (P.c:Nat)):=fun ob=>(x3.newd (Off.of_below (hb4 ob))).c0
  have c12:∀ ob,(w3.alloc ob).cell? ⟨d,12,none⟩=some (.bool R.1.wt):=fun ob=>(x3.newd (Off.of_below (hb4 ob))).c12
  have z12:∀ ob,(w3.alloc ob).frozen? ⟨d,12,none⟩=false:=fun ob=>(x3.newd (Off.of_below (hb4 ob))).fz 12
  have hX:∀ ob,HX ((w3.alloc ob).setCell ⟨d,12,none⟩ (.bool true)) d P U3 { R.1 with wt:=true } B3∧Gr U3 w3 U3 ((w3.alloc ob).setCell ⟨d,12,none⟩ (.bool true))∧Row8 ((w3.alloc ob).setCell ⟨d,12,none⟩ (.bool true)) a len cap bs:=by
   intro ob
   have x5:=x3.newd (Off.of_below (hb4 ob))
   have o6:=Off.setCell d 12 (w3.alloc ob) (.bool true)
   exact⟨x5.own o6 (s':={ R.1 with wt:=true }) (heap_setCell_same _ _ _ _ _ _ x5.dev) rfl rfl rfl rfl,(Gr.below (hb4 ob)).trans (Gr.same o6 (by simp[x3.kd.2])),(row.below (hb4 ob)).off o6 (fun y hy=>by simpa using (far y hy).1)⟩
  have hE:∀ wx,Row8 wx a len cap bs→Calls prog 35 #[.agg #[.int .i64 (k:Nat),.int .u32 (P.c:Nat),.int .u32 (ss:Nat),.int .u32 (num:Nat),.int .i64 (fl:Nat),.slice a len cap]] wx fun e w'=>∃ v E,e=.returned (.tuple #[v,.int .i64 E])∧Hid (Fr w' wx.heap.size v R.2∧Below wx.heap.size wx w'):=by
   intro wx hr
   rw[fm]
   unfold cH
   by_cases hE:LW k P.c ss num fl len len=0
   ·rw[if_pos hE]
    refine (fT k P.c ss num fl a len cap bs wx hr hE).mono ?_
    rintro e w' ⟨v,rfl,h4⟩
    exact⟨v,0,rfl,h4.out⟩
   ·rw[if_neg hE]
    refine (gJ k P.c ss num fl a len cap wx hE).mono ?_
    rintro e w' ⟨rfl,h4⟩
    exact⟨_,_,rfl,fu _ _ _,h4⟩
  have hEX:=fun ob=>hE _ (hX ob).2.2
  have H3:Hid (_):=And.intro (H2.out.trans g3) hX
  clear hN h3 g3 x3 far fm row hb4 hU3 hX H2 hE
  go_wp2_with fail
  refine (hEX _).mono ?_
  rintro e w5 ⟨v,E,rfl,h5⟩
  have H5:Hid (up U w w5 d P { R.1 with wt:=true } R.2 v):=by
   obtain⟨g3,hX⟩:=H3.out
   obtain⟨x4,g4,_⟩:=hX (.cells #[.int .i64 (k:Nat),.int .u32 (P.c:Nat),.int .u32 (ss:Nat),.int .u32 (num:Nat),.int .i64 (fl:Nat),.slice a len cap] 103)
   obtain⟨f5,b5⟩:=h5.out
   have gg:=g3.trans g4
   exact⟨U3,gg.trans (Gr.below b5),⟨B3,x4.newd (Off.of_below b5)⟩,ak f5 gg.off.size,fun j hj hm=>by have:=x4.ltU j hm;have:=Fr.ge f5 j hj;omega⟩
  clear hEX c0 c12 z12 H3 h5
  go_wp2_with fail
  go_ret2
  exact⟨v,rfl,H5⟩
end Go.Proofs.YtdpahjfekoikiaaGreat
