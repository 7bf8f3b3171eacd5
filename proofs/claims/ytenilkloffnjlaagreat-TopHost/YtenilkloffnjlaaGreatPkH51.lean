/- Part 52: contracts that the proof rests on. -/
import Derived.Deep.DeepCutAuto
import Derived.Deep.CutBlock
import Derived.Deep.RegionWith
import Derived.Deep.QuietTactic
import Derived.BigQuiet
import Derived.Test.YtenilkloffnjlaaGreatPkH50
set_option maxHeartbeats 64000000
set_option maxRecDepth 100000
namespace Go.Proofs.YtenilkloffnjlaaGreat
open Tryz
open Go.RowKit Go.Maps
set_option linter.unusedVariables false
theorem aaJ (w:World):(Instr.makeSlice 33 (.int .i64 2) (.int .i64 2)).run prog w=.ok (.slice (af w.heap.size 0) 2 2) (w.alloc (.cells #[.slice none 0 0,.slice none 0 0] 34)):=by kernel_rfl
theorem aaK (w:World):(Instr.makeSlice 34 (.int .i64 2) (.int .i64 2)).run prog w=.ok (.slice (af w.heap.size 0) 2 2) (w.alloc (.cells #[.int .i64 0,.int .u32 0,.int .u32 0,.int .u32 0,.int .i64 0,.slice none 0 0,.int .i64 0,.int .u32 0,.int .u32 0,.int .u32 0,.int .i64 0,.slice none 0 0] 50)):=by kernel_rfl
def mg0 (s:Nat):Mg:=⟨s,s+1,fun _=>.slice none 0 0,fun _=>[],fun _=>ue0,[]⟩
theorem vV (w:World):MgW (mg0 w.heap.size) ((w.alloc (.cells #[.slice none 0 0,.slice none 0 0] 34)).alloc (.cells #[.int .i64 0,.int .u32 0,.int .u32 0,.int .u32 0,.int .i64 0,.slice none 0 0,.int .i64 0,.int .u32 0,.int .u32 0,.int .u32 0,.int .i64 0,.slice none 0 0] 50))∧∀ x,x ∈ (il (mg0 w.heap.size)).U→w.heap.size≤x∧x < ((w.alloc (.cells #[.slice none 0 0,.slice none 0 0] 34)).alloc (.cells #[.int .i64 0,.int .u32 0,.int .u32 0,.int .u32 0,.int .i64 0,.slice none 0 0,.int .i64 0,.int .u32 0,.int .u32 0,.int .u32 0,.int .i64 0,.slice none 0 0] 50)).heap.size:=by
 have u1:=io w (.cells #[.slice none 0 0,.slice none 0 0] 34)
 have u2:=sz2 w (.cells #[.slice none 0 0,.slice none 0 0] 34) (.cells #[.int .i64 0,.int .u32 0,.int .u32 0,.int .u32 0,.int .i64 0,.slice none 0 0,.int .i64 0,.int .u32 0,.int .u32 0,.int .u32 0,.int .i64 0,.slice none 0 0] 50)
 have n0:((w.alloc (.cells #[.slice none 0 0,.slice none 0 0] 34)).alloc (.cells #[.int .i64 0,.int .u32 0,.int .u32 0,.int .u32 0,.int .i64 0,.slice none 0 0,.int .i64 0,.int .u32 0,.int .u32 0,.int .u32 0,.int .i64 0,.slice none 0 0] 50)).heap[w.heap.size]?=some (.cells #[.slice none 0 0,.slice none 0 0] 34 (0,0)):=(Below.heap_alloc _ _ _ (by rw[u1];omega)).trans (aB _ _)
 have n1:((w.alloc (.cells #[.slice none 0 0,.slice none 0 0] 34)).alloc (.cells #[.int .i64 0,.int .u32 0,.int .u32 0,.int .u32 0,.int .i64 0,.slice none 0 0,.int .i64 0,.int .u32 0,.int .u32 0,.int .u32 0,.int .i64 0,.slice none 0 0] 50)).heap[w.heap.size+1]?=some (.cells #[.int .i64 0,.int .u32 0,.int .u32 0,.int .u32 0,.int .i64 0,.slice none 0 0,.int .i64 0,.int .u32 0,.int .u32 0,.int .u32 0,.int .i64 0,.slice none 0 0] 50 (0,0)):=by rw[← u1];exact aB _ _
 refine⟨⟨n0,n1,fun k hk=>⟨rfl,.inl ⟨rfl,rfl⟩⟩,fun k hk u hu=>(by cases hu),fun k hk=>⟨⟨fun i hi=>absurd hi (Nat.not_lt_zero _),fun _=>⟨rfl,rfl⟩,fun x hx=>(by cases hx),Nat.le_refl _⟩,fun y hy=>(by cases hy)⟩,(by show w.heap.size≠w.heap.size+1;omega),fun k hk q hq=>(by cases hq),fun q hq=>(by cases hq),fun q hq=>(by cases hq)⟩,fun x hx=>?_⟩
 have hx:x=w.heap.size∨x=w.heap.size+1:=by
  have:x ∈ (mg0 w.heap.size).U:=hx
  simpa [Mg.U,mg0,Value.ownBlock] using this
 rw[u2]
 omega
theorem vJ (s:Nat):Jvq (sN 2 50 rE rE) (fun k=>((mg0 s).e k).map Ue.y) (fun k=>((mg0 s).z k).y):=⟨ace _ _ _ _,fun F hF=>(by cases hF),rfl,rfl,rfl,fun _ _ _=>rfl,fun j hj=>⟨fun F hF=>(by cases hF),fun y=>(by cases y),Lq.idle (Nat.zero_le _) (.inl rfl),fun _ _ y=>(by cases y)⟩⟩
structure Sdu (w w9:World) (ok:Bool) (u:Ue) (m:Mv) (S:Ws) (M:Mg):Prop where
 row:ok=true→Row8 w u.a u.l u.p u.b∧∀ y,u.a=some y→w9.heap.size≤y.block
 yes:ok=true→m.k≠2→u.k=20→m.c.toNat<2∧m.c=((m.c.toNat:Nat):Int)∧Jvq S (aG (fun k=>(M.e k).map Ue.y) m.c.toNat ((M.e m.c.toNat).map Ue.y ++ [u.y])) (lp m (fun k=>(M.z k).y))
 no:(ok=false∨¬ (m.k≠2∧u.k=20))→Jvq S (fun k=>(M.e k).map Ue.y) (lp m (fun k=>(M.z k).y))
theorem kt {w w':World} {g:Nat} (e:w'.heap[g]?=w.heap[g]?) (k:Nat) {v:Value} (h:w.cell? ⟨g,k,none⟩=some v):w'.cell? ⟨g,k,none⟩=some v:=(World.cell?_of_block (a:=⟨g,k,none⟩) e).trans h
theorem abj {w w':World} {g o:Nat} {l:List Value} (h:w.rangeAt g o l) (b:Below w.heap.size w w'):w'.rangeAt g o l:=fun j v hv=>ag (h j v hv) b
theorem yN {w:World} {B t n c:Nat} {a:Option Addr} {xs:List Value} (h:w.ownsRow B t 1 (.slice a n c) n xs):∀ y,a=some y→B≤y.block:=fun y hy=>by
 subst hy
 rcases h.2 with ⟨e,_⟩ | ⟨g,cap,cur,e,hg,_⟩
 ·cases e
 ·simp only[Value.slice.injEq,Option.some.injEq]at e
  rw[e.1]
  exact hg
theorem t6 {w:World} {B e n cap:Nat} {a:Option Addr} {bs:Nat→Nat} (h:w.ownsRow B e 1 (.slice a n cap) n (CB bs n)) (hb:∀ i,i<n→bs i<256):Row8 w a n cap bs:=by
 obtain⟨a1,c,e,r⟩:=aY h hb
 simp only[Value.slice.injEq,true_and]at e
 obtain⟨rfl,rfl⟩:=e
 exact r
theorem aa2 {e:Nat→Nat} {w0 w:World} {t:Nat→Thing} {L:Pw} {S:Ws} {c1:Nat} (h:PWn e w0 t L w S) (hk:c1<S.n):Calls prog 13 #[ac L.x 0,.int .i64 ((c1:Nat):Int)] w fun r w'=>∃ A B:Array Value,r=.returned (.tuple #[.agg A,.agg B])∧A.size=9∧A.all (·.oneCell')=true∧B.size=9∧B.all (·.oneCell')=true∧Hid (∃ ra rc qa qc,A=#[.int .i64 ((S.hs c1).st:Nat),.int .u32 ((S.hs c1).ss:Nat),.int .u32 ((S.hs c1).nm:Nat),.int .u32 ((S.hs c1).sn:Nat),.int .i64 ((S.hs c1).dc:Nat),.int .i64 (S.hs c1).v.lat,.bool (au (S.hs c1).v),.bool (aE (S.hs c1).v),.slice ra (S.PH c1).i rc]∧B=#[.int .i64 ((S.ds c1).st:Nat),.int .u32 ((S.ds c1).ss:Nat),.int .u32 ((S.ds c1).nm:Nat),.int .u32 ((S.ds c1).sn:Nat),.int .i64 ((S.ds c1).dc:Nat),.int .i64 (S.ds c1).v.lat,.bool (au (S.ds c1).v),.bool (aE (S.ds c1).v),.slice qa (S.PD c1).o qc]∧Row8 w' ra (S.PH c1).i rc (co (S.hs c1).v)∧Row8 w' qa (S.PD c1).o qc (co (S.ds c1).v)∧Below w.heap.size w w'∧(∀ y,ra=some y→0 < (S.PH c1).i→w.heap.size≤y.block)∧(∀ y,qa=some y→0 < (S.PD c1).o→w.heap.size≤y.block)∧∀ y z,ra=some y→qa=some z→0 < (S.PH c1).i→0 < (S.PD c1).o→y.block≠z.block):=by
 refine (acp L.x c1 (S.PH c1).i (S.PD c1).o _ _ _ _ _ _ _ _ _ _ _ _ _ _ _ _ (co (S.hs c1).v) (co (S.ds c1).v) w (fun w1 b1=>aa8 (h.below b1) hk) (fun w1 b1=>aa9 (h.below b1) hk)).mono ?_
 rintro r w' ⟨ra,rc,qa,qc,rfl,H⟩
 exact⟨_,_,rfl,rfl,by kernel_rfl,rfl,by kernel_rfl,ra,rc,qa,qc,rfl,rfl,H.out⟩
theorem qv (a:Option Addr) (len cap:Nat) (w:World) (O:OpRow w a len):Calls prog 4 #[.slice a len cap] w fun r w'=>r=.returned (.bool true)∧Below w.heap.size w w':=by
 have HO:Hid (OpRow w a len):=O
 have hlen:=O.1
 clear O
 have hNe:=ab8 w
 go_enter func4,ntmps4
 go_wp2_with fail
 refine hNe.mono ?_
 rintro r w1 ⟨g0,c0,g1,c1,rfl,H1⟩
 clear hNe
 have hN:Calls prog 7 #[.agg #[.slice (af g0 0) 2 c0,.slice (af g1 0) 2 c1,.int .u32 50]] w1 fun r w'=>∃ L:Pw,r=.returned (.tuple #[ac L.x 0,.int .i64 0])∧Hid (PW ev w1 w' (gw L) L∧L.S=sN 2 50 rE rE):=aai rE rE g0 0 c0 g1 0 c1 2 50 sJ sJ (by decide) (by decide) (by decide) (by decide) H1.out.1 H1.out.2.1 w1 H1.out.2.2.1 H1.out.2.2.2.1 yT
 have HB1:Hid (Below w.heap.size w w1):=H1.out.2.2.2.2
 clear H1
 go_wp2_with fail
 refine hN.mono ?_
 rintro r w2 ⟨L,rfl,H2⟩
 clear hN
 obtain⟨X,hX⟩:∃ y,L.x=y:=⟨_,rfl⟩
 rw[hX]
 have HX:Hid (L.x=X):=hX
 clear hX
 have hAw:=uI w2
 go_wp2_with fail
 refine hAw.mono ?_
 rintro r w3 ⟨rfl,b3⟩
 clear hAw
 have hp3:PWn ev w1 (gw L) L w3 (sN 2 50 rE rE):=by
  have hp:=H2.out.1.n
  rw[H2.out.2]at hp
  exact hp.below b3
 clear b3 H2
 obtain⟨sB,hsB⟩:∃ y,w3.heap.size=y:=⟨_,rfl⟩
 have hSta:=vV w3
 have HS0:Hid (∃ M S,M.s=sB∧M.l=sB+1∧(∀ j,j<2→(M.e j).length≤0)∧Jvq S (fun k=>(M.e k).map Ue.y) (fun k=>(M.z k).y)∧PWn ev w1 (aJ (gw L) (2*0+1) (il M)) L ((w3.alloc (.cells #[.slice none 0 0,.slice none 0 0] 34)).alloc (.cells #[.int .i64 0,.int .u32 0,.int .u32 0,.int .u32 0,.int .i64 0,.slice none 0 0,.int .i64 0,.int .u32 0,.int .u32 0,.int .u32 0,.int .i64 0,.slice none 0 0] 50)) S):=⟨_,_,hsB,(by show w3.heap.size+1=sB+1;rw[hsB]),(fun _ _=>Nat.le_refl _),vJ w3.heap.size,hp3.putX (i:=2*0+1) (aF (aF (Below.refl _ _) _) _) (fun j=>by unfold ev;omega) (il (mg0 w3.heap.size)) hSta.1 hSta.2⟩
 clear hp3 hSta
 have u1:=io w3 (.cells #[.slice none 0 0,.slice none 0 0] 34)
 rw[hsB]at u1
 have hm1:=aaJ
 have hm2:=aaK
 have HU1:Hid (w3.heap.size=sB∧(w3.alloc (.cells #[.slice none 0 0,.slice none 0 0] 34)).heap.size=sB+1):=⟨hsB,u1⟩
 go_wp2_with fail
 clear hm1 hm2
 go_loopw [7,8,9,10,11,12,13,14,15,16,18,19,33,34,35,36,37,38,39,40,41,42,43,44,45,46,47,48,49,50,51,52,53,54,55,56,57,58,59,60,61,62,63,64,65,66,67,68,69,70,71,72,73,74,75,76,77,78,79,80,81,82,83,84,85,86,87,88,89,90,91,92,93,94,95,96,97,98,99,100,101,102,103,104,105,106,107,108,109,110,111,112,113,114,115,116,117,118,119,120,121,122,123,124,125,126,127,128,129,130,131,132,133,134,135,136,137,138,139,140,141,142,143,144,145,146,147,148,149,150,151,152,153,154,155,156,157,158,159,160,161,162,163,164,165,166,167,168,169,170,171,172,173,174,175,176,177,178,179,180,181,182,183,184,185,186,187,188,189,190,191,192,193,194,195,196,197,198,199,200,201,202,203,204,205,206,207,208,209,210,211,212,213,214] (fun i _ _ _ _ _ _ _ _ _ _ _ _ _ _ _ _ _ _ _ _ _ _ _ _ _ _ _ _ _ _ _ _ _ _ _ _ _ _ _ _ _ _ _ _ _ _ _ _ _ _ _ _ _ _ _ _ _ _ _ _ _ _ _ _ _ _ _ _ _ _ _ _ _ _ _ _ _ _ _ _ _ _ _ _ _ _ _ _ _ _ _ _ _ _ _ _ _ _ _ _ _ _ _ _ _ _ _ _ _ _ _ _ _ _ _ _ _ _ _ _ _ _ _ _ _ _ _ _ _ _ _ _ _ _ _ _ _ _ _ _ _ _ _ _ _ _ _ _ _ _ _ _ _ _ _ _ _ _ _ _ _ _ _ _ _ _ _ _ _ _ _ _ _ _ _ _ _ _ _ _ _ _ _ _ _ _ _ _ _ _ _ _ _ wr=>∃ k:Nat,k≤len∧k≤300∧i=.int .i64 ((k:Nat):Int)∧Hid (∃ M S,M.s=sB∧M.l=sB+1∧(∀ j,j<2→(M.e j).length≤k)∧Jvq S (fun k=>(M.e k).map Ue.y) (fun k=>(M.z k).y)∧PWn ev w1 (aJ (gw L) (2*0+1) (il M)) L wr S)) (fun i _ _ _ _ _ _ _ _ _ _ _ _ _ _ _ _ _ _ _ _ _ _ _ _ _ _ _ _ _ _ _ _ _ _ _ _ _ _ _ _ _ _ _ _ _ _ _ _ _ _ _ _ _ _ _ _ _ _ _ _ _ _ _ _ _ _ _ _ _ _ _ _ _ _ _ _ _ _ _ _ _ _ _ _ _ _ _ _ _ _ _ _ _ _ _ _ _ _ _ _ _ _ _ _ _ _ _ _ _ _ _ _ _ _ _ _ _ _ _ _ _ _ _ _ _ _ _ _ _ _ _ _ _ _ _ _ _ _ _ _ _ _ _ _ _ _ _ _ _ _ _ _ _ _ _ _ _ _ _ _ _ _ _ _ _ _ _ _ _ _ _ _ _ _ _ _ _ _ _ _ _ _ _ _ _ _ _ _ _ _ _ _ _ _=>len-cQ i)
 case atStart=>exact⟨0,by omega,by omega,rfl,HS0⟩
 case round=>
  obtain⟨k,hk,hk3,rfl,HI⟩:=hrel
  clear HS0
  by_cases hlt:k<len
  ·have hlt':((k:Nat):Int) < ((len:Nat):Int):=by omega
   by_cases h3:k<300
   ·have h3':((k:Nat):Int)<300:=by omega
    obtain⟨b,off,rfl,hb,hm⟩:=HO.out.2 (by omega)
    obtain⟨m,d,ok,R,hl,hcl⟩:=hm k hlt
    obtain⟨M,S,hMs,hMl,hMn,g,hp⟩:=HI.out
    have hbr:Below w.heap.size w wr:=by
     obtain⟨t9,L9,h9,_⟩:=hp
     exact HB1.out.trans (h9.1.bel.mono HB1.out.size)
    have p0:wr.cell? ⟨b,off+k*9,none⟩=some (.int .i64 m.k):=ag (hcl 0 _ rfl) hbr
    have p1:wr.cell? ⟨b,off+k*9+1,none⟩=some (.int .i64 m.c):=ag (hcl 1 _ rfl) hbr
    have p2:wr.cell? ⟨b,off+k*9+2,none⟩=some (.int .i64 m.s):=ag (hcl 2 _ rfl) hbr
    have p3:wr.cell? ⟨b,off+k*9+3,none⟩=some (.int .i64 m.f):=ag (hcl 3 _ rfl) hbr
    have p4:wr.cell? ⟨b,off+k*9+4,none⟩=some (.int .i64 m.a):=ag (hcl 4 _ rfl) hbr
    have p5:wr.cell? ⟨b,off+k*9+5,none⟩=some (.int .u32 (m.w:Nat)):=ag (hcl 5 _ rfl) hbr
    have p6:wr.cell? ⟨b,off+k*9+6,none⟩=some (.int .i64 m.n):=ag (hcl 6 _ rfl) hbr
    have p7:wr.cell? ⟨b,off+k*9+7,none⟩=some (.bool m.h):=ag (hcl 7 _ rfl) hbr
    have p8:wr.cell? ⟨b,off+k*9+8,none⟩=some (.slice d.a m.l d.c):=ag (hcl 8 _ rfl) hbr
    have hCo:=aa1 m d.a d.c wr (R.below hbr) hl
    have HG:Hid (_):=And.intro g (And.intro ok hl)
    have HKn:Hid (S.Kn):=hp.kn
    have HP:Hid (PWn ev w1 (aJ (gw L) (2*0+1) (il M)) L wr S):=hp
    have HM:Hid (M.s=sB∧M.l=sB+1∧∀ j,j<2→(M.e j).length≤k):=⟨hMs,hMl,hMn⟩
    clear hm R hcl g hp hbr ok hl hb HI hMs hMl hMn
    go_wp2_with fail
    refine hCo.mono ?_
    rintro r w6 ⟨d6,c6,rfl,H6⟩
    clear hCo p0 p1 p2 p3 p4 p5 p6 p7 p8
    have kM:=aB w6 (.cells (aj m m.c d6 c6) 39)
    have bM:=aF (Below.refl _ w6) (.cells (aj m m.c d6 c6) 39)
    obtain⟨w7,hw7⟩:∃ y,w6.alloc (.cells (aj m m.c d6 c6) 39)=y:=⟨_,rfl⟩
    rw[hw7]at kM bM
    have hp7:=(HP.out.below H6.out.2.1).layL bM (i:=2*1+1) (fun j=>by unfold ev;omega) (l:=[(w6.heap.size,.cells (aj m m.c d6 c6) 39 (0,0))]) (fun p hp=>by
     simp only[List.mem_cons,List.not_mem_nil,or_false]at hp
     subst hp
     exact kM) (fun p hp=>by
     simp only[List.mem_cons,List.not_mem_nil,or_false]at hp
     subst hp
     exact Nat.le_refl _)
    obtain⟨pm,hpm⟩:∃ y,w6.heap.size=y:=⟨_,rfl⟩
    have HPM:Hid (∀ q,q ∈ M.U→q<pm):=fun q hq=>by
     have h1:MgW M wr:=HP.out.getT (i:=2*0+1) (x:=il M) (fun j=>by unfold ev;omega) (al _ _ _)
     have h2:=h1.lt hq
     have h3:=H6.out.2.1.size
     omega
    rw[hpm]at kM hp7
    have q0:w7.cell? ⟨pm,0,none⟩=some (.int .i64 m.k):=ae w7 pm 0 _ _ _ kM
    have q1:w7.cell? ⟨pm,1,none⟩=some (.int .i64 m.c):=ae w7 pm 1 _ _ _ kM
    have q2:w7.cell? ⟨pm,2,none⟩=some (.int .i64 m.s):=ae w7 pm 2 _ _ _ kM
    have q3:w7.cell? ⟨pm,3,none⟩=some (.int .i64 m.f):=ae w7 pm 3 _ _ _ kM
    have q4:w7.cell? ⟨pm,4,none⟩=some (.int .i64 m.a):=ae w7 pm 4 _ _ _ kM
    have q5:w7.cell? ⟨pm,5,none⟩=some (.int .u32 (m.w:Nat)):=ae w7 pm 5 _ _ _ kM
    have q6:w7.cell? ⟨pm,6,none⟩=some (.int .i64 m.n):=ae w7 pm 6 _ _ _ kM
    have q7:w7.cell? ⟨pm,7,none⟩=some (.bool m.h):=ae w7 pm 7 _ _ _ kM
    have q8:w7.cell? ⟨pm,8,none⟩=some (.slice d6 m.l c6):=ae w7 pm 8 _ _ _ kM
    have F3:Fre ev (aJ (aJ (gw L) (2*0+1) (il M)) (2*1+1) (fC [(pm,.cells (aj m m.c d6 c6) 39 (0,0))])) 2:=((jY L).put _).put _
    have hPl:=aa7 (i:=2) m d6 c6 hp7 F3 HG.out.1.I HG.out.2.1 (by rw[HG.out.1.n];decide) (H6.out.1.below bM) (fun y hy h0 e=>by
     have h1:=H6.out.2.2 y hy h0
     have h2:L.x<wr.heap.size:=by
      obtain⟨t9,L9,h9,_,hx9,_⟩:=HP.out
      rw[← hx9.x]
      exact (h9.2.wb h9.1).lt _ (by simp[Wc.U,Pw.core])
     omega) HG.out.2.2
    rw[HX.out]at hPl
    clear kM bM hp7 F3 H6
    go_wp2_with fail
    refine hPl.mono ?_
    rintro r w8 ⟨A,E,rfl,hsA,hoA,H8⟩
    clear hPl hw7 hpm q0 q1 q2 q3 q4 q5 q6 q7 q8
    obtain⟨w9,hst1,hrg1,hbl1⟩:=lu w8 hsA hoA
    obtain⟨rb,hrb⟩:∃ y,w8.heap.size=y:=⟨_,rfl⟩
    rw[hrb]at hrg1 hst1
    have hp8:=H8.out.2.1
    have kM8:=hp8.box (q:=2*1+1) (fun j=>by unfold ev;omega) (al _ _ _) _ (List.mem_cons_self ..)
    have hp8':PWn ev w1 (aJ (gw L) (2*0+1) (il M)) L w8 (S.play m).S:=hp8.drop (fun j=>by unfold ev;omega) (((jY L).put _) 1 (Nat.le_refl _)).2
    have hp9:=hp8'.below hbl1
    by_cases hE:E=0
    ·have hb0:S.bad m=0:=by rw[← H8.out.1];exact hE
     have hEb:(E != 0)=false:=by simpa using hE
     obtain⟨a9,a10,hV,dV,ah,ch,ad,cd,eH,eD,aH,aD,rH,rD⟩:=H8.out.2.2 hb0
     have kM9:=(hbl1.block pm (Array.getElem?_eq_some_iff.1 kM8).1).trans kM8
     have j1:=HG.out.1.next HKn.out HG.out.2.1.w hb0
     have hcn:m.c.toNat<2∧m.c=((m.c.toNat:Nat):Int):=by
      have lw:=Ws.Law.of hb0
      have h1:m.c.toNat<S.n:=lw.kn
      rw[HG.out.1.n]at h1
      have h2:m.c=((m.c.toNat:Nat):Int):=lw.c
      exact⟨h1,by omega⟩
     have HZ:Hid (w9.heap[pm]?=some (.cells (aj m m.c d6 c6) 39 (0,0))):=kM9
     have hir:(prog.info? 45).map (·.size)=some A.size:=by rw[hsA];kernel_rfl
     have HRx:Hid (w9.rangeAt rb 0 A.toList):=hrg1
     have HA:Hid (A.toList[10]?=some (.int .i64 (S.play m).i)):=a10
     have HP9:Hid (PWn ev w1 (aJ (gw L) (2*0+1) (il M)) L w9 (S.play m).S):=hp9
     have HJ:Hid (((S.play m).i = -1∧(S.play m).S.bg=S.bg∧Jvq (S.play m).S (fun k=>(M.e k).map Ue.y) (lp m (fun k=>(M.z k).y)))∨∃ F:Fm,(S.play m).i=((S.bg.length:Nat):Int)∧(S.play m).S.bg=S.bg ++ [F]∧DE F.2 F.1=0∧(m.k≠2→F.2 0=20→Jvq (S.play m).S (aG (fun k=>(M.e k).map Ue.y) m.c.toNat ((M.e m.c.toNat).map Ue.y ++ [uF F])) (lp m (fun k=>(M.z k).y)))∧(¬ (m.k≠2∧F.2 0=20)→Jvq (S.play m).S (fun k=>(M.e k).map Ue.y) (lp m (fun k=>(M.z k).y)))):=j1
     have HC:Hid (_):=hcn
     obtain⟨S2,hS2⟩:∃ y,(S.play m).S=y:=⟨_,rfl⟩
     rw[hS2]at HP9 HJ
     subst hE
     clear H8 hp8 hp8' kM8 kM9 a9 a10 aH aD rH rD eH eD hrg1 hbl1 hb0 j1 hp9 hS2 hcn
     go_upto_region 12 with fail
     go_cut [11,12] (fun p v wx=>Hid (∃ (pu:Nat) (ok:Bool) (u:Ue),p=ac pu 0∧v=.bool ok∧Below w9.heap.size w9 wx∧w9.heap.size≤pu∧wx.heap[pu]?=some (.cells u.cs.toArray 50 (0,0))∧Sdu wx w9 ok u m S2 M))
     case first=>
      as_aux_lemma=>
       rcases HJ.out with ⟨hi,_,jn⟩ | ⟨F,hi,hbg,hDE,jy,jn⟩
       ·have hSn:=rG X A (-1) w9 (by decide) (by rw[HA.out,hi])
        have HJn:Hid (_):=jn
        clear jn hi
        go_wp2_with (refine fA (by kernel_rfl) 45 (.tmp 9) rfl rb 0 rfl A _ HRx.out underlying45 rfl hir ?_)
        refine hSn.mono ?_
        rintro r w10 ⟨rfl,b10⟩
        clear hSn
        have kU:=aB w10 (.cells bH 50)
        have bU:=aF (Below.refl _ w10) (.cells bH 50)
        have HT:Hid (Below w9.heap.size w9 (w10.alloc (.cells bH 50))∧w9.heap.size≤w10.heap.size∧(w10.alloc (.cells bH 50)).heap[w10.heap.size]?=some (.cells (Ue.cs ue0).toArray 50 (0,0))∧Sdu (w10.alloc (.cells bH 50)) w9 false ue0 m S2 M):=⟨b10.trans (bU.mono b10.size),b10.size,kU,⟨fun y=>(by cases y),fun y=>(by cases y),fun _=>HJn.out⟩⟩
        clear kU bU
        go_wp2_with fail
        go_meet
        case rel=>exact⟨w10.heap.size,false,ue0,rfl,rfl,HT.out⟩
       ·have hSn:=rI (F:=F) (n:=S.bg.length) A HP9.out (by rw[hbg];simp) (by rw[hbg];simp) hDE (by rw[HA.out,hi])
        rw[HX.out]at hSn
        have hfb:∀ i,i<F.1-19→F.2 (15+i)<256:=fun i h=>(HP9.out.kn.fb F (by rw[hbg];simp)).2 (15+i) (by omega)
        have HJn:Hid (_):=And.intro hfb (And.intro jy jn)
        clear jn jy hi hbg hDE hfb
        go_wp2_with (refine fA (by kernel_rfl) 45 (.tmp 9) rfl rb 0 rfl A _ HRx.out underlying45 rfl hir ?_)
        refine hSn.mono ?_
        rintro r w10 ⟨ua,uc,rfl,H10⟩
        clear hSn
        have b10:=H10.out.2
        have HW:Hid (_):=H10.out.1
        clear H10
        have kU:=aB w10 (.cells #[.int .i64 (F.2 0:Nat),.int .u32 (aC F.2 1:Nat),.int .u32 (aC F.2 5:Nat),.int .u32 (aC F.2 9:Nat),.int .i64 (F.2 13:Nat),.slice ua (F.1-19) uc] 50)
        have bU:=aF (Below.refl _ w10) (.cells #[.int .i64 (F.2 0:Nat),.int .u32 (aC F.2 1:Nat),.int .u32 (aC F.2 5:Nat),.int .u32 (aC F.2 9:Nat),.int .i64 (F.2 13:Nat),.slice ua (F.1-19) uc] 50)
        have HT:Hid (Below w9.heap.size w9 (w10.alloc (.cells #[.int .i64 (F.2 0:Nat),.int .u32 (aC F.2 1:Nat),.int .u32 (aC F.2 5:Nat),.int .u32 (aC F.2 9:Nat),.int .i64 (F.2 13:Nat),.slice ua (F.1-19) uc] 50))∧w9.heap.size≤w10.heap.size∧(w10.alloc (.cells #[.int .i64 (F.2 0:Nat),.int .u32 (aC F.2 1:Nat),.int .u32 (aC F.2 5:Nat),.int .u32 (aC F.2 9:Nat),.int .i64 (F.2 13:Nat),.slice ua (F.1-19) uc] 50)).heap[w10.heap.size]?=some (.cells (Ue.cs ⟨(F.2 0:Nat),aC F.2 1,aC F.2 5,aC F.2 9,(F.2 13:Nat),ua,F.1-19,uc,fun i=>F.2 (15+i)⟩).toArray 50 (0,0))∧Sdu (w10.alloc (.cells #[.int .i64 (F.2 0:Nat),.int .u32 (aC F.2 1:Nat),.int .u32 (aC F.2 5:Nat),.int .u32 (aC F.2 9:Nat),.int .i64 (F.2 13:Nat),.slice ua (F.1-19) uc] 50)) w9 true ⟨(F.2 0:Nat),aC F.2 1,aC F.2 5,aC F.2 9,(F.2 13:Nat),ua,F.1-19,uc,fun i=>F.2 (15+i)⟩ m S2 M):=⟨b10.trans (bU.mono b10.size),b10.size,kU,⟨fun _=>⟨(t6 HW.out HJn.out.1).below bU,yN HW.out⟩,fun _ h2 h4=>⟨HC.out.1,HC.out.2,HJn.out.2.1 h2 (by have h4:((F.2 0:Nat):Int)=20:=h4;omega)⟩,fun y=>HJn.out.2.2 (fun z=>(by rcases y with y | y;exact absurd y (by decide);exact y ⟨z.1,(by show ((F.2 0:Nat):Int)=20;omega)⟩))⟩⟩
        clear kU bU
        go_wp2_with fail
        go_meet
        case rel=>exact⟨w10.heap.size,true,⟨(F.2 0:Nat),aC F.2 1,aC F.2 5,aC F.2 9,(F.2 13:Nat),ua,F.1-19,uc,fun i=>F.2 (15+i)⟩,rfl,rfl,HT.out⟩
     case rest=>
      obtain⟨pu,okb,u,rfl,rfl,bX,hpu,ku,sd⟩:=hcut.out
      clear hcut
      obtain⟨wX,hwX⟩:∃ y,wc=y:=⟨_,rfl⟩
      rw[hwX]at bX ku sd ⊢
      have HBX:Hid (Below w9.heap.size w9 wX):=bX
      have HU:Hid (w9.heap.size≤pu∧wX.heap[pu]?=some (.cells u.cs.toArray 50 (0,0))∧Sdu wX w9 okb u m S2 M):=⟨hpu,ku,sd⟩
      have HZX:Hid (wX.heap[pm]?=some (.cells (aj m m.c d6 c6) 39 (0,0))):=(bX.block pm (Array.getElem?_eq_some_iff.1 HZ.out).1).trans HZ.out
      clear bX hpu ku sd hwX hir
      obtain⟨RS,hRS⟩:∃ y:Bool,(okb && decide (m.k≠2) && decide (u.k=20))=y:=⟨_,rfl⟩
      have HRS:Hid (_=RS):=hRS
      clear hRS
      have qk:wX.cell? ⟨pm,0,none⟩=some (.int .i64 m.k):=ae wX pm 0 _ _ _ HZX.out
      have uk:wX.cell? ⟨pu,0,none⟩=some (.int .i64 u.k):=ae wX pu 0 _ _ _ HU.out.2.1
      go_upto_region 13 with fail
      go_cut [72] (fun v wx=>Hid (v=.bool RS∧wx=wX))
      case first=>
       as_aux_lemma=>
        by_cases h2:m.k=2
        ·have e:RS=false:=by rw[← HRS.out];simp[h2]
         rw[h2]at qk
         clear h2
         cases okb
         ·go_wp2_with fail
          go_meet
          case rel=>exact⟨by rw[e],rfl⟩
         ·go_wp2_with fail
          go_meet
          case rel=>exact⟨by rw[e],rfl⟩
        ·have ea:(m.k != 2)=true:=by simpa using h2
         by_cases h4:u.k=20
         ·have e:RS=okb:=by rw[← HRS.out];simp[h2,h4]
          rw[h4]at uk
          clear h2 h4
          cases okb
          ·go_wp2_with fail
           go_meet
           case rel=>exact⟨by rw[e],rfl⟩
          ·go_wp2_with fail
           go_meet
           case rel=>exact⟨by rw[e],rfl⟩
         ·have eb:(u.k == 20)=false:=by simpa using h4
          have e:RS=false:=by rw[← HRS.out];simp[h4]
          clear h2 h4
          cases okb
          ·go_wp2_with fail
           go_meet
           case rel=>exact⟨by rw[e],rfl⟩
          ·go_wp2_with fail
           go_meet
           case rel=>exact⟨by rw[e],rfl⟩
      case rest=>
      obtain⟨rfl,hwc⟩:=hcut.out
      obtain rfl:=hwc.symm
      clear hcut qk uk
      have HRN:Hid (RS=false→okb=false∨¬ (m.k≠2∧u.k=20)):=fun y=>by
       have z:=HRS.out
       rw[y]at z
       cases okb
       ·exact .inl rfl
       ·refine .inr fun q=>?_
        simp[q.1,q.2]at z
      have HRY:Hid (RS=true→okb=true∧m.k≠2∧u.k=20):=fun y=>by
       have z:=HRS.out
       rw[y]at z
       cases okb
       ·simp at z
       ·simpa using z
      go_upto_if 72 with fail
      go_cut [7] (fun o wx=>Hid (o=.int .i64 ((k:Nat):Int)∧(∃ M',M'.s=sB∧M'.l=sB+1∧(∀ j,j<2→(M'.e j).length≤k+1)∧Jvq S2 (fun k=>(M'.e k).map Ue.y) (lp m (fun k=>(M'.z k).y))∧PWn ev w1 (aJ (gw L) (2*0+1) (il M')) L wx S2)∧wx.heap[pm]?=some (.cells (aj m m.c d6 c6) 39 (0,0))))
      case first=>
       cases RS
       ·have HT:Hid ((∃ M',M'.s=sB∧M'.l=sB+1∧(∀ j,j<2→(M'.e j).length≤k+1)∧Jvq S2 (fun k=>(M'.e k).map Ue.y) (lp m (fun k=>(M'.z k).y))∧PWn ev w1 (aJ (gw L) (2*0+1) (il M')) L wX S2)∧wX.heap[pm]?=some (.cells (aj m m.c d6 c6) 39 (0,0))):=⟨⟨M,HM.out.1,HM.out.2.1,(fun j hj=>Nat.le_succ_of_le (HM.out.2.2 j hj)),HU.out.2.2.no (HRN.out rfl),HP9.out.below HBX.out⟩,HZX.out⟩
        go_wp2_with fail
        go_meet
        case rel=>exact⟨rfl,HT.out⟩
       ·obtain⟨ho,hk2,hu4⟩:=HRY.out rfl
        obtain⟨hc2,hce,hjv⟩:=HU.out.2.2.yes ho hk2 hu4
        have hrw:=HU.out.2.2.row ho
        obtain⟨j,hj⟩:∃ y,m.c.toNat=y:=⟨_,rfl⟩
        rw[hj]at hc2 hce hjv
        have qc:wX.cell? ⟨pm,1,none⟩=some (.int .i64 m.c):=ae wX pm 1 _ _ _ HZX.out
        rw[hce]at qc
        have HJJ:Hid (_):=And.intro hjv hrw
        have hPX:=HP9.out.below HBX.out
        have hms:MgW M wX:=hPX.getT (i:=2*0+1) (x:=il M) (fun j=>by unfold ev;omega) (al _ _ _)
        have HMS:Hid (_):=And.intro hPX hms
        clear hk2 hu4 hce hjv hrw hj hPX ho
        have sv:wX.cell? ⟨sB,j,none⟩=some (M.v j):=by
         have q:=(hms.list hc2).1
         rw[HM.out.1]at q
         exact q
        have HJ2:Hid (j<2):=hc2
        have hj2':((j:Nat):Int)<2:=by omega
        clear hms hc2
        have HSS:Hid (∀ w',Below wX.heap.size wX w'→w'.cell? ⟨pm,1,none⟩=some (.int .i64 ((j:Nat):Int))∧w'.cell? ⟨pu,0,none⟩=some (.int .i64 u.k)∧w'.cell? ⟨pu,1,none⟩=some (.int .u32 (u.c:Nat))∧w'.cell? ⟨pu,2,none⟩=some (.int .u32 (u.s:Nat))∧w'.cell? ⟨pu,3,none⟩=some (.int .u32 (u.n:Nat))∧w'.cell? ⟨pu,4,none⟩=some (.int .i64 u.f)∧w'.cell? ⟨pu,5,none⟩=some (.slice u.a u.l u.p)):=fun w' b=>⟨ag qc b,ag (ae wX pu 0 _ _ _ HU.out.2.1) b,ag (ae wX pu 1 _ _ _ HU.out.2.1) b,ag (ae wX pu 2 _ _ _ HU.out.2.1) b,ag (ae wX pu 3 _ _ _ HU.out.2.1) b,ag (ae wX pu 4 _ _ _ HU.out.2.1) b,ag (ae wX pu 5 _ _ _ HU.out.2.1) b⟩
        have HS0:=HSS.out wX.drew (Below.drew (Below.refl _ _))
        have b9:Below wX.heap.size wX (wX.drew.alloc (.cells #[.int .i64 u.k,.int .u32 (u.c:Nat),.int .u32 (u.s:Nat),.int .u32 (u.n:Nat),.int .i64 u.f,.slice u.a u.l u.p] 50)):=(Below.drew (Below.refl _ _)).alloc (Nat.le_refl _) _
        have sv0:=ag sv (Below.drew (Below.refl _ _))
        have sv9:=ag sv b9
        have HB9:Hid (_):=b9
        have sv9b:=ag sv (aF (Below.refl _ wX) (.cells #[.int .i64 u.k,.int .u32 (u.c:Nat),.int .u32 (u.s:Nat),.int .u32 (u.n:Nat),.int .i64 u.f,.slice u.a u.l u.p] 50))
        have HSK:Hid (∀ w':World,w'.heap[pm]?=(wX.drew.alloc (.cells #[.int .i64 u.k,.int .u32 (u.c:Nat),.int .u32 (u.s:Nat),.int .u32 (u.n:Nat),.int .i64 u.f,.slice u.a u.l u.p] 50)).heap[pm]?→w'.heap[pu]?=(wX.drew.alloc (.cells #[.int .i64 u.k,.int .u32 (u.c:Nat),.int .u32 (u.s:Nat),.int .u32 (u.n:Nat),.int .i64 u.f,.slice u.a u.l u.p] 50)).heap[pu]?→w'.cell? ⟨pm,1,none⟩=some (.int .i64 ((j:Nat):Int))∧w'.cell? ⟨pu,0,none⟩=some (.int .i64 u.k)∧w'.cell? ⟨pu,1,none⟩=some (.int .u32 (u.c:Nat))∧w'.cell? ⟨pu,2,none⟩=some (.int .u32 (u.s:Nat))∧w'.cell? ⟨pu,3,none⟩=some (.int .u32 (u.n:Nat))∧w'.cell? ⟨pu,4,none⟩=some (.int .i64 u.f)∧w'.cell? ⟨pu,5,none⟩=some (.slice u.a u.l u.p)):=fun w' e1 e2=>by
         obtain⟨a0,a1,a2,a3,a4,a5,a6⟩:=HSS.out (wX.drew.alloc (.cells #[.int .i64 u.k,.int .u32 (u.c:Nat),.int .u32 (u.s:Nat),.int .u32 (u.n:Nat),.int .i64 u.f,.slice u.a u.l u.p] 50)) b9
         exact⟨kt e1 1 a0,kt e2 0 a1,kt e2 1 a2,kt e2 2 a3,kt e2 3 a4,kt e2 4 a5,kt e2 5 a6⟩
        have HMU:Hid (∀ q,q ∈ M.U→q≠pu):=fun q hq=>by
         have h1:MgW M w9:=HP9.out.getT (i:=2*0+1) (x:=il M) (fun j=>by unfold ev;omega) (al _ _ _)
         have:=h1.lt hq
         have:=HU.out.1
         omega
        have HO9:Hid ((wX.drew.alloc (.cells #[.int .i64 u.k,.int .u32 (u.c:Nat),.int .u32 (u.s:Nat),.int .u32 (u.n:Nat),.int .i64 u.f,.slice u.a u.l u.p] 50)).ownsRow 0 50 6 (M.v j) (M.e j).length (sX (M.e j))∧(wX.drew.alloc (.cells #[.int .i64 u.k,.int .u32 (u.c:Nat),.int .u32 (u.s:Nat),.int .u32 (u.n:Nat),.int .i64 u.f,.slice u.a u.l u.p] 50)).heap[wX.heap.size]?=some (.cells u.cs.toArray 50 (0,0))):=⟨(HMS.out.2.keep (fun q hq=>b9.block q (HMS.out.2.lt hq))).r j HJ2.out,aB wX.drew _⟩
        clear qc sv b9
        go_wp2_with fail
        refine wp_region_held_drew (S:=fun w'=>w'.cell? ⟨pm,1,none⟩=some (.int .i64 ((j:Nat):Int))∧w'.cell? ⟨pu,0,none⟩=some (.int .i64 u.k)∧w'.cell? ⟨pu,1,none⟩=some (.int .u32 (u.c:Nat))∧w'.cell? ⟨pu,2,none⟩=some (.int .u32 (u.s:Nat))∧w'.cell? ⟨pu,3,none⟩=some (.int .u32 (u.n:Nat))∧w'.cell? ⟨pu,4,none⟩=some (.int .i64 u.f)∧w'.cell? ⟨pu,5,none⟩=some (.slice u.a u.l u.p)) (by kernel_rfl) HS0 (fun _=>?_)
        refine aq (i:=0) (v:=Value.slice (af sB 0) 2 2) ?_
        refine aq (i:=1) (v:=ac pm 1) ?_
        refine aq (i:=2) (v:=Value.int .i64 ((j:Nat):Int)) ?_
        refine aq (i:=3) (v:=Value.slice (af sB 0) 2 2) ?_
        refine aq (i:=4) (v:=ac pm 1) ?_
        refine aq (i:=5) (v:=Value.int .i64 ((j:Nat):Int)) ?_
        refine aq (i:=6) (v:=ac sB j) ?_
        refine aq (i:=8) (v:=Value.agg #[.int .i64 u.k,.int .u32 (u.c:Nat),.int .u32 (u.s:Nat),.int .u32 (u.n:Nat),.int .i64 u.f,.slice u.a u.l u.p]) ?_
        refine ri (i:=7) (j:=9) (by kernel_rfl) ?_ ?_
        ·refine cA (o:=_) (M.v j) wX.drew rfl (by kernel_rfl) (by go_simp) ⟨HS0,?_⟩
         refine gW (i:=9) (by kernel_rfl) (cA (.slice (af wX.heap.size 0) 1 1) (wX.drew.alloc (.cells #[.int .i64 u.k,.int .u32 (u.c:Nat),.int .u32 (u.s:Nat),.int .u32 (u.n:Nat),.int .i64 u.f,.slice u.a u.l u.p] 50)) rfl (by kernel_rfl) (by go_simp) ⟨HSS.out _ HB9.out,?_⟩)
         refine gW (i:=10) (by kernel_rfl) (wpOp_step rfl (fun K' hK'=>?_))
         refine mM rfl (.tmp 80) (.tmp 82) rfl rfl wX.heap.size (M.e j) u (M.v j) (by kernel_rfl) (by kernel_rfl) HO9.out.1 HO9.out.2 (by have:=HM.out.2.2 j HJ2.out;omega) ?_
         intro v1 w3 h3
         obtain⟨g1n,cp1,rfl⟩:=pT h3.out.1
         obtain⟨k3,kk,hpw⟩:=mL HP9.out (fun j=>by unfold ev;omega) (HBX.out.trans (HB9.out.mono HBX.out.size)) HJ2.out (HJJ.out.2.1.below HB9.out) HJJ.out.2.2 h3.out.1 h3.out.2.1 h3.out.2.2
         rw[HM.out.1]at k3 kk hpw
         have mpm:=kk pm (fun y=>Nat.lt_irrefl _ (HPM.out _ y)) (Nat.lt_of_lt_of_le (Array.getElem?_eq_some_iff.1 HZX.out).1 HB9.out.size)
         have mpu:=kk pu (fun y=>HMU.out _ y rfl) (Nat.lt_of_lt_of_le (Array.getElem?_eq_some_iff.1 HU.out.2.1).1 HB9.out.size)
         have HS3:w3.cell? ⟨pm,1,none⟩=some (.int .i64 ((j:Nat):Int))∧w3.cell? ⟨pu,0,none⟩=some (.int .i64 u.k)∧w3.cell? ⟨pu,1,none⟩=some (.int .u32 (u.c:Nat))∧w3.cell? ⟨pu,2,none⟩=some (.int .u32 (u.s:Nat))∧w3.cell? ⟨pu,3,none⟩=some (.int .u32 (u.n:Nat))∧w3.cell? ⟨pu,4,none⟩=some (.int .i64 u.f)∧w3.cell? ⟨pu,5,none⟩=some (.slice u.a u.l u.p):=HSK.out w3 mpm.1 mpu.1
         have HS4:(w3.setCell ⟨sB,j,none⟩ (.slice (af g1n 0) ((M.e j).length+1) cp1)).cell? ⟨pm,1,none⟩=some (.int .i64 ((j:Nat):Int))∧(w3.setCell ⟨sB,j,none⟩ (.slice (af g1n 0) ((M.e j).length+1) cp1)).cell? ⟨pu,0,none⟩=some (.int .i64 u.k)∧(w3.setCell ⟨sB,j,none⟩ (.slice (af g1n 0) ((M.e j).length+1) cp1)).cell? ⟨pu,1,none⟩=some (.int .u32 (u.c:Nat))∧(w3.setCell ⟨sB,j,none⟩ (.slice (af g1n 0) ((M.e j).length+1) cp1)).cell? ⟨pu,2,none⟩=some (.int .u32 (u.s:Nat))∧(w3.setCell ⟨sB,j,none⟩ (.slice (af g1n 0) ((M.e j).length+1) cp1)).cell? ⟨pu,3,none⟩=some (.int .u32 (u.n:Nat))∧(w3.setCell ⟨sB,j,none⟩ (.slice (af g1n 0) ((M.e j).length+1) cp1)).cell? ⟨pu,4,none⟩=some (.int .i64 u.f)∧(w3.setCell ⟨sB,j,none⟩ (.slice (af g1n 0) ((M.e j).length+1) cp1)).cell? ⟨pu,5,none⟩=some (.slice u.a u.l u.p):=HSK.out _ mpm.2 mpu.2
         have y8:w3.cell? ⟨sB,j,none⟩=some (M.v j):=by
          have q:=HJ2.out
          rw[ae w3 sB j _ _ _ k3]
          rcases (by omega:j=0∨j=1) with e | e <;> rw[e] <;> rfl
         have yz:=frozen_of_row w3 sB j _ _ k3
         have HT:Hid ((∃ M',M'.s=sB∧M'.l=sB+1∧(∀ j,j<2→(M'.e j).length≤k+1)∧Jvq S2 (fun k=>(M'.e k).map Ue.y) (lp m (fun k=>(M'.z k).y))∧PWn ev w1 (aJ (gw L) (2*0+1) (il M')) L (w3.setCell ⟨sB,j,none⟩ (.slice (af g1n 0) ((M.e j).length+1) cp1)) S2)∧(w3.setCell ⟨sB,j,none⟩ (.slice (af g1n 0) ((M.e j).length+1) cp1)).heap[pm]?=some (.cells (aj m m.c d6 c6) 39 (0,0))):=⟨⟨(⟨sB,M.l,aG M.v j (.slice (af g1n 0) ((M.e j).length+1) cp1),aG M.e j (M.e j ++ [u]),M.z,u.q ++ M.V⟩:Mg),rfl,HM.out.2.1,(fun i hi=>by
          show (aG M.e j (M.e j ++ [u]) i).length≤k+1
          unfold aG
          split
          ·rw[List.length_append]
           exact Nat.succ_le_succ (HM.out.2.2 j HJ2.out)
          ·exact Nat.le_succ_of_le (HM.out.2.2 i hi)),(by
          show Jvq S2 (fun k=>(aG M.e j (M.e j ++ [u]) k).map Ue.y) (lp m (fun k=>(M.z k).y))
          rw[qe]
          exact HJJ.out.1),hpw⟩,mpm.2.trans ((HB9.out.block pm (Array.getElem?_eq_some_iff.1 HZX.out).1).trans HZX.out)⟩
         clear hpw kk mpm mpu
         refine hK' _ _ ⟨HS3,?_⟩
         refine wpAnyH_take (i:=11) (v:=ac sB j) rfl (by kernel_rfl) (by kernel_rfl) (by kernel_rfl) (fun _ _ _ h=>h) (Or.inl ⟨by kernel_rfl,fun w hSw=>by go_simp⟩) HS3 ?_
         refine cH (i:=12) (w3.setCell ⟨sB,j,none⟩ (.slice (af g1n 0) ((M.e j).length+1) cp1)) (by kernel_rfl) rfl (by kernel_rfl) (by go_simp) HS4 ?_
         refine aK (a':={ tmps:=#[.slice (af b off) len cap,undef,u2,ac X 0,.int .i64 0,.slice (af sB 0) 2 2,.slice (af (sB+1) 0) 2 2,.int .i64 ((k:Nat):Int),ac pm 0,ac rb 0,.int .i64 0,ac pu 0,.bool okb,u13,u14,u15,u16,undef,u18,u19,.tuple #[ac X 0,.int .i64 0],.agg #[.slice (af g0 0) 2 c0,.slice (af g1 0) 2 c1,.int .u32 50],.tuple #[ac X 0,.int .i64 0],ac X 0,.int .i64 0,.int .i64 0,.bool false,.bool false,.bool true,.bool false,.bool false,.slice (af sB 0) 2 2,.slice (af (sB+1) 0) 2 2,u33,u34,u35,u36,u37,u38,u39,u40,u41,u42,u43,u44,u45,u46,u47,u48,u49,u50,u51,u52,u53,u54,u55,u56,u57,u58,u59,u60,u61,u62,u63,u64,u65,u66,u67,u68,u69,u70,u71,.bool true,.slice (af sB 0) 2 2,ac pm 1,.int .i64 ((j:Nat):Int),.slice (af sB 0) 2 2,ac pm 1,.int .i64 ((j:Nat):Int),ac sB j,(M.v j),.agg #[.int .i64 u.k,.int .u32 (u.c:Nat),.int .u32 (u.s:Nat),.int .u32 (u.n:Nat),.int .i64 u.f,.slice u.a u.l u.p],(.slice (af wX.heap.size 0) 1 1),.slice (af g1n 0) ((M.e j).length+1) cp1,ac sB j,u85,u86,u87,u88,u89,u90,u91,u92,u93,u94,u95,u96,u97,u98,u99,u100,u101,u102,u103,u104,u105,u106,u107,u108,u109,u110,u111,u112,u113,u114,u115,u116,u117,u118,u119,u120,u121,u122,u123,u124,u125,u126,u127,u128,u129,u130,u131,u132,u133,u134,u135,u136,u137,u138,u139,u140,u141,u142,u143,u144,u145,u146,u147,u148,u149,u150,u151,u152,u153,u154,u155,u156,u157,u158,u159,u160,u161,u162,u163,u164,u165,u166,u167,u168,u169,u170,u171,u172,u173,u174,u175,u176,u177,u178,u179,u180,u181,u182,u183,u184,u185,u186,u187,u188,u189,u190,u191,u192,u193,u194,u195,u196,u197,u198,u199,u200,u201,u202,u203,u204,u205,u206,u207,u208,u209,u210,u211,u212,u213,u214,u215],defers:=[] }) (by kernel_rfl) rfl ?_
         refine wpAnyH_done (by kernel_rfl) ?_ _
         clear HS3 HS4 y8 yz hK' k3 h3
         go_wp2_with fail
         go_meet
         case rel=>exact⟨rfl,HT.out⟩
        ·refine cA (o:=_) (.slice (af wX.heap.size 0) 1 1) (wX.drew.alloc (.cells #[.int .i64 u.k,.int .u32 (u.c:Nat),.int .u32 (u.s:Nat),.int .u32 (u.n:Nat),.int .i64 u.f,.slice u.a u.l u.p] 50)) rfl (by kernel_rfl) (by go_simp) ⟨HSS.out _ HB9.out,?_⟩
         refine gW (i:=7) (by kernel_rfl) (cA (M.v j) (wX.drew.alloc (.cells #[.int .i64 u.k,.int .u32 (u.c:Nat),.int .u32 (u.s:Nat),.int .u32 (u.n:Nat),.int .i64 u.f,.slice u.a u.l u.p] 50)) rfl (by kernel_rfl) (by go_simp) ⟨HSS.out _ HB9.out,?_⟩)
         refine gW (i:=10) (by kernel_rfl) (wpOp_step rfl (fun K' hK'=>?_))
         refine mM rfl (.tmp 80) (.tmp 82) rfl rfl wX.heap.size (M.e j) u (M.v j) (by kernel_rfl) (by kernel_rfl) HO9.out.1 HO9.out.2 (by have:=HM.out.2.2 j HJ2.out;omega) ?_
         intro v1 w3 h3
         obtain⟨g1n,cp1,rfl⟩:=pT h3.out.1
         obtain⟨k3,kk,hpw⟩:=mL HP9.out (fun j=>by unfold ev;omega) (HBX.out.trans (HB9.out.mono HBX.out.size)) HJ2.out (HJJ.out.2.1.below HB9.out) HJJ.out.2.2 h3.out.1 h3.out.2.1 h3.out.2.2
         rw[HM.out.1]at k3 kk hpw
         have mpm:=kk pm (fun y=>Nat.lt_irrefl _ (HPM.out _ y)) (Nat.lt_of_lt_of_le (Array.getElem?_eq_some_iff.1 HZX.out).1 HB9.out.size)
         have mpu:=kk pu (fun y=>HMU.out _ y rfl) (Nat.lt_of_lt_of_le (Array.getElem?_eq_some_iff.1 HU.out.2.1).1 HB9.out.size)
         have HS3:w3.cell? ⟨pm,1,none⟩=some (.int .i64 ((j:Nat):Int))∧w3.cell? ⟨pu,0,none⟩=some (.int .i64 u.k)∧w3.cell? ⟨pu,1,none⟩=some (.int .u32 (u.c:Nat))∧w3.cell? ⟨pu,2,none⟩=some (.int .u32 (u.s:Nat))∧w3.cell? ⟨pu,3,none⟩=some (.int .u32 (u.n:Nat))∧w3.cell? ⟨pu,4,none⟩=some (.int .i64 u.f)∧w3.cell? ⟨pu,5,none⟩=some (.slice u.a u.l u.p):=HSK.out w3 mpm.1 mpu.1
         have HS4:(w3.setCell ⟨sB,j,none⟩ (.slice (af g1n 0) ((M.e j).length+1) cp1)).cell? ⟨pm,1,none⟩=some (.int .i64 ((j:Nat):Int))∧(w3.setCell ⟨sB,j,none⟩ (.slice (af g1n 0) ((M.e j).length+1) cp1)).cell? ⟨pu,0,none⟩=some (.int .i64 u.k)∧(w3.setCell ⟨sB,j,none⟩ (.slice (af g1n 0) ((M.e j).length+1) cp1)).cell? ⟨pu,1,none⟩=some (.int .u32 (u.c:Nat))∧(w3.setCell ⟨sB,j,none⟩ (.slice (af g1n 0) ((M.e j).length+1) cp1)).cell? ⟨pu,2,none⟩=some (.int .u32 (u.s:Nat))∧(w3.setCell ⟨sB,j,none⟩ (.slice (af g1n 0) ((M.e j).length+1) cp1)).cell? ⟨pu,3,none⟩=some (.int .u32 (u.n:Nat))∧(w3.setCell ⟨sB,j,none⟩ (.slice (af g1n 0) ((M.e j).length+1) cp1)).cell? ⟨pu,4,none⟩=some (.int .i64 u.f)∧(w3.setCell ⟨sB,j,none⟩ (.slice (af g1n 0) ((M.e j).length+1) cp1)).cell? ⟨pu,5,none⟩=some (.slice u.a u.l u.p):=HSK.out _ mpm.2 mpu.2
         have y8:w3.cell? ⟨sB,j,none⟩=some (M.v j):=by
          have q:=HJ2.out
          rw[ae w3 sB j _ _ _ k3]
          rcases (by omega:j=0∨j=1) with e | e <;> rw[e] <;> rfl
         have yz:=frozen_of_row w3 sB j _ _ k3
         have HT:Hid ((∃ M',M'.s=sB∧M'.l=sB+1∧(∀ j,j<2→(M'.e j).length≤k+1)∧Jvq S2 (fun k=>(M'.e k).map Ue.y) (lp m (fun k=>(M'.z k).y))∧PWn ev w1 (aJ (gw L) (2*0+1) (il M')) L (w3.setCell ⟨sB,j,none⟩ (.slice (af g1n 0) ((M.e j).length+1) cp1)) S2)∧(w3.setCell ⟨sB,j,none⟩ (.slice (af g1n 0) ((M.e j).length+1) cp1)).heap[pm]?=some (.cells (aj m m.c d6 c6) 39 (0,0))):=⟨⟨(⟨sB,M.l,aG M.v j (.slice (af g1n 0) ((M.e j).length+1) cp1),aG M.e j (M.e j ++ [u]),M.z,u.q ++ M.V⟩:Mg),rfl,HM.out.2.1,(fun i hi=>by
          show (aG M.e j (M.e j ++ [u]) i).length≤k+1
          unfold aG
          split
          ·rw[List.length_append]
           exact Nat.succ_le_succ (HM.out.2.2 j HJ2.out)
          ·exact Nat.le_succ_of_le (HM.out.2.2 i hi)),(by
          show Jvq S2 (fun k=>(aG M.e j (M.e j ++ [u]) k).map Ue.y) (lp m (fun k=>(M.z k).y))
          rw[qe]
          exact HJJ.out.1),hpw⟩,mpm.2.trans ((HB9.out.block pm (Array.getElem?_eq_some_iff.1 HZX.out).1).trans HZX.out)⟩
         clear hpw kk mpm mpu
         refine hK' _ _ ⟨HS3,?_⟩
         refine wpAnyH_take (i:=11) (v:=ac sB j) rfl (by kernel_rfl) (by kernel_rfl) (by kernel_rfl) (fun _ _ _ h=>h) (Or.inl ⟨by kernel_rfl,fun w hSw=>by go_simp⟩) HS3 ?_
         refine cH (i:=12) (w3.setCell ⟨sB,j,none⟩ (.slice (af g1n 0) ((M.e j).length+1) cp1)) (by kernel_rfl) rfl (by kernel_rfl) (by go_simp) HS4 ?_
         refine aK (a':={ tmps:=#[.slice (af b off) len cap,undef,u2,ac X 0,.int .i64 0,.slice (af sB 0) 2 2,.slice (af (sB+1) 0) 2 2,.int .i64 ((k:Nat):Int),ac pm 0,ac rb 0,.int .i64 0,ac pu 0,.bool okb,u13,u14,u15,u16,undef,u18,u19,.tuple #[ac X 0,.int .i64 0],.agg #[.slice (af g0 0) 2 c0,.slice (af g1 0) 2 c1,.int .u32 50],.tuple #[ac X 0,.int .i64 0],ac X 0,.int .i64 0,.int .i64 0,.bool false,.bool false,.bool true,.bool false,.bool false,.slice (af sB 0) 2 2,.slice (af (sB+1) 0) 2 2,u33,u34,u35,u36,u37,u38,u39,u40,u41,u42,u43,u44,u45,u46,u47,u48,u49,u50,u51,u52,u53,u54,u55,u56,u57,u58,u59,u60,u61,u62,u63,u64,u65,u66,u67,u68,u69,u70,u71,.bool true,.slice (af sB 0) 2 2,ac pm 1,.int .i64 ((j:Nat):Int),.slice (af sB 0) 2 2,ac pm 1,.int .i64 ((j:Nat):Int),ac sB j,(M.v j),.agg #[.int .i64 u.k,.int .u32 (u.c:Nat),.int .u32 (u.s:Nat),.int .u32 (u.n:Nat),.int .i64 u.f,.slice u.a u.l u.p],(.slice (af wX.heap.size 0) 1 1),.slice (af g1n 0) ((M.e j).length+1) cp1,ac sB j,u85,u86,u87,u88,u89,u90,u91,u92,u93,u94,u95,u96,u97,u98,u99,u100,u101,u102,u103,u104,u105,u106,u107,u108,u109,u110,u111,u112,u113,u114,u115,u116,u117,u118,u119,u120,u121,u122,u123,u124,u125,u126,u127,u128,u129,u130,u131,u132,u133,u134,u135,u136,u137,u138,u139,u140,u141,u142,u143,u144,u145,u146,u147,u148,u149,u150,u151,u152,u153,u154,u155,u156,u157,u158,u159,u160,u161,u162,u163,u164,u165,u166,u167,u168,u169,u170,u171,u172,u173,u174,u175,u176,u177,u178,u179,u180,u181,u182,u183,u184,u185,u186,u187,u188,u189,u190,u191,u192,u193,u194,u195,u196,u197,u198,u199,u200,u201,u202,u203,u204,u205,u206,u207,u208,u209,u210,u211,u212,u213,u214,u215],defers:=[] }) (by kernel_rfl) rfl ?_
         refine wpAnyH_done (by kernel_rfl) ?_ _
         clear HS3 HS4 y8 yz hK' k3 h3
         go_wp2_with fail
         go_meet
         case rel=>exact⟨rfl,HT.out⟩
      case rest=>
      as_aux_lemma=>
       obtain⟨rfl,hIn,hz⟩:=hcut.out
       obtain⟨wY,hwY⟩:∃ y,wc=y:=⟨_,rfl⟩
       rw[hwY]at hIn hz ⊢
       have HIz:Hid (∃ M',M'.s=sB∧M'.l=sB+1∧(∀ j,j<2→(M'.e j).length≤k+1)∧Jvq S2 (fun k=>(M'.e k).map Ue.y) (lp m (fun k=>(M'.z k).y))∧PWn ev w1 (aJ (gw L) (2*0+1) (il M')) L wY S2):=hIn
       have HZY:Hid (wY.heap[pm]?=some (.cells (aj m m.c d6 c6) 39 (0,0))):=hz
       clear hcut hIn hz hwY HBX HU HZX HRS HRN HRY
       have qk:wY.cell? ⟨pm,0,none⟩=some (.int .i64 m.k):=ae wY pm 0 _ _ _ HZY.out
       have qs:wY.cell? ⟨pm,2,none⟩=some (.int .i64 m.s):=ae wY pm 2 _ _ _ HZY.out
       obtain⟨RZ,hRZ⟩:∃ y:Bool,(decide (m.k=7) && decide (m.s=1))=y:=⟨_,rfl⟩
       have HRZ:Hid (_=RZ):=hRZ
       clear hRZ
       go_upto_region 15 with fail
       go_cut [92] (fun v wx=>Hid (v=.bool RZ∧wx=wY))
       case first=>
        as_aux_lemma=>
         by_cases h7:m.k=7
         ·by_cases h1:m.s=1
          ·have e:RZ=true:=by rw[← HRZ.out];simp[h7,h1]
           rw[h7]at qk
           rw[h1]at qs
           clear h7 h1
           go_wp2_with fail
           go_meet
           case rel=>exact⟨by rw[e],rfl⟩
          ·have e:RZ=false:=by rw[← HRZ.out];simp[h1]
           have eb:(m.s == 1)=false:=by simpa using h1
           rw[h7]at qk
           clear h7 h1
           go_wp2_with fail
           go_meet
           case rel=>exact⟨by rw[e],rfl⟩
         ·have e:RZ=false:=by rw[← HRZ.out];simp[h7]
          have eb:(m.k == 7)=false:=by simpa using h7
          clear h7
          go_wp2_with fail
          go_meet
          case rel=>exact⟨by rw[e],rfl⟩
       case rest=>
       obtain⟨rfl,hwc⟩:=hcut.out
       obtain rfl:=hwc.symm
       clear hcut qk qs
       go_upto_if 92 with fail
       go_cut [7] (fun o wx=>Hid (o=.int .i64 ((k:Nat):Int)∧∃ M,M.s=sB∧M.l=sB+1∧(∀ j,j<2→(M.e j).length≤k+1)∧Jvq S2 (fun k=>(M.e k).map Ue.y) (fun k=>(M.z k).y)∧PWn ev w1 (aJ (gw L) (2*0+1) (il M)) L wx S2))
       case first=>
        as_aux_lemma=>
         cases RZ
         ·have HT:Hid (∃ M,M.s=sB∧M.l=sB+1∧(∀ j,j<2→(M.e j).length≤k+1)∧Jvq S2 (fun k=>(M.e k).map Ue.y) (fun k=>(M.z k).y)∧PWn ev w1 (aJ (gw L) (2*0+1) (il M)) L wY S2):=by
           obtain⟨M',a1,a2,a3,a4,a5⟩:=HIz.out
           rw[wO (fun y=>by have z:=HRZ.out;simp[y.1,y.2]at z)]at a4
           exact⟨M',a1,a2,a3,a4,a5⟩
          go_wp2_with fail
          go_meet
          case rel=>exact⟨rfl,HT.out⟩
         ·have hz7:m.k=7∧m.s=1:=by simpa using HRZ.out
          obtain⟨M',a1,a2,a3,a4,a5⟩:=HIz.out
          rw[sR hz7]at a4
          obtain⟨hc2,hce⟩:=HC.out
          obtain⟨j,hj⟩:∃ y,m.c.toNat=y:=⟨_,rfl⟩
          rw[hj]at hc2 hce a4
          have qc:wY.cell? ⟨pm,1,none⟩=some (.int .i64 m.c):=ae wY pm 1 _ _ _ HZY.out
          rw[hce]at qc
          have hms:MgW M' wY:=a5.getT (i:=2*0+1) (x:=il M') (fun j=>by unfold ev;omega) (al _ _ _)
          have kl:=hms.lb
          have zr:=hms.last hc2
          rw[a2]at kl zr
          obtain⟨z,hz⟩:∃ y,M'.z j=y:=⟨_,rfl⟩
          rw[hz]at zr
          have hj2':((j:Nat):Int)<2:=by omega
          have z0:wY.cell? ⟨sB+1,j*6,none⟩=some (.int .i64 z.k):=zr 0 _ rfl
          have fz0:wY.frozen? ⟨sB+1,j*6,none⟩=false:=frozen_of_row wY (sB+1) _ _ _ kl
          have z1:wY.cell? ⟨sB+1,j*6+1,none⟩=some (.int .u32 (z.c:Nat)):=zr 1 _ rfl
          have fz1:wY.frozen? ⟨sB+1,j*6+1,none⟩=false:=frozen_of_row wY (sB+1) _ _ _ kl
          have z2:wY.cell? ⟨sB+1,j*6+2,none⟩=some (.int .u32 (z.s:Nat)):=zr 2 _ rfl
          have fz2:wY.frozen? ⟨sB+1,j*6+2,none⟩=false:=frozen_of_row wY (sB+1) _ _ _ kl
          have z3:wY.cell? ⟨sB+1,j*6+3,none⟩=some (.int .u32 (z.n:Nat)):=zr 3 _ rfl
          have fz3:wY.frozen? ⟨sB+1,j*6+3,none⟩=false:=frozen_of_row wY (sB+1) _ _ _ kl
          have z4:wY.cell? ⟨sB+1,j*6+4,none⟩=some (.int .i64 z.f):=zr 4 _ rfl
          have fz4:wY.frozen? ⟨sB+1,j*6+4,none⟩=false:=frozen_of_row wY (sB+1) _ _ _ kl
          have z5:wY.cell? ⟨sB+1,j*6+5,none⟩=some (.slice z.a z.l z.p):=zr 5 _ rfl
          have fz5:wY.frozen? ⟨sB+1,j*6+5,none⟩=false:=frozen_of_row wY (sB+1) _ _ _ kl
          have HA4:Hid (Jvq S2 (fun k=>(M'.e k).map Ue.y) (fun k=>(aG M'.z j ue0 k).y)):=by
           rw[mH]
           exact a4
          have HA5:Hid (PWn ev w1 (aJ (gw L) (2*0+1) (il M')) L wY S2):=a5
          have HA1:Hid (M'.s=sB∧M'.l=sB+1∧∀ j,j<2→(M'.e j).length≤k+1):=⟨a1,a2,a3⟩
          have HJ2:Hid (j<2):=hc2
          clear hz7 a1 a2 a3 a4 a5 hce hj hms kl zr hz hc2
          go_wp2_with fail
          go_meet
          case rel=>exact⟨rfl,({ M' with z:=aG M'.z j ue0,V:=ue0.q ++ M'.V }:Mg),HA1.out.1,HA1.out.2.1,HA1.out.2.2,HA4.out,qp (u:=ue0) HA1.out.2.1 HA5.out (fun j=>by unfold ev;omega) (Below.refl _ _) HJ2.out (dQ _ _) (fun y hy=>by cases hy)⟩
       case rest=>
       as_aux_lemma=>
        obtain⟨rfl,hIn⟩:=hcut.out
        have HIn:Hid (∃ M,M.s=sB∧M.l=sB+1∧(∀ j,j<2→(M.e j).length≤k+1)∧Jvq S2 (fun k=>(M.e k).map Ue.y) (fun k=>(M.z k).y)∧PWn ev w1 (aJ (gw L) (2*0+1) (il M)) L wc S2):=hIn
        clear hcut hIn HIz HZY HRZ
        go_wp2_with fail
        go_loopw [13,14,15,16,18,19,98,99,100,101,102,103,104,105,106,107,108,109,110,111,112,113,114,115,116,117,118,119,120,121,122,123,124,125,126,127,128,129,130,131,132,133,134,135,136,137,138,139,140,141,142,143,144,145,146,147,148,149,150,151,152,153,154,155,156,157,158,159,160,161,162,163,164,165,166,167,168,169,170,171,172,173,174,175,176,177,178,179,180,181,182,183,184,185,186,187,188,189,190,191,192,193,194,195,196,197,198,199,200,201,202,203,204,205,206,207,208,209,210,211,212,213,214] (fun kk _ _ _ _ _ _ _ _ _ _ _ _ _ _ _ _ _ _ _ _ _ _ _ _ _ _ _ _ _ _ _ _ _ _ _ _ _ _ _ _ _ _ _ _ _ _ _ _ _ _ _ _ _ _ _ _ _ _ _ _ _ _ _ _ _ _ _ _ _ _ _ _ _ _ _ _ _ _ _ _ _ _ _ _ _ _ _ _ _ _ _ _ _ _ _ _ _ _ _ _ _ _ _ _ _ _ _ _ _ _ _ _ _ _ _ _ _ _ _ _ _ _ wr=>∃ j:Nat,j≤2∧kk=.int .i64 ((j:Nat):Int)∧Hid (∃ M,M.s=sB∧M.l=sB+1∧(∀ j,j<2→(M.e j).length≤k+1)∧Jvq S2 (fun k=>(M.e k).map Ue.y) (fun k=>(M.z k).y)∧PWn ev w1 (aJ (gw L) (2*0+1) (il M)) L wr S2)) (fun kk _ _ _ _ _ _ _ _ _ _ _ _ _ _ _ _ _ _ _ _ _ _ _ _ _ _ _ _ _ _ _ _ _ _ _ _ _ _ _ _ _ _ _ _ _ _ _ _ _ _ _ _ _ _ _ _ _ _ _ _ _ _ _ _ _ _ _ _ _ _ _ _ _ _ _ _ _ _ _ _ _ _ _ _ _ _ _ _ _ _ _ _ _ _ _ _ _ _ _ _ _ _ _ _ _ _ _ _ _ _ _ _ _ _ _ _ _ _ _ _ _ _ _=>2-cQ kk)
        case atStart=>exact⟨0,by omega,rfl,HIn⟩
        case round=>
         obtain⟨j,hj,rfl,HJ⟩:=hrel
         clear HIn
         by_cases hj2:j<2
         ·have hj2':((j:Nat):Int)<2:=by omega
          obtain⟨M,hMs,hMl,hMn,g,hp⟩:=HJ.out
          have hEn:=aa2 hp (c1:=j) (by rw[g.n];exact hj2)
          rw[HX.out]at hEn
          have HPj:Hid (PWn ev w1 (aJ (gw L) (2*0+1) (il M)) L wr S2):=hp
          have HGj:Hid (Jvq S2 (fun k=>(M.e k).map Ue.y) (fun k=>(M.z k).y)):=g
          have HMj:Hid (M.s=sB∧M.l=sB+1∧∀ j,j<2→(M.e j).length≤k+1):=⟨hMs,hMl,hMn⟩
          clear HJ hp g hMs hMl hMn
          go_wp2_with fail
          refine hEn.mono ?_
          rintro r w12 ⟨Ah,Ad,rfl,hsAh,hoAh,hsAd,hoAd,H12⟩
          clear hEn
          obtain⟨wy,wz,hst2,hst3,hrA,hrB,hbl⟩:=un w12 hsAh hoAh hsAd hoAd
          obtain⟨ra,rc,qa,qc,eA,eB,Ra,Rb,bE,nA,nB,ap⟩:=H12.out
          have ePD:(S2.PH j).i=1:=by rw[HGj.out.ph];rfl
          rw[ePD]at eA Ra nA
          have bz:Below wr.heap.size wr wz:=bE.trans (hbl.mono bE.size)
          have HRz:Hid (Row8 wz ra 1 rc (co (S2.hs j).v)):=Ra.below hbl
          have HBz:Hid (Below wr.heap.size wr wz):=bz
          have HPD:Hid ((S2.PH j).i=1):=ePD
          have HNw:Hid (∀ y,ra=some y→0<1→wr.heap.size≤y.block):=nA
          obtain⟨SS,hSS⟩:∃ y,(S2.hs j).ss=y:=⟨_,rfl⟩
          obtain⟨NN,hNN⟩:∃ y,(S2.hs j).nm=y:=⟨_,rfl⟩
          obtain⟨ON,hON⟩:∃ y,aE (S2.hs j).v=y:=⟨_,rfl⟩
          rw[hSS,hNN,hON]at eA
          have HE:Hid ((S2.hs j).ss=SS∧(S2.hs j).nm=NN∧aE (S2.hs j).v=ON):=⟨hSS,hNN,hON⟩
          have d1:wz.cell? ⟨w12.heap.size,1,none⟩=some (.int .u32 (SS:Nat)):=hrA 1 _ (by rw[eA];rfl)
          have d2:wz.cell? ⟨w12.heap.size,2,none⟩=some (.int .u32 (NN:Nat)):=hrA 2 _ (by rw[eA];rfl)
          have d7:wz.cell? ⟨w12.heap.size,7,none⟩=some (.bool ON):=hrA 7 _ (by rw[eA];rfl)
          have d8:wz.cell? ⟨w12.heap.size,8,none⟩=some (.slice ra 1 rc):=hrA 8 _ (by rw[eA];rfl)
          have hPz:=HPj.out.below bz
          have hms:MgW M wz:=hPz.getT (i:=2*0+1) (x:=il M) (fun j=>by unfold ev;omega) (al _ _ _)
          have HMz:Hid (MgW M wz):=hms
          have HPz:Hid (PWn ev w1 (aJ (gw L) (2*0+1) (il M)) L wz S2):=hPz
          clear hSS hNN hON hrA hrB hbl eA eB Ra Rb bE nA nB ap H12 bz ePD hPz
          cases ON
          ·have hv:BA (co (S2.hs j).v) 1=⟨#[0]⟩:=by
            have:co (S2.hs j).v=fun _=>0:=by unfold co;rw[if_neg (by rw[HE.out.2.2];decide)]
            rw[this]
            rfl
           have q1:=eT ra 1 rc (co (S2.hs j).v) wz HRz.out
           rw[hv]at q1
           have HT:Hid (∃ M,M.s=sB∧M.l=sB+1∧(∀ j,j<2→(M.e j).length≤k+1)∧Jvq S2 (fun k=>(M.e k).map Ue.y) (fun k=>(M.z k).y)∧PWn ev w1 (aJ (gw L) (2*0+1) (il M)) L wz S2):=⟨M,HMj.out.1,HMj.out.2.1,HMj.out.2.2,HGj.out,HPz.out⟩
           clear hv hms
           go_wp2_with fail
           refine⟨⟨j+1,by omega,by simp,HT⟩,?_⟩
           have e1:cQ (.int .i64 ((j:Nat):Int))=j:=by simp[cQ]
           have e2:cQ (.int .i64 (((j:Nat):Int)+1))=j+1:=by simp[cQ]
           rw[e1,e2]
           omega
          ·obtain⟨sv,la,lc,hla,hls⟩:=hms.list hj2
           rw[hla,HMj.out.1]at sv
           have HDat:Hid (∀ u,u ∈ M.e j→Row8 wz u.a u.l u.p u.b):=fun u hu=>(HMz.out.d j hj2 u hu).1
           have hvo:co (S2.hs j).v=((S2.hs j).v).bs:=by unfold co;rw[if_pos HE.out.2.2]
           obtain⟨XB,hXB⟩:∃ y,BA (co (S2.hs j).v) 1=y:=⟨_,rfl⟩
           have HXB:Hid (BA (co (S2.hs j).v) 1=XB):=hXB
           have HVO:Hid (co (S2.hs j).v=((S2.hs j).v).bs):=hvo
           have HFd:Hid (lY ((M.e j).map Ue.y) SS NN XB∧((M.z j).s=SS∧(M.z j).n=NN→BA (M.z j).b (M.z j).l=XB)∧(¬ ((M.z j).s=SS∧(M.z j).n=NN)→(M.z j).s<SS∨(SS=(M.z j).s∧(M.z j).n<NN))):=by
            have q:=(HGj.out.jo j hj2).show_ (HGj.out.I.ih j (by rw[HGj.out.n];exact hj2)) HE.out.2.2
            rw[HE.out.1,HE.out.2.1,HPD.out,← hvo,hXB]at q
            exact q
           obtain⟨es,hes⟩:∃ y,M.e j=y:=⟨_,rfl⟩
           obtain⟨N,hN⟩:∃ y,es.length=y:=⟨_,rfl⟩
           have HES:Hid (M.e j=es):=hes
           have HN:Hid (es.length=N):=hN
           have HLst:Hid (0<N→∃ g,la=af g 0∧∀ i u,es[i]?=some u→wz.rangeAt g (i*6) u.cs):=by rw[← hN,← hes];exact hls
           rw[hes,hN]at sv
           rw[hes]at HDat HFd
           clear hls hla hms hXB hvo hes hN
           have HD1:Hid (wz.cell? ⟨w12.heap.size,1,none⟩=some (.int .u32 (SS:Nat))∧wz.cell? ⟨w12.heap.size,2,none⟩=some (.int .u32 (NN:Nat))∧wz.cell? ⟨w12.heap.size,8,none⟩=some (.slice ra 1 rc)):=⟨d1,d2,d8⟩
           go_wp2_with fail
           clear d1 d2 d7 d8
           go_loopw [120,16,18,121,122,123,124,125,126,127,128,129,130,131,132,133,134,135,136,137,138,139,140,141,142,143,144,145,146,147,148] (fun ii ff _ _ _ _ _ _ _ _ _ _ _ _ _ _ _ _ _ _ _ _ _ _ _ _ _ _ _ _ _ wr=>∃ i:Nat,i≤N∧ii=.int .i64 ((i:Nat):Int)∧ff=.bool ((es.take i).any (oj SS NN XB))∧Hid (Below wz.heap.size wz wr)) (fun ii ff _ _ _ _ _ _ _ _ _ _ _ _ _ _ _ _ _ _ _ _ _ _ _ _ _ _ _ _ _ _=>N-cQ ii)
           case atStart=>exact⟨0,Nat.zero_le _,rfl,rfl,Below.refl _ _⟩
           case round=>
            obtain⟨i,hi,rfl,hff,HBi⟩:=hrel
            by_cases hin:i<N
            ·have hin':((i:Nat):Int) < ((N:Nat):Int):=by omega
             have hib:((i:Nat):Int)<400:=by
              have q:=HMj.out.2.2 j hj2
              rw[HES.out,HN.out]at q
              omega
             obtain⟨u,hu⟩:∃ u,es[i]?=some u:=⟨_,List.getElem?_eq_getElem (by rw[HN.out];exact hin)⟩
             obtain⟨g,hg1,hg2⟩:=HLst.out (by omega)
             subst hg1
             have rl:wr.rangeAt g (i*6) (#[.int .i64 u.k,.int .u32 (u.c:Nat),.int .u32 (u.s:Nat),.int .u32 (u.n:Nat),.int .i64 u.f,.slice u.a u.l u.p]:Array Value).toList:=abj (hg2 i u hu) HBi.out
             have Ru:=(HDat.out u (List.mem_of_getElem? hu)).below HBi.out
             have bn:=aF (Below.refl _ wr) (.cells #[.int .i64 u.k,.int .u32 (u.c:Nat),.int .u32 (u.s:Nat),.int .u32 (u.n:Nat),.int .i64 u.f,.slice u.a u.l u.p] 50)
             have qu:=eT u.a u.l u.p u.b _ (Ru.below bn)
             have qd:=eT ra 1 rc (co (S2.hs j).v) _ ((HRz.out.below HBi.out).below bn)
             have HBn:Hid (Below wz.heap.size wz (wr.alloc (.cells #[.int .i64 u.k,.int .u32 (u.c:Nat),.int .u32 (u.s:Nat),.int .u32 (u.n:Nat),.int .i64 u.f,.slice u.a u.l u.p] 50))):=HBi.out.trans (bn.mono HBi.out.size)
             have y1:(wr.alloc (.cells #[.int .i64 u.k,.int .u32 (u.c:Nat),.int .u32 (u.s:Nat),.int .u32 (u.n:Nat),.int .i64 u.f,.slice u.a u.l u.p] 50)).cell? ⟨w12.heap.size,1,none⟩=some (.int .u32 (SS:Nat)):=ag HD1.out.1 HBn.out
             have y2:(wr.alloc (.cells #[.int .i64 u.k,.int .u32 (u.c:Nat),.int .u32 (u.s:Nat),.int .u32 (u.n:Nat),.int .i64 u.f,.slice u.a u.l u.p] 50)).cell? ⟨w12.heap.size,2,none⟩=some (.int .u32 (NN:Nat)):=ag HD1.out.2.1 HBn.out
             have y8:(wr.alloc (.cells #[.int .i64 u.k,.int .u32 (u.c:Nat),.int .u32 (u.s:Nat),.int .u32 (u.n:Nat),.int .i64 u.f,.slice u.a u.l u.p] 50)).cell? ⟨w12.heap.size,8,none⟩=some (.slice ra 1 rc):=ag HD1.out.2.2 HBn.out
             rw[HXB.out]at qd
             obtain⟨f,hf⟩:∃ y,(es.take i).any (oj SS NN XB)=y:=⟨_,rfl⟩
             rw[hf]at hff
             subst hff
             obtain⟨XU,hXU⟩:∃ y,BA u.b u.l=y:=⟨_,rfl⟩
             rw[hXU]at qu
             have HXU:Hid (BA u.b u.l=XU):=hXU
             have HRL:Hid (_):=rl
             have hiu:(prog.info? 50).map (·.size)=some (#[.int .i64 u.k,.int .u32 (u.c:Nat),.int .u32 (u.s:Nat),.int .u32 (u.n:Nat),.int .i64 u.f,.slice u.a u.l u.p]:Array Value).size:=by kernel_rfl
             clear Ru bn hg2 hXU rl
             go_upto_region 28 with (refine fA (by kernel_rfl) 50 (.tmp 122) rfl g (i*6) rfl #[.int .i64 u.k,.int .u32 (u.c:Nat),.int .u32 (u.s:Nat),.int .u32 (u.n:Nat),.int .i64 u.f,.slice u.a u.l u.p] _ HRL.out underlying50 rfl hiu ?_)
             as_aux_lemma=>
              cases f
              ·by_cases h1:u.s=SS
               ·have h1b:(((u.s:Nat):Int) == ((SS:Nat):Int))=true:=by rw[h1];simp
                by_cases h2:u.n=NN
                ·have h2b:(((u.n:Nat):Int) == ((NN:Nat):Int))=true:=by rw[h2];simp
                 by_cases h3:XU=XB
                 ·rw[h3]at qu
                  have H123:Hid (u.s=SS∧u.n=NN∧XU=XB):=⟨h1,h2,h3⟩
                  clear h1 h2 h3
                  go_wp2_with fail
                  refine⟨⟨i+1,by omega,by simp,(by rw[go _ hu,hf];(unfold oj;rw[HXU.out];simp[H123.out.1,H123.out.2.1,H123.out.2.2])),HBn⟩,?_⟩
                  have e1:cQ (.int .i64 ((i:Nat):Int))=i:=by simp[cQ]
                  have e2:cQ (.int .i64 (((i:Nat):Int)+1))=i+1:=by simp[cQ]
                  rw[e1,e2]
                  omega
                 ·have h3b:(XU.toList == XB.toList)=false:=by rw[← jh];exact decide_eq_false h3
                  have H3:Hid (¬ XU=XB):=h3
                  clear h1 h2 h3
                  go_wp2_with fail
                  refine⟨⟨i+1,by omega,by simp,(by rw[go _ hu,hf];(unfold oj;rw[HXU.out];simp[H3.out])),HBn⟩,?_⟩
                  have e1:cQ (.int .i64 ((i:Nat):Int))=i:=by simp[cQ]
                  have e2:cQ (.int .i64 (((i:Nat):Int)+1))=i+1:=by simp[cQ]
                  rw[e1,e2]
                  omega
                ·have h2b:(((u.n:Nat):Int) == ((NN:Nat):Int))=false:=by simp;omega
                 have H3:Hid (¬ u.n=NN):=h2
                 clear h1 h2
                 go_wp2_with fail
                 refine⟨⟨i+1,by omega,by simp,(by rw[go _ hu,hf];(unfold oj;simp[H3.out])),HBn⟩,?_⟩
                 have e1:cQ (.int .i64 ((i:Nat):Int))=i:=by simp[cQ]
                 have e2:cQ (.int .i64 (((i:Nat):Int)+1))=i+1:=by simp[cQ]
                 rw[e1,e2]
                 omega
               ·have h1b:(((u.s:Nat):Int) == ((SS:Nat):Int))=false:=by simp;omega
                have H3:Hid (¬ u.s=SS):=h1
                clear h1
                go_wp2_with fail
                refine⟨⟨i+1,by omega,by simp,(by rw[go _ hu,hf];(unfold oj;simp[H3.out])),HBn⟩,?_⟩
                have e1:cQ (.int .i64 ((i:Nat):Int))=i:=by simp[cQ]
                have e2:cQ (.int .i64 (((i:Nat):Int)+1))=i+1:=by simp[cQ]
                rw[e1,e2]
                omega
              ·go_wp2_with fail
               refine⟨⟨i+1,by omega,by simp,(by rw[go _ hu,hf];rfl),HBn⟩,?_⟩
               have e1:cQ (.int .i64 ((i:Nat):Int))=i:=by simp[cQ]
               have e2:cQ (.int .i64 (((i:Nat):Int)+1))=i+1:=by simp[cQ]
               rw[e1,e2]
               omega
            ·have hin':¬ ((i:Nat):Int) < ((N:Nat):Int):=by omega
             have hiN:i=N:=Nat.le_antisymm hi (Nat.le_of_not_lt hin)
             have hq:(es.take i).any (oj SS NN XB)=true:=by
              have q:=tf HFd.out.1
              rw[HN.out]at q
              rw[hiN]
              exact q
             rw[hq]at hff
             clear hiN hin hi hq
             subst hff
             have HBj:Hid (Below _ _ wr):=HBz.out.trans (HBi.out.mono HBz.out.size)
             have HRj:Hid (Row8 wr ra 1 rc (co (S2.hs j).v)):=HRz.out.below HBi.out
             have HSn:Hid (Jvq S2 (fun k=>(M.e k).map Ue.y) (fun k=>(aG M.z j (⟨0,0,SS,NN,0,ra,1,rc,co (S2.hs j).v⟩:Ue) k).y)):=by
              have q:=HGj.out.seen hj2 HE.out.2.2
              rw[HE.out.1,HE.out.2.1,← HVO.out]at q
              rw[mH]
              exact q
             have kl:wr.heap[M.l]?=_:=(HBi.out.block M.l (HMz.out.lt (by simp[Mg.U]))).trans HMz.out.lb
             have zr:=abj (HMz.out.last hj2) HBi.out
             have zd:=(HMz.out.dz j hj2).1.below HBi.out
             rw[HMj.out.2.1]at kl zr
             obtain⟨z,hz⟩:∃ y,M.z j=y:=⟨_,rfl⟩
             rw[hz]at zr zd
             have HFz:Hid ((z.s=SS∧z.n=NN→BA z.b z.l=XB)∧(¬ (z.s=SS∧z.n=NN)→z.s<SS∨(SS=z.s∧z.n<NN))):=by
              have q:=HFd.out.2
              rw[hz]at q
              exact q
             have z0:wr.cell? ⟨sB+1,j*6,none⟩=some (.int .i64 z.k):=zr 0 _ rfl
             have fz0:wr.frozen? ⟨sB+1,j*6,none⟩=false:=frozen_of_row wr (sB+1) _ _ _ kl
             have z1:wr.cell? ⟨sB+1,j*6+1,none⟩=some (.int .u32 (z.c:Nat)):=zr 1 _ rfl
             have fz1:wr.frozen? ⟨sB+1,j*6+1,none⟩=false:=frozen_of_row wr (sB+1) _ _ _ kl
             have z2:wr.cell? ⟨sB+1,j*6+2,none⟩=some (.int .u32 (z.s:Nat)):=zr 2 _ rfl
             have fz2:wr.frozen? ⟨sB+1,j*6+2,none⟩=false:=frozen_of_row wr (sB+1) _ _ _ kl
             have z3:wr.cell? ⟨sB+1,j*6+3,none⟩=some (.int .u32 (z.n:Nat)):=zr 3 _ rfl
             have fz3:wr.frozen? ⟨sB+1,j*6+3,none⟩=false:=frozen_of_row wr (sB+1) _ _ _ kl
             have z4:wr.cell? ⟨sB+1,j*6+4,none⟩=some (.int .i64 z.f):=zr 4 _ rfl
             have fz4:wr.frozen? ⟨sB+1,j*6+4,none⟩=false:=frozen_of_row wr (sB+1) _ _ _ kl
             have z5:wr.cell? ⟨sB+1,j*6+5,none⟩=some (.slice z.a z.l z.p):=zr 5 _ rfl
             have fz5:wr.frozen? ⟨sB+1,j*6+5,none⟩=false:=frozen_of_row wr (sB+1) _ _ _ kl
             have d1:wr.cell? ⟨w12.heap.size,1,none⟩=some (.int .u32 (SS:Nat)):=ag HD1.out.1 HBi.out
             have d2:wr.cell? ⟨w12.heap.size,2,none⟩=some (.int .u32 (NN:Nat)):=ag HD1.out.2.1 HBi.out
             have d8:wr.cell? ⟨w12.heap.size,8,none⟩=some (.slice ra 1 rc):=ag HD1.out.2.2 HBi.out
             obtain⟨XZ,hXZ⟩:∃ y,BA z.b z.l=y:=⟨_,rfl⟩
             rw[hXZ]at HFz
             have HZ2:Hid (BA z.b z.l=XZ∧wr.heap[sB+1]?=some (.cells ((M.z 0).cs ++ (M.z 1).cs).toArray 50 (0,0))∧Row8 wr z.a z.l z.p z.b):=⟨hXZ,kl,zd⟩
             have HC2:Hid ((wr.cell? ⟨sB+1,j*6+2,none⟩=some (.int .u32 (z.s:Nat))∧wr.cell? ⟨sB+1,j*6+3,none⟩=some (.int .u32 (z.n:Nat))∧wr.cell? ⟨w12.heap.size,1,none⟩=some (.int .u32 (SS:Nat))∧wr.cell? ⟨w12.heap.size,2,none⟩=some (.int .u32 (NN:Nat)))∧(wr.cell? ⟨sB+1,j*6+5,none⟩=some (.slice z.a z.l z.p)∧wr.cell? ⟨w12.heap.size,8,none⟩=some (.slice ra 1 rc))∧wr.rangeAt (sB+1) (j*6) z.cs):=⟨⟨z2,z3,d1,d2⟩,⟨z5,d8⟩,zr⟩
             obtain⟨SM,hSM⟩:∃ y:Bool,(decide (z.s=SS) && decide (z.n=NN))=y:=⟨_,rfl⟩
             have HSM:Hid ((decide (z.s=SS) && decide (z.n=NN))=SM):=hSM
             clear kl zr zd hz hXZ hSM z0 z1 z2 z3 z4 z5 fz0 fz1 fz2 fz3 fz4 fz5 d1 d2 d8
             go_upto_region 30 with fail
             go_cut [19] (fun s wx=>Hid (s=.bool SM∧∃ n,wx=wr.drewN n))
             case first=>
              as_aux_lemma=>
               obtain⟨⟨z2,z3,d1,d2⟩,_⟩:=HC2.out
               by_cases hs:z.s=SS
               ·have hsb:(((z.s:Nat):Int) == ((SS:Nat):Int))=true:=by rw[hs];simp
                by_cases hn:z.n=NN
                ·have hnb:(((z.n:Nat):Int) == ((NN:Nat):Int))=true:=by rw[hn];simp
                 have e:SM=true:=by rw[← HSM.out];simp[hs,hn]
                 clear hs hn
                 go_quiet (fail)
                 go_wp2_with fail
                 go_meet
                 case rel=>exact⟨by rw[e],_,rfl⟩
                ·have hnb:(((z.n:Nat):Int) == ((NN:Nat):Int))=false:=by simp;omega
                 have e:SM=false:=by rw[← HSM.out];simp[hn]
                 clear hs hn
                 go_quiet (fail)
                 go_wp2_with fail
                 go_meet
                 case rel=>exact⟨by rw[e],_,rfl⟩
               ·have hsb:(((z.s:Nat):Int) == ((SS:Nat):Int))=false:=by simp;omega
                have e:SM=false:=by rw[← HSM.out];simp[hs]
                clear hs
                go_quiet (fail)
                go_wp2_with fail
                go_meet
                case rel=>exact⟨by rw[e],_,rfl⟩
             case rest=>
             obtain⟨rfl,nw,hwc⟩:=hcut.out
             obtain⟨wp,hwp⟩:∃ y,wc=y:=⟨_,rfl⟩
             rw[hwp]at hwc ⊢
             have HWP:Hid (Below wr.heap.size wr wp):=by rw[hwc];exact cK (Below.refl _ _) _
             clear hcut hwc hwp
             go_upto_region 31 with fail
             go_cut [205] (fun v wx=>Hid (v=.bool false∧∃ n,wx=wp.drewN n))
             case first=>
              as_aux_lemma=>
               have HBp:Hid (Below wr.heap.size wr wp):=HWP.out
               cases SM
               ·have hAb:∀ wx,Calls prog 14 #[.int .u32 (SS:Nat),.int .u32 (NN:Nat),.int .u32 (z.s:Nat),.int .u32 (z.n:Nat)] wx fun r w'=>r=.returned (.bool true)∧w'=wx:=fun wx=>aaS SS NN z.s z.n wx (by
                 have q:=HSM.out
                 rcases HFz.out.2 (fun y=>by simp[y.1,y.2]at q) with y | y
                 ·exact .inl y
                 ·exact .inr y)
                obtain⟨z2,z3,d1,d2⟩:wp.cell? ⟨sB+1,j*6+2,none⟩=some (.int .u32 (z.s:Nat))∧wp.cell? ⟨sB+1,j*6+3,none⟩=some (.int .u32 (z.n:Nat))∧wp.cell? ⟨w12.heap.size,1,none⟩=some (.int .u32 (SS:Nat))∧wp.cell? ⟨w12.heap.size,2,none⟩=some (.int .u32 (NN:Nat)):=⟨ag HC2.out.1.1 HBp.out,ag HC2.out.1.2.1 HBp.out,ag HC2.out.1.2.2.1 HBp.out,ag HC2.out.1.2.2.2 HBp.out⟩
                go_quiet ((go_at_call 14;exact Calls.quiet_of_same (hAb _)))
                go_wp2_with fail
                go_meet
                case rel=>exact⟨rfl,_,rfl⟩
               ·have hx:XZ=XB:=HFz.out.1 (by have q:=HSM.out;simpa using q)
                have z5:=ag HC2.out.2.1.1 HBp.out
                have d8:=ag HC2.out.2.1.2 HBp.out
                have qz:∀ nn,(convert 37 9 (.slice z.a z.l z.p)).run prog (wp.drewN nn)=.ok (.string XB) (wp.drewN nn):=fun nn=>by
                 have q1:=eT z.a z.l z.p z.b _ (HZ2.out.2.2.below (cK HBp.out nn))
                 rw[HZ2.out.1,hx]at q1
                 exact q1
                have qd:∀ nn,(convert 37 9 (.slice ra 1 rc)).run prog (wp.drewN nn)=.ok (.string XB) (wp.drewN nn):=fun nn=>by
                 have q2:=eT ra 1 rc (co (S2.hs j).v) _ (HRj.out.below (cK HBp.out nn))
                 rw[HXB.out]at q2
                 exact q2
                have hxx:(XB.toList != XB.toList)=false:=by simp
                clear hx
                go_quiet (fail)
                go_wp2_with fail
                go_meet
                case rel=>exact⟨rfl,_,rfl⟩
             case rest=>
             obtain⟨rfl,nw,hwc⟩:=hcut.out
             obtain⟨wq,hwq⟩:∃ y,wc=y:=⟨_,rfl⟩
             rw[hwq]at hwc ⊢
             have HWQ:Hid (Below wr.heap.size wr wq):=by rw[hwc];exact cK HWP.out _
             have kl:wq.heap[sB+1]?=_:=(HWQ.out.block _ (Array.getElem?_eq_some_iff.1 HZ2.out.2.1).1).trans HZ2.out.2.1
             have zr:=abj HC2.out.2.2 HWQ.out
             have z0:wq.cell? ⟨sB+1,j*6,none⟩=some (.int .i64 z.k):=zr 0 _ rfl
             have fz0:wq.frozen? ⟨sB+1,j*6,none⟩=false:=frozen_of_row wq (sB+1) _ _ _ kl
             have z1:wq.cell? ⟨sB+1,j*6+1,none⟩=some (.int .u32 (z.c:Nat)):=zr 1 _ rfl
             have fz1:wq.frozen? ⟨sB+1,j*6+1,none⟩=false:=frozen_of_row wq (sB+1) _ _ _ kl
             have z2:wq.cell? ⟨sB+1,j*6+2,none⟩=some (.int .u32 (z.s:Nat)):=zr 2 _ rfl
             have fz2:wq.frozen? ⟨sB+1,j*6+2,none⟩=false:=frozen_of_row wq (sB+1) _ _ _ kl
             have z3:wq.cell? ⟨sB+1,j*6+3,none⟩=some (.int .u32 (z.n:Nat)):=zr 3 _ rfl
             have fz3:wq.frozen? ⟨sB+1,j*6+3,none⟩=false:=frozen_of_row wq (sB+1) _ _ _ kl
             have z4:wq.cell? ⟨sB+1,j*6+4,none⟩=some (.int .i64 z.f):=zr 4 _ rfl
             have fz4:wq.frozen? ⟨sB+1,j*6+4,none⟩=false:=frozen_of_row wq (sB+1) _ _ _ kl
             have z5:wq.cell? ⟨sB+1,j*6+5,none⟩=some (.slice z.a z.l z.p):=zr 5 _ rfl
             have fz5:wq.frozen? ⟨sB+1,j*6+5,none⟩=false:=frozen_of_row wq (sB+1) _ _ _ kl
             have d1:wq.cell? ⟨w12.heap.size,1,none⟩=some (.int .u32 (SS:Nat)):=ag HC2.out.1.2.2.1 HWQ.out
             have d2:wq.cell? ⟨w12.heap.size,2,none⟩=some (.int .u32 (NN:Nat)):=ag HC2.out.1.2.2.2 HWQ.out
             have d8:wq.cell? ⟨w12.heap.size,8,none⟩=some (.slice ra 1 rc):=ag HC2.out.2.1.2 HWQ.out
             clear hcut hwc hwq kl zr
             as_aux_lemma=>
              go_wp2_with fail
              refine⟨⟨j+1,by omega,by simp,?_⟩,?_⟩
              ·exact⟨({ M with z:=aG M.z j (⟨0,0,SS,NN,0,ra,1,rc,co (S2.hs j).v⟩:Ue),V:=((⟨0,0,SS,NN,0,ra,1,rc,co (S2.hs j).v⟩:Ue)).q ++ M.V }:Mg),HMj.out.1,HMj.out.2.1,HMj.out.2.2,HSn.out,qp (u:=(⟨0,0,SS,NN,0,ra,1,rc,co (S2.hs j).v⟩:Ue)) HMj.out.2.1 HPj.out (fun j=>by unfold ev;omega) (HBj.out.trans (HWQ.out.mono HBj.out.size)) hj2 (HRj.out.below HWQ.out) HNw.out⟩
              ·have e1:cQ (.int .i64 ((j:Nat):Int))=j:=by simp[cQ]
               have e2:cQ (.int .i64 (((j:Nat):Int)+1))=j+1:=by simp[cQ]
               rw[e1,e2]
               omega
         ·have hj2':¬ ((j:Nat):Int)<2:=by omega
          have HT:Hid (∃ M S,M.s=sB∧M.l=sB+1∧(∀ j,j<2→(M.e j).length≤k+1)∧Jvq S (fun k=>(M.e k).map Ue.y) (fun k=>(M.z k).y)∧PWn ev w1 (aJ (gw L) (2*0+1) (il M)) L wr S):=by
           obtain⟨M,q⟩:=HJ.out
           exact⟨M,S2,q⟩
          clear HJ
          go_wp2_with fail
          refine⟨⟨k+1,by omega,by omega,by simp,HT⟩,?_⟩
          have e1:cQ (.int .i64 ((k:Nat):Int))=k:=by simp[cQ]
          have e2:cQ (.int .i64 (((k:Nat):Int)+1))=k+1:=by simp[cQ]
          rw[e1,e2]
          omega
    ·have hEb:(E != 0)=true:=by simpa using hE
     have hEb2:(E == 0)=false:=by simpa using hE
     have hbd:S.bad m≠0:=by rw[← H8.out.1];exact hE
     have HT:Hid (∃ M S,M.s=sB∧M.l=sB+1∧(∀ j,j<2→(M.e j).length≤k+1)∧Jvq S (fun k=>(M.e k).map Ue.y) (fun k=>(M.z k).y)∧PWn ev w1 (aJ (gw L) (2*0+1) (il M)) L w9 S):=⟨M,_,HM.out.1,HM.out.2.1,(fun j hj=>Nat.le_succ_of_le (HM.out.2.2 j hj)),HG.out.1.skip hbd,hp9⟩
     clear H8 hp8 hp8' kM8 hp9 hrg1 hbl1 hbd
     go_wp2_with fail
     refine⟨⟨k+1,by omega,by omega,by simp,HT⟩,?_⟩
     have e1:cQ (.int .i64 ((k:Nat):Int))=k:=by simp[cQ]
     have e2:cQ (.int .i64 (((k:Nat):Int)+1))=k+1:=by simp[cQ]
     rw[e1,e2]
     omega
   ·have h3':¬ ((k:Nat):Int)<300:=by omega
    have HE:Hid (Below w1.heap.size w1 wr):=by
     obtain⟨M,S,_,_,_,_,t9,L9,h9,_⟩:=HI.out
     exact h9.1.bel
    clear HI
    go_wp2_with fail
    go_ret
    exact⟨rfl,HB1.out.trans (HE.out.mono HB1.out.size)⟩
  ·have hlt':¬ ((k:Nat):Int) < ((len:Nat):Int):=by omega
   have HE:Hid (Below w1.heap.size w1 wr):=by
    obtain⟨M,S,_,_,_,_,t9,L9,h9,_⟩:=HI.out
    exact h9.1.bel
   clear HI
   go_wp2_with fail
   go_ret
   exact⟨rfl,HB1.out.trans (HE.out.mono HB1.out.size)⟩
theorem topHost_walk (a0:Option Addr) (len0 cap0:Nat) (w:World) (w0:OpRow w a0 len0) :
  Calls prog 4 #[.slice a0 len0 cap0] w fun e w'=>e=.returned (.bool true)∧Below w.heap.size w w':=qv a0 len0 cap0 w w0
end Go.Proofs.YtenilkloffnjlaaGreat
