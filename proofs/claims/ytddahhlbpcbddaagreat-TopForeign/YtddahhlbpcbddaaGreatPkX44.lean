/- Part 45: contracts that the proof rests on. -/
import Derived.Test.YtddahhlbpcbddaaGreatPkX41
import Derived.Test.YtddahhlbpcbddaaGreatPkX43
set_option maxHeartbeats 64000000
set_option maxRecDepth 100000
namespace Go.Proofs.YtddahhlbpcbddaaGreat
open Tryz
open Go.RowKit Go.Maps
set_option linter.unusedVariables false
theorem ri (X:Nat) (A:Array Value) (i:Int) (w:World) (hi:i<0) (h10:A.toList[10]?=some (.int .i64 i)):Calls prog 13 #[ac X 0,.agg A] w fun r w'=>r=.returned (.tuple #[.agg bL,.bool false])∧Below w.heap.size w w':=by
 obtain⟨W,hW⟩:∃ y,(w.alloc (.cells A 45)).alloc (.cells bL 50)=y:=⟨_,rfl⟩
 obtain⟨x,hx⟩:∃ y,w.heap.size=y:=⟨_,rfl⟩
 have s1:=iy w (.cells A 45)
 have bW:Below w.heap.size w W:=by rw[← hW];exact az (az (Below.refl _ w) _) _
 have k0:W.heap[w.heap.size]?=some (.cells A 45 (0,0)):=by rw[← hW];exact (Below.heap_alloc _ _ _ (by omega)).trans (ay w _)
 have k1:W.heap[w.heap.size+1]?=some (.cells bL 50 (0,0)):=by rw[← hW];have:=ay (w.alloc (.cells A 45)) (.cells bL 50);rw[s1]at this;exact this
 rw[hx]at k0 k1
 have c10:W.cell? ⟨x,10,none⟩=some (.int .i64 i):=(ae W x 10 _ _ _ k0).trans (by rw[← Array.getElem?_toList];exact h10)
 have u0:W.cell? ⟨x+1,0,none⟩=some (.int .i64 0):=ae W (x+1) 0 _ _ _ k1
 have u1:W.cell? ⟨x+1,1,none⟩=some (.int .u32 0):=ae W (x+1) 1 _ _ _ k1
 have u2:W.cell? ⟨x+1,2,none⟩=some (.int .u32 0):=ae W (x+1) 2 _ _ _ k1
 have u3:W.cell? ⟨x+1,3,none⟩=some (.int .u32 0):=ae W (x+1) 3 _ _ _ k1
 have u4:W.cell? ⟨x+1,4,none⟩=some (.int .i64 0):=ae W (x+1) 4 _ _ _ k1
 have u5:W.cell? ⟨x+1,5,none⟩=some (.slice none 0 0):=ae W (x+1) 5 _ _ _ k1
 have uf:=fun k=>frozen_of_row W (x+1) k _ _ k1
 have e0:W.setCell ⟨x+1,0,none⟩ (.int .i64 0)=W:=bn k1 rfl
 have e1:W.setCell ⟨x+1,1,none⟩ (.int .u32 0)=W:=bn k1 rfl
 have e2:W.setCell ⟨x+1,2,none⟩ (.int .u32 0)=W:=bn k1 rfl
 have e3:W.setCell ⟨x+1,3,none⟩ (.int .u32 0)=W:=bn k1 rfl
 have e4:W.setCell ⟨x+1,4,none⟩ (.int .i64 0)=W:=bn k1 rfl
 have e5:W.setCell ⟨x+1,5,none⟩ (.slice none 0 0)=W:=bn k1 rfl
 have HB:Hid (Below w.heap.size w W):=bW
 have HE:Hid (_=W):=hW
 have HX:Hid (w.heap.size=x):=hx
 clear k0 k1 h10 s1 bW hW hx
 go_enter func13,ntmps13
 go_upto_region 1 with fail
 rw[HE.out,HX.out]
 go_wp2_with fail
 refine bodyPost_ret (v:=.tuple #[.agg bL,.bool false]) (by simp[results,results13,go_sem,u0,u1,u2,u3,u4,u5]) rfl ⟨rfl,HB.out⟩
theorem rA {e:Nat→Nat} {w0 w:World} {t:Nat→Thing} {L:Pw} {S:Ws} {F:Fm} {n:Nat} (A:Array Value) (h:PWn e w0 t L w S) (hn:n<S.bg.length) (hF:S.bg.getD n cV=F) (hD:DE F.2 F.1=0) (h10:A.toList[10]?=some (.int .i64 (n:Nat))) :
  Calls prog 13 #[ac L.x 0,.agg A] w fun r w'=>∃ a c,r=.returned (.tuple #[.agg #[.int .i64 (F.2 0:Nat),.int .u32 (aC F.2 1:Nat),.int .u32 (aC F.2 5:Nat),.int .u32 (aC F.2 9:Nat),.int .i64 (F.2 13:Nat),.slice a (F.1-19) c],.bool true])∧Hid (w'.ownsRow w.heap.size 5 1 (.slice a (F.1-19) c) (F.1-19) (CB (fun i=>F.2 (15+i)) (F.1-19))∧Below w.heap.size w w'):=by
 obtain⟨W,hW⟩:∃ y,(w.alloc (.cells A 45)).alloc (.cells bL 50)=y:=⟨_,rfl⟩
 obtain⟨x,hx⟩:∃ y,w.heap.size=y:=⟨_,rfl⟩
 have s1:=iy w (.cells A 45)
 have bW:Below w.heap.size w W:=by rw[← hW];exact az (az (Below.refl _ w) _) _
 have k0:W.heap[w.heap.size]?=some (.cells A 45 (0,0)):=by rw[← hW];exact (Below.heap_alloc _ _ _ (by omega)).trans (ay w _)
 have k1:W.heap[w.heap.size+1]?=some (.cells bL 50 (0,0)):=by rw[← hW];have:=ay (w.alloc (.cells A 45)) (.cells bL 50);rw[s1]at this;exact this
 rw[hx]at k0 k1
 have c10:W.cell? ⟨x,10,none⟩=some (.int .i64 (n:Nat)):=(ae W x 10 _ _ _ k0).trans (by rw[← Array.getElem?_toList];exact h10)
 have hn0:¬ ((n:Nat):Int)<0:=by omega
 have hFr:=rF ((n:Nat):Int) (h.below bW)
 rw[if_neg (by omega)]at hFr
 obtain⟨X,hX⟩:∃ y,L.x=y:=⟨_,rfl⟩
 rw[hX]at hFr ⊢
 have HB:Hid (Below w.heap.size w W):=bW
 have HE:Hid (_=W):=hW
 have HX:Hid (w.heap.size=x):=hx
 have HK:Hid (_):=k1
 have HN:Hid (n<S.bg.length):=hn
 clear k0 k1 h10 s1 bW hW hx hX
 go_enter func13,ntmps13
 go_upto_region 1 with fail
 rw[HE.out,HX.out]
 go_wp2_with fail
 refine hFr.mono ?_
 rintro r w1 ⟨a,m,ca,rfl,H1⟩
 clear hFr c10
 obtain⟨b1,q⟩:=H1.out
 obtain⟨rfl,R,nw⟩:=q (by omega)
 rw[Int.toNat_natCast,hF]at R
 rw[Int.toNat_natCast,hF]at *
 have hDc:=li a F.1 ca F.2 w1 R hD
 clear q R nw H1
 go_wp2_with fail
 refine hDc.mono ?_
 rintro r w2 ⟨a2,c2,rfl,H2⟩
 clear hDc
 have kU:=ay w2 (.cells #[.int .i64 (F.2 0:Nat),.int .u32 (aC F.2 1:Nat),.int .u32 (aC F.2 5:Nat),.int .u32 (aC F.2 9:Nat),.int .i64 (F.2 13:Nat),.slice a2 (F.1-19) c2] 50)
 have bU:=az (Below.refl _ w2) (.cells #[.int .i64 (F.2 0:Nat),.int .u32 (aC F.2 1:Nat),.int .u32 (aC F.2 5:Nat),.int .u32 (aC F.2 9:Nat),.int .i64 (F.2 13:Nat),.slice a2 (F.1-19) c2] 50)
 obtain⟨w3,hw3⟩:∃ y,w2.alloc (.cells #[.int .i64 (F.2 0:Nat),.int .u32 (aC F.2 1:Nat),.int .u32 (aC F.2 5:Nat),.int .u32 (aC F.2 9:Nat),.int .i64 (F.2 13:Nat),.slice a2 (F.1-19) c2] 50)=y:=⟨_,rfl⟩
 obtain⟨pu,hpu⟩:∃ y,w2.heap.size=y:=⟨_,rfl⟩
 rw[hw3]at kU bU
 rw[hpu]at kU
 have b13:Below W.heap.size W w3:=(b1.trans (H2.out.2.mono b1.size)).trans (bU.mono (Nat.le_trans b1.size H2.out.2.size))
 have k1:=(b13.block (x+1) (Array.getElem?_eq_some_iff.1 HK.out).1).trans HK.out
 have u0:w3.cell? ⟨pu,0,none⟩=some (.int .i64 (F.2 0:Nat)):=ae w3 pu 0 _ _ _ kU
 have u1:w3.cell? ⟨pu,1,none⟩=some (.int .u32 (aC F.2 1:Nat)):=ae w3 pu 1 _ _ _ kU
 have u2:w3.cell? ⟨pu,2,none⟩=some (.int .u32 (aC F.2 5:Nat)):=ae w3 pu 2 _ _ _ kU
 have u3:w3.cell? ⟨pu,3,none⟩=some (.int .u32 (aC F.2 9:Nat)):=ae w3 pu 3 _ _ _ kU
 have u4:w3.cell? ⟨pu,4,none⟩=some (.int .i64 (F.2 13:Nat)):=ae w3 pu 4 _ _ _ kU
 have u5:w3.cell? ⟨pu,5,none⟩=some (.slice a2 (F.1-19) c2):=ae w3 pu 5 _ _ _ kU
 have f0:w3.frozen? ⟨x+1,0,none⟩=false:=frozen_of_row w3 (x+1) 0 _ _ k1
 have f1:w3.frozen? ⟨x+1,1,none⟩=false:=frozen_of_row w3 (x+1) 1 _ _ k1
 have f2:w3.frozen? ⟨x+1,2,none⟩=false:=frozen_of_row w3 (x+1) 2 _ _ k1
 have f3:w3.frozen? ⟨x+1,3,none⟩=false:=frozen_of_row w3 (x+1) 3 _ _ k1
 have f4:w3.frozen? ⟨x+1,4,none⟩=false:=frozen_of_row w3 (x+1) 4 _ _ k1
 have f5:w3.frozen? ⟨x+1,5,none⟩=false:=frozen_of_row w3 (x+1) 5 _ _ k1
 have HW:Hid (Below W.heap.size W w3∧w2.heap.size≤w3.heap.size∧W.heap.size≤w1.heap.size∧w3.heap[x+1]?=some (.cells bL 50 (0,0))∧w3.ownsRow w1.heap.size 5 1 (.slice a2 (F.1-19) c2) (F.1-19) (CB (fun i=>F.2 (15+i)) (F.1-19))):=⟨b13,bU.size,b1.size,k1,cU H2.out.1 bU⟩
 clear kU bU b13 H2 b1
 have v0:w3.cell? ⟨x+1,0,none⟩=some (.int .i64 0):=ae w3 (x+1) 0 _ _ _ k1
 have v1:w3.cell? ⟨x+1,1,none⟩=some (.int .u32 0):=ae w3 (x+1) 1 _ _ _ k1
 have v2:w3.cell? ⟨x+1,2,none⟩=some (.int .u32 0):=ae w3 (x+1) 2 _ _ _ k1
 have v3:w3.cell? ⟨x+1,3,none⟩=some (.int .u32 0):=ae w3 (x+1) 3 _ _ _ k1
 have v4:w3.cell? ⟨x+1,4,none⟩=some (.int .i64 0):=ae w3 (x+1) 4 _ _ _ k1
 have v5:w3.cell? ⟨x+1,5,none⟩=some (.slice none 0 0):=ae w3 (x+1) 5 _ _ _ k1
 clear k1
 go_wp2_with fail
 have k1:=HW.out.2.2.2.1
 have kz:(((((((w3.setCell ⟨x+1,0,none⟩ (.int .i64 (F.2 0:Nat))).setCell ⟨x+1,1,none⟩ (.int .u32 (aC F.2 1:Nat))).setCell ⟨x+1,2,none⟩ (.int .u32 (aC F.2 5:Nat))).setCell ⟨x+1,3,none⟩ (.int .u32 (aC F.2 9:Nat))).setCell ⟨x+1,4,none⟩ (.int .i64 (F.2 13:Nat))).setCell ⟨x+1,5,none⟩ (.slice a2 (F.1-19) c2))).heap[x+1]?=some (.cells #[.int .i64 (F.2 0:Nat),.int .u32 (aC F.2 1:Nat),.int .u32 (aC F.2 5:Nat),.int .u32 (aC F.2 9:Nat),.int .i64 (F.2 13:Nat),.slice a2 (F.1-19) c2] 50 (0,0)):=(heap_setCell_same _ _ _ _ _ _ (heap_setCell_same _ _ _ _ _ _ (heap_setCell_same _ _ _ _ _ _ (heap_setCell_same _ _ _ _ _ _ (heap_setCell_same _ _ _ _ _ _ (heap_setCell_same _ _ _ _ _ _ k1))))))
 have oz:Off [x+1] w3 (((((((w3.setCell ⟨x+1,0,none⟩ (.int .i64 (F.2 0:Nat))).setCell ⟨x+1,1,none⟩ (.int .u32 (aC F.2 1:Nat))).setCell ⟨x+1,2,none⟩ (.int .u32 (aC F.2 5:Nat))).setCell ⟨x+1,3,none⟩ (.int .u32 (aC F.2 9:Nat))).setCell ⟨x+1,4,none⟩ (.int .i64 (F.2 13:Nat))).setCell ⟨x+1,5,none⟩ (.slice a2 (F.1-19) c2))):=((((((Off.setCell _ _ _ _).trans (Off.setCell _ _ _ _)).trans (Off.setCell _ _ _ _)).trans (Off.setCell _ _ _ _)).trans (Off.setCell _ _ _ _)).trans (Off.setCell _ _ _ _))
 obtain⟨wz,hwz⟩:∃ y,((((((w3.setCell ⟨x+1,0,none⟩ (.int .i64 (F.2 0:Nat))).setCell ⟨x+1,1,none⟩ (.int .u32 (aC F.2 1:Nat))).setCell ⟨x+1,2,none⟩ (.int .u32 (aC F.2 5:Nat))).setCell ⟨x+1,3,none⟩ (.int .u32 (aC F.2 9:Nat))).setCell ⟨x+1,4,none⟩ (.int .i64 (F.2 13:Nat))).setCell ⟨x+1,5,none⟩ (.slice a2 (F.1-19) c2))=y:=⟨_,rfl⟩
 rw[hwz]at kz oz ⊢
 have z0:wz.cell? ⟨x+1,0,none⟩=some (.int .i64 (F.2 0:Nat)):=ae wz (x+1) 0 _ _ _ kz
 have z1:wz.cell? ⟨x+1,1,none⟩=some (.int .u32 (aC F.2 1:Nat)):=ae wz (x+1) 1 _ _ _ kz
 have z2:wz.cell? ⟨x+1,2,none⟩=some (.int .u32 (aC F.2 5:Nat)):=ae wz (x+1) 2 _ _ _ kz
 have z3:wz.cell? ⟨x+1,3,none⟩=some (.int .u32 (aC F.2 9:Nat)):=ae wz (x+1) 3 _ _ _ kz
 have z4:wz.cell? ⟨x+1,4,none⟩=some (.int .i64 (F.2 13:Nat)):=ae wz (x+1) 4 _ _ _ kz
 have z5:wz.cell? ⟨x+1,5,none⟩=some (.slice a2 (F.1-19) c2):=ae wz (x+1) 5 _ _ _ kz
 refine bodyPost_ret (v:=.tuple #[.agg #[.int .i64 (F.2 0:Nat),.int .u32 (aC F.2 1:Nat),.int .u32 (aC F.2 5:Nat),.int .u32 (aC F.2 9:Nat),.int .i64 (F.2 13:Nat),.slice a2 (F.1-19) c2],.bool true]) (by simp[results,results13,go_sem,z0,z1,z2,z3,z4,z5]) rfl ⟨a2,c2,rfl,?_,?_⟩
 ·have o:=HW.out.2.2.2.2
  have l1:x+1<W.heap.size:=(Array.getElem?_eq_some_iff.1 HK.out).1
  have l2:=HW.out.2.2.1
  refine aP (aQ o (fun g hg=>oz.block g (o.lt g hg).2 (by have:=(o.lt g hg).1;simp;omega))) ?_
  have:=HX.out
  omega
 ·have hb:=HB.out
  exact oz.below (hb.trans (HW.out.1.mono hb.size)) (fun k hk=>by have:=HX.out;simp at hk;omega) (Nat.le_trans hb.size HW.out.1.size)
theorem tM (P:Pm) (mx n:Nat) (s:Sd):(bj P mx n s).e=0∨(bj P mx n s).e=70∨(bj P mx n s).e=80:=by
 have:=abI mx n s.ms.bs false s.ms
 unfold bj
 generalize nx mx n s.ms.bs false s.ms=X at *
 split
 ·exact .inr (.inr rfl)
 ·split
  ·exact this
  ·exact .inl rfl
theorem wu (P:Pm) (mx n:Nat) (s:Sd) (k ss num fl len:Nat) (bs:Nat→Nat):(aR P mx n s k ss num fl len bs).e≠43∧(aR P mx n s k ss num fl len bs).e≠44∧(aR P mx n s k ss num fl len bs).e≠42:=by
 have r:∀ x:Int,(x=91∨x=130)→(aN P s x).e≠43∧(aN P s x).e≠44∧(aN P s x).e≠42:=fun x hx=>by
  show x≠43∧x≠44∧x≠42
  omega
 have z:((0:Int)≠43∧(0:Int)≠44∧(0:Int)≠42):=by decide
 have y:((130:Int)≠43∧(130:Int)≠44∧(130:Int)≠42):=by decide
 unfold aR
 split
 ·split
  ·unfold bV
   split
   ·exact y
   ·split
    ·exact y
    ·have:=tM P mx n (bP s)
     omega
  ·exact r _ (.inl rfl)
 ·split
  ·split
   ·exact z
   ·exact r _ (.inl rfl)
  ·split
   ·exact z
   ·split
    ·exact z
    ·split
     ·exact z
     ·exact r _ (.inr rfl)
structure Qt (S:Ws) (m:Mv) (x:Int):Prop where
 e:(S.play m).e=x
 i:(S.play m).i = -1
 hs:((S.play m).S.hs m.c.toNat).st=(S.hs m.c.toNat).st∧((S.play m).S.hs m.c.toNat).ss=(S.hs m.c.toNat).ss∧((S.play m).S.hs m.c.toNat).nm=(S.hs m.c.toNat).nm∧((S.play m).S.hs m.c.toNat).sn=(S.hs m.c.toNat).sn∧((S.play m).S.hs m.c.toNat).dc=(S.hs m.c.toNat).dc∧((S.play m).S.hs m.c.toNat).v=(S.hs m.c.toNat).v
 ds:((S.play m).S.ds m.c.toNat).st=(S.ds m.c.toNat).st∧((S.play m).S.ds m.c.toNat).ss=(S.ds m.c.toNat).ss∧((S.play m).S.ds m.c.toNat).nm=(S.ds m.c.toNat).nm∧((S.play m).S.ds m.c.toNat).sn=(S.ds m.c.toNat).sn∧((S.play m).S.ds m.c.toNat).dc=(S.ds m.c.toNat).dc∧((S.play m).S.ds m.c.toNat).v=(S.ds m.c.toNat).v
theorem uw {S:Ws} {m:Mv} (h:S.Bv) (hb:S.bad m=0) (h3:m.k=3) {F:Fm} (hF:S.bg.getD m.f.toNat cV=F) :
  DE F.2 F.1=0∧(m.s=2→(S.ds m.c.toNat).st=6→Qt S m 70) ∧
  ((m.s=2→(S.ds m.c.toNat).st≠6)→((m.s=2∧cJ (F.2 0)=false)∨(m.s=1∧cJ (F.2 0)=true))→Qt S m 43) ∧
  ((m.s=2→(S.ds m.c.toNat).st≠6)→((m.s=2∧cJ (F.2 0)=true)∨(m.s=1∧cJ (F.2 0)=false))→aC F.2 1 ≠ (if m.s=1 then (S.PH m.c.toNat).c else (S.PD m.c.toNat).c)→Qt S m 44) ∧
  ((m.s=2→(S.ds m.c.toNat).st≠6)→((m.s=2∧cJ (F.2 0)=true)∨(m.s=1∧cJ (F.2 0)=false))→aC F.2 1=(if m.s=1 then (S.PH m.c.toNat).c else (S.PD m.c.toNat).c)→(S.play m).e≠43∧(S.play m).e≠44∧(S.play m).e≠42):=by
 have l:=Ws.Law.of hb
 obtain⟨e1,e2,e3⟩:=jA S hb
 have hfr:=l.fr (.inl h3)
 have hlt:m.f.toNat<S.bg.length:=by
  have:m.f < ((S.bg.length:Nat):Int):=hfr.2
  omega
 have hmem:F ∈ S.bg:=by
  rw[← hF,List.getD_eq_getElem?_getD,List.getElem?_eq_getElem hlt]
  exact List.getElem_mem _
 have hDE:=h _ hmem
 have hfe:S.fr m=F:=by unfold Ws.fr;rw[if_neg (by omega)];exact hF
 have hk:(m.k=3∨m.k=4):=.inl h3
 have hKD:cJ (F.2 0)=false→fd (F.2 0)=true:=by
  intro z
  cases y:fd (F.2 0)
  ·have:=(ig hDE).2.2.2
   unfold LW at this
   rw[if_pos ⟨z,y⟩]at this
   cases this
  ·rfl
 have hKH:cJ (F.2 0)=true→fd (F.2 0)=false:=by
  intro z
  unfold cJ at z
  simp at z
  exact eX (by omega)
 have hI:∀ f,f.1=0→(m.s≠1→(au (S.PD m.c.toNat) S.mx 16 (S.ds m.c.toNat) F.1 F.2).f=f)→(S.play m).i = -1:=by
  intro f hf hd
  have hp:(S.play m).i=(S.up.act m).i:=by
   unfold Ws.play
   rw[if_neg (fun q=>q hb)]
   rfl
  rw[hp]
  unfold Ws.act
  dsimp only
  rw[if_neg (by omega),if_neg (by omega),if_pos hk]
  split
  ·rfl
  ·next q1=>
   unfold Ws.toD
   dsimp only
   show (S.up.toD2 m.c.toNat (S.fr m)).putI (au (S.PD m.c.toNat) S.mx 16 (S.ds m.c.toNat) (S.fr m).1 (S.fr m).2).f = -1
   rw[hfe,hd q1]
   unfold Ws.putI
   rw[if_pos hf]
 have d:S.actDF m=(if m.s=1 then S.ds m.c.toNat else (au (S.PD m.c.toNat) S.mx 16 (S.ds m.c.toNat) (S.fr m).1 (S.fr m).2).s):=by unfold Ws.actDF;rw[if_neg (by omega),if_neg (by omega),if_pos hk]
 have g:S.actHF m=(if m.s=1 then bT (S.PH m.c.toNat) (S.hs m.c.toNat) (S.fr m).1 (S.fr m).2 else S.hs m.c.toNat):=by unfold Ws.actHF;rw[if_neg (by omega),if_neg (by omega),if_pos hk]
 have q:S.actEF m=(if m.s=1 then cI (S.PH m.c.toNat) (S.hs m.c.toNat) (S.fr m).1 (S.fr m).2 else (au (S.PD m.c.toNat) S.mx 16 (S.ds m.c.toNat) (S.fr m).1 (S.fr m).2).e):=by unfold Ws.actEF;rw[if_neg (by omega),if_neg (by omega),if_pos hk]
 rw[hfe]at d g q
 have nD:¬ DE F.2 F.1≠0:=fun z=>z hDE
 have QD:∀ x:Int,m.s=2→x≠0→x≠70→(S.ds m.c.toNat).st≠6→bF (S.PD m.c.toNat) S.mx 16 (S.ds m.c.toNat) F.1 F.2=⟨S.ds m.c.toNat,cV,x⟩→Qt S m x:=by
  intro x s2 x0 x7 u hh
  have n1:¬ m.s=1:=by omega
  have hr:au (S.PD m.c.toNat) S.mx 16 (S.ds m.c.toNat) F.1 F.2=⟨gv (S.ds m.c.toNat) x,cV,x⟩:=by
   unfold au
   rw[if_neg u,hh,if_pos ⟨x0,x7⟩]
  rw[if_neg n1]at d g q
  rw[hr]at d q
  refine⟨e3.trans q,hI cV rfl (fun _=>by rw[hr]),?_,?_⟩
  ·rw[e2,g]
   exact⟨rfl,rfl,rfl,rfl,rfl,rfl⟩
  ·rw[e1,d]
   exact⟨rfl,rfl,rfl,rfl,rfl,rfl⟩
 have QH:∀ x:Int,m.s=1→x≠0→cI (S.PH m.c.toNat) (S.hs m.c.toNat) F.1 F.2=x→Qt S m x:=by
  intro x s1 x0 hh
  have hr:bT (S.PH m.c.toNat) (S.hs m.c.toNat) F.1 F.2=fh (S.hs m.c.toNat) x:=by
   unfold bT
   rw[hh,if_pos x0]
  rw[if_pos s1]at d g q
  rw[hr]at g
  rw[hh]at q
  refine⟨e3.trans q,hI cV rfl (fun y=>absurd s1 y),?_,?_⟩
  ·rw[e2,g]
   exact⟨rfl,rfl,rfl,rfl,rfl,rfl⟩
  ·rw[e1,d]
   exact⟨rfl,rfl,rfl,rfl,rfl,rfl⟩
 refine⟨hDE,?_,?_,?_,?_⟩
 ·intro s2 u
  have n1:¬ m.s=1:=by omega
  have hr:au (S.PD m.c.toNat) S.mx 16 (S.ds m.c.toNat) F.1 F.2=⟨S.ds m.c.toNat,cV,70⟩:=by
   unfold au
   rw[if_pos u]
  rw[if_neg n1]at d g q
  rw[hr]at d q
  refine⟨e3.trans q,hI cV rfl (fun _=>by rw[hr]),?_,?_⟩
  ·rw[e2,g]
   exact⟨rfl,rfl,rfl,rfl,rfl,rfl⟩
  ·rw[e1,d]
   exact⟨rfl,rfl,rfl,rfl,rfl,rfl⟩
 ·rintro u (⟨s2,k⟩ | ⟨s1,k⟩)
  ·refine QD 43 s2 (by decide) (by decide) (u s2) ?_
   unfold bF
   rw[if_neg nD,if_pos k]
  ·refine QH 43 s1 (by decide) ?_
   unfold cI fw
   rw[if_neg nD,if_pos (hKH k)]
 ·rintro u (⟨s2,k⟩ | ⟨s1,k⟩) c
  ·rw[if_neg (by omega)]at c
   refine QD 44 s2 (by decide) (by decide) (u s2) ?_
   unfold bF
   rw[if_neg nD,if_neg (by rw[k];decide),if_pos c]
  ·rw[if_pos s1]at c
   refine QH 44 s1 (by decide) ?_
   unfold cI fw
   rw[if_neg nD,if_neg (by rw[hKD k];decide),if_pos c]
 ·rintro u (⟨s2,k⟩ | ⟨s1,k⟩) c
  ·rw[if_neg (by omega)]at c q
   rw[e3,q]
   have hh:bF (S.PD m.c.toNat) S.mx 16 (S.ds m.c.toNat) F.1 F.2=aR (S.PD m.c.toNat) S.mx 16 (S.ds m.c.toNat) (F.2 0) (aC F.2 5) (aC F.2 9) (F.2 13) (F.1-19) (fun i=>F.2 (15+i)):=by
    unfold bF
    rw[if_neg nD,if_neg (by rw[k];decide),if_neg (fun z=>z c)]
   have hr:(au (S.PD m.c.toNat) S.mx 16 (S.ds m.c.toNat) F.1 F.2).e=(bF (S.PD m.c.toNat) S.mx 16 (S.ds m.c.toNat) F.1 F.2).e:=by
    unfold au
    rw[if_neg (u s2)]
    split <;> rfl
   rw[hr,hh]
   exact wu _ _ _ _ _ _ _ _ _ _
  ·rw[if_pos s1]at c q
   rw[e3,q]
   unfold cI fw
   rw[if_neg nD,if_neg (by rw[hKD k];decide),if_neg (fun z=>z c)]
   split
   ·unfold iN
    split
    ·decide
    ·split <;> decide
   ·split <;> decide
open Go.RowKit Go.Maps Go.Sort
theorem yy (w:World):Calls prog 26 #[.int .i64 2] w fun r w'=>∃ a0 c0 a1 c1,r=.returned (.agg #[.slice a0 3 c0,.slice a1 3 c1,.int .u32 50])∧Hid (w'.ownsRow (w.heap.size+2) 90 5 (.slice a0 3 c0) 3 (ei 3 fo)∧w'.ownsRow (w.heap.size+2) 90 5 (.slice a1 3 c1) 3 (ei 3 fo)∧(∀ g,(Value.slice a0 3 c0).ownBlock=some g→(Value.slice a1 3 c1).ownBlock≠some g)∧Below w.heap.size w w'):=by
 have hS:=fun wx=>qC wx
 go_enter func26,ntmps26
 go_wp2_with fail
 have HS:Hid (Sp w ((w.alloc (.cells #[.slice none 0 0,.slice none 0 0,.int .u32 0] 30)).alloc (.cells #[.slice none 0 0,.slice none 0 0,.int .u32 50] 30)) 0 none 0 none 0):=by
  have a1':=ay w (.cells #[.slice none 0 0,.slice none 0 0,.int .u32 0] 30)
  have a2':=ay (w.alloc (.cells #[.slice none 0 0,.slice none 0 0,.int .u32 0] 30)) (.cells #[.slice none 0 0,.slice none 0 0,.int .u32 50] 30)
  simp only[World.size_alloc]at a1' a2'
  refine⟨az (az (Below.refl _ _) _) _,?_,a2',⟨by simp[ei],.inl ⟨rfl,rfl⟩⟩,⟨by simp[ei],.inl ⟨rfl,rfl⟩⟩,fun g hg=>by cases hg⟩
  exact ((az (Below.refl _ _) _).block _ (by simp)).trans a1'
 go_loopw [4,5,7,8,9,10,11,12,13,14,15,16,17,18,19,20,21,22,23,24,25,26,27,28,29,30,31,32,33,34] (fun c _ _ _ _ _ _ _ _ _ _ _ _ _ _ _ _ _ _ _ _ _ _ _ _ _ _ _ _ _ wr=>∃ (i:Nat) (va:Option Addr) (vc:Nat) (ua:Option Addr) (uc:Nat),i≤3∧c=.int .i64 ((i:Nat):Int)∧Hid (Sp w wr i va vc ua uc)) (fun c _ _ _ _ _ _ _ _ _ _ _ _ _ _ _ _ _ _ _ _ _ _ _ _ _ _ _ _ _ _=>3-il c)
 case atStart=>exact⟨0,none,0,none,0,by omega,rfl,HS⟩
 case round=>
  obtain⟨i,va,vc,ua,uc,hi,rfl,HI⟩:=hrel
  clear HS
  have hi3:i=0∨i=1∨i=2∨i=3:=by omega
  rcases hi3 with rfl | rfl | rfl | rfl
  ·obtain⟨i0,hI,hz0,hz1,hz2⟩:=info_parts dX
   go_wp2_with fail
   refine (hS _).mono ?_
   rintro r w3 ⟨rfl,b3⟩
   have q0:=ag (ae wr _ 0 _ _ _ HI.out.xb) (az b3 (.cells aT 90))
   have q1:=ag (ae wr _ 1 _ _ _ HI.out.xb) (az b3 (.cells aT 90))
   have b4:=az (az b3 (.cells aT 90)) (.cells aT 90)
   have hrow:=bk HI.out.ov b4
   have lx:=(Array.getElem?_eq_some_iff.1 HI.out.xb).1
   have s3:=b3.size
   have nk:=ay (w3.alloc (.cells aT 90)) (.cells aT 90)
   simp only[World.size_alloc]at nk
   have hcl:∀ j u,(fo 0).cs[j]?=some u→((w3.alloc (.cells aT 90)).alloc (.cells aT 90)).cell? ((⟨w3.heap.size+1,0,none⟩:Addr).add j)=some u:=ep nk
   have hbs:w.heap.size+2 ≤ ((w3.alloc (.cells aT 90)).alloc (.cells aT 90)).heap.size:=by simp;omega
   go_wp2_with (at_builtin;refine wpList_append_own_at _ rfl (.tmp 24) (.tmp 26) 27 rfl (w.heap.size+2) 90 i0 (.agg #[.int .u32 0,.int .i64 0,.int .i64 0,.int .i64 0,.int .u32 0]) 5 40 underlying27 hI hz0 hz1 hz2 rfl (by decide) (.slice va 0 vc) 0 (ei 0 fo) rfl hrow ⟨w3.heap.size+1,0,none⟩ 1 1 (fo 0).cs rfl rfl hcl (fq _) (by unfold maxLen;omega) (by omega) hbs ?_)
   intro v5 w5 o5 g5 _ s5
   obtain⟨x5,y5,rfl,hx5⟩:=em (n:=0) o5
   have nb:=fun g (hg:(Value.slice va 0 vc).ownBlock=some g)=>HI.out.ov.lt g hg
   have nu:=fun g (hg:(Value.slice ua 0 uc).ownBlock=some g)=>HI.out.ou.lt g hg
   have k5:w5.heap[w.heap.size+1]?=some (.cells #[.slice va 0 vc,.slice ua 0 uc,.int .u32 50] 30 (0,0)):=(g5.block _ (by simp;omega) (fun e=>by have:=(nb _ e.symm).1;omega)).trans ((b4.block _ lx).trans HI.out.xb)
   have p5:w5.heap[w3.heap.size]?=some (.cells aT 90 (0,0)):=(g5.block _ (by simp;omega) (fun e=>by have:=(nb _ e.symm).2;omega)).trans (((az (Below.refl _ _) _).block w3.heap.size (by simp)).trans (ay w3 (.cells aT 90)))
   have u5:w5.ownsRow (w.heap.size+2) 90 5 (.slice ua 0 uc) 0 (ei 0 fo):=aQ (bk HI.out.ou b4) (fun g hg=>g5.block g (by have:=(nu g hg).2;simp;omega) (fun e=>HI.out.dis g e.symm hg))
   have r0:=ae w5 _ 0 _ _ _ k5
   have r1:=ae w5 _ 1 _ _ _ k5
   have rz:=fun k=>frozen_of_row w5 _ k _ _ k5
   have t0:=ae w5 _ 0 _ _ _ p5
   have t1:=ae w5 _ 1 _ _ _ p5
   have t2:=ae w5 _ 2 _ _ _ p5
   have t3:=ae w5 _ 3 _ _ _ p5
   have t4:=ae w5 _ 4 _ _ _ p5
   have s5s:=g5.size
   simp only[World.size_alloc]at s5s
   have o6:Off [w.heap.size+1] w5 (w5.setCell ⟨w.heap.size+1,0,none⟩ (.slice (af x5 0) 1 y5)):=Off.setCell _ _ _ _
   have u7:((w5.setCell ⟨w.heap.size+1,0,none⟩ (.slice (af x5 0) 1 y5)).alloc (.cells aT 90)).ownsRow (w.heap.size+2) 90 5 (.slice ua 0 uc) 0 (ei 0 fo):=bk (aQ u5 (fun g hg=>o6.block g (by have:=(u5.lt g hg).2;omega) (by have:=(u5.lt g hg).1;simp;omega))) (az (Below.refl _ _) _)
   have nk7:=ay (w5.setCell ⟨w.heap.size+1,0,none⟩ (.slice (af x5 0) 1 y5)) (.cells aT 90)
   have hs6:(w5.setCell ⟨w.heap.size+1,0,none⟩ (.slice (af x5 0) 1 y5)).heap.size=w5.heap.size:=by simp[World.setCell]
   rw[hs6]at nk7
   have hcl7:∀ j u,(fo 0).cs[j]?=some u→((w5.setCell ⟨w.heap.size+1,0,none⟩ (.slice (af x5 0) 1 y5)).alloc (.cells aT 90)).cell? ((⟨w5.heap.size,0,none⟩:Addr).add j)=some u:=ep nk7
   have hbs7:w.heap.size+2 ≤ ((w5.setCell ⟨w.heap.size+1,0,none⟩ (.slice (af x5 0) 1 y5)).alloc (.cells aT 90)).heap.size:=by rw[World.size_alloc,hs6];omega
   have HH:Hid (_):=And.intro o5 (And.intro g5 (And.intro s5 (And.intro k5 (And.intro p5 (And.intro u5 (And.intro nb (And.intro nu b4)))))))
   clear o5 g5 s5 k5 p5 u5 hrow hcl hbs nk q0 q1 nk7 o6 nb nu
   go_wp2_with (at_builtin;refine wpList_append_own_at _ rfl (.tmp 30) (.tmp 32) 27 rfl (w.heap.size+2) 90 i0 (.agg #[.int .u32 0,.int .i64 0,.int .i64 0,.int .i64 0,.int .u32 0]) 5 40 underlying27 hI hz0 hz1 hz2 rfl (by decide) (.slice ua 0 uc) 0 (ei 0 fo) rfl u7 ⟨w5.heap.size,0,none⟩ 1 1 (fo 0).cs rfl rfl hcl7 (fq _) (by unfold maxLen;omega) (by omega) hbs7 ?_)
   intro v8 w8 o8 g8 _ s8
   obtain⟨x8,y8,rfl,hx8⟩:=em (n:=0) o8
   have key:Hid (Sp w (w8.setCell ⟨w.heap.size+1,1,none⟩ (.slice (af x8 0) 1 y8)) 1 (af x5 0) y5 (af x8 0) y8∧w8.heap[w.heap.size+1]?=some (.cells #[.slice (af x5 0) 1 y5,.slice ua 0 uc,.int .u32 50] 30 (0,0))):=by
    obtain⟨o5,g5,s5,k5,p5,u5,nb,nu,b4⟩:=HH.out
    have hI':=HI.out
    have o6:Off [w.heap.size+1] w5 (w5.setCell ⟨w.heap.size+1,0,none⟩ (.slice (af x5 0) 1 y5)):=Off.setCell _ _ _ _
    have o9:Off [w.heap.size+1] w8 (w8.setCell ⟨w.heap.size+1,1,none⟩ (.slice (af x8 0) 1 y8)):=Off.setCell _ _ _ _
    have g8s:=g8.size
    rw[World.size_alloc,hs6]at g8s
    have wr2:w.heap.size+2≤wr.heap.size:=by omega
    have thr:∀ k,k<w5.heap.size→k≠w.heap.size+1→(∀ g,(Value.slice ua 0 uc).ownBlock=some g→k≠g)→(w8.setCell ⟨w.heap.size+1,1,none⟩ (.slice (af x8 0) 1 y8)).heap[k]?=w5.heap[k]?:=fun k hk h1 h2=>
     (o9.block k (by omega) (by simpa using h1)).trans ((g8.block k (by rw[World.size_alloc,hs6];omega) (fun e=>h2 k e.symm rfl)).trans (((az (Below.refl _ _) _).block k (by rw[hs6];exact hk)).trans (o6.block k hk (by simpa using h1))))
    have kk6:(w5.setCell ⟨w.heap.size+1,0,none⟩ (.slice (af x5 0) 1 y5)).heap[w.heap.size+1]?=some (.cells #[.slice (af x5 0) 1 y5,.slice ua 0 uc,.int .u32 50] 30 (0,0)):=heap_setCell_same _ _ _ _ _ _ k5
    have kk8:w8.heap[w.heap.size+1]?=some (.cells #[.slice (af x5 0) 1 y5,.slice ua 0 uc,.int .u32 50] 30 (0,0)):=(g8.block _ (by rw[World.size_alloc,hs6];omega) (fun e=>by have:=(nu _ e.symm).1;omega)).trans (((az (Below.refl _ _) _).block _ (by rw[hs6];omega)).trans kk6)
    have b5:Below w.heap.size w w5:=(hI'.bel.trans (b4.mono (by omega))).grown g5 (by simp;omega) (fun j hj=>by have:=(nb j hj).1;omega)
    have l5:=(o5.lt x5 rfl).2
    have xu:∀ g,(Value.slice ua 0 uc).ownBlock=some g→x5≠g:=fun g hg e=>by
     subst e
     rcases s5 with h | h
     ·exact hI'.dis x5 (h.symm.trans rfl) hg
     ·have h2:some x5=some _:=h
      simp only[Option.some.injEq]at h2
      have:=(nu _ hg).2
      omega
    refine⟨⟨?_,?_,heap_setCell_same _ _ _ _ _ _ kk8,?_,?_,?_⟩,kk8⟩
    ·have b6:=o6.below b5 (fun k hk=>by simp at hk;omega) b5.size
     have b7:=(b6.alloc (by rw[hs6];exact b5.size) (.cells aT 90)).grown g8 (by rw[World.size_alloc,hs6];have:=b5.size;omega) (fun j hj=>by have:=(nu j hj).1;omega)
     exact o9.below b7 (fun k hk=>by simp at hk;omega) b7.size
    ·rw[thr _ (by omega) (by omega) (fun g hg=>by have:=(nu g hg).1;omega)]
     exact (g5.block _ (by simp;omega) (fun e=>by have:=(nb _ e.symm).1;omega)).trans ((b4.block _ (by omega)).trans hI'.rb)
    ·rw[cy]
     exact aQ o5 (fun g hg=>by
      have e:g=x5:=by simpa [Value.ownBlock] using hg.symm
      subst e
      exact thr g l5 (by omega) xu)
    ·rw[cy]
     exact aQ o8 (fun g hg=>by
      have e:g=x8:=by simpa [Value.ownBlock] using hg.symm
      subst e
      exact o9.block g (o8.lt g rfl).2 (by simp;omega))
    ·intro g hg hg'
     cases hg
     have e8:x8=x5:=by simpa [Value.ownBlock] using hg'
     rcases s8 with h | h
     ·have h2:some x8=_:=h
      exact xu x8 h2.symm e8.symm
     ·have h2:some x8=some _:=h
      simp only[Option.some.injEq]at h2
      omega
   have HS:Hid (_):=key.out.1
   have f0:=ae w8 _ 0 _ _ _ key.out.2
   have f1:=ae w8 _ 1 _ _ _ key.out.2
   have fz:=fun k=>frozen_of_row w8 _ k _ _ key.out.2
   clear key o8 g8 s8 HH u7 hcl7 hbs7 HI
   go_wp2_with fail
   go_roundw
   case rel=>exact⟨1,_,_,_,_,by omega,by go_num,HS⟩
   case measure=>simp[il]
  ·obtain⟨i0,hI,hz0,hz1,hz2⟩:=info_parts dX
   go_wp2_with fail
   refine (hS _).mono ?_
   rintro r w3 ⟨rfl,b3⟩
   have q0:=ag (ae wr _ 0 _ _ _ HI.out.xb) (az b3 (.cells #[.int .u32 8,.int .i64 2,.int .i64 1,.int .i64 11,.int .u32 9] 90))
   have q1:=ag (ae wr _ 1 _ _ _ HI.out.xb) (az b3 (.cells #[.int .u32 8,.int .i64 2,.int .i64 1,.int .i64 11,.int .u32 9] 90))
   have b4:=az (az b3 (.cells #[.int .u32 8,.int .i64 2,.int .i64 1,.int .i64 11,.int .u32 9] 90)) (.cells #[.int .u32 8,.int .i64 2,.int .i64 1,.int .i64 11,.int .u32 9] 90)
   have hrow:=bk HI.out.ov b4
   have lx:=(Array.getElem?_eq_some_iff.1 HI.out.xb).1
   have s3:=b3.size
   have nk:=ay (w3.alloc (.cells #[.int .u32 8,.int .i64 2,.int .i64 1,.int .i64 11,.int .u32 9] 90)) (.cells #[.int .u32 8,.int .i64 2,.int .i64 1,.int .i64 11,.int .u32 9] 90)
   simp only[World.size_alloc]at nk
   have hcl:∀ j u,(fo 1).cs[j]?=some u→((w3.alloc (.cells #[.int .u32 8,.int .i64 2,.int .i64 1,.int .i64 11,.int .u32 9] 90)).alloc (.cells #[.int .u32 8,.int .i64 2,.int .i64 1,.int .i64 11,.int .u32 9] 90)).cell? ((⟨w3.heap.size+1,0,none⟩:Addr).add j)=some u:=ep nk
   have hbs:w.heap.size+2 ≤ ((w3.alloc (.cells #[.int .u32 8,.int .i64 2,.int .i64 1,.int .i64 11,.int .u32 9] 90)).alloc (.cells #[.int .u32 8,.int .i64 2,.int .i64 1,.int .i64 11,.int .u32 9] 90)).heap.size:=by simp;omega
   go_wp2_with (at_builtin;refine wpList_append_own_at _ rfl (.tmp 24) (.tmp 26) 27 rfl (w.heap.size+2) 90 i0 (.agg #[.int .u32 0,.int .i64 0,.int .i64 0,.int .i64 0,.int .u32 0]) 5 40 underlying27 hI hz0 hz1 hz2 rfl (by decide) (.slice va 1 vc) 1 (ei 1 fo) rfl hrow ⟨w3.heap.size+1,0,none⟩ 1 1 (fo 1).cs rfl rfl hcl (fq _) (by unfold maxLen;omega) (by omega) hbs ?_)
   intro v5 w5 o5 g5 _ s5
   obtain⟨x5,y5,rfl,hx5⟩:=em (n:=1) o5
   have nb:=fun g (hg:(Value.slice va 1 vc).ownBlock=some g)=>HI.out.ov.lt g hg
   have nu:=fun g (hg:(Value.slice ua 1 uc).ownBlock=some g)=>HI.out.ou.lt g hg
   have k5:w5.heap[w.heap.size+1]?=some (.cells #[.slice va 1 vc,.slice ua 1 uc,.int .u32 50] 30 (0,0)):=(g5.block _ (by simp;omega) (fun e=>by have:=(nb _ e.symm).1;omega)).trans ((b4.block _ lx).trans HI.out.xb)
   have p5:w5.heap[w3.heap.size]?=some (.cells #[.int .u32 8,.int .i64 2,.int .i64 1,.int .i64 11,.int .u32 9] 90 (0,0)):=(g5.block _ (by simp;omega) (fun e=>by have:=(nb _ e.symm).2;omega)).trans (((az (Below.refl _ _) _).block w3.heap.size (by simp)).trans (ay w3 (.cells #[.int .u32 8,.int .i64 2,.int .i64 1,.int .i64 11,.int .u32 9] 90)))
   have u5:w5.ownsRow (w.heap.size+2) 90 5 (.slice ua 1 uc) 1 (ei 1 fo):=aQ (bk HI.out.ou b4) (fun g hg=>g5.block g (by have:=(nu g hg).2;simp;omega) (fun e=>HI.out.dis g e.symm hg))
   have r0:=ae w5 _ 0 _ _ _ k5
   have r1:=ae w5 _ 1 _ _ _ k5
   have rz:=fun k=>frozen_of_row w5 _ k _ _ k5
   have t0:=ae w5 _ 0 _ _ _ p5
   have t1:=ae w5 _ 1 _ _ _ p5
   have t2:=ae w5 _ 2 _ _ _ p5
   have t3:=ae w5 _ 3 _ _ _ p5
   have t4:=ae w5 _ 4 _ _ _ p5
   have s5s:=g5.size
   simp only[World.size_alloc]at s5s
   have o6:Off [w.heap.size+1] w5 (w5.setCell ⟨w.heap.size+1,0,none⟩ (.slice (af x5 0) 2 y5)):=Off.setCell _ _ _ _
   have u7:((w5.setCell ⟨w.heap.size+1,0,none⟩ (.slice (af x5 0) 2 y5)).alloc (.cells #[.int .u32 8,.int .i64 2,.int .i64 1,.int .i64 11,.int .u32 9] 90)).ownsRow (w.heap.size+2) 90 5 (.slice ua 1 uc) 1 (ei 1 fo):=bk (aQ u5 (fun g hg=>o6.block g (by have:=(u5.lt g hg).2;omega) (by have:=(u5.lt g hg).1;simp;omega))) (az (Below.refl _ _) _)
   have nk7:=ay (w5.setCell ⟨w.heap.size+1,0,none⟩ (.slice (af x5 0) 2 y5)) (.cells #[.int .u32 8,.int .i64 2,.int .i64 1,.int .i64 11,.int .u32 9] 90)
   have hs6:(w5.setCell ⟨w.heap.size+1,0,none⟩ (.slice (af x5 0) 2 y5)).heap.size=w5.heap.size:=by simp[World.setCell]
   rw[hs6]at nk7
   have hcl7:∀ j u,(fo 1).cs[j]?=some u→((w5.setCell ⟨w.heap.size+1,0,none⟩ (.slice (af x5 0) 2 y5)).alloc (.cells #[.int .u32 8,.int .i64 2,.int .i64 1,.int .i64 11,.int .u32 9] 90)).cell? ((⟨w5.heap.size,0,none⟩:Addr).add j)=some u:=ep nk7
   have hbs7:w.heap.size+2 ≤ ((w5.setCell ⟨w.heap.size+1,0,none⟩ (.slice (af x5 0) 2 y5)).alloc (.cells #[.int .u32 8,.int .i64 2,.int .i64 1,.int .i64 11,.int .u32 9] 90)).heap.size:=by rw[World.size_alloc,hs6];omega
   have HH:Hid (_):=And.intro o5 (And.intro g5 (And.intro s5 (And.intro k5 (And.intro p5 (And.intro u5 (And.intro nb (And.intro nu b4)))))))
   clear o5 g5 s5 k5 p5 u5 hrow hcl hbs nk q0 q1 nk7 o6 nb nu
   go_wp2_with (at_builtin;refine wpList_append_own_at _ rfl (.tmp 30) (.tmp 32) 27 rfl (w.heap.size+2) 90 i0 (.agg #[.int .u32 0,.int .i64 0,.int .i64 0,.int .i64 0,.int .u32 0]) 5 40 underlying27 hI hz0 hz1 hz2 rfl (by decide) (.slice ua 1 uc) 1 (ei 1 fo) rfl u7 ⟨w5.heap.size,0,none⟩ 1 1 (fo 1).cs rfl rfl hcl7 (fq _) (by unfold maxLen;omega) (by omega) hbs7 ?_)
   intro v8 w8 o8 g8 _ s8
   obtain⟨x8,y8,rfl,hx8⟩:=em (n:=1) o8
   have key:Hid (Sp w (w8.setCell ⟨w.heap.size+1,1,none⟩ (.slice (af x8 0) 2 y8)) 2 (af x5 0) y5 (af x8 0) y8∧w8.heap[w.heap.size+1]?=some (.cells #[.slice (af x5 0) 2 y5,.slice ua 1 uc,.int .u32 50] 30 (0,0))):=by
    obtain⟨o5,g5,s5,k5,p5,u5,nb,nu,b4⟩:=HH.out
    have hI':=HI.out
    have o6:Off [w.heap.size+1] w5 (w5.setCell ⟨w.heap.size+1,0,none⟩ (.slice (af x5 0) 2 y5)):=Off.setCell _ _ _ _
    have o9:Off [w.heap.size+1] w8 (w8.setCell ⟨w.heap.size+1,1,none⟩ (.slice (af x8 0) 2 y8)):=Off.setCell _ _ _ _
    have g8s:=g8.size
    rw[World.size_alloc,hs6]at g8s
    have wr2:w.heap.size+2≤wr.heap.size:=by omega
    have thr:∀ k,k<w5.heap.size→k≠w.heap.size+1→(∀ g,(Value.slice ua 1 uc).ownBlock=some g→k≠g)→(w8.setCell ⟨w.heap.size+1,1,none⟩ (.slice (af x8 0) 2 y8)).heap[k]?=w5.heap[k]?:=fun k hk h1 h2=>
     (o9.block k (by omega) (by simpa using h1)).trans ((g8.block k (by rw[World.size_alloc,hs6];omega) (fun e=>h2 k e.symm rfl)).trans (((az (Below.refl _ _) _).block k (by rw[hs6];exact hk)).trans (o6.block k hk (by simpa using h1))))
    have kk6:(w5.setCell ⟨w.heap.size+1,0,none⟩ (.slice (af x5 0) 2 y5)).heap[w.heap.size+1]?=some (.cells #[.slice (af x5 0) 2 y5,.slice ua 1 uc,.int .u32 50] 30 (0,0)):=heap_setCell_same _ _ _ _ _ _ k5
    have kk8:w8.heap[w.heap.size+1]?=some (.cells #[.slice (af x5 0) 2 y5,.slice ua 1 uc,.int .u32 50] 30 (0,0)):=(g8.block _ (by rw[World.size_alloc,hs6];omega) (fun e=>by have:=(nu _ e.symm).1;omega)).trans (((az (Below.refl _ _) _).block _ (by rw[hs6];omega)).trans kk6)
    have b5:Below w.heap.size w w5:=(hI'.bel.trans (b4.mono (by omega))).grown g5 (by simp;omega) (fun j hj=>by have:=(nb j hj).1;omega)
    have l5:=(o5.lt x5 rfl).2
    have xu:∀ g,(Value.slice ua 1 uc).ownBlock=some g→x5≠g:=fun g hg e=>by
     subst e
     rcases s5 with h | h
     ·exact hI'.dis x5 (h.symm.trans rfl) hg
     ·have h2:some x5=some _:=h
      simp only[Option.some.injEq]at h2
      have:=(nu _ hg).2
      omega
    refine⟨⟨?_,?_,heap_setCell_same _ _ _ _ _ _ kk8,?_,?_,?_⟩,kk8⟩
    ·have b6:=o6.below b5 (fun k hk=>by simp at hk;omega) b5.size
     have b7:=(b6.alloc (by rw[hs6];exact b5.size) (.cells #[.int .u32 8,.int .i64 2,.int .i64 1,.int .i64 11,.int .u32 9] 90)).grown g8 (by rw[World.size_alloc,hs6];have:=b5.size;omega) (fun j hj=>by have:=(nu j hj).1;omega)
     exact o9.below b7 (fun k hk=>by simp at hk;omega) b7.size
    ·rw[thr _ (by omega) (by omega) (fun g hg=>by have:=(nu g hg).1;omega)]
     exact (g5.block _ (by simp;omega) (fun e=>by have:=(nb _ e.symm).1;omega)).trans ((b4.block _ (by omega)).trans hI'.rb)
    ·rw[cy]
     exact aQ o5 (fun g hg=>by
      have e:g=x5:=by simpa [Value.ownBlock] using hg.symm
      subst e
      exact thr g l5 (by omega) xu)
    ·rw[cy]
     exact aQ o8 (fun g hg=>by
      have e:g=x8:=by simpa [Value.ownBlock] using hg.symm
      subst e
      exact o9.block g (o8.lt g rfl).2 (by simp;omega))
    ·intro g hg hg'
     cases hg
     have e8:x8=x5:=by simpa [Value.ownBlock] using hg'
     rcases s8 with h | h
     ·have h2:some x8=_:=h
      exact xu x8 h2.symm e8.symm
     ·have h2:some x8=some _:=h
      simp only[Option.some.injEq]at h2
      omega
   have HS:Hid (_):=key.out.1
   have f0:=ae w8 _ 0 _ _ _ key.out.2
   have f1:=ae w8 _ 1 _ _ _ key.out.2
   have fz:=fun k=>frozen_of_row w8 _ k _ _ key.out.2
   clear key o8 g8 s8 HH u7 hcl7 hbs7 HI
   go_wp2_with fail
   go_roundw
   case rel=>exact⟨2,_,_,_,_,by omega,by go_num,HS⟩
   case measure=>simp[il]
  ·obtain⟨i0,hI,hz0,hz1,hz2⟩:=info_parts dX
   go_wp2_with fail
   refine (hS _).mono ?_
   rintro r w3 ⟨rfl,b3⟩
   have q0:=ag (ae wr _ 0 _ _ _ HI.out.xb) (az b3 (.cells #[.int .u32 9,.int .i64 2,.int .i64 1,.int .i64 12,.int .u32 9] 90))
   have q1:=ag (ae wr _ 1 _ _ _ HI.out.xb) (az b3 (.cells #[.int .u32 9,.int .i64 2,.int .i64 1,.int .i64 12,.int .u32 9] 90))
   have b4:=az (az b3 (.cells #[.int .u32 9,.int .i64 2,.int .i64 1,.int .i64 12,.int .u32 9] 90)) (.cells #[.int .u32 9,.int .i64 2,.int .i64 1,.int .i64 12,.int .u32 9] 90)
   have hrow:=bk HI.out.ov b4
   have lx:=(Array.getElem?_eq_some_iff.1 HI.out.xb).1
   have s3:=b3.size
   have nk:=ay (w3.alloc (.cells #[.int .u32 9,.int .i64 2,.int .i64 1,.int .i64 12,.int .u32 9] 90)) (.cells #[.int .u32 9,.int .i64 2,.int .i64 1,.int .i64 12,.int .u32 9] 90)
   simp only[World.size_alloc]at nk
   have hcl:∀ j u,(fo 2).cs[j]?=some u→((w3.alloc (.cells #[.int .u32 9,.int .i64 2,.int .i64 1,.int .i64 12,.int .u32 9] 90)).alloc (.cells #[.int .u32 9,.int .i64 2,.int .i64 1,.int .i64 12,.int .u32 9] 90)).cell? ((⟨w3.heap.size+1,0,none⟩:Addr).add j)=some u:=ep nk
   have hbs:w.heap.size+2 ≤ ((w3.alloc (.cells #[.int .u32 9,.int .i64 2,.int .i64 1,.int .i64 12,.int .u32 9] 90)).alloc (.cells #[.int .u32 9,.int .i64 2,.int .i64 1,.int .i64 12,.int .u32 9] 90)).heap.size:=by simp;omega
   go_wp2_with (at_builtin;refine wpList_append_own_at _ rfl (.tmp 24) (.tmp 26) 27 rfl (w.heap.size+2) 90 i0 (.agg #[.int .u32 0,.int .i64 0,.int .i64 0,.int .i64 0,.int .u32 0]) 5 40 underlying27 hI hz0 hz1 hz2 rfl (by decide) (.slice va 2 vc) 2 (ei 2 fo) rfl hrow ⟨w3.heap.size+1,0,none⟩ 1 1 (fo 2).cs rfl rfl hcl (fq _) (by unfold maxLen;omega) (by omega) hbs ?_)
   intro v5 w5 o5 g5 _ s5
   obtain⟨x5,y5,rfl,hx5⟩:=em (n:=2) o5
   have nb:=fun g (hg:(Value.slice va 2 vc).ownBlock=some g)=>HI.out.ov.lt g hg
   have nu:=fun g (hg:(Value.slice ua 2 uc).ownBlock=some g)=>HI.out.ou.lt g hg
   have k5:w5.heap[w.heap.size+1]?=some (.cells #[.slice va 2 vc,.slice ua 2 uc,.int .u32 50] 30 (0,0)):=(g5.block _ (by simp;omega) (fun e=>by have:=(nb _ e.symm).1;omega)).trans ((b4.block _ lx).trans HI.out.xb)
   have p5:w5.heap[w3.heap.size]?=some (.cells #[.int .u32 9,.int .i64 2,.int .i64 1,.int .i64 12,.int .u32 9] 90 (0,0)):=(g5.block _ (by simp;omega) (fun e=>by have:=(nb _ e.symm).2;omega)).trans (((az (Below.refl _ _) _).block w3.heap.size (by simp)).trans (ay w3 (.cells #[.int .u32 9,.int .i64 2,.int .i64 1,.int .i64 12,.int .u32 9] 90)))
   have u5:w5.ownsRow (w.heap.size+2) 90 5 (.slice ua 2 uc) 2 (ei 2 fo):=aQ (bk HI.out.ou b4) (fun g hg=>g5.block g (by have:=(nu g hg).2;simp;omega) (fun e=>HI.out.dis g e.symm hg))
   have r0:=ae w5 _ 0 _ _ _ k5
   have r1:=ae w5 _ 1 _ _ _ k5
   have rz:=fun k=>frozen_of_row w5 _ k _ _ k5
   have t0:=ae w5 _ 0 _ _ _ p5
   have t1:=ae w5 _ 1 _ _ _ p5
   have t2:=ae w5 _ 2 _ _ _ p5
   have t3:=ae w5 _ 3 _ _ _ p5
   have t4:=ae w5 _ 4 _ _ _ p5
   have s5s:=g5.size
   simp only[World.size_alloc]at s5s
   have o6:Off [w.heap.size+1] w5 (w5.setCell ⟨w.heap.size+1,0,none⟩ (.slice (af x5 0) 3 y5)):=Off.setCell _ _ _ _
   have u7:((w5.setCell ⟨w.heap.size+1,0,none⟩ (.slice (af x5 0) 3 y5)).alloc (.cells #[.int .u32 9,.int .i64 2,.int .i64 1,.int .i64 12,.int .u32 9] 90)).ownsRow (w.heap.size+2) 90 5 (.slice ua 2 uc) 2 (ei 2 fo):=bk (aQ u5 (fun g hg=>o6.block g (by have:=(u5.lt g hg).2;omega) (by have:=(u5.lt g hg).1;simp;omega))) (az (Below.refl _ _) _)
   have nk7:=ay (w5.setCell ⟨w.heap.size+1,0,none⟩ (.slice (af x5 0) 3 y5)) (.cells #[.int .u32 9,.int .i64 2,.int .i64 1,.int .i64 12,.int .u32 9] 90)
   have hs6:(w5.setCell ⟨w.heap.size+1,0,none⟩ (.slice (af x5 0) 3 y5)).heap.size=w5.heap.size:=by simp[World.setCell]
   rw[hs6]at nk7
   have hcl7:∀ j u,(fo 2).cs[j]?=some u→((w5.setCell ⟨w.heap.size+1,0,none⟩ (.slice (af x5 0) 3 y5)).alloc (.cells #[.int .u32 9,.int .i64 2,.int .i64 1,.int .i64 12,.int .u32 9] 90)).cell? ((⟨w5.heap.size,0,none⟩:Addr).add j)=some u:=ep nk7
   have hbs7:w.heap.size+2 ≤ ((w5.setCell ⟨w.heap.size+1,0,none⟩ (.slice (af x5 0) 3 y5)).alloc (.cells #[.int .u32 9,.int .i64 2,.int .i64 1,.int .i64 12,.int .u32 9] 90)).heap.size:=by rw[World.size_alloc,hs6];omega
   have HH:Hid (_):=And.intro o5 (And.intro g5 (And.intro s5 (And.intro k5 (And.intro p5 (And.intro u5 (And.intro nb (And.intro nu b4)))))))
   clear o5 g5 s5 k5 p5 u5 hrow hcl hbs nk q0 q1 nk7 o6 nb nu
   go_wp2_with (at_builtin;refine wpList_append_own_at _ rfl (.tmp 30) (.tmp 32) 27 rfl (w.heap.size+2) 90 i0 (.agg #[.int .u32 0,.int .i64 0,.int .i64 0,.int .i64 0,.int .u32 0]) 5 40 underlying27 hI hz0 hz1 hz2 rfl (by decide) (.slice ua 2 uc) 2 (ei 2 fo) rfl u7 ⟨w5.heap.size,0,none⟩ 1 1 (fo 2).cs rfl rfl hcl7 (fq _) (by unfold maxLen;omega) (by omega) hbs7 ?_)
   intro v8 w8 o8 g8 _ s8
   obtain⟨x8,y8,rfl,hx8⟩:=em (n:=2) o8
   have key:Hid (Sp w (w8.setCell ⟨w.heap.size+1,1,none⟩ (.slice (af x8 0) 3 y8)) 3 (af x5 0) y5 (af x8 0) y8∧w8.heap[w.heap.size+1]?=some (.cells #[.slice (af x5 0) 3 y5,.slice ua 2 uc,.int .u32 50] 30 (0,0))):=by
    obtain⟨o5,g5,s5,k5,p5,u5,nb,nu,b4⟩:=HH.out
    have hI':=HI.out
    have o6:Off [w.heap.size+1] w5 (w5.setCell ⟨w.heap.size+1,0,none⟩ (.slice (af x5 0) 3 y5)):=Off.setCell _ _ _ _
    have o9:Off [w.heap.size+1] w8 (w8.setCell ⟨w.heap.size+1,1,none⟩ (.slice (af x8 0) 3 y8)):=Off.setCell _ _ _ _
    have g8s:=g8.size
    rw[World.size_alloc,hs6]at g8s
    have wr2:w.heap.size+2≤wr.heap.size:=by omega
    have thr:∀ k,k<w5.heap.size→k≠w.heap.size+1→(∀ g,(Value.slice ua 2 uc).ownBlock=some g→k≠g)→(w8.setCell ⟨w.heap.size+1,1,none⟩ (.slice (af x8 0) 3 y8)).heap[k]?=w5.heap[k]?:=fun k hk h1 h2=>
     (o9.block k (by omega) (by simpa using h1)).trans ((g8.block k (by rw[World.size_alloc,hs6];omega) (fun e=>h2 k e.symm rfl)).trans (((az (Below.refl _ _) _).block k (by rw[hs6];exact hk)).trans (o6.block k hk (by simpa using h1))))
    have kk6:(w5.setCell ⟨w.heap.size+1,0,none⟩ (.slice (af x5 0) 3 y5)).heap[w.heap.size+1]?=some (.cells #[.slice (af x5 0) 3 y5,.slice ua 2 uc,.int .u32 50] 30 (0,0)):=heap_setCell_same _ _ _ _ _ _ k5
    have kk8:w8.heap[w.heap.size+1]?=some (.cells #[.slice (af x5 0) 3 y5,.slice ua 2 uc,.int .u32 50] 30 (0,0)):=(g8.block _ (by rw[World.size_alloc,hs6];omega) (fun e=>by have:=(nu _ e.symm).1;omega)).trans (((az (Below.refl _ _) _).block _ (by rw[hs6];omega)).trans kk6)
    have b5:Below w.heap.size w w5:=(hI'.bel.trans (b4.mono (by omega))).grown g5 (by simp;omega) (fun j hj=>by have:=(nb j hj).1;omega)
    have l5:=(o5.lt x5 rfl).2
    have xu:∀ g,(Value.slice ua 2 uc).ownBlock=some g→x5≠g:=fun g hg e=>by
     subst e
     rcases s5 with h | h
     ·exact hI'.dis x5 (h.symm.trans rfl) hg
     ·have h2:some x5=some _:=h
      simp only[Option.some.injEq]at h2
      have:=(nu _ hg).2
      omega
    refine⟨⟨?_,?_,heap_setCell_same _ _ _ _ _ _ kk8,?_,?_,?_⟩,kk8⟩
    ·have b6:=o6.below b5 (fun k hk=>by simp at hk;omega) b5.size
     have b7:=(b6.alloc (by rw[hs6];exact b5.size) (.cells #[.int .u32 9,.int .i64 2,.int .i64 1,.int .i64 12,.int .u32 9] 90)).grown g8 (by rw[World.size_alloc,hs6];have:=b5.size;omega) (fun j hj=>by have:=(nu j hj).1;omega)
     exact o9.below b7 (fun k hk=>by simp at hk;omega) b7.size
    ·rw[thr _ (by omega) (by omega) (fun g hg=>by have:=(nu g hg).1;omega)]
     exact (g5.block _ (by simp;omega) (fun e=>by have:=(nb _ e.symm).1;omega)).trans ((b4.block _ (by omega)).trans hI'.rb)
    ·rw[cy]
     exact aQ o5 (fun g hg=>by
      have e:g=x5:=by simpa [Value.ownBlock] using hg.symm
      subst e
      exact thr g l5 (by omega) xu)
    ·rw[cy]
     exact aQ o8 (fun g hg=>by
      have e:g=x8:=by simpa [Value.ownBlock] using hg.symm
      subst e
      exact o9.block g (o8.lt g rfl).2 (by simp;omega))
    ·intro g hg hg'
     cases hg
     have e8:x8=x5:=by simpa [Value.ownBlock] using hg'
     rcases s8 with h | h
     ·have h2:some x8=_:=h
      exact xu x8 h2.symm e8.symm
     ·have h2:some x8=some _:=h
      simp only[Option.some.injEq]at h2
      omega
   have HS:Hid (_):=key.out.1
   have f0:=ae w8 _ 0 _ _ _ key.out.2
   have f1:=ae w8 _ 1 _ _ _ key.out.2
   have fz:=fun k=>frozen_of_row w8 _ k _ _ key.out.2
   clear key o8 g8 s8 HH u7 hcl7 hbs7 HI
   go_wp2_with fail
   go_roundw
   case rel=>exact⟨3,_,_,_,_,by omega,by go_num,HS⟩
   case measure=>simp[il]
  ·have x0:=ae wr _ 0 _ _ _ HI.out.xb
   have x1:=ae wr _ 1 _ _ _ HI.out.xb
   have x2:=ae wr _ 2 _ _ _ HI.out.xb
   have y0:=ae wr _ 0 _ _ _ HI.out.rb
   have y1:=ae wr _ 1 _ _ _ HI.out.rb
   have y2:=ae wr _ 2 _ _ _ HI.out.rb
   have yz:=fun k=>frozen_of_row wr _ k _ _ HI.out.rb
   go_wp2_with fail
   refine bodyPost_ret (v:=.agg #[.slice va 3 vc,.slice ua 3 uc,.int .u32 50]) (by simp[results,results26,go_sem,y0,y1,y2]) rfl ?_
   have o:Off [w.heap.size] wr (((wr.setCell ⟨w.heap.size,0,none⟩ (.slice va 3 vc)).setCell ⟨w.heap.size,1,none⟩ (.slice ua 3 uc)).setCell ⟨w.heap.size,2,none⟩ (.int .u32 50)):=((Off.setCell _ _ _ _).trans (Off.setCell _ _ _ _)).trans (Off.setCell _ _ _ _)
   have hI:=HI.out
   exact⟨va,vc,ua,uc,rfl,(aQ hI.ov (fun g hg=>o.block g (hI.ov.lt g hg).2 (by have:=(hI.ov.lt g hg).1;simp;omega))),(aQ hI.ou (fun g hg=>o.block g (hI.ou.lt g hg).2 (by have:=(hI.ou.lt g hg).1;simp;omega))),hI.dis,o.below hI.bel (fun k hk=>by simp at hk;omega) hI.bel.size⟩
theorem aba (w:World):Calls prog 9 #[.int .i64 2,.int .u32 9] w fun r w'=>∃ g0 c0 g1 c1,r=.returned (.agg #[.slice (af g0 0) 3 c0,.slice (af g1 0) 3 c1,.int .u32 50])∧Hid (3≤c0∧3≤c1∧PqRow w' (af g0 0) 3 fo∧PqRow w' (af g1 0) 3 fo∧Below w.heap.size w w'):=by
 have hP:=fun wx=>yy wx
 have kx:=ay w (.cells #[.slice none 0 0,.slice none 0 0,.int .u32 0] 30)
 have bx:=az (Below.refl _ w) (.cells #[.slice none 0 0,.slice none 0 0,.int .u32 0] 30)
 have zx:=iy w (.cells #[.slice none 0 0,.slice none 0 0,.int .u32 0] 30)
 go_enter func9,ntmps9
 go_wp2_with fail
 refine (hP _).mono ?_
 rintro r w1 ⟨a0,c0,a1,c1,rfl,H1⟩
 obtain⟨g0,rfl,hg0⟩:=fM H1.out.1 (by decide)
 obtain⟨g1,rfl,hg1⟩:=fM H1.out.2.1 (by decide)
 clear hP
 have b1:=H1.out.2.2.2
 have kx1:=(b1.block w.heap.size (by rw[zx];omega)).trans kx
 have b2:Below w1.heap.size w1 (w1.alloc (.cells #[.slice (af g0 0) 3 c0,.slice (af g1 0) 3 c1,.int .u32 50] 30)):=az (Below.refl _ _) _
 have ky:=ay w1 (.cells #[.slice (af g0 0) 3 c0,.slice (af g1 0) 3 c1,.int .u32 50] 30)
 have lx1:w.heap.size<w1.heap.size:=(Array.getElem?_eq_some_iff.1 kx1).1
 have kx2:=(b2.block w.heap.size lx1).trans kx1
 have o0:=bk H1.out.1 b2
 have o1:=bk H1.out.2.1 b2
 have hg01:g0≠g1:=fun e=>H1.out.2.2.1 g0 rfl (by rw[e];rfl)
 obtain⟨w2,hw2⟩:∃ z,(w1.alloc (.cells #[.slice (af g0 0) 3 c0,.slice (af g1 0) 3 c1,.int .u32 50] 30))=z:=⟨_,rfl⟩
 rw[hw2]at ky kx2 o0 o1 b2
 obtain⟨cur0,k0⟩:=aL o0 rfl
 obtain⟨cur1,k1⟩:=aL o1 rfl
 have own_at0:∀ j u,(ei 3 fo)[j]?=some u→cur0[j]?=some u:=fun j u hu=>(ae w2 g0 j _ _ _ k0).symm.trans (fN o0 j u hu)
 have own_at1:∀ j u,(ei 3 fo)[j]?=some u→cur1[j]?=some u:=fun j u hu=>(ae w2 g1 j _ _ _ k1).symm.trans (fN o1 j u hu)
 have s00:w2.setCell ⟨g0,4,none⟩ (.int .u32 9)=w2:=bn k0 (own_at0 (4) _ rfl)
 have e00:w2.cell? ⟨g0,4,none⟩=some (.int .u32 9):=(ae w2 g0 4 _ _ _ k0).trans (own_at0 (4) _ rfl)
 have z00:w2.frozen? ⟨g0,4,none⟩=false:=frozen_of_row w2 g0 4 _ _ k0
 have s01:w2.setCell ⟨g0,9,none⟩ (.int .u32 9)=w2:=bn k0 (own_at0 (9) _ rfl)
 have e01:w2.cell? ⟨g0,9,none⟩=some (.int .u32 9):=(ae w2 g0 9 _ _ _ k0).trans (own_at0 (9) _ rfl)
 have z01:w2.frozen? ⟨g0,9,none⟩=false:=frozen_of_row w2 g0 9 _ _ k0
 have s02:w2.setCell ⟨g0,14,none⟩ (.int .u32 9)=w2:=bn k0 (own_at0 (14) _ rfl)
 have e02:w2.cell? ⟨g0,14,none⟩=some (.int .u32 9):=(ae w2 g0 14 _ _ _ k0).trans (own_at0 (14) _ rfl)
 have z02:w2.frozen? ⟨g0,14,none⟩=false:=frozen_of_row w2 g0 14 _ _ k0
 have s10:w2.setCell ⟨g1,4,none⟩ (.int .u32 9)=w2:=bn k1 (own_at1 (4) _ rfl)
 have e10:w2.cell? ⟨g1,4,none⟩=some (.int .u32 9):=(ae w2 g1 4 _ _ _ k1).trans (own_at1 (4) _ rfl)
 have z10:w2.frozen? ⟨g1,4,none⟩=false:=frozen_of_row w2 g1 4 _ _ k1
 have s11:w2.setCell ⟨g1,9,none⟩ (.int .u32 9)=w2:=bn k1 (own_at1 (9) _ rfl)
 have e11:w2.cell? ⟨g1,9,none⟩=some (.int .u32 9):=(ae w2 g1 9 _ _ _ k1).trans (own_at1 (9) _ rfl)
 have z11:w2.frozen? ⟨g1,9,none⟩=false:=frozen_of_row w2 g1 9 _ _ k1
 have s12:w2.setCell ⟨g1,14,none⟩ (.int .u32 9)=w2:=bn k1 (own_at1 (14) _ rfl)
 have e12:w2.cell? ⟨g1,14,none⟩=some (.int .u32 9):=(ae w2 g1 14 _ _ _ k1).trans (own_at1 (14) _ rfl)
 have z12:w2.frozen? ⟨g1,14,none⟩=false:=frozen_of_row w2 g1 14 _ _ k1
 have y0:=ae w2 _ 0 _ _ _ ky
 have y1:=ae w2 _ 1 _ _ _ ky
 have y2:=ae w2 _ 2 _ _ _ ky
 have x0:=ae w2 _ 0 _ _ _ kx2
 have x1:=ae w2 _ 1 _ _ _ kx2
 have x2:=ae w2 _ 2 _ _ _ kx2
 have xz:=fun k=>frozen_of_row w2 _ k _ _ kx2
 have HF:Hid (_):=And.intro o0 (And.intro o1 (And.intro b2 (And.intro b1 (And.intro hg0 hg1))))
 have HE:Hid ((w1.alloc (.cells #[.slice (af g0 0) 3 c0,.slice (af g1 0) 3 c1,.int .u32 50] 30))=w2):=hw2
 have HX:Hid (_):=And.intro bx zx
 clear ky kx2 o0 o1 b2 b1 k0 k1 own_at0 own_at1 kx kx1 hw2 H1 bx
 go_upto_region 2 with fail
 rw[HE.out]
 go_wp2_with fail
 refine wp_loop_rounds 4 ?_
 rw[rounds_succ]
 go_wp2_with fail
 rw[rounds_succ]
 go_wp2_with fail
 rw[rounds_succ]
 go_wp2_with fail
 rw[rounds_succ]
 go_wp2_with fail
 refine bodyPost_ret (v:=.agg #[.slice (af g0 0) 3 c0,.slice (af g1 0) 3 c1,.int .u32 50]) (by simp[results,results9,go_sem,x0,x1,x2]) rfl ?_
 have o:Off [w.heap.size] w2 (((w2.setCell ⟨w.heap.size,0,none⟩ (.slice (af g0 0) 3 c0)).setCell ⟨w.heap.size,1,none⟩ (.slice (af g1 0) 3 c1)).setCell ⟨w.heap.size,2,none⟩ (.int .u32 50)):=((Off.setCell _ _ _ _).trans (Off.setCell _ _ _ _)).trans (Off.setCell _ _ _ _)
 obtain⟨o0,o1,b2,b1,hg0,hg1⟩:=HF.out
 obtain⟨bx,zx⟩:=HX.out
 have bz:Below w.heap.size w w2:=(bx.trans (b1.mono bx.size)).trans (b2.mono (Nat.le_trans bx.size b1.size))
 exact⟨g0,c0,g1,c1,rfl,iO o0 (by decide),iO o1 (by decide),PqRow.ofOwn (aQ o0 (fun g hg=>o.block g (o0.lt g hg).2 (by have:=(o0.lt g hg).1;rw[zx]at this;simp;omega))),PqRow.ofOwn (aQ o1 (fun g hg=>o.block g (o1.lt g hg).2 (by have:=(o1.lt g hg).1;rw[zx]at this;simp;omega))),o.below bz (fun k hk=>by simp at hk;omega) bz.size⟩
end Go.Proofs.YtddahhlbpcbddaaGreat
