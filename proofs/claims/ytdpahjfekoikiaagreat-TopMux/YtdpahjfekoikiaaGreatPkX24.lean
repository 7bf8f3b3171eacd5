/- Part 25: contracts that the proof rests on. -/
import Derived.Test.YtdpahjfekoikiaaGreatPkX23
set_option maxHeartbeats 64000000
set_option maxRecDepth 100000
namespace Go.Proofs.YtdpahjfekoikiaaGreat
open Tryz
open Go.RowKit Go.Maps
theorem qi {b d c:Nat} {L:List Prt} {lost l mb nn:Nat} {D:DataW Unit} {w W:World} (h:MX w b L lost l mb nn D) (hd:d<w.heap.size) (cd:w.cell? ⟨d,0,none⟩=some (.int .u32 (c:Nat)))
  (hW:W=(w.alloc (.cells (lE 0 none 0 0 none) 155)).alloc (.cells #[aa d 0,aa w.heap.size 0] 97)) :
  Below w.heap.size w W∧MX W b L lost l mb nn D∧W.cell? ⟨b,0,none⟩=some (.map (some mb))∧W.cell? ⟨d,0,none⟩=some (.int .u32 (c:Nat))∧W.cell? ⟨w.heap.size+1,0,none⟩=some (aa d 0)∧W.cell? ⟨w.heap.size+1,1,none⟩=some (aa w.heap.size 0)∧Met W w.heap.size 0 none 0 0 none∧W.heap.size=w.heap.size+2:=by
 subst hW
 have o1:Off [] w (w.alloc (.cells (lE 0 none 0 0 none) 155)):=Off.alloc [] w _
 have o2:=fun o=>Off.alloc [] (w.alloc (.cells (lE 0 none 0 0 none) 155)) o
 have s1:(w.alloc (.cells (lE 0 none 0 0 none) 155)).heap.size=w.heap.size+1:=by simp
 have hb:=aB (w.alloc (.cells (lE 0 none 0 0 none) 155)) (.cells #[aa d 0,aa w.heap.size 0] 97)
 rw[s1]at hb
 have hm:=(h.off o1 (by simp)).off (o2 (.cells #[aa d 0,aa w.heap.size 0] 97)) (by simp)
 refine⟨(o1.trans (o2 _)).below (Below.refl _ _) (by simp) (Nat.le_refl _),hm,hm.c0,?_,ab _ _ 0 _ _ _ hb,ab _ _ 1 _ _ _ hb,(gp w).off (o2 _) (by simp),by simp⟩
 exact (World.cell?_of_block ((o1.trans (o2 _)).block d hd (by simp))).trans cd
theorem MX.put {b c d k:Nat} {L:List Prt} {lost l mb nn:Nat} {D:DataW Unit} {w w':World} (h:MX w b L lost l mb nn D) (hf:dO L c=none) (hc:c<4294967296) (o:Off [mb] w w') (hm:w'.ownsMap prog 27 qQ mb (nn+1) (D.put (.int .u32 (c:Nat)) (fK (some (d,k))))) (hk:Met w' k 0 none 0 0 none) (hkl:k≠l) (hkp:∀ p,p ∈ L→p.k≠k) (hbm:b≠mb) (hlm:l≠mb) (hpm:∀ p,p ∈ L→p.k≠mb) :
  MX w' b (L ++ [⟨c,d,k,0⟩]) lost l mb (nn+1) (D.put (.int .u32 (c:Nat)) (fK (some (d,k)))) where
 blk:=(o.block b (h.lt b (by simp[ix])) (by simpa using hbm)).trans h.blk
 los:=h.los.off o (by simpa using hlm)
 map:=hm
 nle:=by have:=h.nle;simp;omega
 siz:=by
  rw[size_put (h.map.tidy eI),h.has_ c hc,hf,h.siz]
  simp
 at_:=fun x hx=>by
  unfold dM
  rw[m6]
  by_cases e:x=c
  ·subst e
   rw[atKey_put_same h.map.isMap (by trivial),hf]
   simp[dO]
  ·rw[atKey_put_other (by simp;omega),h.at_ x hx]
   unfold dM
   cases dO L x with
   | none=>simp[dO,Ne.symm e]
   | some q=>rfl
 has_:=fun x hx=>by
  rw[m6]
  by_cases e:x=c
  ·subst e
   rw[has_put_same h.map.isMap (by trivial),hf]
   simp[dO]
  ·rw[has_put_other (by simp;omega),h.has_ x hx]
   cases dO L x with
   | none=>simp[dO,Ne.symm e]
   | some q=>rfl
 key:=fun x hx=>by
  by_cases e:x=(c:Int)
  ·exact⟨⟨c,d,k,0⟩,by simp,e⟩
  ·rw[has_put_other (by simpa using e)]at hx
   obtain⟨p,hp,e2⟩:=h.key x hx
   exact⟨p,by simp[hp],e2⟩
 met:=fun p hp=>by
  rcases List.mem_append.1 hp with hp | hp
  ·exact⟨(h.met p hp).1.off o (by simpa using hpm p hp),(h.met p hp).2⟩
  ·simp at hp
   subst hp
   exact⟨hk,hkl,hc⟩
 one:=by
  refine List.pairwise_append.2 ⟨h.one,by simp,fun p hp q hq=>?_⟩
  simp at hq
  subst hq
  exact⟨kq hf p hp,hkp p hp⟩
theorem MX.ne {b:Nat} {L:List Prt} {lost l mb nn:Nat} {D:DataW Unit} {w:World} (h:MX w b L lost l mb nn D):b≠mb∧l≠mb∧∀ p,p ∈ L→p.k≠mb:=by
 obtain⟨es,clock,hb,_⟩:=id h.map
 refine⟨fun e=>?_,fun e=>?_,fun p hp e=>?_⟩
 ·have:=h.blk
  rw[e,hb]at this
  cases this
 ·have:=h.los.at_
  rw[e,hb]at this
  cases this
 ·have:=(h.met p hp).1.at_
  rw[e,hb]at this
  cases this
def iz (L:List Prt) (c:Nat):Int:=if (dO L c).isSome then 160 else if 8≤L.length then 150 else 0
def iA (L:List Prt) (c d k:Nat):List Prt:=if (dO L c).isSome then L else if 8≤L.length then L else L ++ [⟨c,d,k,0⟩]
theorem gW (b d c:Nat) (L:List Prt) (lost:Nat) (V:List Nat) (w:World) (h:Mxx w b L lost V) (hc:c<4294967296) (cd:w.cell? ⟨d,0,none⟩=some (.int .u32 (c:Nat))) (hd:d<w.heap.size) (hL:L.length<1000000) :
  Calls prog 10 #[aa b 0,aa d 0] w fun e w'=>e=.returned (.int .i64 (iz L c))∧Hid (∃ V',Off V w w'∧Mxx w' b (iA L c d w.heap.size) lost V'∧∀ k,k ∈ V'→k ∈ V∨k=w.heap.size):=by
 obtain⟨l,mb,nn,D,h,hV⟩:=h
 have hq:=dS b mb w h.c0
 have hbl:=h.lt b (by simp[ix])
 go_enter func10,ntmps10
 go_wp2_with (first
  | (go_at_call 30;refine hq.mono ?_;rintro e w' ⟨rfl,hw⟩;have hw:=hw.symm;subst hw)
  | (go_at_call 24;refine (go _).mono ?_;rintro e w' ⟨rfl,hw⟩;have hw:=hw.symm;subst hw))
 generalize hW:((w.alloc (.cells (lE 0 none 0 0 none) 155)).alloc (.cells #[aa d 0,aa w.heap.size 0] 97))=W
 obtain⟨hB,hM,e1,e2,e3,e4,e6,e7⟩:=qi h hd cd hW.symm
 obtain⟨xa,xb,th,hX,hth⟩:∃ xa xb th,po (dM L c)=.agg #[.pointer xa,.pointer xb]∧(dO L c).isSome=th:=by
  unfold dM
  cases dO L c with
  | none=>exact⟨none,none,false,rfl,rfl⟩
  | some q=>exact⟨_,_,true,rfl,rfl⟩
 have hC:=eM d c W.drew e2
 have hk:=(hM.off (Off.drew [] W) (by simp)).look2 c hc
 have hs:W.drew.heap.size=w.heap.size+2:=e7
 have oW:Off [] W (W.alloc (.cells #[.pointer none,.pointer none] 97)).drew:=(Off.alloc [] W _).trans (Off.drew [] _)
 have hC2:=eM d c (W.alloc (.cells #[.pointer none,.pointer none] 97)).drew ((World.cell?_of_block (oW.block d (by omega) (by simp))).trans e2)
 have hk2:=(hM.off oW (by simp)).look2 c hc
 rw[hX,hth]at hk hk2
 have g1:(W.alloc (.cells #[.pointer none,.pointer none] 97)).drew.cell? ⟨b,0,none⟩=some (.map (some mb)):=(World.cell?_of_block (oW.block b (by omega) (by simp))).trans e1
 have g3:(W.alloc (.cells #[.pointer none,.pointer none] 97)).drew.cell? ⟨w.heap.size+1,0,none⟩=some (aa d 0):=(World.cell?_of_block (oW.block (w.heap.size+1) (by omega) (by simp))).trans e3
 have n1:¬ b=w.heap.size+2:=by omega
 have n2:¬ d=w.heap.size+2:=by omega
 have HM:Hid (_):=And.intro hB (And.intro hM (And.intro e6 (And.intro h (And.intro hV hth))))
 clear hW hB hM h hq oW hX hth e6 hV
 go_cut [7] (fun x7 wx=>x7=.bool th∧Hid (Off [] W wx))
 case first=>
  go_region_with (go_at_call 31;first | (refine hC.mono ?_;rintro e w2 ⟨rfl,hw⟩;have hw:=hw.symm;subst hw) | (refine hC2.mono ?_;rintro e w2 ⟨rfl,hw⟩;have hw:=hw.symm;subst hw))
  all_goals
   go_wp2_with fail
   go_meet
   exact⟨rfl,(Off.alloc [] W _).trans (Off.drew [] _)⟩
 case rest=>
  obtain⟨rfl,H⟩:=hcut
  clear hC hC2 hk hk2 g1 g3 n1 n2 hs
  obtain⟨hB,hM,e6,h,hV,hth⟩:=HM.out
  have oc:=H.out
  have hMc:=hM.off oc (by simp)
  have sc:=oc.size
  have hBw:Below w.heap.size w wc:=oc.below hB (by simp) hB.size
  have f1:=hMc.c0
  have f2:wc.cell? ⟨d,0,none⟩=some (.int .u32 (c:Nat)):=(World.cell?_of_block (oc.block d (by omega) (by simp))).trans e2
  have f3:wc.cell? ⟨w.heap.size+1,0,none⟩=some (aa d 0):=(World.cell?_of_block (oc.block (w.heap.size+1) (by omega) (by simp))).trans e3
  have f4:wc.cell? ⟨w.heap.size+1,1,none⟩=some (aa w.heap.size 0):=(World.cell?_of_block (oc.block (w.heap.size+1) (by omega) (by simp))).trans e4
  have hlen:=hMc.map.len underlying67 3
  rw[hMc.siz]at hlen
  clear HM H e1 e2 e3 e4
  cases th with
  | true=>
   have HO:Hid (∃ V',Off V w wc∧Mxx wc b (iA L c d w.heap.size) lost V'∧∀ k,k ∈ V'→k ∈ V∨k=w.heap.size):=⟨V,Off.of_below hBw,by unfold iA;rw[hth];exact⟨l,mb,nn,D,hMc,hV⟩,fun k hk=>.inl hk⟩
   have hE:iz L c=160:=by unfold iz;rw[hth];rfl
   clear hB hM e6 h hV hth oc hMc hBw hlen
   go_wp2_with fail
   go_ret
   exact⟨by rw[hE];rfl,HO⟩
  | false=>
   have hf:dO L c=none:=by
    cases hq:dO L c with
    | none=>rfl
    | some q=>rw[hq]at hth;cases hth
   by_cases h8:8≤L.length
   ·have HO:Hid (∃ V',Off V w wc∧Mxx wc b (iA L c d w.heap.size) lost V'∧∀ k,k ∈ V'→k ∈ V∨k=w.heap.size):=⟨V,Off.of_below hBw,by unfold iA;rw[hth,if_neg (by simp),if_pos h8];exact⟨l,mb,nn,D,hMc,hV⟩,fun k hk=>.inl hk⟩
    have hE:iz L c=150:=by unfold iz;rw[hth,if_neg (by simp),if_pos h8]
    have h8':(8:Int) ≤ (L.length:Int):=by omega
    clear hB hM e6 h hV hth oc hMc hBw hf
    go_wp2_with fail
    go_ret
    exact⟨by rw[hE];rfl,HO⟩
   ·have hE:iz L c=0:=by unfold iz;rw[hth,if_neg (by simp),if_neg h8]
    have hLc:iA L c d w.heap.size=L ++ [⟨c,d,w.heap.size,0⟩]:=by unfold iA;rw[hth,if_neg (by simp),if_neg h8]
    have h8':¬ (8:Int) ≤ (L.length:Int):=by omega
    have hMd:=hMc.off (Off.drew [] wc) (by simp)
    have hnn:nn<maxLen:=by have:=hMc.nle;unfold maxLen;omega
    obtain⟨w2,hrun,hown,hg⟩:=hMd.map.update eI underlying67 hnn (keyOf_int_mk underlying27 (mN c hc)) (jD (some (d,w.heap.size)))
    change (Instr.mapUpdate 67 (.map (some mb)) (.int .u32 (c:Nat)) (.agg #[aa d 0,aa w.heap.size 0])).run prog wc.drew=.ok () w2 at hrun
    have o2:Off [mb] wc.drew w2:=⟨hg.os,hg.tape,hg.output,hg.size,fun k hk hb=>hg.block k hk (by simp at hb;simp;exact hb)⟩
    obtain⟨z1,z2,z3⟩:=hMd.ne
    have hmw:=h.lt mb (by simp[ix])
    have hlw:=h.lt l (by simp[ix])
    have hpw:∀ p,p ∈ L→p.k<w.heap.size:=fun p hp=>h.lt p.k (by simp[ix];exact .inr (.inr (.inr ⟨p,hp,rfl⟩)))
    have hMn:=hMd.put (d:=d) (k:=w.heap.size) hf hc o2 hown (((e6.off oc (by simp)).off (Off.drew [] wc) (by simp)).off o2 (by simp;omega)) (by omega) (fun p hp=>by have:=hpw p hp;omega) z1 z2 z3
    have HO:Hid (∃ V',Off V w w2∧Mxx w2 b (L ++ [⟨c,d,w.heap.size,0⟩]) lost V'∧∀ k,k ∈ V'→k ∈ V∨k=w.heap.size):=by
     refine⟨_,((Off.of_below hBw).trans (Off.drew V wc)).trans (o2.more (fun k hk=>by simp at hk;subst hk;rw[hV];simp[ix])),⟨l,mb,_,_,hMn,rfl⟩,fun k hk=>?_⟩
     rw[hV]
     simp[ix]at hk ⊢
     rcases hk with rfl | rfl | rfl | ⟨p,hp,rfl⟩ | rfl
     ·exact .inl (.inl rfl)
     ·exact .inl (.inr (.inl rfl))
     ·exact .inl (.inr (.inr (.inl rfl)))
     ·exact .inl (.inr (.inr (.inr ⟨p,hp,rfl⟩)))
     ·exact .inr rfl
    have hC3:=eM d c wc.drew f2
    clear hB hM e6 h hV hth oc hMc hBw hf hMd hown hg o2 z1 z2 z3 hMn hpw
    go_wp2_with fail
    go_region_with (go_at_call 31;refine hC3.mono ?_;rintro e w3 ⟨rfl,hw⟩;have hw:=hw.symm;subst hw)
    all_goals
     go_wp2_with fail
     go_ret
     exact⟨by rw[hE];rfl,by rw[hLc];exact HO⟩
end Go.Proofs.YtdpahjfekoikiaaGreat
