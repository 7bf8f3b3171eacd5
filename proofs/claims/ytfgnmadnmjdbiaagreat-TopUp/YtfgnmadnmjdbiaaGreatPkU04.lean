/- Part 5: contracts that the proof rests on. -/
import Derived.Deep.RegionHeld3
import Derived.Test.YtfgnmadnmjdbiaaGreatPkU03
set_option maxHeartbeats 64000000
set_option maxRecDepth 100000
namespace Go.Proofs.YtfgnmadnmjdbiaaGreat
open Tryz
open Go.RowKit
def vp (mk wd:Nat→Nat):Nat→Nat
 | 0=>0
 | i+1=>if mk i=165 then (if vp mk wd i<wd i then wd i else vp mk wd i) else vp mk wd i
theorem xl (a b:Nat) (w:World):(Instr.index 191 (.agg #[.int .u32 (a:Nat),.int .u32 (b:Nat)]) (.int .i64 0)).run prog w=.ok (.int .u32 (a:Nat)) w:=by kernel_rfl
theorem wU (a b:Nat) (w:World):(Instr.index 191 (.agg #[.int .u32 (a:Nat),.int .u32 (b:Nat)]) (.int .i64 1)).run prog w=.ok (.int .u32 (b:Nat)) w:=by kernel_rfl
theorem kY (c m mx:Nat) (mk wd:Nat→Nat) (cut:Bool) (w:World) (hC:CX w c m mx mk wd cut) (hw:∀ j,j<2→wd j<4294967296) :
  Calls prog 219 #[ac c 0] w fun e w'=>e=.returned (.int .u32 (vp mk wd 2:Nat))∧w'=w:=by
 have c4:w.cell? ⟨c,4,none⟩=some (.int .u32 (wd 0:Nat)):=hC.hwd 0 (by omega)
 have c5:w.cell? ⟨c,5,none⟩=some (.int .u32 (wd 1:Nat)):=hC.hwd 1 (by omega)
 go_enter func219,ntmps219
 go_wp2_with fail
 go_loopw [3,4,5,12] (fun x _ _ ci wr=>∃ i:Nat,i≤2∧ci=.int .i64 ((i:Nat):Int)∧x=.int .u32 (vp mk wd i:Nat)∧wr=w) (fun _ _ _ ci _=>2 - (intOf ci).toNat)
 case atStart=>exact⟨0,by omega,rfl,rfl,rfl⟩
 case round=>
  obtain⟨i,hi,rfl,rfl,rfl⟩:=hrel
  by_cases hlt:i<2
  ·have hi2:i=0∨i=1:=by omega
   have h0:=hw 0 (by omega)
   have h1:=hw 1 (by omega)
   clear hw
   rcases hi2 with rfl | rfl
   ·by_cases hm:mk 0=165
    ·have q:=dE c m mx mk wd cut true wr hC (by simp[hm])
     have x0:=xl (wd 0) (wd 1) wr
     have e:vp mk wd 1=(if vp mk wd 0<wd 0 then wd 0 else vp mk wd 0):=if_pos hm
     have HE:Hid (_):=e
     clear hC e hm
     generalize vp mk wd 0=y at *
     go_wp2_with (go_at_call 105;refine q.mono ?_;rintro e w' ⟨rfl,hw⟩;rw[hw];clear hw)
     exact⟨⟨1,by omega,rfl,by rw[HE.out];split <;> rfl,trivial⟩,by decide⟩
    ·have q:=dE c m mx mk wd cut false wr hC (by simp[hm])
     have x0:=xl (wd 0) (wd 1) wr
     have e:vp mk wd 1=vp mk wd 0:=if_neg hm
     have HE:Hid (_):=e
     clear hC e hm
     generalize vp mk wd 0=y at *
     go_wp2_with (go_at_call 105;refine q.mono ?_;rintro e w' ⟨rfl,hw⟩;rw[hw];clear hw)
     exact⟨⟨1,by omega,rfl,by rw[HE.out],trivial⟩,by decide⟩
   ·by_cases hm:mk 1=165
    ·have q:=du c m mx mk wd cut true wr hC (by simp[hm])
     have x0:=wU (wd 0) (wd 1) wr
     have e:vp mk wd 2=(if vp mk wd 1<wd 1 then wd 1 else vp mk wd 1):=if_pos hm
     have HE:Hid (_):=e
     clear hC e hm
     generalize vp mk wd 1=y at *
     go_wp2_with (go_at_call 105;refine q.mono ?_;rintro e w' ⟨rfl,hw⟩;rw[hw];clear hw)
     exact⟨⟨2,by omega,rfl,by rw[HE.out];split <;> rfl,trivial⟩,by decide⟩
    ·have q:=du c m mx mk wd cut false wr hC (by simp[hm])
     have x0:=wU (wd 0) (wd 1) wr
     have e:vp mk wd 2=vp mk wd 1:=if_neg hm
     have HE:Hid (_):=e
     clear hC e hm
     generalize vp mk wd 1=y at *
     go_wp2_with (go_at_call 105;refine q.mono ?_;rintro e w' ⟨rfl,hw⟩;rw[hw];clear hw)
     exact⟨⟨2,by omega,rfl,by rw[HE.out],trivial⟩,by decide⟩
  ·obtain rfl:i=2:=by omega
   go_wp2_with fail
   go_ret
   exact⟨rfl,rfl⟩
theorem wA (z:Nat→Nat):vp (fun k=>z (5*k)) (wz z) 2=vz z:=by
 have e:∀ i,vp (fun k=>z (5*k)) (wz z) (i+1)=max (vp (fun k=>z (5*k)) (wz z) i) (hw z i):=fun i=>by
  unfold hw
  rw[vp]
  by_cases h:z (5*i)=165
  ·rw[if_pos h,if_pos h]
   split <;> omega
  ·rw[if_neg h,if_neg h]
   omega
 rw[e 1,e 0,show vp (fun k=>z (5*k)) (wz z) 0=0 from rfl]
 unfold vz
 omega
theorem oV (c m mx:Nat) (z:Nat→Nat) (cut:Bool) (w:World) (hC:CX w c m mx (fun k=>z (5*k)) (wz z) cut) :
  Calls prog 220 #[ac c 0] w fun e w'=>e=.returned (.int .i64 (tg z:Nat))∧∃ j,w'=w.drewN j:=by
 have c4:w.cell? ⟨c,4,none⟩=some (.int .u32 (wz z 0:Nat)):=hC.hwd 0 (by omega)
 have c5:w.cell? ⟨c,5,none⟩=some (.int .u32 (wz z 1:Nat)):=hC.hwd 1 (by omega)
 by_cases h0:z 0=165
 ·have q0:=dE c m mx _ _ cut true w hC (by simp[h0])
  by_cases h1:z 5=165
  ·have q1:=fun j=>du c m mx _ _ cut true (w.drewN j) (hC.drewN j) (by simp[h1])
   have et:tg z=if wz z 1<wz z 0 then 1 else 0:=by
    unfold tg
    by_cases h:wz z 1<wz z 0
    ·rw[if_pos ⟨h0,.inr h⟩,if_pos h]
    ·rw[if_neg (by omega),if_neg h]
   rw[et]
   clear hC et h0 h1
   generalize wz z 0=x at *
   generalize wz z 1=y at *
   by_cases hxy:y<x
   ·rw[if_pos hxy]
    go_enter func220,ntmps220
    go_wp2_with fail
    refine q0.mono ?_
    rintro e w' ⟨rfl,hw⟩
    rw[hw]
    clear hw
    go_wp2_with fail
    go_quiet ((go_at_call 105;exact Calls.quiet_of_same (q1 _)))
    go_wp2_with fail
    go_ret
    exact⟨rfl,_,rfl⟩
   ·rw[if_neg hxy]
    go_enter func220,ntmps220
    go_wp2_with fail
    refine q0.mono ?_
    rintro e w' ⟨rfl,hw⟩
    rw[hw]
    clear hw
    go_wp2_with fail
    go_quiet ((go_at_call 105;exact Calls.quiet_of_same (q1 _)))
    go_wp2_with fail
    go_ret
    exact⟨rfl,_,rfl⟩
  ·have q1:=fun j=>du c m mx _ _ cut false (w.drewN j) (hC.drewN j) (by simp[h1])
   rw[show tg z=1 from if_pos ⟨h0,.inl h1⟩]
   clear hC h0 h1 c4 c5
   go_enter func220,ntmps220
   go_wp2_with fail
   refine q0.mono ?_
   rintro e w' ⟨rfl,hw⟩
   rw[hw]
   clear hw
   go_wp2_with fail
   go_quiet ((go_at_call 105;exact Calls.quiet_of_same (q1 _)))
   go_wp2_with fail
   go_ret
   exact⟨rfl,_,rfl⟩
 ·have q0:=dE c m mx _ _ cut false w hC (by simp[h0])
  rw[show tg z=0 from if_neg (fun h=>h0 h.1)]
  clear hC h0 c4 c5
  go_enter func220,ntmps220
  go_wp2_with fail
  refine q0.mono ?_
  rintro e w' ⟨rfl,hw⟩
  rw[hw]
  clear hw
  go_wp2_with fail
  go_ret
  exact⟨rfl,0,(World.drewN_zero _).symm⟩
abbrev CS (w:World) (c m mx:Nat) (z:Nat→Nat) (cut:Bool):Prop:=CX w c m mx (fun k=>z (5*k)) (wz z) cut
theorem um (c m g n mx:Nat) (z:Nat→Nat) (cut:Bool) (s:Ms) (w:World) (hM:MR w m g n s) (hC:CS w c m mx z cut) (h:cut=true∨s.off=true) :
  Calls prog 217 #[ac c 0] w fun e w'=>e=.returned (.tuple #[.int .u32 0,.int .i64 70])∧w'=w:=by
 have c0:=hC.mem
 have c6:=hC.hcut
 have q:=lz m g n s w hM
 clear hM hC
 cases cut
 ·rw[h.resolve_left (by simp)]at q
  clear h
  go_enter func217,ntmps217
  go_wp2_with (go_at_call 218;refine q.mono ?_;rintro e w' ⟨rfl,hw⟩;rw[hw];clear hw)
  go_ret2
  exact⟨rfl,rfl⟩
 ·clear h q
  go_enter func217,ntmps217
  go_wp2_with fail
  go_ret2
  exact⟨rfl,rfl⟩
theorem qY (c m g n mx:Nat) (z:Nat→Nat) (s:Ms) (w:World) (hM:MR w m g n s) (hC:CS w c m mx z false) (hz:Bz z) (ho:s.off=false) (h:mx≤vz z) :
  Calls prog 217 #[ac c 0] w fun e w'=>e=.returned (.tuple #[.int .u32 0,.int .i64 80])∧w'=w:=by
 have c0:=hC.mem
 have c1:=hC.max
 have c6:=hC.hcut
 have q:=lz m g n s w hM
 have q2:=kY c m mx _ _ false w hC (fun j hj=>np hz j hj)
 rw[wA]at q2
 rw[ho]at q
 clear hM hC hz
 generalize vz z=v at *
 go_enter func217,ntmps217
 go_wp2_with (first | (go_at_call 218;refine q.mono ?_;rintro e w' ⟨rfl,hw⟩;rw[hw];clear hw) | (go_at_call 219;refine q2.mono ?_;rintro e w' ⟨rfl,hw⟩;rw[hw];clear hw))
 go_ret2
 exact⟨rfl,rfl⟩
theorem vP (c m g n mx:Nat) (s:Ms) (w:World) (hM:MR w m g n s) (hC:CS w c m mx s.bs false) (hcm:c≠m) (hcg:c≠g) (hn:10≤n) (hx:mx<4294967296) (ho:s.off=false) (h:vz s.bs<mx) (ht:s.t<9223372036854775000) :
  Calls prog 217 #[ac c 0] w fun e w'=>e=.returned (.tuple #[.int .u32 ((if fo n (cN (tg s.bs) (vz s.bs+1)) s=0 then vz s.bs+1 else 0:Nat):Int),.int .i64 (fo n (cN (tg s.bs) (vz s.bs+1)) s)]) ∧
   (Off [m,g,c] w w'∧MR w' m g n (fJ n (cN (tg s.bs) (vz s.bs+1)) s)∧(fo n (cN (tg s.bs) (vz s.bs+1)) s=0→CS w' c m mx (fJ n (cN (tg s.bs) (vz s.bs+1)) s).bs false)∧(¬ fo n (cN (tg s.bs) (vz s.bs+1)) s=0→CS w' c m mx s.bs true)):=by
 have hz:Bz s.bs:=fun i hi=>hM.byte i (by omega)
 have c0:=hC.mem
 have c1:=hC.max
 have c6:=hC.hcut
 have q:=lz m g n s w hM
 have q2:=kY c m mx _ _ false w hC (fun j hj=>np hz j hj)
 rw[wA]at q2
 rw[ho]at q
 have q3:=oV c m mx s.bs false w hC
 have hk:=jJ s.bs
 obtain⟨v,hv⟩:∃ v,vz s.bs+1=v:=⟨_,rfl⟩
 have q4:=fun j=>gH c m g n mx _ _ false s (tg s.bs) (vz s.bs+1) (w.drewN j) (hM.drewN j) (hC.drewN j) hcm hcg hk (by omega) ht
 have hb:=fun h=>mw (eW (tg s.bs) (vz s.bs+1) n hk hn) ho hM.l0 h
 obtain⟨E,hE⟩:∃ E,fo n (cN (tg s.bs) (vz s.bs+1)) s=E:=⟨_,rfl⟩
 obtain⟨S,hS⟩:∃ S,fJ n (cN (tg s.bs) (vz s.bs+1)) s=S:=⟨_,rfl⟩
 rw[hE,hS]
 rw[hE,hS]at hb
 simp only[hE,hS]at q4
 have HB:Hid (_):=And.intro hb (show vz s.bs+1<4294967296 by omega)
 clear hM hC hz hb hE hS hk hv v
 obtain⟨V,hV⟩:∃ V,vz s.bs=V:=⟨_,rfl⟩
 obtain⟨k,hk⟩:∃ k,tg s.bs=k:=⟨_,rfl⟩
 rw[hV]at HB h q2 q4 ⊢
 rw[hk]at HB q3 q4
 by_cases he:E=0
 ·subst he
  rw[if_pos rfl]
  simp only[if_pos]at q4
  clear hV hk
  go_enter func217,ntmps217
  go_wp2_with (first | (go_at_call 218;refine q.mono ?_;rintro e w' ⟨rfl,hw⟩;rw[hw];clear hw) | (go_at_call 219;refine q2.mono ?_;rintro e w' ⟨rfl,hw⟩;rw[hw];clear hw))
  refine q3.mono ?_
  rintro e w1 ⟨rfl,j,rfl⟩
  go_wp2_with fail
  refine (q4 j).mono ?_
  rintro e w2 ⟨rfl,H2⟩
  have H:Hid (_):=H2
  clear H2 q4 q3 q2 q c0 c1 c6
  go_wp2_with fail
  go_ret2
  obtain⟨O,M,C⟩:=H.out
  have C':=C.sync HB.out.2
  rw[← HB.out.1 trivial]at C'
  exact⟨rfl,(Off.drewN _ _ _).trans O,M,fun _=>C',fun h=>absurd trivial h⟩
 ·rw[if_neg he]
  simp only[if_neg he]at q4
  clear hV hk
  go_enter func217,ntmps217
  go_wp2_with (first | (go_at_call 218;refine q.mono ?_;rintro e w' ⟨rfl,hw⟩;rw[hw];clear hw) | (go_at_call 219;refine q2.mono ?_;rintro e w' ⟨rfl,hw⟩;rw[hw];clear hw))
  refine q3.mono ?_
  rintro e w1 ⟨rfl,j,rfl⟩
  go_wp2_with fail
  refine (q4 j).mono ?_
  rintro e w2 ⟨rfl,H2⟩
  have d6:=H2.2.2.hcut
  have f6:=H2.2.2.fz 6
  have H:Hid (_):=H2
  clear H2 q4 q3 q2 q c0 c1 c6
  go_wp2_with fail
  go_ret2
  obtain⟨O,M,C⟩:=H.out
  have q1:Off [c] w2 (w2.setCell ⟨c,6,none⟩ (.bool true)):=Off.setCell c 6 _ _
  exact⟨rfl,((Off.drewN _ _ _).trans O).trans q1.three',M.off q1 (by simp;omega) (by simp;omega),fun h=>absurd h he,fun _=>C.setCut true⟩
theorem uL (m g n mx:Nat) (s:Ms) (w:World) (hM:MR w m g n s) (h:mx=0∨n<10) :
  Calls prog 66 #[ac m 0,.int .u32 (mx:Nat)] w fun e w'=>e=.returned (.tuple #[.pointer none,.int .i64 2])∧w'=w:=by
 have q:=jK m g n s w hM
 clear hM
 by_cases h0:mx=0
 ·subst h0
  clear h q
  go_enter func66,ntmps66
  go_wp2_with fail
  go_ret2
  exact⟨rfl,rfl⟩
 ·have h1:n<10:=by omega
  have h2:¬ (mx:Int)=0:=by omega
  clear h h0
  go_enter func66,ntmps66
  go_wp2_with (go_at_call 82;refine q.mono ?_;rintro e w' ⟨rfl,hw⟩;rw[hw];clear hw)
  go_ret2
  exact⟨rfl,rfl⟩
theorem sF (m g n mx:Nat) (s:Ms) (w:World) (hM:MR w m g n s) (hn:10≤n) (h0:mx≠0) (ho:s.off=true) :
  Calls prog 66 #[ac m 0,.int .u32 (mx:Nat)] w fun e w'=>e=.returned (.tuple #[.pointer none,.int .i64 70])∧(Off [m,g] w w'∧MR w' m g n s):=by
 have q:=jK m g n s w hM
 have h2:((mx:Int) == 0)=false:=by simpa using h0
 have h3:decide ((n:Int)<10)=false:=by simp;omega
 have hA:Off [m,g] w (w.alloc (.cells (CV m mx (fun _=>0) (fun _=>0) false) 193)):=Off.alloc _ _ _
 have M1:=hM.off (Off.alloc [] w (.cells (CV m mx (fun _=>0) (fun _=>0) false) 193)) (by simp) (by simp)
 have C1:CX (w.alloc (.cells (CV m mx (fun _=>0) (fun _=>0) false) 193)) w.heap.size m mx (fun _=>0) (fun _=>0) false:=⟨aC w _⟩
 have q2:=rl _ m g n mx _ _ false s _ M1 C1 ho
 have H:Hid (_):=And.intro hA M1
 clear hM hA M1 C1 h0
 go_enter func66,ntmps66
 go_wp2_with (go_at_call 82;refine q.mono ?_;rintro e w' ⟨rfl,hw⟩;rw[hw];clear hw)
 refine q2.mono ?_
 rintro e w' ⟨rfl,hw⟩
 rw[hw]
 clear hw
 go_wp2_with fail
 go_ret2
 exact⟨rfl,H.out⟩
theorem uG (m g n mx:Nat) (s:Ms) (w:World) (hM:MR w m g n s) (hn:10≤n) (h0:mx≠0) (ho:s.off=false) (ht:s.t<9223372036854775000) :
  Calls prog 66 #[ac m 0,.int .u32 (mx:Nat)] w fun e w'=>
   ∃ p,e=.returned (.tuple #[.pointer p,.int .i64 (fo n (cU s.bs) s)])∧Hid (Off [m,g] w w'∧MR w' m g n (fJ n (cU s.bs) s)∧(fo n (cU s.bs) s=0→p=af w.heap.size 0∧CS w' w.heap.size m mx (fJ n (cU s.bs) s).bs false)∧(¬ fo n (cU s.bs) s=0→p=none)):=by
 have q:=jK m g n s w hM
 have h2:((mx:Int) == 0)=false:=by simpa using h0
 have h3:decide ((n:Int)<10)=false:=by simp;omega
 have lm:=hM.lt
 have lg:=hM.lg
 have M1:=hM.off (Off.alloc [] w (.cells (CV m mx (fun _=>0) (fun _=>0) false) 193)) (by simp) (by simp)
 have C1:CX (w.alloc (.cells (CV m mx (fun _=>0) (fun _=>0) false) 193)) w.heap.size m mx (fun _=>0) (fun _=>0) false:=⟨aC w _⟩
 have q2:=qC _ m g n mx _ _ false s _ M1 C1 (by omega) (by omega) hn ho
 have hA:Off [m,g,w.heap.size] w (w.alloc (.cells (CV m mx (fun _=>0) (fun _=>0) false) 193)):=Off.alloc _ _ _
 have HA:Hid (_):=hA
 have q3:=fun w2 M2 C2=>sv w.heap.size m g n mx false s w2 M2 C2 (by omega) (by omega) hn ho ht
 obtain⟨E,hE⟩:∃ E,fo n (cU s.bs) s=E:=⟨_,rfl⟩
 obtain⟨S,hS⟩:∃ S,fJ n (cU s.bs) s=S:=⟨_,rfl⟩
 rw[hE,hS]
 simp only[hE,hS]at q3
 clear hM M1 C1 h0 hE hS hA
 go_enter func66,ntmps66
 go_wp2_with (go_at_call 82;refine q.mono ?_;rintro e w' ⟨rfl,hw⟩;rw[hw];clear hw)
 refine q2.mono ?_
 rintro e w2 ⟨rfl,o2,m2,c2⟩
 have O2:=HA.out.trans o2.three'
 have q4:=q3 w2 m2 c2
 have H2:Hid (_):=O2
 clear O2 o2 q3 HA m2 c2 q2
 go_wp2_with fail
 refine q4.mono ?_
 rintro e w3 ⟨rfl,H3⟩
 obtain⟨o3,m3,c3⟩:=H3
 have o4:Off [m,g] w w3:=(H2.out.trans o3).only (fun k hk hl=>by simp only[List.mem_cons,List.not_mem_nil,or_false]at hk ⊢;omega)
 have H:Hid (_):=And.intro o4 (And.intro m3 c3)
 clear o3 o4 m3 c3 H2 q4 q
 by_cases he:E=0
 ·subst he
  go_wp2_with fail
  go_ret2
  obtain⟨O,M,C⟩:=H.out
  first | exact⟨_,rfl,O,M,rfl,C trivial⟩ | exact⟨_,rfl,O,M,rfl,C rfl⟩ | exact⟨_,rfl,O,M,rfl,C⟩ | exact⟨_,rfl,⟨O,M,rfl,C⟩⟩ | exact⟨_,rfl,⟨O,M,rfl,C rfl⟩⟩
 ·go_wp2_with fail
  go_ret2
  obtain⟨O,M,C⟩:=H.out
  exact⟨_,rfl,O,M,fun h=>absurd h he,fun _=>rfl⟩
def S0 (bs:Nat→Nat):Ms:=⟨bs,false,false,0,0⟩
theorem wR (n:Nat) (w:World) (hn:n≤4096) :
  Calls prog 46 #[.int .i64 (n:Nat)] w fun e w'=>∃ b g,e=.returned (.tuple #[ac b 0,.int .i64 0])∧Hid (w.heap.size≤b∧w.heap.size≤g∧Off [] w w'∧MR w' b g n (S0 fun _=>0)):=by
 obtain⟨i0,hi,hz0,hz1,hz2⟩:=info_parts bY
 go_enter func46,ntmps46
 go_wp2_with (at_make;refine aW _ rfl (.tmp 10) (.tmp 10) 22 rfl w.heap.size 5 i0 underlying22 hi hz0 hz1 hz2 _ _ _ _ n n rfl rfl rfl rfl (Nat.le_refl _) (by omega) (Nat.le_refl _) ?_)
 intro w1 hown1 hbel1
 have H:Hid (_):=And.intro hown1 hbel1
 clear hown1 hbel1
 go_wp2_with fail
 go_ret2
 obtain⟨hown1,hbel1⟩:=H.out
 have hlt:w.heap.size<w1.heap.size:=(hown1.lt _ rfl).2
 refine⟨_,w.heap.size,rfl,hbel1.size,Nat.le_refl _,(Off.of_below hbel1).trans (Off.alloc _ _ _),⟨⟨_,aC w1 _,?_⟩,by intro i _;show 0<256;omega,Int.le_refl _,by show (0:Int)≤_;omega,Int.le_refl _,hn⟩⟩
 refine⟨dC (aO hown1 (Nat.zero_le _)) ((Below.refl _ _).alloc (Nat.le_refl _) _),.inr ⟨Nat.ne_of_lt hlt,_,rfl⟩⟩
section
variable {w w':World} {b g n:Nat} {s:Ms}
end
end Go.Proofs.YtfgnmadnmjdbiaaGreat
namespace Go.Proofs.YtfgnmadnmjdbiaaGreat
open Tryz
open Go.RowKit
def A6:Array Value:=#[.int .i64 0,.int .i64 1,.int .i64 2,.int .i64 3,.int .i64 4,.int .i64 0]
def B6 (v:Nat):Array Value:=#[.int .u8 0,.int .u8 (bt v 0:Nat),.int .u8 (bt v 1:Nat),.int .u8 (bt v 2:Nat),.int .u8 (bt v 3:Nat),.int .u8 165]
structure S6 (w:World) (A B v:Nat):Prop where
 a:w.heap[A]?=some (.cells A6 3 (0,0))
 b:w.heap[B]?=some (.cells (B6 v) 5 (0,0))
section
variable {w w':World} {d m mx v:Nat} {dead:Bool}
end
end Go.Proofs.YtfgnmadnmjdbiaaGreat
namespace Go.Proofs.YtfgnmadnmjdbiaaGreat
open Tryz
open Go.RowKit
def lB (mx n:Nat) (s:Ms):Int:=if mx=0∨n<10 then 2 else if s.off then 70 else fo n (cU s.bs) s
def jb (mx n:Nat) (s:Ms):Ms:=if mx=0∨n<10 then s else if s.off then s else fJ n (cU s.bs) s
structure Nx where
 v:Nat
 e:Int
 s:Ms
 z:Nat→Nat
 c:Bool
def nx (mx n:Nat) (z:Nat→Nat) (cut:Bool) (s:Ms):Nx:=
 if cut=true∨s.off=true then ⟨0,70,s,z,cut⟩ else if mx≤vz z then ⟨0,80,s,z,cut⟩ else
 if fo n (cN (tg z) (vz z+1)) s=0 then ⟨vz z+1,0,fJ n (cN (tg z) (vz z+1)) s,(fJ n (cN (tg z) (vz z+1)) s).bs,false⟩ else ⟨0,70,fJ n (cN (tg z) (vz z+1)) s,z,true⟩
theorem vI {n:Nat} {l:List (Nat × Nat)} {s:Ms} (hin:∀ x,x ∈ l→x.1<n∧x.2<256) (ho:s.off=false) (hl:0≤s.l):fo n l s=0∨fo n l s=70:=by
 rcases ft n l s (fun x hx=>(hin x hx).1) ho hl with ⟨h,_⟩ | ⟨h,_⟩
 ·exact .inl h
 ·exact .inr h
theorem we {n:Nat} {l:List (Nat × Nat)} {s:Ms} (hin:∀ x,x ∈ l→x.1<n∧x.2<256) (ho:s.off=false) (hl:0≤s.l):(fJ n l s).t≤s.t+l.length:=by
 rcases ft n l s (fun x hx=>(hin x hx).1) ho hl with ⟨_,h,_⟩ | ⟨_,h,_,h4⟩
 ·rw[h]
  exact Int.le_refl _
 ·rw[h]
  show s.t+s.l≤_
  omega
theorem zi (mx n:Nat) (s:Ms) (hl:0≤s.l):(jb mx n s).t≤s.t+6:=by
 unfold jb
 split
 ·omega
 ·split
  ·omega
  ·have:=we (gZ s.bs n (by omega)) (by simpa using ‹¬ s.off=true›) hl
   have:=mL s.bs
   omega
theorem zL (mx n:Nat) (z:Nat→Nat) (cut:Bool) (s:Ms) (hn:10≤n) (hl:0≤s.l):(nx mx n z cut s).s.t≤s.t+6:=by
 unfold nx
 split
 ·show s.t≤s.t+6;omega
 ·split
  ·show s.t≤s.t+6;omega
  ·rename_i h _
   have ho:s.off=false:=by cases hh:s.off <;> simp[hh]at h ⊢
   have:=we (eW (tg z) (vz z+1) n (jJ z) hn) ho hl
   split
   ·exact this
   ·exact this
theorem vR (m g n mx:Nat) (s:Ms) (w:World) (hM:MR w m g n s) (ht:s.t<9223372036854774000) :
  Calls prog 66 #[ac m 0,.int .u32 (mx:Nat)] w fun e w'=>∃ p,e=.returned (.tuple #[.pointer p,.int .i64 (lB mx n s)])∧Hid (Off [m,g] w w'∧MR w' m g n (jb mx n s) ∧
   (lB mx n s=0→∃ c,p=af c 0∧w.heap.size≤c∧CS w' c m mx (jb mx n s).bs false)∧(¬ lB mx n s=0→p=none)):=by
 unfold lB jb
 by_cases h1:mx=0∨n<10
 ·rw[if_pos h1,if_pos h1]
  refine (uL m g n mx s w hM h1).mono ?_
  rintro e w' ⟨rfl,rfl⟩
  exact⟨_,rfl,Off.refl _ _,hM,fun h=>by omega,fun _=>rfl⟩
 ·rw[if_neg h1,if_neg h1]
  by_cases ho:s.off=true
  ·rw[if_pos ho,if_pos ho]
   refine (sF m g n mx s w hM (by omega) (by omega) ho).mono ?_
   rintro e w' ⟨rfl,o,M⟩
   exact⟨_,rfl,o,M,fun h=>by omega,fun _=>rfl⟩
  ·rw[if_neg ho,if_neg ho]
   refine (uG m g n mx s w hM (by omega) (by omega) (by simpa using ho) (by omega)).mono ?_
   rintro e w' ⟨p,rfl,H⟩
   obtain⟨o,M,C,D⟩:=H.out
   exact⟨p,rfl,o,M,fun h=>⟨_,(C h).1,Nat.le_refl _,(C h).2⟩,D⟩
theorem xA (m g n mx:Nat) (s:Ms) (w:World) (hM:MR w m g n s) (h:lB mx n s=0):mx≠0∧10≤n∧vz (jb mx n s).bs=vz s.bs:=by
 unfold lB at h
 unfold jb
 by_cases h1:mx=0∨n<10
 ·rw[if_pos h1]at h;omega
 ·rw[if_neg h1]at h ⊢
  by_cases ho:s.off=true
  ·rw[if_pos ho]at h;omega
  ·rw[if_neg ho]at h ⊢
   refine⟨by omega,by omega,?_⟩
   rw[mw (gZ s.bs n (by omega)) (by simpa using ho) hM.l0 h]
   have q:=lC s.bs 6 (fun i hi=>hM.byte i (by omega))
   rwa [List.take_of_length_le (mL s.bs)]at q
theorem zh (c m g n mx:Nat) (z:Nat→Nat) (cut:Bool) (s:Ms) (w:World) (hM:MR w m g n s) (hC:CS w c m mx z cut) (hz:Bz z) (hzs:cut=false→z=s.bs) (hcm:c≠m) (hcg:c≠g) (hn:10≤n) (hx:mx<4294967296) (ht:s.t<9223372036854774000) :
  Calls prog 217 #[ac c 0] w fun e w'=>e=.returned (.tuple #[.int .u32 ((nx mx n z cut s).v:Nat),.int .i64 (nx mx n z cut s).e]) ∧
   (Off [m,g,c] w w'∧MR w' m g n (nx mx n z cut s).s∧CS w' c m mx (nx mx n z cut s).z (nx mx n z cut s).c):=by
 unfold nx
 by_cases h1:cut=true∨s.off=true
 ·rw[if_pos h1]
  refine (um c m g n mx z cut s w hM hC h1).mono ?_
  rintro e w' ⟨rfl,rfl⟩
  exact⟨rfl,Off.refl _ _,hM,hC⟩
 ·rw[if_neg h1]
  have hc:cut=false:=by cases cut <;> simp at h1 ⊢
  have ho:s.off=false:=by cases hh:s.off <;> simp[hh]at h1 ⊢
  subst hc
  by_cases h2:mx≤vz z
  ·rw[if_pos h2]
   refine (qY c m g n mx z s w hM hC hz ho h2).mono ?_
   rintro e w' ⟨rfl,rfl⟩
   exact⟨rfl,Off.refl _ _,hM,hC⟩
  ·rw[if_neg h2]
   obtain rfl:=hzs rfl
   have q:=vP c m g n mx s w hM hC hcm hcg hn hx ho (by omega) (by omega)
   by_cases h3:fo n (cN (tg s.bs) (vz s.bs+1)) s=0
   ·rw[if_pos h3]
    rw[if_pos h3]at q
    refine q.mono ?_
    rintro e w' ⟨rfl,o,M,C,_⟩
    exact⟨by rw[h3],o,M,C h3⟩
   ·rw[if_neg h3]
    rw[if_neg h3]at q
    have h4:=(vI (eW (tg s.bs) (vz s.bs+1) n (jJ _) hn) ho hM.l0).resolve_left h3
    refine q.mono ?_
    rintro e w' ⟨rfl,o,M,_,C⟩
    exact⟨by rw[h4],o,M,C h3⟩
def DC (l c:Nat):Array Value:=#[.int .i64 l,.int .i64 c]
structure DR (w:World) (b l c:Nat):Prop where
 at_:w.heap[b]?=some (.cells (DC l c) 177 (0,0))
 lo:1≤l
 hi:l≤1048576
 le:c≤l
section
variable {w w':World} {b l c:Nat}
theorem DR.lt (h:DR w b l c):b<w.heap.size:=(Array.getElem?_eq_some_iff.1 h.at_).1
theorem DR.c0 (h:DR w b l c):w.cell? ⟨b,0,none⟩=some (.int .i64 l):=ae w b 0 _ _ _ h.at_
theorem DR.c1 (h:DR w b l c):w.cell? ⟨b,1,none⟩=some (.int .i64 c):=ae w b 1 _ _ _ h.at_
theorem DR.fz (h:DR w b l c) (j:Nat):w.frozen? ⟨b,j,none⟩=false:=frozen_of_row w b j _ _ h.at_
theorem DR.off {m:List Nat} (h:DR w b l c) (q:Off m w w') (hb:b ∉ m):DR w' b l c:=⟨(q.block b h.lt hb).trans h.at_,h.lo,h.hi,h.le⟩
theorem DR.set (h:DR w b l c) (x:Nat) (hx:x≤l):DR (w.setCell ⟨b,1,none⟩ (.int .i64 x)) b l x:=⟨heap_setCell_same _ _ _ _ _ _ h.at_,h.lo,h.hi,hx⟩
end
def tk (l c n:Nat):Nat:=c+min n (l-c)
def j6 (l c n:Nat):Bool:=decide (c<l∧l≤c+n)
theorem yG (l c n:Nat) (h:c≤l):tk l c n≤l:=by unfold tk;omega
theorem pQ (l:Nat) (w:World) (h1:1≤l) (h2:l≤1048576) :
  Calls prog 80 #[.int .i64 l] w fun e w'=>e=.returned (.tuple #[ac w.heap.size 0,.int .i64 0])∧(Off [] w w'∧DR w' w.heap.size l 0):=by
 go_enter func80,ntmps80
 go_wp2
 go_ret2
 exact⟨rfl,Off.alloc _ _ _,⟨aC w _,h1,h2,Nat.zero_le _⟩⟩
theorem tO (l c n b:Nat) (w:World) (h:DR w b l c) (hn:n≤9223372036854775807) :
  Calls prog 244 #[ac b 0,.int .i64 n] w fun e w'=>e=.returned (.bool (j6 l c n))∧w'=w.setCell ⟨b,1,none⟩ (.int .i64 (tk l c n:Nat)):=by
 have h0:=h.c0
 have h1:=h.c1
 have hl:=nc _ _ w h1
 have hc:=vB ⟨b,1,none⟩ c (tk l c n:Nat) w h1 (h.fz 1)
 obtain⟨_,_,hi,le⟩:=h
 obtain⟨L,hL⟩:∃ L,L=l-c:=⟨_,rfl⟩
 have e1:IntKind.i64.wrap ((l:Int) - (c:Int))=((L:Nat):Int):=by rw[IntKind.wrap_i64];omega
 have e4:j6 l c n=(decide (0<L) && decide (L≤n)):=by unfold j6;rw[Bool.eq_iff_iff];simp;omega
 have e5:tk l c n=if L<n then c+L else c+n:=by unfold tk;split <;> omega
 generalize j6 l c n=t at *
 generalize tk l c n=s at *
 rcases Nat.lt_trichotomy L n with g | g | g
 ·rw[if_pos g]at e5
  have e3:IntKind.i64.wrap ((c:Int) + (L:Int))=(s:Int):=by rw[e5,IntKind.wrap_i64];omega
  clear e5
  have g2:L≤n:=by omega
  by_cases g1:0<L
  ·have ht:t=true:=by rw[e4];simp[g1,g2]
   subst ht
   clear e4 hL le hi hn
   go_enter func244,ntmps244
   go_wp2_with fail
   refine wp_loop_once ?_
   go_wp2_with (first | (go_at_call 76;refine hl.mono ?_;rintro e w' ⟨rfl,rfl⟩) | (go_at_call 245;refine hc.mono ?_;rintro e w' ⟨rfl,rfl⟩))
   go_ret
   exact⟨rfl,rfl⟩
  ·have ht:t=false:=by rw[e4];simp[g1]
   subst ht
   clear e4 hL le hi hn
   go_enter func244,ntmps244
   go_wp2_with fail
   refine wp_loop_once ?_
   go_wp2_with (first | (go_at_call 76;refine hl.mono ?_;rintro e w' ⟨rfl,rfl⟩) | (go_at_call 245;refine hc.mono ?_;rintro e w' ⟨rfl,rfl⟩))
   go_ret
   exact⟨rfl,rfl⟩
 ·subst g
  rw[if_neg (by omega)]at e5
  have e3:IntKind.i64.wrap ((c:Int) + (L:Int))=(s:Int):=by rw[e5,IntKind.wrap_i64];omega
  clear e5
  by_cases g1:0<L
  ·have ht:t=true:=by rw[e4];simp[g1]
   subst ht
   clear e4 hL le hi hn
   go_enter func244,ntmps244
   go_wp2_with fail
   refine wp_loop_once ?_
   go_wp2_with (first | (go_at_call 76;refine hl.mono ?_;rintro e w' ⟨rfl,rfl⟩) | (go_at_call 245;refine hc.mono ?_;rintro e w' ⟨rfl,rfl⟩))
   go_ret
   exact⟨rfl,rfl⟩
  ·have ht:t=false:=by rw[e4];simp[g1]
   subst ht
   clear e4 hL le hi hn
   go_enter func244,ntmps244
   go_wp2_with fail
   refine wp_loop_once ?_
   go_wp2_with (first | (go_at_call 76;refine hl.mono ?_;rintro e w' ⟨rfl,rfl⟩) | (go_at_call 245;refine hc.mono ?_;rintro e w' ⟨rfl,rfl⟩))
   go_ret
   exact⟨rfl,rfl⟩
 ·rw[if_neg (by omega)]at e5
  have e3:IntKind.i64.wrap ((c:Int) + (n:Int))=(s:Int):=by rw[e5,IntKind.wrap_i64];omega
  clear e5
  have g1:0<L:=by omega
  have ht:t=false:=by rw[e4];simp;omega
  subst ht
  have g2:¬ L≤n:=by omega
  clear e4 hL le hi hn
  go_enter func244,ntmps244
  go_wp2_with fail
  refine wp_loop_once ?_
  go_wp2_with (first | (go_at_call 76;refine hl.mono ?_;rintro e w' ⟨rfl,rfl⟩) | (go_at_call 245;refine hc.mono ?_;rintro e w' ⟨rfl,rfl⟩))
  go_ret
  exact⟨rfl,rfl⟩
theorem jL (l c n b:Nat) (w:World) (h:DR w b l c) (hn:n≤9223372036854775807) :
  Calls prog 242 #[ac b 0,.int .i64 n] w fun e w'=>e=.returned (.tuple #[.bool (j6 l c n),.int .i64 0])∧(Off [b] w w'∧DR w' b l (tk l c n)):=by
 have hg:=tO l c n b w h hn
 have hk:Hid (Off [b] w (w.setCell ⟨b,1,none⟩ (.int .i64 (tk l c n:Nat)))∧DR (w.setCell ⟨b,1,none⟩ (.int .i64 (tk l c n:Nat))) b l (tk l c n)):=⟨Off.setCell _ _ _ _,h.set _ (yG l c n h.le)⟩
 generalize j6 l c n=t at *
 clear h
 go_enter func242,ntmps242
 go_wp2_with fail
 refine hg.mono ?_
 rintro e w' ⟨rfl,hw⟩
 have hj:=hw ▸ hk
 clear hk hg hw
 go_wp2_with fail
 go_ret2
 exact⟨rfl,hj.out⟩
theorem jV (n:Int) (b:Nat) (w:World) (hn:n<0) :
  Calls prog 242 #[ac b 0,.int .i64 n] w fun e w'=>e=.returned (.tuple #[.bool false,.int .i64 2])∧w'=w:=by
 go_enter func242,ntmps242
 go_wp2_with fail
 go_ret2
 exact⟨rfl,rfl⟩
theorem ki (l c b:Nat) (w:World) (h:DR w b l c) :
  Calls prog 184 #[ac b 0] w fun e w'=>e=.returned (.tuple #[])∧(Off [b] w w'∧DR w' b l 0):=by
 have hs:=qG ⟨b,1,none⟩ c 0 w h.c1 (h.fz 1)
 have hk:Hid (Off [b] w (w.setCell ⟨b,1,none⟩ (.int .i64 ((0:Nat):Int)))∧DR (w.setCell ⟨b,1,none⟩ (.int .i64 ((0:Nat):Int))) b l 0):=⟨Off.setCell _ _ _ _,h.set _ (Nat.zero_le _)⟩
 clear h
 go_enter func184,ntmps184
 go_wp2_with fail
 refine hs.mono ?_
 rintro e w' ⟨rfl,hw⟩
 have hj:Hid (Off [b] w w'∧DR w' b l 0):=by rw[hw];exact hk
 clear hk hs hw
 go_wp2_with fail
 go_end0
 exact⟨rfl,hj.out⟩
theorem jm (l c b:Nat) (w:World) (h:DR w b l c) :
  Calls prog 57 #[ac b 0] w fun e w'=>e=.returned (.int .i64 c)∧w'=w:=by
 have hl:=nc _ _ w h.c1
 clear h
 go_enter func57,ntmps57
 go_wp2_with (go_at_call 76;refine hl.mono ?_;rintro e w' ⟨rfl,rfl⟩)
 go_ret
 exact⟨rfl,rfl⟩
end Go.Proofs.YtfgnmadnmjdbiaaGreat
