/- Part 14: contracts that the proof rests on. -/
import Derived.Test.YtenilkloffnjlaaGreatPkH08
import Derived.Test.YtenilkloffnjlaaGreatPkH11
import Derived.Test.YtenilkloffnjlaaGreatPkH12
set_option maxHeartbeats 64000000
set_option maxRecDepth 100000
namespace Go.Proofs.YtenilkloffnjlaaGreat
open Tryz
open Go.RowKit
theorem jz (c O I T n:Nat) (w:World) (hc:c<4294967296) (hn:n<4294967296) (hE:tW c O I T n) :
  Calls prog 152 #[.agg #[.int .u32 c,.int .i64 O,.int .i64 I,.int .i64 T,.int .u32 n]] w fun e w'=>e=.returned (.tuple #[.int .u32 (PM.K (pe c O I T n) 14:Nat),.int .i64 0])∧Below w.heap.size w w':=by
 have hb:Below w.heap.size w (w.alloc (.cells #[.int .u32 c,.int .i64 O,.int .i64 I,.int .i64 T,.int .u32 n] 83)):=(Below.refl _ _).alloc (Nat.le_refl _) _
 have hF:=nN c O I T n (w.alloc (.cells #[.int .u32 c,.int .i64 O,.int .i64 I,.int .i64 T,.int .u32 n] 83)) hc hn hE
 obtain⟨_,hO,hI,_,_⟩:=hE
 have hby:=ab5 (c:=c) (o:=O) (i:=I) (t:=T) (n:=n) (by omega) (by omega)
 clear hO hI
 go_enter func152,ntmps152
 go_wp2_with fail
 refine hF.mono ?_
 rintro e w1 ⟨g,rfl,H1⟩
 obtain⟨_,O1,hb1⟩:=H1.out
 have hb2:=bD hb hb.size hb1
 obtain⟨a1,c1,e1,R1⟩:=aY O1 (fun k _=>hby k)
 simp only[Value.slice.injEq,true_and]at e1
 obtain⟨rfl,rfl⟩:=e1
 have hB:=ji _ 14 14 (pe c O I T n) w1 R1 (by omega)
 clear hb hF hb1 H1 O1 R1 hby
 go_wp2_with fail
 refine hB.mono ?_
 rintro e w2 ⟨rfl,rfl⟩
 go_wp2_with fail
 go_ret2
 exact⟨rfl,hb2⟩
theorem qP (a b:Option Addr) (n ca m cb:Nat) (f g:Nat→Nat) (w:World) (ha:Row8 w a n ca f) (hb:Row8 w b m cb g) (D:Bool) (hD:decide (BA f n=BA g m)=D) :
  Calls prog 222 #[.slice a n ca,.slice b m cb] w fun e w'=>e=.returned (.bool D)∧w'=w:=by
 have h1:=eT a n ca f w ha
 have h2:=eT b m cb g w hb
 rw[jh]at hD
 generalize BA f n=X at *
 generalize BA g m=Y at *
 clear ha hb
 go_enter func222,ntmps222
 go_wp2_with fail
 go_ret
 exact⟨rfl,rfl⟩
theorem jO (c O I T n:Nat) (a:Option Addr) (len cap:Nat) (bs:Nat→Nat) (w:World) (hr:Row8 w a len cap bs) (hc:c<4294967296) (hn:n<4294967296) (hE:tW c O I T n) (D:Bool) (hD:decide (BA bs len=BA (PM.w4 (PM.K (pe c O I T n) 14)) 4)=D) :
  Calls prog 200 #[.agg #[.int .u32 c,.int .i64 O,.int .i64 I,.int .i64 T,.int .u32 n],.slice a len cap] w fun e w'=>e=.returned (.tuple #[.bool D,.int .i64 0])∧Below w.heap.size w w':=by
 have hb:Below w.heap.size w (w.alloc (.cells #[.int .u32 c,.int .i64 O,.int .i64 I,.int .i64 T,.int .u32 n] 83)):=(Below.refl _ _).alloc (Nat.le_refl _) _
 have hF:=jz c O I T n (w.alloc (.cells #[.int .u32 c,.int .i64 O,.int .i64 I,.int .i64 T,.int .u32 n] 83)) hc hn hE
 have hk:=PM.K_lt (pe c O I T n) 14
 clear hE
 generalize PM.K (pe c O I T n) 14=k at *
 go_enter func200,ntmps200
 go_wp2_with fail
 refine hF.mono ?_
 rintro e w1 ⟨rfl,hb1⟩
 have hb2:=bD hb hb.size hb1
 clear hb hF hb1
 go_wp2_with fail
 refine (dZ k _ hk).mono ?_
 rintro e w2 ⟨rfl,rfl⟩
 have hb3:=hb2.alloc hb2.size (.cells #[.int .u8 ((k:Int) / 16777216),.int .u8 ((k:Int) / 65536 % 256),.int .u8 ((k:Int) / 256 % 256),.int .u8 ((k:Int) % 256)] 5)
 have hQ:=qP a _ len cap 4 4 bs (PM.w4 k) _ (hr.below hb3) (mK w1 k hk) D hD
 clear hr hb2 hk hD
 go_wp2_with fail
 refine hQ.mono ?_
 rintro e w3 ⟨rfl,rfl⟩
 have HB:Hid (_):=hb3
 clear hb3 hQ
 go_wp2_with fail
 go_ret2
 exact⟨rfl,HB.out⟩
theorem tC (d m g n mx:Nat) (P:Pm) (U:List Nat) (s:Sd) (w:World) (h:DV w d m g n mx P U s) :
  Calls prog 231 #[ac d 9] w fun e w'=>e=.returned (.int .i64 (iu s:Nat))∧Below w.heap.size w w':=by
 obtain⟨B,h⟩:=h
 have c10:=h.cells.2.2.2.2.2.2.2.2.2.2.1
 have c17:=h.cells.2.2.2.2.2.2.2.2.2.2.2.2.2.2.2.2.2
 have H:Hid (_):=h
 clear h
 unfold iu
 cases h1:aE s.v <;> cases h2:au s.v <;> by_cases h3:s.v.lat=0 <;> cases h4:s.hd
 all_goals
  rw[h4]at c17
  go_enter func231,ntmps231
  go_wp2_with fail
  refine (jc _ _ _ _ _ _ H.out.val).mono ?_
  rintro e w2 ⟨v2,rfl,h5⟩
  rw[h1]
  have hb:=h5.out.2
  have x2:=H.out.newd (Off.of_below hb)
  have e10:=x2.cells.2.2.2.2.2.2.2.2.2.2.1
  have e17:=x2.cells.2.2.2.2.2.2.2.2.2.2.2.2.2.2.2.2.2
  have q1:=gH _ _ _ _ _ _ x2.val
  have q2:=jb _ _ _ _ _ _ x2.val
  rw[h2]at q1
  rw[h4]at e17
  first
   | rw[h3]at q2
   | skip
  have HB:Hid (_):=hb
  clear H h5 hb x2 c10 c17
  go_wp2_with (first | (go_at_call 63;refine q1.mono ?_;rintro e w' ⟨rfl,hw⟩;have hw:=hw.symm;subst hw) | (go_at_call 62;refine q2.mono ?_;rintro e w' ⟨rfl,hw⟩;have hw:=hw.symm;subst hw))
  go_ret
  exact⟨by first | rfl | (simp[h3];done) | (simp[h3];rfl),HB.out⟩
def Fr (w:World) (M:Nat) (v:Value) (f:Fm):Prop:=w.ownsRow M 5 1 v f.1 (CB f.2 f.1)
theorem j5 (w:World) (M e:Nat):w.ownsRow M e 1 (.slice none 0 0) 0 (CB (fun _=>0) 0):=World.ownsRow_nil w M e 1
theorem fo (d m g n mx:Nat) (P:Pm) (U:List Nat) (s:Sd) (k num fl:Nat) (a:Option Addr) (len cap:Nat) (bs:Nat→Nat) (w:World) (h:DV w d m g n mx P U s) (hr:Row8 w a len cap bs) :
  Calls prog 230 #[ac d 0,.agg #[.int .i64 (k:Nat),.int .u32 0,.int .u32 0,.int .u32 (num:Nat),.int .i64 (fl:Nat),.slice a len cap]] w fun e w'=>∃ v,e=.returned v∧Hid (Fr w' w.heap.size v (dK P s k num fl len bs)∧Below w.heap.size w w'):=by
 obtain⟨B,h⟩:=h
 obtain⟨c0,_,_,_,_,_,_,_,_,_,_,_,c12,_⟩:=h.cells
 have hlt:=h.dlt
 have hne:¬ d=w.heap.size:=by omega
 have hne':¬ w.heap.size=d:=by omega
 clear h
 have fin:∀ w3,Below w.heap.size w w3→Calls prog 105 #[.agg #[.int .i64 (k:Nat),.int .u32 (P.c:Nat),.int .u32 (s.ss:Nat),.int .u32 (num:Nat),.int .i64 (fl:Nat),.slice a len cap]] w3 fun e w'=>∃ v E,e=.returned (.tuple #[v,.int .i64 E])∧Hid (Fr w' w.heap.size v (dK P s k num fl len bs)∧Below w.heap.size w w'):=by
  intro w3 h3
  unfold dK cS
  by_cases hE:LW k P.c s.ss num fl len len=0
  ·rw[if_pos hE]
   refine (jK k P.c s.ss num fl a len cap bs w3 (hr.below h3) hE).mono ?_
   rintro e w' ⟨v,rfl,h4⟩
   exact⟨v,0,rfl,aS h4.out.1 h3.size,h3.trans (h4.out.2.mono h3.size)⟩
  ·rw[if_neg hE]
   refine (kL k P.c s.ss num fl a len cap w3 hE).mono ?_
   rintro e w' ⟨rfl,h4⟩
   exact⟨_,_,rfl,j5 _ _ _,h3.trans (h4.mono h3.size)⟩
 clear hr
 go_enter func230,ntmps230
 go_wp2_with fail
 go_region_with fail
 all_goals
  go_wp2_with fail
  refine (fin _ ?_).mono ?_
  ·exact Below.drew ((Below.refl _ _).alloc (Nat.le_refl _) _)
  ·rintro e w4 ⟨v,E,rfl,h4⟩
   clear fin
   go_wp2_with fail
   go_ret
   exact⟨v,rfl,h4⟩
theorem dQ (w:World) (bs:Nat→Nat):Row8 w none 0 0 bs:=⟨fun i hi=>by omega,fun _=>⟨rfl,rfl⟩,(fun x hx=>by cases hx),Nat.le_refl _⟩
theorem DV.below {w w':World} {d m g n mx:Nat} {P:Pm} {U:List Nat} {s:Sd} (h:DV w d m g n mx P U s) (hb:Below w.heap.size w w'):DV w' d m g n mx P U s:=by
 obtain⟨B,h⟩:=h
 exact⟨B,h.newd (Off.of_below hb)⟩
theorem kZ (d m g n mx:Nat) (P:Pm) (U:List Nat) (s:Sd) (w:World) (h:DV w d m g n mx P U s) :
  Calls prog 227 #[ac d 0] w fun e w'=>∃ v,e=.returned v∧Hid (Fr w' w.heap.size v (iL P s)∧Below w.heap.size w w'):=by
 have hS:=fo d m g n mx P U s 22 0 0 none 0 0 (fun _=>0) w h (dQ _ _)
 clear h
 go_enter func227,ntmps227
 go_wp2_with fail
 refine hS.mono ?_
 rintro e w2 ⟨v,rfl,h2⟩
 clear hS
 go_wp2_with fail
 go_ret
 exact⟨v,rfl,h2⟩
theorem mC (d m g n mx:Nat) (P:Pm) (U:List Nat) (s:Sd) (w:World) (h:DV w d m g n mx P U s) :
  Calls prog 226 #[ac d 0] w fun e w'=>∃ v,e=.returned v∧Hid (Fr w' w.heap.size v (kJ P s)∧Below w.heap.size w w'):=by
 obtain⟨B,h0⟩:=id h
 obtain⟨c0,c1,c2,c3,c4,_⟩:=h0.cells
 have hG:=jz P.c P.o P.i P.t P.n w h0.pok.c h0.pok.n h0.pok.ok
 have H:Hid (_):=h
 clear h h0
 go_enter func226,ntmps226
 go_wp2_with fail
 refine hG.mono ?_
 rintro e w2 ⟨rfl,b2⟩
 have K:=PM.K_lt (pe P.c P.o P.i P.t P.n) 14
 have hr:=mK w2 (PM.K (pe P.c P.o P.i P.t P.n) 14) K
 have hB:=dZ (PM.K (pe P.c P.o P.i P.t P.n) 14) w2 K
 have b3:Below w2.heap.size w2 (w2.alloc (.cells #[.int .u8 ((PM.K (pe P.c P.o P.i P.t P.n) 14:Nat) / 16777216:Int),.int .u8 ((PM.K (pe P.c P.o P.i P.t P.n) 14:Nat) / 65536 % 256:Int),.int .u8 ((PM.K (pe P.c P.o P.i P.t P.n) 14:Nat) / 256 % 256:Int),.int .u8 ((PM.K (pe P.c P.o P.i P.t P.n) 14:Nat) % 256:Int)] 5)):=(Below.refl _ _).alloc (Nat.le_refl _) _
 have b4:=b2.trans (b3.mono b2.size)
 have hS:=fo d m g n mx P U s 17 0 0 (af w2.heap.size 0) 4 4 (lL P) _ (DV.below H.out b4) hr
 have HB:Hid (_):=b4
 clear hG b2 b3 b4 hr K c0 c1 c2 c3 c4 H
 generalize PM.K (pe P.c P.o P.i P.t P.n) 14=K at *
 go_wp2_with fail
 refine hB.mono ?_
 rintro e w3 ⟨rfl,rfl⟩
 clear hB
 go_wp2_with fail
 refine hS.mono ?_
 rintro e w4 ⟨v,rfl,h4⟩
 have H4:Hid (Fr w4 w.heap.size v (kJ P s)∧Below w.heap.size w w4):=⟨aS h4.out.1 HB.out.size,HB.out.trans (h4.out.2.mono HB.out.size)⟩
 clear hS h4 HB
 go_wp2_with fail
 go_ret
 exact⟨v,rfl,H4⟩
theorem lq (d m g n mx:Nat) (P:Pm) (U:List Nat) (s:Sd) (a:Option Addr) (len cap:Nat) (bs:Nat→Nat) (w:World) (h:DV w d m g n mx P U s) (hr:Row8 w a len cap bs) :
  Calls prog 224 #[ac d 0,.slice a len cap] w fun e w'=>e=.returned (.bool (aX P len bs))∧Below w.heap.size w w':=by
 obtain⟨B,h⟩:=h
 obtain⟨c0,c1,c2,c3,c4,_⟩:=h.cells
 have hG:=jO P.c P.o P.i P.t P.n a len cap bs w hr h.pok.c h.pok.n h.pok.ok (aX P len bs) rfl
 clear h hr
 go_enter func224,ntmps224
 go_wp2_with fail
 refine hG.mono ?_
 rintro e w2 ⟨rfl,b2⟩
 clear hG
 go_wp2_with fail
 go_ret
 exact⟨rfl,b2⟩
def Out (U:List Nat) (w w':World) (d m g n mx:Nat) (P:Pm) (s:Sd) (f:Fm) (v:Value):Prop:=
 ∃ U',Gr U w U' w'∧DV w' d m g n mx P U' s∧Fr w' w.heap.size v f∧∀ k,v.ownBlock=some k→k ∉ U'
theorem DV.ult {w:World} {d m g n mx:Nat} {P:Pm} {U:List Nat} {s:Sd} (h:DV w d m g n mx P U s) (k:Nat) (hk:k ∈ U):k<w.heap.size:=by
 obtain⟨B,h⟩:=h
 exact h.ltU k hk
theorem Fr.ge {w:World} {M:Nat} {v:Value} {f:Fm} (h:Fr w M v f) (k:Nat) (hk:v.ownBlock=some k):M≤k:=by
 rcases h.2 with hn | ⟨g',cap',cur',rfl,hg',_⟩
 ·rw[hn.1]at hk;cases hk
 ·cases hk;exact hg'
theorem Out.mk {U U1:List Nat} {w w1 w2:World} {d m g n mx:Nat} {P:Pm} {s:Sd} {f:Fm} {v:Value} (h:Gr U w U1 w1) (x:DV w1 d m g n mx P U1 s) (hf:Fr w2 w1.heap.size v f) (hb:Below w1.heap.size w1 w2):Out U w w2 d m g n mx P s f v:=
 ⟨U1,h.trans (Gr.below hb),x.below hb,aS hf h.off.size,fun k hk hm=>by have:=x.ult k hm;have:=hf.ge k hk;omega⟩
theorem Out.pre {U U1:List Nat} {w w1 w2:World} {d m g n mx:Nat} {P:Pm} {s:Sd} {f:Fm} {v:Value} (h:Gr U w U1 w1) (x:Out U1 w1 w2 d m g n mx P s f v):Out U w w2 d m g n mx P s f v:=by
 obtain⟨U',g2,x2,f2,k2⟩:=x
 exact⟨U',h.trans g2,x2,aS f2 h.off.size,k2⟩
theorem Out.none_ {U U1:List Nat} {w w1:World} {d m g n mx:Nat} {P:Pm} {s:Sd} (h:Gr U w U1 w1) (x:DV w1 d m g n mx P U1 s):Out U w w1 d m g n mx P s cZ (.slice none 0 0):=
 ⟨U1,h,x,j5 _ _ _,fun k hk=>by cases hk⟩
theorem eK (d m g n mx:Nat) (P:Pm) (U:List Nat) (s:Sd) (w:World) (h:DV w d m g n mx P U s) (hs:s.st≠6) (ho:s.od<4) (hL:s.L.length<900000) :
  Calls prog 225 #[ac d 0] w fun e w'=>e=.returned (.tuple #[])∧Hid (∃ U',Gr U w U' w'∧DV w' d m g n mx P U' (bT s)):=by
 obtain⟨B,h⟩:=h
 have c11:=h.cells.2.2.2.2.2.2.2.2.2.2.2.1
 have c15:=h.cells.2.2.2.2.2.2.2.2.2.2.2.2.2.2.2.1
 have z15:=h.fz 15
 have hI:=lP d s.st w c11
 unfold bT
 by_cases hb:sx s=true
 ·rw[if_pos hb]
  rw[show decide (s.st=2∨s.st=3∨s.st=4)=true from hb]at hI
  obtain⟨od1,hod⟩:∃ k,s.od+1=k:=⟨_,rfl⟩
  rw[hod]
  have o1:=Off.setCell d 15 w (.int .i64 (od1:Int))
  have x1:=h.own o1 (s':={ s with od:=od1 }) (heap_setCell_same _ _ _ _ _ _ h.dev) rfl rfl rfl rfl rfl id
  have g1:Gr U w U (w.setCell ⟨d,15,none⟩ (.int .i64 (od1:Int))):=Gr.same o1 (by simp[h.kd.2])
  have e1:(s.od:Int)+1=(od1:Int):=by omega
  clear hod
  by_cases h4:od1<4
  ·rw[if_pos h4]
   have h4':(od1:Int)<4:=by omega
   have H:Hid (_):=And.intro g1 x1
   clear h hb o1 x1 g1 hL h4 hs
   go_enter func225,ntmps225
   go_wp2_with (go_at_call 235;refine hI.mono ?_;rintro e w' ⟨rfl,hw⟩;have hw:=hw.symm;subst hw)
   all_goals
    refine bodyPost_ret (results_none rfl _ _ _) rfl ?_
    exact⟨rfl,U,H.out.1,B,H.out.2⟩
  ·rw[if_neg h4]
   have h4':¬ (od1:Int)<4:=by omega
   by_cases hr:s.st=4
   ·rw[if_pos hr]
    have hr':((s.st:Nat):Int)=4:=by omega
    have hT:=fe d m g n mx P U { s with od:=od1 } 131 _ ⟨B,x1⟩ (by omega) (by decide) hL
    rw[hr]at c11
    have H:Hid (_):=g1
    have HS:Hid (_):=hs
    clear h hb o1 x1 g1 hL h4 hr' hs
    go_enter func225,ntmps225
    go_wp2_with (first | (go_at_call 235;refine hI.mono ?_;rintro e w' ⟨rfl,hw⟩;have hw:=hw.symm;subst hw) | (go_at_call 232;refine hT.mono ?_;rintro e w2 ⟨rfl,h2⟩))
    obtain⟨U2,g2,x2⟩:=h2.out
    have hst:(aN { s with od:=od1 } 131).st≠6:=by unfold aN;split <;> exact HS.out
    have hV:=gY d m g n mx P U2 _ 1 w2 x2 hst
    have H2:Hid (_):=H.out.trans g2
    clear hT hI h2 g2 x2 c11 c15 z15 H HS hst
    go_wp2_with (go_at_call 236;refine hV.mono ?_;rintro e w3 ⟨rfl,h3⟩)
    go_end0
    obtain⟨U3,g3,x3⟩:=h3.out
    exact⟨rfl,U3,H2.out.trans g3,x3⟩
   ·rw[if_neg hr]
    have hr':(((s.st:Nat):Int) == 4)=false:=by simp;omega
    have hV:=gY d m g n mx P U { s with od:=od1 } 1 _ ⟨B,x1⟩ hs
    have H:Hid (_):=g1
    clear h hb o1 x1 g1 hL h4 hr hs
    go_enter func225,ntmps225
    go_wp2_with (first | (go_at_call 235;refine hI.mono ?_;rintro e w' ⟨rfl,hw⟩;have hw:=hw.symm;subst hw) | (go_at_call 236;refine hV.mono ?_;rintro e w3 ⟨rfl,h3⟩))
    go_end0
    obtain⟨U3,g3,x3⟩:=h3.out
    exact⟨rfl,U3,H.out.trans g3,x3⟩
 ·rw[if_neg hb]
  have hb':sx s=false:=by simpa using hb
  rw[show decide (s.st=2∨s.st=3∨s.st=4)=false from hb']at hI
  have H:Hid (_):=h
  clear h hb hb' c15 z15
  go_enter func225,ntmps225
  go_wp2_with (go_at_call 235;refine hI.mono ?_;rintro e w' ⟨rfl,hw⟩;have hw:=hw.symm;subst hw)
  all_goals
   refine bodyPost_ret (results_none rfl _ _ _) rfl ?_
   exact⟨rfl,U,Gr.refl _ _,B,H.out⟩
theorem ei (d m g n mx:Nat) (P:Pm) (U:List Nat) (s:Sd) (x:Int) (w:World) (h:DV w d m g n mx P U s) (hs:s.st≠6) (ho:s.od<4) (hL:s.L.length<900000) :
  Calls prog 210 #[ac d 0,.int .i64 x] w fun e w'=>∃ v,e=.returned (.tuple #[v,.int .i64 x])∧Hid (Out U w w' d m g n mx P (bT s) (iL P (bT s)) v):=by
 have hC:=eK d m g n mx P U s w h hs ho hL
 clear h hs ho hL
 go_enter func210,ntmps210
 go_wp2_with (go_at_call 225;refine hC.mono ?_;rintro e w2 ⟨rfl,h2⟩)
 obtain⟨U2,g2,x2⟩:=h2.out
 have hN:=kZ d m g n mx P U2 _ w2 x2
 have H:Hid (_):=And.intro g2 x2
 clear hC h2 g2 x2
 go_wp2_with (go_at_call 227;refine hN.mono ?_;rintro e w3 ⟨v,rfl,h3⟩)
 go_ret2
 exact⟨v,rfl,Out.mk H.out.1 H.out.2 h3.out.1 h3.out.2⟩
structure NL (w w':World) (P:Pm) (db vb vg ga:Nat):Prop where
 dog:DR w' db P.t 0
 val:VR w' vb vg [] P.o om
 app:w'.ownsRow w.heap.size 5 1 (.slice (af ga 0) P.i P.i) P.i (CB (fun _=>0) P.i)
 bel:Below w.heap.size w w'
 h1:w.heap.size≤db
 h2:db<vb
 h3:db<vg
 h4:vb<ga
 h5:vg<ga
 h6:ga<w'.heap.size
def tc:Array Value:=#[.pointer none,.pointer none,.int .i64 0,.int .u32 0,.int .u32 0,.int .u32 0,.int .i64 0,.slice none 0 0,.bool false]
theorem sW (w:World) (o p:Array Value) (t u:TypeId) (wx:World) (hb:Below ((w.alloc (.cells o t)).alloc (.cells p u)).heap.size ((w.alloc (.cells o t)).alloc (.cells p u)) wx) :
  wx.heap[w.heap.size]?=some (.cells o t (0,0))∧wx.heap[w.heap.size+1]?=some (.cells p u (0,0)):=by
 have s1:(w.alloc (.cells o t)).heap.size=w.heap.size+1:=by simp
 have s2:((w.alloc (.cells o t)).alloc (.cells p u)).heap.size=w.heap.size+2:=by simp
 constructor
 ·rw[hb.block _ (by omega),Below.heap_alloc _ _ _ (by omega)]
  exact aB w _
 ·rw[hb.block _ (by omega),← s1]
  exact aB _ _
theorem aaN (b:Nat) (w:World) (x0 x1 x2 x3 x4 x5 x6 x7 x8:Value) :
  Off [b] w (((((((((w.setCell ⟨b,0,none⟩ x0).setCell ⟨b,1,none⟩ x1).setCell ⟨b,2,none⟩ x2).setCell ⟨b,3,none⟩ x3).setCell ⟨b,4,none⟩ x4).setCell ⟨b,5,none⟩ x5).setCell ⟨b,6,none⟩ x6).setCell ⟨b,7,none⟩ x7).setCell ⟨b,8,none⟩ x8):=
 ((((((((Off.setCell b 0 w x0).trans (Off.setCell b 1 _ x1)).trans (Off.setCell b 2 _ x2)).trans (Off.setCell b 3 _ x3)).trans (Off.setCell b 4 _ x4)).trans (Off.setCell b 5 _ x5)).trans (Off.setCell b 6 _ x6)).trans (Off.setCell b 7 _ x7)).trans (Off.setCell b 8 _ x8)
theorem gB (P:Pm) (hP:Pok P) (w:World) :
  Calls prog 77 #[.agg #[.int .u32 (P.c:Nat),.int .i64 (P.o:Nat),.int .i64 (P.i:Nat),.int .i64 (P.t:Nat),.int .u32 (P.n:Nat)]] w fun e w'=>∃ db vb vg ga,e=.returned (.agg #[ac db 0,ac vb 0,.int .i64 1,.int .u32 0,.int .u32 0,.int .u32 0,.int .i64 0,.slice (af ga 0) P.i P.i,.bool false])∧Hid (NL w w' P db vb vg ga):=by
 obtain⟨i0,hi,hz0,hz1,hz2⟩:=info_parts cq
 have hX:=sW w #[.int .u32 (P.c:Nat),.int .i64 (P.o:Nat),.int .i64 (P.i:Nat),.int .i64 (P.t:Nat),.int .u32 (P.n:Nat)] tc 83 145
 have hA:Below w.heap.size w ((w.alloc (.cells #[.int .u32 (P.c:Nat),.int .i64 (P.o:Nat),.int .i64 (P.i:Nat),.int .i64 (P.t:Nat),.int .u32 (P.n:Nat)] 83)).alloc (.cells tc 145)):=((Below.refl _ _).alloc (Nat.le_refl _) _).alloc (by simp) _
 have hs:((w.alloc (.cells #[.int .u32 (P.c:Nat),.int .i64 (P.o:Nat),.int .i64 (P.i:Nat),.int .i64 (P.t:Nat),.int .u32 (P.n:Nat)] 83)).alloc (.cells tc 145)).heap.size=w.heap.size+2:=by simp
 have hW:=fun wx=>tb P.t wx hP.t1 hP.t2
 have hV:=fun wx=>sZ P.o wx hP.o1 hP.o8
 have hi8:=hP.i8
 have hi1:=hP.i1
 have HW:Hid (_):=hW
 have HV:Hid (_):=hV
 have HA:Hid (_):=And.intro hA hs
 clear hA hs hW hV hP
 go_enter func77,ntmps77
 go_wp2_with fail
 refine (HW.out _).mono ?_
 rintro e w2 ⟨rfl,o2,d2⟩
 unfold tc at hX HA
 generalize hwa:(w.alloc (.cells #[.int .u32 (P.c:Nat),.int .i64 (P.o:Nat),.int .i64 (P.i:Nat),.int .i64 (P.t:Nat),.int .u32 (P.n:Nat)] 83)).alloc (.cells #[.pointer none,.pointer none,.int .i64 0,.int .u32 0,.int .u32 0,.int .u32 0,.int .i64 0,.slice none 0 0,.bool false] 145)=wa at *
 clear hwa
 have b2:Below wa.heap.size wa w2:=⟨o2.os,o2.tape,o2.output,o2.size,fun k hk=>o2.block k hk (by simp)⟩
 have p1:w2.cell? ⟨w.heap.size,1,none⟩=some (.int .i64 (P.o:Nat)):=ae w2 _ 1 _ _ _ (hX w2 b2).1
 have K2:Hid (_):=And.intro b2 d2
 have HX:Hid (_):=hX
 clear b2 d2 o2 HW hX
 go_wp2_with fail
 refine (HV.out _).mono ?_
 rintro e w3 ⟨vb,vg,rfl,h3⟩
 have o3:=h3.out.2.2.2.2.1
 have b3:Below wa.heap.size wa w3:=K2.out.1.trans ⟨o3.os,o3.tape,o3.output,o3.size,fun k hk=>o3.block k (Nat.lt_of_lt_of_le hk K2.out.1.size) (by simp)⟩
 have p2:w3.cell? ⟨w.heap.size,2,none⟩=some (.int .i64 (P.i:Nat)):=ae w3 _ 2 _ _ _ (HX.out w3 b3).1
 have K3:Hid (_):=And.intro b3 (And.intro (K2.out.2.off o3 (by simp)) (And.intro h3.out (Nat.lt_of_lt_of_le K2.out.2.lt (Nat.le_refl _))))
 have K4:Hid (_):=K2.out.2.lt
 clear b3 o3 h3 p1 HV K2
 go_wp2_with (at_make;refine bk _ rfl (.tmp 22) (.tmp 22) 37 rfl w3.heap.size 5 i0 underlying37 hi hz0 hz1 hz2 _ _ _ _ P.i P.i rfl rfl rfl rfl (Nat.le_refl _) (by omega) (Nat.le_refl _) ?_)
 intro w4 hown4 hbel4
 have b4:Below wa.heap.size wa w4:=K3.out.1.trans (hbel4.mono K3.out.1.size)
 have e4:=(HX.out w4 b4).2
 have y0:=ae w4 (w.heap.size+1) 0 _ _ _ e4
 have y1:=ae w4 (w.heap.size+1) 1 _ _ _ e4
 have y2:=ae w4 (w.heap.size+1) 2 _ _ _ e4
 have y3:=ae w4 (w.heap.size+1) 3 _ _ _ e4
 have y4:=ae w4 (w.heap.size+1) 4 _ _ _ e4
 have y5:=ae w4 (w.heap.size+1) 5 _ _ _ e4
 have y6:=ae w4 (w.heap.size+1) 6 _ _ _ e4
 have y7:=ae w4 (w.heap.size+1) 7 _ _ _ e4
 have y8:=ae w4 (w.heap.size+1) 8 _ _ _ e4
 have fz:=fun j=>frozen_of_row w4 (w.heap.size+1) j _ _ e4
 have f0:=fz 0
 have f1:=fz 1
 have f2:=fz 2
 have f3:=fz 3
 have f4:=fz 4
 have f5:=fz 5
 have f6:=fz 6
 have f7:=fz 7
 have f8:=fz 8
 have K5:Hid (_):=And.intro b4 (And.intro hown4 hbel4)
 clear e4 b4 hown4 hbel4 fz p2 HX
 go_wp2_with fail
 refine bodyPost_ret (v:=.agg #[ac wa.heap.size 0,ac vb 0,.int .i64 1,.int .u32 0,.int .u32 0,.int .u32 0,.int .i64 0,.slice (af w3.heap.size 0) P.i P.i,.bool false]) (by simp[results,results77,go_sem,y0,y1,y2,y3,y4,y5,y6,y7,y8]) rfl ⟨wa.heap.size,vb,vg,w3.heap.size,rfl,?_⟩
 obtain⟨b4,hown4,hbel4⟩:=K5.out
 obtain⟨b3,d3,⟨v1,v2,v3,v4,o3,x3⟩,_⟩:=K3.out
 obtain⟨hA,hs⟩:=HA.out
 have hlt:=(hown4.lt _ rfl).2
 have k4:=K4.out
 have oo:Off [w.heap.size+1] w4 _:=aaN (w.heap.size+1) w4 (ac wa.heap.size 0) (ac vb 0) (.int .i64 1) (.int .u32 0) (.int .u32 0) (.int .u32 0) (.int .i64 0) (.slice (af w3.heap.size 0) P.i P.i) (.bool false)
 have q4:=Off.of_below (l:=[]) hbel4
 have sz:=oo.size
 have s3:=b3.size
 have s4:=b4.size
 have so:w4.ownsRow w.heap.size 5 1 (.slice (af w3.heap.size 0) P.i P.i) P.i (CB (fun _=>0) P.i):=aS hown4 (by omega)
 have z6:w3.heap.size<w4.heap.size:=hlt
 have z2:wa.heap.size<vb:=by omega
 have z3:wa.heap.size<vg:=by omega
 refine⟨(d3.off q4 (by simp)).off oo (by simp;omega),((x3.off q4 (by simp) (by simp) (by simp)).off oo (by simp;omega) (by simp;omega) (by simp)),aO so oo ?_,?_,by omega,z2,z3,v3,v4,Nat.lt_of_lt_of_le z6 sz⟩
 ·intro k hk
  cases hk
  have:=b3.size
  simp;omega
 ·have bo:=oo.below (B:=w.heap.size) (w0:=w) (hA.trans (b4.mono (by omega))) (by simp) (by have:=b4.size;omega)
  exact bo
section
variable {w w' w1 w2:World} {d m g n mx:Nat} {P:Pm} {U:List Nat} {s s':Sd} {B:Bk} {A A':Prop}
theorem DX.memd (h:DX w d m g n mx P U s B A) (q:Off [m,g,B.c] w w') {ms:Ms} (e:MR w' m g n ms) (hc:A'→B.cp=ac B.c 0∧CS w' B.c m mx ms.bs false∧ms.off=false) :
  DX w' d m g n mx P U { s with ms:=ms } B A':=by
 have hn:∀ k,B.col k≠1→B.col k≠2→k ∉ [m,g,B.c]:=fun k hk h2 hm=>by
  simp at hm
  rcases hm with hm | hm | hm
  ·rw[hm]at hk;exact hk h.km.1
  ·rw[hm]at hk;exact hk h.kg.1
  ·rw[hm]at h2;exact h2 h.kc.1
 refine⟨(q.block d h.dlt (hn _ (by rw[h.kd.1];omega) (by rw[h.kd.1];omega))).trans h.dev,e,hc,?_,?_,?_,?_,h.apb,fun k hk=>Nat.lt_of_lt_of_le (h.ltU k hk) q.size,h.kd,h.km,h.kg,h.kc,h.kb,h.kv,h.kw,h.kM,h.kl,h.ka,h.pok,h.n10,h.mx0,h.mxl⟩
 ·exact h.dog.off q (hn _ (by rw[h.kb.1];omega) (by rw[h.kb.1];omega))
 ·refine h.val.off q (hn _ (by rw[h.kv.1];omega) (by rw[h.kv.1];omega)) (hn _ (by rw[h.kw.1];omega) (by rw[h.kw.1];omega)) (fun k hk hM=>hn k ?_ ?_ hk)
  ·rw[(h.kM k hM).1];omega
  ·rw[(h.kM k hM).1];omega
 ·exact h.log.off q (fun k hk=>hn _ (by rw[(h.kl k hk).1];omega) (by rw[(h.kl k hk).1];omega))
 ·exact aO h.app q (fun k hk=>hn _ (by rw[(h.ka k hk).1];omega) (by rw[(h.ka k hk).1];omega))
theorem DX.memU (h:DX w d m g n mx P U s B A):∀ k,k ∈ [m,g,B.c]→k ∈ U:=fun k hk=>by
 simp at hk
 rcases hk with hk | hk | hk
 ·rw[hk];exact h.km.2
 ·rw[hk];exact h.kg.2
 ·rw[hk];exact h.kc.2
theorem DX.celd (h:DX w d m g n mx P U s B A) {c:Nat} {cp:Value} (hc:c ∉ U) (hlt:c<w.heap.size) (q:Off [d] w w') (e:w'.heap[d]?=some (.cells (jS P m mx cp B.lb B.db B.vb s B.av) 147 (0,0)))
  (hx:A'→cp=ac c 0∧CS w c m mx s.ms.bs false∧s.ms.off=false):DX w' d m g n mx P (c :: U) s { B with c:=c,cp:=cp,col:=fun k=>if k=c then 2 else B.col k } A':=by
 have hn:∀ k,B.col k≠0→k ∉ [d]:=fun k hk hm=>by simp at hm;rw[hm,h.kd.1]at hk;exact hk rfl
 have hq:∀ k x,B.col k=x∧k ∈ U→(if k=c then 2 else B.col k)=x∧k ∈ c :: U:=fun k x hk=>⟨by rw[if_neg (fun e=>hc (by rw[← e];exact hk.2))];exact hk.1,by simp[hk.2]⟩
 refine⟨e,?_,?_,?_,?_,?_,?_,h.apb,?_,hq _ _ h.kd,hq _ _ h.km,hq _ _ h.kg,⟨if_pos rfl,by simp⟩,hq _ _ h.kb,hq _ _ h.kv,hq _ _ h.kw,fun k hk=>hq _ _ (h.kM k hk),fun k hk=>hq _ _ (h.kl k hk),fun k hk=>hq _ _ (h.ka k hk),h.pok,h.n10,h.mx0,h.mxl⟩
 ·exact h.mem.off q (hn _ (by rw[h.km.1];omega)) (hn _ (by rw[h.kg.1];omega))
 ·intro hs
  obtain⟨c1,c2,c3⟩:=hx hs
  exact⟨c1,c2.off q (by simp;intro e;exact hc (by rw[e];exact h.kd.2)),c3⟩
 ·exact h.dog.off q (hn _ (by rw[h.kb.1];omega))
 ·exact h.val.off q (hn _ (by rw[h.kv.1];omega)) (hn _ (by rw[h.kw.1];omega)) (fun k hk hM=>by simp at hk;subst hk;have:=(h.kM _ hM).1;rw[h.kd.1]at this;omega)
 ·exact h.log.off q (fun k hk=>hn _ (by rw[(h.kl k hk).1];omega))
 ·exact aO h.app q (fun k hk=>hn _ (by rw[(h.ka k hk).1];omega))
 ·intro k hk
  simp at hk
  rcases hk with rfl | hk
  ·exact Nat.lt_of_lt_of_le hlt q.size
  ·exact Nat.lt_of_lt_of_le (h.ltU k hk) q.size
theorem DX.lived (h:DX w d m g n mx P U s B A) {db vb vg ga k:Nat} (q:NL w w1 P db vb vg ga) (o:Off [d] w1 w2)
  (e:w2.heap[d]?=some (.cells (jS P m mx B.cp B.lb db vb (jI s k) (.slice (af ga 0) P.i P.i)) 147 (0,0))) :
  ∃ U' B',Gr U w U' w2∧DX w2 d m g n mx P U' (jI s k) B' A:=by
 obtain⟨q1,q2,q3,q4,q5,q6,q7,q8,q9,q10⟩:=q
 have hd:=h.dlt
 have hq:∀ k x,B.col k=x∧k ∈ U→(if k<w.heap.size then B.col k else if k=db then 3 else if k=vb∨k=vg then 4 else 6)=x∧k ∈ [db,vb,vg,ga] ++ U:=fun k x hk=>⟨by rw[if_pos (h.ltU k hk.2)];exact hk.1,List.mem_append.2 (.inr hk.2)⟩
 have hn:∀ k,B.col k≠0→k ∉ [d]:=fun k hk hm=>by simp at hm;rw[hm,h.kd.1]at hk;exact hk rfl
 have h1:=h.newd (Off.of_below (l:=[]) q4)
 refine⟨[db,vb,vg,ga] ++ U,{ B with db:=db,vb:=vb,vg:=vg,M:=[],av:=.slice (af ga 0) P.i P.i,col:=fun k=>if k<w.heap.size then B.col k else if k=db then 3 else if k=vb∨k=vg then 4 else 6 },⟨?_,?_⟩,?_⟩
 ·exact (Off.of_below q4).trans (o.more (by simp[h.kd.2]))
 ·intro k hk
  rcases List.mem_append.1 hk with hk | hk
  ·simp at hk;right;omega
  ·exact .inl hk
 ·refine⟨e,h1.mem.off o (hn _ (by rw[h.km.1];omega)) (hn _ (by rw[h.kg.1];omega)),?_,q1.off o (by simp;omega),q2.off o (by simp;omega) (by simp;omega) (by simp),h1.log.off o (fun k hk=>hn _ (by rw[(h.kl k hk).1];omega)),?_,fun _ _=>by show 0<256;omega,?_,hq _ _ h.kd,hq _ _ h.km,hq _ _ h.kg,hq _ _ h.kc,?_,?_,?_,fun k hk=>(by simp at hk),fun k hk=>hq _ _ (h.kl k hk),?_,h.pok,h.n10,h.mx0,h.mxl⟩
  ·intro hs
   obtain⟨c1,c2,c3⟩:=h1.cel hs
   exact⟨c1,c2.off o (hn _ (by rw[h.kc.1];omega)),c3⟩
  ·refine aO (aS q3 (Nat.zero_le _)) o (fun k hk=>?_)
   cases hk
   simp;omega
  ·intro k hk
   have so:=o.size
   rcases List.mem_append.1 hk with hk | hk
   ·simp at hk;omega
   ·exact Nat.lt_of_lt_of_le (h1.ltU k hk) so
  ·exact⟨by show (if db<w.heap.size then _ else if db=db then 3 else _)=3;rw[if_neg (by omega),if_pos rfl],by simp⟩
  ·exact⟨by show (if vb<w.heap.size then _ else if vb=db then 3 else if vb=vb∨vb=vg then 4 else 6)=4;rw[if_neg (by omega),if_neg (by omega),if_pos (.inl rfl)],by simp⟩
  ·exact⟨by show (if vg<w.heap.size then _ else if vg=db then 3 else if vg=vb∨vg=vg then 4 else 6)=4;rw[if_neg (by omega),if_neg (by omega),if_pos (.inr rfl)],by simp⟩
  ·intro k hk
   cases hk
   exact⟨by show (if ga<w.heap.size then _ else if ga=db then 3 else if ga=vb∨ga=vg then 4 else 6)=6;rw[if_neg (by omega),if_neg (by omega),if_neg (by omega)],by simp⟩
end
theorem rA (b:Nat) (w:World) (x0 x1 x2 x3 x4 x5 x6 x7 x8:Value) :
  Off [b] w (((((((((w.setCell ⟨b,9,none⟩ x0).setCell ⟨b,10,none⟩ x1).setCell ⟨b,11,none⟩ x2).setCell ⟨b,12,none⟩ x3).setCell ⟨b,13,none⟩ x4).setCell ⟨b,14,none⟩ x5).setCell ⟨b,15,none⟩ x6).setCell ⟨b,16,none⟩ x7).setCell ⟨b,17,none⟩ x8):=
 ((((((((Off.setCell b 9 w x0).trans (Off.setCell b 10 _ x1)).trans (Off.setCell b 11 _ x2)).trans (Off.setCell b 12 _ x3)).trans (Off.setCell b 13 _ x4)).trans (Off.setCell b 14 _ x5)).trans (Off.setCell b 15 _ x6)).trans (Off.setCell b 16 _ x7)).trans (Off.setCell b 17 _ x8)
theorem kY {w:World} {d m mx lb db vb db' vb':Nat} {P:Pm} {cp av av':Value} {s:Sd} (e:w.heap[d]?=some (.cells (jS P m mx cp lb db vb s av) 147 (0,0))) :
  (((((((((w.setCell ⟨d,9,none⟩ (ac db' 0)).setCell ⟨d,10,none⟩ (ac vb' 0)).setCell ⟨d,11,none⟩ (.int .i64 1)).setCell ⟨d,12,none⟩ (.int .u32 0)).setCell ⟨d,13,none⟩ (.int .u32 0)).setCell ⟨d,14,none⟩ (.int .u32 0)).setCell ⟨d,15,none⟩ (.int .i64 0)).setCell ⟨d,16,none⟩ av').setCell ⟨d,17,none⟩ (.bool false)).heap[d]?=some (.cells (jS P m mx cp lb db' vb' (jI s 1) av') 147 (0,0)):=by
 have e0:(w.setCell ⟨d,9,none⟩ (ac db' 0)).heap[d]?=some (.cells (jS P m mx cp lb db' vb s av) 147 (0,0)):=heap_setCell_same _ _ _ _ _ _ e
 have e1:((w.setCell ⟨d,9,none⟩ (ac db' 0)).setCell ⟨d,10,none⟩ (ac vb' 0)).heap[d]?=some (.cells (jS P m mx cp lb db' vb' s av) 147 (0,0)):=heap_setCell_same _ _ _ _ _ _ e0
 have e2:(((w.setCell ⟨d,9,none⟩ (ac db' 0)).setCell ⟨d,10,none⟩ (ac vb' 0)).setCell ⟨d,11,none⟩ (.int .i64 1)).heap[d]?=some (.cells (jS P m mx cp lb db' vb' { s with st:=1 } av) 147 (0,0)):=heap_setCell_same _ _ _ _ _ _ e1
 have e3:((((w.setCell ⟨d,9,none⟩ (ac db' 0)).setCell ⟨d,10,none⟩ (ac vb' 0)).setCell ⟨d,11,none⟩ (.int .i64 1)).setCell ⟨d,12,none⟩ (.int .u32 0)).heap[d]?=some (.cells (jS P m mx cp lb db' vb' { s with st:=1,ss:=0 } av) 147 (0,0)):=heap_setCell_same _ _ _ _ _ _ e2
 have e4:(((((w.setCell ⟨d,9,none⟩ (ac db' 0)).setCell ⟨d,10,none⟩ (ac vb' 0)).setCell ⟨d,11,none⟩ (.int .i64 1)).setCell ⟨d,12,none⟩ (.int .u32 0)).setCell ⟨d,13,none⟩ (.int .u32 0)).heap[d]?=some (.cells (jS P m mx cp lb db' vb' { s with st:=1,ss:=0,nm:=0 } av) 147 (0,0)):=heap_setCell_same _ _ _ _ _ _ e3
 have e5:((((((w.setCell ⟨d,9,none⟩ (ac db' 0)).setCell ⟨d,10,none⟩ (ac vb' 0)).setCell ⟨d,11,none⟩ (.int .i64 1)).setCell ⟨d,12,none⟩ (.int .u32 0)).setCell ⟨d,13,none⟩ (.int .u32 0)).setCell ⟨d,14,none⟩ (.int .u32 0)).heap[d]?=some (.cells (jS P m mx cp lb db' vb' { s with st:=1,ss:=0,nm:=0,sn:=0 } av) 147 (0,0)):=heap_setCell_same _ _ _ _ _ _ e4
 have e6:(((((((w.setCell ⟨d,9,none⟩ (ac db' 0)).setCell ⟨d,10,none⟩ (ac vb' 0)).setCell ⟨d,11,none⟩ (.int .i64 1)).setCell ⟨d,12,none⟩ (.int .u32 0)).setCell ⟨d,13,none⟩ (.int .u32 0)).setCell ⟨d,14,none⟩ (.int .u32 0)).setCell ⟨d,15,none⟩ (.int .i64 0)).heap[d]?=some (.cells (jS P m mx cp lb db' vb' { s with st:=1,ss:=0,nm:=0,sn:=0,od:=0 } av) 147 (0,0)):=heap_setCell_same _ _ _ _ _ _ e5
 have e7:((((((((w.setCell ⟨d,9,none⟩ (ac db' 0)).setCell ⟨d,10,none⟩ (ac vb' 0)).setCell ⟨d,11,none⟩ (.int .i64 1)).setCell ⟨d,12,none⟩ (.int .u32 0)).setCell ⟨d,13,none⟩ (.int .u32 0)).setCell ⟨d,14,none⟩ (.int .u32 0)).setCell ⟨d,15,none⟩ (.int .i64 0)).setCell ⟨d,16,none⟩ av').heap[d]?=some (.cells (jS P m mx cp lb db' vb' { s with st:=1,ss:=0,nm:=0,sn:=0,od:=0 } av') 147 (0,0)):=heap_setCell_same _ _ _ _ _ _ e6
 have e8:(((((((((w.setCell ⟨d,9,none⟩ (ac db' 0)).setCell ⟨d,10,none⟩ (ac vb' 0)).setCell ⟨d,11,none⟩ (.int .i64 1)).setCell ⟨d,12,none⟩ (.int .u32 0)).setCell ⟨d,13,none⟩ (.int .u32 0)).setCell ⟨d,14,none⟩ (.int .u32 0)).setCell ⟨d,15,none⟩ (.int .i64 0)).setCell ⟨d,16,none⟩ av').setCell ⟨d,17,none⟩ (.bool false)).heap[d]?=some (.cells (jS P m mx cp lb db' vb' { s with st:=1,ss:=0,nm:=0,sn:=0,od:=0,hd:=false } av') 147 (0,0)):=heap_setCell_same _ _ _ _ _ _ e7
 exact e8
theorem iw (d m g n mx:Nat) (P:Pm) (U:List Nat) (s:Sd) (B:Bk) (A:Prop) (w:World) (h:DX w d m g n mx P U s B A) :
  Calls prog 114 #[ac d 0] w fun e w'=>e=.returned (.tuple #[])∧Hid (∃ U',Gr U w U' w'∧DV w' d m g n mx P U' (jI s 6)):=by
 obtain⟨c0,c1,c2,c3,c4,_⟩:=h.cells
 have hL:=gB P h.pok w
 have H:Hid (_):=h
 clear h
 go_enter func114,ntmps114
 go_wp2_with (go_at_call 77;refine hL.mono ?_;rintro e w1 ⟨db,vb,vg,ga,rfl,h1⟩;obtain⟨_,_,_,_,_,_,_,_,_,y9,y10,y11,y12,y13,y14,y15,y16,y17⟩:=(H.out.newd (Off.of_below h1.out.bel)).cells;have fz:=(H.out.newd (Off.of_below h1.out.bel)).fz;have f9:=fz 9;have f10:=fz 10;have f11:=fz 11;have f12:=fz 12;have f13:=fz 13;have f14:=fz 14;have f15:=fz 15;have f16:=fz 16;have f17:=fz 17;clear fz c0 c1 c2 c3 c4 hL)
 go_end0
 have e1:=(H.out.newd (Off.of_below h1.out.bel)).dev
 have o:=(rA d w1 (ac db 0) (ac vb 0) (.int .i64 1) (.int .u32 0) (.int .u32 0) (.int .u32 0) (.int .i64 0) (.slice (af ga 0) P.i P.i) (.bool false)).trans (Off.setCell d 11 _ (.int .i64 6))
 have e2:=kY (db':=db) (vb':=vb) (av':=.slice (af ga 0) P.i P.i) e1
 have e3:(World.setCell _ ⟨d,11,none⟩ (.int .i64 6)).heap[d]?=some (.cells (jS P m mx B.cp B.lb db vb (jI s 6) (.slice (af ga 0) P.i P.i)) 147 (0,0)):=heap_setCell_same _ _ _ _ _ _ e2
 obtain⟨U',B',g2,x2⟩:=H.out.lived (k:=6) h1.out o e3
 exact⟨rfl,U',g2,B',{ x2 with cel:=fun hs=>absurd rfl hs }⟩
end Go.Proofs.YtenilkloffnjlaaGreat
namespace Go.Proofs.YtenilkloffnjlaaGreat
open Tryz
open Go.RowKit
theorem acL (mx n:Nat) (z:Nat→Nat) (cut:Bool) (s:Ms):(nx mx n z cut s).e=0∨(nx mx n z cut s).e=70∨(nx mx n z cut s).e=80:=by
 unfold nx
 split
 ·exact .inr (.inl rfl)
 ·split
  ·exact .inr (.inr rfl)
  ·split
   ·exact .inl rfl
   ·exact .inr (.inl rfl)
theorem aao (k c s n f len said:Int):0≤LW k c s n f len said∧LW k c s n f len said≤48:=by
 unfold LW
 split
 ·omega
 ·split
  ·omega
  ·split
   ·omega
   ·split
    ·omega
    ·split
     ·omega
     ·split <;> omega
theorem uD (bs:Nat→Nat) (N:Nat):0≤DE bs N∧DE bs N≤48:=by
 unfold DE
 split
 ·omega
 ·split
  ·omega
  ·split
   ·omega
   ·exact aao _ _ _ _ _ _ _
theorem fR (s:Sd) (x:Int):(aN s x).L.length≤s.L.length+1:=by
 unfold aN
 split
 ·simp[gv]
 ·simp
theorem tu (s:Sd) (x:Int):(aN s x).st=s.st:=by unfold aN;split <;> rfl
theorem gQ (s:Sd) (x:Int):(aN s x).ms=s.ms:=by unfold aN;split <;> rfl
theorem kI (s:Sd):(bT s).L.length≤s.L.length+1:=by
 unfold bT
 split
 ·split
  ·simp
  ·split
   ·exact fR _ _
   ·simp[d9]
 ·omega
theorem gR (s:Sd):(bT s).ms=s.ms:=by
 unfold bT
 split
 ·split
  ·rfl
  ·split
   ·exact gQ _ _
   ·rfl
 ·rfl
theorem jX {s:Sd} (h:s.st≠6):(bT s).st≠6:=by
 unfold bT
 split
 ·split
  ·exact h
  ·intro e;cases e
 ·exact h
theorem uW (P:Pm) (mx n:Nat) (s:Sd):0 ≤ (bL P mx n s).e∧(bL P mx n s).e≤200:=by
 have:=acL mx n s.ms.bs false s.ms
 unfold bL
 split
 ·exact⟨by show (0:Int)≤80;omega,by show (80:Int)≤200;omega⟩
 ·split
  ·exact⟨by show 0 ≤ (nx mx n s.ms.bs false s.ms).e;omega,by show (nx mx n s.ms.bs false s.ms).e≤200;omega⟩
  ·exact⟨by show (0:Int)≤0;omega,by show (0:Int)≤200;omega⟩
theorem qU (P:Pm) (mx n:Nat) (s:Sd):(bL P mx n s).s.L.length≤s.L.length+1:=by
 unfold bL
 split
 ·exact fR _ _
 ·split
  ·show s.L.length≤_;omega
  ·show s.L.length≤_;omega
theorem yl (P:Pm) (mx n:Nat) (s:Sd):0 ≤ (cj P mx n s).e∧(cj P mx n s).e≤200:=by
 unfold cj
 split
 ·exact⟨by show (0:Int)≤130;omega,by show (130:Int)≤200;omega⟩
 ·split
  ·exact⟨by show (0:Int)≤130;omega,by show (130:Int)≤200;omega⟩
  ·exact uW _ _ _ _
theorem tB (P:Pm) (mx n:Nat) (s:Sd):(cj P mx n s).s.L.length≤s.L.length+2:=by
 have:=kI s
 unfold cj
 split
 ·show (bT s).L.length≤_;omega
 ·split
  ·show (bT s).L.length≤_;omega
  ·have:=qU P mx n (bT s);omega
theorem yj (P:Pm) (mx n:Nat) (s:Sd) (k ss num fl len:Nat) (bs:Nat→Nat):0 ≤ (bc P mx n s k ss num fl len bs).e∧(bc P mx n s k ss num fl len bs).e≤200:=by
 have r1:∀ x:Int,0≤x∧x≤200→0 ≤ (aW P s x).e∧(aW P s x).e≤200:=fun x h=>h
 unfold bc
 split
 ·split
  ·exact yl _ _ _ _
  ·exact r1 91 (by omega)
 ·split
  ·split
   ·exact⟨by show (0:Int)≤0;omega,by show (0:Int)≤200;omega⟩
   ·exact r1 91 (by omega)
  ·split
   ·exact⟨by show (0:Int)≤0;omega,by show (0:Int)≤200;omega⟩
   ·split
    ·exact⟨by show (0:Int)≤0;omega,by show (0:Int)≤200;omega⟩
    ·split
     ·exact⟨by show (0:Int)≤0;omega,by show (0:Int)≤200;omega⟩
     ·exact r1 130 (by omega)
theorem tw (P:Pm) (mx n:Nat) (s:Sd) (k ss num fl len:Nat) (bs:Nat→Nat):(bc P mx n s k ss num fl len bs).s.L.length≤s.L.length+2:=by
 have r1:∀ x:Int,(aW P s x).s.L.length≤s.L.length+2:=fun x=>by have:=kI s;show (bT s).L.length≤_;omega
 unfold bc
 split
 ·split
  ·exact tB _ _ _ _
  ·exact r1 91
 ·split
  ·split
   ·show (bN s).L.length≤_
    unfold bN
    split
    ·show s.L.length≤_;omega
    ·omega
   ·exact r1 91
  ·split
   ·show (cN s).L.length≤_
    unfold cN
    split
    ·show s.L.length≤_;omega
    ·omega
   ·split
    ·show s.L.length≤_;omega
    ·split
     ·have:=fR (jJ { s with nm:=P.n }) 80
      have e:(jJ { s with nm:=P.n }).L.length=s.L.length:=rfl
      show (aN (jJ { s with nm:=P.n }) 80).L.length≤_;omega
     ·exact r1 130
theorem yg (P:Pm) (mx n:Nat) (s:Sd) (len:Nat) (bs:Nat→Nat):0 ≤ (bR P mx n s len bs).e∧(bR P mx n s len bs).e≤200:=by
 have:=uD bs len
 unfold bR
 split
 ·exact⟨by show 0≤DE bs len;omega,by show DE bs len≤200;omega⟩
 ·split
  ·exact⟨by show (0:Int)≤43;omega,by show (43:Int)≤200;omega⟩
  ·split
   ·exact⟨by show (0:Int)≤44;omega,by show (44:Int)≤200;omega⟩
   ·exact yj _ _ _ _ _ _ _ _ _ _
theorem mc (P:Pm) (mx n:Nat) (s:Sd) (len:Nat) (bs:Nat→Nat):(bR P mx n s len bs).s.L.length≤s.L.length+2:=by
 unfold bR
 split
 ·show s.L.length≤_;omega
 ·split
  ·show s.L.length≤_;omega
  ·split
   ·show s.L.length≤_;omega
   ·exact tw _ _ _ _ _ _ _ _ _ _
theorem yI {mx n:Nat} {s:Ms} (hn:10≤n) (ho:s.off=false) (hl:0≤s.l) :
  ((nx mx n s.bs false s).e=70)∨(((nx mx n s.bs false s).e=80∨(nx mx n s.bs false s).e=0)∧(nx mx n s.bs false s).c=false∧(nx mx n s.bs false s).z=(nx mx n s.bs false s).s.bs∧(nx mx n s.bs false s).s.off=false):=by
 unfold nx
 rw[if_neg (by simp[ho])]
 by_cases hm:mx≤vz s.bs
 ·rw[if_pos hm]
  exact .inr ⟨.inl rfl,rfl,rfl,ho⟩
 ·rw[if_neg hm]
  by_cases hq:fM n (cY (tg s.bs) (vz s.bs+1)) s=0
  ·rw[if_pos hq]
   refine .inr ⟨.inr rfl,rfl,rfl,?_⟩
   rcases gd n (cY (tg s.bs) (vz s.bs+1)) s (fun x hx=>(fw _ _ n (lC _) hn x hx).1) ho hl with ⟨_,h2,_⟩ | ⟨h1,_⟩
   ·rw[h2]
   ·omega
  ·rw[if_neg hq]
   exact .inl rfl
theorem th (d m g n mx:Nat) (P:Pm) (U:List Nat) (s:Sd) (w:World) (h:DV w d m g n mx P U s) (hs:s.st≠6) (hL:s.L.length<900000) (ht:s.ms.t<9223372036854774000) :
  Calls prog 228 #[ac d 0] w fun e w'=>∃ v,e=.returned (.tuple #[v,.int .i64 (bL P mx n s).e])∧Hid (Out U w w' d m g n mx P (bL P mx n s).s (bL P mx n s).f v):=by
 obtain⟨B,h⟩:=h
 obtain⟨hcp,hC,ho⟩:=h.cel hs
 have c7:=h.cells.2.2.2.2.2.2.2.1
 rw[hcp]at c7
 have hX:=ab9 B.c m g n mx s.ms.bs false s.ms w h.mem hC (fun i hi=>h.mem.byte i (by have:=h.n10;omega)) (fun _=>rfl) (fun e=>by have:=h.kc.1;rw[e,h.km.1]at this;omega) (fun e=>by have:=h.kc.1;rw[e,h.kg.1]at this;omega) h.n10 h.mxl ht
 have hv:=yI (mx:=mx) h.n10 ho h.mem.l0
 have HE:Hid (bL P mx n s=_):=rfl
 unfold bL at HE ⊢
 generalize nx mx n s.ms.bs false s.ms=x at *
 have HH:Hid (_):=And.intro h hcp
 have HL:Hid (_):=And.intro hL hs
 clear h hC ho hcp hL ht HE
 rcases hv with he | ⟨he,hc,hz,hoff⟩
 ·rw[he,if_neg (by omega),if_pos (by omega)]
  rw[he]at hX
  go_enter func228,ntmps228
  go_wp2_with (go_at_call 237;refine hX.mono ?_;rintro e w2 ⟨rfl,o2,m2,k2⟩)
  have x2:=HH.out.1.memd o2 m2 (A':=False) (fun h=>h.elim)
  have hD:=iw d m g n mx P U _ B False w2 x2
  have H2:Hid (_):=Gr.same o2 HH.out.1.memU
  clear hX HH HL o2 m2 k2 x2 c7
  go_wp2_with (go_at_call 114;refine hD.mono ?_;rintro e w3 ⟨rfl,h3⟩)
  go_ret2
  obtain⟨U3,g3,x3⟩:=h3.out
  exact⟨_,rfl,Out.none_ (H2.out.trans g3) x3⟩
 ·have hst:(aN { s with ms:=x.s } 80).st=s.st:=by unfold aN;split <;> rfl
  rcases he with he | he
  ·rw[he,if_pos rfl]
   rw[he]at hX
   go_enter func228,ntmps228
   go_wp2_with (go_at_call 237;refine hX.mono ?_;rintro e w2 ⟨rfl,o2,m2,k2⟩)
   rw[hc,hz]at k2
   have x2:=HH.out.1.memd o2 m2 (A':=s.st≠6) (fun _=>⟨HH.out.2,k2,hoff⟩)
   have hT:=fe d m g n mx P U { s with ms:=x.s } 80 w2 ⟨B,x2⟩ (by omega) (by decide) HL.out.1
   have H2:Hid (_):=Gr.same o2 HH.out.1.memU
   have HS:Hid (_):=And.intro HL.out.2 hst
   clear hX HH HL o2 m2 k2 x2 c7 hst
   go_wp2_with (go_at_call 232;refine hT.mono ?_;rintro e w3 ⟨rfl,h3⟩)
   obtain⟨U3,g3,x3⟩:=h3.out
   have hV:=gY d m g n mx P U3 _ 5 w3 x3 (by rw[HS.out.2];exact HS.out.1)
   have H3:Hid (_):=H2.out.trans g3
   clear hT h3 g3 x3 H2 HS
   go_wp2_with (go_at_call 236;refine hV.mono ?_;rintro e w4 ⟨rfl,h4⟩)
   obtain⟨U4,g4,x4⟩:=h4.out
   have hN:=kZ d m g n mx P U4 _ w4 x4
   have H4:Hid (_):=And.intro (H3.out.trans g4) x4
   clear hV h4 g4 x4 H3
   go_wp2_with (go_at_call 227;refine hN.mono ?_;rintro e w5 ⟨v,rfl,h5⟩)
   go_ret2
   exact⟨v,rfl,Out.mk H4.out.1 H4.out.2 h5.out.1 h5.out.2⟩
  ·rw[he,if_neg (by omega),if_neg (by omega)]
   rw[he]at hX
   go_enter func228,ntmps228
   go_wp2_with (go_at_call 237;refine hX.mono ?_;rintro e w2 ⟨rfl,o2,m2,k2⟩)
   rw[hc,hz]at k2
   have x2:=HH.out.1.memd o2 m2 (A':=s.st≠6) (fun _=>⟨HH.out.2,k2,hoff⟩)
   have hV:=gY d m g n mx P U { s with ms:=x.s } 2 w2 ⟨B,x2⟩ HL.out.2
   have H2:Hid (_):=Gr.same o2 HH.out.1.memU
   clear hX HH HL o2 m2 k2 x2 c7 hst
   go_wp2_with (go_at_call 236;refine hV.mono ?_;rintro e w4 ⟨rfl,h4⟩;obtain⟨U4,g4,B4,x4⟩:=h4.out;have y12:=x4.cells.2.2.2.2.2.2.2.2.2.2.2.2.1;have f12:=x4.fz 12;have H4:Hid (_):=And.intro g4 x4;clear hV h4 g4 x4)
   have x4:=H4.out.2
   have o5:=Off.setCell d 12 w4 (.int .u32 (x.v:Nat))
   have x5:=x4.own o5 (s':={ d9 { s with ms:=x.s } 2 with ss:=x.v }) (heap_setCell_same _ _ _ _ _ _ x4.dev) rfl rfl rfl rfl rfl id
   have hN:=mC d m g n mx P U4 _ _ ⟨B4,x5⟩
   have H5:Hid (_):=And.intro ((H2.out.trans H4.out.1).trans (Gr.same o5 (by simp[x4.kd.2]))) x5
   clear x4 H2 H4 o5 x5
   go_wp2_with (go_at_call 226;refine hN.mono ?_;rintro e w5 ⟨v,rfl,h5⟩)
   go_ret2
   exact⟨v,rfl,Out.mk H5.out.1 ⟨B4,H5.out.2⟩ h5.out.1 h5.out.2⟩
theorem xB (d m g n mx:Nat) (P:Pm) (U:List Nat) (s:Sd) (a:Option Addr) (len cap:Nat) (bs:Nat→Nat) (w:World) (h:DV w d m g n mx P U s) (hr:Row8 w a len cap bs) (hs:s.st≠6) (ho:s.od<4) (hL:s.L.length<800000) (ht:s.ms.t<9223372036854774000) :
  Calls prog 205 #[ac d 0,.slice a len cap] w fun e w'=>∃ v,e=.returned (.tuple #[v,.int .i64 (if aX P len bs=true then cj P mx n s else aW P s 91).e])∧Hid (Out U w w' d m g n mx P (if aX P len bs=true then cj P mx n s else aW P s 91).s (if aX P len bs=true then cj P mx n s else aW P s 91).f v):=by
 have hS:=lq d m g n mx P U s a len cap bs w h hr
 have H:Hid (_):=And.intro h (And.intro hs (And.intro ho (And.intro hL ht)))
 clear h hr hs ho hL ht
 by_cases hg:aX P len bs=true
 ·rw[if_pos hg]
  rw[hg]at hS
  unfold cj
  by_cases h2:(bT s).st=2
  ·rw[if_pos h2]
   go_enter func205,ntmps205
   go_wp2_with (go_at_call 224;refine hS.mono ?_;rintro e w2 ⟨rfl,b2⟩)
   obtain⟨h,hs,ho,hL,ht⟩:=H.out
   have h2:=DV.below h b2
   have hC:=eK d m g n mx P U s w2 h2 hs ho (by omega)
   have H2:Hid (_):=And.intro (Gr.below (U:=U) b2) H.out
   clear hS H b2 h hs ho hL ht h2
   go_wp2_with (go_at_call 225;refine hC.mono ?_;rintro e w3 ⟨rfl,h3⟩;obtain⟨U3,g3,B3,x3⟩:=h3.out;have c11:=x3.cells.2.2.2.2.2.2.2.2.2.2.2.1;have H3:Hid (_):=And.intro (H2.out.1.trans g3) (And.intro x3 H2.out.2);clear hC h3 g3 x3 H2;rw[h2]at c11)
   have hN:=mC d m g n mx P U3 (bT s) w3 ⟨B3,H3.out.2.1⟩
   go_wp2_with (go_at_call 226;refine hN.mono ?_;rintro e w5 ⟨v,rfl,h5⟩)
   go_ret2
   exact⟨v,rfl,Out.mk H3.out.1 ⟨B3,H3.out.2.1⟩ h5.out.1 h5.out.2⟩
  ·rw[if_neg h2]
   have e2:(((bT s).st:Int) == 2)=false:=by simp;omega
   by_cases h4:(bT s).st=3∨(bT s).st=4
   ·rw[if_pos h4]
    rcases h4 with h4 | h4 <;> clear h2 e2
    all_goals
     go_enter func205,ntmps205
     go_wp2_with (go_at_call 224;refine hS.mono ?_;rintro e w2 ⟨rfl,b2⟩)
     obtain⟨h,hs,ho,hL,ht⟩:=H.out
     have h2:=DV.below h b2
     have hC:=eK d m g n mx P U s w2 h2 hs ho (by omega)
     have H2:Hid (_):=And.intro (Gr.below (U:=U) b2) H.out
     clear hS H b2 h hs ho hL ht h2
     go_wp2_with (go_at_call 225;refine hC.mono ?_;rintro e w3 ⟨rfl,h3⟩;obtain⟨U3,g3,B3,x3⟩:=h3.out;have c11:=x3.cells.2.2.2.2.2.2.2.2.2.2.2.1;have H3:Hid (_):=And.intro (H2.out.1.trans g3) (And.intro x3 H2.out.2);clear hC h3 g3 x3 H2;rw[h4]at c11)
     have hN:=kZ d m g n mx P U3 (bT s) w3 ⟨B3,H3.out.2.1⟩
     go_wp2_with (go_at_call 227;refine hN.mono ?_;rintro e w5 ⟨v,rfl,h5⟩)
     go_ret2
     exact⟨v,rfl,Out.mk H3.out.1 ⟨B3,H3.out.2.1⟩ h5.out.1 h5.out.2⟩
   ·rw[if_neg h4]
    have e3:(((bT s).st:Int) == 3)=false:=by simp;omega
    have e4:(((bT s).st:Int) == 4)=false:=by simp;omega
    clear h2 h4
    go_enter func205,ntmps205
    go_wp2_with (go_at_call 224;refine hS.mono ?_;rintro e w2 ⟨rfl,b2⟩)
    obtain⟨h,hs,ho,hL,ht⟩:=H.out
    have h2:=DV.below h b2
    have hC:=eK d m g n mx P U s w2 h2 hs ho (by omega)
    have H2:Hid (_):=And.intro (Gr.below (U:=U) b2) H.out
    clear hS H b2 h hs ho hL ht h2
    go_wp2_with (go_at_call 225;refine hC.mono ?_;rintro e w3 ⟨rfl,h3⟩;obtain⟨U3,g3,B3,x3⟩:=h3.out;have c11:=x3.cells.2.2.2.2.2.2.2.2.2.2.2.1;have H3:Hid (_):=And.intro (H2.out.1.trans g3) (And.intro x3 H2.out.2);clear hC h3 g3 x3 H2)
    have hB:=th d m g n mx P U3 (bT s) w3 ⟨B3,H3.out.2.1⟩ (jX H3.out.2.2.2.1) (by have:=kI s;have:=H3.out.2.2.2.2.2.1;omega) (by rw[gR];exact H3.out.2.2.2.2.2.2)
    go_wp2_with (go_at_call 228;refine hB.mono ?_;rintro e w5 ⟨v,rfl,h5⟩)
    go_ret2
    exact⟨v,rfl,Out.pre H3.out.1 h5.out⟩
 ·have hg':aX P len bs=false:=by simpa using hg
  rw[if_neg hg]
  rw[hg']at hS
  go_enter func205,ntmps205
  go_wp2_with (go_at_call 224;refine hS.mono ?_;rintro e w2 ⟨rfl,b2⟩)
  obtain⟨h,hs,ho,hL,ht⟩:=H.out
  have h2:=DV.below h b2
  have hR:=ei d m g n mx P U s 91 w2 h2 hs ho (by omega)
  have H2:Hid (_):=Gr.below (U:=U) b2
  clear hS H b2 h hs ho hL ht h2
  go_wp2_with (go_at_call 210;refine hR.mono ?_;rintro e w3 ⟨v,rfl,h3⟩)
  go_ret2
  exact⟨v,rfl,Out.pre H2.out h3.out⟩
end Go.Proofs.YtenilkloffnjlaaGreat
