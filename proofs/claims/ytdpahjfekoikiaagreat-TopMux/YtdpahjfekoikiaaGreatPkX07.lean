/- Part 8: contracts that the proof rests on. -/
import Derived.Deep.RegionHeld3
import Derived.Test.YtdpahjfekoikiaaGreatPkX06
set_option maxHeartbeats 64000000
set_option maxRecDepth 100000
namespace Go.Proofs.YtdpahjfekoikiaaGreat
open Tryz
open Go.RowKit
def cG (k:Int):Nat:=if k=1∨k=2∨k=17 then 1 else if k=4∨k=20 then 2 else 0
def cz (k:Int):Bool:=decide (1≤k∧k≤5)
def dB (k:Int):Bool:=decide (17≤k∧k≤22)
def bT (k n:Int):Bool:=if cG k=1 then decide (n=4) else if cG k=2 then decide (1≤n∧n≤8) else decide (n=0)
def aW (k s:Int):Bool:=if k=1 then decide (s=0) else if k=22 then true else decide (s≠0)
def eo (k:Int):Bool:=decide (cG k=2∨k=5∨k=21)
def kO (k:Int):Int:=if cG k=2 then 15 else 0
def LW (k c s n f len said:Int):Int:=
 if cz k=false∧dB k=false then 43 else if c=0 then 44 else if said≠len∨bT k said=false then 45 else if aW k s=false then 46
 else if eo k≠decide (n≠0) then 47 else if f<0∨kO k<f then 48 else 0
theorem cR {k c s n f len said:Int} (h:LW k c s n f len said=0):(1≤k∧k≤22)∧c≠0∧said=len∧(0≤len∧len≤8)∧(0≤f∧f≤15):=by
 unfold LW at h
 by_cases h1:cz k=false∧dB k=false
 ·rw[if_pos h1]at h;omega
 ·rw[if_neg h1]at h
  have hk:1≤k∧k≤22:=by
   unfold cz dB at h1
   simp only[decide_eq_false_iff_not]at h1
   omega
  by_cases h2:c=0
  ·rw[if_pos h2]at h;omega
  ·rw[if_neg h2]at h
   by_cases h3:said≠len∨bT k said=false
   ·rw[if_pos h3]at h;omega
   ·rw[if_neg h3]at h
    have hs:said=len:=by omega
    have hd:0≤len∧len≤8:=by
     have h4:bT k said=true:=by
      cases e:bT k said
      ·exact absurd (Or.inr e) h3
      ·rfl
     unfold bT at h4
     rw[hs]at h4
     by_cases c1:cG k=1
     ·rw[if_pos c1]at h4;simp only[decide_eq_true_eq]at h4;omega
     ·rw[if_neg c1]at h4
      by_cases c2:cG k=2
      ·rw[if_pos c2]at h4;simp only[decide_eq_true_eq]at h4;omega
      ·rw[if_neg c2]at h4;simp only[decide_eq_true_eq]at h4;omega
    by_cases h5:aW k s=false
    ·rw[if_pos h5]at h;omega
    ·rw[if_neg h5]at h
     by_cases h6:eo k≠decide (n≠0)
     ·rw[if_pos h6]at h;omega
     ·rw[if_neg h6]at h
      by_cases h7:f<0∨kO k<f
      ·rw[if_pos h7]at h;omega
      ·have:kO k≤15:=by
        unfold kO
        by_cases c2:cG k=2
        ·rw[if_pos c2];omega
        ·rw[if_neg c2];omega
       exact⟨hk,h2,hs,hd,by omega⟩
def aE (bs:Nat→Nat) (i:Nat):Nat:=bs i*16777216+bs (i+1)*65536+bs (i+2)*256+bs (i+3)
theorem mL {bs:Nat→Nat} {i:Nat} (h:∀ j,j<4→bs (i+j)<256):aE bs i<4294967296:=by
 have h0:=h 0 (by omega);have h1:=h 1 (by omega);have h2:=h 2 (by omega);have h3:=h 3 (by omega)
 rw[Nat.add_zero]at h0
 unfold aE
 omega
theorem mM {bs:Nat→Nat} {i k:Nat} (hk:k<4294967296) (h:∀ j,j<4→bs (i+j)=PM.w4 k j):aE bs i=k:=by
 have hb:∀ j,j<4→bs (i+j)<256:=fun j hj=>by rw[h j hj];exact PM.w4_lt _ _
 have h0:=hb 0 (by omega)
 rw[Nat.add_zero]at h0
 exact (uh bs i k hk h0 (hb 1 (by omega)) (hb 2 (by omega)) (hb 3 (by omega))).1 h
def fr (K c s n F len:Nat) (bs:Nat→Nat) (i:Nat):Nat:=
 if i=0 then K else if i<5 then PM.w4 c (i-1) else if i<9 then PM.w4 s (i-5) else if i<13 then PM.w4 n (i-9) else if i=13 then F else if i=14 then len else bs (i-15)
theorem pT {K c s n F len:Nat} {bs:Nat→Nat} (hK:K<256) (hF:F<256) (hl:len<256) (hb:∀ i,i<len→bs i<256):∀ i,i<15+len→fr K c s n F len bs i<256:=by
 intro i hi
 unfold fr
 by_cases h0:i=0
 ·rw[if_pos h0];exact hK
 ·rw[if_neg h0]
  by_cases h1:i<5
  ·rw[if_pos h1];exact PM.w4_lt _ _
  ·rw[if_neg h1]
   by_cases h2:i<9
   ·rw[if_pos h2];exact PM.w4_lt _ _
   ·rw[if_neg h2]
    by_cases h3:i<13
    ·rw[if_pos h3];exact PM.w4_lt _ _
    ·rw[if_neg h3]
     by_cases h4:i=13
     ·rw[if_pos h4];exact hF
     ·rw[if_neg h4]
      by_cases h5:i=14
      ·rw[if_pos h5];exact hl
      ·rw[if_neg h5];exact hb _ (by omega)
theorem vs (K c s n F len:Nat) (bs:Nat→Nat) (j:Nat) (hj:j<4):fr K c s n F len bs (1+j)=PM.w4 c j:=by
 unfold fr
 rw[if_neg (by omega),if_pos (by omega),show 1+j-1=j by omega]
theorem vw (K c s n F len:Nat) (bs:Nat→Nat) (j:Nat) (hj:j<4):fr K c s n F len bs (5+j)=PM.w4 s j:=by
 unfold fr
 rw[if_neg (by omega),if_neg (by omega),if_pos (by omega),show 5+j-5=j by omega]
theorem vu (K c s n F len:Nat) (bs:Nat→Nat) (j:Nat) (hj:j<4):fr K c s n F len bs (9+j)=PM.w4 n j:=by
 unfold fr
 rw[if_neg (by omega),if_neg (by omega),if_neg (by omega),if_pos (by omega),show 9+j-9=j by omega]
theorem vt (K c s n F len:Nat) (bs:Nat→Nat) (j:Nat):fr K c s n F len bs (15+j)=bs j:=by
 unfold fr
 rw[if_neg (by omega),if_neg (by omega),if_neg (by omega),if_neg (by omega),if_neg (by omega),if_neg (by omega),show 15+j-15=j by omega]
def rJ (bs:Nat→Nat) (N:Nat):Prop:=PM.R PM.g 32 (PM.V (PM.fb bs) (8*N))=0
instance (bs:Nat→Nat) (N:Nat):Decidable (rJ bs N):=inferInstanceAs (Decidable (_=_))
def DE (bs:Nat→Nat) (N:Nat):Int:=
 if N<19 then 40 else if 27<N then 41 else if ¬ rJ bs N then 42 else LW (bs 0) (aE bs 1) (aE bs 5) (aE bs 9) (bs 13) ((N-19:Nat):Int) (bs 14)
theorem fc {bs:Nat→Nat} {N:Nat} (h:DE bs N=0):19≤N∧N≤27∧rJ bs N∧LW (bs 0) (aE bs 1) (aE bs 5) (aE bs 9) (bs 13) ((N-19:Nat):Int) (bs 14)=0:=by
 unfold DE at h
 by_cases h1:N<19
 ·rw[if_pos h1]at h;omega
 ·rw[if_neg h1]at h
  by_cases h2:27<N
  ·rw[if_pos h2]at h;omega
  ·rw[if_neg h2]at h
   by_cases h3:rJ bs N
   ·rw[if_neg (fun e=>e h3)]at h
    exact⟨by omega,by omega,h3,h⟩
   ·rw[if_pos h3]at h;omega
theorem jY {bs:Nat→Nat} {N:Nat} (h1:19≤N) (h2:N≤27) (h3:¬ rJ bs N):DE bs N=42:=by
 unfold DE
 rw[if_neg (by omega),if_neg (by omega),if_pos h3]
theorem jm (K c s n F len:Nat) (bs:Nat→Nat) (hc:c<4294967296) (hs:s<4294967296) (hn:n<4294967296) (hl:len≤8) (h:LW K c s n F len len=0) :
  DE (PM.sl (fr K c s n F len bs) (15+len)) (15+len+4)=0∧PM.sl (fr K c s n F len bs) (15+len) 0=K∧aE (PM.sl (fr K c s n F len bs) (15+len)) 1=c∧aE (PM.sl (fr K c s n F len bs) (15+len)) 5=s∧aE (PM.sl (fr K c s n F len bs) (15+len)) 9=n ∧
   PM.sl (fr K c s n F len bs) (15+len) 13=F∧∀ j,j<len→PM.sl (fr K c s n F len bs) (15+len) (15+j)=bs j:=by
 have hsl:∀ i,i<15+len→PM.sl (fr K c s n F len bs) (15+len) i=fr K c s n F len bs i:=fun i hi=>by
  unfold PM.sl PM.ct
  rw[if_pos hi]
 have hV:rJ (PM.sl (fr K c s n F len bs) (15+len)) (15+len+4):=PM.V_sl _ _
 have e0:PM.sl (fr K c s n F len bs) (15+len) 0=K:=hsl 0 (by omega)
 have e1:aE (PM.sl (fr K c s n F len bs) (15+len)) 1=c:=mM hc fun j hj=>by rw[hsl _ (by omega),vs _ _ _ _ _ _ _ _ hj]
 have e2:aE (PM.sl (fr K c s n F len bs) (15+len)) 5=s:=mM hs fun j hj=>by rw[hsl _ (by omega),vw _ _ _ _ _ _ _ _ hj]
 have e3:aE (PM.sl (fr K c s n F len bs) (15+len)) 9=n:=mM hn fun j hj=>by rw[hsl _ (by omega),vu _ _ _ _ _ _ _ _ hj]
 have e4:PM.sl (fr K c s n F len bs) (15+len) 13=F:=hsl 13 (by omega)
 have e5:PM.sl (fr K c s n F len bs) (15+len) 14=len:=hsl 14 (by omega)
 refine⟨?_,e0,e1,e2,e3,e4,fun j hj=>by rw[hsl _ (by omega),vt]⟩
 unfold DE
 rw[if_neg (by omega),if_neg (by omega),if_neg (fun e=>e hV),e0,e1,e2,e3,e4,e5,show 15+len+4-19=len by omega]
 exact h
def iY (c o i t n:Int):Prop:=c≠0∧(1≤o∧o≤8)∧(1≤i∧i≤8)∧(1≤t∧t≤1048576)∧2≤n
instance okP_dec (c o i t n:Int):Decidable (iY c o i t n):=by unfold iY;infer_instance
def pe (c o i t n k:Nat):Nat:=if k<4 then PM.w4 c k else if k=4 then o else if k=5 then i else if k<10 then PM.w4 t (k-6) else PM.w4 n (k-10)
theorem qO {c o i t n:Nat} (ho:o<256) (hi:i<256) (k:Nat):pe c o i t n k<256:=by
 unfold pe
 by_cases h1:k<4
 ·rw[if_pos h1];exact PM.w4_lt _ _
 ·rw[if_neg h1]
  by_cases h2:k=4
  ·rw[if_pos h2];exact ho
  ·rw[if_neg h2]
   by_cases h3:k=5
   ·rw[if_pos h3];exact hi
   ·rw[if_neg h3]
    by_cases h4:k<10
    ·rw[if_pos h4];exact PM.w4_lt _ _
    ·rw[if_neg h4];exact PM.w4_lt _ _
theorem fO {P:Program} {ops:Array Oper} {o:Oper} {a:Act} {w:World} {K:Act→World→Prop} {Q:Exit→Act→World→Prop} {E:Prop} {R:World→Prop}
  (hg:o.guard=none) (f:FuncId) (ts:Array Operand) (ty:Array TypeId) (_:o.op=.call { callee:=.value (.func f),args:=ts,argTypes:=ty }) (args:Array Value) (v:Value) (hrun:(execOp a.eval o).run P w=.ok (.enter f args) w) (hc:Calls P f args w fun e w'=>e=.returned v∧R w') (hK:∀ w',R w'→K (a.put o.dst v) w') :
  if Region.wanted o (yielded ops a.tmps)=true then Oper.wp P o a w K Q else E:=by
 have hw:Region.wanted o (yielded ops a.tmps)=true:=by simp[Region.wanted,hg]
 rw[if_pos hw]
 unfold Oper.wp
 rw[hrun]
 refine hc.mono ?_
 rintro e w'' ⟨rfl,hr⟩
 exact hK _ hr
theorem ew {ops:Array Oper} {o:Oper} {a:Act} {w:World} {K:Act→World→Prop} {Q:Exit→Act→World→Prop} {E:Prop} (hgd:o.guard=none) (d s:Operand)
  (ho:o.op=.call { callee:=.builtin .copy,args:=#[d,s],argTypes:=#[43,43] })
  (B g n cap off dl dc:Nat) (f:Nat→Nat) (hd:a.eval d=.slice (ac g off) dl dc) (hown:w.ownsRow B 5 1 (.slice (ac g 0) n cap) n (CB f n))
  (ao:Option Addr) (m c:Nat) (bs:Nat→Nat) (hs:a.eval s=.slice ao m c) (hrow:Row8 w ao m c bs) (hdl:m≤dl) (hoff:off+m≤n)
  (w0:World) (hb:Below B w0 w)
  (h:∀ w',Hid (w'.ownsRow B 5 1 (.slice (ac g 0) n cap) n (CB (fun i=>if off≤i∧i<off+m then bs (i-off) else f i) n))→Below B w0 w'→K (a.put o.dst (goInt (m:Nat))) w') :
  if Region.wanted o (yielded ops a.tmps)=true then Oper.wp prog o a w K Q else E:=by
 rcases hown.2 with ⟨h',_⟩ | ⟨g',cap',cur,h',hbg,hg,hnc,hcm,hcs,a4⟩
 ·simp at h'
 ·simp only[Value.slice.injEq,Option.some.injEq,Addr.mk.injEq,and_true,true_and]at h'
  obtain⟨rfl,rfl⟩:=h'
  rw[Nat.mul_one]at hcs a4
  have hmin:Nat.min m dl=m:=Nat.min_eq_left hdl
  refine step_copy_splice hgd d s 43 43 ho 5 underlying43 jN _ ao dl dc m c hd hs g off cur.toList 5 (by simpa using hg) (CB bs m) (by rw[ah,hmin]) ?_ (by rw[ah,Array.length_toList,hcs];omega) (gu _ _) B w0 hb hbg ?_
  ·intro hpos
   refine⟨rfl,?_⟩
   rw[ah]at hpos
   cases ao with
   | none=>have:=(hrow.nil rfl).1;omega
   | some ad=>
    refine⟨ad,rfl,fun j v hj=>?_⟩
    by_cases hlt:j<m
    ·rw[az _ _ _ hlt]at hj
     cases hj
     exact hrow.src ad rfl j hlt
    ·rw[bg _ _ _ (by omega)]at hj;cases hj
  ·intro w' hg' hb'
   rw[ah]
   refine h w' ⟨by rw[ah];omega,.inr ⟨g,cap,_,rfl,hbg,hg'.out,hnc,hcm,?_,?_⟩⟩ hb'
   ·rw[List.size_toArray,length_splice _ _ _ (by rw[ah,Array.length_toList,hcs];omega),Array.length_toList,hcs,Nat.mul_one]
   ·rw[Nat.mul_one]
    simp only[splice,ah]
    apply List.ext_getElem?
    intro i
    rw[List.getElem?_take]
    by_cases hi:i<n
    ·rw[if_pos hi,az _ n i hi]
     have hcur:=congrArg (·[i]?) a4
     simp only[List.getElem?_take,if_pos hi,az f n i hi]at hcur
     have hlen:(cur.toList.take off).length=off:=by rw[List.length_take,Array.length_toList,hcs];omega
     by_cases h1:i<off
     ·rw[if_neg (by omega),List.getElem?_append_left (by rw[hlen];exact h1),List.getElem?_take,if_pos h1]
      exact hcur
     ·by_cases h2:i<off+m
      ·rw[if_pos ⟨by omega,h2⟩,List.getElem?_append_right (by rw[hlen];omega),hlen,List.getElem?_append_left (by rw[ah];omega),az _ _ _ (by omega)]
      ·rw[if_neg (by omega),List.getElem?_append_right (by rw[hlen];omega),hlen,List.getElem?_append_right (by rw[ah];omega),ah,List.getElem?_drop,show off+m + (i-off-m)=i by omega]
       exact hcur
    ·rw[if_neg hi,bg _ n i (by omega)]
theorem fA (w:World) (x:Nat) (hx:x<4294967296) :
  Row8 (w.alloc (.cells #[.int .u8 ((x:Int) / 16777216),.int .u8 ((x:Int) / 65536 % 256),.int .u8 ((x:Int) / 256 % 256),.int .u8 ((x:Int) % 256)] 5)) (ac w.heap.size 0) 4 4 (PM.w4 x):=by
 refine ev w _ _ (PM.w4 x) 4 (fun i _=>PM.w4_lt x i) (fun i hi=>?_)
 have e0:(x:Int) / 16777216=((PM.w4 x 0:Nat):Int):=by show _=((x / 16777216 % 256:Nat):Int);omega
 have e1:(x:Int) / 65536 % 256=((PM.w4 x 1:Nat):Int):=by show _=((x / 65536 % 256:Nat):Int);omega
 have e2:(x:Int) / 256 % 256=((PM.w4 x 2:Nat):Int):=by show _=((x / 256 % 256:Nat):Int);omega
 have e3:(x:Int) % 256=((PM.w4 x 3:Nat):Int):=by show _=((x % 256:Nat):Int);omega
 rw[e0,e1,e2,e3]
 rcases (show i=0∨i=1∨i=2∨i=3 by omega) with rfl | rfl | rfl | rfl <;> rfl
theorem dU {w0 w:World} (h:Below w0.heap.size w0 w) (o:Obj):Below w0.heap.size w0 (w.alloc o):=h.alloc h.size o
structure Bx (wx:World) (g:Nat) (c:Nat) (o i t:Int) (n:Nat):Prop where
 c0:wx.cell? ⟨g,0,none⟩=some (.int .u32 c)
 c1:wx.cell? ⟨g,1,none⟩=some (.int .i64 o)
 c2:wx.cell? ⟨g,2,none⟩=some (.int .i64 i)
 c3:wx.cell? ⟨g,3,none⟩=some (.int .i64 t)
 c4:wx.cell? ⟨g,4,none⟩=some (.int .u32 n)
theorem pI (w:World) (c:Nat) (o i t:Int) (n:Nat) (wx:World) (hb:Below (w.alloc (.cells #[.int .u32 c,.int .i64 o,.int .i64 i,.int .i64 t,.int .u32 n] 29)).heap.size (w.alloc (.cells #[.int .u32 c,.int .i64 o,.int .i64 i,.int .i64 t,.int .u32 n] 29)) wx) :
  Bx wx w.heap.size c o i t n:=by
 have h:∀ j,wx.cell? ⟨w.heap.size,j,none⟩=(w.alloc (.cells #[.int .u32 c,.int .i64 o,.int .i64 i,.int .i64 t,.int .u32 n] 29)).cell? ⟨w.heap.size,j,none⟩:=fun j=>hb.cell (p:=⟨w.heap.size,j,none⟩) (by simp)
 exact⟨(h 0).trans (by simp),(h 1).trans (by simp),(h 2).trans (by simp),(h 3).trans (by simp),(h 4).trans (by simp)⟩
theorem eZ (x m:Int) (w:World) (b:Bool) (hb:decide (1≤x∧x≤m)=b) :
  Calls prog 56 #[.int .i64 x,.int .i64 m] w fun e w'=>e=.returned (.bool b)∧w'=w:=by
 by_cases h1:1≤x
 ·have q1:decide (1≤x)=true:=decide_eq_true h1
  have hb2:decide (x≤m)=b:=by rw[← hb];simp[h1]
  clear hb h1
  go_enter func56,ntmps56
  go_wp2_with fail
  go_ret
  exact⟨by simp,rfl⟩
 ·have q1:decide (1≤x)=false:=decide_eq_false h1
  have hb2:b=false:=by rw[← hb];simp[h1]
  subst hb2
  clear hb h1
  go_enter func56,ntmps56
  go_wp2_with fail
  go_ret
  exact⟨rfl,rfl⟩
theorem cJ (x:Nat) (w:World) (hx:x<4294967296) :
  Calls prog 108 #[.int .u32 x] w fun e w'=>e=.returned (.slice (ac w.heap.size 0) 4 4)∧w'=w.alloc (.cells #[.int .u8 ((x:Int) / 16777216),.int .u8 ((x:Int) / 65536 % 256),.int .u8 ((x:Int) / 256 % 256),.int .u8 ((x:Int) % 256)] 5):=by
 go_enter func108,ntmps108
 go_wp2
 go_ret
 exact⟨rfl,rfl⟩
theorem fI (c:Nat) (o i t:Int) (n:Nat) (w:World) (E:Int) (hE:(if iY c o i t n then 0 else 90)=E) :
  Calls prog 25 #[.agg #[.int .u32 c,.int .i64 o,.int .i64 i,.int .i64 t,.int .u32 n]] w fun e w'=>e=.returned (.int .i64 E)∧Below w.heap.size w w':=by
 have hb:Below w.heap.size w (w.alloc (.cells #[.int .u32 c,.int .i64 o,.int .i64 i,.int .i64 t,.int .u32 n] 29)):=(Below.refl _ _).alloc (Nat.le_refl _) _
 have wi1:=fun b h wx=>eZ o 8 wx b h
 have wi2:=fun b h wx=>eZ i 8 wx b h
 have wi3:=fun b h wx=>eZ t 1048576 wx b h
 have HB:Hid (_):=hb
 have HE:Hid (_):=hE
 clear hE hb
 by_cases h1:(c:Int)=0
 ·have q1:((c:Int) == 0)=true:=by simpa using h1
  have hE':E=90:=by rw[← HE.out,if_neg (fun h=>h.1 h1)]
  subst hE'
  clear wi1 wi2 wi3 HE h1
  go_enter func25,ntmps25
  go_wp2_with fail
  go_ret
  exact⟨rfl,HB.out⟩
 ·have q1:((c:Int) == 0)=false:=by simpa using h1
  by_cases h2:1≤o∧o≤8
  ·replace wi1:=wi1 true (decide_eq_true h2)
   by_cases h3:1≤i∧i≤8
   ·replace wi2:=wi2 true (decide_eq_true h3)
    by_cases h4:1≤t∧t≤1048576
    ·replace wi3:=wi3 true (decide_eq_true h4)
     by_cases h5:(n:Int)<2
     ·have q5:decide ((n:Int)<2)=true:=decide_eq_true h5
      have hE':E=90:=by rw[← HE.out,if_neg (fun h=>absurd h.2.2.2.2 (by omega))]
      subst hE'
      clear HE h1 h2 h3 h4 h5
      go_enter func25,ntmps25
      go_wp2_with fail
      refine (wi1 _).mono ?_
      rintro e w1 ⟨rfl,rfl⟩
      go_wp2_with fail
      refine (wi2 _).mono ?_
      rintro e w1 ⟨rfl,rfl⟩
      go_wp2_with fail
      refine (wi3 _).mono ?_
      rintro e w1 ⟨rfl,rfl⟩
      go_wp2_with fail
      go_ret
      exact⟨rfl,HB.out⟩
     ·have q5:decide ((n:Int)<2)=false:=decide_eq_false h5
      have hE':E=0:=by rw[← HE.out,if_pos ⟨h1,h2,h3,h4,by omega⟩]
      subst hE'
      clear HE h1 h2 h3 h4 h5
      go_enter func25,ntmps25
      go_wp2_with fail
      refine (wi1 _).mono ?_
      rintro e w1 ⟨rfl,rfl⟩
      go_wp2_with fail
      refine (wi2 _).mono ?_
      rintro e w1 ⟨rfl,rfl⟩
      go_wp2_with fail
      refine (wi3 _).mono ?_
      rintro e w1 ⟨rfl,rfl⟩
      go_wp2_with fail
      go_ret
      exact⟨rfl,HB.out⟩
    ·replace wi3:=wi3 false (decide_eq_false h4)
     have hE':E=90:=by rw[← HE.out,if_neg (fun h=>h4 h.2.2.2.1)]
     subst hE'
     clear HE h1 h2 h3 h4
     go_enter func25,ntmps25
     go_wp2_with fail
     refine (wi1 _).mono ?_
     rintro e w1 ⟨rfl,rfl⟩
     go_wp2_with fail
     refine (wi2 _).mono ?_
     rintro e w1 ⟨rfl,rfl⟩
     go_wp2_with fail
     refine (wi3 _).mono ?_
     rintro e w1 ⟨rfl,rfl⟩
     go_wp2_with fail
     go_ret
     exact⟨rfl,HB.out⟩
   ·replace wi2:=wi2 false (decide_eq_false h3)
    have hE':E=90:=by rw[← HE.out,if_neg (fun h=>h3 h.2.2.1)]
    subst hE'
    clear HE h1 h2 h3 wi3
    go_enter func25,ntmps25
    go_wp2_with fail
    refine (wi1 _).mono ?_
    rintro e w1 ⟨rfl,rfl⟩
    go_wp2_with fail
    refine (wi2 _).mono ?_
    rintro e w1 ⟨rfl,rfl⟩
    go_wp2_with fail
    go_ret
    exact⟨rfl,HB.out⟩
  ·replace wi1:=wi1 false (decide_eq_false h2)
   have hE':E=90:=by rw[← HE.out,if_neg (fun h=>h2 h.2.1)]
   subst hE'
   clear HE h1 h2 wi2 wi3
   go_enter func25,ntmps25
   go_wp2_with fail
   refine (wi1 _).mono ?_
   rintro e w1 ⟨rfl,rfl⟩
   go_wp2_with fail
   go_ret
   exact⟨rfl,HB.out⟩
end Go.Proofs.YtdpahjfekoikiaaGreat
