/- Part 16 of the texts on which the proofs of layer 13 rest: contracts of Go functions. -/
import Derived.Deep.DeepCutAuto
import Derived.RegionTactic
import Derived.WalkKit
import Derived.ProofKit
import Derived.SizedLaws
import Derived.Lib.SmallJoins
import Derived.Deep.Slices
import Derived.OpenShut
import Derived.Test.YthbogkaoidbpgaaGreatPkB00
import Derived.Test.YthbogkaoidbpgaaGreatPkB07
import Derived.Test.YthbogkaoidbpgaaGreatPkB14
namespace Go.Proofs.YthbogkaoidbpgaaGreat
set_option maxRecDepth 100000
open Go.RowKit
theorem own_form {w:World} {B e n:Nat} {v:Value} {xs:List Value} (h:w.ownsRow B e 1 v n xs):∃ a cap,v=.slice a n cap∧(0<n→∃ g,a=some ⟨g,0,none⟩∧B≤g):=by
 rcases h.2 with ⟨rfl,rfl⟩ | ⟨g,cap,cur,hv,hg,_⟩
 ·exact⟨none,0,rfl,fun h=>by omega⟩
 ·exact⟨_,cap,hv,fun _=>⟨g,rfl,hg⟩⟩
theorem xor8 (a b:Nat) (ha:a<256) (hb:b<256):bits .xor .u8 (a:Int) (b:Int)=((a ^^^ b:Nat):Int):=u8_xor_nat a b ha hb
def fl (f:Nat→Nat) (k q:Nat):Nat:=if q=k / 8 then f (k / 8) ^^^ 2 ^ (7-k % 8) else f q
theorem fl_lt {f:Nat→Nat} {n:Nat} (hf:∀ i,i<n→f i<256) (k:Nat) (hk:k / 8<n):∀ i,i<n→fl f k i<256:=by
 intro i hi
 unfold fl
 by_cases h:i=k / 8
 ·rw[if_pos h]
  exact Nat.xor_lt_two_pow (n:=8) (hf _ hk) (Nat.pow_lt_pow_right (by omega) (by omega))
 ·rw[if_neg h];exact hf i hi
theorem fl_fb (f:Nat→Nat) (k n:Nat):PM.fb (fl f k) n=if n=k then !PM.fb f n else PM.fb f n:=by
 unfold PM.fb fl
 by_cases h:n / 8=k / 8
 ·rw[if_pos h,Nat.testBit_xor,Nat.testBit_two_pow,h]
  by_cases e:n=k
  ·subst e
   rw[if_pos rfl]
   simp
  ·rw[if_neg e]
   have:¬ 7-k % 8=7-n % 8:=by omega
   simp[this]
 ·rw[if_neg h,if_neg (fun e=>h (by rw[e]))]
theorem fl_V (f:Nat→Nat) (k n:Nat) (hk:k<n):PM.V (PM.fb (fl f k)) n=PM.V (PM.fb f) n ^^^ 2 ^ (n-1-k):=by
 rw[PM.V_congr _ (fun i=>if i=k then !PM.fb f i else PM.fb f i) n (fun i _=>fl_fb f k i)]
 exact PM.V_flip (PM.fb f) n k hk
theorem pow7 (k:Nat):(128:Int) / 2 ^ (k % 8)=((2 ^ (7-k % 8):Nat):Int):=by
 have h:∀ z:Fin 8,(128:Int) / 2 ^ z.val=((2 ^ (7-z.val):Nat):Int):=by decide
 exact h ⟨k % 8,by omega⟩
theorem burst_true {x s i N fr:Nat} (hi:i<s) (hN:fr+s≤N) (hb:x.testBit (s-1-i)=true) :
  PM.C (x >>> (s-i)) (2 ^ (N-fr-i)) ^^^ 2 ^ (N-1 - (fr+i))=PM.C (x >>> (s - (i+1))) (2 ^ (N-fr - (i+1))):=by
 rw[show s - (i+1)=s-1-i by omega,PM.shr_true hb (show s-i=s-1-i+1 by omega),show N-fr-i=(N-fr - (i+1))+1 by omega,Nat.pow_succ,Nat.mul_comm (2 ^ _) 2,PM.C_two_right,PM.dbl_add _ 1 (by omega),PM.C_xor_left,PM.C_two_left,PM.C_one_left,show N-1 - (fr+i)=N-fr - (i+1) by omega]
theorem burst_false {x s i N fr:Nat} (hi:i<s) (hN:fr+s≤N) (hb:x.testBit (s-1-i)=false) :
  PM.C (x >>> (s-i)) (2 ^ (N-fr-i))=PM.C (x >>> (s - (i+1))) (2 ^ (N-fr - (i+1))):=by
 rw[show s - (i+1)=s-1-i by omega,PM.shr_false hb (show s-i=s-1-i+1 by omega),show N-fr-i=(N-fr - (i+1))+1 by omega,Nat.pow_succ,Nat.mul_comm (2 ^ _) 2,PM.C_two_right,PM.C_two_left]
theorem and32_one (a:Nat) (h:a<4294967296):bits .and .u32 (a:Int) 1=((a % 2:Nat):Int):=by
 have:=u32_and_nat a 1 h (by omega)
 rw[nat_mask1]at this
 exact this
theorem bit32h (x k:Nat) (hx:x<4294967296):(bits .and .u32 ((x:Int) / 2 ^ k) 1 != 0)=x.testBit k:=by
 have e:(x:Int) / 2 ^ k=((x >>> k:Nat):Int):=by rw[Nat.shiftRight_eq_div_pow];simp
 have hl:x >>> k<4294967296:=by rw[Nat.shiftRight_eq_div_pow];exact Nat.lt_of_le_of_lt (Nat.div_le_self _ _) hx
 rw[e,and32_one _ hl,shr_bit]
 cases x.testBit k <;> rfl
set_option maxHeartbeats 1000000 in
theorem burst_no (a0:Option Addr) (len cap:Nat) (n:Int) (x:Nat) (w:World) (hl:len≤100000) (hx:x<4294967296) (hno:x=0∨8*len<PM.bl x) :
  Calls Tryz.prog 38 #[.slice a0 len cap,.int .i64 n,.int .u32 x] w fun e w'=>e=.returned (.tuple #[.slice none 0 0,.bool false])∧w'=w:=by
 have hbit:=fun k=>bit32h x k hx
 have hbl:=PM.bl_le (n:=x) (k:=32) (by omega)
 go_enter Tryz.func38,Tryz.ntmps38
 go_wp2_with fail
 go_loop [8,9] (fun s c=>∃ i:Nat,i≤32∧c=.int .i64 i∧s=.int .i64 (PM.bl (x % 2 ^ i):Nat)) (fun _ c=>32 - (intOf c).toNat)
 case atStart=>exact⟨0,by omega,rfl,by rw[Nat.pow_zero,Nat.mod_one];rfl⟩
 case round=>
  obtain⟨i,hi32,rfl,rfl⟩:=hrel
  by_cases hlt:i<32
  ·have t1:=hbit i
   clear hbit
   cases hb:x.testBit i
   ·rw[hb]at t1
    go_wp2
    go_round
    case rel=>exact⟨i+1,by omega,by go_num,by rw[PM.bl_mod_false hb]⟩
    case measure=>simp[intOf] <;> omega
   ·rw[hb]at t1
    go_wp2
    go_round
    case rel=>exact⟨i+1,by omega,by go_num,by rw[PM.bl_mod_true hb];go_num⟩
    case measure=>simp[intOf] <;> omega
  ·obtain rfl:i=32:=by omega
   rw[Nat.mod_eq_of_lt (show x<2 ^ 32 from hx)]
   rcases hno with hx0 | hroom
   ·rw[show PM.bl x=0 by rw[hx0];rfl]
    clear hbit hx0 hbl
    go_wp2
    go_ret2
    exact⟨rfl,rfl⟩
   ·have hs0:((PM.bl x:Int) == 0)=false:=by simp;omega
    have hd:decide ((8:Int) * (len:Int) - (PM.bl x:Int)+1<1)=true:=by simp;omega
    clear hbit
    generalize PM.bl x=s at *
    go_wp2
    go_ret2
    exact⟨rfl,rfl⟩
def BurstOut (B:Nat) (w':World) (len x:Nat) (bs:Nat→Nat) (v:Value):Prop:=
 ∃ f d,w'.ownsRow B 5 1 v len (CB f len)∧(∀ i,i<len→f i<256)∧PM.V (PM.fb f) (8*len)=PM.V (PM.fb bs) (8*len) ^^^ PM.C x (2 ^ d)
set_option maxRecDepth 100000 in
set_option maxHeartbeats 1000000 in
theorem burst_yes (a0:Option Addr) (len cap:Nat) (n:Int) (x:Nat) (bs:Nat→Nat) (w:World) (hr:Row8 w a0 len cap bs) (hl:len≤100000) (hx:x<4294967296) (hx0:x≠0) (hroom:PM.bl x≤8*len) :
  Calls Tryz.prog 38 #[.slice a0 len cap,.int .i64 n,.int .u32 x] w fun e w'=>∃ v,e=.returned (.tuple #[v,.bool true])∧Below w.heap.size w w'∧BurstOut w.heap.size w' len x bs v:=by
 obtain⟨i0,hi,hz0,hz1,hz2⟩:=info_parts info_u8
 have hbit:=fun k=>bit32h x k hx
 have hbl:=PM.bl_le (n:=x) (k:=32) (by omega)
 have hpos:0<PM.bl x:=by rw[PM.bl_pos hx0];omega
 have hbd:=build0
 go_enter Tryz.func38,Tryz.ntmps38
 go_wp2_with fail
 go_loop [8,9] (fun s c=>∃ i:Nat,i≤32∧c=.int .i64 i∧s=.int .i64 (PM.bl (x % 2 ^ i):Nat)) (fun _ c=>32 - (intOf c).toNat)
 case atStart=>exact⟨0,by omega,rfl,by rw[Nat.pow_zero,Nat.mod_one];rfl⟩
 case round=>
  obtain⟨i,hi32,rfl,rfl⟩:=hrel
  by_cases hlt:i<32
  ·have t1:=hbit i
   clear hbit
   cases hb:x.testBit i
   ·rw[hb]at t1
    go_wp2
    go_round
    case rel=>exact⟨i+1,by omega,by go_num,by rw[PM.bl_mod_false hb]⟩
    case measure=>simp[intOf] <;> omega
   ·rw[hb]at t1
    go_wp2
    go_round
    case rel=>exact⟨i+1,by omega,by go_num,by rw[PM.bl_mod_true hb];go_num⟩
    case measure=>simp[intOf] <;> omega
  ·obtain rfl:i=32:=by omega
   rw[Nat.mod_eq_of_lt (show x<2 ^ 32 from hx)]
   have HX:Hid (x<2 ^ PM.bl x):=PM.lt_bl x
   have hs0:((PM.bl x:Int) == 0)=false:=by simp;omega
   have hd:decide ((8:Int) * (len:Int) - (PM.bl x:Int)+1<1)=false:=by simp;omega
   have hrm:wrap64 ((IntKind.u64.wrap n).tmod (8 * (len:Int) - (PM.bl x:Int)+1))=((((n % 18446744073709551616) % (8 * (len:Int) - (PM.bl x:Int)+1)).toNat:Nat):Int):=by
    rw[IntKind.wrap_u64,Int.tmod_eq_emod_of_nonneg (by omega)]
    have h1:=Int.emod_nonneg (n % 18446744073709551616) (show (8 * (len:Int) - (PM.bl x:Int)+1)≠0 by omega)
    have h2:=Int.emod_lt_of_pos (n % 18446744073709551616) (show 0<8 * (len:Int) - (PM.bl x:Int)+1 by omega)
    unfold wrap64
    omega
   have hfr:((n % 18446744073709551616) % (8 * (len:Int) - (PM.bl x:Int)+1)).toNat+PM.bl x≤8*len:=by
    have h1:=Int.emod_nonneg (n % 18446744073709551616) (show (8 * (len:Int) - (PM.bl x:Int)+1)≠0 by omega)
    have h2:=Int.emod_lt_of_pos (n % 18446744073709551616) (show 0<8 * (len:Int) - (PM.bl x:Int)+1 by omega)
    omega
   generalize ((n % 18446744073709551616) % (8 * (len:Int) - (PM.bl x:Int)+1)).toNat=fr at *
   generalize PM.bl x=s at *
   have hbelA:Below w.heap.size w (w.alloc (.cells #[] 5)):=(Below.refl _ _).alloc (Nat.le_refl _) _
   have R0:=hr.below hbelA
   have O0:(w.alloc (.cells #[] 5)).ownsRow w.heap.size 5 1 (.slice (some ⟨w.heap.size,0,none⟩) 0 0) 0 (CB bs 0):=World.ownsRow_made w #[] 0 (Nat.le_refl _) (Nat.zero_le _) rfl
   have hszA:=hbelA.size
   go_wp2_with (at_builtin;refine wpList_append_row8 rfl (.tmp 44) (.tmp 45) 50 rfl w.heap.size 5 i0 (.int .u8 0) Tryz.underlying50 hi hz0 hz1 hz2 rfl _ 0 _ rfl O0 a0 len cap bs rfl R0 (by unfold maxLen;omega) (by omega) hszA ?_)
   intro v2 w2 hown2 hgrow2
   have hbel2:Below w.heap.size w w2:=hbelA.grown hgrow2 hszA (fun k hk=>(O0.lt k hk).1)
   rw[show CB bs 0=[] from rfl,List.nil_append]at hown2
   have hb0:=hr.byte
   clear hgrow2 O0 R0 hbelA hbd hr hrm
   obtain⟨ax,cx,rfl,hax⟩:=own_form hown2
   go_wp2_with fail
   go_loopw [13,14] (fun c _ wr=>∃ i f,i≤s∧c=.int .i64 ((i:Nat):Int)∧wr.ownsRow w.heap.size 5 1 (.slice ax len cx) len (CB f len)∧(∀ i,i<len→f i<256)∧PM.V (PM.fb f) (8*len)=PM.V (PM.fb bs) (8*len) ^^^ PM.C (x >>> (s-i)) (2 ^ (8*len-fr-i))∧Below w.heap.size w wr) (fun c _ _=>s - (intOf c).toNat)
   case atStart=>exact⟨0,bs,by omega,rfl,hown2,hb0,by rw[Nat.sub_zero,Nat.shiftRight_eq_div_pow,Nat.div_eq_of_lt HX.out,PM.C_zero_left,Nat.xor_zero],hbel2⟩
   case round=>
    clear hown2 hbel2 hb0
    obtain⟨i,f,hi2,rfl,hown,hfb,hfV,hbel⟩:=hrel
    have HV:Hid (PM.V (PM.fb f) (8*len)=PM.V (PM.fb bs) (8*len) ^^^ PM.C (x >>> (s-i)) (2 ^ (8*len-fr-i))):=hfV
    clear hfV
    by_cases hlt2:i<s
    ·have t1:=hbit (s-1-i)
     clear hbit
     cases hb:x.testBit (s-1-i)
     ·rw[hb]at t1
      go_wp2
      go_roundw
      case rel=>exact⟨i+1,f,by omega,by go_num,hown,hfb,by rw[HV.out,burst_false hlt2 hfr hb],hbel⟩
      case measure=>simp[intOf] <;> omega
     ·rw[hb]at t1
      obtain⟨gx,rfl,hgx⟩:=hax (by omega)
      obtain⟨k,hk⟩:∃ k,k=fr+i:=⟨_,rfl⟩
      have hk1:(fr:Int) + (i:Int)=(k:Int):=by omega
      have hk8:k / 8<len:=by omega
      obtain⟨q,hq⟩:∃ q,q=k / 8:=⟨_,rfl⟩
      obtain⟨m,hm⟩:∃ m,m=k % 8:=⟨_,rfl⟩
      have hq1:(k:Int) / 8=(q:Int):=by omega
      have hm1:(k:Int) % 8=(m:Int):=by omega
      have hq2:(k:Int).tdiv 8=(q:Int):=by rw[Int.tdiv_eq_ediv_of_nonneg (by omega)];exact hq1
      have hm2:(k:Int).tmod 8=(m:Int):=by rw[Int.tmod_eq_emod_of_nonneg (by omega)];exact hm1
      have hp:(128:Int) / 2 ^ m=((2 ^ (7-m):Nat):Int):=by rw[hm];exact pow7 k
      have hql:q<len:=by omega
      have hm8:m<8:=by omega
      have hcx:=hown.cellAt q (by omega)
      rw[CB_get _ len _ hql]at hcx
      have hfx:=hown.frozenAt q
      have hX:=xor8 (f q) (2 ^ (7-m)) (hfb q hql) (show 2 ^ (7-m)<2 ^ 8 from Nat.pow_lt_pow_right (by omega) (by omega))
      have hown3:(wr.drew.setCell ⟨gx,q,none⟩ (.int .u8 ((f q ^^^ 2 ^ (7-m):Nat):Int))).ownsRow w.heap.size 5 1 (.slice (some ⟨gx,0,none⟩) len cx) len (CB (fl f k) len):=by
       have h:=((show wr.drew.ownsRow w.heap.size 5 1 (.slice (some ⟨gx,0,none⟩) len cx) len (CB f len) from hown).stored q (.int .u8 ((f q ^^^ 2 ^ (7-m):Nat):Int))).1
       rw[CB_set,CB_congr _ (fl f k) len (fun i _=>by unfold fl;rw[hq,hm])]at h
       exact h
      have hbel3:Below w.heap.size w (wr.drew.setCell ⟨gx,q,none⟩ (.int .u8 ((f q ^^^ 2 ^ (7-m):Nat):Int))):=hbel.drew.setCell (p:=⟨gx,q,none⟩) hgx _
      have HO:Hid (_):=hown3
      have HB:Hid (_):=hbel3
      have HF:Hid (∀ i,i<len→fl f k i<256):=fl_lt hfb k hk8
      have HW:Hid (PM.V (PM.fb (fl f k)) (8*len)=PM.V (PM.fb bs) (8*len) ^^^ PM.C (x >>> (s - (i+1))) (2 ^ (8*len-fr - (i+1)))):=by
       show _=_
       rw[fl_V f k (8*len) (by omega),HV.out,hk,Nat.xor_assoc,burst_true hlt2 hfr hb]
      have hkl:k<800000:=by omega
      clear hk hq hm hown hbel hown3 hbel3 hax HV hfb
      generalize f q ^^^ 2 ^ (7-m)=y at *
      generalize 2 ^ (7-m)=z at *
      go_wp2_with fail
      go_region
      all_goals (go_wp2_with fail;go_roundw)
      case rel=>exact⟨i+1,fl f k,by omega,by go_num,HO.out,HF.out,HW.out,HB.out⟩
      case measure=>simp[intOf] <;> omega
    ·obtain rfl:i=s:=by omega
     clear hbit hax
     go_wp2
     go_ret2
     exact⟨_,rfl,hbel,f,8*len-fr-i,hown,hfb,by rw[HV.out,Nat.sub_self,Nat.shiftRight_zero]⟩
theorem Row8.off0 {l:List Nat} {w w':World} {a:Option Addr} {len cap:Nat} {bs:Nat→Nat} (h:Row8 w a len cap bs) (q:Off l w w') (hl:∀ x,a=some x→0<len→x.block ∉ l):Row8 w' a len cap bs:=by
 by_cases h0:0<len
 ·exact h.off q (fun x hx=>hl x hx h0)
 ·exact⟨h.byte,h.nil,fun x hx i hi=>absurd hi (by omega),h.le⟩
theorem Off.set {l:List Nat} {w w':World} (h:Off l w w') {b o:Nat} {v:Value} (hb:b ∈ l):Off l w (w'.setCell ⟨b,o,none⟩ v):=
 h.trans ((Off.setCell b o w' v).more (fun k hk=>by simp at hk;rw[hk];exact hb))
theorem row8_of4 {w:World} {g b0 b1 b2 b3:Nat} {bs:Nat→Nat} (hb:∀ i,i<4→bs i<256) (e0:bs 0=b0) (e1:bs 1=b1) (e2:bs 2=b2) (e3:bs 3=b3) (h0:w.cell? ⟨g,0,none⟩=some (.int .u8 (b0:Nat))) (h1:w.cell? ⟨g,1,none⟩=some (.int .u8 (b1:Nat))) (h2:w.cell? ⟨g,2,none⟩=some (.int .u8 (b2:Nat))) (h3:w.cell? ⟨g,3,none⟩=some (.int .u8 (b3:Nat))) :
  Row8 w (some ⟨g,0,none⟩) 4 4 bs:=by
 subst e0 e1 e2 e3
 refine⟨hb,(fun h=>by cases h),fun x hx i hi=>?_,Nat.le_refl _⟩
 cases hx
 have c:i=0∨i=1∨i=2∨i=3:=by omega
 rcases c with rfl | rfl | rfl | rfl
 ·exact h0
 ·exact h1
 ·exact h2
 ·exact h3
set_option maxRecDepth 100000 in
set_option maxHeartbeats 1000000 in
theorem rsign_own (P:Pm) (hP:Pok P) (w:World) :
  Calls Tryz.prog 36 #[.agg #[.int .u32 (P.c:Nat),.int .i64 (P.o:Nat),.int .i64 (P.i:Nat),.int .i64 (P.t:Nat),.int .u32 (P.n:Nat)]] w fun e w'=>∃ g,e=.returned (.slice (some ⟨g,0,none⟩) 4 4) ∧
   Hid (w'.heap[g]?=some (.cells #[.int .u8 (dsg P 0:Nat),.int .u8 (dsg P 1:Nat),.int .u8 (dsg P 2:Nat),.int .u8 (dsg P 3:Nat)] 5 (0,0))∧w.heap.size≤g∧Below w.heap.size w w'):=by
 unfold dsg
 have hE:=hP.ok
 have hc:=hP.c
 have hn:=hP.n
 generalize P.c=c at *
 generalize P.o=O at *
 generalize P.i=I at *
 generalize P.t=T at *
 generalize P.n=n at *
 have hb:Below w.heap.size w (w.alloc (.cells #[.int .u32 c,.int .i64 O,.int .i64 I,.int .i64 T,.int .u32 n] 42)):=(Below.refl _ _).alloc (Nat.le_refl _) _
 have hF:=rencode_good c O I T n (w.alloc (.cells #[.int .u32 c,.int .i64 O,.int .i64 I,.int .i64 T,.int .u32 n] 42)) hc hn hE
 obtain⟨_,hO,hI,_,_⟩:=hE
 have hby:=pe_lt (c:=c) (o:=O) (i:=I) (t:=T) (n:=n) (by omega) (by omega)
 have hk:=PM.K_lt (pe c O I T n) 14
 have hB0:=fun a cap w1 (R1:Row8 w1 a 14 cap (pe c O I T n))=>refSum_row a 14 cap (pe c O I T n) w1 R1 (by omega)
 obtain⟨k,hkd⟩:∃ k,k=PM.K (pe c O I T n) 14:=⟨_,rfl⟩
 rw[← hkd]at hk hB0 ⊢
 clear hO hI hkd hP
 go_enter Tryz.func36,Tryz.ntmps36
 go_wp2_with fail
 refine hF.mono ?_
 rintro e w1 ⟨a,cap,rfl,H1⟩
 obtain⟨O1,hb1⟩:=H1.out
 have hb2:=below_all hb hb.size hb1
 obtain⟨a1,c1,e1,R1⟩:=own_row8 O1 (fun k _=>hby k)
 simp only[Value.slice.injEq,true_and]at e1
 obtain⟨rfl,rfl⟩:=e1
 have hB:=hB0 _ _ w1 R1
 clear hb hF hb1 H1 O1 R1 hby hB0
 go_wp2_with fail
 refine hB.mono ?_
 rintro e w2 ⟨rfl,hb3'⟩
 have hb3:=below_all hb2 hb2.size hb3'
 clear hB hb3' hb2
 go_wp2_with fail
 refine (refWord_any k _ hk).mono ?_
 rintro e w4 ⟨rfl,rfl⟩
 have HB:Hid (_):=And.intro (heap_alloc_new w2 (.cells #[.int .u8 ((k:Int) / 16777216),.int .u8 ((k:Int) / 65536 % 256),.int .u8 ((k:Int) / 256 % 256),.int .u8 ((k:Int) % 256)] 5)) (And.intro hb3.size (hb3.alloc hb3.size (.cells #[.int .u8 ((k:Int) / 16777216),.int .u8 ((k:Int) / 65536 % 256),.int .u8 ((k:Int) / 256 % 256),.int .u8 ((k:Int) % 256)] 5)))
 have HK:Hid (_):=hk
 clear hb3 hk
 go_wp2_with fail
 go_ret
 have hk:=HK.out
 have e0:(k:Int) / 16777216=((PM.w4 k 0:Nat):Int):=by show _=((k / 16777216 % 256:Nat):Int);omega
 have e1:(k:Int) / 65536 % 256=((PM.w4 k 1:Nat):Int):=by show _=((k / 65536 % 256:Nat):Int);omega
 have e2:(k:Int) / 256 % 256=((PM.w4 k 2:Nat):Int):=by show _=((k / 256 % 256:Nat):Int);omega
 have e3:(k:Int) % 256=((PM.w4 k 3:Nat):Int):=by show _=((k % 256:Nat):Int);omega
 have h:=HB.out
 rw[← e0,← e1,← e2,← e3]
 exact⟨_,rfl,h⟩
def osig (P:Pm) (odd:Bool):Nat→Nat:=if odd=true then (fun i=>if i=0 then dsg P 0 ^^^ 1 else dsg P i) else dsg P
def oses (s:Sd) (odd:Bool):Nat:=if odd=true then (s.ss+1) % 4294967296 else s.ss
def onum (s:Sd) (N:Int):Nat:=(s.nm + (N % 4294967296).toNat) % 4294967296
def Fo (P:Pm) (s:Sd) (k N fl:Int) (odd:Bool) (len:Nat) (bs:Nat→Nat) (x:Nat) (f:Fm):Prop:=
 (k=1→f=encI 1 P.c 0 0 0 4 (osig P odd))∧(k=2→odd=false→f=encI 2 P.c s.ss 0 0 4 (dsg P))∧(k=3→f=encI 3 P.c (oses s odd) 0 0 0 (fun _=>0)) ∧
 (k=4→f=encI 4 P.c (oses s odd) (onum s N) fl len bs)∧(k=5→f=encI 5 P.c (oses s odd) P.n 0 0 (fun _=>0)) ∧
 (k=2→∃ so sg,f=encI 2 P.c so 0 0 4 sg)∧(k=6→f=(len,bs))∧(k=7→(x≠0∧PM.bl x≤8 * (encI 4 P.c (oses s odd) (onum s N) fl len bs).1)→DE f.2 f.1=42) ∧
 (k=7→¬ (x≠0∧PM.bl x≤8 * (encI 4 P.c (oses s odd) (onum s N) fl len bs).1)→f=encI 4 P.c (oses s odd) (onum s N) fl len bs)
theorem osig_f (P:Pm):osig P false=dsg P:=by unfold osig;rw[if_neg (by simp)]
theorem osig_false (P:Pm) (i:Nat):osig P false i=dsg P i:=by unfold osig;rw[if_neg (by simp)]
theorem osig_zero (P:Pm) {x0:Nat} (h:dsg P 0 ^^^ 1=x0):osig P true 0=x0:=by unfold osig;rw[if_pos rfl,if_pos rfl,h]
theorem osig_succ (P:Pm) (i:Nat) (h:i≠0):osig P true i=dsg P i:=by unfold osig;rw[if_pos rfl,if_neg h]
theorem xor1 (x:Nat) (h:x<256):bits .xor .u8 (x:Int) 1=((x ^^^ 1:Nat):Int):=u8_xor_nat x 1 h (by omega)
theorem so_facts (ss:Nat):∃ so:Nat,(ss+1) % 4294967296=so∧IntKind.u32.wrap ((ss:Int)+1)=(so:Int)∧((ss:Int)+1) % 4294967296=(so:Int):=
 ⟨_,rfl,by rw[IntKind.wrap_u32];omega,by omega⟩
theorem x0_facts (P:Pm):∃ x0:Nat,dsg P 0 ^^^ 1=x0∧bits .xor .u8 (dsg P 0:Int) 1=(x0:Int):=⟨_,rfl,xor1 _ (dsg_byte P 0 (by omega))⟩
theorem nu_facts (s:Sd) (N:Int):∃ nN nu:Nat,onum s N=nu∧nu<4294967296∧IntKind.u32.wrap N=(nN:Int)∧N % 4294967296=(nN:Int)∧IntKind.u32.wrap ((s.nm:Int) + (nN:Int))=(nu:Int)∧((s.nm:Int) + (nN:Int)) % 4294967296=(nu:Int):=by
 refine⟨(N % 4294967296).toNat,onum s N,rfl,by unfold onum;omega,by rw[IntKind.wrap_u32];omega,by omega,?_,?_⟩
 ·rw[IntKind.wrap_u32];unfold onum;omega
 ·unfold onum;omega
theorem oses_false (s:Sd):oses s false=s.ss:=by unfold oses;rw[if_neg (by simp)]
theorem oses_lt {s:Sd} (h:s.ss<4294967296) (odd:Bool):oses s odd<4294967296:=by
 unfold oses
 split
 ·omega
 ·exact h
theorem encI_byte (k c s n:Nat) (f:Int) (len:Nat) (bs:Nat→Nat) (hb:∀ i,i<len→bs i<256):∀ i,i < (encI k c s n f len bs).1→(encI k c s n f len bs).2 i<256:=by
 unfold encI
 by_cases h:LW k c s n f len len=0
 ·have hf:=(LW_zero h).2.2.2.2
  obtain⟨F,rfl⟩:∃ F:Nat,f=(F:Int):=⟨f.toNat,by omega⟩
  exact encF_byte k c s n F len bs hb
 ·rw[if_neg h];intro i hi;exact absurd hi (Nat.not_lt_zero i)
theorem encI_len (k c s n:Nat) (f:Int) (len:Nat) (bs:Nat→Nat):(encI k c s n f len bs).1≤27:=by
 unfold encI
 by_cases h:LW k c s n f len len=0
 ·rw[if_pos h]
  have:=(LW_zero h).2.2.2.1
  show 15+len+4≤27
  omega
 ·rw[if_neg h];show 0≤27;omega
theorem osig_byte (P:Pm) (odd:Bool):∀ i,i<4→osig P odd i<256:=by
 intro i hi
 have h:=dsg_byte P
 unfold osig
 cases odd
 ·exact h i hi
 ·show (if i=0 then dsg P 0 ^^^ 1 else dsg P i)<256
  split
  ·exact Nat.xor_lt_two_pow (n:=8) (h 0 (by omega)) (by omega)
  ·exact h i hi
theorem spoilt_DE {k c s n:Nat} {f:Int} {len:Nat} {bs f7:Nat→Nat} {x d:Nat} (hx:x<4294967296) (h0:x≠0) (hroom:PM.bl x≤8 * (encI k c s n f len bs).1) (hV:PM.V (PM.fb f7) (8 * (encI k c s n f len bs).1)=PM.V (PM.fb (encI k c s n f len bs).2) (8 * (encI k c s n f len bs).1) ^^^ PM.C x (2 ^ d)) :
  DE f7 (encI k c s n f len bs).1=42:=by
 unfold encI at *
 by_cases hE:LW k c s n f len len=0
 ·rw[if_pos hE]at *
  have hz:=LW_zero hE
  refine DE_check (by show 19≤15+len+4;omega) (by show 15+len+4≤27;omega) (fun h=>?_)
  have hS:PM.R PM.g 32 (PM.V (PM.fb (PM.sl (fr k c s n f.toNat len bs) (15+len))) (8 * (15+len+4)))=0:=PM.V_sl _ _
  unfold vld at h
  rw[hV,PM.R_xor]at h
  rw[show PM.R PM.g 32 (PM.V (PM.fb (15+len+4,PM.sl (fr k c s n f.toNat len bs) (15+len)).2) (8 * (15+len+4,PM.sl (fr k c s n f.toNat len bs) (15+len)).1))=0 from hS,Nat.zero_xor]at h
  exact h0 (PM.burst x d hx h)
 ·rw[if_neg hE]at hroom
  exfalso
  have:PM.bl x≤0:=hroom
  rw[PM.bl_pos h0]at this
  omega
theorem spoilt_f {k c s n:Nat} {f:Int} {len:Nat} {bs f7:Nat→Nat} {x d:Nat} {F:Fm} (e:encI k c s n f len bs=F) (hx:x<4294967296) (h0:x≠0) (hroom:PM.bl x≤8*F.1) (hV:PM.V (PM.fb f7) (8*F.1)=PM.V (PM.fb F.2) (8*F.1) ^^^ PM.C x (2 ^ d)):DE f7 F.1=42:=by
 subst e
 exact spoilt_DE hx h0 hroom hV
section
variable {w w':World} {d m g n mx:Nat} {P:Pm} {U l:List Nat} {s:Sd}
theorem DX.off {B:Bk} {A:Prop} (h:DX w d m g n mx P U s B A) (q:Off l w w') (hl:∀ k,k ∈ U→k ∉ l):DX w' d m g n mx P U s B A:=
 ⟨(q.block d h.dlt (hl _ h.kd.2)).trans h.dev,h.mem.off q (hl _ h.km.2) (hl _ h.kg.2),fun hs=>⟨(h.cel hs).1,(h.cel hs).2.1.off q (hl _ h.kc.2),(h.cel hs).2.2⟩,h.dog.off q (hl _ h.kb.2),h.val.off q (hl _ h.kv.2) (hl _ h.kw.2) (fun k hk hM=>hl k (h.kM k hM).2 hk),h.log.off q (fun k hk=>hl _ (h.kl k hk).2),own_offk h.app q (fun k hk=>hl _ (h.ka k hk).2),h.apb,fun k hk=>Nat.lt_of_lt_of_le (h.ltU k hk) q.size,h.kd,h.km,h.kg,h.kc,h.kb,h.kv,h.kw,h.kM,h.kl,h.ka,h.pok,h.n10,h.mx0,h.mxl⟩
theorem RB.off {B:Bk2} {A:Prop} (h:RB w d m g n mx P U s B A) (q:Off l w w') (hl:∀ k,k ∈ U→k ∉ l):RB w' d m g n mx P U s B A:=
 ⟨(q.block d h.dlt (hl _ h.kd.2)).trans h.dev,h.mem.off q (hl _ h.km.2) (hl _ h.kg.2),fun hs=>⟨(h.cel hs).1,(h.cel hs).2.1.off q (hl _ h.kc.2),(h.cel hs).2.2⟩,h.val.off q (fun k hk hM=>hl k (h.kM k hM).2 hk),own_offk h.log q (fun k hk=>hl _ (h.kl k hk).2),own_offk h.app q (fun k hk=>hl _ (h.ka k hk).2),h.apb,h.vok,h.dcl,fun k hk=>Nat.lt_of_lt_of_le (h.ltU k hk) q.size,h.kd,h.km,h.kg,h.kc,h.kM,h.kl,h.ka,h.pok,h.n10,h.mx0,h.mxl,h.nl⟩
theorem DV.off (h:DV w d m g n mx P U s) (q:Off l w w') (hl:∀ k,k ∈ U→k ∉ l):DV w' d m g n mx P U s:=by
 obtain⟨B,h⟩:=h
 exact⟨B,h.off q hl⟩
theorem RW.off (h:RW w d m g n mx P U s) (q:Off l w w') (hl:∀ k,k ∈ U→k ∉ l):RW w' d m g n mx P U s:=by
 obtain⟨B,h⟩:=h
 exact⟨B,h.off q hl⟩
end
structure Pl where
 d:Nat
 m:Nat
 g:Nat
 e:Nat
 r:Nat
 q:Nat
 n:Nat
 mx:Nat
 P:Pm
 K:List (Nat × Option Obj)
structure Bt (w0 w:World) (L:Pl) (s t:Sd) (F:List Nat) (U V:List Nat):Prop where
 bel:Below w0.heap.size w0 w
 dv:DV w L.d L.m L.g L.n L.mx L.P U s
 rw:RW w L.e L.r L.q L.n L.mx L.P V t
 uv:∀ k,k ∈ U→w0.heap.size≤k∧k ∉ V
 vb:∀ k,k ∈ V→w0.heap.size≤k
 fr:∀ k,k ∈ F→k<w.heap.size∧k ∉ U∧k ∉ V
 kp:∀ x,x ∈ L.K→(x.1<w.heap.size∧x.1 ∉ U∧x.1 ∉ V)∧w.heap[x.1]?=x.2
section
variable {w0 w w':World} {L:Pl} {s t s':Sd} {F U V U':List Nat}
end
section
variable {w0 w w':World} {L:Pl} {s t:Sd} {b:Nat} {O:Array Value} {a:Option Addr} {len cap:Nat} {bs:Nat→Nat}
end
def Two (w0 w:World) (L:Pl) (s:Sd):Prop:=∃ U V,Bt w0 w L s s [] U V
theorem two_made {w0 w w1 w2:World} {L:Pl} {s:Sd} {U V:List Nat} (bel:Below w0.heap.size w0 w) (o1:Off [L.m,L.g] w w1) (D:DV w1 L.d L.m L.g L.n L.mx L.P U s) (hU:∀ k,k ∈ U→k=L.m∨k=L.g∨w.heap.size≤k)
  (o2:Off [L.r,L.q] w1 w2) (R:RW w2 L.e L.r L.q L.n L.mx L.P V s) (hV:∀ k,k ∈ V→k=L.r∨k=L.q∨w1.heap.size≤k) (h0:w0.heap.size≤L.m∧w0.heap.size≤L.g∧w0.heap.size≤L.r∧w0.heap.size≤L.q)
  (hne:L.m≠L.r∧L.m≠L.q∧L.g≠L.r∧L.g≠L.q) (hlt:L.r<w.heap.size∧L.q<w.heap.size) (hK:L.K=[]):Two w0 w2 L s:=by
 have s1:=o1.size
 have sb:=bel.size
 have b1:Below w0.heap.size w0 w1:=o1.below bel (by simp;omega) bel.size
 have hUr:∀ k,k ∈ U→k ∉ [L.r,L.q]:=fun k hk hm=>by
  have:=hU k hk
  simp at hm
  omega
 refine⟨U,V,o2.below b1 (by simp;omega) b1.size,D.off o2 hUr,R,fun k hk=>⟨?_,fun hm=>?_⟩,fun k hk=>?_,fun k hk=>by simp at hk,fun x hx=>by rw[hK]at hx;simp at hx⟩
 ·have:=hU k hk;omega
 ·have h1:=hU k hk
  have h2:=hV k hm
  have h3:=D.ult k hk
  omega
 ·have:=hV k hk;omega
end Go.Proofs.YthbogkaoidbpgaaGreat
namespace Go.Proofs.YthbogkaoidbpgaaGreat
set_option maxRecDepth 100000
open Go.RowKit
structure Dr where
 d:Nat
 m:Nat
 g:Nat
 n:Nat
 mx:Nat
 P:Pm
 s:Sd
structure Thing where
 U:List Nat
 T:World→Prop
 st:∀ w w' l,T w→Off l w w'→(∀ k,k ∈ U→k ∉ l)→T w'
def noT:Thing:=⟨[],fun _=>True,fun _ _ _ _ _ _=>trivial⟩
def putT (t:Nat→Thing) (i:Nat) (x:Thing):Nat→Thing:=fun j=>if j=i then x else t j
theorem putT_same (t:Nat→Thing) (i:Nat) (x:Thing):putT t i x i=x:=if_pos rfl
theorem putT_ne (t:Nat→Thing) {i j:Nat} (x:Thing) (h:j≠i):putT t i x j=t j:=if_neg h
structure Al (w0 w:World) (t:Nat→Thing):Prop where
 bel:Below w0.heap.size w0 w
 ok:∀ i,(t i).T w
 lt:∀ i k,k ∈ (t i).U→w0.heap.size≤k∧k<w.heap.size
 dis:∀ i j,i≠j→∀ k,k ∈ (t i).U→k ∉ (t j).U
section
variable {w0 w w':World} {t:Nat→Thing}
theorem Al.start (w:World):Al w w (fun _=>noT):=⟨Below.refl _ _,fun _=>trivial,fun _ k hk=>by simp[noT]at hk,fun _ _ _ k hk=>by simp[noT]at hk⟩
theorem Al.size (h:Al w0 w t):w0.heap.size≤w.heap.size:=h.bel.size
theorem Al.get (h:Al w0 w t) {i:Nat} {x:Thing} (e:t i=x):x.T w:=e ▸ h.ok i
theorem Al.turn (h:Al w0 w t) (i:Nat) (x:Thing) (o:Off (t i).U w w') (hx:x.T w') (hl:∀ k,k ∈ x.U→w0.heap.size≤k∧k<w'.heap.size) (hd:∀ k,k ∈ x.U→∀ j,j≠i→k ∉ (t j).U):Al w0 w' (putT t i x) where
 bel:=o.below h.bel (fun k hk=>(h.lt i k hk).1) h.bel.size
 ok:=fun j=>by
  by_cases e:j=i
  ·subst e;rw[putT_same];exact hx
  ·rw[putT_ne t x e];exact (t j).st w w' _ (h.ok j) o (h.dis j i e)
 lt:=fun j k hk=>by
  by_cases e:j=i
  ·subst e;rw[putT_same]at hk;exact hl k hk
  ·rw[putT_ne t x e]at hk;have:=h.lt j k hk;exact⟨this.1,Nat.lt_of_lt_of_le this.2 o.size⟩
 dis:=fun a b hab k ha hb=>by
  by_cases ea:a=i
  ·subst ea
   rw[putT_same]at ha
   rw[putT_ne t x (Ne.symm hab)]at hb
   exact hd k ha b (Ne.symm hab) hb
  ·by_cases eb:b=i
   ·subst eb
    rw[putT_ne t x ea]at ha
    rw[putT_same]at hb
    exact hd k hb a ea ha
   ·rw[putT_ne t x ea]at ha
    rw[putT_ne t x eb]at hb
    exact h.dis a b hab k ha hb
theorem Al.step (h:Al w0 w t) (i:Nat) (x:Thing) {U:List Nat} (hU:(t i).U=U) (g:Gr U w x.U w') (hx:x.T w') (hl:∀ k,k ∈ x.U→k<w'.heap.size):Al w0 w' (putT t i x):=by
 subst hU
 refine h.turn i x g.off hx (fun k hk=>⟨?_,hl k hk⟩) (fun k hk j hj hm=>?_)
 ·rcases g.new k hk with h1 | h1
  ·exact (h.lt i k h1).1
  ·exact Nat.le_trans h.bel.size h1
 ·exact g.out (h.lt j k hm).2 (h.dis j i hj k hm) hk
theorem Al.below (h:Al w0 w t) (b:Below w.heap.size w w'):Al w0 w' t:=
 ⟨h.bel.trans (b.mono h.bel.size),fun i=>(t i).st w w' [] (h.ok i) (Off.of_below b) (by simp),fun i k hk=>⟨(h.lt i k hk).1,Nat.lt_of_lt_of_le (h.lt i k hk).2 b.size⟩,h.dis⟩
theorem Al.same (h:Al w0 w t) {t':Nat→Thing} (e:∀ i,t' i=t i):Al w0 w t':=by
 have:t'=t:=funext e
 rw[this];exact h
end
end Go.Proofs.YthbogkaoidbpgaaGreat
namespace Go.Proofs.YthbogkaoidbpgaaGreat
set_option maxRecDepth 100000
open Go.RowKit
def Pc (c:Nat):Pm:=⟨c,2,1,10,9⟩
theorem Pc_ok (c:Nat) (h:c≠0) (hc:c<4294967296):Pok (Pc c):=⟨by unfold okP Pc;dsimp only;omega,hc,by show (9:Nat)<4294967296;omega⟩
theorem pset (w:World) (c:Int):∃ W,w.alloc (.cells #[.int .u32 c,.int .i64 2,.int .i64 1,.int .i64 10,.int .u32 9] 42)=W∧Below w.heap.size w W∧W.heap[w.heap.size]?=some (.cells #[.int .u32 c,.int .i64 2,.int .i64 1,.int .i64 10,.int .u32 9] 42 (0,0)):=by
 refine⟨_,rfl,(Below.refl _ w).alloc (Nat.le_refl _) _,heap_alloc_new w _⟩
set_option maxHeartbeats 4000000 in
theorem made16 (c:Nat) (h0:c≠0) (hc:c<4294967296) (w:World) :
  Calls Tryz.prog 7 #[.int .u32 (c:Nat)] w fun e w'=>∃ L:Pl,e=.returned (.tuple #[.pointer (some ⟨L.d,0,none⟩),.pointer (some ⟨L.m,0,none⟩),.pointer (some ⟨L.e,0,none⟩)])∧Hid (L.n=16∧L.mx=99∧L.P=Pc c∧Two w w' L (dnew M0)):=by
 have hS:Calls Tryz.prog 18 #[] w fun e w'=>e=.returned (.agg #[.int .u32 7,.int .i64 2,.int .i64 1,.int .i64 10,.int .u32 9])∧Below w.heap.size w w':=small_any w
 have hP:=Pc_ok c h0 hc
 have hO:=open0 99 (by omega)
 go_enter Tryz.func7,Tryz.ntmps7
 go_wp2_with (go_at_call 18;refine hS.mono ?_;rintro e w1 ⟨rfl,b1⟩)
 obtain⟨W,hW,bW,pW⟩:=pset w1 (c:Nat)
 rw[hW]
 have hM:=new_ok 16 W (by omega)
 refine hM.mono ?_
 rintro e w3 ⟨m,g,rfl,h3⟩
 have hR:=rnew_ok 16 w3 (by omega)
 clear hM hS hW
 go_wp2_with fail
 refine hR.mono ?_
 rintro e w4 ⟨r,q,rfl,h4⟩
 obtain⟨m1,g1,o3,x3⟩:=h3.out
 obtain⟨r1,q1,o4,x4⟩:=h4.out
 have lp:w1.heap.size<W.heap.size:=(Array.getElem?_eq_some_iff.1 pW).1
 have s3:=o3.size
 have s4:=o4.size
 have p4:w4.heap[w1.heap.size]?=_:=(o4.block _ (by omega) (by simp)).trans ((o3.block _ lp (by simp)).trans pW)
 have x3':=x3.off o4 (by simp) (by simp)
 have hN:Calls Tryz.prog 20 #[.agg #[.int .u32 (c:Nat),.int .i64 2,.int .i64 1,.int .i64 10,.int .u32 9],.pointer (some ⟨m,0,none⟩),.int .u32 99] w4 _:=newD_ok m g 16 99 (Pc c) hP M0 w4 x3' (by omega) (by decide) hO.1
 rw[hO.2]at hN
 have k0:=cell_of_row w4 w1.heap.size 0 _ _ _ p4
 have k1:=cell_of_row w4 w1.heap.size 1 _ _ _ p4
 have k2:=cell_of_row w4 w1.heap.size 2 _ _ _ p4
 have k3:=cell_of_row w4 w1.heap.size 3 _ _ _ p4
 have k4:=cell_of_row w4 w1.heap.size 4 _ _ _ p4
 have bel:Below w.heap.size w w4:=o4.below (o3.below (b1.trans (bW.mono b1.size)) (by simp) (Nat.le_trans b1.size bW.size)) (by simp) (Nat.le_trans (Nat.le_trans b1.size bW.size) s3)
 have lr:=x4.lt
 have lg:=x4.lg
 have HA:Hid (_):=And.intro bel (And.intro x4 (And.intro p4 (And.intro (And.intro m1 g1) (And.intro (And.intro r1 q1) (And.intro (And.intro lp b1.size) (And.intro (And.intro bW.size (And.intro s3 s4)) (And.intro (And.intro x3.lt x3.lg) (And.intro lr lg))))))))
 clear hR h3 h4 m1 g1 r1 q1 o3 o4 x3 x3' x4 b1 bW pW bel lr lg p4
 go_wp2_with fail
 refine hN.mono ?_
 rintro e w5 ⟨d,rfl,h5⟩
 obtain⟨U,o5,D5,hU⟩:=h5.out
 obtain⟨bel,x4,p4,hm,hr,⟨lp',lb⟩,⟨lW,l3,l4⟩,⟨lm,lg⟩,⟨lr,lq⟩⟩:=HA.out
 have x5:=x4.off o5 (by simp;omega) (by simp;omega)
 have p5:w5.heap[w1.heap.size]?=_:=(o5.block _ (by omega) (by simp;omega)).trans p4
 have k0:=cell_of_row w5 w1.heap.size 0 _ _ _ p5
 have k1:=cell_of_row w5 w1.heap.size 1 _ _ _ p5
 have k2:=cell_of_row w5 w1.heap.size 2 _ _ _ p5
 have k3:=cell_of_row w5 w1.heap.size 3 _ _ _ p5
 have k4:=cell_of_row w5 w1.heap.size 4 _ _ _ p5
 have hQ:Calls Tryz.prog 35 #[.agg #[.int .u32 (c:Nat),.int .i64 2,.int .i64 1,.int .i64 10,.int .u32 9],.pointer (some ⟨r,0,none⟩),.int .u32 99] w5 _:=rnew_any r q 16 99 (Pc c) hP M0 w5 x5 (by omega) (by decide)
 have HB:Hid (_):=And.intro o5 (And.intro D5 hU)
 clear hN h5 o5 D5 hU bel x4 p4 x5 p5
 go_wp2_with fail
 refine hQ.mono ?_
 rintro e w6 ⟨p,rfl,h6⟩
 obtain⟨o6,_,h6a,_⟩:=h6.out
 obtain⟨d',V,rfl,R6,hV⟩:=h6a hO.1
 rw[hO.2]at R6
 have HC:Hid (_):=And.intro o6 (And.intro R6 hV)
 clear hQ h6 o6 R6 hV h6a
 go_wp2_with fail
 refine bodyPost_ret (v:=.tuple #[.pointer (some ⟨d,0,none⟩),.pointer (some ⟨m,0,none⟩),.pointer (some ⟨d',0,none⟩)]) (by simp[results,Tryz.results7,go_sem]) rfl ?_
 obtain⟨o5,D5,hU⟩:=HB.out
 obtain⟨o6,R6,hV⟩:=HC.out
 obtain⟨bel,_⟩:=HA.out
 have z1:w.heap.size≤m:=by omega
 have z2:w.heap.size≤g:=by omega
 have z3:w.heap.size≤r:=by omega
 have z4:w.heap.size≤q:=by omega
 have y1:m≠r:=by omega
 have y2:m≠q:=by omega
 have y3:g≠r:=by omega
 have y4:g≠q:=by omega
 exact⟨⟨d,m,g,d',r,q,16,99,Pc c,[]⟩,rfl,rfl,rfl,rfl,two_made bel o5 D5 hU o6 R6 hV ⟨z1,z2,z3,z4⟩ ⟨y1,y2,y3,y4⟩ ⟨lr,lq⟩ rfl⟩
open Go.ChangeShapes Go.WideShapes Go.ChangeAt Go.RowKit Go.Joins Go.Deep
def OpRow (w:World) (a:Option Addr) (len:Nat):Prop:=len≤9223372036854775807∧(0<len→∃ b off,a=some ⟨b,off,none⟩∧b<w.heap.size∧∀ i,i<len→∃ (pl k N fl:Int) (o:Bool) (x:Option Addr) (l c:Nat) (bs:Nat→Nat) (p:Int) (z:Nat),
 w.cell? ⟨b,off+i*8,none⟩=some (.int .i64 pl)∧w.cell? ⟨b,off+i*8+1,none⟩=some (.int .i64 k)∧w.cell? ⟨b,off+i*8+2,none⟩=some (.int .i64 N)∧w.cell? ⟨b,off+i*8+3,none⟩=some (.int .i64 fl)∧w.cell? ⟨b,off+i*8+4,none⟩=some (.bool o)∧w.cell? ⟨b,off+i*8+5,none⟩=some (.slice x l c)∧w.cell? ⟨b,off+i*8+6,none⟩=some (.int .i64 p)∧w.cell? ⟨b,off+i*8+7,none⟩=some (.int .u32 (z:Nat)) ∧
 Row8 w x l c bs∧l≤140737488351232∧N≤9223372036854775807∧z<4294967296∧∀ y,x=some y→0<l→y.block<w.heap.size)
theorem seven {α:Type} {l:List α} (h:l.length=7):∃ a b c d e f g,l=[a,b,c,d,e,f,g]:=by
 match l,h with
 | [a,b,c,d,e,f,g],_=>exact⟨a,b,c,d,e,f,g,rfl⟩
theorem mem_weightsAll {H:Type} {P:Program} {e:TypeId} {n:Nat} {d:DataW H} (hn:n ∈ d.weights P e):∀ {l:List (DataW H)},d ∈ l→n ∈ DataW.weightsAll P e l
 | [],h=>by cases h
 | x :: r,h=>by
  simp only[DataW.weightsAll,List.mem_append]
  rcases List.mem_cons.1 h with rfl | h
  ·exact .inl hn
  ·exact .inr (mem_weightsAll hn h)
section
variable {H:Type} {enc:TypeId × Value→H} {P:Program} {w:World} {base:Nat} {spare:TypeId→Bool} {held:Bool}
theorem trod_struct7 {t:TypeId} {f0 f1 f2 f3 f4 f5 f6:Field} {fuel:Nat} {cs:List Value} {x:DataW H × List MemPlace} (ht:P.underlying t=some (.struct #[f0,f1,f2,f3,f4,f5,f6])) (h:DataW.trod enc P w base spare held fuel t cs=some x) :
  ∃ y0 y1 y2 y3 y4 y5 y6 n,x.1=.agg [y0.1,y1.1,y2.1,y3.1,y4.1,y5.1,y6.1]∧cs.length=P.cellsOf t∧DataW.trod enc P w base spare held n f0.type ((cs.drop f0.offset).take (P.cellsOf f0.type))=some y0 ∧
   DataW.trod enc P w base spare held n f1.type ((cs.drop f1.offset).take (P.cellsOf f1.type))=some y1∧DataW.trod enc P w base spare held n f2.type ((cs.drop f2.offset).take (P.cellsOf f2.type))=some y2 ∧
   DataW.trod enc P w base spare held n f3.type ((cs.drop f3.offset).take (P.cellsOf f3.type))=some y3∧DataW.trod enc P w base spare held n f4.type ((cs.drop f4.offset).take (P.cellsOf f4.type))=some y4 ∧
   DataW.trod enc P w base spare held n f5.type ((cs.drop f5.offset).take (P.cellsOf f5.type))=some y5∧DataW.trod enc P w base spare held n f6.type ((cs.drop f6.offset).take (P.cellsOf f6.type))=some y6:=by
 obtain⟨xs,n,_,rfl,hl,hlen,hf⟩:=DataW.trod_struct ht h
 obtain⟨y0,y1,y2,y3,y4,y5,y6,rfl⟩:=seven (l:=xs) (by simpa using hlen)
 exact⟨y0,y1,y2,y3,y4,y5,y6,n,by simp,hl,by simpa using hf 0 f0 rfl,by simpa using hf 1 f1 rfl,by simpa using hf 2 f2 rfl,by simpa using hf 3 f3 rfl,by simpa using hf 4 f4 rfl,by simpa using hf 5 f5 rfl,by simpa using hf 6 f6 rfl⟩
end
theorem max_i64 {x:Int} (h:(Lit.int .i64 x).wf=true):x≤9223372036854775807:=by
 have e2:IntKind.i64.max=9223372036854775807:=by decide
 simp[Lit.wf,e2]at h
 exact h.2
theorem nat_u32 {x:Int} (h:(Lit.int .u32 x).wf=true):∃ z:Nat,x=(z:Int)∧z<4294967296:=by
 have e1:IntKind.u32.min=0:=by decide
 have e2:IntKind.u32.max=4294967295:=by decide
 simp[Lit.wf,e1,e2]at h
 exact⟨x.toNat,by omega,by omega⟩
section
variable {H:Type} {enc:TypeId × Value→H} {w:World} {base:Nat} {spare:TypeId→Bool} {held:Bool}
theorem trod_bytes {fuel:Nat} {v:Value} {x:DataW H × List MemPlace} (h:DataW.trod enc Tryz.prog w base spare held fuel 50 [v]=some x) :
  ∃ (a:Option Addr) (l c:Nat) (bs:Nat→Nat),v=.slice a l c∧Row8 w a l c bs∧(∀ y,a=some y→0<l→y.block<w.heap.size)∧((∀ n ∈ x.1.weights Tryz.prog 50,n≤reachBytes)→l≤140737488351232):=by
 rcases open_ints Tryz.underlying50 Tryz.underlying5 (by kernel_rfl) h with ⟨hcs,_⟩ | ⟨y,l,c,zs,hcs,_,hl,hm,hz,hx,hcell,hwz⟩
 ·simp at hcs
  exact⟨none,0,0,_,hcs,BRow.row8 (zs:=[]) (.inl ⟨rfl,rfl,rfl,rfl⟩),(fun y hy=>by cases hy),fun _=>by omega⟩
 ·simp at hcs
  have hll:l≤zs.length:=by rw[hz];split <;> omega
  refine⟨some y,l,c,_,hcs,(⟨fun i hi=>?_,(fun hx=>by cases hx),fun x hx i hi=>?_,hl⟩:Row8 w (some y) l c (fun i=>(zs.getD i 0).toNat)),fun x hx h0=>?_,fun hs=>?_⟩
  ·have:=bounds_u8 (hwz (zs.getD i 0) (by rw[List.getD_eq_getElem?_getD,List.getElem?_eq_getElem (by omega)];exact List.getElem_mem _))
   omega
  ·cases hx
   have:=bounds_u8 (hwz (zs.getD i 0) (by rw[List.getD_eq_getElem?_getD,List.getElem?_eq_getElem (by omega)];exact List.getElem_mem _))
   rw[hcell i (by omega),Int.toNat_of_nonneg this.1]
  ·cases hx
   have:=World.block_lt_of_cell? w _ (hcell 0 (by omega))
   simpa [Addr.add] using this
  ·rw[hx]at hs
   have h1:=hs (((lits (H:=H) .u8 (zs.take l)).length + (lits (H:=H) .u8 (zs.drop l)).length)*Tryz.prog.bytesOf 5) (by simp only[DataW.weights,Tryz.underlying50];exact List.mem_cons_self)
   rw[show Tryz.prog.bytesOf 5=1 by kernel_rfl]at h1
   simp[lits]at h1
   unfold reachBytes at h1
   omega
end
section
variable {H:Type} {enc:TypeId × Value→H} {w:World} {base:Nat} {spare:TypeId→Bool} {held:Bool}
theorem trod_op {fuel:Nat} {cs:List Value} {x:DataW H × List MemPlace} (h:DataW.trod enc Tryz.prog w base spare held fuel 56 cs=some x) :
  ∃ (k N fl:Int) (o:Bool) (a:Option Addr) (l c:Nat) (bs:Nat→Nat) (p:Int) (z:Nat),cs=[.int .i64 k,.int .i64 N,.int .i64 fl,.bool o,.slice a l c,.int .i64 p,.int .u32 (z:Nat)]∧Row8 w a l c bs∧(∀ y,a=some y→0<l→y.block<w.heap.size)∧N≤9223372036854775807∧z<4294967296∧((∀ n ∈ x.1.weights Tryz.prog 56,n≤reachBytes)→l≤140737488351232):=by
 obtain⟨y0,y1,y2,y3,y4,y5,y6,n,hx,hl,g0,g1,g2,g3,g4,g5,g6⟩:=trod_struct7 (Tryz.underlying56) h
 obtain⟨c0,c1,c2,c3,c4,c5,c6,rfl⟩:=seven (hl.trans (by kernel_rfl))
 have z1:Tryz.prog.cellsOf 3=1:=by kernel_rfl
 have z2:Tryz.prog.cellsOf 4=1:=by kernel_rfl
 have z3:Tryz.prog.cellsOf 50=1:=by kernel_rfl
 have z4:Tryz.prog.cellsOf 40=1:=by kernel_rfl
 simp[z1,z2,z3,z4]at g0 g1 g2 g3 g4 g5 g6
 obtain⟨k,e0,_⟩:=DataW.trod_int Tryz.underlying3 g0
 obtain⟨N,e1,_,wN⟩:=DataW.trod_int Tryz.underlying3 g1
 obtain⟨fl,e2,_⟩:=DataW.trod_int Tryz.underlying3 g2
 obtain⟨o,e3,_⟩:=DataW.trod_bool Tryz.underlying4 g3
 obtain⟨a,l,c,bs,e4,R,hlow,hs⟩:=trod_bytes g4
 obtain⟨p,e5,_⟩:=DataW.trod_int Tryz.underlying3 g5
 obtain⟨zz,e6,_,wz⟩:=DataW.trod_int Tryz.underlying40 g6
 obtain⟨z,rfl,hz⟩:=nat_u32 wz
 simp at e0 e1 e2 e3 e5 e6
 refine⟨k,N,fl,o,a,l,c,bs,p,z,by rw[e0,e1,e2,e3,e4,e5,e6],R,hlow,max_i64 wN,hz,fun hn=>hs fun m hm=>hn m ?_⟩
 rw[hx]
 have hu:DataW.weights (H:=H) Tryz.prog 56 (.agg [y0.1,y1.1,y2.1,y3.1,y4.1,y5.1,y6.1])=y0.1.weights Tryz.prog 3 ++ (y1.1.weights Tryz.prog 3 ++ (y2.1.weights Tryz.prog 3 ++ (y3.1.weights Tryz.prog 4 ++ (y4.1.weights Tryz.prog 50 ++ (y5.1.weights Tryz.prog 3 ++ (y6.1.weights Tryz.prog 40 ++ [])))))):=by
  simp[DataW.weights,Tryz.underlying56,DataW.weightsEach]
 rw[hu]
 simp[hm]
theorem trod_struct2 {P:Program} {t:TypeId} {f0 f1:Field} {fuel:Nat} {cs:List Value} {x:DataW H × List MemPlace} (ht:P.underlying t=some (.struct #[f0,f1])) (h:DataW.trod enc P w base spare held fuel t cs=some x) :
  ∃ y0 y1 n,x.1=.agg [y0.1,y1.1]∧cs.length=P.cellsOf t∧DataW.trod enc P w base spare held n f0.type ((cs.drop f0.offset).take (P.cellsOf f0.type))=some y0∧DataW.trod enc P w base spare held n f1.type ((cs.drop f1.offset).take (P.cellsOf f1.type))=some y1:=by
 obtain⟨xs,n,_,rfl,hl,hlen,hf⟩:=DataW.trod_struct ht h
 obtain⟨y0,y1,rfl⟩:∃ a b,xs=[a,b]:=by
  match xs,(by simpa using hlen:xs.length=2) with
  | [a,b],_=>exact⟨a,b,rfl⟩
 exact⟨y0,y1,n,by simp,hl,by simpa using hf 0 f0 rfl,by simpa using hf 1 f1 rfl⟩
theorem trod_op16 {fuel:Nat} {cs:List Value} {x:DataW H × List MemPlace} (h:DataW.trod enc Tryz.prog w base spare held fuel 58 cs=some x) :
  ∃ (pl k N fl:Int) (o:Bool) (a:Option Addr) (l c:Nat) (bs:Nat→Nat) (p:Int) (z:Nat),cs=[.int .i64 pl,.int .i64 k,.int .i64 N,.int .i64 fl,.bool o,.slice a l c,.int .i64 p,.int .u32 (z:Nat)]∧Row8 w a l c bs∧(∀ y,a=some y→0<l→y.block<w.heap.size)∧N≤9223372036854775807∧z<4294967296∧((∀ n ∈ x.1.weights Tryz.prog 58,n≤reachBytes)→l≤140737488351232):=by
 obtain⟨y0,y1,n,hx,hl,g0,g1⟩:=trod_struct2 (Tryz.underlying58) h
 have z0:Tryz.prog.cellsOf 58=8:=by kernel_rfl
 rw[z0]at hl
 obtain⟨c0,r,rfl⟩:∃ a r,cs=a :: r:=by
  match cs,hl with
  | a :: r,_=>exact⟨a,r,rfl⟩
 have hr:r.length=7:=by simpa using hl
 have z1:Tryz.prog.cellsOf 3=1:=by kernel_rfl
 have z7:Tryz.prog.cellsOf 56=7:=by kernel_rfl
 simp[z1,z7]at g0 g1
 rw[List.take_of_length_le (by omega)]at g1
 obtain⟨pl,e0,_⟩:=DataW.trod_int Tryz.underlying3 g0
 obtain⟨k,N,fl,o,a,l,c,bs,p,z,rfl,R,hlow,hN,hz,hs⟩:=trod_op g1
 simp at e0
 refine⟨pl,k,N,fl,o,a,l,c,bs,p,z,by rw[e0],R,hlow,hN,hz,fun hn=>hs fun m hm=>hn m ?_⟩
 rw[hx]
 have hu:DataW.weights (H:=H) Tryz.prog 58 (.agg [y0.1,y1.1])=y0.1.weights Tryz.prog 3 ++ (y1.1.weights Tryz.prog 56 ++ []):=by
  simp[DataW.weights,Tryz.underlying58,DataW.weightsEach]
 rw[hu]
 simp[hm]
theorem ops_sized {a:Option Addr} {len cap j:Nat} {d:DataW H} {p:List MemPlace} {ts:List TypeId} {ds:List (DataW H)} (h:DataW.Trod enc Tryz.prog w base spare held 23 (.slice a len cap) d p)
  (hz:(DataW.weightsEach Tryz.prog ts ds).all (· ≤ reachBytes)=true) (ht:ts[j]?=some 23) (hd:ds[j]?=some d):OpRow w a len:=by
 obtain⟨fuel,hf⟩:=h
 have hw:∀ n ∈ d.weights Tryz.prog 23,n≤reachBytes:=fun n hn=>by
  have:=List.all_eq_true.1 hz _ (DataW.weights_mem_each ht hd n hn)
  simpa using this
 rcases open_slice Tryz.underlying23 hf with ⟨hcs,_⟩ | ⟨y,l,cp,m,n,D,Pl,hcs,_,hl,hm,hmm,hxx,hx⟩
 ·simp[Value.cells]at hcs
  obtain⟨_,rfl,_⟩:=hcs
  exact⟨by omega,fun h=>by omega⟩
 ·simp[Value.cells]at hcs
  obtain⟨rfl,rfl,rfl⟩:=hcs
  simp only[Prod.mk.injEq]at hxx
  rw[hxx.1]at hw
  refine⟨by unfold maxLen at hm;omega,fun hp=>?_⟩
  have hlm:len≤m:=by rw[hmm];split <;> omega
  have ce:Tryz.prog.cellsOf 58=8:=by kernel_rfl
  rw[ce]at hx
  have each:∀ i,i<len→∃ (pl k N fl:Int) (o:Bool) (x:Option Addr) (l c:Nat) (bs:Nat→Nat) (p:Int) (z:Nat),(∀ j u,(#[.int .i64 pl,.int .i64 k,.int .i64 N,.int .i64 fl,.bool o,.slice x l c,.int .i64 p,.int .u32 (z:Nat)]:Array Value)[j]?=some u→w.cell? ((y.add (i*8)).add j)=some u)∧Row8 w x l c bs∧l≤140737488351232∧N≤9223372036854775807∧z<4294967296∧(∀ y,x=some y→0<l→y.block<w.heap.size):=by
   intro i hi
   obtain⟨cs,h1,h2⟩:=hx i (by omega)
   obtain⟨pl,k,N,fl,o,x,l,c,bs,p,z,rfl,R,hlow,hN,hz',hs⟩:=trod_op16 h2
   obtain⟨_,_,hcell⟩:=World.cells?_some h1
   refine⟨pl,k,N,fl,o,x,l,c,bs,p,z,fun j u hu=>?_,R,hs fun q hq=>hw q ?_,hN,hz',hlow⟩
   ·have hj:j<8:=by simpa using (Array.getElem?_eq_some_iff.1 hu).1
    rw[hcell j hj]
    simpa using hu
   ·simp only[DataW.weights,Tryz.underlying23,List.mem_cons,List.mem_append]
    exact .inr (.inl (mem_weightsAll hq (List.mem_map.2 ⟨i,List.mem_range.2 hi,rfl⟩)))
  obtain⟨b,off,spot⟩:=y
  obtain⟨_,_,_,_,_,_,_,_,_,_,_,h0,_⟩:=each 0 hp
  have hc0:=h0 0 _ rfl
  have hspot:spot=none:=by simpa [Addr.add] using World.cell?_spot hc0
  subst hspot
  refine⟨b,off,rfl,?_,fun i hi=>?_⟩
  ·rw[Go.WideShapes.add_plain,Go.WideShapes.add_plain]at hc0
   exact World.block_lt_of_cell? w _ hc0
  ·obtain⟨pl,k,N,fl,o,x,l,c,bs,p,z,hh,R,hs,hN,hz',hlow⟩:=each i hi
   refine⟨pl,k,N,fl,o,x,l,c,bs,p,z,?_,?_,?_,?_,?_,?_,?_,?_,R,hs,hN,hz',hlow⟩
   ·have:=hh 0 _ rfl;rw[Go.WideShapes.add_plain,Go.WideShapes.add_plain]at this;exact this
   ·have:=hh 1 _ rfl;rw[Go.WideShapes.add_plain,Go.WideShapes.add_plain]at this;exact this
   ·have:=hh 2 _ rfl;rw[Go.WideShapes.add_plain,Go.WideShapes.add_plain]at this;exact this
   ·have:=hh 3 _ rfl;rw[Go.WideShapes.add_plain,Go.WideShapes.add_plain]at this;exact this
   ·have:=hh 4 _ rfl;rw[Go.WideShapes.add_plain,Go.WideShapes.add_plain]at this;exact this
   ·have:=hh 5 _ rfl;rw[Go.WideShapes.add_plain,Go.WideShapes.add_plain]at this;exact this
   ·have:=hh 6 _ rfl;rw[Go.WideShapes.add_plain,Go.WideShapes.add_plain]at this;exact this
   ·have:=hh 7 _ rfl;rw[Go.WideShapes.add_plain,Go.WideShapes.add_plain]at this;exact this
end
end Go.Proofs.YthbogkaoidbpgaaGreat
