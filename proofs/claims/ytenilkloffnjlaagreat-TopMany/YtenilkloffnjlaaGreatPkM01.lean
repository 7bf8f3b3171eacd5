/- Part 2: contracts that the proof rests on. -/
import Derived.WalkKit
import Derived.Laws.BitsAllLaws
import Derived.Test.YtenilkloffnjlaaGreatProg
import Derived.WalkSpells
import Derived.Lib.BitFns
import Derived.Deep.QuietTactic
import Derived.BigQuiet
import Derived.Laws.AppendOwnNone
import Derived.Lib.SlBytesConst
import Derived.Laws.BytesString
import Derived.Deep.RegionWith
import Derived.Deep.DeepCutAuto
import Derived.RegionTactic
import Derived.OpenShut
import Derived.Laws.Pointers
import Derived.Laws.LoneSync
import Derived.Laws.NewBlocks
import Derived.Lib.Builder
import Derived.RegionCalls
import Derived.Test.YtenilkloffnjlaaGreatPkM00
set_option maxHeartbeats 64000000
set_option maxRecDepth 100000
namespace Go.Proofs.YtenilkloffnjlaaGreat.PM
theorem qC (a b:Nat):a ^^^ b ^^^ b=a:=by rw[Nat.xor_assoc,Nat.xor_self,Nat.xor_zero]
theorem ix (a b c d:Nat):(a ^^^ b) ^^^ (c ^^^ d)=(a ^^^ c) ^^^ (b ^^^ d):=by
 rw[Nat.xor_assoc,Nat.xor_assoc,← Nat.xor_assoc b c d,Nat.xor_comm b c,Nat.xor_assoc c b d]
theorem pl {a b:Nat} (h:a ^^^ b=0):a=b:=by
 have:=qC a b;rw[h,Nat.zero_xor]at this;exact this.symm
theorem fV (a b:Nat):2 * (a ^^^ b)=2*a ^^^ 2*b:=by
 have:=@Nat.shiftLeft_xor_distrib 1 a b
 simpa [Nat.shiftLeft_eq,Nat.mul_comm] using this
theorem gh (a x:Nat) (hx:x<2):2*a+x=2*a ^^^ x:=by
 apply Nat.eq_of_testBit_eq
 intro i
 cases i with
 | zero=>
  rw[Nat.testBit_xor]
  simp only[Nat.testBit_zero]
  have h1:(2*a+x) % 2=x:=by omega
  have h2:(2*a) % 2=0:=by omega
  have h3:x % 2=x:=by omega
  rw[h1,h2,h3];simp
 | succ i=>
  rw[Nat.testBit_xor,Nat.testBit_succ,Nat.testBit_succ,Nat.testBit_succ]
  have h1:(2*a+x) / 2=a:=by omega
  have h2:(2*a) / 2=a:=by omega
  have h3:x / 2=0:=by omega
  rw[h1,h2,h3];simp
theorem jN {x y:Nat} (hx:x<2) (hy:y<2):x ^^^ y<2:=@Nat.xor_lt_two_pow x y 1 hx hy
theorem lZ (a b x y:Nat) (hx:x<2) (hy:y<2):(2*a+x) ^^^ (2*b+y)=2 * (a ^^^ b) + (x ^^^ y):=by
 rw[gh a x hx,gh b y hy,gh (a ^^^ b) _ (jN hx hy),fV,ix]
theorem vH (a b:Nat):(a ^^^ b) % 2=(a % 2 ^^^ b % 2):=by
 have:=lZ (a / 2) (b / 2) (a % 2) (b % 2) (by omega) (by omega)
 have h1:2 * (a / 2)+a % 2=a:=by omega
 have h2:2 * (b / 2)+b % 2=b:=by omega
 rw[h1,h2]at this
 have:=jN (x:=a % 2) (y:=b % 2) (by omega) (by omega)
 omega
def kH (m d t:Nat):Nat:=if t.testBit d then t ^^^ m else t
theorem uT (m d:Nat):kH m d 0=0:=by simp[kH]
theorem xx (m d s t:Nat):kH m d (s ^^^ t)=kH m d s ^^^ kH m d t:=by
 unfold kH
 rw[Nat.testBit_xor]
 cases s.testBit d <;> cases t.testBit d <;> simp
 ·exact Nat.xor_assoc _ _ _
 ·rw[Nat.xor_assoc,Nat.xor_comm t m,← Nat.xor_assoc]
 ·rw[ix,Nat.xor_self,Nat.xor_zero]
theorem jM {x n:Nat} (h:x<2 ^ (n+1)) (hb:x.testBit n=false):x<2 ^ n:=by
 apply Nat.lt_pow_two_of_testBit
 intro i hi
 by_cases e:i=n
 ·subst e;exact hb
 ·exact Nat.testBit_lt_two_pow (Nat.lt_of_lt_of_le h (Nat.pow_le_pow_right (by omega) (by omega)))
structure Deg (m d:Nat):Prop where
 lt:m<2 ^ (d+1)
 top:m.testBit d=true
theorem uS {m d t:Nat} (hm:Deg m d) (ht:t<2 ^ (d+1)):kH m d t<2 ^ d:=by
 unfold kH
 split
 ·rename_i h
  apply jM (Nat.xor_lt_two_pow ht hm.lt)
  rw[Nat.testBit_xor,h,hm.top];rfl
 ·rename_i h
  exact jM ht (by simpa using h)
theorem lF {m d t:Nat} (ht:t<2 ^ d):kH m d t=t:=by
 unfold kH;rw[Nat.testBit_lt_two_pow ht];rfl
def rm (m d:Nat):Nat→Nat→Nat
 | 0,_=>0
 | k+1,n=>kH m d (2*rm m d k (n / 2)+n % 2)
def R (m d n:Nat):Nat:=rm m d n n
theorem xZ {m d:Nat} (hm:Deg m d) (k n:Nat):rm m d k n<2 ^ d:=by
 cases k with
 | zero=>exact Nat.two_pow_pos d
 | succ k=>
  refine uS hm ?_
  have:=xZ hm k (n / 2)
  rw[Nat.pow_succ];omega
theorem xl (m d:Nat) (k:Nat):∀ n,n<2 ^ k→rm m d (k+1) n=rm m d k n:=by
 induction k with
 | zero=>
      intro n hn;have:n=0:=by omega
      subst this;simp[rm,uT]
 | succ k ih=>
  intro n hn
  show kH m d (2*rm m d (k+1) (n / 2)+n % 2)=kH m d (2*rm m d k (n / 2)+n % 2)
  rw[ih (n / 2) (by rw[Nat.pow_succ]at hn;omega)]
theorem lB (m d k n:Nat) (hn:n<2 ^ k) (j:Nat):rm m d (k+j) n=rm m d k n:=by
 induction j with
 | zero=>rfl
 | succ j ih=>
  rw[← Nat.add_assoc,xl m d (k+j) n (Nat.lt_of_lt_of_le hn (Nat.pow_le_pow_right (by omega) (by omega))),ih]
theorem bc (n:Nat):n<2 ^ n:=Nat.lt_two_pow_self
theorem jo (m d k n:Nat) (hn:n<2 ^ k):rm m d k n=R m d n:=by
 unfold R
 rcases Nat.le_total k n with h | h
 ·obtain⟨j,rfl⟩:=Nat.exists_eq_add_of_le h
  exact (lB m d k _ hn j).symm
 ·obtain⟨j,rfl⟩:=Nat.exists_eq_add_of_le h
  exact lB m d n n (bc n) j
theorem zK {m d:Nat} (hm:Deg m d) (n:Nat):R m d n<2 ^ d:=xZ hm n n
theorem yr (m d:Nat):R m d 0=0:=rfl
theorem zJ (m d n b:Nat) (hb:b<2):R m d (2*n+b)=kH m d (2*R m d n+b):=by
 have h1:2*n+b<2 ^ (n+1):=by
  have:=bc n;rw[Nat.pow_succ];omega
 rw[← jo m d (n+1) _ h1]
 show kH m d (2*rm m d n ((2*n+b) / 2) + (2*n+b) % 2)=_
 have e1:(2*n+b) / 2=n:=by omega
 have e2:(2*n+b) % 2=b:=by omega
 rw[e1,e2];rfl
theorem tl (m d n:Nat):R m d (2*n)=kH m d (2*R m d n):=zJ m d n 0 (by omega)
theorem zn (m d:Nat) (k:Nat):∀ a b,rm m d k (a ^^^ b)=rm m d k a ^^^ rm m d k b:=by
 induction k with
 | zero=>intro a b;simp[rm]
 | succ k ih=>
  intro a b
  show kH m d (2*rm m d k ((a ^^^ b) / 2) + (a ^^^ b) % 2)=_
  rw[Nat.xor_div_two,vH,ih,← lZ _ _ _ _ (by omega) (by omega),xx]
  rfl
theorem mX (m d a b:Nat):R m d (a ^^^ b)=R m d a ^^^ R m d b:=by
 have ha:a<2 ^ (a+b):=Nat.lt_of_lt_of_le (bc a) (Nat.pow_le_pow_right (by omega) (by omega))
 have hb:b<2 ^ (a+b):=Nat.lt_of_lt_of_le (bc b) (Nat.pow_le_pow_right (by omega) (by omega))
 rw[← jo m d _ _ (Nat.xor_lt_two_pow ha hb),zn,jo m d _ _ ha,jo m d _ _ hb]
theorem uG (m d:Nat) (k:Nat):∀ n,n<2 ^ d→n<2 ^ k→rm m d k n=n:=by
 induction k with
 | zero=>
      intro n _ hn;have:n=0:=by omega
      subst this;rfl
 | succ k ih=>
  intro n hd hn
  show kH m d (2*rm m d k (n / 2)+n % 2)=n
  rw[ih (n / 2) (by omega) (by rw[Nat.pow_succ]at hn;omega)]
  have e:2 * (n / 2)+n % 2=n:=by omega
  rw[e,lF hd]
theorem jd (m d n:Nat) (h:n<2 ^ d):R m d n=n:=uG m d n n h (bc n)
theorem R_R {m d:Nat} (hm:Deg m d) (n:Nat):R m d (R m d n)=R m d n:=jd m d _ (zK hm n)
def cl (a b:Nat):Nat→Nat
 | 0=>0
 | k+1=>cl a b k ^^^ (if b.testBit k then a <<< k else 0)
def C (a b:Nat):Nat:=cl a b b
theorem kL (a b k:Nat) (hb:b<2 ^ k) (j:Nat):cl a b (k+j)=cl a b k:=by
 induction j with
 | zero=>rfl
 | succ j ih=>
  show cl a b (k+j) ^^^ (if b.testBit (k+j) then a <<< (k+j) else 0)=_
  rw[Nat.testBit_lt_two_pow (Nat.lt_of_lt_of_le hb (Nat.pow_le_pow_right (by omega) (by omega))),ih]
  simp
theorem jg (a b k:Nat) (hb:b<2 ^ k):cl a b k=C a b:=by
 unfold C
 rcases Nat.le_total k b with h | h
 ·obtain⟨j,e⟩:=Nat.exists_eq_add_of_le h
  rw[e];rw[e]at hb
  exact (kL a _ k hb j).symm
 ·obtain⟨j,rfl⟩:=Nat.exists_eq_add_of_le h
  exact kL a b b (bc b) j
theorem yl (a:Nat):C a 0=0:=rfl
theorem lU (b k:Nat):cl 0 b k=0:=by
 induction k with
 | zero=>rfl
 | succ k ih=>simp[cl,ih]
theorem fE (b:Nat):C 0 b=0:=lU b b
theorem m9 (a c b k:Nat):cl (a ^^^ c) b k=cl a b k ^^^ cl c b k:=by
 induction k with
 | zero=>simp[cl]
 | succ k ih=>
  show cl (a ^^^ c) b k ^^^ _=(cl a b k ^^^ _) ^^^ (cl c b k ^^^ _)
  rw[ih]
  cases b.testBit k
  ·simp
  ·simp[Nat.shiftLeft_xor_distrib];rw[ix]
theorem gH (a c b:Nat):C (a ^^^ c) b=C a b ^^^ C c b:=m9 a c b b
theorem lT (a b c k:Nat):cl a (b ^^^ c) k=cl a b k ^^^ cl a c k:=by
 induction k with
 | zero=>simp[cl]
 | succ k ih=>
  show cl a (b ^^^ c) k ^^^ _=(cl a b k ^^^ _) ^^^ (cl a c k ^^^ _)
  rw[ih,Nat.testBit_xor]
  cases b.testBit k <;> cases c.testBit k
  ·simp
  ·simp[Nat.xor_assoc]
  ·simp;rw[Nat.xor_assoc,Nat.xor_assoc,Nat.xor_comm (a <<< k)]
  ·simp;rw[ix,Nat.xor_self,Nat.xor_zero]
theorem iT (a b c:Nat):C a (b ^^^ c)=C a b ^^^ C a c:=by
 have hb:b<2 ^ (b+c):=Nat.lt_of_lt_of_le (bc b) (Nat.pow_le_pow_right (by omega) (by omega))
 have hc:c<2 ^ (b+c):=Nat.lt_of_lt_of_le (bc c) (Nat.pow_le_pow_right (by omega) (by omega))
 rw[← jg a _ _ (Nat.xor_lt_two_pow hb hc),lT,jg a _ _ hb,jg a _ _ hc]
theorem xo (a k:Nat):(2*a) <<< k=2 * (a <<< k):=by
 rw[Nat.shiftLeft_eq,Nat.shiftLeft_eq,Nat.mul_assoc]
theorem uK (a k:Nat):a <<< (k+1)=2 * (a <<< k):=by
 rw[Nat.shiftLeft_eq,Nat.shiftLeft_eq,Nat.pow_succ,← Nat.mul_assoc,Nat.mul_comm]
theorem m8 (a b k:Nat):cl (2*a) b k=2*cl a b k:=by
 induction k with
 | zero=>rfl
 | succ k ih=>
  show cl (2*a) b k ^^^ _=2 * (cl a b k ^^^ _)
  rw[ih,fV]
  cases b.testBit k <;> simp[xo]
theorem pv (a b:Nat):C (2*a) b=2*C a b:=m8 a b b
theorem lS (a b k:Nat):cl a (2*b) (k+1)=2*cl a b k:=by
 induction k with
 | zero=>
  show cl a (2*b) 0 ^^^ _=0
  have:(2*b).testBit 0=false:=by simp
  rw[this];simp[cl]
 | succ k ih=>
  show cl a (2*b) (k+1) ^^^ (if (2*b).testBit (k+1) then a <<< (k+1) else 0)=2 * (cl a b k ^^^ _)
  have e:(2*b).testBit (k+1)=b.testBit k:=by
   rw[Nat.testBit_succ];congr 1;omega
  rw[ih,fV,e]
  cases b.testBit k <;> simp[uK]
theorem dI (a b:Nat):C a (2*b)=2*C a b:=by
 have h:2*b<2 ^ (b+1):=by have:=bc b;rw[Nat.pow_succ];omega
 rw[← jg a _ _ h,lS];rfl
theorem eh (a:Nat):C a 1=a:=by
 show cl a 1 0 ^^^ _=a
 have:(1:Nat).testBit 0=true:=rfl
 rw[this];simp[cl]
theorem zG (a b:Nat) (h:b<2):C a b=if b=1 then a else 0:=by
 have:b=0∨b=1:=by omega
 rcases this with rfl | rfl
 ·rfl
 ·rw[eh];rfl
theorem mV (a b x:Nat) (hx:x<2):C a (2*b+x)=2*C a b ^^^ (if x=1 then a else 0):=by
 rw[gh b x hx,iT,dI,zG a x hx]
theorem js (k:Nat):∀ b,b<2 ^ k→C 1 b=b:=by
 induction k with
 | zero=>
      intro b hb;have:b=0:=by omega
      subst this;rfl
 | succ k ih=>
  intro b hb
  have e:2 * (b / 2)+b % 2=b:=by omega
  rw[← e,mV 1 _ _ (by omega),ih (b / 2) (by rw[Nat.pow_succ]at hb;omega),gh _ _ (by omega)]
  congr 1
  split <;> omega
theorem pu (b:Nat):C 1 b=b:=js b b (bc b)
theorem pp (a b:Nat) (h:a<2):C a b=if a=1 then b else 0:=by
 have:a=0∨a=1:=by omega
 rcases this with rfl | rfl
 ·rw[fE];rfl
 ·rw[pu];rfl
theorem pt (k:Nat):∀ a b,b<2 ^ k→C a b=C b a:=by
 induction k with
 | zero=>
      intro a b hb;have:b=0:=by omega
      subst this;rw[yl,fE]
 | succ k ih=>
  intro a b hb
  have e:2 * (b / 2)+b % 2=b:=by omega
  rw[← e,mV a _ _ (by omega),gh _ _ (by omega),gH,pv,pp (b % 2) a (by omega),ih a (b / 2) (by rw[Nat.pow_succ]at hb;omega)]
theorem yk (a b:Nat):C a b=C b a:=pt b a b (bc b)
theorem mT (k:Nat):∀ a b c,c<2 ^ k→C (C a b) c=C a (C b c):=by
 induction k with
 | zero=>
      intro a b c hc;have:c=0:=by omega
      subst this;rfl
 | succ k ih=>
  intro a b c hc
  have e:2 * (c / 2)+c % 2=c:=by omega
  rw[← e,mV _ _ _ (by omega),mV _ _ _ (by omega),iT,dI,ih a b (c / 2) (by rw[Nat.pow_succ]at hc;omega)]
  congr 1
  split <;> rfl
theorem lN (a b c:Nat):C (C a b) c=C a (C b c):=mT c a b c (bc c)
theorem fD (a k:Nat):C a (2 ^ k)=a*2 ^ k:=by
 induction k with
 | zero=>simp[eh]
 | succ k ih=>rw[Nat.pow_succ,Nat.mul_comm (2 ^ k) 2,dI,ih];rw[Nat.mul_left_comm]
theorem ry (a b:Nat):C (2 ^ a) (2 ^ b)=2 ^ (a+b):=by rw[fD,Nat.pow_add]
theorem qF (m d a b x:Nat) (hx:x<2):R m d (C a (2*b+x))=kH m d (2*R m d (C a b)) ^^^ (if x=1 then R m d a else 0):=by
 rw[mV a b x hx,mX,tl]
 congr 1
 split
 ·rfl
 ·rfl
theorem lO {m d:Nat} (hm:Deg m d) (k:Nat):∀ a b,b<2 ^ k→R m d (C (R m d a) b)=R m d (C a b):=by
 induction k with
 | zero=>
      intro a b hb;have:b=0:=by omega
      subst this;rfl
 | succ k ih=>
  intro a b hb
  have e:2 * (b / 2)+b % 2=b:=by omega
  rw[← e,qF m d _ _ _ (by omega),qF m d _ _ _ (by omega),ih a (b / 2) (by rw[Nat.pow_succ]at hb;omega),R_R hm]
theorem tj {m d:Nat} (hm:Deg m d) (a b:Nat):R m d (C (R m d a) b)=R m d (C a b):=lO hm b a b (bc b)
def bl (n:Nat):Nat:=if n=0 then 0 else n.log2+1
theorem bl_zero:bl 0=0:=rfl
theorem bl_pos {n:Nat} (h:n≠0):bl n=n.log2+1:=by simp[bl,h]
theorem bl_le {n k:Nat} (h:n<2 ^ k):bl n≤k:=by
 unfold bl
 split
 ·omega
 ·rename_i h0;have:=(Nat.log2_lt h0).2 h;omega
def V (f:Nat→Bool):Nat→Nat
 | 0=>0
 | i+1=>2*V f i + (f i).toNat
theorem je (f g:Nat→Bool) (n:Nat) (h:∀ i,i<n→f i=g i):V f n=V g n:=by
 induction n with
 | zero=>rfl
 | succ n ih=>
  show 2*V f n + (f n).toNat=2*V g n + (g n).toNat
  rw[ih (fun i hi=>h i (by omega)),h n (by omega)]
def fb (bs:Nat→Nat) (n:Nat):Bool:=(bs (n / 8)).testBit (7-n % 8)
theorem fb_at (bs:Nat→Nat) (i j:Nat) (hj:j<8):fb bs (8*i+j)=(bs i).testBit (7-j):=by
 unfold fb
 rw[show (8*i+j) / 8=i by omega,show (8*i+j) % 8=j by omega]
theorem tm (f:Nat→Bool) (n k:Nat):V f (n+k)=C (V f n) (2 ^ k) ^^^ V (fun i=>f (n+i)) k:=by
 induction k with
 | zero=>rw[Nat.pow_zero,eh];exact (Nat.xor_zero _).symm
 | succ k ih=>
  show 2*V f (n+k) + (f (n+k)).toNat=C (V f n) (2 ^ (k+1)) ^^^ (2*V (fun i=>f (n+i)) k + (f (n+k)).toNat)
  have hb:(f (n+k)).toNat<2:=by have:=Bool.toNat_le (f (n+k));omega
  rw[ih,Nat.pow_succ,Nat.mul_comm (2 ^ k) 2,dI]
  have h:=lZ (C (V f n) (2 ^ k)) (V (fun i=>f (n+i)) k) 0 ((f (n+k)).toNat) (by omega) hb
  simp only[Nat.add_zero,Nat.zero_xor]at h
  rw[h]
end Go.Proofs.YtenilkloffnjlaaGreat.PM
namespace Go.Proofs.YtenilkloffnjlaaGreat
open Tryz
open Go.RowKit
theorem xp (p i:Nat):p >>> i % 2=(p.testBit i).toNat:=by
 rw[Nat.toNat_testBit,Nat.shiftRight_eq_div_pow]
theorem dG {k:IntKind} {a b:Int} (h:a=b):Ending.returned (.int k a)=.returned (.int k b):=by rw[h]
theorem xy:∀ n:Fin 256,Lib.len8 (n.val:Int)=(PM.bl n.val:Int):=by decide +kernel
theorem qp (n:Nat) (h:n<256):Lib.len8 (n:Int)=(PM.bl n:Int):=xy ⟨n,h⟩
theorem tq (k x:Nat) (h:2 ^ k≤x):PM.bl x=k+PM.bl (x / 2 ^ k):=by
 have hp:0<2 ^ k:=Nat.two_pow_pos k
 have h1:x / 2 ^ k≠0:=by
  intro e
  have:=(Nat.div_eq_zero_iff).1 e
  omega
 have hx:x≠0:=by omega
 have a:=Nat.log2_self_le h1
 have b:=@Nat.lt_log2_self (x / 2 ^ k)
 have e:x.log2=(x / 2 ^ k).log2+k:=(Nat.log2_eq_iff hx).2
  ⟨by rw[Nat.pow_add];exact (Nat.le_div_iff_mul_le hp).1 a,by rw[show (x / 2 ^ k).log2+k+1=((x / 2 ^ k).log2+1)+k by omega,Nat.pow_add];exact (Nat.div_lt_iff_lt_mul hp).1 b⟩
 rw[PM.bl_pos hx,PM.bl_pos h1,e];omega
theorem iR (k x:Nat) (h:2 ^ k≤x) (h2:x / 2 ^ k<256) (u:Int) (hu:u=(x / 2 ^ k:Nat)):(k:Int)+Lib.len8 u=(PM.bl x:Nat):=by
 rw[hu,qp _ h2,tq k x h];omega
theorem uU (u:Int) (h0:0≤u) (h1:u≤255):0≤Lib.len8 u∧Lib.len8 u≤8:=by
 obtain⟨n,rfl⟩:=Int.eq_ofNat_of_zero_le h0
 rw[qp n (by omega)]
 have:=PM.bl_le (n:=n) (k:=8) (by omega)
 omega
theorem jq (u:Int) (h0:0≤u) (h1:u≤255):∃ z:Int,Lib.len8 u=z∧0≤z∧z≤8 ∧
  ∀ t w,prog.underlying t=some .string→(Instr.index t (.string Lib.len8tab) (.int .u8 u)).run prog w=.ok (.int .u8 z) w:=
 ⟨_,rfl,(uU u h0 h1).1,(uU u h0 h1).2,fun t w h=>Lib.run_index_len8tab w t .u8 u h h0 h1⟩
end Go.Proofs.YtenilkloffnjlaaGreat
namespace Go.Proofs.YtenilkloffnjlaaGreat.PM
def lV (p:Nat→Bool):Nat→Nat
 | 0=>0
 | n+1=>lV p n + (p n).toNat
theorem tz (p:Nat→Bool) (n:Nat):lV p (n+1)=lV p n + (p n).toNat:=rfl
theorem tw (p:Nat→Bool) (n:Nat):lV p n≤n:=by
 induction n with
 | zero=>exact Nat.le_refl _
 | succ n ih=>rw[tz];have:=Bool.toNat_le (p n);omega
theorem byte_ext {f g:Nat→Nat} {n:Nat} (hf:∀ i,i<n→f i<256) (hg:∀ i,i<n→g i<256) (h:∀ k,k<8*n→fb f k=fb g k):∀ i,i<n→f i=g i:=by
 intro i hi
 apply Nat.eq_of_testBit_eq
 intro k
 by_cases hk:k<8
 ·have:=h (8*i + (7-k)) (by omega)
  rw[fb_at f i _ (by omega),fb_at g i _ (by omega),show 7 - (7-k)=k by omega]at this
  exact this
 ·have hp:2 ^ 8≤2 ^ k:=Nat.pow_le_pow_right (by omega) (by omega)
  rw[Nat.testBit_lt_two_pow (Nat.lt_of_lt_of_le (hf i hi) hp),Nat.testBit_lt_two_pow (Nat.lt_of_lt_of_le (hg i hi) hp)]
def ly (a s x i k:Nat):Bool:=decide (a≤k∧k<a+i) && x.testBit (s-1 - (k-a))
theorem ly_zero (a s x k:Nat):ly a s x 0 k=false:=by
 unfold ly;rw[decide_eq_false (by omega)];rfl
theorem ly_succ (a s x i k:Nat):ly a s x (i+1) k=(ly a s x i k || (decide (k=a+i) && x.testBit (s-1-i))):=by
 unfold ly
 by_cases e:k=a+i
 ·subst e
  rw[decide_eq_true (show a≤a+i∧a+i<a + (i+1) by omega),decide_eq_false (show ¬ (a≤a+i∧a+i<a+i) by omega),show a+i-a=i by omega]
  simp
 ·rw[decide_eq_false e,Bool.false_and,Bool.or_false]
  congr 1
  rw[decide_eq_decide];omega
def ol (f:Nat→Nat) (k:Nat) (b:Bool) (q:Nat):Nat:=if q=k / 8 then f (k / 8) ||| b.toNat*2 ^ (7-k % 8) else f q
theorem ol_lt {f:Nat→Nat} {n:Nat} (hf:∀ i,i<n→f i<256) (k:Nat) (b:Bool) (hk:k / 8<n):∀ i,i<n→ol f k b i<256:=by
 intro i hi
 unfold ol
 by_cases h:i=k / 8
 ·rw[if_pos h]
  refine Nat.or_lt_two_pow (n:=8) (hf _ hk) ?_
  have:2 ^ (7-k % 8)<2 ^ 8:=Nat.pow_lt_pow_right (by omega) (by omega)
  cases b
  ·simp
  ·simpa using this
 ·rw[if_neg h];exact hf i hi
theorem ol_fb (f:Nat→Nat) (k:Nat) (b:Bool) (n:Nat):fb (ol f k b) n=(fb f n || (decide (n=k) && b)):=by
 unfold fb ol
 by_cases h:n / 8=k / 8
 ·rw[if_pos h,Nat.testBit_or,h]
  congr 1
  cases b
  ·simp
  ·rw[Bool.toNat_true,Nat.one_mul,Nat.testBit_two_pow,Bool.and_true,decide_eq_decide]
   omega
 ·rw[if_neg h,decide_eq_false (fun e=>h (by rw[e])),Bool.false_and,Bool.or_false]
theorem xor_lt8 {a b:Nat} (ha:a<256) (hb:b<256):a ^^^ b<256:=Nat.xor_lt_two_pow (n:=8) ha hb
end Go.Proofs.YtenilkloffnjlaaGreat.PM
namespace Go.Proofs.YtenilkloffnjlaaGreat
open Tryz
open Go.RowKit
theorem gq (T:ByteArray) (a b c d:List UInt8) (h:(⟨((a.append b).append (c.append d)).toArray⟩:ByteArray)=T):Value.string ⟨((a.append b).append (c.append d)).toArray⟩=.string T:=by rw[h]
theorem wI (x:Int) (w:World) (h0:0≤x) (h1:x<256) :
  Calls prog 149 #[.int .u32 x] w fun e w'=>e=.returned (.int .i64 (0+Lib.len8 x))∧w'=w:=by
 obtain⟨z,hz,l0,l1,hr⟩:=jq (x) (by omega) (by omega)
 rw[hz]
 clear hz
 go_enter func149,ntmps149
 rw[gq Lib.len8tab]
 case h=>kernel_rfl
 generalize Lib.len8tab=T at hr ⊢
 go_wp2
 go_ret
 exact⟨dG (by omega),rfl⟩
theorem tY (x:Int) (w:World) (h0:256≤x) (h1:x<65536) :
  Calls prog 149 #[.int .u32 x] w fun e w'=>e=.returned (.int .i64 (8+Lib.len8 (x / 256)))∧w'=w:=by
 obtain⟨z,hz,l0,l1,hr⟩:=jq (x / 256) (by omega) (by omega)
 rw[hz]
 clear hz
 go_enter func149,ntmps149
 rw[gq Lib.len8tab]
 case h=>kernel_rfl
 generalize Lib.len8tab=T at hr ⊢
 go_wp2
 go_ret
 exact⟨dG (by omega),rfl⟩
theorem tZ (x:Int) (w:World) (h0:65536≤x) (h1:x<16777216) :
  Calls prog 149 #[.int .u32 x] w fun e w'=>e=.returned (.int .i64 (16+Lib.len8 (x / 65536)))∧w'=w:=by
 obtain⟨z,hz,l0,l1,hr⟩:=jq (x / 65536) (by omega) (by omega)
 rw[hz]
 clear hz
 go_enter func149,ntmps149
 rw[gq Lib.len8tab]
 case h=>kernel_rfl
 generalize Lib.len8tab=T at hr ⊢
 go_wp2
 go_ret
 exact⟨dG (by omega),rfl⟩
theorem t6 (x:Int) (w:World) (h0:16777216≤x) (h1:x<4294967296) :
  Calls prog 149 #[.int .u32 x] w fun e w'=>e=.returned (.int .i64 (24+Lib.len8 (x / 65536 / 256)))∧w'=w:=by
 obtain⟨z,hz,l0,l1,hr⟩:=jq (x / 65536 / 256) (by omega) (by omega)
 rw[hz]
 clear hz
 go_enter func149,ntmps149
 rw[gq Lib.len8tab]
 case h=>kernel_rfl
 generalize Lib.len8tab=T at hr ⊢
 go_wp2
 go_ret
 exact⟨dG (by omega),rfl⟩
theorem lh (x:Nat) (w:World) (hx:x<4294967296) :
  Calls prog 149 #[.int .u32 x] w fun e w'=>e=.returned (.int .i64 (PM.bl x:Nat))∧w'=w:=by
 by_cases c0:x<256
 ·refine (wI x w (by omega) (by omega)).mono fun e w' h=>?_
  exact⟨h.1.trans (dG ((Int.zero_add _).trans (qp x (by omega)))),h.2⟩
 by_cases c1:x<65536
 ·refine (tY x w (by omega) (by omega)).mono fun e w' h=>?_
  exact⟨h.1.trans (dG (iR 8 x (by omega) (by omega) _ (by omega))),h.2⟩
 by_cases c2:x<16777216
 ·refine (tZ x w (by omega) (by omega)).mono fun e w' h=>?_
  exact⟨h.1.trans (dG (iR 16 x (by omega) (by omega) _ (by omega))),h.2⟩
 refine (t6 x w (by omega) (by omega)).mono fun e w' h=>?_
 exact⟨h.1.trans (dG (iR 24 x (by omega) (by omega) _ (by omega))),h.2⟩
end Go.Proofs.YtenilkloffnjlaaGreat
namespace Go.Proofs.YtenilkloffnjlaaGreat.PM
abbrev g:Nat:=4812730177
theorem yB:Deg g 32:=⟨by decide,by decide⟩
theorem yt (bs:Nat→Nat) (i:Nat) (h:bs i<256):V (fun j=>fb bs (8*i+j)) 8=bs i:=by
 have e:∀ j,j<8→fb bs (8*i+j)=(bs i).testBit (7-j):=fun j hj=>fb_at bs i j hj
 have hx:∀ z:Fin 256,V (fun j=>z.val.testBit (7-j)) 8=z.val:=by decide +kernel
 rw[je _ (fun j=>(bs i).testBit (7-j)) 8 e]
 exact hx ⟨bs i,h⟩
theorem gW (bs:Nat→Nat) (i:Nat) (h:bs i<256):V (fb bs) (8 * (i+1))=C (V (fb bs) (8*i)) (2 ^ 8) ^^^ bs i:=by
 rw[show 8 * (i+1)=8*i+8 by omega,tm,yt bs i h]
def ct (f h:Nat→Nat) (n i:Nat):Nat:=if i<n then f i else h (i-n)
theorem aaO (f h:Nat→Nat) (n k:Nat):V (fb (ct f h n)) (8 * (n+k))=C (V (fb f) (8*n)) (2 ^ (8*k)) ^^^ V (fb h) (8*k):=by
 rw[Nat.mul_add,tm]
 congr 1
 ·congr 1
  apply je
  intro i hi
  unfold fb ct
  rw[if_pos (by omega)]
 ·apply je
  intro i hi
  unfold fb ct
  rw[if_neg (by omega),show (8*n+i) / 8-n=i / 8 by omega,show (8*n+i) % 8=i % 8 by omega]
def E (v:Nat):Nat:=R g 32 (C v (2 ^ 32))
def K (bs:Nat→Nat) (n:Nat):Nat:=E (V (fb bs) (8*n))
theorem aaN (v:Nat):E v<4294967296:=zK yB _
theorem K_lt (bs:Nat→Nat) (n:Nat):K bs n<4294967296:=aaN _
theorem zH (a b:Nat):E (a ^^^ b)=E a ^^^ E b:=by unfold E;rw[gH,mX]
theorem ym:E 0=0:=by unfold E;rw[fE,yr]
theorem K_zero (bs:Nat→Nat):K bs 0=0:=ym
def tx (s:Nat):Nat:=kH g 32 (2*s)
theorem aa5 (n:Nat):tx (R g 32 n)=R g 32 (2*n):=(tl g 32 n).symm
theorem aav {s:Nat} (h:s<4294967296):tx s<4294967296:=uS (t:=2*s) yB (show 2*s<2 ^ 33 by omega)
theorem vQ (t:Nat) (h:t<2 ^ 32):t+2 ^ 32=t ^^^ 2 ^ 32:=by
 apply Nat.eq_of_testBit_eq
 intro i
 rw[Nat.testBit_xor,show t+2 ^ 32=2 ^ 32*1+t by omega,Nat.testBit_two_pow_mul_add _ h,Nat.testBit_two_pow]
 by_cases hi:i<32
 ·simp[hi,show ¬ 32=i by omega]
 ·rw[if_neg hi,Nat.testBit_lt_two_pow (Nat.lt_of_lt_of_le h (Nat.pow_le_pow_right (show 2 > 0 by omega) (show 32≤i by omega)))]
  by_cases e:i=32
  ·subst e;simp
  ·rw[Nat.testBit_lt_two_pow (show 1<2 ^ (i-32) from Nat.lt_of_lt_of_le (show 1<2 ^ 1 by omega) (Nat.pow_le_pow_right (by omega) (by omega)))]
   simp[show ¬ 32=i by omega]
theorem tx_hi {s:Nat} (h:s<4294967296) (hb:2147483648≤s):tx s=(2*s-4294967296) ^^^ 517762881:=by
 obtain⟨t,ht⟩:∃ t,2*s=t+2 ^ 32:=⟨2*s-2 ^ 32,by omega⟩
 have ht2:t<2 ^ 32:=by omega
 have hbit:(2*s).testBit 32=true:=by
  rw[Nat.testBit_eq_decide_div_mod_eq]
  simp;omega
 unfold tx kH
 rw[if_pos hbit,ht,show t+2 ^ 32-4294967296=t by omega,vQ t ht2,Nat.xor_assoc]
 congr 1
theorem tx_lo {s:Nat} (hb:s<2147483648):tx s=2*s:=lF (show 2*s<2 ^ 32 by omega)
def txs:Nat→Nat→Nat
 | 0,s=>s
 | k+1,s=>tx (txs k s)
theorem txs_lt {s:Nat} (h:s<4294967296) (k:Nat):txs k s<4294967296:=by
 induction k with
 | zero=>exact h
 | succ k ih=>exact aav ih
theorem aaw {s:Nat} (h:s<4294967296) (k:Nat):txs k s=R g 32 (C s (2 ^ k)):=by
 induction k with
 | zero=>rw[Nat.pow_zero,eh,jd g 32 s h];rfl
 | succ k ih=>
         show tx (txs k s)=_
         rw[ih,aa5,Nat.pow_succ,Nat.mul_comm (2 ^ k) 2,dI]
theorem yp (v x:Nat):R g 32 (C (E v ^^^ C x (2 ^ 24)) (2 ^ 8))=E (C v (2 ^ 8) ^^^ x):=by
 rw[gH,mX,lN,ry,zH]
 unfold E
 rw[tj yB,lN,lN,yk (2 ^ 32)]
theorem K_succ (bs:Nat→Nat) (i:Nat) (h:bs i<256):K bs (i+1)=txs 8 (K bs i ^^^ bs i*16777216):=by
 have e:bs i*16777216=C (bs i) (2 ^ 24):=(fD (bs i) 24).symm
 have hl:K bs i ^^^ bs i*16777216<4294967296:=Nat.xor_lt_two_pow (n:=32) (K_lt bs i) (by omega)
 rw[aaw hl,e]
 unfold K
 rw[yp,gW bs i h]
def w4 (s i:Nat):Nat:=if i=0 then s / 16777216 % 256 else if i=1 then s / 65536 % 256 else if i=2 then s / 256 % 256 else s % 256
theorem w4_lt (s i:Nat):w4 s i<256:=by
 unfold w4
 by_cases h0:i=0
 ·rw[if_pos h0];omega
 ·rw[if_neg h0]
  by_cases h1:i=1
  ·rw[if_pos h1];omega
  ·rw[if_neg h1]
   by_cases h2:i=2
   ·rw[if_pos h2];omega
   ·rw[if_neg h2];omega
theorem V4 (f:Nat→Nat) (hf:∀ i,i<4→f i<256):V (fb f) 32=f 0*16777216+f 1*65536+f 2*256+f 3:=by
 have s1:∀ a b,b<256→C a (2 ^ 8) ^^^ b=a*256+b:=by
  intro a b hb
  rw[fD]
  apply Nat.eq_of_testBit_eq
  intro i
  rw[show a*256+b=2 ^ 8*a+b by omega,Nat.testBit_two_pow_mul_add _ (show b<2 ^ 8 from hb),Nat.mul_comm a,Nat.testBit_xor,Nat.testBit_two_pow_mul]
  by_cases hi:i<8
  ·simp[hi,show ¬ 8≤i by omega]
  ·simp[hi,show 8≤i by omega,Nat.testBit_lt_two_pow (Nat.lt_of_lt_of_le (show b<2 ^ 8 from hb) (Nat.pow_le_pow_right (show 2 > 0 by omega) (show 8≤i by omega)))]
 have h0:=gW f 0 (hf 0 (by omega))
 have h1:=gW f 1 (hf 1 (by omega))
 have h2:=gW f 2 (hf 2 (by omega))
 have h3:=gW f 3 (hf 3 (by omega))
 rw[s1 _ _ (hf 0 (by omega))]at h0
 rw[s1 _ _ (hf 1 (by omega))]at h1
 rw[s1 _ _ (hf 2 (by omega))]at h2
 rw[s1 _ _ (hf 3 (by omega))]at h3
 have e0:V (fb f) (8*0)=0:=rfl
 rw[e0]at h0
 simp only[Nat.zero_add,Nat.reduceAdd,Nat.reduceMul,Nat.zero_mul]at h0 h1 h2 h3
 rw[h3,h2,h1,h0]
 clear h0 h1 h2 h3 e0 s1
 generalize f 0=a;generalize f 1=b;generalize f 2=c;generalize f 3=d
 omega
theorem V_w4 (s:Nat) (hs:s<4294967296):V (fb (w4 s)) 32=s:=by
 rw[V4 _ (fun i _=>w4_lt s i),show w4 s 0=s / 16777216 % 256 from rfl,show w4 s 1=s / 65536 % 256 from rfl,show w4 s 2=s / 256 % 256 from rfl,show w4 s 3=s % 256 from rfl]
 omega
def sl (bs:Nat→Nat) (n:Nat):Nat→Nat:=ct bs (w4 (K bs n)) n
theorem V_sl (bs:Nat→Nat) (n:Nat):R g 32 (V (fb (sl bs n)) (8 * (n+4)))=0:=by
 unfold sl
 rw[aaO,show 8*4=32 from rfl,V_w4 _ (K_lt bs n),mX,jd g 32 (K bs n) (K_lt bs n)]
 exact Nat.xor_self _
theorem valid_iff (bs:Nat→Nat) (n:Nat) (h:∀ i,i<n+4→bs i<256) :
  bs n*16777216+bs (n+1)*65536+bs (n+2)*256+bs (n+3)=K bs n ↔ R g 32 (V (fb bs) (8 * (n+4)))=0:=by
 have hw:=V4 (fun i=>bs (n+i)) (fun i hi=>h _ (by omega))
 have e:V (fb bs) (8 * (n+4))=C (V (fb bs) (8*n)) (2 ^ 32) ^^^ V (fb fun i=>bs (n+i)) 32:=by
  rw[show 8 * (n+4)=8*n+32 by omega,tm]
  congr 1
  apply je
  intro i _
  unfold fb
  rw[show (8*n+i) / 8=n+i / 8 by omega,show (8*n+i) % 8=i % 8 by omega]
 rw[e,mX,hw]
 simp only[Nat.add_zero]
 rw[jd g 32 (bs n*16777216+bs (n+1)*65536+bs (n+2)*256+bs (n+3)) (by have:=h n (by omega);have:=h (n+1) (by omega);have:=h (n+2) (by omega);have:=h (n+3) (by omega);omega)]
 show _=K bs n ↔ K bs n ^^^ _=0
 constructor
 ·intro h;rw[h];exact Nat.xor_self _
 ·intro h;exact (pl h).symm
end Go.Proofs.YtenilkloffnjlaaGreat.PM
namespace Go.Proofs.YtenilkloffnjlaaGreat
open Tryz
open Go.RowKit
theorem uL {s:Nat} (h:s<4294967296) (hb:2147483648≤s):((s:Int) / 2147483648 == 1)=true:=by simp;omega
theorem uM {s:Nat} (hb:s<2147483648):((s:Int) / 2147483648 == 1)=false:=by simp;omega
theorem aaI (a b:Nat) (ha:a<4294967296) (hb:b<4294967296):bits .xor .u32 (a:Int) (b:Int)=((a ^^^ b:Nat):Int):=u32_xor_nat a b ha hb
theorem jS (x y:Nat) (k:Nat) (hx:x % 2 ^ k=0) (hy:y<2 ^ k) (h1:x<4294967296) (h2:y<4294967296):bits .or .u32 (x:Int) (y:Int)=((x+y:Nat):Int):=by
 rw[u32_or_nat x y h1 h2,nat_join k x y hx hy]
theorem qr (s:Nat) (w:World) (hs:s<4294967296) :
  Calls prog 193 #[.int .u32 s] w fun e w'=>e=.returned (.int .u32 (PM.tx s:Nat))∧w'=w:=by
 by_cases hb:2147483648≤s
 ·have h1:=uL hs hb
  go_enter func193,ntmps193
  go_wp2
  go_ret
  refine⟨dG ?_,rfl⟩
  have e:(s:Int)*2 % 4294967296=((2*s-4294967296:Nat):Int):=by omega
  rw[PM.tx_hi hs hb,e]
  exact aaI _ 517762881 (by omega) (by omega)
 ·have h1:=uM (s:=s) (by omega)
  go_enter func193,ntmps193
  go_wp2
  go_ret
  exact⟨dG (by rw[PM.tx_lo (by omega)];omega),rfl⟩
theorem rF (b off len cap:Nat) (bs:Nat→Nat) (w:World) (hlen:len≤9223372036854775807)
  (hc:∀ i,i<len→bs i<256∧w.cell? ⟨b,off+i,none⟩=some (.int .u8 (bs i))) :
  Calls prog 157 #[.slice (af b off) len cap] w fun e w'=>e=.returned (.int .u32 (PM.K bs len:Nat))∧w'=w:=by
 go_enter func157,ntmps157
 go_wp2
 go_loop [3,5,8,17] (fun s _ c _=>∃ i:Nat,i≤len∧c=.int .i64 i∧s=.int .u32 (PM.K bs i:Nat)) (fun _ _ c _=>len - (intOf c).toNat)
 case atStart=>exact⟨0,by omega,rfl,by rw[PM.K_zero];rfl⟩
 case round=>
  obtain⟨i,hi,rfl,rfl⟩:=hrel
  by_cases hlt:i<len
  ·obtain⟨hb8,hcell⟩:=hc i hlt
   clear hc
   have hk:=PM.K_lt bs i
   have HK:Hid (PM.K bs (i+1)=PM.txs 8 (PM.K bs i ^^^ bs i*16777216)):=PM.K_succ bs i hb8
   have hx:PM.K bs i ^^^ bs i*16777216<4294967296:=Nat.xor_lt_two_pow (n:=32) hk (by omega)
   have hX:bits .xor .u32 (PM.K bs i:Int) ((bs i:Int)*16777216)=((PM.K bs i ^^^ bs i*16777216:Nat):Int):=by
    have:=u32_xor_nat (PM.K bs i) (bs i*16777216) hk (by omega)
    rw[← this];simp
   generalize PM.K bs i ^^^ bs i*16777216=y at *
   go_wp2
   go_loop [3,17] (fun s c=>∃ j:Nat,j≤8∧c=.int .i64 j∧s=.int .u32 (PM.txs j y:Nat)) (fun _ c=>8 - (intOf c).toNat)
   case atStart=>exact⟨0,by omega,rfl,rfl⟩
   case round=>
    obtain⟨j,hj,rfl,rfl⟩:=hrel
    by_cases hlt2:j<8
    ·have hr:=PM.txs_lt hx j
     go_wp2_with (go_at_call 193;refine (qr _ _ hr).mono ?_;rintro e w' ⟨rfl,rfl⟩)
     go_round
     case rel=>exact⟨j+1,by omega,by go_num,rfl⟩
     case measure=>simp[intOf] <;> omega
    ·go_wp2
     go_round
     case rel=>exact⟨i+1,by omega,by go_num,by rw[HK.out,show j=8 by omega]⟩
     case measure=>simp[intOf] <;> omega
  ·clear hc
   go_wp2
   go_ret
   exact⟨by rw[show i=len by omega];rfl,rfl⟩
theorem pA (a:Option Addr) (cap:Nat) (w:World) :
  Calls prog 157 #[.slice a 0 cap] w fun e w'=>e=.returned (.int .u32 0)∧w'=w:=by
 go_enter func157,ntmps157
 go_wp2
 refine wp_loop_rounds 1 ?_
 rw[rounds_succ]
 go_wp2
 go_ret
 exact⟨rfl,rfl⟩
theorem iC (a:Option Addr) (len cap:Nat) (bs:Nat→Nat) (w:World) (hr:Row8 w a len cap bs) (hlen:len≤9223372036854775807) :
  Calls prog 157 #[.slice a len cap] w fun e w'=>e=.returned (.int .u32 (PM.K bs len:Nat))∧w'=w:=by
 by_cases hz:len=0
 ·subst hz;rw[PM.K_zero];exact pA a cap w
 ·obtain⟨b,off,rfl,_,hc⟩:=hr.plain (by omega)
  exact rF b off len cap bs w hlen hc
theorem oZ (x0 x1 x2 x3:Nat) (h0:x0<256) (h1:x1<256) (h2:x2<256) (h3:x3<256) :
  bits .or .u32 (bits .or .u32 (bits .or .u32 ((x0:Int)*16777216) ((x1:Int)*65536)) ((x2:Int)*256)) (x3:Int)=((x0*16777216+x1*65536+x2*256+x3:Nat):Int):=by
 have e0:(x0:Int)*16777216=((x0*16777216:Nat):Int):=by omega
 have e1:(x1:Int)*65536=((x1*65536:Nat):Int):=by omega
 have e2:(x2:Int)*256=((x2*256:Nat):Int):=by omega
 rw[e0,e1,e2,jS _ _ 24 (by omega) (by omega) (by omega) (by omega),jS _ _ 16 (by omega) (by omega) (by omega) (by omega),jS _ _ 8 (by omega) (by omega) (by omega) (by omega)]
theorem vE (b off len cap x0 x1 x2 x3:Nat) (w:World) (hlen:(3:Int) < (len:Int)) (h0:x0<256) (h1:x1<256) (h2:x2<256) (h3:x3<256)
  (c0:w.cell? ⟨b,off,none⟩=some (.int .u8 x0)) (c1:w.cell? ⟨b,off+1,none⟩=some (.int .u8 x1)) (c2:w.cell? ⟨b,off+2,none⟩=some (.int .u8 x2)) (c3:w.cell? ⟨b,off+3,none⟩=some (.int .u8 x3)) :
  Calls prog 194 #[.slice (af b off) len cap] w fun e w'=>e=.returned (.int .u32 ((x0*16777216+x1*65536+x2*256+x3:Nat):Int))∧∃ m,w'=w.drewN m:=by
 have hn:=oZ x0 x1 x2 x3 h0 h1 h2 h3
 have l0:(0:Int) < (len:Int):=by omega
 have l1:(1:Int) < (len:Int):=by omega
 have l2:(2:Int) < (len:Int):=by omega
 generalize x0*16777216+x1*65536+x2*256+x3=y at *
 go_enter func194,ntmps194
 go_wp2_with fail
 go_quiet (fail)
 go_wp2
 go_ret
 exact⟨rfl,_,rfl⟩
theorem oU (a:Option Addr) (len cap:Nat) (w:World) (h:len<4) :
  Calls prog 158 #[.slice a len cap] w fun e w'=>e=.returned (.bool false)∧∃ m,w'=w.drewN m:=by
 have hd:decide ((0:Int) ≤ (len:Int)-4)=false:=by simp;omega
 have hd2:decide ((4:Int) ≤ (len:Int))=false:=by simp;omega
 have hd3:decide (4≤len)=false:=by simp;omega
 go_enter func158,ntmps158
 go_wp2_with fail
 go_quiet (fail)
 go_wp2
 go_ret
 exact⟨rfl,_,rfl⟩
theorem qv (b off len cap:Nat) (bs:Nat→Nat) (w:World) (h:4≤len) (hr:Row8 w (af b off) len cap bs) (hlen:len≤9223372036854775807) :
  Calls prog 158 #[.slice (af b off) len cap] w fun e w'=>e=.returned (.bool (decide (PM.R PM.g 32 (PM.V (PM.fb bs) (8*len))=0)))∧∃ m,w'=w.drewN m:=by
 obtain⟨n,rfl⟩:∃ n,len=n+4:=⟨len-4,by omega⟩
 have hcap:=hr.le
 have HV:=PM.valid_iff bs n hr.byte
 have hdec:((bs n*16777216+bs (n+1)*65536+bs (n+2)*256+bs (n+3):Nat) == PM.K bs n)=decide (PM.R PM.g 32 (PM.V (PM.fb bs) (8 * (n+4)))=0):=by
  rw[← decide_eq_decide.2 HV];rfl
 have hdec2:(((bs n*16777216+bs (n+1)*65536+bs (n+2)*256+bs (n+3):Nat):Int) == ((PM.K bs n:Nat):Int))=decide (PM.R PM.g 32 (PM.V (PM.fb bs) (8 * (n+4)))=0):=by
  rw[← hdec,Bool.eq_iff_iff];simp;omega
 have hA:=fun k=>(hr.drewN k).upto n (by omega)
 have hW:∀ k c,Calls prog 194 #[.slice (af b (off+n)) 4 c] (w.drewN k) fun e w'=>e=.returned (.int .u32 ((bs n*16777216+bs (n+1)*65536+bs (n+2)*256+bs (n+3):Nat):Int))∧∃ m,w'=(w.drewN k).drewN m:=by
  intro k c
  have R:=(hr.drewN k).from_ n (by omega)
  have s:=R.src _ rfl
  have q:=R.byte
  have t0:=s 0 (by omega);have t1:=s 1 (by omega);have t2:=s 2 (by omega);have t3:=s 3 (by omega)
  rw[Go.WideShapes.add_plain]at t0 t1 t2 t3
  exact vE b (off+n) 4 c _ _ _ _ _ (by omega) (q 0 (by omega)) (q 1 (by omega)) (q 2 (by omega)) (q 3 (by omega)) t0 t1 t2 t3
 have hB:=fun k=>iC _ _ _ _ _ (hA k) (by omega)
 clear hr HV hA
 generalize decide (PM.R PM.g 32 (PM.V (PM.fb bs) (8 * (n+4)))=0)=D at *
 generalize PM.K bs n=Z at *
 generalize bs n*16777216+bs (n+1)*65536+bs (n+2)*256+bs (n+3)=Y at *
 clear hdec
 have hd:decide ((0:Int) ≤ ((n+4:Nat):Int)-4)=true:=by simp
 go_enter func158,ntmps158
 go_wp2_with fail
 go_quiet (first | (go_at_call 194;refine Calls.quiet_of (hW _ _)) | (go_at_call 157;refine Calls.quiet_of_same (hB _)))
 go_wp2
 go_ret
 exact⟨rfl,_,rfl⟩
theorem lG (a:Option Addr) (len cap:Nat) (bs:Nat→Nat) (w:World) (hr:Row8 w a len cap bs) (hlen:len≤9223372036854775807) :
  Calls prog 158 #[.slice a len cap] w fun e w'=>e=.returned (.bool (decide (4≤len∧PM.R PM.g 32 (PM.V (PM.fb bs) (8*len))=0)))∧∃ m,w'=w.drewN m:=by
 by_cases h:4≤len
 ·obtain⟨b,off,rfl,_,_⟩:=hr.plain (by omega)
  have:=qv b off len cap bs w h hr hlen
  simpa [h] using this
 ·have:=oU a len cap w (by omega)
  simpa [h] using this
theorem aa4 (w:World) (x:Nat) (hx:x<4294967296) :
  Row8 (w.alloc (.cells #[.int .u8 ((x:Int) / 16777216),.int .u8 ((x:Int) / 65536 % 256),.int .u8 ((x:Int) / 256 % 256),.int .u8 ((x:Int) % 256)] 5)) (af w.heap.size 0) 4 4 (PM.w4 x):=by
 refine oF w _ _ (PM.w4 x) 4 (fun i _=>PM.w4_lt x i) (fun i hi=>?_)
 have e0:(x:Int) / 16777216=((PM.w4 x 0:Nat):Int):=by show _=((x / 16777216 % 256:Nat):Int);omega
 have e1:(x:Int) / 65536 % 256=((PM.w4 x 1:Nat):Int):=by show _=((x / 65536 % 256:Nat):Int);omega
 have e2:(x:Int) / 256 % 256=((PM.w4 x 2:Nat):Int):=by show _=((x / 256 % 256:Nat):Int);omega
 have e3:(x:Int) % 256=((PM.w4 x 3:Nat):Int):=by show _=((x % 256:Nat):Int);omega
 rw[e0,e1,e2,e3]
 rcases (show i=0∨i=1∨i=2∨i=3 by omega) with rfl | rfl | rfl | rfl <;> rfl
theorem uJ (a:Option Addr) (len cap:Nat) (bs:Nat→Nat) (w:World) (hr:Row8 w a len cap bs) (hlen:len≤1000000) :
  Calls prog 133 #[.slice a len cap] w fun e w'=>∃ v,e=.returned v∧w'.ownsRow w.heap.size 5 1 v (len+4) (CB (PM.sl bs len) (len+4))∧Below w.heap.size w w':=by
 obtain⟨i0,hi,hz0,hz1,hz2⟩:=info_parts bV
 have hk:=PM.K_lt bs len
 go_enter func133,ntmps133
 go_wp2_with (at_make;refine bj _ rfl (.tmp 6) (.tmp 9) 37 rfl w.heap.size 5 i0 underlying37 hi hz0 hz1 hz2 _ _ _ _ len (len+4) rfl rfl rfl ?b1 (by omega) (by omega) ?b2 ?_)
 case b1=>omega
 case b2=>exact Nat.le_refl _
 intro w1 hown1 hbel1
 have R1:=hr.below hbel1
 go_wp2_with (refine mO rfl (.tmp 11) (.tmp 12) 37 37 rfl 5 underlying37 mI w.heap.size w.heap.size len (len+4) _ rfl hown1 a len cap bs rfl R1 w hbel1 ?_)
 intro w2 hown2 hbel2
 rw[dH _ bs len (fun i hi=>if_pos hi)]at hown2
 have R2:=hr.below hbel2
 have hB:=iC a len cap bs w2 R2 (by omega)
 have hsz2:=hbel2.size
 have hown3:=hown2.alloc (.cells #[.int .u8 ((PM.K bs len:Int) / 16777216),.int .u8 ((PM.K bs len:Int) / 65536 % 256),.int .u8 ((PM.K bs len:Int) / 256 % 256),.int .u8 ((PM.K bs len:Int) % 256)] 5)
 have hbel3:=hbel2.alloc hsz2 (.cells #[.int .u8 ((PM.K bs len:Int) / 16777216),.int .u8 ((PM.K bs len:Int) / 65536 % 256),.int .u8 ((PM.K bs len:Int) / 256 % 256),.int .u8 ((PM.K bs len:Int) % 256)] 5)
 have R4:=aa4 w2 (PM.K bs len) hk
 have hsz3:=hbel3.size
 have HS:Hid (CB bs len ++ CB (PM.w4 (PM.K bs len)) 4=CB (PM.sl bs len) (len+4)):=rx _ _ _ _
 clear hown1 hown2 hbel1 hbel2 R1 R2
 generalize PM.K bs len=k at *
 go_wp2_with (first | (go_at_call 157;refine hB.mono ?_;rintro e w' ⟨rfl,rfl⟩) | (at_builtin;refine a9 rfl (.tmp 16) (.tmp 28) 37 rfl w.heap.size 5 i0 (.int .u8 0) underlying37 hi hz0 hz1 hz2 rfl _ len _ rfl hown3 (af w'.heap.size 0) 4 4 (PM.w4 k) rfl R4 (by unfold maxLen;omega) (by omega) hsz3 ?_))
 intro v w4 hown4 hgrow4
 have hbel4:Below w.heap.size w w4:=hbel3.grown hgrow4 hsz3 (fun j hj=>(hown3.lt j hj).1)
 rw[HS.out]at hown4
 clear hown3 hgrow4 hbel3 R4
 go_wp2
 go_ret
 exact⟨_,rfl,hown4,hbel4⟩
theorem rE (a b:ByteArray):decide (a=b)=(a.toList == b.toList):=by
 rw[Bool.eq_iff_iff]
 simp only[decide_eq_true_eq,beq_iff_eq,ByteArray.toList_eq]
 constructor
 ·intro h;rw[h]
 ·intro h
  cases a;cases b
  simp at h
  rw[h]
def BA (bs:Nat→Nat) (n:Nat):ByteArray:=((List.range n).map fun i=>(bs i:Int)).foldl (fun r m=>r.push (UInt8.ofNat m.toNat)) ByteArray.empty
theorem tA (b off n cap:Nat) (bs:Nat→Nat) (w:World) (hr:Row8 w (af b off) n cap bs) :
  (convert 37 9 (.slice (af b off) n cap)).run prog w=.ok (.string (BA bs n)) w:=by
 rw[run_convert_bytes_string w 37 9 5 _ n cap underlying37 underlying5 underlying9]
 refine run_bytesToString w ⟨b,off,none⟩ n cap ((List.range n).map fun i=>(bs i:Int)) ?_
 have h:=run_loadCells_list (P:=prog) w ⟨b,off,none⟩ (((List.range n).map fun i=>(bs i:Int)).map (Value.int .u8)) (fun j v hv=>by
  simp only[List.getElem?_map]at hv
  by_cases hj:j<n
  ·rw[List.getElem?_range hj]at hv
   simp at hv
   rw[← hv]
   exact hr.src _ rfl j hj
  ·rw[List.getElem?_eq_none (by simp;omega)]at hv
   simp at hv)
 simpa using h
theorem gZ (a:Option Addr) (n cap:Nat) (bs:Nat→Nat) (w:World) (hr:Row8 w a n cap bs) :
  (convert 37 9 (.slice a n cap)).run prog w=.ok (.string (BA bs n)) w:=by
 cases a with
 | none=>
  obtain⟨rfl,rfl⟩:=hr.nil rfl
  rw[run_convert_bytes_string w 37 9 5 _ 0 0 underlying37 underlying5 underlying9]
  rfl
 | some x=>
  obtain⟨b,off,spot⟩:=x
  by_cases h0:n=0
  ·subst h0
   rw[run_convert_bytes_string w 37 9 5 _ 0 cap underlying37 underlying5 underlying9]
   rfl
  ·obtain⟨b',off',he,_,_⟩:=hr.plain (by omega)
   cases he
   exact tA b off n cap bs w hr
theorem dP {P:Program} {ops:Array Oper} {Q:Exit→Act→World→Prop} {K:Act→World→Prop} {a:Act} {w:World} {i:Nat} {o:Oper} (v:Value) (w':World) (ho:ops[i]?=some o)
  (hw:Region.wanted o (yielded ops a.tmps)=true) (hrun:(execOp a.eval o).run P w=.ok (.value v) w') (h:K (a.put o.dst v) w'):wpOp P ops Q i K a w:=by
 unfold wpOp
 simp only[ho,hw,if_true]
 refine .inl ?_
 unfold Oper.wp
 rw[hrun]
 exact h
theorem mZ {P:Program} {ops:Array Oper} {Q:Exit→Act→World→Prop} {K:Act→World→Prop} {a:Act} {w:World} {i:Nat} {o:Oper} (f:FuncId) (args:Array Value) (ho:ops[i]?=some o)
  (hw:Region.wanted o (yielded ops a.tmps)=true) (hrun:(execOp a.eval o).run P w=.ok (.enter f args) w) (hc:Calls P f args w fun e w''=>∃ v,e=.returned v∧K (a.put o.dst v) w''):wpOp P ops Q i K a w:=by
 unfold wpOp
 simp only[ho,hw,if_true]
 refine .inl ?_
 unfold Oper.wp
 rw[hrun]
 refine hc.mono ?_
 rintro e w'' ⟨v,rfl,h⟩
 exact h
theorem by0 (a b c d:Nat) (hb:b<256) (hc:c<256) (hd:d<256):(a*16777216+b*65536+c*256+d) / 16777216=a:=by omega
theorem by1 (a b c d:Nat) (hc:c<256) (hd:d<256):(a*16777216+b*65536+c*256+d) / 65536=a*256+b:=by omega
theorem by2 (a b c d:Nat) (hd:d<256):(a*16777216+b*65536+c*256+d) / 256=a*65536+b*256+c:=by omega
theorem zt (bs:Nat→Nat) (n k:Nat) (hk:k<4294967296) (h0:bs n<256) (h1:bs (n+1)<256) (h2:bs (n+2)<256) (h3:bs (n+3)<256) :
  (∀ i,i<4→bs (n+i)=PM.w4 k i) ↔ bs n*16777216+bs (n+1)*65536+bs (n+2)*256+bs (n+3)=k:=by
 have hv:=PM.V_w4 k hk
 rw[PM.V4 _ (fun i _=>PM.w4_lt k i)]at hv
 constructor
 ·intro h
  have e0:=h 0 (by omega)
  rw[Nat.add_zero]at e0
  rw[e0,h 1 (by omega),h 2 (by omega),h 3 (by omega)]
  exact hv
 ·intro h
  have c0:PM.w4 k 0=bs n:=by
   unfold PM.w4
   rw[if_pos rfl,← h,by0 _ _ _ _ h1 h2 h3,Nat.mod_eq_of_lt h0]
  have c1:PM.w4 k 1=bs (n+1):=by
   unfold PM.w4
   rw[if_neg (by omega),if_pos rfl,← h,by1 _ _ _ _ h2 h3]
   omega
  have c2:PM.w4 k 2=bs (n+2):=by
   unfold PM.w4
   rw[if_neg (by omega),if_neg (by omega),if_pos rfl,← h,by2 _ _ _ _ h3]
   omega
  have c3:PM.w4 k 3=bs (n+3):=by
   unfold PM.w4
   rw[if_neg (by omega),if_neg (by omega),if_neg (by omega),← h]
   omega
  intro i hi
  by_cases e0:i=0
  ·rw[e0,c0,Nat.add_zero]
  ·by_cases e1:i=1
   ·rw[e1,c1]
   ·by_cases e2:i=2
    ·rw[e2,c2]
    ·rw[show i=3 by omega,c3]
def cq (n at_:Int) (x:Nat):Int:=if n<0∨65536<n then 2 else if x=0∨at_<0∨8*n<at_+PM.bl x then 30 else 0
theorem nZ {n at_:Int} {x:Nat} (h:n<0∨65536<n):cq n at_ x=2:=by unfold cq;rw[if_pos h]
theorem nW {n at_:Int} {x:Nat} (h:¬ (n<0∨65536<n)) (h2:x=0∨at_<0∨8*n<at_+PM.bl x):cq n at_ x=30:=by unfold cq;rw[if_neg h,if_pos h2]
theorem ud {n at_:Int} {x:Nat} (h:¬ (n<0∨65536<n)) (h2:¬ (x=0∨at_<0∨8*n<at_+PM.bl x)):cq n at_ x=0:=by unfold cq;rw[if_neg h,if_neg h2]
theorem nY {n at_:Int} {x:Nat} (h:cq n at_ x≠0):(n<0∨65536<n)∨(¬ (n<0∨65536<n)∧(x=0∨at_<0∨8*n<at_+PM.bl x)):=by
 by_cases h1:n<0∨65536<n
 ·exact .inl h1
 ·by_cases h2:x=0∨at_<0∨8*n<at_+PM.bl x
  ·exact .inr ⟨h1,h2⟩
  ·exact absurd (ud h1 h2) h
def zI (B:Nat) (w':World) (n at_ x:Nat) (v:Value):Prop:=
 ∃ f,w'.ownsRow B 5 1 v n (CB f n)∧(∀ i,i<n→f i<256)∧∀ k,k<8*n→PM.fb f k=PM.ly at_ (PM.bl x) x (PM.bl x) k
theorem t8 (n at_:Int) (x:Nat) (w:World) (hx:x<4294967296) (hn : -9223372036854775808≤n∧n<9223372036854775808) (ha : -9223372036854775808≤at_∧at_<9223372036854775808) (h:cq n at_ x≠0) :
  Calls prog 125 #[.int .i64 n,.int .i64 at_,.int .u32 x] w fun e w'=>e=.returned (.tuple #[.slice none 0 0,.int .i64 (cq n at_ x)])∧w'=w:=by
 have hL:=lh x w hx
 have hbl:=PM.bl_le (n:=x) (k:=32) (by omega)
 rcases nY h with h1 | ⟨h1,h2⟩
 ·rw[nZ h1]
  clear h hL
  by_cases hn0:n<0
  ·go_enter func125,ntmps125
   go_wp2
   go_ret2
   exact⟨rfl,rfl⟩
  ·have hn1:65536<n:=by omega
   clear h1
   go_enter func125,ntmps125
   go_wp2
   go_ret2
   exact⟨rfl,rfl⟩
 ·rw[nW h1 h2]
  have hn0:0≤n:=by omega
  have hn1:n≤65536:=by omega
  clear h h1
  by_cases hx0:x=0
  ·subst hx0
   clear h2
   rw[PM.bl_zero]at hL
   go_enter func125,ntmps125
   go_wp2_with (go_at_call 149;refine hL.mono ?_;rintro e w' ⟨rfl,rfl⟩)
   go_ret2
   exact⟨rfl,rfl⟩
  ·have hxn:((x:Int) == 0)=false:=by simp;omega
   generalize PM.bl x=s at *
   by_cases ha0:at_<0
   ·clear h2
    go_enter func125,ntmps125
    go_wp2_with (go_at_call 149;refine hL.mono ?_;rintro e w' ⟨rfl,rfl⟩)
    go_ret2
    exact⟨rfl,rfl⟩
   ·have hg:8*n - (s:Int)<at_:=by omega
    clear h2
    go_enter func125,ntmps125
    go_wp2_with (go_at_call 149;refine hL.mono ?_;rintro e w' ⟨rfl,rfl⟩)
    go_ret2
    exact⟨rfl,rfl⟩
theorem aaS (x k:Nat):bits .and .u8 ((x:Int) / 2 ^ k % 256) 1=((x.testBit k).toNat:Int):=by
 have e:(x:Int) / 2 ^ k=((x >>> k:Nat):Int):=by rw[Nat.shiftRight_eq_div_pow];simp
 have h:=u8_and_nat (x >>> k % 256) 1 (Nat.mod_lt _ (by omega)) (by omega)
 rw[nat_mask1,Nat.mod_mod_of_dvd _ (by decide),xp]at h
 rw[e,← h];rfl
theorem sp (n at_ x:Nat) (w:World) (hx:x<4294967296) (hx0:x≠0) (hn:n≤65536) (hfit:at_+PM.bl x≤8*n) :
  Calls prog 125 #[.int .i64 n,.int .i64 at_,.int .u32 x] w fun e w'=>∃ v,e=.returned (.tuple #[v,.int .i64 0])∧Hid (Below w.heap.size w w'∧zI w.heap.size w' n at_ x v):=by
 obtain⟨i0,hi,hz0,hz1,hz2⟩:=info_parts bV
 have hL:=lh x w hx
 have hbl:=PM.bl_le (n:=x) (k:=32) (by omega)
 have hbit:=fun k=>aaS x k
 have hpos:0<PM.bl x:=by rw[PM.bl_pos hx0];omega
 have hxn:((x:Int) == 0)=false:=by simp;omega
 have hd1:decide ((8:Int) * (n:Int) - (PM.bl x:Int) < (at_:Int))=false:=by simp;omega
 unfold zI
 generalize PM.bl x=s at *
 go_enter func125,ntmps125
 go_wp2_with (first | (go_at_call 149;refine hL.mono ?_;rintro e w ⟨rfl,rfl⟩) | (at_make;refine bj _ rfl (.tmp 35) (.tmp 35) 37 rfl w.heap.size 5 i0 underlying37 hi hz0 hz1 hz2 _ _ _ _ n n rfl rfl rfl rfl (Nat.le_refl _) (by omega) (Nat.le_refl _) ?_))
 intro w1 hown1 hbel1
 clear hL
 go_wp2_with fail
 go_loopw [10,11,12,38] (fun _ _ _ c wr=>∃ i f,i≤s∧c=.int .i64 ((i:Nat):Int)∧wr.ownsRow w.heap.size 5 1 (.slice (af w.heap.size 0) n n) n (CB f n)∧(∀ i,i<n→f i<256)∧(∀ k,PM.fb f k=PM.ly at_ s x i k)∧Below w.heap.size w wr) (fun _ _ _ c _=>s - (intOf c).toNat)
 case atStart=>exact⟨0,fun _=>0,by omega,rfl,hown1,fun i _=>by show 0<256;omega,fun k=>by rw[PM.ly_zero];unfold PM.fb;exact Nat.zero_testBit _,hbel1⟩
 case round=>
  clear hown1 hbel1
  obtain⟨i,f,hi2,rfl,hown,hfb,hfV,hbel⟩:=hrel
  by_cases hlt:i<s
  ·have t1:=hbit (s-1-i)
   clear hbit
   obtain⟨k,hk⟩:∃ k,k=at_+i:=⟨_,rfl⟩
   have hk1:(at_:Int) + (i:Int)=(k:Int):=by omega
   obtain⟨q,hq⟩:∃ q,q=k / 8:=⟨_,rfl⟩
   obtain⟨m,hm⟩:∃ m,m=k % 8:=⟨_,rfl⟩
   have hq1:(k:Int) / 8=(q:Int):=by omega
   have hm1:(k:Int) % 8=(m:Int):=by omega
   have hq2:(k:Int).tdiv 8=(q:Int):=by rw[Int.tdiv_eq_ediv_of_nonneg (by omega)];exact hq1
   have hm2:(k:Int).tmod 8=(m:Int):=by rw[Int.tmod_eq_emod_of_nonneg (by omega)];exact hm1
   have hql:q<n:=by omega
   have hm8:m<8:=by omega
   have hcx:=hown.cellAt q (by omega)
   rw[aQ _ n _ hql]at hcx
   have hfx:=hown.frozenAt q
   have hfq:=hfb q hql
   have HV:Hid (∀ k,PM.fb f k=PM.ly at_ s x i k):=hfV
   have HO:Hid (_):=And.intro hown (And.intro hfb hbel)
   clear hfV hown hfb hbel
   have HS:Hid (∀ j,PM.ly at_ s x (i+1) j=(PM.ly at_ s x i j || (decide (j=at_+i) && x.testBit (s-1-i)))):=fun j=>PM.ly_succ at_ s x i j
   generalize x.testBit (s-1-i)=bb at *
   obtain⟨y1,hy1⟩:∃ y,y=bb.toNat:=⟨_,rfl⟩
   have hy2:y1≤1:=by rw[hy1];exact Bool.toNat_le bb
   rw[← hy1]at t1
   obtain⟨d,hd⟩:∃ d,d=7-m:=⟨_,rfl⟩
   have hd7:(7:Int) - (m:Int)=(d:Int):=by omega
   have hdl:d≤7:=by omega
   obtain⟨z,hz⟩:∃ z,z=y1*2 ^ d:=⟨_,rfl⟩
   have hzl:z<256:=by
    have h1:2 ^ d≤2 ^ 7:=Nat.pow_le_pow_right (by omega) hdl
    have h2:=Nat.mul_le_mul hy2 h1
    rw[hz];omega
   have hsh:(y1:Int)*2 ^ d % 256=(z:Int):=by
    have e:(y1:Int)*2 ^ d=(z:Int):=by rw[hz];simp
    rw[e];omega
   have hor:=u8_or_nat (f q) z hfq hzl
   obtain⟨y,hy⟩:∃ y,y=f q ||| z:=⟨_,rfl⟩
   rw[← hy]at hor
   have hol:∀ j,(if j=q then y else f j)=PM.ol f k bb j:=fun j=>by
    unfold PM.ol;rw[hy,hz,hq,hd,hm,hy1]
   have HO2:Hid ((wr.drew.setCell ⟨w.heap.size,q,none⟩ (.int .u8 ((y:Nat):Int))).ownsRow w.heap.size 5 1 (.slice (af w.heap.size 0) n n) n (CB (PM.ol f k bb) n)∧(∀ i,i<n→PM.ol f k bb i<256)∧(∀ j,PM.fb (PM.ol f k bb) j=PM.ly at_ s x (i+1) j)∧Below w.heap.size w (wr.drew.setCell ⟨w.heap.size,q,none⟩ (.int .u8 ((y:Nat):Int)))):=by
    refine⟨?_,PM.ol_lt HO.out.2.1 k bb (by omega),fun j=>?_,HO.out.2.2.drew.setCell (p:=⟨w.heap.size,q,none⟩) (Nat.le_refl _) _⟩
    ·have h:=((show wr.drew.ownsRow w.heap.size 5 1 (.slice (af w.heap.size 0) n n) n (CB f n) from HO.out.1).stored q (.int .u8 ((y:Nat):Int))).1
     rw[eX,dH _ (PM.ol f k bb) n (fun i _=>hol i)]at h
     exact h
    ·rw[PM.ol_fb,HV.out,HS.out,hk]
   clear hk hq hm hy1 hd hz hol HV HO HS hy hy2
   generalize f q=g at *
   go_wp2_with fail
   go_region
   all_goals (go_wp2_with fail;go_roundw)
   case rel=>exact⟨i+1,PM.ol f k bb,by omega,by go_num,HO2.out.1,HO2.out.2.1,HO2.out.2.2.1,HO2.out.2.2.2⟩
   case measure=>simp[intOf] <;> omega
  ·obtain rfl:i=s:=by omega
   have HO:Hid (_):=And.intro hbel (And.intro hown (And.intro hfb hfV))
   clear hbit hown hfb hfV hbel
   go_wp2
   go_ret2
   exact⟨_,rfl,HO.out.1,f,HO.out.2.1,HO.out.2.2.1,fun k _=>HO.out.2.2.2 k⟩
def xr (f g:Nat→Nat) (i:Nat):Nat:=f i ^^^ g i
theorem yi {f g:Nat→Nat} {n:Nat} (hf:∀ i,i<n→f i<256) (hg:∀ i,i<n→g i<256):∀ i,i<n→xr f g i<256:=fun i hi=>PM.xor_lt8 (hf i hi) (hg i hi)
theorem sV (a0 a1:Option Addr) (n c0 c1:Nat) (f g:Nat→Nat) (w:World) (r0:Row8 w a0 n c0 f) (r1:Row8 w a1 n c1 g) (hn:n≤1000000) :
  Calls prog 126 #[.slice a0 n c0,.slice a1 n c1] w fun e w'=>∃ c,e=.returned (.tuple #[.slice (af w.heap.size 0) n c,.int .i64 0])∧Hid (Below w.heap.size w w'∧w'.ownsRow w.heap.size 5 1 (.slice (af w.heap.size 0) n c) n (CB (xr f g) n)):=by
 obtain⟨i0,hi,hz0,hz1,hz2⟩:=info_parts bV
 have hne:((n:Int) != (n:Int))=false:=by simp
 go_enter func126,ntmps126
 go_wp2_with (at_make;refine bj _ rfl (.tmp 15) (.tmp 15) 37 rfl w.heap.size 5 i0 underlying37 hi hz0 hz1 hz2 _ _ _ _ n n rfl rfl rfl rfl (Nat.le_refl _) (by omega) (Nat.le_refl _) ?_)
 intro w1 hown1 hbel1
 go_wp2_with fail
 go_loopw [7,8,19] (fun _ _ c wr=>∃ i h,i≤n∧c=.int .i64 ((i:Nat):Int)∧wr.ownsRow w.heap.size 5 1 (.slice (af w.heap.size 0) n n) n (CB h n)∧(∀ j,j<i→h j=xr f g j)∧Below w.heap.size w wr) (fun _ _ c _=>n - (intOf c).toNat)
 case atStart=>exact⟨0,fun _=>0,by omega,rfl,hown1,fun j hj=>by omega,hbel1⟩
 case round=>
  clear hown1 hbel1
  obtain⟨i,h,hi2,rfl,hown,hh,hbel⟩:=hrel
  by_cases hlt:i<n
  ·obtain⟨b0,o0,rfl,hb0,q0⟩:=r0.plain (by omega)
   obtain⟨b1,o1,rfl,hb1,q1⟩:=r1.plain (by omega)
   obtain⟨l0,s0⟩:=q0 i hlt
   obtain⟨l1,s1⟩:=q1 i hlt
   have d0:=(hbel.cell (p:=⟨b0,o0+i,none⟩) hb0).trans s0
   have d1:=(hbel.cell (p:=⟨b1,o1+i,none⟩) hb1).trans s1
   have hcx:=hown.cellAt i (by omega)
   rw[aQ _ n _ hlt]at hcx
   have hfx:=hown.frozenAt i
   have hX:=u8_xor_nat (f i) (g i) l0 l1
   have HO:Hid ((wr.setCell ⟨w.heap.size,i,none⟩ (.int .u8 ((f i ^^^ g i:Nat):Int))).ownsRow w.heap.size 5 1 (.slice (af w.heap.size 0) n n) n (CB (fun j=>if j=i then f i ^^^ g i else h j) n)∧(∀ j,j<i+1→(if j=i then f i ^^^ g i else h j)=xr f g j)∧Below w.heap.size w (wr.setCell ⟨w.heap.size,i,none⟩ (.int .u8 ((f i ^^^ g i:Nat):Int)))):=by
    refine⟨?_,fun j hj=>?_,hbel.setCell (p:=⟨w.heap.size,i,none⟩) (Nat.le_refl _) _⟩
    ·have h:=(hown.stored i (.int .u8 ((f i ^^^ g i:Nat):Int))).1
     rw[eX]at h
     exact h
    ·by_cases e:j=i
     ·rw[if_pos e,e];rfl
     ·rw[if_neg e];exact hh j (by omega)
   clear hown hh hbel r0 r1 q0 q1 s0 s1
   generalize f i ^^^ g i=y at *
   generalize f i=x0 at *
   generalize g i=x1 at *
   go_wp2
   go_roundw
   case rel=>exact⟨i+1,_,by omega,by go_num,HO.out.1,HO.out.2.1,HO.out.2.2⟩
   case measure=>simp[intOf] <;> omega
  ·obtain rfl:i=n:=by omega
   have HO:Hid (Below w.heap.size w wr∧wr.ownsRow w.heap.size 5 1 (.slice (af w.heap.size 0) i i) i (CB (xr f g) i)):=⟨hbel,by rw[← dH h (xr f g) i hh];exact hown⟩
   clear hown hh hbel r0 r1
   go_wp2
   go_ret2
   exact⟨i,rfl,HO⟩
section
variable {P:Program} {f:FuncId} {fn:Func}
theorem ir (hf : P.funcs[f]? = some fn) (hname : (fn.name == "runtime.NumGoroutine") = false) (hb : fn.body.isNone = true) (hn : Extern.findNext fn = none)
  (he:Extern.find fn=some (Extern.Atomic.loadT .ptr)) {a:Addr} {p:Option Addr} {w:World} (hc:w.cell? a=some (.pointer p)) :
  (callFunc f #[.pointer (some a)]).run P w=.ok (.value (.pointer p)) w:=by
 rw[run_callFunc_extern hf hname hb hn he]
 change (Sem.run P (do Extern.Atomic.read .ptr (← asAddr (.pointer (some a)))) w).andThen _=_
 simp[Extern.Atomic.read,asAddr,hc,Result.andThen]
theorem fS (p:Option Addr) (w:World):(samePointer p p).run P w=.ok true w:=by
 cases p <;> simp[samePointer,sameAddr]
theorem iN (hf : P.funcs[f]? = some fn) (hname : (fn.name == "runtime.NumGoroutine") = false) (hb : fn.body.isNone = true) (hn : Extern.findNext fn = none)
  (he:Extern.find fn=some (Extern.Atomic.casT .ptr)) {a:Addr} {x y:Option Addr} {w:World} (hc:w.cell? a=some (.pointer x)) (hz:w.frozen? a=false) :
  (callFunc f #[.pointer (some a),.pointer x,.pointer y]).run P w=.ok (.value (.bool true)) (w.setCell a (.pointer y)):=by
 rw[run_callFunc_extern hf hname hb hn he]
 change (Sem.run P (do
  let a' ← asAddr (.pointer (some a))
  if ← Extern.Atomic.touchesFrozen a' then unsupported (.unsafePointer "a write to bytes that a string shares")
  let eq ← match Extern.Atomic.T.ptr,← Extern.Atomic.read .ptr a',Value.pointer x with
   | _,.int _ x,.int _ y=>pure (x == y)
   | .ptr,.pointer x,.pointer y=>samePointer x y
   | .int _,.pointer (some _),.int _ 0 | .int _,.int _ 0,.pointer (some _)=>pure false
   | .int _,.pointer (some _),_ | .int _,_,.pointer (some _)=>unsupported .addressObserved
   | _, _, _ => stuck "atomic.CompareAndSwap: old is no T"
  if eq then store a' (.pointer y) .atomic
  pure (Value.bool eq)) w).andThen _=_
 simp[Extern.Atomic.touchesFrozen,Extern.Atomic.read,asAddr,viewAt,World.shape?_isSome_of_cell? hc,hc,hz,fS,run_store P w a (.pointer y) .atomic rfl,Result.andThen]
end
theorem vh (a:Addr) (d:Int) (w:World) (h0:w.cell? a=some (.int .u64 d)) :
  Calls prog 160 #[.pointer (some a)] w fun e w'=>e=.returned (.int .u64 d)∧w'=w:=by
 have hl:=run_call_load (P:=prog) func196 (by kernel_rfl) (by kernel_rfl) (by kernel_rfl) .u64 (by kernel_rfl) h0
 go_enter func160,ntmps160
 go_wp2
 go_ret
 exact⟨rfl,rfl⟩
theorem xF (a:Addr) (x y:Int) (w:World) (h0:w.cell? a=some (.int .u64 x)) (hz:w.frozen? a=false) :
  Calls prog 162 #[.pointer (some a),.int .u64 x,.int .u64 y] w fun e w'=>e=.returned (.bool true)∧w'=w.setCell a (.int .u64 y):=by
 have hl:=run_call_cas_hit (P:=prog) func197 (by kernel_rfl) (by kernel_rfl) (by kernel_rfl) .u64 (by kernel_rfl) (y:=y) h0 hz
 go_enter func162,ntmps162
 go_wp2
 go_ret
 exact⟨rfl,rfl⟩
theorem nR (a:Addr) (d:Int) (w:World) (h0:w.cell? a=some (.int .i64 d)) :
  Calls prog 86 #[.pointer (some a)] w fun e w'=>e=.returned (.int .i64 d)∧w'=w:=by
 have hl:=run_call_load (P:=prog) func115 (by kernel_rfl) (by kernel_rfl) (by kernel_rfl) .i64 (by kernel_rfl) h0
 go_enter func86,ntmps86
 go_wp2
 go_ret
 exact⟨rfl,rfl⟩
theorem wE (a:Addr) (x y:Int) (w:World) (h0:w.cell? a=some (.int .i64 x)) (hz:w.frozen? a=false) :
  Calls prog 263 #[.pointer (some a),.int .i64 x,.int .i64 y] w fun e w'=>e=.returned (.bool true)∧w'=w.setCell a (.int .i64 y):=by
 have hl:=run_call_cas_hit (P:=prog) func264 (by kernel_rfl) (by kernel_rfl) (by kernel_rfl) .i64 (by kernel_rfl) (y:=y) h0 hz
 go_enter func263,ntmps263
 go_wp2
 go_ret
 exact⟨rfl,rfl⟩
theorem sj (a:Addr) (x y:Int) (w:World) (h0:w.cell? a=some (.int .i64 x)) (hz:w.frozen? a=false) :
  Calls prog 223 #[.pointer (some a),.int .i64 y] w fun e w'=>e=.returned (.tuple #[])∧w'=w.setCell a (.int .i64 y):=by
 have hl:=run_call_store (P:=prog) func234 (by kernel_rfl) (by kernel_rfl) (by kernel_rfl) (by kernel_rfl) (k:=.i64) (y:=y) h0 hz
 go_enter func223,ntmps223
 go_wp2
 go_end0
 exact⟨rfl,rfl⟩
theorem iM (a:Addr) (p:Option Addr) (w:World) (h0:w.cell? a=some (.pointer p)) (hcv:(convert 167 165 (.pointer p)).run prog w=.ok (.pointer p) w) :
  Calls prog 163 #[.pointer (some a)] w fun e w'=>e=.returned (.pointer p)∧w'=w:=by
 have hl:=ir (P:=prog) func198 (by kernel_rfl) (by kernel_rfl) (by kernel_rfl) (by kernel_rfl) h0
 go_enter func163,ntmps163
 go_wp2
 go_ret
 exact⟨rfl,rfl⟩
theorem oy (a:Addr) (p q:Option Addr) (w:World) (h0:w.cell? a=some (.pointer p)) (hz:w.frozen? a=false) (hcp:(convert 165 167 (.pointer p)).run prog w=.ok (.pointer p) w)
  (hcq:(convert 165 167 (.pointer q)).run prog w=.ok (.pointer q) w) :
  Calls prog 164 #[.pointer (some a),.pointer p,.pointer q] w fun e w'=>e=.returned (.bool true)∧w'=w.setCell a (.pointer q):=by
 have hl:=iN (P:=prog) func199 (by kernel_rfl) (by kernel_rfl) (by kernel_rfl) (by kernel_rfl) (y:=q) h0 hz
 go_enter func164,ntmps164
 go_wp2
 go_ret
 exact⟨rfl,rfl⟩
end Go.Proofs.YtenilkloffnjlaaGreat
namespace Go.Proofs.YtenilkloffnjlaaGreat
open Tryz
open Go.RowKit
structure Off (l:List Nat) (w w':World):Prop where
 os:w'.os=w.os
 tape:w'.tape=w.tape
 output:w'.output=w.output
 size:w.heap.size≤w'.heap.size
 block:∀ k,k<w.heap.size→k ∉ l→w'.heap[k]?=w.heap[k]?
theorem Off.refl (l:List Nat) (w:World):Off l w w:=⟨rfl,rfl,rfl,Nat.le_refl _,fun _ _ _=>rfl⟩
theorem Off.trans {l:List Nat} {u v w:World} (h:Off l u v) (k:Off l v w):Off l u w:=
 ⟨k.os.trans h.os,k.tape.trans h.tape,k.output.trans h.output,Nat.le_trans h.size k.size,fun i hi hb=>(k.block i (Nat.lt_of_lt_of_le hi h.size) hb).trans (h.block i hi hb)⟩
theorem Off.of_below {l:List Nat} {w w':World} (h:Below w.heap.size w w'):Off l w w':=⟨h.os,h.tape,h.output,h.size,fun k hk _=>h.block k hk⟩
theorem Off.more {l m:List Nat} {w w':World} (h:Off l w w') (hs:∀ k,k ∈ l→k ∈ m):Off m w w':=⟨h.os,h.tape,h.output,h.size,fun k hk hb=>h.block k hk fun hm=>hb (hs k hm)⟩
theorem Off.only {l m:List Nat} {w w':World} (h:Off l w w') (hs:∀ k,k ∈ l→k<w.heap.size→k ∈ m):Off m w w':=⟨h.os,h.tape,h.output,h.size,fun k hk hb=>h.block k hk fun hm=>hb (hs k hm hk)⟩
theorem Off.setCell (b i:Nat) (w:World) (v:Value):Off [b] w (w.setCell ⟨b,i,none⟩ v):=⟨rfl,rfl,rfl,by simp[World.setCell],fun k _ hb=>heap_setCell_other w _ k v (by simpa using hb)⟩
theorem Off.alloc (l:List Nat) (w:World) (o:Obj):Off l w (w.alloc o):=Off.of_below ((Below.refl _ _).alloc (Nat.le_refl _) _)
theorem Off.drew (l:List Nat) (w:World):Off l w w.drew:=⟨rfl,rfl,rfl,Nat.le_refl _,fun _ _ _=>rfl⟩
theorem Off.drewN (l:List Nat) (w:World) (n:Nat):Off l w (w.drewN n):=⟨rfl,rfl,rfl,Nat.le_refl _,fun _ _ _=>rfl⟩
theorem Off.below {l:List Nat} {B:Nat} {w0 w w':World} (h:Off l w w') (hb:Below B w0 w) (hB:∀ k,k ∈ l→B≤k) (hs:B≤w.heap.size):Below B w0 w':=
 hb.trans ⟨h.os,h.tape,h.output,h.size,fun k hk=>h.block k (by omega) (fun hm=>by have:=hB k hm;omega)⟩
def ti (t:Int) (p:Option Addr) (f:Int) (o:Int) (r:Option Addr):Array Value:=#[.int .u64 t,.pointer p,.int .u32 f,.int .u32 o,.pointer r]
structure Met (w:World) (b:Nat) (t:Int) (p:Option Addr) (f:Int) (o:Int) (r:Option Addr):Prop where
 at_:w.heap[b]?=some (.cells (ti t p f o r) 178 (0,0))
theorem Met.lt {w:World} {b:Nat} {t f o:Int} {p r:Option Addr} (h:Met w b t p f o r):b<w.heap.size:=(Array.getElem?_eq_some_iff.1 h.at_).1
theorem Met.c0 {w:World} {b:Nat} {t f o:Int} {p r:Option Addr} (h:Met w b t p f o r):w.cell? ⟨b,0,none⟩=some (.int .u64 t):=ae w b 0 _ _ _ h.at_
theorem Met.c1 {w:World} {b:Nat} {t f o:Int} {p r:Option Addr} (h:Met w b t p f o r):w.cell? ⟨b,1,none⟩=some (.pointer p):=ae w b 1 _ _ _ h.at_
theorem Met.fz {w:World} {b:Nat} {t f o:Int} {p r:Option Addr} (h:Met w b t p f o r) (j:Nat):w.frozen? ⟨b,j,none⟩=false:=frozen_of_row w b j _ _ h.at_
theorem Met.off {l:List Nat} {w w':World} {b:Nat} {t f o:Int} {p r:Option Addr} (h:Met w b t p f o r) (k:Off l w w') (hb:b ∉ l):Met w' b t p f o r:=⟨(k.block b h.lt hb).trans h.at_⟩
theorem Met.s0 {w:World} {b:Nat} {t f o:Int} {p r:Option Addr} (h:Met w b t p f o r) (t':Int):Met (w.setCell ⟨b,0,none⟩ (.int .u64 t')) b t' p f o r:=⟨heap_setCell_same _ _ _ _ _ _ h.at_⟩
theorem Met.s1 {w:World} {b:Nat} {t f o:Int} {p r:Option Addr} (h:Met w b t p f o r) (p':Option Addr):Met (w.setCell ⟨b,1,none⟩ (.pointer p')) b t p' f o r:=⟨heap_setCell_same _ _ _ _ _ _ h.at_⟩
inductive Pk (M:Nat) (w:World):Option Addr→Option Int→Prop where
 | none:Pk M w none none
 | some (c:Nat) (v:Int) (h:M≤c) (hc:w.heap[c]?=some (.cells #[.int .i64 v] 2 (0,0))):Pk M w (some ⟨c,0,Option.none⟩) (some v)
def qi (a b:Nat):Nat:=if 18446744073709551615-a<b then 18446744073709551615 else a+b
theorem mj (w:World) :
  Calls prog 42 #[] w fun e w'=>e=.returned (ac w.heap.size 0)∧w'=w.alloc (.cells (ti 0 none 0 0 none) 178):=by
 go_enter func42,ntmps42
 go_wp2
 go_ret
 exact⟨rfl,rfl⟩
theorem ml (w:World):Met (w.alloc (.cells (ti 0 none 0 0 none) 178)) w.heap.size 0 none 0 0 none:=⟨aA w _⟩
theorem sL (a b:Nat) (w:World) (ha:a<18446744073709551616) (hb:b<18446744073709551616) :
  Calls prog 161 #[.int .u64 a,.int .u64 b] w fun e w'=>e=.returned (.int .u64 (qi a b:Nat))∧w'=w:=by
 have h1:IntKind.u64.wrap (18446744073709551615 - (a:Int))=((18446744073709551615-a:Nat):Int):=by rw[IntKind.wrap_u64];omega
 by_cases hc:18446744073709551615-a<b
 ·have e:qi a b=18446744073709551615:=by unfold qi;rw[if_pos hc]
  rw[e]
  go_enter func161,ntmps161
  go_wp2
  go_ret
  exact⟨rfl,rfl⟩
 ·have e:qi a b=a+b:=by unfold qi;rw[if_neg hc]
  rw[e]
  have h2:IntKind.u64.wrap ((a:Int) + (b:Int))=((a+b:Nat):Int):=by rw[IntKind.wrap_u64];omega
  go_enter func161,ntmps161
  go_wp2
  go_ret
  refine⟨?_,rfl⟩
  first | rfl | (rw[h2]) | simp_all
theorem lP (t n b:Nat) (p r:Option Addr) (f o:Int) (w:World) (ht:t<18446744073709551616) (hn:n<18446744073709551616) (h:Met w b t p f o r) :
  Calls prog 135 #[ac b 0,.int .u64 n] w fun e w'=>e=.returned (.tuple #[.int .u64 (qi t n:Nat),.int .i64 0])∧w'=w.setCell ⟨b,0,none⟩ (.int .u64 (qi t n:Nat)):=by
 have h0:=h.c0
 have hz:=h.fz 0
 have hl:=vh _ _ w h0
 have hs:=sL t n w ht hn
 have hc:=xF ⟨b,0,none⟩ t (qi t n:Nat) w h0 hz
 generalize qi t n=s at *
 go_enter func135,ntmps135
 go_wp2_with fail
 refine wp_loop_once ?_
 go_wp2_with (first | (go_at_call 160;refine hl.mono ?_;rintro e w' ⟨rfl,rfl⟩) | (go_at_call 161;refine hs.mono ?_;rintro e w' ⟨rfl,rfl⟩) | (go_at_call 162;refine hc.mono ?_;rintro e w' ⟨rfl,rfl⟩))
 go_ret2
 exact⟨rfl,rfl⟩
end Go.Proofs.YtenilkloffnjlaaGreat
