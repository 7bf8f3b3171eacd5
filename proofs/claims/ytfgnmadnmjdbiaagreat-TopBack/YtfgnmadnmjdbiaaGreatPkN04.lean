/- Part 5: contracts that the proof rests on. -/
import Derived.WalkKit
import Derived.Laws.BitsAllLaws
import Derived.Test.YtfgnmadnmjdbiaaGreatProg
import Derived.WalkSpells
import Derived.Lib.BitFns
import Derived.Laws.AppendOwnNone
import Derived.Deep.QuietTactic
import Derived.BigQuiet
import Derived.Lib.SlBytesConst
import Derived.Laws.BytesString
import Derived.Deep.RegionWith
import Derived.Deep.DeepCutAuto
import Derived.Test.YtfgnmadnmjdbiaaGreatPkN01
set_option maxHeartbeats 64000000
set_option maxRecDepth 100000
namespace Go.Proofs.YtfgnmadnmjdbiaaGreat.PM
theorem oU (a b:Nat):a ^^^ b ^^^ b=a:=by rw[Nat.xor_assoc,Nat.xor_self,Nat.xor_zero]
theorem ip (a b c d:Nat):(a ^^^ b) ^^^ (c ^^^ d)=(a ^^^ c) ^^^ (b ^^^ d):=by
 rw[Nat.xor_assoc,Nat.xor_assoc,← Nat.xor_assoc b c d,Nat.xor_comm b c,Nat.xor_assoc c b d]
theorem mK {a b:Nat} (h:a ^^^ b=0):a=b:=by
 have:=oU a b;rw[h,Nat.zero_xor]at this;exact this.symm
theorem fW (a b:Nat):2 * (a ^^^ b)=2*a ^^^ 2*b:=by
 have:=@Nat.shiftLeft_xor_distrib 1 a b
 simpa [Nat.shiftLeft_eq,Nat.mul_comm] using this
theorem gJ (a x:Nat) (hx:x<2):2*a+x=2*a ^^^ x:=by
 apply Nat.eq_of_testBit_eq
 intro i
 cases i with
 | zero=>
  rw[Nat.testBit_xor]
  simp only[Nat.testBit_zero]
  have h1:(2*a+x) % 2=x:=by omega
  have h2:(2*a) % 2=0:=by omega
  have h3:x % 2=x:=by omega
  rw[h1,h2,h3];simp
 | succ i=>
  rw[Nat.testBit_xor,Nat.testBit_succ,Nat.testBit_succ,Nat.testBit_succ]
  have h1:(2*a+x) / 2=a:=by omega
  have h2:(2*a) / 2=a:=by omega
  have h3:x / 2=0:=by omega
  rw[h1,h2,h3];simp
theorem jO {x y:Nat} (hx:x<2) (hy:y<2):x ^^^ y<2:=@Nat.xor_lt_two_pow x y 1 hx hy
theorem mh (a b x y:Nat) (hx:x<2) (hy:y<2):(2*a+x) ^^^ (2*b+y)=2 * (a ^^^ b) + (x ^^^ y):=by
 rw[gJ a x hx,gJ b y hy,gJ (a ^^^ b) _ (jO hx hy),fW,ip]
theorem ue (a b:Nat):(a ^^^ b) % 2=(a % 2 ^^^ b % 2):=by
 have:=mh (a / 2) (b / 2) (a % 2) (b % 2) (by omega) (by omega)
 have h1:2 * (a / 2)+a % 2=a:=by omega
 have h2:2 * (b / 2)+b % 2=b:=by omega
 rw[h1,h2]at this
 have:=jO (x:=a % 2) (y:=b % 2) (by omega) (by omega)
 omega
def kE (m d t:Nat):Nat:=if t.testBit d then t ^^^ m else t
theorem sr (m d:Nat):kE m d 0=0:=by simp[kE]
theorem wg (m d s t:Nat):kE m d (s ^^^ t)=kE m d s ^^^ kE m d t:=by
 unfold kE
 rw[Nat.testBit_xor]
 cases s.testBit d <;> cases t.testBit d <;> simp
 ·exact Nat.xor_assoc _ _ _
 ·rw[Nat.xor_assoc,Nat.xor_comm t m,← Nat.xor_assoc]
 ·rw[ip,Nat.xor_self,Nat.xor_zero]
theorem jI {x n:Nat} (h:x<2 ^ (n+1)) (hb:x.testBit n=false):x<2 ^ n:=by
 apply Nat.lt_pow_two_of_testBit
 intro i hi
 by_cases e:i=n
 ·subst e;exact hb
 ·exact Nat.testBit_lt_two_pow (Nat.lt_of_lt_of_le h (Nat.pow_le_pow_right (by omega) (by omega)))
structure Deg (m d:Nat):Prop where
 lt:m<2 ^ (d+1)
 top:m.testBit d=true
theorem uN {m d t:Nat} (hm:Deg m d) (ht:t<2 ^ (d+1)):kE m d t<2 ^ d:=by
 unfold kE
 split
 ·rename_i h
  apply jI (Nat.xor_lt_two_pow ht hm.lt)
  rw[Nat.testBit_xor,h,hm.top];rfl
 ·rename_i h
  exact jI ht (by simpa using h)
theorem lC {m d t:Nat} (ht:t<2 ^ d):kE m d t=t:=by
 unfold kE;rw[Nat.testBit_lt_two_pow ht];rfl
def rm (m d:Nat):Nat→Nat→Nat
 | 0,_=>0
 | k+1,n=>kE m d (2*rm m d k (n / 2)+n % 2)
def R (m d n:Nat):Nat:=rm m d n n
theorem wL {m d:Nat} (hm:Deg m d) (k n:Nat):rm m d k n<2 ^ d:=by
 cases k with
 | zero=>exact Nat.two_pow_pos d
 | succ k=>
  refine uN hm ?_
  have:=wL hm k (n / 2)
  rw[Nat.pow_succ];omega
theorem vK (m d:Nat) (k:Nat):∀ n,n<2 ^ k→rm m d (k+1) n=rm m d k n:=by
 induction k with
 | zero=>
      intro n hn;have:n=0:=by omega
      subst this;simp[rm,sr]
 | succ k ih=>
  intro n hn
  show kE m d (2*rm m d (k+1) (n / 2)+n % 2)=kE m d (2*rm m d k (n / 2)+n % 2)
  rw[ih (n / 2) (by rw[Nat.pow_succ]at hn;omega)]
theorem kQ (m d k n:Nat) (hn:n<2 ^ k) (j:Nat):rm m d (k+j) n=rm m d k n:=by
 induction j with
 | zero=>rfl
 | succ j ih=>
  rw[← Nat.add_assoc,vK m d (k+j) n (Nat.lt_of_lt_of_le hn (Nat.pow_le_pow_right (by omega) (by omega))),ih]
theorem a7 (n:Nat):n<2 ^ n:=Nat.lt_two_pow_self
theorem jr (m d k n:Nat) (hn:n<2 ^ k):rm m d k n=R m d n:=by
 unfold R
 rcases Nat.le_total k n with h | h
 ·obtain⟨j,rfl⟩:=Nat.exists_eq_add_of_le h
  exact (kQ m d k _ hn j).symm
 ·obtain⟨j,rfl⟩:=Nat.exists_eq_add_of_le h
  exact kQ m d n n (a7 n) j
theorem yS {m d:Nat} (hm:Deg m d) (n:Nat):R m d n<2 ^ d:=wL hm n n
theorem xM (m d:Nat):R m d 0=0:=rfl
theorem zV (m d n b:Nat) (hb:b<2):R m d (2*n+b)=kE m d (2*R m d n+b):=by
 have h1:2*n+b<2 ^ (n+1):=by
  have:=a7 n;rw[Nat.pow_succ];omega
 rw[← jr m d (n+1) _ h1]
 show kE m d (2*rm m d n ((2*n+b) / 2) + (2*n+b) % 2)=_
 have e1:(2*n+b) / 2=n:=by omega
 have e2:(2*n+b) % 2=b:=by omega
 rw[e1,e2];rfl
theorem tR (m d n:Nat):R m d (2*n)=kE m d (2*R m d n):=zV m d n 0 (by omega)
theorem yo (m d:Nat) (k:Nat):∀ a b,rm m d k (a ^^^ b)=rm m d k a ^^^ rm m d k b:=by
 induction k with
 | zero=>intro a b;simp[rm]
 | succ k ih=>
  intro a b
  show kE m d (2*rm m d k ((a ^^^ b) / 2) + (a ^^^ b) % 2)=_
  rw[Nat.xor_div_two,ue,ih,← mh _ _ _ _ (by omega) (by omega),wg]
  rfl
theorem oe (m d a b:Nat):R m d (a ^^^ b)=R m d a ^^^ R m d b:=by
 have ha:a<2 ^ (a+b):=Nat.lt_of_lt_of_le (a7 a) (Nat.pow_le_pow_right (by omega) (by omega))
 have hb:b<2 ^ (a+b):=Nat.lt_of_lt_of_le (a7 b) (Nat.pow_le_pow_right (by omega) (by omega))
 rw[← jr m d _ _ (Nat.xor_lt_two_pow ha hb),yo,jr m d _ _ ha,jr m d _ _ hb]
theorem uj (m d:Nat) (k:Nat):∀ n,n<2 ^ d→n<2 ^ k→rm m d k n=n:=by
 induction k with
 | zero=>
      intro n _ hn;have:n=0:=by omega
      subst this;rfl
 | succ k ih=>
  intro n hd hn
  show kE m d (2*rm m d k (n / 2)+n % 2)=n
  rw[ih (n / 2) (by omega) (by rw[Nat.pow_succ]at hn;omega)]
  have e:2 * (n / 2)+n % 2=n:=by omega
  rw[e,lC hd]
theorem jv (m d n:Nat) (h:n<2 ^ d):R m d n=n:=uj m d n n h (a7 n)
theorem R_R {m d:Nat} (hm:Deg m d) (n:Nat):R m d (R m d n)=R m d n:=jv m d _ (yS hm n)
def cl (a b:Nat):Nat→Nat
 | 0=>0
 | k+1=>cl a b k ^^^ (if b.testBit k then a <<< k else 0)
def C (a b:Nat):Nat:=cl a b b
theorem kP (a b k:Nat) (hb:b<2 ^ k) (j:Nat):cl a b (k+j)=cl a b k:=by
 induction j with
 | zero=>rfl
 | succ j ih=>
  show cl a b (k+j) ^^^ (if b.testBit (k+j) then a <<< (k+j) else 0)=_
  rw[Nat.testBit_lt_two_pow (Nat.lt_of_lt_of_le hb (Nat.pow_le_pow_right (by omega) (by omega))),ih]
  simp
theorem jq (a b k:Nat) (hb:b<2 ^ k):cl a b k=C a b:=by
 unfold C
 rcases Nat.le_total k b with h | h
 ·obtain⟨j,e⟩:=Nat.exists_eq_add_of_le h
  rw[e];rw[e]at hb
  exact (kP a _ k hb j).symm
 ·obtain⟨j,rfl⟩:=Nat.exists_eq_add_of_le h
  exact kP a b b (a7 b) j
theorem yc (a:Nat):C a 0=0:=rfl
theorem mi (b k:Nat):cl 0 b k=0:=by
 induction k with
 | zero=>rfl
 | succ k ih=>simp[cl,ih]
theorem gr (b:Nat):C 0 b=0:=mi b b
theorem n6 (a c b k:Nat):cl (a ^^^ c) b k=cl a b k ^^^ cl c b k:=by
 induction k with
 | zero=>simp[cl]
 | succ k ih=>
  show cl (a ^^^ c) b k ^^^ _=(cl a b k ^^^ _) ^^^ (cl c b k ^^^ _)
  rw[ih]
  cases b.testBit k
  ·simp
  ·simp[Nat.shiftLeft_xor_distrib];rw[ip]
theorem ic (a c b:Nat):C (a ^^^ c) b=C a b ^^^ C c b:=n6 a c b b
theorem lZ (a b c k:Nat):cl a (b ^^^ c) k=cl a b k ^^^ cl a c k:=by
 induction k with
 | zero=>simp[cl]
 | succ k ih=>
  show cl a (b ^^^ c) k ^^^ _=(cl a b k ^^^ _) ^^^ (cl a c k ^^^ _)
  rw[ih,Nat.testBit_xor]
  cases b.testBit k <;> cases c.testBit k
  ·simp
  ·simp[Nat.xor_assoc]
  ·simp;rw[Nat.xor_assoc,Nat.xor_assoc,Nat.xor_comm (a <<< k)]
  ·simp;rw[ip,Nat.xor_self,Nat.xor_zero]
theorem jf (a b c:Nat):C a (b ^^^ c)=C a b ^^^ C a c:=by
 have hb:b<2 ^ (b+c):=Nat.lt_of_lt_of_le (a7 b) (Nat.pow_le_pow_right (by omega) (by omega))
 have hc:c<2 ^ (b+c):=Nat.lt_of_lt_of_le (a7 c) (Nat.pow_le_pow_right (by omega) (by omega))
 rw[← jq a _ _ (Nat.xor_lt_two_pow hb hc),lZ,jq a _ _ hb,jq a _ _ hc]
theorem vP (a k:Nat):(2*a) <<< k=2 * (a <<< k):=by
 rw[Nat.shiftLeft_eq,Nat.shiftLeft_eq,Nat.mul_assoc]
theorem tC (a k:Nat):a <<< (k+1)=2 * (a <<< k):=by
 rw[Nat.shiftLeft_eq,Nat.shiftLeft_eq,Nat.pow_succ,← Nat.mul_assoc,Nat.mul_comm]
theorem ox (a b k:Nat):cl (2*a) b k=2*cl a b k:=by
 induction k with
 | zero=>rfl
 | succ k ih=>
  show cl (2*a) b k ^^^ _=2 * (cl a b k ^^^ _)
  rw[ih,fW]
  cases b.testBit k <;> simp[vP]
theorem pB (a b:Nat):C (2*a) b=2*C a b:=ox a b b
theorem lM (a b k:Nat):cl a (2*b) (k+1)=2*cl a b k:=by
 induction k with
 | zero=>
  show cl a (2*b) 0 ^^^ _=0
  have:(2*b).testBit 0=false:=by simp
  rw[this];simp[cl]
 | succ k ih=>
  show cl a (2*b) (k+1) ^^^ (if (2*b).testBit (k+1) then a <<< (k+1) else 0)=2 * (cl a b k ^^^ _)
  have e:(2*b).testBit (k+1)=b.testBit k:=by
   rw[Nat.testBit_succ];congr 1;omega
  rw[ih,fW,e]
  cases b.testBit k <;> simp[tC]
theorem ee (a b:Nat):C a (2*b)=2*C a b:=by
 have h:2*b<2 ^ (b+1):=by have:=a7 b;rw[Nat.pow_succ];omega
 rw[← jq a _ _ h,lM];rfl
theorem fe (a:Nat):C a 1=a:=by
 show cl a 1 0 ^^^ _=a
 have:(1:Nat).testBit 0=true:=rfl
 rw[this];simp[cl]
theorem zq (a b:Nat) (h:b<2):C a b=if b=1 then a else 0:=by
 have:b=0∨b=1:=by omega
 rcases this with rfl | rfl
 ·rfl
 ·rw[fe];rfl
theorem nz (a b x:Nat) (hx:x<2):C a (2*b+x)=2*C a b ^^^ (if x=1 then a else 0):=by
 rw[gJ b x hx,jf,ee,zq a x hx]
theorem jL (k:Nat):∀ b,b<2 ^ k→C 1 b=b:=by
 induction k with
 | zero=>
      intro b hb;have:b=0:=by omega
      subst this;rfl
 | succ k ih=>
  intro b hb
  have e:2 * (b / 2)+b % 2=b:=by omega
  rw[← e,nz 1 _ _ (by omega),ih (b / 2) (by rw[Nat.pow_succ]at hb;omega),gJ _ _ (by omega)]
  congr 1
  split <;> omega
theorem pl (b:Nat):C 1 b=b:=jL b b (a7 b)
theorem oZ (a b:Nat) (h:a<2):C a b=if a=1 then b else 0:=by
 have:a=0∨a=1:=by omega
 rcases this with rfl | rfl
 ·rw[gr];rfl
 ·rw[pl];rfl
theorem pq (k:Nat):∀ a b,b<2 ^ k→C a b=C b a:=by
 induction k with
 | zero=>
      intro a b hb;have:b=0:=by omega
      subst this;rw[yc,gr]
 | succ k ih=>
  intro a b hb
  have e:2 * (b / 2)+b % 2=b:=by omega
  rw[← e,nz a _ _ (by omega),gJ _ _ (by omega),ic,pB,oZ (b % 2) a (by omega),ih a (b / 2) (by rw[Nat.pow_succ]at hb;omega)]
theorem xF (a b:Nat):C a b=C b a:=pq b a b (a7 b)
theorem mL (k:Nat):∀ a b c,c<2 ^ k→C (C a b) c=C a (C b c):=by
 induction k with
 | zero=>
      intro a b c hc;have:c=0:=by omega
      subst this;rfl
 | succ k ih=>
  intro a b c hc
  have e:2 * (c / 2)+c % 2=c:=by omega
  rw[← e,nz _ _ _ (by omega),nz _ _ _ (by omega),jf,ee,ih a b (c / 2) (by rw[Nat.pow_succ]at hc;omega)]
  congr 1
  split <;> rfl
theorem ma (a b c:Nat):C (C a b) c=C a (C b c):=mL c a b c (a7 c)
theorem gn (a k:Nat):C a (2 ^ k)=a*2 ^ k:=by
 induction k with
 | zero=>simp[fe]
 | succ k ih=>rw[Nat.pow_succ,Nat.mul_comm (2 ^ k) 2,ee,ih];rw[Nat.mul_left_comm]
theorem rx (a b:Nat):C (2 ^ a) (2 ^ b)=2 ^ (a+b):=by rw[gn,Nat.pow_add]
theorem qw (m d a b x:Nat) (hx:x<2):R m d (C a (2*b+x))=kE m d (2*R m d (C a b)) ^^^ (if x=1 then R m d a else 0):=by
 rw[nz a b x hx,oe,tR]
 congr 1
 split
 ·rfl
 ·rfl
theorem mE {m d:Nat} (hm:Deg m d) (k:Nat):∀ a b,b<2 ^ k→R m d (C (R m d a) b)=R m d (C a b):=by
 induction k with
 | zero=>
      intro a b hb;have:b=0:=by omega
      subst this;rfl
 | succ k ih=>
  intro a b hb
  have e:2 * (b / 2)+b % 2=b:=by omega
  rw[← e,qw m d _ _ _ (by omega),qw m d _ _ _ (by omega),ih a (b / 2) (by rw[Nat.pow_succ]at hb;omega),R_R hm]
theorem tA {m d:Nat} (hm:Deg m d) (a b:Nat):R m d (C (R m d a) b)=R m d (C a b):=mE hm b a b (a7 b)
def bl (n:Nat):Nat:=if n=0 then 0 else n.log2+1
theorem bl_zero:bl 0=0:=rfl
theorem bl_pos {n:Nat} (h:n≠0):bl n=n.log2+1:=by simp[bl,h]
theorem bl_le {n k:Nat} (h:n<2 ^ k):bl n≤k:=by
 unfold bl
 split
 ·omega
 ·rename_i h0;have:=(Nat.log2_lt h0).2 h;omega
def V (f:Nat→Bool):Nat→Nat
 | 0=>0
 | i+1=>2*V f i + (f i).toNat
theorem jn (f g:Nat→Bool) (n:Nat) (h:∀ i,i<n→f i=g i):V f n=V g n:=by
 induction n with
 | zero=>rfl
 | succ n ih=>
  show 2*V f n + (f n).toNat=2*V g n + (g n).toNat
  rw[ih (fun i hi=>h i (by omega)),h n (by omega)]
def fb (bs:Nat→Nat) (n:Nat):Bool:=(bs (n / 8)).testBit (7-n % 8)
theorem fb_at (bs:Nat→Nat) (i j:Nat) (hj:j<8):fb bs (8*i+j)=(bs i).testBit (7-j):=by
 unfold fb
 rw[show (8*i+j) / 8=i by omega,show (8*i+j) % 8=j by omega]
theorem sR (f:Nat→Bool) (n k:Nat):V f (n+k)=C (V f n) (2 ^ k) ^^^ V (fun i=>f (n+i)) k:=by
 induction k with
 | zero=>rw[Nat.pow_zero,fe];exact (Nat.xor_zero _).symm
 | succ k ih=>
  show 2*V f (n+k) + (f (n+k)).toNat=C (V f n) (2 ^ (k+1)) ^^^ (2*V (fun i=>f (n+i)) k + (f (n+k)).toNat)
  have hb:(f (n+k)).toNat<2:=by have:=Bool.toNat_le (f (n+k));omega
  rw[ih,Nat.pow_succ,Nat.mul_comm (2 ^ k) 2,ee]
  have h:=mh (C (V f n) (2 ^ k)) (V (fun i=>f (n+i)) k) 0 ((f (n+k)).toNat) (by omega) hb
  simp only[Nat.add_zero,Nat.zero_xor]at h
  rw[h]
end Go.Proofs.YtfgnmadnmjdbiaaGreat.PM
namespace Go.Proofs.YtfgnmadnmjdbiaaGreat
open Tryz
open Go.RowKit
theorem vw (p i:Nat):p >>> i % 2=(p.testBit i).toNat:=by
 rw[Nat.toNat_testBit,Nat.shiftRight_eq_div_pow]
theorem dW {k:IntKind} {a b:Int} (h:a=b):Ending.returned (.int k a)=.returned (.int k b):=by rw[h]
theorem vO:∀ n:Fin 256,Lib.len8 (n.val:Int)=(PM.bl n.val:Int):=by decide +kernel
theorem pt (n:Nat) (h:n<256):Lib.len8 (n:Int)=(PM.bl n:Int):=vO ⟨n,h⟩
theorem tD (k x:Nat) (h:2 ^ k≤x):PM.bl x=k+PM.bl (x / 2 ^ k):=by
 have hp:0<2 ^ k:=Nat.two_pow_pos k
 have h1:x / 2 ^ k≠0:=by
  intro e
  have:=(Nat.div_eq_zero_iff).1 e
  omega
 have hx:x≠0:=by omega
 have a:=Nat.log2_self_le h1
 have b:=@Nat.lt_log2_self (x / 2 ^ k)
 have e:x.log2=(x / 2 ^ k).log2+k:=(Nat.log2_eq_iff hx).2
  ⟨by rw[Nat.pow_add];exact (Nat.le_div_iff_mul_le hp).1 a,by rw[show (x / 2 ^ k).log2+k+1=((x / 2 ^ k).log2+1)+k by omega,Nat.pow_add];exact (Nat.div_lt_iff_lt_mul hp).1 b⟩
 rw[PM.bl_pos hx,PM.bl_pos h1,e];omega
theorem iS (k x:Nat) (h:2 ^ k≤x) (h2:x / 2 ^ k<256) (u:Int) (hu:u=(x / 2 ^ k:Nat)):(k:Int)+Lib.len8 u=(PM.bl x:Nat):=by
 rw[hu,pt _ h2,tD k x h];omega
theorem sZ (u:Int) (h0:0≤u) (h1:u≤255):0≤Lib.len8 u∧Lib.len8 u≤8:=by
 obtain⟨n,rfl⟩:=Int.eq_ofNat_of_zero_le h0
 rw[pt n (by omega)]
 have:=PM.bl_le (n:=n) (k:=8) (by omega)
 omega
theorem jl (u:Int) (h0:0≤u) (h1:u≤255):∃ z:Int,Lib.len8 u=z∧0≤z∧z≤8 ∧
  ∀ t w,prog.underlying t=some .string→(Instr.index t (.string Lib.len8tab) (.int .u8 u)).run prog w=.ok (.int .u8 z) w:=
 ⟨_,rfl,(sZ u h0 h1).1,(sZ u h0 h1).2,fun t w h=>Lib.run_index_len8tab w t .u8 u h h0 h1⟩
end Go.Proofs.YtfgnmadnmjdbiaaGreat
namespace Go.Proofs.YtfgnmadnmjdbiaaGreat.PM
abbrev g:Nat:=4812730177
theorem yi:Deg g 32:=⟨by decide,by decide⟩
theorem yB (bs:Nat→Nat) (i:Nat) (h:bs i<256):V (fun j=>fb bs (8*i+j)) 8=bs i:=by
 have e:∀ j,j<8→fb bs (8*i+j)=(bs i).testBit (7-j):=fun j hj=>fb_at bs i j hj
 have hx:∀ z:Fin 256,V (fun j=>z.val.testBit (7-j)) 8=z.val:=by decide +kernel
 rw[jn _ (fun j=>(bs i).testBit (7-j)) 8 e]
 exact hx ⟨bs i,h⟩
theorem ij (bs:Nat→Nat) (i:Nat) (h:bs i<256):V (fb bs) (8 * (i+1))=C (V (fb bs) (8*i)) (2 ^ 8) ^^^ bs i:=by
 rw[show 8 * (i+1)=8*i+8 by omega,sR,yB bs i h]
def ct (f h:Nat→Nat) (n i:Nat):Nat:=if i<n then f i else h (i-n)
theorem aal (f h:Nat→Nat) (n k:Nat):V (fb (ct f h n)) (8 * (n+k))=C (V (fb f) (8*n)) (2 ^ (8*k)) ^^^ V (fb h) (8*k):=by
 rw[Nat.mul_add,sR]
 congr 1
 ·congr 1
  apply jn
  intro i hi
  unfold fb ct
  rw[if_pos (by omega)]
 ·apply jn
  intro i hi
  unfold fb ct
  rw[if_neg (by omega),show (8*n+i) / 8-n=i / 8 by omega,show (8*n+i) % 8=i % 8 by omega]
def E (v:Nat):Nat:=R g 32 (C v (2 ^ 32))
def K (bs:Nat→Nat) (n:Nat):Nat:=E (V (fb bs) (8*n))
theorem aai (v:Nat):E v<4294967296:=yS yi _
theorem K_lt (bs:Nat→Nat) (n:Nat):K bs n<4294967296:=aai _
theorem zc (a b:Nat):E (a ^^^ b)=E a ^^^ E b:=by unfold E;rw[ic,oe]
theorem ys:E 0=0:=by unfold E;rw[gr,xM]
theorem K_zero (bs:Nat→Nat):K bs 0=0:=ys
def tx (s:Nat):Nat:=kE g 32 (2*s)
theorem aav (n:Nat):tx (R g 32 n)=R g 32 (2*n):=(tR g 32 n).symm
theorem zm {s:Nat} (h:s<4294967296):tx s<4294967296:=uN (t:=2*s) yi (show 2*s<2 ^ 33 by omega)
theorem vi (t:Nat) (h:t<2 ^ 32):t+2 ^ 32=t ^^^ 2 ^ 32:=by
 apply Nat.eq_of_testBit_eq
 intro i
 rw[Nat.testBit_xor,show t+2 ^ 32=2 ^ 32*1+t by omega,Nat.testBit_two_pow_mul_add _ h,Nat.testBit_two_pow]
 by_cases hi:i<32
 ·simp[hi,show ¬ 32=i by omega]
 ·rw[if_neg hi,Nat.testBit_lt_two_pow (Nat.lt_of_lt_of_le h (Nat.pow_le_pow_right (show 2 > 0 by omega) (show 32≤i by omega)))]
  by_cases e:i=32
  ·subst e;simp
  ·rw[Nat.testBit_lt_two_pow (show 1<2 ^ (i-32) from Nat.lt_of_lt_of_le (show 1<2 ^ 1 by omega) (Nat.pow_le_pow_right (by omega) (by omega)))]
   simp[show ¬ 32=i by omega]
theorem tx_hi {s:Nat} (h:s<4294967296) (hb:2147483648≤s):tx s=(2*s-4294967296) ^^^ 517762881:=by
 obtain⟨t,ht⟩:∃ t,2*s=t+2 ^ 32:=⟨2*s-2 ^ 32,by omega⟩
 have ht2:t<2 ^ 32:=by omega
 have hbit:(2*s).testBit 32=true:=by
  rw[Nat.testBit_eq_decide_div_mod_eq]
  simp;omega
 unfold tx kE
 rw[if_pos hbit,ht,show t+2 ^ 32-4294967296=t by omega,vi t ht2,Nat.xor_assoc]
 congr 1
theorem tx_lo {s:Nat} (hb:s<2147483648):tx s=2*s:=lC (show 2*s<2 ^ 32 by omega)
def txs:Nat→Nat→Nat
 | 0,s=>s
 | k+1,s=>tx (txs k s)
theorem txs_lt {s:Nat} (h:s<4294967296) (k:Nat):txs k s<4294967296:=by
 induction k with
 | zero=>exact h
 | succ k ih=>exact zm ih
theorem zx {s:Nat} (h:s<4294967296) (k:Nat):txs k s=R g 32 (C s (2 ^ k)):=by
 induction k with
 | zero=>rw[Nat.pow_zero,fe,jv g 32 s h];rfl
 | succ k ih=>
         show tx (txs k s)=_
         rw[ih,aav,Nat.pow_succ,Nat.mul_comm (2 ^ k) 2,ee]
theorem yg (v x:Nat):R g 32 (C (E v ^^^ C x (2 ^ 24)) (2 ^ 8))=E (C v (2 ^ 8) ^^^ x):=by
 rw[ic,oe,ma,rx,zc]
 unfold E
 rw[tA yi,ma,ma,xF (2 ^ 32)]
theorem K_succ (bs:Nat→Nat) (i:Nat) (h:bs i<256):K bs (i+1)=txs 8 (K bs i ^^^ bs i*16777216):=by
 have e:bs i*16777216=C (bs i) (2 ^ 24):=(gn (bs i) 24).symm
 have hl:K bs i ^^^ bs i*16777216<4294967296:=Nat.xor_lt_two_pow (n:=32) (K_lt bs i) (by omega)
 rw[zx hl,e]
 unfold K
 rw[yg,ij bs i h]
def w4 (s i:Nat):Nat:=if i=0 then s / 16777216 % 256 else if i=1 then s / 65536 % 256 else if i=2 then s / 256 % 256 else s % 256
theorem w4_lt (s i:Nat):w4 s i<256:=by
 unfold w4
 by_cases h0:i=0
 ·rw[if_pos h0];omega
 ·rw[if_neg h0]
  by_cases h1:i=1
  ·rw[if_pos h1];omega
  ·rw[if_neg h1]
   by_cases h2:i=2
   ·rw[if_pos h2];omega
   ·rw[if_neg h2];omega
theorem V4 (f:Nat→Nat) (hf:∀ i,i<4→f i<256):V (fb f) 32=f 0*16777216+f 1*65536+f 2*256+f 3:=by
 have s1:∀ a b,b<256→C a (2 ^ 8) ^^^ b=a*256+b:=by
  intro a b hb
  rw[gn]
  apply Nat.eq_of_testBit_eq
  intro i
  rw[show a*256+b=2 ^ 8*a+b by omega,Nat.testBit_two_pow_mul_add _ (show b<2 ^ 8 from hb),Nat.mul_comm a,Nat.testBit_xor,Nat.testBit_two_pow_mul]
  by_cases hi:i<8
  ·simp[hi,show ¬ 8≤i by omega]
  ·simp[hi,show 8≤i by omega,Nat.testBit_lt_two_pow (Nat.lt_of_lt_of_le (show b<2 ^ 8 from hb) (Nat.pow_le_pow_right (show 2 > 0 by omega) (show 8≤i by omega)))]
 have h0:=ij f 0 (hf 0 (by omega))
 have h1:=ij f 1 (hf 1 (by omega))
 have h2:=ij f 2 (hf 2 (by omega))
 have h3:=ij f 3 (hf 3 (by omega))
 rw[s1 _ _ (hf 0 (by omega))]at h0
 rw[s1 _ _ (hf 1 (by omega))]at h1
 rw[s1 _ _ (hf 2 (by omega))]at h2
 rw[s1 _ _ (hf 3 (by omega))]at h3
 have e0:V (fb f) (8*0)=0:=rfl
 rw[e0]at h0
 simp only[Nat.zero_add,Nat.reduceAdd,Nat.reduceMul,Nat.zero_mul]at h0 h1 h2 h3
 rw[h3,h2,h1,h0]
 clear h0 h1 h2 h3 e0 s1
 generalize f 0=a;generalize f 1=b;generalize f 2=c;generalize f 3=d
 omega
theorem V_w4 (s:Nat) (hs:s<4294967296):V (fb (w4 s)) 32=s:=by
 rw[V4 _ (fun i _=>w4_lt s i),show w4 s 0=s / 16777216 % 256 from rfl,show w4 s 1=s / 65536 % 256 from rfl,show w4 s 2=s / 256 % 256 from rfl,show w4 s 3=s % 256 from rfl]
 omega
def sl (bs:Nat→Nat) (n:Nat):Nat→Nat:=ct bs (w4 (K bs n)) n
theorem V_sl (bs:Nat→Nat) (n:Nat):R g 32 (V (fb (sl bs n)) (8 * (n+4)))=0:=by
 unfold sl
 rw[aal,show 8*4=32 from rfl,V_w4 _ (K_lt bs n),oe,jv g 32 (K bs n) (K_lt bs n)]
 exact Nat.xor_self _
theorem valid_iff (bs:Nat→Nat) (n:Nat) (h:∀ i,i<n+4→bs i<256) :
  bs n*16777216+bs (n+1)*65536+bs (n+2)*256+bs (n+3)=K bs n ↔ R g 32 (V (fb bs) (8 * (n+4)))=0:=by
 have hw:=V4 (fun i=>bs (n+i)) (fun i hi=>h _ (by omega))
 have e:V (fb bs) (8 * (n+4))=C (V (fb bs) (8*n)) (2 ^ 32) ^^^ V (fb fun i=>bs (n+i)) 32:=by
  rw[show 8 * (n+4)=8*n+32 by omega,sR]
  congr 1
  apply jn
  intro i _
  unfold fb
  rw[show (8*n+i) / 8=n+i / 8 by omega,show (8*n+i) % 8=i % 8 by omega]
 rw[e,oe,hw]
 simp only[Nat.add_zero]
 rw[jv g 32 (bs n*16777216+bs (n+1)*65536+bs (n+2)*256+bs (n+3)) (by have:=h n (by omega);have:=h (n+1) (by omega);have:=h (n+2) (by omega);have:=h (n+3) (by omega);omega)]
 show _=K bs n ↔ K bs n ^^^ _=0
 constructor
 ·intro h;rw[h];exact Nat.xor_self _
 ·intro h;exact (mK h).symm
end Go.Proofs.YtfgnmadnmjdbiaaGreat.PM
namespace Go.Proofs.YtfgnmadnmjdbiaaGreat
open Tryz
open Go.RowKit
theorem sM {s:Nat} (h:s<4294967296) (hb:2147483648≤s):((s:Int) / 2147483648 == 1)=true:=by simp;omega
theorem uc {s:Nat} (hb:s<2147483648):((s:Int) / 2147483648 == 1)=false:=by simp;omega
theorem yT (a b:Nat) (ha:a<4294967296) (hb:b<4294967296):bits .xor .u32 (a:Int) (b:Int)=((a ^^^ b:Nat):Int):=u32_xor_nat a b ha hb
theorem ko (x y:Nat) (k:Nat) (hx:x % 2 ^ k=0) (hy:y<2 ^ k) (h1:x<4294967296) (h2:y<4294967296):bits .or .u32 (x:Int) (y:Int)=((x+y:Nat):Int):=by
 rw[u32_or_nat x y h1 h2,nat_join k x y hx hy]
theorem pS (s:Nat) (w:World) (hs:s<4294967296) :
  Calls prog 174 #[.int .u32 s] w fun e w'=>e=.returned (.int .u32 (PM.tx s:Nat))∧w'=w:=by
 by_cases hb:2147483648≤s
 ·have h1:=sM hs hb
  go_enter func174,ntmps174
  go_wp2
  go_ret
  refine⟨dW ?_,rfl⟩
  have e:(s:Int)*2 % 4294967296=((2*s-4294967296:Nat):Int):=by omega
  rw[PM.tx_hi hs hb,e]
  exact yT _ 517762881 (by omega) (by omega)
 ·have h1:=uc (s:=s) (by omega)
  go_enter func174,ntmps174
  go_wp2
  go_ret
  exact⟨dW (by rw[PM.tx_lo (by omega)];omega),rfl⟩
theorem qY (b off len cap:Nat) (bs:Nat→Nat) (w:World) (hlen:len≤9223372036854775807)
  (hc:∀ i,i<len→bs i<256∧w.cell? ⟨b,off+i,none⟩=some (.int .u8 (bs i))) :
  Calls prog 139 #[.slice (af b off) len cap] w fun e w'=>e=.returned (.int .u32 (PM.K bs len:Nat))∧w'=w:=by
 go_enter func139,ntmps139
 go_wp2
 go_loop [3,5,8,17] (fun s _ c _=>∃ i:Nat,i≤len∧c=.int .i64 i∧s=.int .u32 (PM.K bs i:Nat)) (fun _ _ c _=>len - (intOf c).toNat)
 case atStart=>exact⟨0,by omega,rfl,by rw[PM.K_zero];rfl⟩
 case round=>
  obtain⟨i,hi,rfl,rfl⟩:=hrel
  by_cases hlt:i<len
  ·obtain⟨hb8,hcell⟩:=hc i hlt
   clear hc
   have hk:=PM.K_lt bs i
   have HK:Hid (PM.K bs (i+1)=PM.txs 8 (PM.K bs i ^^^ bs i*16777216)):=PM.K_succ bs i hb8
   have hx:PM.K bs i ^^^ bs i*16777216<4294967296:=Nat.xor_lt_two_pow (n:=32) hk (by omega)
   have hX:bits .xor .u32 (PM.K bs i:Int) ((bs i:Int)*16777216)=((PM.K bs i ^^^ bs i*16777216:Nat):Int):=by
    have:=u32_xor_nat (PM.K bs i) (bs i*16777216) hk (by omega)
    rw[← this];simp
   generalize PM.K bs i ^^^ bs i*16777216=y at *
   go_wp2
   go_loop [3,17] (fun s c=>∃ j:Nat,j≤8∧c=.int .i64 j∧s=.int .u32 (PM.txs j y:Nat)) (fun _ c=>8 - (intOf c).toNat)
   case atStart=>exact⟨0,by omega,rfl,rfl⟩
   case round=>
    obtain⟨j,hj,rfl,rfl⟩:=hrel
    by_cases hlt2:j<8
    ·have hr:=PM.txs_lt hx j
     go_wp2_with (go_at_call 174;refine (pS _ _ hr).mono ?_;rintro e w' ⟨rfl,rfl⟩)
     go_round
     case rel=>exact⟨j+1,by omega,by go_num,rfl⟩
     case measure=>simp[intOf] <;> omega
    ·go_wp2
     go_round
     case rel=>exact⟨i+1,by omega,by go_num,by rw[HK.out,show j=8 by omega]⟩
     case measure=>simp[intOf] <;> omega
  ·clear hc
   go_wp2
   go_ret
   exact⟨by rw[show i=len by omega];rfl,rfl⟩
theorem pI (a:Option Addr) (cap:Nat) (w:World) :
  Calls prog 139 #[.slice a 0 cap] w fun e w'=>e=.returned (.int .u32 0)∧w'=w:=by
 go_enter func139,ntmps139
 go_wp2
 refine wp_loop_rounds 1 ?_
 rw[rounds_succ]
 go_wp2
 go_ret
 exact⟨rfl,rfl⟩
theorem iZ (a:Option Addr) (len cap:Nat) (bs:Nat→Nat) (w:World) (hr:Row8 w a len cap bs) (hlen:len≤9223372036854775807) :
  Calls prog 139 #[.slice a len cap] w fun e w'=>e=.returned (.int .u32 (PM.K bs len:Nat))∧w'=w:=by
 by_cases hz:len=0
 ·subst hz;rw[PM.K_zero];exact pI a cap w
 ·obtain⟨b,off,rfl,_,hc⟩:=hr.plain (by omega)
  exact qY b off len cap bs w hlen hc
theorem nw (x0 x1 x2 x3:Nat) (h0:x0<256) (h1:x1<256) (h2:x2<256) (h3:x3<256) :
  bits .or .u32 (bits .or .u32 (bits .or .u32 ((x0:Int)*16777216) ((x1:Int)*65536)) ((x2:Int)*256)) (x3:Int)=((x0*16777216+x1*65536+x2*256+x3:Nat):Int):=by
 have e0:(x0:Int)*16777216=((x0*16777216:Nat):Int):=by omega
 have e1:(x1:Int)*65536=((x1*65536:Nat):Int):=by omega
 have e2:(x2:Int)*256=((x2*256:Nat):Int):=by omega
 rw[e0,e1,e2,ko _ _ 24 (by omega) (by omega) (by omega) (by omega),ko _ _ 16 (by omega) (by omega) (by omega) (by omega),ko _ _ 8 (by omega) (by omega) (by omega) (by omega)]
theorem ua (b off len cap x0 x1 x2 x3:Nat) (w:World) (hlen:(3:Int) < (len:Int)) (h0:x0<256) (h1:x1<256) (h2:x2<256) (h3:x3<256)
  (c0:w.cell? ⟨b,off,none⟩=some (.int .u8 x0)) (c1:w.cell? ⟨b,off+1,none⟩=some (.int .u8 x1)) (c2:w.cell? ⟨b,off+2,none⟩=some (.int .u8 x2)) (c3:w.cell? ⟨b,off+3,none⟩=some (.int .u8 x3)) :
  Calls prog 175 #[.slice (af b off) len cap] w fun e w'=>e=.returned (.int .u32 ((x0*16777216+x1*65536+x2*256+x3:Nat):Int))∧∃ m,w'=w.drewN m:=by
 have hn:=nw x0 x1 x2 x3 h0 h1 h2 h3
 have l0:(0:Int) < (len:Int):=by omega
 have l1:(1:Int) < (len:Int):=by omega
 have l2:(2:Int) < (len:Int):=by omega
 generalize x0*16777216+x1*65536+x2*256+x3=y at *
 go_enter func175,ntmps175
 go_wp2_with fail
 go_quiet (fail)
 go_wp2
 go_ret
 exact⟨rfl,_,rfl⟩
theorem m9 (a:Option Addr) (len cap:Nat) (w:World) (h:len<4) :
  Calls prog 140 #[.slice a len cap] w fun e w'=>e=.returned (.bool false)∧∃ m,w'=w.drewN m:=by
 have hd:decide ((0:Int) ≤ (len:Int)-4)=false:=by simp;omega
 have hd2:decide ((4:Int) ≤ (len:Int))=false:=by simp;omega
 have hd3:decide (4≤len)=false:=by simp;omega
 go_enter func140,ntmps140
 go_wp2_with fail
 go_quiet (fail)
 go_wp2
 go_ret
 exact⟨rfl,_,rfl⟩
theorem oR (b off len cap:Nat) (bs:Nat→Nat) (w:World) (h:4≤len) (hr:Row8 w (af b off) len cap bs) (hlen:len≤9223372036854775807) :
  Calls prog 140 #[.slice (af b off) len cap] w fun e w'=>e=.returned (.bool (decide (PM.R PM.g 32 (PM.V (PM.fb bs) (8*len))=0)))∧∃ m,w'=w.drewN m:=by
 obtain⟨n,rfl⟩:∃ n,len=n+4:=⟨len-4,by omega⟩
 have hcap:=hr.le
 have HV:=PM.valid_iff bs n hr.byte
 have hdec:((bs n*16777216+bs (n+1)*65536+bs (n+2)*256+bs (n+3):Nat) == PM.K bs n)=decide (PM.R PM.g 32 (PM.V (PM.fb bs) (8 * (n+4)))=0):=by
  rw[← decide_eq_decide.2 HV];rfl
 have hdec2:(((bs n*16777216+bs (n+1)*65536+bs (n+2)*256+bs (n+3):Nat):Int) == ((PM.K bs n:Nat):Int))=decide (PM.R PM.g 32 (PM.V (PM.fb bs) (8 * (n+4)))=0):=by
  rw[← hdec,Bool.eq_iff_iff];simp;omega
 have hA:=fun k=>(hr.drewN k).upto n (by omega)
 have hW:∀ k c,Calls prog 175 #[.slice (af b (off+n)) 4 c] (w.drewN k) fun e w'=>e=.returned (.int .u32 ((bs n*16777216+bs (n+1)*65536+bs (n+2)*256+bs (n+3):Nat):Int))∧∃ m,w'=(w.drewN k).drewN m:=by
  intro k c
  have R:=(hr.drewN k).from_ n (by omega)
  have s:=R.src _ rfl
  have q:=R.byte
  have t0:=s 0 (by omega);have t1:=s 1 (by omega);have t2:=s 2 (by omega);have t3:=s 3 (by omega)
  rw[Go.WideShapes.add_plain]at t0 t1 t2 t3
  exact ua b (off+n) 4 c _ _ _ _ _ (by omega) (q 0 (by omega)) (q 1 (by omega)) (q 2 (by omega)) (q 3 (by omega)) t0 t1 t2 t3
 have hB:=fun k=>iZ _ _ _ _ _ (hA k) (by omega)
 clear hr HV hA
 generalize decide (PM.R PM.g 32 (PM.V (PM.fb bs) (8 * (n+4)))=0)=D at *
 generalize PM.K bs n=Z at *
 generalize bs n*16777216+bs (n+1)*65536+bs (n+2)*256+bs (n+3)=Y at *
 clear hdec
 have hd:decide ((0:Int) ≤ ((n+4:Nat):Int)-4)=true:=by simp
 go_enter func140,ntmps140
 go_wp2_with fail
 go_quiet (first | (go_at_call 175;refine Calls.quiet_of (hW _ _)) | (go_at_call 139;refine Calls.quiet_of_same (hB _)))
 go_wp2
 go_ret
 exact⟨rfl,_,rfl⟩
theorem kY (a:Option Addr) (len cap:Nat) (bs:Nat→Nat) (w:World) (hr:Row8 w a len cap bs) (hlen:len≤9223372036854775807) :
  Calls prog 140 #[.slice a len cap] w fun e w'=>e=.returned (.bool (decide (4≤len∧PM.R PM.g 32 (PM.V (PM.fb bs) (8*len))=0)))∧∃ m,w'=w.drewN m:=by
 by_cases h:4≤len
 ·obtain⟨b,off,rfl,_,_⟩:=hr.plain (by omega)
  have:=oR b off len cap bs w h hr hlen
  simpa [h] using this
 ·have:=m9 a len cap w (by omega)
  simpa [h] using this
theorem aak (w:World) (x:Nat) (hx:x<4294967296) :
  Row8 (w.alloc (.cells #[.int .u8 ((x:Int) / 16777216),.int .u8 ((x:Int) / 65536 % 256),.int .u8 ((x:Int) / 256 % 256),.int .u8 ((x:Int) % 256)] 5)) (af w.heap.size 0) 4 4 (PM.w4 x):=by
 refine nH w _ _ (PM.w4 x) 4 (fun i _=>PM.w4_lt x i) (fun i hi=>?_)
 have e0:(x:Int) / 16777216=((PM.w4 x 0:Nat):Int):=by show _=((x / 16777216 % 256:Nat):Int);omega
 have e1:(x:Int) / 65536 % 256=((PM.w4 x 1:Nat):Int):=by show _=((x / 65536 % 256:Nat):Int);omega
 have e2:(x:Int) / 256 % 256=((PM.w4 x 2:Nat):Int):=by show _=((x / 256 % 256:Nat):Int);omega
 have e3:(x:Int) % 256=((PM.w4 x 3:Nat):Int):=by show _=((x % 256:Nat):Int);omega
 rw[e0,e1,e2,e3]
 rcases (show i=0∨i=1∨i=2∨i=3 by omega) with rfl | rfl | rfl | rfl <;> rfl
theorem td (a:Option Addr) (len cap:Nat) (bs:Nat→Nat) (w:World) (hr:Row8 w a len cap bs) (hlen:len≤1000000) :
  Calls prog 116 #[.slice a len cap] w fun e w'=>∃ v,e=.returned v∧w'.ownsRow w.heap.size 5 1 v (len+4) (CB (PM.sl bs len) (len+4))∧Below w.heap.size w w':=by
 obtain⟨i0,hi,hz0,hz1,hz2⟩:=info_parts bY
 have hk:=PM.K_lt bs len
 go_enter func116,ntmps116
 go_wp2_with (at_make;refine aZ _ rfl (.tmp 6) (.tmp 9) 22 rfl w.heap.size 5 i0 underlying22 hi hz0 hz1 hz2 _ _ _ _ len (len+4) rfl rfl rfl ?b1 (by omega) (by omega) ?b2 ?_)
 case b1=>omega
 case b2=>exact Nat.le_refl _
 intro w1 hown1 hbel1
 have R1:=hr.below hbel1
 go_wp2_with (refine ik rfl (.tmp 11) (.tmp 12) 22 22 rfl 5 underlying22 jA w.heap.size w.heap.size len (len+4) _ rfl hown1 a len cap bs rfl R1 w hbel1 ?_)
 intro w2 hown2 hbel2
 rw[dw _ bs len (fun i hi=>if_pos hi)]at hown2
 have R2:=hr.below hbel2
 have hB:=iZ a len cap bs w2 R2 (by omega)
 have hsz2:=hbel2.size
 have hown3:=hown2.alloc (.cells #[.int .u8 ((PM.K bs len:Int) / 16777216),.int .u8 ((PM.K bs len:Int) / 65536 % 256),.int .u8 ((PM.K bs len:Int) / 256 % 256),.int .u8 ((PM.K bs len:Int) % 256)] 5)
 have hbel3:=hbel2.alloc hsz2 (.cells #[.int .u8 ((PM.K bs len:Int) / 16777216),.int .u8 ((PM.K bs len:Int) / 65536 % 256),.int .u8 ((PM.K bs len:Int) / 256 % 256),.int .u8 ((PM.K bs len:Int) % 256)] 5)
 have R4:=aak w2 (PM.K bs len) hk
 have hsz3:=hbel3.size
 have HS:Hid (CB bs len ++ CB (PM.w4 (PM.K bs len)) 4=CB (PM.sl bs len) (len+4)):=rJ _ _ _ _
 clear hown1 hown2 hbel1 hbel2 R1 R2
 generalize PM.K bs len=k at *
 go_wp2_with (first | (go_at_call 139;refine hB.mono ?_;rintro e w' ⟨rfl,rfl⟩) | (at_builtin;refine aT rfl (.tmp 16) (.tmp 28) 22 rfl w.heap.size 5 i0 (.int .u8 0) underlying22 hi hz0 hz1 hz2 rfl _ len _ rfl hown3 (af w'.heap.size 0) 4 4 (PM.w4 k) rfl R4 (by unfold maxLen;omega) (by omega) hsz3 ?_))
 intro v w4 hown4 hgrow4
 have hbel4:Below w.heap.size w w4:=hbel3.grown hgrow4 hsz3 (fun j hj=>(hown3.lt j hj).1)
 rw[HS.out]at hown4
 clear hown3 hgrow4 hbel3 R4
 go_wp2
 go_ret
 exact⟨_,rfl,hown4,hbel4⟩
theorem by0 (a b c d:Nat) (hb:b<256) (hc:c<256) (hd:d<256):(a*16777216+b*65536+c*256+d) / 16777216=a:=by omega
theorem by1 (a b c d:Nat) (hc:c<256) (hd:d<256):(a*16777216+b*65536+c*256+d) / 65536=a*256+b:=by omega
theorem by2 (a b c d:Nat) (hd:d<256):(a*16777216+b*65536+c*256+d) / 256=a*65536+b*256+c:=by omega
theorem xJ (bs:Nat→Nat) (n k:Nat) (hk:k<4294967296) (h0:bs n<256) (h1:bs (n+1)<256) (h2:bs (n+2)<256) (h3:bs (n+3)<256) :
  (∀ i,i<4→bs (n+i)=PM.w4 k i) ↔ bs n*16777216+bs (n+1)*65536+bs (n+2)*256+bs (n+3)=k:=by
 have hv:=PM.V_w4 k hk
 rw[PM.V4 _ (fun i _=>PM.w4_lt k i)]at hv
 constructor
 ·intro h
  have e0:=h 0 (by omega)
  rw[Nat.add_zero]at e0
  rw[e0,h 1 (by omega),h 2 (by omega),h 3 (by omega)]
  exact hv
 ·intro h
  have c0:PM.w4 k 0=bs n:=by
   unfold PM.w4
   rw[if_pos rfl,← h,by0 _ _ _ _ h1 h2 h3,Nat.mod_eq_of_lt h0]
  have c1:PM.w4 k 1=bs (n+1):=by
   unfold PM.w4
   rw[if_neg (by omega),if_pos rfl,← h,by1 _ _ _ _ h2 h3]
   omega
  have c2:PM.w4 k 2=bs (n+2):=by
   unfold PM.w4
   rw[if_neg (by omega),if_neg (by omega),if_pos rfl,← h,by2 _ _ _ _ h3]
   omega
  have c3:PM.w4 k 3=bs (n+3):=by
   unfold PM.w4
   rw[if_neg (by omega),if_neg (by omega),if_neg (by omega),← h]
   omega
  intro i hi
  by_cases e0:i=0
  ·rw[e0,c0,Nat.add_zero]
  ·by_cases e1:i=1
   ·rw[e1,c1]
   ·by_cases e2:i=2
    ·rw[e2,c2]
    ·rw[show i=3 by omega,c3]
end Go.Proofs.YtfgnmadnmjdbiaaGreat
