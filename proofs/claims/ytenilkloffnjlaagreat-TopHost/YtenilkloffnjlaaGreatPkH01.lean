/- Part 2: contracts that the proof rests on. -/
import Derived.WalkKit
import Derived.Laws.BitsAllLaws
import Derived.Test.YtenilkloffnjlaaGreatProg
import Derived.WalkSpells
import Derived.Lib.BitFns
import Derived.Deep.QuietTactic
import Derived.BigQuiet
import Derived.Laws.AppendOwnNone
import Derived.Lib.SlBytesConst
import Derived.Laws.BytesString
import Derived.Deep.RegionWith
import Derived.Deep.DeepCutAuto
import Derived.Test.YtenilkloffnjlaaGreatPkH00
set_option maxHeartbeats 64000000
set_option maxRecDepth 100000
namespace Go.Proofs.YtenilkloffnjlaaGreat.PM
theorem se (a b:Nat):a ^^^ b ^^^ b=a:=by rw[Nat.xor_assoc,Nat.xor_self,Nat.xor_zero]
theorem jd (a b c d:Nat):(a ^^^ b) ^^^ (c ^^^ d)=(a ^^^ c) ^^^ (b ^^^ d):=by
 rw[Nat.xor_assoc,Nat.xor_assoc,← Nat.xor_assoc b c d,Nat.xor_comm b c,Nat.xor_assoc c b d]
theorem jP {a b:Nat} (h:a ^^^ b=0):a=b:=by
 have:=se a b;rw[h,Nat.zero_xor]at this;exact this.symm
theorem gG (a b:Nat):2 * (a ^^^ b)=2*a ^^^ 2*b:=by
 have:=@Nat.shiftLeft_xor_distrib 1 a b
 simpa [Nat.shiftLeft_eq,Nat.mul_comm] using this
theorem dbl_add (a x:Nat) (hx:x<2):2*a+x=2*a ^^^ x:=by
 apply Nat.eq_of_testBit_eq
 intro i
 cases i with
 | zero=>
  rw[Nat.testBit_xor]
  simp only[Nat.testBit_zero]
  have h1:(2*a+x) % 2=x:=by omega
  have h2:(2*a) % 2=0:=by omega
  have h3:x % 2=x:=by omega
  rw[h1,h2,h3];simp
 | succ i=>
  rw[Nat.testBit_xor,Nat.testBit_succ,Nat.testBit_succ,Nat.testBit_succ]
  have h1:(2*a+x) / 2=a:=by omega
  have h2:(2*a) / 2=a:=by omega
  have h3:x / 2=0:=by omega
  rw[h1,h2,h3];simp
theorem kT {x y:Nat} (hx:x<2) (hy:y<2):x ^^^ y<2:=@Nat.xor_lt_two_pow x y 1 hx hy
theorem jW (a b x y:Nat) (hx:x<2) (hy:y<2):(2*a+x) ^^^ (2*b+y)=2 * (a ^^^ b) + (x ^^^ y):=by
 rw[dbl_add a x hx,dbl_add b y hy,dbl_add (a ^^^ b) _ (kT hx hy),gG,jd]
theorem xG (a b:Nat):(a ^^^ b) % 2=(a % 2 ^^^ b % 2):=by
 have:=jW (a / 2) (b / 2) (a % 2) (b % 2) (by omega) (by omega)
 have h1:2 * (a / 2)+a % 2=a:=by omega
 have h2:2 * (b / 2)+b % 2=b:=by omega
 rw[h1,h2]at this
 have:=kT (x:=a % 2) (y:=b % 2) (by omega) (by omega)
 omega
def stp (m d t:Nat):Nat:=if t.testBit d then t ^^^ m else t
theorem xe (m d:Nat):stp m d 0=0:=by simp[stp]
theorem zu (m d s t:Nat):stp m d (s ^^^ t)=stp m d s ^^^ stp m d t:=by
 unfold stp
 rw[Nat.testBit_xor]
 cases s.testBit d <;> cases t.testBit d <;> simp
 ·exact Nat.xor_assoc _ _ _
 ·rw[Nat.xor_assoc,Nat.xor_comm t m,← Nat.xor_assoc]
 ·rw[jd,Nat.xor_self,Nat.xor_zero]
theorem iz {x n:Nat} (h:x<2 ^ (n+1)) (hb:x.testBit n=false):x<2 ^ n:=by
 apply Nat.lt_pow_two_of_testBit
 intro i hi
 by_cases e:i=n
 ·subst e;exact hb
 ·exact Nat.testBit_lt_two_pow (Nat.lt_of_lt_of_le h (Nat.pow_le_pow_right (by omega) (by omega)))
structure Deg (m d:Nat):Prop where
 lt:m<2 ^ (d+1)
 top:m.testBit d=true
theorem Deg.pos {m d:Nat} (h:Deg m d):m≠0:=by
 intro e;have:=h.top;rw[e]at this;simp at this
theorem Deg.le {m d:Nat} (h:Deg m d):2 ^ d≤m:=Nat.ge_two_pow_of_testBit h.top
theorem deg_log2 {m:Nat} (h:m≠0):Deg m m.log2:=by
 have h1:=Nat.log2_self_le h
 have h2:=@Nat.lt_log2_self m
 refine⟨h2,?_⟩
 cases hb:m.testBit m.log2
 ·exact absurd (iz h2 hb) (by omega)
 ·rfl
theorem Deg.log2 {m d:Nat} (h:Deg m d):m.log2=d:=(Nat.log2_eq_iff h.pos).2 ⟨h.le,h.lt⟩
theorem xc {m d t:Nat} (hm:Deg m d) (ht:t<2 ^ (d+1)):stp m d t<2 ^ d:=by
 unfold stp
 split
 ·rename_i h
  apply iz (Nat.xor_lt_two_pow ht hm.lt)
  rw[Nat.testBit_xor,h,hm.top];rfl
 ·rename_i h
  exact iz ht (by simpa using h)
theorem mN {m d t:Nat} (ht:t<2 ^ d):stp m d t=t:=by
 unfold stp;rw[Nat.testBit_lt_two_pow ht];rfl
def rm (m d:Nat):Nat→Nat→Nat
 | 0,_=>0
 | k+1,n=>stp m d (2*rm m d k (n / 2)+n % 2)
def R (m d n:Nat):Nat:=rm m d n n
theorem aaa {m d:Nat} (hm:Deg m d) (k n:Nat):rm m d k n<2 ^ d:=by
 cases k with
 | zero=>exact Nat.two_pow_pos d
 | succ k=>
  refine xc hm ?_
  have:=aaa hm k (n / 2)
  rw[Nat.pow_succ];omega
theorem zc (m d:Nat) (k:Nat):∀ n,n<2 ^ k→rm m d (k+1) n=rm m d k n:=by
 induction k with
 | zero=>
      intro n hn;have:n=0:=by omega
      subst this;simp[rm,xe]
 | succ k ih=>
  intro n hn
  show stp m d (2*rm m d (k+1) (n / 2)+n % 2)=stp m d (2*rm m d k (n / 2)+n % 2)
  rw[ih (n / 2) (by rw[Nat.pow_succ]at hn;omega)]
theorem mJ (m d k n:Nat) (hn:n<2 ^ k) (j:Nat):rm m d (k+j) n=rm m d k n:=by
 induction j with
 | zero=>rfl
 | succ j ih=>
  rw[← Nat.add_assoc,zc m d (k+j) n (Nat.lt_of_lt_of_le hn (Nat.pow_le_pow_right (by omega) (by omega))),ih]
theorem bF (n:Nat):n<2 ^ n:=Nat.lt_two_pow_self
theorem j7 (m d k n:Nat) (hn:n<2 ^ k):rm m d k n=R m d n:=by
 unfold R
 rcases Nat.le_total k n with h | h
 ·obtain⟨j,rfl⟩:=Nat.exists_eq_add_of_le h
  exact (mJ m d k _ hn j).symm
 ·obtain⟨j,rfl⟩:=Nat.exists_eq_add_of_le h
  exact mJ m d n n (bF n) j
theorem R_lt {m d:Nat} (hm:Deg m d) (n:Nat):R m d n<2 ^ d:=aaa hm n n
theorem aas (m d:Nat):R m d 0=0:=rfl
theorem zK (m d n b:Nat) (hb:b<2):R m d (2*n+b)=stp m d (2*R m d n+b):=by
 have h1:2*n+b<2 ^ (n+1):=by
  have:=bF n;rw[Nat.pow_succ];omega
 rw[← j7 m d (n+1) _ h1]
 show stp m d (2*rm m d n ((2*n+b) / 2) + (2*n+b) % 2)=_
 have e1:(2*n+b) / 2=n:=by omega
 have e2:(2*n+b) % 2=b:=by omega
 rw[e1,e2];rfl
theorem qN (m d n:Nat):R m d (2*n)=stp m d (2*R m d n):=zK m d n 0 (by omega)
theorem abi (m d:Nat) (k:Nat):∀ a b,rm m d k (a ^^^ b)=rm m d k a ^^^ rm m d k b:=by
 induction k with
 | zero=>intro a b;simp[rm]
 | succ k ih=>
  intro a b
  show stp m d (2*rm m d k ((a ^^^ b) / 2) + (a ^^^ b) % 2)=_
  rw[Nat.xor_div_two,xG,ih,← jW _ _ _ _ (by omega) (by omega),zu]
  rfl
theorem R_xor (m d a b:Nat):R m d (a ^^^ b)=R m d a ^^^ R m d b:=by
 have ha:a<2 ^ (a+b):=Nat.lt_of_lt_of_le (bF a) (Nat.pow_le_pow_right (by omega) (by omega))
 have hb:b<2 ^ (a+b):=Nat.lt_of_lt_of_le (bF b) (Nat.pow_le_pow_right (by omega) (by omega))
 rw[← j7 m d _ _ (Nat.xor_lt_two_pow ha hb),abi,j7 m d _ _ ha,j7 m d _ _ hb]
theorem wN (m d:Nat) (k:Nat):∀ n,n<2 ^ d→n<2 ^ k→rm m d k n=n:=by
 induction k with
 | zero=>
      intro n _ hn;have:n=0:=by omega
      subst this;rfl
 | succ k ih=>
  intro n hd hn
  show stp m d (2*rm m d k (n / 2)+n % 2)=n
  rw[ih (n / 2) (by omega) (by rw[Nat.pow_succ]at hn;omega)]
  have e:2 * (n / 2)+n % 2=n:=by omega
  rw[e,mN hd]
theorem iH (m d n:Nat) (h:n<2 ^ d):R m d n=n:=wN m d n n h (bF n)
theorem R_R {m d:Nat} (hm:Deg m d) (n:Nat):R m d (R m d n)=R m d n:=iH m d _ (R_lt hm n)
def cl (a b:Nat):Nat→Nat
 | 0=>0
 | k+1=>cl a b k ^^^ (if b.testBit k then a <<< k else 0)
def C (a b:Nat):Nat:=cl a b b
theorem l9 (a b k:Nat) (hb:b<2 ^ k) (j:Nat):cl a b (k+j)=cl a b k:=by
 induction j with
 | zero=>rfl
 | succ j ih=>
  show cl a b (k+j) ^^^ (if b.testBit (k+j) then a <<< (k+j) else 0)=_
  rw[Nat.testBit_lt_two_pow (Nat.lt_of_lt_of_le hb (Nat.pow_le_pow_right (by omega) (by omega))),ih]
  simp
theorem jU (a b k:Nat) (hb:b<2 ^ k):cl a b k=C a b:=by
 unfold C
 rcases Nat.le_total k b with h | h
 ·obtain⟨j,e⟩:=Nat.exists_eq_add_of_le h
  rw[e];rw[e]at hb
  exact (l9 a _ k hb j).symm
 ·obtain⟨j,rfl⟩:=Nat.exists_eq_add_of_le h
  exact l9 a b b (bF b) j
theorem aam (a:Nat):C a 0=0:=rfl
theorem nl (b k:Nat):cl 0 b k=0:=by
 induction k with
 | zero=>rfl
 | succ k ih=>simp[cl,ih]
theorem gn (b:Nat):C 0 b=0:=nl b b
theorem oP (a c b k:Nat):cl (a ^^^ c) b k=cl a b k ^^^ cl c b k:=by
 induction k with
 | zero=>simp[cl]
 | succ k ih=>
  show cl (a ^^^ c) b k ^^^ _=(cl a b k ^^^ _) ^^^ (cl c b k ^^^ _)
  rw[ih]
  cases b.testBit k
  ·simp
  ·simp[Nat.shiftLeft_xor_distrib];rw[jd]
theorem ip (a c b:Nat):C (a ^^^ c) b=C a b ^^^ C c b:=oP a c b b
theorem ni (a b c k:Nat):cl a (b ^^^ c) k=cl a b k ^^^ cl a c k:=by
 induction k with
 | zero=>simp[cl]
 | succ k ih=>
  show cl a (b ^^^ c) k ^^^ _=(cl a b k ^^^ _) ^^^ (cl a c k ^^^ _)
  rw[ih,Nat.testBit_xor]
  cases b.testBit k <;> cases c.testBit k
  ·simp
  ·simp[Nat.xor_assoc]
  ·simp;rw[Nat.xor_assoc,Nat.xor_assoc,Nat.xor_comm (a <<< k)]
  ·simp;rw[jd,Nat.xor_self,Nat.xor_zero]
theorem jH (a b c:Nat):C a (b ^^^ c)=C a b ^^^ C a c:=by
 have hb:b<2 ^ (b+c):=Nat.lt_of_lt_of_le (bF b) (Nat.pow_le_pow_right (by omega) (by omega))
 have hc:c<2 ^ (b+c):=Nat.lt_of_lt_of_le (bF c) (Nat.pow_le_pow_right (by omega) (by omega))
 rw[← jU a _ _ (Nat.xor_lt_two_pow hb hc),ni,jU a _ _ hb,jU a _ _ hc]
theorem zl (a k:Nat):(2*a) <<< k=2 * (a <<< k):=by
 rw[Nat.shiftLeft_eq,Nat.shiftLeft_eq,Nat.mul_assoc]
theorem wQ (a k:Nat):a <<< (k+1)=2 * (a <<< k):=by
 rw[Nat.shiftLeft_eq,Nat.shiftLeft_eq,Nat.pow_succ,← Nat.mul_assoc,Nat.mul_comm]
theorem oO (a b k:Nat):cl (2*a) b k=2*cl a b k:=by
 induction k with
 | zero=>rfl
 | succ k ih=>
  show cl (2*a) b k ^^^ _=2 * (cl a b k ^^^ _)
  rw[ih,gG]
  cases b.testBit k <;> simp[zl]
theorem qM (a b:Nat):C (2*a) b=2*C a b:=oO a b b
theorem nh (a b k:Nat):cl a (2*b) (k+1)=2*cl a b k:=by
 induction k with
 | zero=>
  show cl a (2*b) 0 ^^^ _=0
  have:(2*b).testBit 0=false:=by simp
  rw[this];simp[cl]
 | succ k ih=>
  show cl a (2*b) (k+1) ^^^ (if (2*b).testBit (k+1) then a <<< (k+1) else 0)=2 * (cl a b k ^^^ _)
  have e:(2*b).testBit (k+1)=b.testBit k:=by
   rw[Nat.testBit_succ];congr 1;omega
  rw[ih,gG,e]
  cases b.testBit k <;> simp[wQ]
theorem dG (a b:Nat):C a (2*b)=2*C a b:=by
 have h:2*b<2 ^ (b+1):=by have:=bF b;rw[Nat.pow_succ];omega
 rw[← jU a _ _ h,nh];rfl
theorem ep (a:Nat):C a 1=a:=by
 show cl a 1 0 ^^^ _=a
 have:(1:Nat).testBit 0=true:=rfl
 rw[this];simp[cl]
theorem aby (a b:Nat) (h:b<2):C a b=if b=1 then a else 0:=by
 have:b=0∨b=1:=by omega
 rcases this with rfl | rfl
 ·rfl
 ·rw[ep];rfl
theorem oG (a b x:Nat) (hx:x<2):C a (2*b+x)=2*C a b ^^^ (if x=1 then a else 0):=by
 rw[dbl_add b x hx,jH,dG,aby a x hx]
theorem kf (k:Nat):∀ b,b<2 ^ k→C 1 b=b:=by
 induction k with
 | zero=>
      intro b hb;have:b=0:=by omega
      subst this;rfl
 | succ k ih=>
  intro b hb
  have e:2 * (b / 2)+b % 2=b:=by omega
  rw[← e,oG 1 _ _ (by omega),ih (b / 2) (by rw[Nat.pow_succ]at hb;omega),dbl_add _ _ (by omega)]
  congr 1
  split <;> omega
theorem qL (b:Nat):C 1 b=b:=kf b b (bF b)
theorem qJ (a b:Nat) (h:a<2):C a b=if a=1 then b else 0:=by
 have:a=0∨a=1:=by omega
 rcases this with rfl | rfl
 ·rw[gn];rfl
 ·rw[qL];rfl
theorem qK (k:Nat):∀ a b,b<2 ^ k→C a b=C b a:=by
 induction k with
 | zero=>
      intro a b hb;have:b=0:=by omega
      subst this;rw[aam,gn]
 | succ k ih=>
  intro a b hb
  have e:2 * (b / 2)+b % 2=b:=by omega
  rw[← e,oG a _ _ (by omega),dbl_add _ _ (by omega),ip,qM,qJ (b % 2) a (by omega),ih a (b / 2) (by rw[Nat.pow_succ]at hb;omega)]
theorem aal (a b:Nat):C a b=C b a:=qK b a b (bF b)
theorem oF (k:Nat):∀ a b c,c<2 ^ k→C (C a b) c=C a (C b c):=by
 induction k with
 | zero=>
      intro a b c hc;have:c=0:=by omega
      subst this;rfl
 | succ k ih=>
  intro a b c hc
  have e:2 * (c / 2)+c % 2=c:=by omega
  rw[← e,oG _ _ _ (by omega),oG _ _ _ (by omega),jH,dG,ih a b (c / 2) (by rw[Nat.pow_succ]at hc;omega)]
  congr 1
  split <;> rfl
theorem mZ (a b c:Nat):C (C a b) c=C a (C b c):=oF c a b c (bF c)
theorem C_pow_right (a k:Nat):C a (2 ^ k)=a*2 ^ k:=by
 induction k with
 | zero=>simp[ep]
 | succ k ih=>rw[Nat.pow_succ,Nat.mul_comm (2 ^ k) 2,dG,ih];rw[Nat.mul_left_comm]
theorem td (a b:Nat):C (2 ^ a) (2 ^ b)=2 ^ (a+b):=by rw[C_pow_right,Nat.pow_add]
theorem sg (m d a b x:Nat) (hx:x<2):R m d (C a (2*b+x))=stp m d (2*R m d (C a b)) ^^^ (if x=1 then R m d a else 0):=by
 rw[oG a b x hx,R_xor,qN]
 congr 1
 split
 ·rfl
 ·rfl
theorem m9 {m d:Nat} (hm:Deg m d) (k:Nat):∀ a b,b<2 ^ k→R m d (C (R m d a) b)=R m d (C a b):=by
 induction k with
 | zero=>
      intro a b hb;have:b=0:=by omega
      subst this;rfl
 | succ k ih=>
  intro a b hb
  have e:2 * (b / 2)+b % 2=b:=by omega
  rw[← e,sg m d _ _ _ (by omega),sg m d _ _ _ (by omega),ih a (b / 2) (by rw[Nat.pow_succ]at hb;omega),R_R hm]
theorem uH {m d:Nat} (hm:Deg m d) (a b:Nat):R m d (C (R m d a) b)=R m d (C a b):=m9 hm b a b (bF b)
theorem log2_lt64 {q:Nat} (h0:q≠0) (h:q<2 ^ 64):q.log2<64:=(Nat.log2_lt h0).2 h
def bl (n:Nat):Nat:=if n=0 then 0 else n.log2+1
theorem bl_zero:bl 0=0:=rfl
theorem bl_pos {n:Nat} (h:n≠0):bl n=n.log2+1:=by simp[bl,h]
theorem bl_le {n k:Nat} (h:n<2 ^ k):bl n≤k:=by
 unfold bl
 split
 ·omega
 ·rename_i h0;have:=(Nat.log2_lt h0).2 h;omega
theorem lt_bl (n:Nat):n<2 ^ bl n:=by
 unfold bl
 split
 ·subst_vars;decide
 ·exact Nat.lt_log2_self
theorem shr_step (q k j:Nat) (h:j=k+1):q >>> k=2 * (q >>> j) + (q.testBit k).toNat:=by
 subst h
 rw[Nat.toNat_testBit,Nat.shiftRight_eq_div_pow,Nat.shiftRight_eq_div_pow,Nat.pow_succ,← Nat.div_div_eq_div_mul]
 omega
theorem pP (p i:Nat):p % 2 ^ (i+1)=p % 2 ^ i+2 ^ i * (p.testBit i).toNat:=by
 rw[Nat.toNat_testBit,Nat.pow_succ,Nat.mod_mul]
theorem vX {p i:Nat} (h:p.testBit i=true):p % 2 ^ (i+1)=p % 2 ^ i+2 ^ i:=by
 rw[pP,h];simp
theorem tU {p i:Nat} (h:p.testBit i=false):p % 2 ^ (i+1)=p % 2 ^ i:=by
 rw[pP,h];simp
theorem bl_mod_true {p i:Nat} (h:p.testBit i=true):bl (p % 2 ^ (i+1))=i+1:=by
 have h1:p % 2 ^ (i+1)<2 ^ (i+1):=Nat.mod_lt _ (Nat.two_pow_pos _)
 have h2:=vX h
 have h0:p % 2 ^ (i+1)≠0:=by have:=Nat.two_pow_pos i;omega
 have h3:(p % 2 ^ (i+1)).log2=i:=(Nat.log2_eq_iff h0).2 ⟨by omega,h1⟩
 rw[bl_pos h0,h3]
theorem bl_mod_false {p i:Nat} (h:p.testBit i=false):bl (p % 2 ^ (i+1))=bl (p % 2 ^ i):=by rw[tU h]
def V (f:Nat→Bool):Nat→Nat
 | 0=>0
 | i+1=>2*V f i + (f i).toNat
theorem iI (f g:Nat→Bool) (n:Nat) (h:∀ i,i<n→f i=g i):V f n=V g n:=by
 induction n with
 | zero=>rfl
 | succ n ih=>
  show 2*V f n + (f n).toNat=2*V g n + (g n).toNat
  rw[ih (fun i hi=>h i (by omega)),h n (by omega)]
theorem R_V (m d:Nat) (f:Nat→Bool) (i:Nat):R m d (V f (i+1))=stp m d (2*R m d (V f i) + (f i).toNat):=by
 show R m d (2*V f i + (f i).toNat)=_
 exact zK m d _ _ (by have:=Bool.toNat_le (f i);omega)
theorem top_bit (r d b:Nat) (hb:b<2) (hd:0<d):(2*r+b).testBit d=r.testBit (d-1):=by
 obtain⟨e,rfl⟩:∃ e,d=e+1:=⟨d-1,by omega⟩
 rw[Nat.testBit_succ];congr 1;omega
def fb (bs:Nat→Nat) (n:Nat):Bool:=(bs (n / 8)).testBit (7-n % 8)
theorem fb_at (bs:Nat→Nat) (i j:Nat) (hj:j<8):fb bs (8*i+j)=(bs i).testBit (7-j):=by
 unfold fb
 rw[show (8*i+j) / 8=i by omega,show (8*i+j) % 8=j by omega]
theorem V_add (f:Nat→Bool) (n k:Nat):V f (n+k)=C (V f n) (2 ^ k) ^^^ V (fun i=>f (n+i)) k:=by
 induction k with
 | zero=>rw[Nat.pow_zero,ep];exact (Nat.xor_zero _).symm
 | succ k ih=>
  show 2*V f (n+k) + (f (n+k)).toNat=C (V f n) (2 ^ (k+1)) ^^^ (2*V (fun i=>f (n+i)) k + (f (n+k)).toNat)
  have hb:(f (n+k)).toNat<2:=by have:=Bool.toNat_le (f (n+k));omega
  rw[ih,Nat.pow_succ,Nat.mul_comm (2 ^ k) 2,dG]
  have h:=jW (C (V f n) (2 ^ k)) (V (fun i=>f (n+i)) k) 0 ((f (n+k)).toNat) (by omega) hb
  simp only[Nat.add_zero,Nat.zero_xor]at h
  rw[h]
end Go.Proofs.YtenilkloffnjlaaGreat.PM
namespace Go.Proofs.YtenilkloffnjlaaGreat
open Tryz
open Go.RowKit
theorem zm (p i:Nat) (hp:p<18446744073709551616):(p:Int) / 2 ^ min i 64=((p >>> i:Nat):Int):=by
 rw[Nat.shiftRight_eq_div_pow]
 rcases Nat.le_total i 64 with h | h
 ·rw[Nat.min_eq_left h];simp
 ·rw[Nat.min_eq_right h]
  have h1:p / 2 ^ i=0:=Nat.div_eq_of_lt (Nat.lt_of_lt_of_le hp (show 2 ^ 64≤2 ^ i from Nat.pow_le_pow_right (by omega) h))
  rw[h1]
  exact Int.ediv_eq_zero_of_lt (by omega) (by omega)
theorem xU (a:Nat) (h:a<18446744073709551616):bits .and .u64 (a:Int) 1=((a % 2:Nat):Int):=by
 have:=u64_and_nat a 1 h (by omega)
 rw[nat_mask1]at this
 exact this
theorem abl (p i:Nat) (hp:p<18446744073709551616):p >>> i<18446744073709551616:=by
 rw[Nat.shiftRight_eq_div_pow];exact Nat.lt_of_le_of_lt (Nat.div_le_self _ _) hp
theorem nW (p i:Nat):p >>> i % 2=(p.testBit i).toNat:=by
 rw[Nat.toNat_testBit,Nat.shiftRight_eq_div_pow]
theorem xX (p i:Nat) (hp:p<18446744073709551616):bits .and .u64 ((p:Int) / 2 ^ min i 64) 1=((p.testBit i).toNat:Int):=by
 rw[zm p i hp,xU _ (abl p i hp),nW]
theorem xW (p i:Nat) (hp:p<18446744073709551616):(bits .and .u64 ((p:Int) / 2 ^ min i 64) 1 != 0)=p.testBit i:=by
 rw[xX p i hp]
 cases p.testBit i <;> rfl
theorem ox (a b:Nat) (ha:a<18446744073709551616) (hb:b<18446744073709551616):bits .xor .u64 (a:Int) (b:Int)=((a ^^^ b:Nat):Int):=u64_xor_nat a b ha hb
theorem dk {k:IntKind} {a b:Int} (h:a=b):Ending.returned (.int k a)=.returned (.int k b):=by rw[h]
theorem iZ {a:Int} {b:Nat} {k:IntKind} (h:a=(b:Int)):Value.int k a=.int k b:=by rw[h]
theorem zv:∀ n:Fin 256,Lib.len8 (n.val:Int)=(PM.bl n.val:Int):=by decide +kernel
theorem rS (n:Nat) (h:n<256):Lib.len8 (n:Int)=(PM.bl n:Int):=zv ⟨n,h⟩
theorem uM (k x:Nat) (h:2 ^ k≤x):PM.bl x=k+PM.bl (x / 2 ^ k):=by
 have hp:0<2 ^ k:=Nat.two_pow_pos k
 have h1:x / 2 ^ k≠0:=by
  intro e
  have:=(Nat.div_eq_zero_iff).1 e
  omega
 have hx:x≠0:=by omega
 have a:=Nat.log2_self_le h1
 have b:=@Nat.lt_log2_self (x / 2 ^ k)
 have e:x.log2=(x / 2 ^ k).log2+k:=(Nat.log2_eq_iff hx).2
  ⟨by rw[Nat.pow_add];exact (Nat.le_div_iff_mul_le hp).1 a,by rw[show (x / 2 ^ k).log2+k+1=((x / 2 ^ k).log2+1)+k by omega,Nat.pow_add];exact (Nat.div_lt_iff_lt_mul hp).1 b⟩
 rw[PM.bl_pos hx,PM.bl_pos h1,e];omega
theorem jE (k x:Nat) (h:2 ^ k≤x) (h2:x / 2 ^ k<256) (u:Int) (hu:u=(x / 2 ^ k:Nat)):(k:Int)+Lib.len8 u=(PM.bl x:Nat):=by
 rw[hu,rS _ h2,uM k x h];omega
theorem xg (u:Int) (h0:0≤u) (h1:u≤255):0≤Lib.len8 u∧Lib.len8 u≤8:=by
 obtain⟨n,rfl⟩:=Int.eq_ofNat_of_zero_le h0
 rw[rS n (by omega)]
 have:=PM.bl_le (n:=n) (k:=8) (by omega)
 omega
theorem j9 (u:Int) (h0:0≤u) (h1:u≤255):∃ z:Int,Lib.len8 u=z∧0≤z∧z≤8 ∧
  ∀ t w,prog.underlying t=some .string→(Instr.index t (.string Lib.len8tab) (.int .u8 u)).run prog w=.ok (.int .u8 z) w:=
 ⟨_,rfl,(xg u h0 h1).1,(xg u h0 h1).2,fun t w h=>Lib.run_index_len8tab w t .u8 u h h0 h1⟩
end Go.Proofs.YtenilkloffnjlaaGreat
namespace Go.Proofs.YtenilkloffnjlaaGreat.PM
def np (p:Nat→Bool):Nat→Nat
 | 0=>0
 | n+1=>np p n + (p n).toNat
theorem uT (p:Nat→Bool) (n:Nat):np p (n+1)=np p n + (p n).toNat:=rfl
theorem uS (p:Nat→Bool) (n:Nat):np p n≤n:=by
 induction n with
 | zero=>exact Nat.le_refl _
 | succ n ih=>rw[uT];have:=Bool.toNat_le (p n);omega
theorem byte_ext {f g:Nat→Nat} {n:Nat} (hf:∀ i,i<n→f i<256) (hg:∀ i,i<n→g i<256) (h:∀ k,k<8*n→fb f k=fb g k):∀ i,i<n→f i=g i:=by
 intro i hi
 apply Nat.eq_of_testBit_eq
 intro k
 by_cases hk:k<8
 ·have:=h (8*i + (7-k)) (by omega)
  rw[fb_at f i _ (by omega),fb_at g i _ (by omega),show 7 - (7-k)=k by omega]at this
  exact this
 ·have hp:2 ^ 8≤2 ^ k:=Nat.pow_le_pow_right (by omega) (by omega)
  rw[Nat.testBit_lt_two_pow (Nat.lt_of_lt_of_le (hf i hi) hp),Nat.testBit_lt_two_pow (Nat.lt_of_lt_of_le (hg i hi) hp)]
def ly (a s x i k:Nat):Bool:=decide (a≤k∧k<a+i) && x.testBit (s-1 - (k-a))
theorem ly_zero (a s x k:Nat):ly a s x 0 k=false:=by
 unfold ly;rw[decide_eq_false (by omega)];rfl
theorem ly_succ (a s x i k:Nat):ly a s x (i+1) k=(ly a s x i k || (decide (k=a+i) && x.testBit (s-1-i))):=by
 unfold ly
 by_cases e:k=a+i
 ·subst e
  rw[decide_eq_true (show a≤a+i∧a+i<a + (i+1) by omega),decide_eq_false (show ¬ (a≤a+i∧a+i<a+i) by omega),show a+i-a=i by omega]
  simp
 ·rw[decide_eq_false e,Bool.false_and,Bool.or_false]
  congr 1
  rw[decide_eq_decide];omega
def ol (f:Nat→Nat) (k:Nat) (b:Bool) (q:Nat):Nat:=if q=k / 8 then f (k / 8) ||| b.toNat*2 ^ (7-k % 8) else f q
theorem ol_lt {f:Nat→Nat} {n:Nat} (hf:∀ i,i<n→f i<256) (k:Nat) (b:Bool) (hk:k / 8<n):∀ i,i<n→ol f k b i<256:=by
 intro i hi
 unfold ol
 by_cases h:i=k / 8
 ·rw[if_pos h]
  refine Nat.or_lt_two_pow (n:=8) (hf _ hk) ?_
  have:2 ^ (7-k % 8)<2 ^ 8:=Nat.pow_lt_pow_right (by omega) (by omega)
  cases b
  ·simp
  ·simpa using this
 ·rw[if_neg h];exact hf i hi
theorem ol_fb (f:Nat→Nat) (k:Nat) (b:Bool) (n:Nat):fb (ol f k b) n=(fb f n || (decide (n=k) && b)):=by
 unfold fb ol
 by_cases h:n / 8=k / 8
 ·rw[if_pos h,Nat.testBit_or,h]
  congr 1
  cases b
  ·simp
  ·rw[Bool.toNat_true,Nat.one_mul,Nat.testBit_two_pow,Bool.and_true,decide_eq_decide]
   omega
 ·rw[if_neg h,decide_eq_false (fun e=>h (by rw[e])),Bool.false_and,Bool.or_false]
theorem xor_lt8 {a b:Nat} (ha:a<256) (hb:b<256):a ^^^ b<256:=Nat.xor_lt_two_pow (n:=8) ha hb
end Go.Proofs.YtenilkloffnjlaaGreat.PM
namespace Go.Proofs.YtenilkloffnjlaaGreat
open Tryz
open Go.RowKit
theorem gU (T:ByteArray) (a b c d:List UInt8) (h:(⟨((a.append b).append (c.append d)).toArray⟩:ByteArray)=T):Value.string ⟨((a.append b).append (c.append d)).toArray⟩=.string T:=by rw[h]
theorem yD (x:Int) (w:World) (h0:0≤x) (h1:x<256) :
  Calls prog 149 #[.int .u32 x] w fun e w'=>e=.returned (.int .i64 (0+Lib.len8 x))∧w'=w:=by
 obtain⟨z,hz,l0,l1,hr⟩:=j9 (x) (by omega) (by omega)
 rw[hz]
 clear hz
 go_enter func149,ntmps149
 rw[gU Lib.len8tab]
 case h=>kernel_rfl
 generalize Lib.len8tab=T at hr ⊢
 go_wp2
 go_ret
 exact⟨dk (by omega),rfl⟩
theorem vL (x:Int) (w:World) (h0:256≤x) (h1:x<65536) :
  Calls prog 149 #[.int .u32 x] w fun e w'=>e=.returned (.int .i64 (8+Lib.len8 (x / 256)))∧w'=w:=by
 obtain⟨z,hz,l0,l1,hr⟩:=j9 (x / 256) (by omega) (by omega)
 rw[hz]
 clear hz
 go_enter func149,ntmps149
 rw[gU Lib.len8tab]
 case h=>kernel_rfl
 generalize Lib.len8tab=T at hr ⊢
 go_wp2
 go_ret
 exact⟨dk (by omega),rfl⟩
theorem vM (x:Int) (w:World) (h0:65536≤x) (h1:x<16777216) :
  Calls prog 149 #[.int .u32 x] w fun e w'=>e=.returned (.int .i64 (16+Lib.len8 (x / 65536)))∧w'=w:=by
 obtain⟨z,hz,l0,l1,hr⟩:=j9 (x / 65536) (by omega) (by omega)
 rw[hz]
 clear hz
 go_enter func149,ntmps149
 rw[gU Lib.len8tab]
 case h=>kernel_rfl
 generalize Lib.len8tab=T at hr ⊢
 go_wp2
 go_ret
 exact⟨dk (by omega),rfl⟩
theorem vN (x:Int) (w:World) (h0:16777216≤x) (h1:x<4294967296) :
  Calls prog 149 #[.int .u32 x] w fun e w'=>e=.returned (.int .i64 (24+Lib.len8 (x / 65536 / 256)))∧w'=w:=by
 obtain⟨z,hz,l0,l1,hr⟩:=j9 (x / 65536 / 256) (by omega) (by omega)
 rw[hz]
 clear hz
 go_enter func149,ntmps149
 rw[gU Lib.len8tab]
 case h=>kernel_rfl
 generalize Lib.len8tab=T at hr ⊢
 go_wp2
 go_ret
 exact⟨dk (by omega),rfl⟩
theorem mw (x:Nat) (w:World) (hx:x<4294967296) :
  Calls prog 149 #[.int .u32 x] w fun e w'=>e=.returned (.int .i64 (PM.bl x:Nat))∧w'=w:=by
 by_cases c0:x<256
 ·refine (yD x w (by omega) (by omega)).mono fun e w' h=>?_
  exact⟨h.1.trans (dk ((Int.zero_add _).trans (rS x (by omega)))),h.2⟩
 by_cases c1:x<65536
 ·refine (vL x w (by omega) (by omega)).mono fun e w' h=>?_
  exact⟨h.1.trans (dk (jE 8 x (by omega) (by omega) _ (by omega))),h.2⟩
 by_cases c2:x<16777216
 ·refine (vM x w (by omega) (by omega)).mono fun e w' h=>?_
  exact⟨h.1.trans (dk (jE 16 x (by omega) (by omega) _ (by omega))),h.2⟩
 refine (vN x w (by omega) (by omega)).mono fun e w' h=>?_
 exact⟨h.1.trans (dk (jE 24 x (by omega) (by omega) _ (by omega))),h.2⟩
theorem fB (p i:Nat) (hp:p<18446744073709551616) (hi:i<64):(bits .and .u64 ((p:Int) / 2 ^ i) 1 != 0)=p.testBit i:=by
 have:=xW p i hp;rwa [Nat.min_eq_left (by omega)]at this
theorem eo (p:Nat) (w:World) (hp:p<18446744073709551616) :
  Calls prog 185 #[.int .u64 p] w fun e w'=>e=.returned (.int .i64 ((PM.bl p:Nat)-1:Int))∧w'=w:=by
 go_enter func185,ntmps185
 go_wp2
 go_loop [3,4] (fun d c=>∃ i:Nat,i≤64∧c=.int .i64 i∧d=.int .i64 ((PM.bl (p % 2 ^ i):Nat)-1:Int)) (fun _ c=>64 - (intOf c).toNat)
 case atStart=>exact⟨0,by omega,rfl,congrArg (Value.int .i64) (by rw[show p % 2 ^ 0=0 by omega];rfl)⟩
 case round=>
  obtain⟨i,hi,rfl,rfl⟩:=hrel
  by_cases hlt:i<64
  ·cases hbit:p.testBit i
   ·have t1:(bits .and .u64 ((p:Int) / 2 ^ i) 1 != 0)=false:=by rw[fB p i hp hlt];exact hbit
    go_wp2
    go_round
    case rel=>exact⟨i+1,by omega,by go_num,by rw[PM.bl_mod_false hbit]⟩
    case measure=>simp[intOf] <;> omega
   ·have t1:(bits .and .u64 ((p:Int) / 2 ^ i) 1 != 0)=true:=by rw[fB p i hp hlt];exact hbit
    go_wp2
    go_round
    case rel=>exact⟨i+1,by omega,by go_num,congrArg (Value.int .i64) (by rw[PM.bl_mod_true hbit];omega)⟩
    case measure=>simp[intOf] <;> omega
  ·go_wp2
   go_ret
   exact⟨dk (by rw[show i=64 by omega,Nat.mod_eq_of_lt (show p<2 ^ 64 from hp)]),rfl⟩
theorem sr (r:Nat):(r:Int)*2=((2*r:Nat):Int):=by omega
theorem su (r:Nat) (hr:r<9223372036854775808):bits .xor .u64 ((r:Int)*2) 1=((2*r+1:Nat):Int):=by
 rw[sr r]
 have h:=ox (2*r) 1 (by omega) (by omega)
 rw[← PM.dbl_add r 1 (by omega)]at h
 exact h
theorem uL (b off n cap m:Nat) (f:Nat→Bool) (w:World) (hn:n≤140737488355328) (hm:m<18446744073709551616) (h0:m≠0)
  (hc:∀ i,i<n→w.cell? ⟨b,off+i,none⟩=some (.bool (f i))) :
  Calls prog 146 #[.slice (af b off) n cap,.int .u64 m] w fun e w'=>e=.returned (.int .u64 (PM.R m m.log2 (PM.V f n):Nat))∧w'=w:=by
 have hl:=PM.log2_lt64 h0 hm
 have hd2:Hid (PM.bl m=m.log2+1):=PM.bl_pos h0
 have hd3:m.log2+1≤PM.bl m∧PM.bl m≤m.log2+1:=by have:=hd2.out;omega
 by_cases hz:m.log2=0
 ·have hR:=PM.R_lt (PM.deg_log2 h0) (PM.V f n)
  have hz1:((PM.bl m:Int)-1 == 0)=true:=by simp;omega
  clear hc
  have HR:Hid (PM.R m m.log2 (PM.V f n)=0):=by rw[hz]at hR;show PM.R m m.log2 (PM.V f n)=0;rw[hz];omega
  clear hR hz
  go_enter func146,ntmps146
  go_wp2_with (go_at_call 185;refine (eo _ _ (by assumption)).mono ?_;rintro e w' ⟨rfl,rfl⟩)
  go_ret
  exact⟨dk (by rw[HR.out];rfl),rfl⟩
 ·have hz1:((PM.bl m:Int)-1 == 0)=false:=by simp;omega
  go_enter func146,ntmps146
  go_wp2_with (go_at_call 185;refine (eo _ _ (by assumption)).mono ?_;rintro e w' ⟨rfl,rfl⟩)
  go_loop [6,7,8] (fun r c _=>∃ i:Nat,i≤n∧c=.int .i64 i∧r=.int .u64 (PM.R m m.log2 (PM.V f i):Nat)) (fun _ c _=>n - (intOf c).toNat)
  case atStart=>exact⟨0,by omega,rfl,rfl⟩
  case round=>
   obtain⟨i,hi,rfl,rfl⟩:=hrel
   have hr:=PM.R_lt (PM.deg_log2 h0) (PM.V f i)
   have hr2:PM.R m m.log2 (PM.V f i)<9223372036854775808:=Nat.lt_of_lt_of_le hr (show 2 ^ m.log2≤2 ^ 63 from Nat.pow_le_pow_right (by omega) (by omega))
   by_cases hlt:i<n
   ·have hcell:=hc i hlt
    have HV:Hid (PM.R m m.log2 (PM.V f (i+1))=PM.stp m m.log2 (2*PM.R m m.log2 (PM.V f i) + (f i).toNat)):=PM.R_V m _ f i
    have HT:=PM.top_bit (PM.R m m.log2 (PM.V f i)) m.log2 ((f i).toNat) (by have:=Bool.toNat_le (f i);omega) (by omega)
    generalize PM.R m m.log2 (PM.V f i)=r at *
    cases hfi:f i
    ·cases hbit:r.testBit (m.log2-1)
     ·have t1:(bits .and .u64 ((r:Int) / 2 ^ (PM.bl m-1-1)) 1 != 0)=false:=by rw[show PM.bl m-1-1=m.log2-1 by omega,fB r _ (by omega) (by omega)];exact hbit
      rw[hfi]at hcell
      have HT2:Hid (PM.stp m m.log2 (2*r + (f i).toNat)=2*r):=by
       show PM.stp m m.log2 (2*r + (f i).toNat)=2*r
       rw[hfi]at HT ⊢
       rw[PM.stp,HT,hbit];rfl
      clear HT hc hfi
      go_wp2
      go_round
      case rel=>exact⟨i+1,by omega,by go_num,iZ (by rw[HV.out,HT2.out];omega)⟩
      case measure=>simp[intOf] <;> omega
     ·have t1:(bits .and .u64 ((r:Int) / 2 ^ (PM.bl m-1-1)) 1 != 0)=true:=by rw[show PM.bl m-1-1=m.log2-1 by omega,fB r _ (by omega) (by omega)];exact hbit
      rw[hfi]at hcell
      have HT2:Hid (PM.stp m m.log2 (2*r + (f i).toNat)=2*r ^^^ m):=by
       show PM.stp m m.log2 (2*r + (f i).toNat)=2*r ^^^ m
       rw[hfi]at HT ⊢
       rw[PM.stp,HT,hbit];rfl
      clear HT hc hfi
      go_wp2
      go_round
      case rel=>exact⟨i+1,by omega,by go_num,iZ (by rw[HV.out,HT2.out,sr r];exact ox _ _ (by omega) hm)⟩
      case measure=>simp[intOf] <;> omega
    ·cases hbit:r.testBit (m.log2-1)
     ·have t1:(bits .and .u64 ((r:Int) / 2 ^ (PM.bl m-1-1)) 1 != 0)=false:=by rw[show PM.bl m-1-1=m.log2-1 by omega,fB r _ (by omega) (by omega)];exact hbit
      rw[hfi]at hcell
      have HT2:Hid (PM.stp m m.log2 (2*r + (f i).toNat)=2*r+1):=by
       show PM.stp m m.log2 (2*r + (f i).toNat)=2*r+1
       rw[hfi]at HT ⊢
       rw[PM.stp,HT,hbit];rfl
      clear HT hc hfi
      go_wp2
      go_round
      case rel=>exact⟨i+1,by omega,by go_num,iZ (by rw[HV.out,HT2.out];exact su r hr2)⟩
      case measure=>simp[intOf] <;> omega
     ·have t1:(bits .and .u64 ((r:Int) / 2 ^ (PM.bl m-1-1)) 1 != 0)=true:=by rw[show PM.bl m-1-1=m.log2-1 by omega,fB r _ (by omega) (by omega)];exact hbit
      rw[hfi]at hcell
      have HT2:Hid (PM.stp m m.log2 (2*r + (f i).toNat)=(2*r+1) ^^^ m):=by
       show PM.stp m m.log2 (2*r + (f i).toNat)=(2*r+1) ^^^ m
       rw[hfi]at HT ⊢
       rw[PM.stp,HT,hbit];rfl
      clear HT hc hfi
      go_wp2
      go_round
      case rel=>exact⟨i+1,by omega,by go_num,iZ (by rw[HV.out,HT2.out,su r hr2];exact ox _ _ (by omega) hm)⟩
      case measure=>simp[intOf] <;> omega
   ·clear hc
    go_wp2
    go_ret
    exact⟨dk (by rw[show i=n by omega]),rfl⟩
theorem acF (x k:Nat) (hx:x<256):bits .and .u8 ((x:Int) / 2 ^ k) 1=((x.testBit k).toNat:Int):=by
 have e:(x:Int) / 2 ^ k=((x >>> k:Nat):Int):=by rw[Nat.shiftRight_eq_div_pow];simp
 have hl:x >>> k<256:=by rw[Nat.shiftRight_eq_div_pow];exact Nat.lt_of_le_of_lt (Nat.div_le_self _ _) hx
 have h:=u8_and_nat (x >>> k) 1 hl (by omega)
 rw[nat_mask1,nW]at h
 rw[e]
 exact h
theorem ks (a:Option Addr) (cap m:Nat) (w:World) (hm:m<18446744073709551616) :
  Calls prog 146 #[.slice a 0 cap,.int .u64 m] w fun e w'=>e=.returned (.int .u64 0)∧w'=w:=by
 have hb:=PM.bl_le (n:=m) (k:=64) (by omega)
 by_cases hz:PM.bl m=1
 ·have hz1:((PM.bl m:Int)-1 == 0)=true:=by simp;omega
  clear hz
  go_enter func146,ntmps146
  go_wp2_with (go_at_call 185;refine (eo _ _ (by assumption)).mono ?_;rintro e w' ⟨rfl,rfl⟩)
  go_ret
  exact⟨rfl,rfl⟩
 ·have hz1:((PM.bl m:Int)-1 == 0)=false:=by simp;omega
  go_enter func146,ntmps146
  go_wp2_with (go_at_call 185;refine (eo _ _ (by assumption)).mono ?_;rintro e w' ⟨rfl,rfl⟩)
  refine wp_loop_rounds 1 ?_
  rw[rounds_succ]
  go_wp2
  go_ret
  exact⟨rfl,rfl⟩
def BL (bs:Nat→Nat) (n:Nat):List Value:=(List.range n).map fun t=>Value.bool (PM.fb bs t)
theorem xK (bs:Nat→Nat) (n:Nat):BL bs (n+1)=BL bs n ++ [Value.bool (PM.fb bs n)]:=by simp[BL,List.range_succ]
theorem aak (bs:Nat→Nat) (n i:Nat) (h:i<n):(BL bs n)[i]?=some (Value.bool (PM.fb bs i)):=by simp[BL,h]
theorem mu:(prog.info? 4).map (fun i=>(i.zero,i.size,i.bytes))=some (some (.bool false),1,1):=by kernel_rfl
theorem uJ (x k:Nat) (hx:x<256):(bits .and .u8 ((x:Int) / 2 ^ k) 1 != 0)=x.testBit k:=by
 rw[acF x k hx];cases x.testBit k <;> rfl
theorem ui (b off len cap m:Nat) (bs:Nat→Nat) (w:World) (hlen:len≤1000000) (hm:m<18446744073709551616) (h0:m≠0)
  (hb:b<w.heap.size) (hc:∀ i,i<len→bs i<256∧w.cell? ⟨b,off+i,none⟩=some (.int .u8 (bs i))) :
  Calls prog 118 #[.slice (af b off) len cap,.int .u64 m] w fun e w'=>e=.returned (.tuple #[.int .u64 (PM.R m m.log2 (PM.V (PM.fb bs) (8*len)):Nat),.int .i64 0])∧Below w.heap.size w w':=by
 have hz:((m:Int) == 0)=false:=by simpa using h0
 obtain⟨i0,hi,hz0,hz1,hz2⟩:=info_parts mu
 go_enter func118,ntmps118
 go_wp2_with (at_make;refine wpList_make_own _ rfl _ _ 261 rfl w.heap.size 4 i0 (.bool false) 1 underlying261 hi hz0 hz1 _ _ _ (8*len) rfl rfl (by omega) ?b2 ?b3 ?b4 ?_)
 case b2=>rw[hz2];omega
 case b3=>unfold maxLen;omega
 case b4=>exact Nat.le_refl _
 intro w1 hown1 hgrow1
 have hbel1:Below w.heap.size w w1:=(Below.refl _ _).grown hgrow1 (Nat.le_refl _) (by simp)
 clear hgrow1
 go_wp2
 go_loopw [6,7,8] (fun v c _ wr=>∃ i:Nat,i≤len∧c=.int .i64 i∧wr.ownsRow w.heap.size 4 1 v (8*i) (BL bs (8*i))∧Below w.heap.size w wr) (fun _ c _ _=>len - (intOf c).toNat)
 case atStart=>exact⟨0,by omega,rfl,hown1,hbel1⟩
 case round=>
  obtain⟨i,hi2,rfl,hown,hbel⟩:=hrel
  clear hown1 hbel1
  by_cases hlt:i<len
  ·obtain⟨hb8,hcell⟩:=hc i hlt
   clear hc
   go_wp2
   go_loopw [6,8] (fun v c wr=>∃ j:Nat,j≤8∧c=.int .i64 (7 - (j:Int))∧wr.ownsRow w.heap.size 4 1 v (8*i+j) (BL bs (8*i+j))∧Below w.heap.size w wr) (fun _ c _=>(intOf c+1).toNat)
   case atStart=>exact⟨0,by omega,rfl,hown,hbel⟩
   case round=>
    clear hown hbel
    obtain⟨j,hj,rfl,hown,hbel⟩:=hrel
    by_cases hlt2:j<8
    ·have hcx:wr.cell? ⟨b,off+i,none⟩=some (.int .u8 (bs i)):=(hbel.cell hb).trans hcell
     obtain⟨d,hd⟩:∃ d,d=PM.fb bs (8*i+j):=⟨_,rfl⟩
     have t1:(bits .and .u8 ((bs i:Int) / 2 ^ (7-j)) 1 != 0)=d:=by rw[uJ _ _ hb8,hd,PM.fb_at bs i j hlt2]
     have HL:Hid (BL bs (8*i + (j+1))=BL bs (8*i+j) ++ [Value.bool d]):=by rw[hd];exact xK bs (8*i+j)
     have hsz:=hbel.size
     clear hcell hd
     go_wp2_with (at_builtin;refine wpList_append_own _ rfl _ _ 261 rfl w.heap.size 4 i0 (.bool false) 1 1 underlying261 hi hz0 hz1 hz2 rfl (by decide) _ _ _ rfl (hown.alloc _) ⟨wr.heap.size,0,none⟩ 1 1 [.bool d] rfl rfl ?c1 ?c2 ?c3 ?c4 ?c5 ?_)
     case c1=>exact cell_one_new _ _ _
     case c2=>intro u hu;simp at hu;subst hu;rfl
     case c3=>unfold maxLen;omega
     case c4=>omega
     case c5=>simp;omega
     intro v' w2 hown2 hgrow2 _
     have hbel2:Below w.heap.size w w2:=(hbel.alloc hsz _).grown hgrow2 (by simp;omega) (fun k hk=>(hown.lt k hk).1)
     clear hgrow2 hcx
     go_wp2
     go_roundw
     case rel=>exact⟨j+1,by omega,by go_num,by rw[HL.out];exact hown2,hbel2⟩
     case measure=>simp[intOf] <;> omega
    ·go_wp2
     go_roundw
     case rel=>exact⟨i+1,by omega,by go_num,by rw[show 8 * (i+1)=8*i+j by omega];exact hown,hbel⟩
     case measure=>simp[intOf] <;> omega
  ·obtain rfl:i=len:=by omega
   clear hc
   have HB:Calls prog 146 #[u6,.int .u64 m] wr fun e w'=>e=.returned (.int .u64 (PM.R m m.log2 (PM.V (PM.fb bs) (8*i)):Nat))∧w'=wr:=by
    rcases hown.2 with ⟨rfl,hn⟩ | ⟨g,cap2,cur,hv,_⟩
    ·have h:=ks none 0 m wr hm
     rw[hn];exact h
    ·subst hv
     refine uL g 0 (8*i) cap2 m (PM.fb bs) wr (by omega) hm h0 ?_
     intro t ht
     rw[Nat.zero_add,hown.cellAt t (by omega)]
     exact aak bs (8*i) t ht
   clear hown
   go_wp2_with (go_at_call 146;refine HB.mono ?_;rintro e w' ⟨rfl,rfl⟩)
   go_ret2
   exact⟨rfl,hbel⟩
theorem rM (a:Option Addr) (cap m:Nat) (w:World) (hm:m<18446744073709551616) (h0:m≠0) :
  Calls prog 118 #[.slice a 0 cap,.int .u64 m] w fun e w'=>e=.returned (.tuple #[.int .u64 0,.int .i64 0])∧Below w.heap.size w w':=by
 have hz:((m:Int) == 0)=false:=by simpa using h0
 obtain⟨i0,hi,hz0,hz1,hz2⟩:=info_parts mu
 go_enter func118,ntmps118
 go_wp2_with (at_make;refine wpList_make_own _ rfl _ _ 261 rfl w.heap.size 4 i0 (.bool false) 1 underlying261 hi hz0 hz1 _ _ _ 0 rfl rfl (by omega) ?b2 ?b3 ?b4 ?_)
 case b2=>rw[hz2];omega
 case b3=>unfold maxLen;omega
 case b4=>exact Nat.le_refl _
 intro w1 hown1 hgrow1
 have hbel1:Below w.heap.size w w1:=(Below.refl _ _).grown hgrow1 (Nat.le_refl _) (by simp)
 clear hgrow1 hown1
 go_wp2
 refine wp_loop_rounds 1 ?_
 rw[rounds_succ]
 go_wp2_with (go_at_call 146;refine (ks _ _ m _ hm).mono ?_;rintro e w' ⟨rfl,rfl⟩)
 go_ret2
 exact⟨rfl,hbel1⟩
theorem uj (a:Option Addr) (len cap m:Nat) (bs:Nat→Nat) (w:World) (hr:Row8 w a len cap bs) (hlen:len≤1000000) (hm:m<18446744073709551616) (h0:m≠0) :
  Calls prog 118 #[.slice a len cap,.int .u64 m] w fun e w'=>e=.returned (.tuple #[.int .u64 (PM.R m m.log2 (PM.V (PM.fb bs) (8*len)):Nat),.int .i64 0])∧Below w.heap.size w w':=by
 by_cases hz:len=0
 ·subst hz;exact rM a cap m w hm h0
 ·obtain⟨b,off,rfl,hb,hc⟩:=hr.plain (by omega)
  exact ui b off len cap m bs w hlen hm h0 hb hc
end Go.Proofs.YtenilkloffnjlaaGreat
namespace Go.Proofs.YtenilkloffnjlaaGreat.PM
abbrev g:Nat:=4812730177
theorem uY:Deg g 32:=⟨by decide,by decide⟩
theorem g_log2:Nat.log2 4812730177=32:=uY.log2
theorem abB (f h:Nat→Bool) (n:Nat):V (fun i=>xor (f i) (h i)) n=V f n ^^^ V h n:=by
 induction n with
 | zero=>simp[V]
 | succ n ih=>
  show 2*V (fun i=>xor (f i) (h i)) n + (xor (f n) (h n)).toNat=(2*V f n + (f n).toNat) ^^^ (2*V h n + (h n).toNat)
  rw[ih,jW _ _ _ _ (by have:=Bool.toNat_le (f n);omega) (by have:=Bool.toNat_le (h n);omega)]
  congr 1
  cases f n <;> cases h n <;> rfl
theorem aat (bs:Nat→Nat) (i:Nat) (h:bs i<256):V (fun j=>fb bs (8*i+j)) 8=bs i:=by
 have e:∀ j,j<8→fb bs (8*i+j)=(bs i).testBit (7-j):=fun j hj=>fb_at bs i j hj
 have hx:∀ z:Fin 256,V (fun j=>z.val.testBit (7-j)) 8=z.val:=by decide +kernel
 rw[iI _ (fun j=>(bs i).testBit (7-j)) 8 e]
 exact hx ⟨bs i,h⟩
theorem iJ (bs:Nat→Nat) (i:Nat) (h:bs i<256):V (fb bs) (8 * (i+1))=C (V (fb bs) (8*i)) (2 ^ 8) ^^^ bs i:=by
 rw[show 8 * (i+1)=8*i+8 by omega,V_add,aat bs i h]
theorem V_bytes_zero (n:Nat):V (fb fun _=>0) n=0:=by
 induction n with
 | zero=>rfl
 | succ n ih=>
         show 2*V (fb fun _=>0) n+_=0
         rw[ih];simp[fb]
theorem V_bytes_xor (f h:Nat→Nat) (n:Nat):V (fb fun i=>f i ^^^ h i) n=V (fb f) n ^^^ V (fb h) n:=by
 rw[← abB]
 apply iI
 intro i _
 unfold fb
 rw[Nat.testBit_xor]
def ct (f h:Nat→Nat) (n i:Nat):Nat:=if i<n then f i else h (i-n)
theorem V_ct (f h:Nat→Nat) (n k:Nat):V (fb (ct f h n)) (8 * (n+k))=C (V (fb f) (8*n)) (2 ^ (8*k)) ^^^ V (fb h) (8*k):=by
 rw[Nat.mul_add,V_add]
 congr 1
 ·congr 1
  apply iI
  intro i hi
  unfold fb ct
  rw[if_pos (by omega)]
 ·apply iI
  intro i hi
  unfold fb ct
  rw[if_neg (by omega),show (8*n+i) / 8-n=i / 8 by omega,show (8*n+i) % 8=i % 8 by omega]
theorem ct_lt {f h:Nat→Nat} {n k:Nat} (hf:∀ i,i<n→f i<256) (hh:∀ i,i<k→h i<256):∀ i,i<n+k→ct f h n i<256:=by
 intro i hi
 unfold ct
 by_cases e:i<n
 ·rw[if_pos e];exact hf i e
 ·rw[if_neg e];exact hh _ (by omega)
def E (v:Nat):Nat:=R g 32 (C v (2 ^ 32))
def K (bs:Nat→Nat) (n:Nat):Nat:=E (V (fb bs) (8*n))
theorem acB (v:Nat):E v<4294967296:=R_lt uY _
theorem K_lt (bs:Nat→Nat) (n:Nat):K bs n<4294967296:=acB _
theorem abz (a b:Nat):E (a ^^^ b)=E a ^^^ E b:=by unfold E;rw[ip,R_xor]
theorem aan:E 0=0:=by unfold E;rw[gn,aas]
theorem K_zero (bs:Nat→Nat):K bs 0=0:=aan
def tx (s:Nat):Nat:=stp g 32 (2*s)
theorem acR (n:Nat):tx (R g 32 n)=R g 32 (2*n):=(qN g 32 n).symm
theorem aci {s:Nat} (h:s<4294967296):tx s<4294967296:=xc (t:=2*s) uY (show 2*s<2 ^ 33 by omega)
theorem xR (t:Nat) (h:t<2 ^ 32):t+2 ^ 32=t ^^^ 2 ^ 32:=by
 apply Nat.eq_of_testBit_eq
 intro i
 rw[Nat.testBit_xor,show t+2 ^ 32=2 ^ 32*1+t by omega,Nat.testBit_two_pow_mul_add _ h,Nat.testBit_two_pow]
 by_cases hi:i<32
 ·simp[hi,show ¬ 32=i by omega]
 ·rw[if_neg hi,Nat.testBit_lt_two_pow (Nat.lt_of_lt_of_le h (Nat.pow_le_pow_right (show 2 > 0 by omega) (show 32≤i by omega)))]
  by_cases e:i=32
  ·subst e;simp
  ·rw[Nat.testBit_lt_two_pow (show 1<2 ^ (i-32) from Nat.lt_of_lt_of_le (show 1<2 ^ 1 by omega) (Nat.pow_le_pow_right (by omega) (by omega)))]
   simp[show ¬ 32=i by omega]
theorem tx_hi {s:Nat} (h:s<4294967296) (hb:2147483648≤s):tx s=(2*s-4294967296) ^^^ 517762881:=by
 obtain⟨t,ht⟩:∃ t,2*s=t+2 ^ 32:=⟨2*s-2 ^ 32,by omega⟩
 have ht2:t<2 ^ 32:=by omega
 have hbit:(2*s).testBit 32=true:=by
  rw[Nat.testBit_eq_decide_div_mod_eq]
  simp;omega
 unfold tx stp
 rw[if_pos hbit,ht,show t+2 ^ 32-4294967296=t by omega,xR t ht2,Nat.xor_assoc]
 congr 1
theorem tx_lo {s:Nat} (hb:s<2147483648):tx s=2*s:=mN (show 2*s<2 ^ 32 by omega)
def txs:Nat→Nat→Nat
 | 0,s=>s
 | k+1,s=>tx (txs k s)
theorem txs_lt {s:Nat} (h:s<4294967296) (k:Nat):txs k s<4294967296:=by
 induction k with
 | zero=>exact h
 | succ k ih=>exact aci ih
theorem acj {s:Nat} (h:s<4294967296) (k:Nat):txs k s=R g 32 (C s (2 ^ k)):=by
 induction k with
 | zero=>rw[Nat.pow_zero,ep,iH g 32 s h];rfl
 | succ k ih=>
         show tx (txs k s)=_
         rw[ih,acR,Nat.pow_succ,Nat.mul_comm (2 ^ k) 2,dG]
theorem aar (v x:Nat):R g 32 (C (E v ^^^ C x (2 ^ 24)) (2 ^ 8))=E (C v (2 ^ 8) ^^^ x):=by
 rw[ip,R_xor,mZ,td,abz]
 unfold E
 rw[uH uY,mZ,mZ,aal (2 ^ 32)]
theorem K_succ (bs:Nat→Nat) (i:Nat) (h:bs i<256):K bs (i+1)=txs 8 (K bs i ^^^ bs i*16777216):=by
 have e:bs i*16777216=C (bs i) (2 ^ 24):=(C_pow_right (bs i) 24).symm
 have hl:K bs i ^^^ bs i*16777216<4294967296:=Nat.xor_lt_two_pow (n:=32) (K_lt bs i) (by omega)
 rw[acj hl,e]
 unfold K
 rw[aar,iJ bs i h]
def w4 (s i:Nat):Nat:=if i=0 then s / 16777216 % 256 else if i=1 then s / 65536 % 256 else if i=2 then s / 256 % 256 else s % 256
theorem w4_lt (s i:Nat):w4 s i<256:=by
 unfold w4
 by_cases h0:i=0
 ·rw[if_pos h0];omega
 ·rw[if_neg h0]
  by_cases h1:i=1
  ·rw[if_pos h1];omega
  ·rw[if_neg h1]
   by_cases h2:i=2
   ·rw[if_pos h2];omega
   ·rw[if_neg h2];omega
theorem V4 (f:Nat→Nat) (hf:∀ i,i<4→f i<256):V (fb f) 32=f 0*16777216+f 1*65536+f 2*256+f 3:=by
 have s1:∀ a b,b<256→C a (2 ^ 8) ^^^ b=a*256+b:=by
  intro a b hb
  rw[C_pow_right]
  apply Nat.eq_of_testBit_eq
  intro i
  rw[show a*256+b=2 ^ 8*a+b by omega,Nat.testBit_two_pow_mul_add _ (show b<2 ^ 8 from hb),Nat.mul_comm a,Nat.testBit_xor,Nat.testBit_two_pow_mul]
  by_cases hi:i<8
  ·simp[hi,show ¬ 8≤i by omega]
  ·simp[hi,show 8≤i by omega,Nat.testBit_lt_two_pow (Nat.lt_of_lt_of_le (show b<2 ^ 8 from hb) (Nat.pow_le_pow_right (show 2 > 0 by omega) (show 8≤i by omega)))]
 have h0:=iJ f 0 (hf 0 (by omega))
 have h1:=iJ f 1 (hf 1 (by omega))
 have h2:=iJ f 2 (hf 2 (by omega))
 have h3:=iJ f 3 (hf 3 (by omega))
 rw[s1 _ _ (hf 0 (by omega))]at h0
 rw[s1 _ _ (hf 1 (by omega))]at h1
 rw[s1 _ _ (hf 2 (by omega))]at h2
 rw[s1 _ _ (hf 3 (by omega))]at h3
 have e0:V (fb f) (8*0)=0:=rfl
 rw[e0]at h0
 simp only[Nat.zero_add,Nat.reduceAdd,Nat.reduceMul,Nat.zero_mul]at h0 h1 h2 h3
 rw[h3,h2,h1,h0]
 clear h0 h1 h2 h3 e0 s1
 generalize f 0=a;generalize f 1=b;generalize f 2=c;generalize f 3=d
 omega
theorem V_w4 (s:Nat) (hs:s<4294967296):V (fb (w4 s)) 32=s:=by
 rw[V4 _ (fun i _=>w4_lt s i),show w4 s 0=s / 16777216 % 256 from rfl,show w4 s 1=s / 65536 % 256 from rfl,show w4 s 2=s / 256 % 256 from rfl,show w4 s 3=s % 256 from rfl]
 omega
def sl (bs:Nat→Nat) (n:Nat):Nat→Nat:=ct bs (w4 (K bs n)) n
theorem V_sl (bs:Nat→Nat) (n:Nat):R g 32 (V (fb (sl bs n)) (8 * (n+4)))=0:=by
 unfold sl
 rw[V_ct,show 8*4=32 from rfl,V_w4 _ (K_lt bs n),R_xor,iH g 32 (K bs n) (K_lt bs n)]
 exact Nat.xor_self _
theorem valid_iff (bs:Nat→Nat) (n:Nat) (h:∀ i,i<n+4→bs i<256) :
  bs n*16777216+bs (n+1)*65536+bs (n+2)*256+bs (n+3)=K bs n ↔ R g 32 (V (fb bs) (8 * (n+4)))=0:=by
 have hw:=V4 (fun i=>bs (n+i)) (fun i hi=>h _ (by omega))
 have e:V (fb bs) (8 * (n+4))=C (V (fb bs) (8*n)) (2 ^ 32) ^^^ V (fb fun i=>bs (n+i)) 32:=by
  rw[show 8 * (n+4)=8*n+32 by omega,V_add]
  congr 1
  apply iI
  intro i _
  unfold fb
  rw[show (8*n+i) / 8=n+i / 8 by omega,show (8*n+i) % 8=i % 8 by omega]
 rw[e,R_xor,hw]
 simp only[Nat.add_zero]
 rw[iH g 32 (bs n*16777216+bs (n+1)*65536+bs (n+2)*256+bs (n+3)) (by have:=h n (by omega);have:=h (n+1) (by omega);have:=h (n+2) (by omega);have:=h (n+3) (by omega);omega)]
 show _=K bs n ↔ K bs n ^^^ _=0
 constructor
 ·intro h;rw[h];exact Nat.xor_self _
 ·intro h;exact (jP h).symm
theorem aaq (n:Nat) (h:R g 32 (2*n)=0):R g 32 n=0:=by
 rw[qN]at h
 have hr:=R_lt uY n
 generalize R g 32 n=r at *
 unfold stp at h
 split at h
 ·have e:=jP h
  have:(2*r) % 2=4812730177 % 2:=by rw[e]
  omega
 ·omega
theorem xP (n k:Nat) (h:R g 32 (C n (2 ^ k))=0):R g 32 n=0:=by
 induction k with
 | zero=>rwa [Nat.pow_zero,ep]at h
 | succ k ih=>
         rw[Nat.pow_succ,Nat.mul_comm (2 ^ k) 2,dG]at h
         exact ih (aaq _ h)
theorem burst (n k:Nat) (hn:n<4294967296) (h:R g 32 (C n (2 ^ k))=0):n=0:=by
 have:=xP n k h
 rwa [iH g 32 n hn]at this
end Go.Proofs.YtenilkloffnjlaaGreat.PM
namespace Go.Proofs.YtenilkloffnjlaaGreat
open Tryz
open Go.RowKit
theorem wR {s:Nat} (h:s<4294967296) (hb:2147483648≤s):((s:Int) / 2147483648 == 1)=true:=by simp;omega
theorem wS {s:Nat} (hb:s<2147483648):((s:Int) / 2147483648 == 1)=false:=by simp;omega
theorem aaH:Nat.log2 4812730177=32:=PM.g_log2
theorem acz (a b:Nat) (ha:a<4294967296) (hb:b<4294967296):bits .xor .u32 (a:Int) (b:Int)=((a ^^^ b:Nat):Int):=u32_xor_nat a b ha hb
theorem k9 (x y:Nat) (k:Nat) (hx:x % 2 ^ k=0) (hy:y<2 ^ k) (h1:x<4294967296) (h2:y<4294967296):bits .or .u32 (x:Int) (y:Int)=((x+y:Nat):Int):=by
 rw[u32_or_nat x y h1 h2,nat_join k x y hx hy]
theorem rU (s:Nat) (w:World) (hs:s<4294967296) :
  Calls prog 193 #[.int .u32 s] w fun e w'=>e=.returned (.int .u32 (PM.tx s:Nat))∧w'=w:=by
 by_cases hb:2147483648≤s
 ·have h1:=wR hs hb
  go_enter func193,ntmps193
  go_wp2
  go_ret
  refine⟨dk ?_,rfl⟩
  have e:(s:Int)*2 % 4294967296=((2*s-4294967296:Nat):Int):=by omega
  rw[PM.tx_hi hs hb,e]
  exact acz _ 517762881 (by omega) (by omega)
 ·have h1:=wS (s:=s) (by omega)
  go_enter func193,ntmps193
  go_wp2
  go_ret
  exact⟨dk (by rw[PM.tx_lo (by omega)];omega),rfl⟩
theorem tl (b off len cap:Nat) (bs:Nat→Nat) (w:World) (hlen:len≤9223372036854775807)
  (hc:∀ i,i<len→bs i<256∧w.cell? ⟨b,off+i,none⟩=some (.int .u8 (bs i))) :
  Calls prog 157 #[.slice (af b off) len cap] w fun e w'=>e=.returned (.int .u32 (PM.K bs len:Nat))∧w'=w:=by
 go_enter func157,ntmps157
 go_wp2
 go_loop [3,5,8,17] (fun s _ c _=>∃ i:Nat,i≤len∧c=.int .i64 i∧s=.int .u32 (PM.K bs i:Nat)) (fun _ _ c _=>len - (intOf c).toNat)
 case atStart=>exact⟨0,by omega,rfl,by rw[PM.K_zero];rfl⟩
 case round=>
  obtain⟨i,hi,rfl,rfl⟩:=hrel
  by_cases hlt:i<len
  ·obtain⟨hb8,hcell⟩:=hc i hlt
   clear hc
   have hk:=PM.K_lt bs i
   have HK:Hid (PM.K bs (i+1)=PM.txs 8 (PM.K bs i ^^^ bs i*16777216)):=PM.K_succ bs i hb8
   have hx:PM.K bs i ^^^ bs i*16777216<4294967296:=Nat.xor_lt_two_pow (n:=32) hk (by omega)
   have hX:bits .xor .u32 (PM.K bs i:Int) ((bs i:Int)*16777216)=((PM.K bs i ^^^ bs i*16777216:Nat):Int):=by
    have:=u32_xor_nat (PM.K bs i) (bs i*16777216) hk (by omega)
    rw[← this];simp
   generalize PM.K bs i ^^^ bs i*16777216=y at *
   go_wp2
   go_loop [3,17] (fun s c=>∃ j:Nat,j≤8∧c=.int .i64 j∧s=.int .u32 (PM.txs j y:Nat)) (fun _ c=>8 - (intOf c).toNat)
   case atStart=>exact⟨0,by omega,rfl,rfl⟩
   case round=>
    obtain⟨j,hj,rfl,rfl⟩:=hrel
    by_cases hlt2:j<8
    ·have hr:=PM.txs_lt hx j
     go_wp2_with (go_at_call 193;refine (rU _ _ hr).mono ?_;rintro e w' ⟨rfl,rfl⟩)
     go_round
     case rel=>exact⟨j+1,by omega,by go_num,rfl⟩
     case measure=>simp[intOf] <;> omega
    ·go_wp2
     go_round
     case rel=>exact⟨i+1,by omega,by go_num,by rw[HK.out,show j=8 by omega]⟩
     case measure=>simp[intOf] <;> omega
  ·clear hc
   go_wp2
   go_ret
   exact⟨by rw[show i=len by omega];rfl,rfl⟩
theorem qQ (a:Option Addr) (cap:Nat) (w:World) :
  Calls prog 157 #[.slice a 0 cap] w fun e w'=>e=.returned (.int .u32 0)∧w'=w:=by
 go_enter func157,ntmps157
 go_wp2
 refine wp_loop_rounds 1 ?_
 rw[rounds_succ]
 go_wp2
 go_ret
 exact⟨rfl,rfl⟩
theorem ji (a:Option Addr) (len cap:Nat) (bs:Nat→Nat) (w:World) (hr:Row8 w a len cap bs) (hlen:len≤9223372036854775807) :
  Calls prog 157 #[.slice a len cap] w fun e w'=>e=.returned (.int .u32 (PM.K bs len:Nat))∧w'=w:=by
 by_cases hz:len=0
 ·subst hz;rw[PM.K_zero];exact qQ a cap w
 ·obtain⟨b,off,rfl,_,hc⟩:=hr.plain (by omega)
  exact tl b off len cap bs w hlen hc
theorem lG (x0 x1 x2 x3:Nat) (h0:x0<256) (h1:x1<256) (h2:x2<256) (h3:x3<256) :
  bits .or .u32 (bits .or .u32 (bits .or .u32 ((x0:Int)*16777216) ((x1:Int)*65536)) ((x2:Int)*256)) (x3:Int)=((x0*16777216+x1*65536+x2*256+x3:Nat):Int):=by
 have e0:(x0:Int)*16777216=((x0*16777216:Nat):Int):=by omega
 have e1:(x1:Int)*65536=((x1*65536:Nat):Int):=by omega
 have e2:(x2:Int)*256=((x2*256:Nat):Int):=by omega
 rw[e0,e1,e2,k9 _ _ 24 (by omega) (by omega) (by omega) (by omega),k9 _ _ 16 (by omega) (by omega) (by omega) (by omega),k9 _ _ 8 (by omega) (by omega) (by omega) (by omega)]
theorem xD (b off len cap x0 x1 x2 x3:Nat) (w:World) (hlen:(3:Int) < (len:Int)) (h0:x0<256) (h1:x1<256) (h2:x2<256) (h3:x3<256)
  (c0:w.cell? ⟨b,off,none⟩=some (.int .u8 x0)) (c1:w.cell? ⟨b,off+1,none⟩=some (.int .u8 x1)) (c2:w.cell? ⟨b,off+2,none⟩=some (.int .u8 x2)) (c3:w.cell? ⟨b,off+3,none⟩=some (.int .u8 x3)) :
  Calls prog 194 #[.slice (af b off) len cap] w fun e w'=>e=.returned (.int .u32 ((x0*16777216+x1*65536+x2*256+x3:Nat):Int))∧∃ m,w'=w.drewN m:=by
 have hn:=lG x0 x1 x2 x3 h0 h1 h2 h3
 have l0:(0:Int) < (len:Int):=by omega
 have l1:(1:Int) < (len:Int):=by omega
 have l2:(2:Int) < (len:Int):=by omega
 generalize x0*16777216+x1*65536+x2*256+x3=y at *
 go_enter func194,ntmps194
 go_wp2_with fail
 go_quiet (fail)
 go_wp2
 go_ret
 exact⟨rfl,_,rfl⟩
theorem qB (a:Option Addr) (len cap:Nat) (w:World) (h:len<4) :
  Calls prog 158 #[.slice a len cap] w fun e w'=>e=.returned (.bool false)∧∃ m,w'=w.drewN m:=by
 have hd:decide ((0:Int) ≤ (len:Int)-4)=false:=by simp;omega
 have hd2:decide ((4:Int) ≤ (len:Int))=false:=by simp;omega
 have hd3:decide (4≤len)=false:=by simp;omega
 go_enter func158,ntmps158
 go_wp2_with fail
 go_quiet (fail)
 go_wp2
 go_ret
 exact⟨rfl,_,rfl⟩
theorem rX (b off len cap:Nat) (bs:Nat→Nat) (w:World) (h:4≤len) (hr:Row8 w (af b off) len cap bs) (hlen:len≤9223372036854775807) :
  Calls prog 158 #[.slice (af b off) len cap] w fun e w'=>e=.returned (.bool (decide (PM.R PM.g 32 (PM.V (PM.fb bs) (8*len))=0)))∧∃ m,w'=w.drewN m:=by
 obtain⟨n,rfl⟩:∃ n,len=n+4:=⟨len-4,by omega⟩
 have hcap:=hr.le
 have HV:=PM.valid_iff bs n hr.byte
 have hdec:((bs n*16777216+bs (n+1)*65536+bs (n+2)*256+bs (n+3):Nat) == PM.K bs n)=decide (PM.R PM.g 32 (PM.V (PM.fb bs) (8 * (n+4)))=0):=by
  rw[← decide_eq_decide.2 HV];rfl
 have hdec2:(((bs n*16777216+bs (n+1)*65536+bs (n+2)*256+bs (n+3):Nat):Int) == ((PM.K bs n:Nat):Int))=decide (PM.R PM.g 32 (PM.V (PM.fb bs) (8 * (n+4)))=0):=by
  rw[← hdec,Bool.eq_iff_iff];simp;omega
 have hA:=fun k=>(hr.drewN k).upto n (by omega)
 have hW:∀ k c,Calls prog 194 #[.slice (af b (off+n)) 4 c] (w.drewN k) fun e w'=>e=.returned (.int .u32 ((bs n*16777216+bs (n+1)*65536+bs (n+2)*256+bs (n+3):Nat):Int))∧∃ m,w'=(w.drewN k).drewN m:=by
  intro k c
  have R:=(hr.drewN k).from_ n (by omega)
  have s:=R.src _ rfl
  have q:=R.byte
  have t0:=s 0 (by omega);have t1:=s 1 (by omega);have t2:=s 2 (by omega);have t3:=s 3 (by omega)
  rw[Go.WideShapes.add_plain]at t0 t1 t2 t3
  exact xD b (off+n) 4 c _ _ _ _ _ (by omega) (q 0 (by omega)) (q 1 (by omega)) (q 2 (by omega)) (q 3 (by omega)) t0 t1 t2 t3
 have hB:=fun k=>ji _ _ _ _ _ (hA k) (by omega)
 clear hr HV hA
 generalize decide (PM.R PM.g 32 (PM.V (PM.fb bs) (8 * (n+4)))=0)=D at *
 generalize PM.K bs n=Z at *
 generalize bs n*16777216+bs (n+1)*65536+bs (n+2)*256+bs (n+3)=Y at *
 clear hdec
 have hd:decide ((0:Int) ≤ ((n+4:Nat):Int)-4)=true:=by simp
 go_enter func158,ntmps158
 go_wp2_with fail
 go_quiet (first | (go_at_call 194;refine Calls.quiet_of (hW _ _)) | (go_at_call 157;refine Calls.quiet_of_same (hB _)))
 go_wp2
 go_ret
 exact⟨rfl,_,rfl⟩
theorem mO (a:Option Addr) (len cap:Nat) (bs:Nat→Nat) (w:World) (hr:Row8 w a len cap bs) (hlen:len≤9223372036854775807) :
  Calls prog 158 #[.slice a len cap] w fun e w'=>e=.returned (.bool (decide (4≤len∧PM.R PM.g 32 (PM.V (PM.fb bs) (8*len))=0)))∧∃ m,w'=w.drewN m:=by
 by_cases h:4≤len
 ·obtain⟨b,off,rfl,_,_⟩:=hr.plain (by omega)
  have:=rX b off len cap bs w h hr hlen
  simpa [h] using this
 ·have:=qB a len cap w (by omega)
  simpa [h] using this
theorem acc (w:World) (x:Nat) (hx:x<4294967296) :
  Row8 (w.alloc (.cells #[.int .u8 ((x:Int) / 16777216),.int .u8 ((x:Int) / 65536 % 256),.int .u8 ((x:Int) / 256 % 256),.int .u8 ((x:Int) % 256)] 5)) (af w.heap.size 0) 4 4 (PM.w4 x):=by
 refine ll w _ _ (PM.w4 x) 4 (fun i _=>PM.w4_lt x i) (fun i hi=>?_)
 have e0:(x:Int) / 16777216=((PM.w4 x 0:Nat):Int):=by show _=((x / 16777216 % 256:Nat):Int);omega
 have e1:(x:Int) / 65536 % 256=((PM.w4 x 1:Nat):Int):=by show _=((x / 65536 % 256:Nat):Int);omega
 have e2:(x:Int) / 256 % 256=((PM.w4 x 2:Nat):Int):=by show _=((x / 256 % 256:Nat):Int);omega
 have e3:(x:Int) % 256=((PM.w4 x 3:Nat):Int):=by show _=((x % 256:Nat):Int);omega
 rw[e0,e1,e2,e3]
 rcases (show i=0∨i=1∨i=2∨i=3 by omega) with rfl | rfl | rfl | rfl <;> rfl
theorem wP (a:Option Addr) (len cap:Nat) (bs:Nat→Nat) (w:World) (hr:Row8 w a len cap bs) (hlen:len≤1000000) :
  Calls prog 133 #[.slice a len cap] w fun e w'=>∃ v,e=.returned v∧w'.ownsRow w.heap.size 5 1 v (len+4) (CB (PM.sl bs len) (len+4))∧Below w.heap.size w w':=by
 obtain⟨i0,hi,hz0,hz1,hz2⟩:=info_parts cq
 have hk:=PM.K_lt bs len
 go_enter func133,ntmps133
 go_wp2_with (at_make;refine bk _ rfl (.tmp 6) (.tmp 9) 37 rfl w.heap.size 5 i0 underlying37 hi hz0 hz1 hz2 _ _ _ _ len (len+4) rfl rfl rfl ?b1 (by omega) (by omega) ?b2 ?_)
 case b1=>omega
 case b2=>exact Nat.le_refl _
 intro w1 hown1 hbel1
 have R1:=hr.below hbel1
 go_wp2_with (refine ot rfl (.tmp 11) (.tmp 12) 37 37 rfl 5 underlying37 nZ w.heap.size w.heap.size len (len+4) _ rfl hown1 a len cap bs rfl R1 w hbel1 ?_)
 intro w2 hown2 hbel2
 rw[dM _ bs len (fun i hi=>if_pos hi)]at hown2
 have R2:=hr.below hbel2
 have hB:=ji a len cap bs w2 R2 (by omega)
 have hsz2:=hbel2.size
 have hown3:=hown2.alloc (.cells #[.int .u8 ((PM.K bs len:Int) / 16777216),.int .u8 ((PM.K bs len:Int) / 65536 % 256),.int .u8 ((PM.K bs len:Int) / 256 % 256),.int .u8 ((PM.K bs len:Int) % 256)] 5)
 have hbel3:=hbel2.alloc hsz2 (.cells #[.int .u8 ((PM.K bs len:Int) / 16777216),.int .u8 ((PM.K bs len:Int) / 65536 % 256),.int .u8 ((PM.K bs len:Int) / 256 % 256),.int .u8 ((PM.K bs len:Int) % 256)] 5)
 have R4:=acc w2 (PM.K bs len) hk
 have hsz3:=hbel3.size
 have HS:Hid (CB bs len ++ CB (PM.w4 (PM.K bs len)) 4=CB (PM.sl bs len) (len+4)):=jg _ _ _ _
 clear hown1 hown2 hbel1 hbel2 R1 R2
 generalize PM.K bs len=k at *
 go_wp2_with (first | (go_at_call 157;refine hB.mono ?_;rintro e w' ⟨rfl,rfl⟩) | (at_builtin;refine aP rfl (.tmp 16) (.tmp 28) 37 rfl w.heap.size 5 i0 (.int .u8 0) underlying37 hi hz0 hz1 hz2 rfl _ len _ rfl hown3 (af w'.heap.size 0) 4 4 (PM.w4 k) rfl R4 (by unfold maxLen;omega) (by omega) hsz3 ?_))
 intro v w4 hown4 hgrow4
 have hbel4:Below w.heap.size w w4:=hbel3.grown hgrow4 hsz3 (fun j hj=>(hown3.lt j hj).1)
 rw[HS.out]at hown4
 clear hown3 hgrow4 hbel3 R4
 go_wp2
 go_ret
 exact⟨_,rfl,hown4,hbel4⟩
theorem abe (a:Option Addr) (len cap:Nat) (bs:Nat→Nat) (w:World) (hr:Row8 w a len cap bs) (hlen:len≤1000000) :
  Calls prog 118 #[.slice a len cap,.int .u64 4812730177] w fun e w'=>e=.returned (.tuple #[.int .u64 (PM.R PM.g 32 (PM.V (PM.fb bs) (8*len)):Nat),.int .i64 0])∧Below w.heap.size w w':=by
 have h:=uj a len cap 4812730177 bs w hr hlen (by decide) (by decide)
 rw[aaH]at h
 exact h
theorem acd (w:World):Row8 (w.alloc (.cells #[.int .u8 0,.int .u8 0,.int .u8 0,.int .u8 0] 5)) (af w.heap.size 0) 4 4 (fun _=>0):=by
 refine ll w _ _ (fun _=>0) 4 (fun i _=>by omega) (fun i hi=>?_)
 rcases (show i=0∨i=1∨i=2∨i=3 by omega) with rfl | rfl | rfl | rfl <;> rfl
theorem xQ (bs:Nat→Nat) (n:Nat):PM.V (PM.fb (PM.ct bs (fun _=>0) n)) (8 * (n+4))=PM.C (PM.V (PM.fb bs) (8*n)) (2 ^ 32):=by
 rw[PM.V_ct,PM.V_bytes_zero,Nat.xor_zero]
theorem rN (a:Option Addr) (len cap:Nat) (bs:Nat→Nat) (w:World) (hr:Row8 w a len cap bs) (hlen:len≤900000) :
  Calls prog 90 #[.slice a len cap] w fun e w'=>e=.returned (.int .u32 (PM.K bs len:Nat))∧Below w.heap.size w w':=by
 obtain⟨i0,hi,hz0,hz1,hz2⟩:=info_parts cq
 have hk:=PM.K_lt bs len
 obtain⟨k,hK⟩:∃ k,k=PM.K bs len:=⟨_,rfl⟩
 rw[← hK]at hk ⊢
 have HK:Hid (k=PM.K bs len):=hK
 clear hK
 go_enter func90,ntmps90
 go_wp2_with (at_make;refine bk _ rfl (.const (.int .i64 0)) (.tmp 8) 37 rfl w.heap.size 5 i0 underlying37 hi hz0 hz1 hz2 _ _ _ _ 0 (len+4) rfl rfl rfl ?b1 (by omega) (by omega) ?b2 ?_)
 case b1=>omega
 case b2=>exact Nat.le_refl _
 intro w1 hown1 hbel1
 have R1:=hr.below hbel1
 have hsz1:=hbel1.size
 go_wp2_with (at_builtin;refine aP rfl (.tmp 9) (.tmp 10) 37 rfl w.heap.size 5 i0 (.int .u8 0) underlying37 hi hz0 hz1 hz2 rfl _ _ _ rfl hown1 a len cap bs rfl R1 (by unfold maxLen;omega) (by omega) hsz1 ?_)
 intro v2 w2 hown2 hgrow2
 have hbel2:Below w.heap.size w w2:=hbel1.grown hgrow2 hsz1 (fun j hj=>(hown1.lt j hj).1)
 rw[jg]at hown2
 have hsz2:=hbel2.size
 have hown3:=hown2.alloc (.cells #[.int .u8 0,.int .u8 0,.int .u8 0,.int .u8 0] 5)
 have hbel3:=hbel2.alloc hsz2 (.cells #[.int .u8 0,.int .u8 0,.int .u8 0,.int .u8 0] 5)
 have R4:=acd w2
 have hsz3:=hbel3.size
 clear hgrow2 hown1 hbel1 R1 hown2 hbel2
 go_wp2_with (at_builtin;refine aP rfl (.tmp 11) (.tmp 12) 37 rfl w.heap.size 5 i0 (.int .u8 0) underlying37 hi hz0 hz1 hz2 rfl _ _ _ rfl hown3 (af w2.heap.size 0) 4 4 (fun _=>0) rfl R4 (by unfold maxLen;omega) (by omega) hsz3 ?_)
 intro v4 w4 hown4 hgrow4
 have hbel4:Below w.heap.size w w4:=hbel3.grown hgrow4 hsz3 (fun j hj=>(hown3.lt j hj).1)
 have hct:∀ i,i<len+4→PM.ct bs (fun _=>0) len i<256:=PM.ct_lt (k:=4) hr.byte (fun i _=>by omega)
 have hown5:w4.ownsRow w.heap.size 5 1 v4 (len+4) (CB (PM.ct bs (fun _=>0) len) (len+4)):=by
  have h:=hown4
  rw[jg]at h
  rw[dM (PM.ct bs (fun _=>0) len) _ (len+4) (fun i _=>?_)]
  ·exact h
  ·unfold PM.ct
   by_cases hlt:i<len
   ·simp[hlt]
   ·simp[hlt]
 obtain⟨av,cv,rfl,R5⟩:=aY hown5 hct
 have hO:=abe av (len+4) cv _ w4 R5 (by omega)
 rw[xQ]at hO
 clear hown3 hgrow4 hbel3 R4 hown4 hown5 R5 hct
 change Calls _ _ _ _ fun e w'=>e=.returned (.tuple #[.int .u64 (PM.K bs len:Nat),.int .i64 0])∧Below w4.heap.size w4 w' at hO
 rw[← HK.out]at hO
 have hsz4:=hbel4.size
 go_wp2_with fail
 refine hO.mono ?_
 rintro e w6 ⟨rfl,hbel6⟩
 go_wp2_with fail
 go_ret
 exact⟨rfl,bD hbel4 hsz4 hbel6⟩
theorem qo (x:Nat) (w:World) (hx:x<4294967296) :
  Calls prog 89 #[.int .u32 x] w fun e w'=>e=.returned (.slice (af w.heap.size 0) 4 4)∧w'=w.alloc (.cells #[.int .u8 ((x:Int) / 16777216),.int .u8 ((x:Int) / 65536 % 256),.int .u8 ((x:Int) / 256 % 256),.int .u8 ((x:Int) % 256)] 5):=by
 go_enter func89,ntmps89
 go_wp2
 go_ret
 exact⟨rfl,rfl⟩
theorem jh (a b:ByteArray):decide (a=b)=(a.toList == b.toList):=by
 rw[Bool.eq_iff_iff]
 simp only[decide_eq_true_eq,beq_iff_eq,ByteArray.toList_eq]
 constructor
 ·intro h;rw[h]
 ·intro h
  cases a;cases b
  simp at h
  rw[h]
def BA (bs:Nat→Nat) (n:Nat):ByteArray:=((List.range n).map fun i=>(bs i:Int)).foldl (fun r m=>r.push (UInt8.ofNat m.toNat)) ByteArray.empty
theorem qY (l:List Int):∀ r:ByteArray,(l.foldl (fun r m=>r.push (UInt8.ofNat m.toNat)) r).data.toList=r.data.toList ++ l.map fun m=>UInt8.ofNat m.toNat:=by
 induction l with
 | nil=>intro r;simp
 | cons x l ih=>
  intro r
  rw[List.foldl_cons,ih]
  show (r.data.push _).toList ++ _=_
  simp
theorem mY (bs:Nat→Nat) (n:Nat):(BA bs n).data.toList=(List.range n).map fun i=>UInt8.ofNat (bs i):=by
 unfold BA
 rw[qY,show ByteArray.empty.data.toList=[] from rfl]
 simp[Function.comp_def]
theorem abx (f g:Nat→Nat) (n:Nat) (hf:∀ i,i<n→f i<256) (hg:∀ i,i<n→g i<256):BA f n=BA g n ↔ ∀ i,i<n→f i=g i:=by
 constructor
 ·intro h i hi
  have h1:=congrArg (fun a:ByteArray=>a.data.toList[i]?) h
  simp only[mY,List.getElem?_map,List.getElem?_range hi,Option.map_some,Option.some.injEq]at h1
  have h2:=congrArg UInt8.toNat h1
  simp only[UInt8.toNat_ofNat']at h2
  have:=hf i hi
  have:=hg i hi
  omega
 ·intro h
  have:(BA f n).data=(BA g n).data:=by
   apply Array.toList_inj.1
   rw[mY,mY]
   apply List.map_congr_left
   intro i hi
   rw[h i (List.mem_range.1 hi)]
  cases hf:BA f n
  cases hg:BA g n
  rw[hf,hg]at this
  simp at this
  rw[this]
theorem kE (b off n cap:Nat) (bs:Nat→Nat) (w:World) (hr:Row8 w (af b off) n cap bs) :
  (convert 37 9 (.slice (af b off) n cap)).run prog w=.ok (.string (BA bs n)) w:=by
 rw[run_convert_bytes_string w 37 9 5 _ n cap underlying37 underlying5 underlying9]
 refine run_bytesToString w ⟨b,off,none⟩ n cap ((List.range n).map fun i=>(bs i:Int)) ?_
 have h:=run_loadCells_list (P:=prog) w ⟨b,off,none⟩ (((List.range n).map fun i=>(bs i:Int)).map (Value.int .u8)) (fun j v hv=>by
  simp only[List.getElem?_map]at hv
  by_cases hj:j<n
  ·rw[List.getElem?_range hj]at hv
   simp at hv
   rw[← hv]
   exact hr.src _ rfl j hj
  ·rw[List.getElem?_eq_none (by simp;omega)]at hv
   simp at hv)
 simpa using h
theorem eT (a:Option Addr) (n cap:Nat) (bs:Nat→Nat) (w:World) (hr:Row8 w a n cap bs) :
  (convert 37 9 (.slice a n cap)).run prog w=.ok (.string (BA bs n)) w:=by
 cases a with
 | none=>
  obtain⟨rfl,rfl⟩:=hr.nil rfl
  rw[run_convert_bytes_string w 37 9 5 _ 0 0 underlying37 underlying5 underlying9]
  rfl
 | some x=>
  obtain⟨b,off,spot⟩:=x
  by_cases h0:n=0
  ·subst h0
   rw[run_convert_bytes_string w 37 9 5 _ 0 cap underlying37 underlying5 underlying9]
   rfl
  ·obtain⟨b',off',he,_,_⟩:=hr.plain (by omega)
   cases he
   exact kE b off n cap bs w hr
theorem cA {P:Program} {ops:Array Oper} {Q:Exit→Act→World→Prop} {K:Act→World→Prop} {a:Act} {w:World} {i:Nat} {o:Oper} (v:Value) (w':World) (ho:ops[i]?=some o)
  (hw:Region.wanted o (yielded ops a.tmps)=true) (hrun:(execOp a.eval o).run P w=.ok (.value v) w') (h:K (a.put o.dst v) w'):wpOp P ops Q i K a w:=by
 unfold wpOp
 simp only[ho,hw,if_true]
 refine .inl ?_
 unfold Oper.wp
 rw[hrun]
 exact h
theorem eR {P:Program} {ops:Array Oper} {Q:Exit→Act→World→Prop} {K:Act→World→Prop} {a:Act} {w:World} {i:Nat} {o:Oper} (f:FuncId) (args:Array Value) (ho:ops[i]?=some o)
  (hw:Region.wanted o (yielded ops a.tmps)=true) (hrun:(execOp a.eval o).run P w=.ok (.enter f args) w) (hc:Calls P f args w fun e w''=>∃ v,e=.returned v∧K (a.put o.dst v) w''):wpOp P ops Q i K a w:=by
 unfold wpOp
 simp only[ho,hw,if_true]
 refine .inl ?_
 unfold Oper.wp
 rw[hrun]
 refine hc.mono ?_
 rintro e w'' ⟨v,rfl,h⟩
 exact h
theorem bQ {P:Program} {md:Region.Mode} {ops:Array Oper} {Q:Exit→Act→World→Prop} {fuel:Nat} {l l':Array Bool} {a a':Act} {w:World} (ha:a=a') (hl:l=l') (h:wpAny P md ops Q fuel l' a' w):wpAny P md ops Q fuel l a w:=by subst ha;subst hl;exact h
theorem ej {P:Program} {md:Region.Mode} {ops:Array Oper} {Q:Exit→Act→World→Prop} {fuel:Nat} {l:Array Bool} {a:Act} {w:World} {i:Nat} (hr:Region.ready md ops l=[i]) (h:wpOp P ops Q i (wpAny P md ops Q fuel (l.setIfInBounds i true)) a w):wpAny P md ops Q (fuel+1) l a w:=
 wpAny_all hr (by simp) (fun j hj=>by obtain rfl:=List.mem_singleton.1 hj;exact h)
theorem jF {P:Program} {md:Region.Mode} {ops:Array Oper} {Q:Exit→Act→World→Prop} {fuel:Nat} {l:Array Bool} {a:Act} {w:World} {i j:Nat} (hr:Region.ready md ops l=[i,j]) (h:wpOp P ops Q i (wpAny P md ops Q fuel (l.setIfInBounds i true)) a w) (h2:wpOp P ops Q j (wpAny P md ops Q fuel (l.setIfInBounds j true)) a w):wpAny P md ops Q (fuel+1) l a w:=
 wpAny_all hr (by simp) (fun k hk=>by
  rcases List.mem_cons.1 hk with rfl | hk
  ·exact h
  ·obtain rfl:=List.mem_singleton.1 hk;exact h2)
end Go.Proofs.YtenilkloffnjlaaGreat
