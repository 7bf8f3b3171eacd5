/- Part 7: contracts that the proof rests on. -/
import Derived.WalkKit
import Derived.Laws.BitsAllLaws
import Derived.Test.YtdpahjfekoikiaaGreatProg
import Derived.WalkSpells
import Derived.Lib.BitFns
import Derived.Laws.AppendOwnNone
import Derived.Deep.QuietTactic
import Derived.BigQuiet
import Derived.Lib.SlBytesConst
import Derived.Laws.BytesString
import Derived.Deep.RegionWith
import Derived.Deep.DeepCutAuto
import Derived.Test.YtdpahjfekoikiaaGreatPkX03
set_option maxHeartbeats 64000000
set_option maxRecDepth 100000
namespace Go.Proofs.YtdpahjfekoikiaaGreat.PM
theorem mP (a b:Nat):a ^^^ b ^^^ b=a:=by rw[Nat.xor_assoc,Nat.xor_self,Nat.xor_zero]
theorem fF (a b c d:Nat):(a ^^^ b) ^^^ (c ^^^ d)=(a ^^^ c) ^^^ (b ^^^ d):=by
 rw[Nat.xor_assoc,Nat.xor_assoc,← Nat.xor_assoc b c d,Nat.xor_comm b c,Nat.xor_assoc c b d]
theorem fY {a b:Nat} (h:a ^^^ b=0):a=b:=by
 have:=mP a b;rw[h,Nat.zero_xor]at this;exact this.symm
theorem ey (a b:Nat):2 * (a ^^^ b)=2*a ^^^ 2*b:=by
 have:=@Nat.shiftLeft_xor_distrib 1 a b
 simpa [Nat.shiftLeft_eq,Nat.mul_comm] using this
theorem dbl_add (a x:Nat) (hx:x<2):2*a+x=2*a ^^^ x:=by
 apply Nat.eq_of_testBit_eq
 intro i
 cases i with
 | zero=>
  rw[Nat.testBit_xor]
  simp only[Nat.testBit_zero]
  have h1:(2*a+x) % 2=x:=by omega
  have h2:(2*a) % 2=0:=by omega
  have h3:x % 2=x:=by omega
  rw[h1,h2,h3];simp
 | succ i=>
  rw[Nat.testBit_xor,Nat.testBit_succ,Nat.testBit_succ,Nat.testBit_succ]
  have h1:(2*a+x) / 2=a:=by omega
  have h2:(2*a) / 2=a:=by omega
  have h3:x / 2=0:=by omega
  rw[h1,h2,h3];simp
theorem gV {x y:Nat} (hx:x<2) (hy:y<2):x ^^^ y<2:=@Nat.xor_lt_two_pow x y 1 hx hy
theorem fp (a b x y:Nat) (hx:x<2) (hy:y<2):(2*a+x) ^^^ (2*b+y)=2 * (a ^^^ b) + (x ^^^ y):=by
 rw[dbl_add a x hx,dbl_add b y hy,dbl_add (a ^^^ b) _ (gV hx hy),ey,fF]
theorem rH (a b:Nat):(a ^^^ b) % 2=(a % 2 ^^^ b % 2):=by
 have:=fp (a / 2) (b / 2) (a % 2) (b % 2) (by omega) (by omega)
 have h1:2 * (a / 2)+a % 2=a:=by omega
 have h2:2 * (b / 2)+b % 2=b:=by omega
 rw[h1,h2]at this
 have:=gV (x:=a % 2) (y:=b % 2) (by omega) (by omega)
 omega
def stp (m d t:Nat):Nat:=if t.testBit d then t ^^^ m else t
theorem rp (m d:Nat):stp m d 0=0:=by simp[stp]
theorem td (m d s t:Nat):stp m d (s ^^^ t)=stp m d s ^^^ stp m d t:=by
 unfold stp
 rw[Nat.testBit_xor]
 cases s.testBit d <;> cases t.testBit d <;> simp
 ·exact Nat.xor_assoc _ _ _
 ·rw[Nat.xor_assoc,Nat.xor_comm t m,← Nat.xor_assoc]
 ·rw[fF,Nat.xor_self,Nat.xor_zero]
theorem eW {x n:Nat} (h:x<2 ^ (n+1)) (hb:x.testBit n=false):x<2 ^ n:=by
 apply Nat.lt_pow_two_of_testBit
 intro i hi
 by_cases e:i=n
 ·subst e;exact hb
 ·exact Nat.testBit_lt_two_pow (Nat.lt_of_lt_of_le h (Nat.pow_le_pow_right (by omega) (by omega)))
structure Deg (m d:Nat):Prop where
 lt:m<2 ^ (d+1)
 top:m.testBit d=true
theorem Deg.pos {m d:Nat} (h:Deg m d):m≠0:=by
 intro e;have:=h.top;rw[e]at this;simp at this
theorem Deg.le {m d:Nat} (h:Deg m d):2 ^ d≤m:=Nat.ge_two_pow_of_testBit h.top
theorem deg_log2 {m:Nat} (h:m≠0):Deg m m.log2:=by
 have h1:=Nat.log2_self_le h
 have h2:=@Nat.lt_log2_self m
 refine⟨h2,?_⟩
 cases hb:m.testBit m.log2
 ·exact absurd (eW h2 hb) (by omega)
 ·rfl
theorem Deg.log2 {m d:Nat} (h:Deg m d):m.log2=d:=(Nat.log2_eq_iff h.pos).2 ⟨h.le,h.lt⟩
theorem ro {m d t:Nat} (hm:Deg m d) (ht:t<2 ^ (d+1)):stp m d t<2 ^ d:=by
 unfold stp
 split
 ·rename_i h
  apply eW (Nat.xor_lt_two_pow ht hm.lt)
  rw[Nat.testBit_xor,h,hm.top];rfl
 ·rename_i h
  exact eW ht (by simpa using h)
theorem jb {m d t:Nat} (ht:t<2 ^ d):stp m d t=t:=by
 unfold stp;rw[Nat.testBit_lt_two_pow ht];rfl
def rm (m d:Nat):Nat→Nat→Nat
 | 0,_=>0
 | k+1,n=>stp m d (2*rm m d k (n / 2)+n % 2)
def R (m d n:Nat):Nat:=rm m d n n
theorem tr {m d:Nat} (hm:Deg m d) (k n:Nat):rm m d k n<2 ^ d:=by
 cases k with
 | zero=>exact Nat.two_pow_pos d
 | succ k=>
  refine ro hm ?_
  have:=tr hm k (n / 2)
  rw[Nat.pow_succ];omega
theorem sR (m d:Nat) (k:Nat):∀ n,n<2 ^ k→rm m d (k+1) n=rm m d k n:=by
 induction k with
 | zero=>
      intro n hn;have:n=0:=by omega
      subst this;simp[rm,rp]
 | succ k ih=>
  intro n hn
  show stp m d (2*rm m d (k+1) (n / 2)+n % 2)=stp m d (2*rm m d k (n / 2)+n % 2)
  rw[ih (n / 2) (by rw[Nat.pow_succ]at hn;omega)]
theorem i4 (m d k n:Nat) (hn:n<2 ^ k) (j:Nat):rm m d (k+j) n=rm m d k n:=by
 induction j with
 | zero=>rfl
 | succ j ih=>
  rw[← Nat.add_assoc,sR m d (k+j) n (Nat.lt_of_lt_of_le hn (Nat.pow_le_pow_right (by omega) (by omega))),ih]
theorem aJ (n:Nat):n<2 ^ n:=Nat.lt_two_pow_self
theorem gt (m d k n:Nat) (hn:n<2 ^ k):rm m d k n=R m d n:=by
 unfold R
 rcases Nat.le_total k n with h | h
 ·obtain⟨j,rfl⟩:=Nat.exists_eq_add_of_le h
  exact (i4 m d k _ hn j).symm
 ·obtain⟨j,rfl⟩:=Nat.exists_eq_add_of_le h
  exact i4 m d n n (aJ n) j
theorem R_lt {m d:Nat} (hm:Deg m d) (n:Nat):R m d n<2 ^ d:=tr hm n n
theorem tF (m d:Nat):R m d 0=0:=rfl
theorem tm (m d n b:Nat) (hb:b<2):R m d (2*n+b)=stp m d (2*R m d n+b):=by
 have h1:2*n+b<2 ^ (n+1):=by
  have:=aJ n;rw[Nat.pow_succ];omega
 rw[← gt m d (n+1) _ h1]
 show stp m d (2*rm m d n ((2*n+b) / 2) + (2*n+b) % 2)=_
 have e1:(2*n+b) / 2=n:=by omega
 have e2:(2*n+b) % 2=b:=by omega
 rw[e1,e2];rfl
theorem lI (m d n:Nat):R m d (2*n)=stp m d (2*R m d n):=tm m d n 0 (by omega)
theorem uc (m d:Nat) (k:Nat):∀ a b,rm m d k (a ^^^ b)=rm m d k a ^^^ rm m d k b:=by
 induction k with
 | zero=>intro a b;simp[rm]
 | succ k ih=>
  intro a b
  show stp m d (2*rm m d k ((a ^^^ b) / 2) + (a ^^^ b) % 2)=_
  rw[Nat.xor_div_two,rH,ih,← fp _ _ _ _ (by omega) (by omega),td]
  rfl
theorem R_xor (m d a b:Nat):R m d (a ^^^ b)=R m d a ^^^ R m d b:=by
 have ha:a<2 ^ (a+b):=Nat.lt_of_lt_of_le (aJ a) (Nat.pow_le_pow_right (by omega) (by omega))
 have hb:b<2 ^ (a+b):=Nat.lt_of_lt_of_le (aJ b) (Nat.pow_le_pow_right (by omega) (by omega))
 rw[← gt m d _ _ (Nat.xor_lt_two_pow ha hb),uc,gt m d _ _ ha,gt m d _ _ hb]
theorem qR (m d:Nat) (k:Nat):∀ n,n<2 ^ d→n<2 ^ k→rm m d k n=n:=by
 induction k with
 | zero=>
      intro n _ hn;have:n=0:=by omega
      subst this;rfl
 | succ k ih=>
  intro n hd hn
  show stp m d (2*rm m d k (n / 2)+n % 2)=n
  rw[ih (n / 2) (by omega) (by rw[Nat.pow_succ]at hn;omega)]
  have e:2 * (n / 2)+n % 2=n:=by omega
  rw[e,jb hd]
theorem fe (m d n:Nat) (h:n<2 ^ d):R m d n=n:=qR m d n n h (aJ n)
theorem vO {m d:Nat} (hm:Deg m d) (n:Nat):R m d (R m d n)=R m d n:=fe m d _ (R_lt hm n)
def cl (a b:Nat):Nat→Nat
 | 0=>0
 | k+1=>cl a b k ^^^ (if b.testBit k then a <<< k else 0)
def C (a b:Nat):Nat:=cl a b b
theorem iH (a b k:Nat) (hb:b<2 ^ k) (j:Nat):cl a b (k+j)=cl a b k:=by
 induction j with
 | zero=>rfl
 | succ j ih=>
  show cl a b (k+j) ^^^ (if b.testBit (k+j) then a <<< (k+j) else 0)=_
  rw[Nat.testBit_lt_two_pow (Nat.lt_of_lt_of_le hb (Nat.pow_le_pow_right (by omega) (by omega))),ih]
  simp
theorem gm (a b k:Nat) (hb:b<2 ^ k):cl a b k=C a b:=by
 unfold C
 rcases Nat.le_total k b with h | h
 ·obtain⟨j,e⟩:=Nat.exists_eq_add_of_le h
  rw[e];rw[e]at hb
  exact (iH a _ k hb j).symm
 ·obtain⟨j,rfl⟩:=Nat.exists_eq_add_of_le h
  exact iH a b b (aJ b) j
theorem tA (a:Nat):C a 0=0:=rfl
theorem js (b k:Nat):cl 0 b k=0:=by
 induction k with
 | zero=>rfl
 | succ k ih=>simp[cl,ih]
theorem C_zero_left (b:Nat):C 0 b=0:=js b b
theorem j5 (a c b k:Nat):cl (a ^^^ c) b k=cl a b k ^^^ cl c b k:=by
 induction k with
 | zero=>simp[cl]
 | succ k ih=>
  show cl (a ^^^ c) b k ^^^ _=(cl a b k ^^^ _) ^^^ (cl c b k ^^^ _)
  rw[ih]
  cases b.testBit k
  ·simp
  ·simp[Nat.shiftLeft_xor_distrib];rw[fF]
theorem C_xor_left (a c b:Nat):C (a ^^^ c) b=C a b ^^^ C c b:=j5 a c b b
theorem jr (a b c k:Nat):cl a (b ^^^ c) k=cl a b k ^^^ cl a c k:=by
 induction k with
 | zero=>simp[cl]
 | succ k ih=>
  show cl a (b ^^^ c) k ^^^ _=(cl a b k ^^^ _) ^^^ (cl a c k ^^^ _)
  rw[ih,Nat.testBit_xor]
  cases b.testBit k <;> cases c.testBit k
  ·simp
  ·simp[Nat.xor_assoc]
  ·simp;rw[Nat.xor_assoc,Nat.xor_assoc,Nat.xor_comm (a <<< k)]
  ·simp;rw[fF,Nat.xor_self,Nat.xor_zero]
theorem fS (a b c:Nat):C a (b ^^^ c)=C a b ^^^ C a c:=by
 have hb:b<2 ^ (b+c):=Nat.lt_of_lt_of_le (aJ b) (Nat.pow_le_pow_right (by omega) (by omega))
 have hc:c<2 ^ (b+c):=Nat.lt_of_lt_of_le (aJ c) (Nat.pow_le_pow_right (by omega) (by omega))
 rw[← gm a _ _ (Nat.xor_lt_two_pow hb hc),jr,gm a _ _ hb,gm a _ _ hc]
theorem sX (a k:Nat):(2*a) <<< k=2 * (a <<< k):=by
 rw[Nat.shiftLeft_eq,Nat.shiftLeft_eq,Nat.mul_assoc]
theorem qZ (a k:Nat):a <<< (k+1)=2 * (a <<< k):=by
 rw[Nat.shiftLeft_eq,Nat.shiftLeft_eq,Nat.pow_succ,← Nat.mul_assoc,Nat.mul_comm]
theorem j4 (a b k:Nat):cl (2*a) b k=2*cl a b k:=by
 induction k with
 | zero=>rfl
 | succ k ih=>
  show cl (2*a) b k ^^^ _=2 * (cl a b k ^^^ _)
  rw[ih,ey]
  cases b.testBit k <;> simp[sX]
theorem C_two_left (a b:Nat):C (2*a) b=2*C a b:=j4 a b b
theorem jq (a b k:Nat):cl a (2*b) (k+1)=2*cl a b k:=by
 induction k with
 | zero=>
  show cl a (2*b) 0 ^^^ _=0
  have:(2*b).testBit 0=false:=by simp
  rw[this];simp[cl]
 | succ k ih=>
  show cl a (2*b) (k+1) ^^^ (if (2*b).testBit (k+1) then a <<< (k+1) else 0)=2 * (cl a b k ^^^ _)
  have e:(2*b).testBit (k+1)=b.testBit k:=by
   rw[Nat.testBit_succ];congr 1;omega
  rw[ih,ey,e]
  cases b.testBit k <;> simp[qZ]
theorem C_two_right (a b:Nat):C a (2*b)=2*C a b:=by
 have h:2*b<2 ^ (b+1):=by have:=aJ b;rw[Nat.pow_succ];omega
 rw[← gm a _ _ h,jq];rfl
theorem cU (a:Nat):C a 1=a:=by
 show cl a 1 0 ^^^ _=a
 have:(1:Nat).testBit 0=true:=rfl
 rw[this];simp[cl]
theorem un (a b:Nat) (h:b<2):C a b=if b=1 then a else 0:=by
 have:b=0∨b=1:=by omega
 rcases this with rfl | rfl
 ·rfl
 ·rw[cU];rfl
theorem jX (a b x:Nat) (hx:x<2):C a (2*b+x)=2*C a b ^^^ (if x=1 then a else 0):=by
 rw[dbl_add b x hx,fS,C_two_right,un a x hx]
theorem gv (k:Nat):∀ b,b<2 ^ k→C 1 b=b:=by
 induction k with
 | zero=>
      intro b hb;have:b=0:=by omega
      subst this;rfl
 | succ k ih=>
  intro b hb
  have e:2 * (b / 2)+b % 2=b:=by omega
  rw[← e,jX 1 _ _ (by omega),ih (b / 2) (by rw[Nat.pow_succ]at hb;omega),dbl_add _ _ (by omega)]
  congr 1
  split <;> omega
theorem C_one_left (b:Nat):C 1 b=b:=gv b b (aJ b)
theorem lF (a b:Nat) (h:a<2):C a b=if a=1 then b else 0:=by
 have:a=0∨a=1:=by omega
 rcases this with rfl | rfl
 ·rw[C_zero_left];rfl
 ·rw[C_one_left];rfl
theorem lG (k:Nat):∀ a b,b<2 ^ k→C a b=C b a:=by
 induction k with
 | zero=>
      intro a b hb;have:b=0:=by omega
      subst this;rw[tA,C_zero_left]
 | succ k ih=>
  intro a b hb
  have e:2 * (b / 2)+b % 2=b:=by omega
  rw[← e,jX a _ _ (by omega),dbl_add _ _ (by omega),C_xor_left,C_two_left,lF (b % 2) a (by omega),ih a (b / 2) (by rw[Nat.pow_succ]at hb;omega)]
theorem tz (a b:Nat):C a b=C b a:=lG b a b (aJ b)
theorem jW (k:Nat):∀ a b c,c<2 ^ k→C (C a b) c=C a (C b c):=by
 induction k with
 | zero=>
      intro a b c hc;have:c=0:=by omega
      subst this;rfl
 | succ k ih=>
  intro a b c hc
  have e:2 * (c / 2)+c % 2=c:=by omega
  rw[← e,jX _ _ _ (by omega),jX _ _ _ (by omega),fS,C_two_right,ih a b (c / 2) (by rw[Nat.pow_succ]at hc;omega)]
  congr 1
  split <;> rfl
theorem jl (a b c:Nat):C (C a b) c=C a (C b c):=jW c a b c (aJ c)
theorem ee (a k:Nat):C a (2 ^ k)=a*2 ^ k:=by
 induction k with
 | zero=>simp[cU]
 | succ k ih=>rw[Nat.pow_succ,Nat.mul_comm (2 ^ k) 2,C_two_right,ih];rw[Nat.mul_left_comm]
theorem nH (a b:Nat):C (2 ^ a) (2 ^ b)=2 ^ (a+b):=by rw[ee,Nat.pow_add]
theorem mR (m d a b x:Nat) (hx:x<2):R m d (C a (2*b+x))=stp m d (2*R m d (C a b)) ^^^ (if x=1 then R m d a else 0):=by
 rw[jX a b x hx,R_xor,lI]
 congr 1
 split
 ·rfl
 ·rfl
theorem jo {m d:Nat} (hm:Deg m d) (k:Nat):∀ a b,b<2 ^ k→R m d (C (R m d a) b)=R m d (C a b):=by
 induction k with
 | zero=>
      intro a b hb;have:b=0:=by omega
      subst this;rfl
 | succ k ih=>
  intro a b hb
  have e:2 * (b / 2)+b % 2=b:=by omega
  rw[← e,mR m d _ _ _ (by omega),mR m d _ _ _ (by omega),ih a (b / 2) (by rw[Nat.pow_succ]at hb;omega),vO hm]
theorem pv {m d:Nat} (hm:Deg m d) (a b:Nat):R m d (C (R m d a) b)=R m d (C a b):=jo hm b a b (aJ b)
theorem log2_lt64 {q:Nat} (h0:q≠0) (h:q<2 ^ 64):q.log2<64:=(Nat.log2_lt h0).2 h
def bl (n:Nat):Nat:=if n=0 then 0 else n.log2+1
theorem bl_pos {n:Nat} (h:n≠0):bl n=n.log2+1:=by simp[bl,h]
theorem bl_le {n k:Nat} (h:n<2 ^ k):bl n≤k:=by
 unfold bl
 split
 ·omega
 ·rename_i h0;have:=(Nat.log2_lt h0).2 h;omega
theorem lt_bl (n:Nat):n<2 ^ bl n:=by
 unfold bl
 split
 ·subst_vars;decide
 ·exact Nat.lt_log2_self
theorem li (q k j:Nat) (h:j=k+1):q >>> k=2 * (q >>> j) + (q.testBit k).toNat:=by
 subst h
 rw[Nat.toNat_testBit,Nat.shiftRight_eq_div_pow,Nat.shiftRight_eq_div_pow,Nat.pow_succ,← Nat.div_div_eq_div_mul]
 omega
theorem shr_true {q k j:Nat} (hb:q.testBit k=true) (h:j=k+1):q >>> k=2 * (q >>> j)+1:=by
 rw[li q k j h,hb];rfl
theorem shr_false {q k j:Nat} (hb:q.testBit k=false) (h:j=k+1):q >>> k=2 * (q >>> j):=by
 rw[li q k j h,hb];rfl
theorem kS (p i:Nat):p % 2 ^ (i+1)=p % 2 ^ i+2 ^ i * (p.testBit i).toNat:=by
 rw[Nat.toNat_testBit,Nat.pow_succ,Nat.mod_mul]
theorem qq {p i:Nat} (h:p.testBit i=true):p % 2 ^ (i+1)=p % 2 ^ i+2 ^ i:=by
 rw[kS,h];simp
theorem oF {p i:Nat} (h:p.testBit i=false):p % 2 ^ (i+1)=p % 2 ^ i:=by
 rw[kS,h];simp
theorem bl_mod_true {p i:Nat} (h:p.testBit i=true):bl (p % 2 ^ (i+1))=i+1:=by
 have h1:p % 2 ^ (i+1)<2 ^ (i+1):=Nat.mod_lt _ (Nat.two_pow_pos _)
 have h2:=qq h
 have h0:p % 2 ^ (i+1)≠0:=by have:=Nat.two_pow_pos i;omega
 have h3:(p % 2 ^ (i+1)).log2=i:=(Nat.log2_eq_iff h0).2 ⟨by omega,h1⟩
 rw[bl_pos h0,h3]
theorem bl_mod_false {p i:Nat} (h:p.testBit i=false):bl (p % 2 ^ (i+1))=bl (p % 2 ^ i):=by rw[oF h]
def V (f:Nat→Bool):Nat→Nat
 | 0=>0
 | i+1=>2*V f i + (f i).toNat
theorem V_congr (f g:Nat→Bool) (n:Nat) (h:∀ i,i<n→f i=g i):V f n=V g n:=by
 induction n with
 | zero=>rfl
 | succ n ih=>
  show 2*V f n + (f n).toNat=2*V g n + (g n).toNat
  rw[ih (fun i hi=>h i (by omega)),h n (by omega)]
theorem R_V (m d:Nat) (f:Nat→Bool) (i:Nat):R m d (V f (i+1))=stp m d (2*R m d (V f i) + (f i).toNat):=by
 show R m d (2*V f i + (f i).toNat)=_
 exact tm m d _ _ (by have:=Bool.toNat_le (f i);omega)
theorem top_bit (r d b:Nat) (hb:b<2) (hd:0<d):(2*r+b).testBit d=r.testBit (d-1):=by
 obtain⟨e,rfl⟩:∃ e,d=e+1:=⟨d-1,by omega⟩
 rw[Nat.testBit_succ];congr 1;omega
theorem V_flip (f:Nat→Bool) (n j:Nat) (hj:j<n):V (fun i=>if i=j then !f i else f i) n=V f n ^^^ 2 ^ (n-1-j):=by
 induction n with
 | zero=>omega
 | succ n ih=>
  show 2*V (fun i=>if i=j then !f i else f i) n + (if n=j then !f n else f n).toNat=(2*V f n + (f n).toNat) ^^^ 2 ^ (n+1-1-j)
  by_cases e:n=j
  ·subst e
   rw[V_congr (fun i=>if i=n then !f i else f i) f n (fun i hi=>by simp[show ¬ i=n by omega]),if_pos rfl,show n+1-1-n=0 by omega]
   have h:=fp (V f n) 0 ((f n).toNat) 1 (by have:=Bool.toNat_le (f n);omega) (by omega)
   simp only[Nat.mul_zero,Nat.zero_add,Nat.xor_zero]at h
   rw[Nat.pow_zero,h]
   cases f n <;> rfl
  ·rw[if_neg e,ih (by omega),show n+1-1-j=(n-1-j)+1 by omega,Nat.pow_succ,Nat.mul_comm (2 ^ _) 2]
   have h:=fp (V f n) (2 ^ (n-1-j)) ((f n).toNat) 0 (by have:=Bool.toNat_le (f n);omega) (by omega)
   simp only[Nat.add_zero,Nat.xor_zero]at h
   rw[h]
def fb (bs:Nat→Nat) (n:Nat):Bool:=(bs (n / 8)).testBit (7-n % 8)
theorem fb_at (bs:Nat→Nat) (i j:Nat) (hj:j<8):fb bs (8*i+j)=(bs i).testBit (7-j):=by
 unfold fb
 rw[show (8*i+j) / 8=i by omega,show (8*i+j) % 8=j by omega]
theorem px (f:Nat→Bool) (n k:Nat):V f (n+k)=C (V f n) (2 ^ k) ^^^ V (fun i=>f (n+i)) k:=by
 induction k with
 | zero=>rw[Nat.pow_zero,cU];exact (Nat.xor_zero _).symm
 | succ k ih=>
  show 2*V f (n+k) + (f (n+k)).toNat=C (V f n) (2 ^ (k+1)) ^^^ (2*V (fun i=>f (n+i)) k + (f (n+k)).toNat)
  have hb:(f (n+k)).toNat<2:=by have:=Bool.toNat_le (f (n+k));omega
  rw[ih,Nat.pow_succ,Nat.mul_comm (2 ^ k) 2,C_two_right]
  have h:=fp (C (V f n) (2 ^ k)) (V (fun i=>f (n+i)) k) 0 ((f (n+k)).toNat) (by omega) hb
  simp only[Nat.add_zero,Nat.zero_xor]at h
  rw[h]
end Go.Proofs.YtdpahjfekoikiaaGreat.PM
namespace Go.Proofs.YtdpahjfekoikiaaGreat
open Tryz
open Go.RowKit
theorem sY (p i:Nat) (hp:p<18446744073709551616):(p:Int) / 2 ^ min i 64=((p >>> i:Nat):Int):=by
 rw[Nat.shiftRight_eq_div_pow]
 rcases Nat.le_total i 64 with h | h
 ·rw[Nat.min_eq_left h];simp
 ·rw[Nat.min_eq_right h]
  have h1:p / 2 ^ i=0:=Nat.div_eq_of_lt (Nat.lt_of_lt_of_le hp (show 2 ^ 64≤2 ^ i from Nat.pow_le_pow_right (by omega) h))
  rw[h1]
  exact Int.ediv_eq_zero_of_lt (by omega) (by omega)
theorem rR (a:Nat) (h:a<18446744073709551616):bits .and .u64 (a:Int) 1=((a % 2:Nat):Int):=by
 have:=u64_and_nat a 1 h (by omega)
 rw[nat_mask1]at this
 exact this
theorem ue (p i:Nat) (hp:p<18446744073709551616):p >>> i<18446744073709551616:=by
 rw[Nat.shiftRight_eq_div_pow];exact Nat.lt_of_le_of_lt (Nat.div_le_self _ _) hp
theorem jM (p i:Nat):p >>> i % 2=(p.testBit i).toNat:=by
 rw[Nat.toNat_testBit,Nat.shiftRight_eq_div_pow]
theorem rV (p i:Nat) (hp:p<18446744073709551616):bits .and .u64 ((p:Int) / 2 ^ min i 64) 1=((p.testBit i).toNat:Int):=by
 rw[sY p i hp,rR _ (ue p i hp),jM]
theorem rU (p i:Nat) (hp:p<18446744073709551616):(bits .and .u64 ((p:Int) / 2 ^ min i 64) 1 != 0)=p.testBit i:=by
 rw[rV p i hp]
 cases p.testBit i <;> rfl
theorem jS (a b:Nat) (ha:a<18446744073709551616) (hb:b<18446744073709551616):bits .xor .u64 (a:Int) (b:Int)=((a ^^^ b:Nat):Int):=u64_xor_nat a b ha hb
theorem fx {k:IntKind} {a b:Int} (h:a=b):Ending.returned (.int k a)=.returned (.int k b):=by rw[h]
theorem fy {a:Int} {b:Nat} {k:IntKind} (h:a=(b:Int)):Value.int k a=.int k b:=by rw[h]
theorem dP (p i:Nat) (hp:p<18446744073709551616) (hi:i<64):(bits .and .u64 ((p:Int) / 2 ^ i) 1 != 0)=p.testBit i:=by
 have:=rU p i hp;rwa [Nat.min_eq_left (by omega)]at this
theorem cT (p:Nat) (w:World) (hp:p<18446744073709551616) :
  Calls prog 194 #[.int .u64 p] w fun e w'=>e=.returned (.int .i64 ((PM.bl p:Nat)-1:Int))∧w'=w:=by
 go_enter func194,ntmps194
 go_wp2
 go_loop [3,4] (fun d c=>∃ i:Nat,i≤64∧c=.int .i64 i∧d=.int .i64 ((PM.bl (p % 2 ^ i):Nat)-1:Int)) (fun _ c=>64 - (intOf c).toNat)
 case atStart=>exact⟨0,by omega,rfl,congrArg (Value.int .i64) (by rw[show p % 2 ^ 0=0 by omega];rfl)⟩
 case round=>
  obtain⟨i,hi,rfl,rfl⟩:=hrel
  by_cases hlt:i<64
  ·cases hbit:p.testBit i
   ·have t1:(bits .and .u64 ((p:Int) / 2 ^ i) 1 != 0)=false:=by rw[dP p i hp hlt];exact hbit
    go_wp2
    go_round
    case rel=>exact⟨i+1,by omega,by go_num,by rw[PM.bl_mod_false hbit]⟩
    case measure=>simp[intOf] <;> omega
   ·have t1:(bits .and .u64 ((p:Int) / 2 ^ i) 1 != 0)=true:=by rw[dP p i hp hlt];exact hbit
    go_wp2
    go_round
    case rel=>exact⟨i+1,by omega,by go_num,congrArg (Value.int .i64) (by rw[PM.bl_mod_true hbit];omega)⟩
    case measure=>simp[intOf] <;> omega
  ·go_wp2
   go_ret
   exact⟨fx (by rw[show i=64 by omega,Nat.mod_eq_of_lt (show p<2 ^ 64 from hp)]),rfl⟩
theorem mW (r:Nat):(r:Int)*2=((2*r:Nat):Int):=by omega
theorem mX (r:Nat) (hr:r<9223372036854775808):bits .xor .u64 ((r:Int)*2) 1=((2*r+1:Nat):Int):=by
 rw[mW r]
 have h:=jS (2*r) 1 (by omega) (by omega)
 rw[← PM.dbl_add r 1 (by omega)]at h
 exact h
theorem pD (b off n cap m:Nat) (f:Nat→Bool) (w:World) (hn:n≤140737488355328) (hm:m<18446744073709551616) (h0:m≠0)
  (hc:∀ i,i<n→w.cell? ⟨b,off+i,none⟩=some (.bool (f i))) :
  Calls prog 157 #[.slice (ac b off) n cap,.int .u64 m] w fun e w'=>e=.returned (.int .u64 (PM.R m m.log2 (PM.V f n):Nat))∧w'=w:=by
 have hl:=PM.log2_lt64 h0 hm
 have hd2:Hid (PM.bl m=m.log2+1):=PM.bl_pos h0
 have hd3:m.log2+1≤PM.bl m∧PM.bl m≤m.log2+1:=by have:=hd2.out;omega
 by_cases hz:m.log2=0
 ·have hR:=PM.R_lt (PM.deg_log2 h0) (PM.V f n)
  have hz1:((PM.bl m:Int)-1 == 0)=true:=by simp;omega
  clear hc
  have HR:Hid (PM.R m m.log2 (PM.V f n)=0):=by rw[hz]at hR;show PM.R m m.log2 (PM.V f n)=0;rw[hz];omega
  clear hR hz
  go_enter func157,ntmps157
  go_wp2_with (go_at_call 194;refine (cT _ _ (by assumption)).mono ?_;rintro e w' ⟨rfl,rfl⟩)
  go_ret
  exact⟨fx (by rw[HR.out];rfl),rfl⟩
 ·have hz1:((PM.bl m:Int)-1 == 0)=false:=by simp;omega
  go_enter func157,ntmps157
  go_wp2_with (go_at_call 194;refine (cT _ _ (by assumption)).mono ?_;rintro e w' ⟨rfl,rfl⟩)
  go_loop [6,7,8] (fun r c _=>∃ i:Nat,i≤n∧c=.int .i64 i∧r=.int .u64 (PM.R m m.log2 (PM.V f i):Nat)) (fun _ c _=>n - (intOf c).toNat)
  case atStart=>exact⟨0,by omega,rfl,rfl⟩
  case round=>
   obtain⟨i,hi,rfl,rfl⟩:=hrel
   have hr:=PM.R_lt (PM.deg_log2 h0) (PM.V f i)
   have hr2:PM.R m m.log2 (PM.V f i)<9223372036854775808:=Nat.lt_of_lt_of_le hr (show 2 ^ m.log2≤2 ^ 63 from Nat.pow_le_pow_right (by omega) (by omega))
   by_cases hlt:i<n
   ·have hcell:=hc i hlt
    have HV:Hid (PM.R m m.log2 (PM.V f (i+1))=PM.stp m m.log2 (2*PM.R m m.log2 (PM.V f i) + (f i).toNat)):=PM.R_V m _ f i
    have HT:=PM.top_bit (PM.R m m.log2 (PM.V f i)) m.log2 ((f i).toNat) (by have:=Bool.toNat_le (f i);omega) (by omega)
    generalize PM.R m m.log2 (PM.V f i)=r at *
    cases hfi:f i
    ·cases hbit:r.testBit (m.log2-1)
     ·have t1:(bits .and .u64 ((r:Int) / 2 ^ (PM.bl m-1-1)) 1 != 0)=false:=by rw[show PM.bl m-1-1=m.log2-1 by omega,dP r _ (by omega) (by omega)];exact hbit
      rw[hfi]at hcell
      have HT2:Hid (PM.stp m m.log2 (2*r + (f i).toNat)=2*r):=by
       show PM.stp m m.log2 (2*r + (f i).toNat)=2*r
       rw[hfi]at HT ⊢
       rw[PM.stp,HT,hbit];rfl
      clear HT hc hfi
      go_wp2
      go_round
      case rel=>exact⟨i+1,by omega,by go_num,fy (by rw[HV.out,HT2.out];omega)⟩
      case measure=>simp[intOf] <;> omega
     ·have t1:(bits .and .u64 ((r:Int) / 2 ^ (PM.bl m-1-1)) 1 != 0)=true:=by rw[show PM.bl m-1-1=m.log2-1 by omega,dP r _ (by omega) (by omega)];exact hbit
      rw[hfi]at hcell
      have HT2:Hid (PM.stp m m.log2 (2*r + (f i).toNat)=2*r ^^^ m):=by
       show PM.stp m m.log2 (2*r + (f i).toNat)=2*r ^^^ m
       rw[hfi]at HT ⊢
       rw[PM.stp,HT,hbit];rfl
      clear HT hc hfi
      go_wp2
      go_round
      case rel=>exact⟨i+1,by omega,by go_num,fy (by rw[HV.out,HT2.out,mW r];exact jS _ _ (by omega) hm)⟩
      case measure=>simp[intOf] <;> omega
    ·cases hbit:r.testBit (m.log2-1)
     ·have t1:(bits .and .u64 ((r:Int) / 2 ^ (PM.bl m-1-1)) 1 != 0)=false:=by rw[show PM.bl m-1-1=m.log2-1 by omega,dP r _ (by omega) (by omega)];exact hbit
      rw[hfi]at hcell
      have HT2:Hid (PM.stp m m.log2 (2*r + (f i).toNat)=2*r+1):=by
       show PM.stp m m.log2 (2*r + (f i).toNat)=2*r+1
       rw[hfi]at HT ⊢
       rw[PM.stp,HT,hbit];rfl
      clear HT hc hfi
      go_wp2
      go_round
      case rel=>exact⟨i+1,by omega,by go_num,fy (by rw[HV.out,HT2.out];exact mX r hr2)⟩
      case measure=>simp[intOf] <;> omega
     ·have t1:(bits .and .u64 ((r:Int) / 2 ^ (PM.bl m-1-1)) 1 != 0)=true:=by rw[show PM.bl m-1-1=m.log2-1 by omega,dP r _ (by omega) (by omega)];exact hbit
      rw[hfi]at hcell
      have HT2:Hid (PM.stp m m.log2 (2*r + (f i).toNat)=(2*r+1) ^^^ m):=by
       show PM.stp m m.log2 (2*r + (f i).toNat)=(2*r+1) ^^^ m
       rw[hfi]at HT ⊢
       rw[PM.stp,HT,hbit];rfl
      clear HT hc hfi
      go_wp2
      go_round
      case rel=>exact⟨i+1,by omega,by go_num,fy (by rw[HV.out,HT2.out,mX r hr2];exact jS _ _ (by omega) hm)⟩
      case measure=>simp[intOf] <;> omega
   ·clear hc
    go_wp2
    go_ret
    exact⟨fx (by rw[show i=n by omega]),rfl⟩
theorem vo (x k:Nat) (hx:x<256):bits .and .u8 ((x:Int) / 2 ^ k) 1=((x.testBit k).toNat:Int):=by
 have e:(x:Int) / 2 ^ k=((x >>> k:Nat):Int):=by rw[Nat.shiftRight_eq_div_pow];simp
 have hl:x >>> k<256:=by rw[Nat.shiftRight_eq_div_pow];exact Nat.lt_of_le_of_lt (Nat.div_le_self _ _) hx
 have h:=u8_and_nat (x >>> k) 1 hl (by omega)
 rw[nat_mask1,jM]at h
 rw[e]
 exact h
theorem gz (a:Option Addr) (cap m:Nat) (w:World) (hm:m<18446744073709551616) :
  Calls prog 157 #[.slice a 0 cap,.int .u64 m] w fun e w'=>e=.returned (.int .u64 0)∧w'=w:=by
 have hb:=PM.bl_le (n:=m) (k:=64) (by omega)
 by_cases hz:PM.bl m=1
 ·have hz1:((PM.bl m:Int)-1 == 0)=true:=by simp;omega
  clear hz
  go_enter func157,ntmps157
  go_wp2_with (go_at_call 194;refine (cT _ _ (by assumption)).mono ?_;rintro e w' ⟨rfl,rfl⟩)
  go_ret
  exact⟨rfl,rfl⟩
 ·have hz1:((PM.bl m:Int)-1 == 0)=false:=by simp;omega
  go_enter func157,ntmps157
  go_wp2_with (go_at_call 194;refine (cT _ _ (by assumption)).mono ?_;rintro e w' ⟨rfl,rfl⟩)
  refine wp_loop_rounds 1 ?_
  rw[rounds_succ]
  go_wp2
  go_ret
  exact⟨rfl,rfl⟩
def BL (bs:Nat→Nat) (n:Nat):List Value:=(List.range n).map fun t=>Value.bool (PM.fb bs t)
theorem rL (bs:Nat→Nat) (n:Nat):BL bs (n+1)=BL bs n ++ [Value.bool (PM.fb bs n)]:=by simp[BL,List.range_succ]
theorem tw (bs:Nat→Nat) (n i:Nat) (h:i<n):(BL bs n)[i]?=some (Value.bool (PM.fb bs i)):=by simp[BL,h]
theorem iU:(prog.info? 4).map (fun i=>(i.zero,i.size,i.bytes))=some (some (.bool false),1,1):=by kernel_rfl
theorem pC (x k:Nat) (hx:x<256):(bits .and .u8 ((x:Int) / 2 ^ k) 1 != 0)=x.testBit k:=by
 rw[vo x k hx];cases x.testBit k <;> rfl
theorem oN (b off len cap m:Nat) (bs:Nat→Nat) (w:World) (hlen:len≤1000000) (hm:m<18446744073709551616) (h0:m≠0)
  (hb:b<w.heap.size) (hc:∀ i,i<len→bs i<256∧w.cell? ⟨b,off+i,none⟩=some (.int .u8 (bs i))) :
  Calls prog 134 #[.slice (ac b off) len cap,.int .u64 m] w fun e w'=>e=.returned (.tuple #[.int .u64 (PM.R m m.log2 (PM.V (PM.fb bs) (8*len)):Nat),.int .i64 0])∧Below w.heap.size w w':=by
 have hz:((m:Int) == 0)=false:=by simpa using h0
 obtain⟨i0,hi,hz0,hz1,hz2⟩:=info_parts iU
 go_enter func134,ntmps134
 go_wp2_with (at_make;refine wpList_make_own _ rfl _ _ 261 rfl w.heap.size 4 i0 (.bool false) 1 underlying261 hi hz0 hz1 _ _ _ (8*len) rfl rfl (by omega) ?b2 ?b3 ?b4 ?_)
 case b2=>rw[hz2];omega
 case b3=>unfold maxLen;omega
 case b4=>exact Nat.le_refl _
 intro w1 hown1 hgrow1
 have hbel1:Below w.heap.size w w1:=(Below.refl _ _).grown hgrow1 (Nat.le_refl _) (by simp)
 clear hgrow1
 go_wp2
 go_loopw [6,7,8] (fun v c _ wr=>∃ i:Nat,i≤len∧c=.int .i64 i∧wr.ownsRow w.heap.size 4 1 v (8*i) (BL bs (8*i))∧Below w.heap.size w wr) (fun _ c _ _=>len - (intOf c).toNat)
 case atStart=>exact⟨0,by omega,rfl,hown1,hbel1⟩
 case round=>
  obtain⟨i,hi2,rfl,hown,hbel⟩:=hrel
  clear hown1 hbel1
  by_cases hlt:i<len
  ·obtain⟨hb8,hcell⟩:=hc i hlt
   clear hc
   go_wp2
   go_loopw [6,8] (fun v c wr=>∃ j:Nat,j≤8∧c=.int .i64 (7 - (j:Int))∧wr.ownsRow w.heap.size 4 1 v (8*i+j) (BL bs (8*i+j))∧Below w.heap.size w wr) (fun _ c _=>(intOf c+1).toNat)
   case atStart=>exact⟨0,by omega,rfl,hown,hbel⟩
   case round=>
    clear hown hbel
    obtain⟨j,hj,rfl,hown,hbel⟩:=hrel
    by_cases hlt2:j<8
    ·have hcx:wr.cell? ⟨b,off+i,none⟩=some (.int .u8 (bs i)):=(hbel.cell hb).trans hcell
     obtain⟨d,hd⟩:∃ d,d=PM.fb bs (8*i+j):=⟨_,rfl⟩
     have t1:(bits .and .u8 ((bs i:Int) / 2 ^ (7-j)) 1 != 0)=d:=by rw[pC _ _ hb8,hd,PM.fb_at bs i j hlt2]
     have HL:Hid (BL bs (8*i + (j+1))=BL bs (8*i+j) ++ [Value.bool d]):=by rw[hd];exact rL bs (8*i+j)
     have hsz:=hbel.size
     clear hcell hd
     go_wp2_with (at_builtin;refine wpList_append_own _ rfl _ _ 261 rfl w.heap.size 4 i0 (.bool false) 1 1 underlying261 hi hz0 hz1 hz2 rfl (by decide) _ _ _ rfl (hown.alloc _) ⟨wr.heap.size,0,none⟩ 1 1 [.bool d] rfl rfl ?c1 ?c2 ?c3 ?c4 ?c5 ?_)
     case c1=>exact cell_one_new _ _ _
     case c2=>intro u hu;simp at hu;subst hu;rfl
     case c3=>unfold maxLen;omega
     case c4=>omega
     case c5=>simp;omega
     intro v' w2 hown2 hgrow2 _
     have hbel2:Below w.heap.size w w2:=(hbel.alloc hsz _).grown hgrow2 (by simp;omega) (fun k hk=>(hown.lt k hk).1)
     clear hgrow2 hcx
     go_wp2
     go_roundw
     case rel=>exact⟨j+1,by omega,by go_num,by rw[HL.out];exact hown2,hbel2⟩
     case measure=>simp[intOf] <;> omega
    ·go_wp2
     go_roundw
     case rel=>exact⟨i+1,by omega,by go_num,by rw[show 8 * (i+1)=8*i+j by omega];exact hown,hbel⟩
     case measure=>simp[intOf] <;> omega
  ·obtain rfl:i=len:=by omega
   clear hc
   have HB:Calls prog 157 #[u6,.int .u64 m] wr fun e w'=>e=.returned (.int .u64 (PM.R m m.log2 (PM.V (PM.fb bs) (8*i)):Nat))∧w'=wr:=by
    rcases hown.2 with ⟨rfl,hn⟩ | ⟨g,cap2,cur,hv,_⟩
    ·have h:=gz none 0 m wr hm
     rw[hn];exact h
    ·subst hv
     refine pD g 0 (8*i) cap2 m (PM.fb bs) wr (by omega) hm h0 ?_
     intro t ht
     rw[Nat.zero_add,hown.cellAt t (by omega)]
     exact tw bs (8*i) t ht
   clear hown
   go_wp2_with (go_at_call 157;refine HB.mono ?_;rintro e w' ⟨rfl,rfl⟩)
   go_ret2
   exact⟨rfl,hbel⟩
theorem mv (a:Option Addr) (cap m:Nat) (w:World) (hm:m<18446744073709551616) (h0:m≠0) :
  Calls prog 134 #[.slice a 0 cap,.int .u64 m] w fun e w'=>e=.returned (.tuple #[.int .u64 0,.int .i64 0])∧Below w.heap.size w w':=by
 have hz:((m:Int) == 0)=false:=by simpa using h0
 obtain⟨i0,hi,hz0,hz1,hz2⟩:=info_parts iU
 go_enter func134,ntmps134
 go_wp2_with (at_make;refine wpList_make_own _ rfl _ _ 261 rfl w.heap.size 4 i0 (.bool false) 1 underlying261 hi hz0 hz1 _ _ _ 0 rfl rfl (by omega) ?b2 ?b3 ?b4 ?_)
 case b2=>rw[hz2];omega
 case b3=>unfold maxLen;omega
 case b4=>exact Nat.le_refl _
 intro w1 hown1 hgrow1
 have hbel1:Below w.heap.size w w1:=(Below.refl _ _).grown hgrow1 (Nat.le_refl _) (by simp)
 clear hgrow1 hown1
 go_wp2
 refine wp_loop_rounds 1 ?_
 rw[rounds_succ]
 go_wp2_with (go_at_call 157;refine (gz _ _ m _ hm).mono ?_;rintro e w' ⟨rfl,rfl⟩)
 go_ret2
 exact⟨rfl,hbel1⟩
theorem oO (a:Option Addr) (len cap m:Nat) (bs:Nat→Nat) (w:World) (hr:Row8 w a len cap bs) (hlen:len≤1000000) (hm:m<18446744073709551616) (h0:m≠0) :
  Calls prog 134 #[.slice a len cap,.int .u64 m] w fun e w'=>e=.returned (.tuple #[.int .u64 (PM.R m m.log2 (PM.V (PM.fb bs) (8*len)):Nat),.int .i64 0])∧Below w.heap.size w w':=by
 by_cases hz:len=0
 ·subst hz;exact mv a cap m w hm h0
 ·obtain⟨b,off,rfl,hb,hc⟩:=hr.plain (by omega)
  exact oN b off len cap m bs w hlen hm h0 hb hc
end Go.Proofs.YtdpahjfekoikiaaGreat
namespace Go.Proofs.YtdpahjfekoikiaaGreat.PM
abbrev g:Nat:=4812730177
theorem pO:Deg g 32:=⟨by decide,by decide⟩
theorem g_log2:Nat.log2 4812730177=32:=pO.log2
theorem tG (bs:Nat→Nat) (i:Nat) (h:bs i<256):V (fun j=>fb bs (8*i+j)) 8=bs i:=by
 have e:∀ j,j<8→fb bs (8*i+j)=(bs i).testBit (7-j):=fun j hj=>fb_at bs i j hj
 have hx:∀ z:Fin 256,V (fun j=>z.val.testBit (7-j)) 8=z.val:=by decide +kernel
 rw[V_congr _ (fun j=>(bs i).testBit (7-j)) 8 e]
 exact hx ⟨bs i,h⟩
theorem ff (bs:Nat→Nat) (i:Nat) (h:bs i<256):V (fb bs) (8 * (i+1))=C (V (fb bs) (8*i)) (2 ^ 8) ^^^ bs i:=by
 rw[show 8 * (i+1)=8*i+8 by omega,px,tG bs i h]
theorem V_bytes_zero (n:Nat):V (fb fun _=>0) n=0:=by
 induction n with
 | zero=>rfl
 | succ n ih=>
         show 2*V (fb fun _=>0) n+_=0
         rw[ih];simp[fb]
def ct (f h:Nat→Nat) (n i:Nat):Nat:=if i<n then f i else h (i-n)
theorem V_ct (f h:Nat→Nat) (n k:Nat):V (fb (ct f h n)) (8 * (n+k))=C (V (fb f) (8*n)) (2 ^ (8*k)) ^^^ V (fb h) (8*k):=by
 rw[Nat.mul_add,px]
 congr 1
 ·congr 1
  apply V_congr
  intro i hi
  unfold fb ct
  rw[if_pos (by omega)]
 ·apply V_congr
  intro i hi
  unfold fb ct
  rw[if_neg (by omega),show (8*n+i) / 8-n=i / 8 by omega,show (8*n+i) % 8=i % 8 by omega]
theorem ct_lt {f h:Nat→Nat} {n k:Nat} (hf:∀ i,i<n→f i<256) (hh:∀ i,i<k→h i<256):∀ i,i<n+k→ct f h n i<256:=by
 intro i hi
 unfold ct
 by_cases e:i<n
 ·rw[if_pos e];exact hf i e
 ·rw[if_neg e];exact hh _ (by omega)
def E (v:Nat):Nat:=R g 32 (C v (2 ^ 32))
def K (bs:Nat→Nat) (n:Nat):Nat:=E (V (fb bs) (8*n))
theorem vk (v:Nat):E v<4294967296:=R_lt pO _
theorem K_lt (bs:Nat→Nat) (n:Nat):K bs n<4294967296:=vk _
theorem uo (a b:Nat):E (a ^^^ b)=E a ^^^ E b:=by unfold E;rw[C_xor_left,R_xor]
theorem tB:E 0=0:=by unfold E;rw[C_zero_left,tF]
theorem K_zero (bs:Nat→Nat):K bs 0=0:=tB
def tx (s:Nat):Nat:=stp g 32 (2*s)
theorem vF (n:Nat):tx (R g 32 n)=R g 32 (2*n):=(lI g 32 n).symm
theorem uZ {s:Nat} (h:s<4294967296):tx s<4294967296:=ro (t:=2*s) pO (show 2*s<2 ^ 33 by omega)
theorem rQ (t:Nat) (h:t<2 ^ 32):t+2 ^ 32=t ^^^ 2 ^ 32:=by
 apply Nat.eq_of_testBit_eq
 intro i
 rw[Nat.testBit_xor,show t+2 ^ 32=2 ^ 32*1+t by omega,Nat.testBit_two_pow_mul_add _ h,Nat.testBit_two_pow]
 by_cases hi:i<32
 ·simp[hi,show ¬ 32=i by omega]
 ·rw[if_neg hi,Nat.testBit_lt_two_pow (Nat.lt_of_lt_of_le h (Nat.pow_le_pow_right (show 2 > 0 by omega) (show 32≤i by omega)))]
  by_cases e:i=32
  ·subst e;simp
  ·rw[Nat.testBit_lt_two_pow (show 1<2 ^ (i-32) from Nat.lt_of_lt_of_le (show 1<2 ^ 1 by omega) (Nat.pow_le_pow_right (by omega) (by omega)))]
   simp[show ¬ 32=i by omega]
theorem tx_hi {s:Nat} (h:s<4294967296) (hb:2147483648≤s):tx s=(2*s-4294967296) ^^^ 517762881:=by
 obtain⟨t,ht⟩:∃ t,2*s=t+2 ^ 32:=⟨2*s-2 ^ 32,by omega⟩
 have ht2:t<2 ^ 32:=by omega
 have hbit:(2*s).testBit 32=true:=by
  rw[Nat.testBit_eq_decide_div_mod_eq]
  simp;omega
 unfold tx stp
 rw[if_pos hbit,ht,show t+2 ^ 32-4294967296=t by omega,rQ t ht2,Nat.xor_assoc]
 congr 1
theorem tx_lo {s:Nat} (hb:s<2147483648):tx s=2*s:=jb (show 2*s<2 ^ 32 by omega)
def txs:Nat→Nat→Nat
 | 0,s=>s
 | k+1,s=>tx (txs k s)
theorem txs_lt {s:Nat} (h:s<4294967296) (k:Nat):txs k s<4294967296:=by
 induction k with
 | zero=>exact h
 | succ k ih=>exact uZ ih
theorem u7 {s:Nat} (h:s<4294967296) (k:Nat):txs k s=R g 32 (C s (2 ^ k)):=by
 induction k with
 | zero=>rw[Nat.pow_zero,cU,fe g 32 s h];rfl
 | succ k ih=>
         show tx (txs k s)=_
         rw[ih,vF,Nat.pow_succ,Nat.mul_comm (2 ^ k) 2,C_two_right]
theorem tE (v x:Nat):R g 32 (C (E v ^^^ C x (2 ^ 24)) (2 ^ 8))=E (C v (2 ^ 8) ^^^ x):=by
 rw[C_xor_left,R_xor,jl,nH,uo]
 unfold E
 rw[pv pO,jl,jl,tz (2 ^ 32)]
theorem K_succ (bs:Nat→Nat) (i:Nat) (h:bs i<256):K bs (i+1)=txs 8 (K bs i ^^^ bs i*16777216):=by
 have e:bs i*16777216=C (bs i) (2 ^ 24):=(ee (bs i) 24).symm
 have hl:K bs i ^^^ bs i*16777216<4294967296:=Nat.xor_lt_two_pow (n:=32) (K_lt bs i) (by omega)
 rw[u7 hl,e]
 unfold K
 rw[tE,ff bs i h]
def w4 (s i:Nat):Nat:=if i=0 then s / 16777216 % 256 else if i=1 then s / 65536 % 256 else if i=2 then s / 256 % 256 else s % 256
theorem w4_lt (s i:Nat):w4 s i<256:=by
 unfold w4
 by_cases h0:i=0
 ·rw[if_pos h0];omega
 ·rw[if_neg h0]
  by_cases h1:i=1
  ·rw[if_pos h1];omega
  ·rw[if_neg h1]
   by_cases h2:i=2
   ·rw[if_pos h2];omega
   ·rw[if_neg h2];omega
theorem V4 (f:Nat→Nat) (hf:∀ i,i<4→f i<256):V (fb f) 32=f 0*16777216+f 1*65536+f 2*256+f 3:=by
 have s1:∀ a b,b<256→C a (2 ^ 8) ^^^ b=a*256+b:=by
  intro a b hb
  rw[ee]
  apply Nat.eq_of_testBit_eq
  intro i
  rw[show a*256+b=2 ^ 8*a+b by omega,Nat.testBit_two_pow_mul_add _ (show b<2 ^ 8 from hb),Nat.mul_comm a,Nat.testBit_xor,Nat.testBit_two_pow_mul]
  by_cases hi:i<8
  ·simp[hi,show ¬ 8≤i by omega]
  ·simp[hi,show 8≤i by omega,Nat.testBit_lt_two_pow (Nat.lt_of_lt_of_le (show b<2 ^ 8 from hb) (Nat.pow_le_pow_right (show 2 > 0 by omega) (show 8≤i by omega)))]
 have h0:=ff f 0 (hf 0 (by omega))
 have h1:=ff f 1 (hf 1 (by omega))
 have h2:=ff f 2 (hf 2 (by omega))
 have h3:=ff f 3 (hf 3 (by omega))
 rw[s1 _ _ (hf 0 (by omega))]at h0
 rw[s1 _ _ (hf 1 (by omega))]at h1
 rw[s1 _ _ (hf 2 (by omega))]at h2
 rw[s1 _ _ (hf 3 (by omega))]at h3
 have e0:V (fb f) (8*0)=0:=rfl
 rw[e0]at h0
 simp only[Nat.zero_add,Nat.reduceAdd,Nat.reduceMul,Nat.zero_mul]at h0 h1 h2 h3
 rw[h3,h2,h1,h0]
 clear h0 h1 h2 h3 e0 s1
 generalize f 0=a;generalize f 1=b;generalize f 2=c;generalize f 3=d
 omega
theorem V_w4 (s:Nat) (hs:s<4294967296):V (fb (w4 s)) 32=s:=by
 rw[V4 _ (fun i _=>w4_lt s i),show w4 s 0=s / 16777216 % 256 from rfl,show w4 s 1=s / 65536 % 256 from rfl,show w4 s 2=s / 256 % 256 from rfl,show w4 s 3=s % 256 from rfl]
 omega
def sl (bs:Nat→Nat) (n:Nat):Nat→Nat:=ct bs (w4 (K bs n)) n
theorem V_sl (bs:Nat→Nat) (n:Nat):R g 32 (V (fb (sl bs n)) (8 * (n+4)))=0:=by
 unfold sl
 rw[V_ct,show 8*4=32 from rfl,V_w4 _ (K_lt bs n),R_xor,fe g 32 (K bs n) (K_lt bs n)]
 exact Nat.xor_self _
theorem valid_iff (bs:Nat→Nat) (n:Nat) (h:∀ i,i<n+4→bs i<256) :
  bs n*16777216+bs (n+1)*65536+bs (n+2)*256+bs (n+3)=K bs n ↔ R g 32 (V (fb bs) (8 * (n+4)))=0:=by
 have hw:=V4 (fun i=>bs (n+i)) (fun i hi=>h _ (by omega))
 have e:V (fb bs) (8 * (n+4))=C (V (fb bs) (8*n)) (2 ^ 32) ^^^ V (fb fun i=>bs (n+i)) 32:=by
  rw[show 8 * (n+4)=8*n+32 by omega,px]
  congr 1
  apply V_congr
  intro i _
  unfold fb
  rw[show (8*n+i) / 8=n+i / 8 by omega,show (8*n+i) % 8=i % 8 by omega]
 rw[e,R_xor,hw]
 simp only[Nat.add_zero]
 rw[fe g 32 (bs n*16777216+bs (n+1)*65536+bs (n+2)*256+bs (n+3)) (by have:=h n (by omega);have:=h (n+1) (by omega);have:=h (n+2) (by omega);have:=h (n+3) (by omega);omega)]
 show _=K bs n ↔ K bs n ^^^ _=0
 constructor
 ·intro h;rw[h];exact Nat.xor_self _
 ·intro h;exact (fY h).symm
theorem tD (n:Nat) (h:R g 32 (2*n)=0):R g 32 n=0:=by
 rw[lI]at h
 have hr:=R_lt pO n
 generalize R g 32 n=r at *
 unfold stp at h
 split at h
 ·have e:=fY h
  have:(2*r) % 2=4812730177 % 2:=by rw[e]
  omega
 ·omega
theorem rO (n k:Nat) (h:R g 32 (C n (2 ^ k))=0):R g 32 n=0:=by
 induction k with
 | zero=>rwa [Nat.pow_zero,cU]at h
 | succ k ih=>
         rw[Nat.pow_succ,Nat.mul_comm (2 ^ k) 2,C_two_right]at h
         exact ih (tD _ h)
theorem burst (n k:Nat) (hn:n<4294967296) (h:R g 32 (C n (2 ^ k))=0):n=0:=by
 have:=rO n k h
 rwa [fe g 32 n hn]at this
end Go.Proofs.YtdpahjfekoikiaaGreat.PM
namespace Go.Proofs.YtdpahjfekoikiaaGreat
open Tryz
open Go.RowKit
theorem ra {s:Nat} (h:s<4294967296) (hb:2147483648≤s):((s:Int) / 2147483648 == 1)=true:=by simp;omega
theorem rb {s:Nat} (hb:s<2147483648):((s:Int) / 2147483648 == 1)=false:=by simp;omega
theorem pG (w:World):(Instr.buildSlice 43 0 #[]).run prog w=.ok (.slice (ac w.heap.size 0) 0 0) (w.alloc (.cells #[] 5)):=by kernel_rfl
theorem tM:Nat.log2 4812730177=32:=PM.g_log2
theorem vi (a b:Nat) (ha:a<4294967296) (hb:b<4294967296):bits .xor .u32 (a:Int) (b:Int)=((a ^^^ b:Nat):Int):=u32_xor_nat a b ha hb
theorem gZ (x y:Nat) (k:Nat) (hx:x % 2 ^ k=0) (hy:y<2 ^ k) (h1:x<4294967296) (h2:y<4294967296):bits .or .u32 (x:Int) (y:Int)=((x+y:Nat):Int):=by
 rw[u32_or_nat x y h1 h2,nat_join k x y hx hy]
theorem mE (s:Nat) (w:World) (hs:s<4294967296) :
  Calls prog 144 #[.int .u32 s] w fun e w'=>e=.returned (.int .u32 (PM.tx s:Nat))∧w'=w:=by
 by_cases hb:2147483648≤s
 ·have h1:=ra hs hb
  go_enter func144,ntmps144
  go_wp2
  go_ret
  refine⟨fx ?_,rfl⟩
  have e:(s:Int)*2 % 4294967296=((2*s-4294967296:Nat):Int):=by omega
  rw[PM.tx_hi hs hb,e]
  exact vi _ 517762881 (by omega) (by omega)
 ·have h1:=rb (s:=s) (by omega)
  go_enter func144,ntmps144
  go_wp2
  go_ret
  exact⟨fx (by rw[PM.tx_lo (by omega)];omega),rfl⟩
theorem nP (b off len cap:Nat) (bs:Nat→Nat) (w:World) (hlen:len≤9223372036854775807)
  (hc:∀ i,i<len→bs i<256∧w.cell? ⟨b,off+i,none⟩=some (.int .u8 (bs i))) :
  Calls prog 110 #[.slice (ac b off) len cap] w fun e w'=>e=.returned (.int .u32 (PM.K bs len:Nat))∧w'=w:=by
 go_enter func110,ntmps110
 go_wp2
 go_loop [3,5,8,17] (fun s _ c _=>∃ i:Nat,i≤len∧c=.int .i64 i∧s=.int .u32 (PM.K bs i:Nat)) (fun _ _ c _=>len - (intOf c).toNat)
 case atStart=>exact⟨0,by omega,rfl,by rw[PM.K_zero];rfl⟩
 case round=>
  obtain⟨i,hi,rfl,rfl⟩:=hrel
  by_cases hlt:i<len
  ·obtain⟨hb8,hcell⟩:=hc i hlt
   clear hc
   have hk:=PM.K_lt bs i
   have HK:Hid (PM.K bs (i+1)=PM.txs 8 (PM.K bs i ^^^ bs i*16777216)):=PM.K_succ bs i hb8
   have hx:PM.K bs i ^^^ bs i*16777216<4294967296:=Nat.xor_lt_two_pow (n:=32) hk (by omega)
   have hX:bits .xor .u32 (PM.K bs i:Int) ((bs i:Int)*16777216)=((PM.K bs i ^^^ bs i*16777216:Nat):Int):=by
    have:=u32_xor_nat (PM.K bs i) (bs i*16777216) hk (by omega)
    rw[← this];simp
   generalize PM.K bs i ^^^ bs i*16777216=y at *
   go_wp2
   go_loop [3,17] (fun s c=>∃ j:Nat,j≤8∧c=.int .i64 j∧s=.int .u32 (PM.txs j y:Nat)) (fun _ c=>8 - (intOf c).toNat)
   case atStart=>exact⟨0,by omega,rfl,rfl⟩
   case round=>
    obtain⟨j,hj,rfl,rfl⟩:=hrel
    by_cases hlt2:j<8
    ·have hr:=PM.txs_lt hx j
     go_wp2_with (go_at_call 144;refine (mE _ _ hr).mono ?_;rintro e w' ⟨rfl,rfl⟩)
     go_round
     case rel=>exact⟨j+1,by omega,by go_num,rfl⟩
     case measure=>simp[intOf] <;> omega
    ·go_wp2
     go_round
     case rel=>exact⟨i+1,by omega,by go_num,by rw[HK.out,show j=8 by omega]⟩
     case measure=>simp[intOf] <;> omega
  ·clear hc
   go_wp2
   go_ret
   exact⟨by rw[show i=len by omega];rfl,rfl⟩
theorem lL (a:Option Addr) (cap:Nat) (w:World) :
  Calls prog 110 #[.slice a 0 cap] w fun e w'=>e=.returned (.int .u32 0)∧w'=w:=by
 go_enter func110,ntmps110
 go_wp2
 refine wp_loop_rounds 1 ?_
 rw[rounds_succ]
 go_wp2
 go_ret
 exact⟨rfl,rfl⟩
theorem fH (a:Option Addr) (len cap:Nat) (bs:Nat→Nat) (w:World) (hr:Row8 w a len cap bs) (hlen:len≤9223372036854775807) :
  Calls prog 110 #[.slice a len cap] w fun e w'=>e=.returned (.int .u32 (PM.K bs len:Nat))∧w'=w:=by
 by_cases hz:len=0
 ·subst hz;rw[PM.K_zero];exact lL a cap w
 ·obtain⟨b,off,rfl,_,hc⟩:=hr.plain (by omega)
  exact nP b off len cap bs w hlen hc
theorem lB (x0 x1 x2 x3:Nat) (h0:x0<256) (h1:x1<256) (h2:x2<256) (h3:x3<256) :
  bits .or .u32 (bits .or .u32 (bits .or .u32 ((x0:Int)*16777216) ((x1:Int)*65536)) ((x2:Int)*256)) (x3:Int)=((x0*16777216+x1*65536+x2*256+x3:Nat):Int):=by
 have e0:(x0:Int)*16777216=((x0*16777216:Nat):Int):=by omega
 have e1:(x1:Int)*65536=((x1*65536:Nat):Int):=by omega
 have e2:(x2:Int)*256=((x2*256:Nat):Int):=by omega
 rw[e0,e1,e2,gZ _ _ 24 (by omega) (by omega) (by omega) (by omega),gZ _ _ 16 (by omega) (by omega) (by omega) (by omega),gZ _ _ 8 (by omega) (by omega) (by omega) (by omega)]
theorem rG (b off len cap x0 x1 x2 x3:Nat) (w:World) (hlen:(3:Int) < (len:Int)) (h0:x0<256) (h1:x1<256) (h2:x2<256) (h3:x3<256)
  (c0:w.cell? ⟨b,off,none⟩=some (.int .u8 x0)) (c1:w.cell? ⟨b,off+1,none⟩=some (.int .u8 x1)) (c2:w.cell? ⟨b,off+2,none⟩=some (.int .u8 x2)) (c3:w.cell? ⟨b,off+3,none⟩=some (.int .u8 x3)) :
  Calls prog 115 #[.slice (ac b off) len cap] w fun e w'=>e=.returned (.int .u32 ((x0*16777216+x1*65536+x2*256+x3:Nat):Int))∧∃ m,w'=w.drewN m:=by
 have hn:=lB x0 x1 x2 x3 h0 h1 h2 h3
 have l0:(0:Int) < (len:Int):=by omega
 have l1:(1:Int) < (len:Int):=by omega
 have l2:(2:Int) < (len:Int):=by omega
 generalize x0*16777216+x1*65536+x2*256+x3=y at *
 go_enter func115,ntmps115
 go_wp2_with fail
 go_quiet (fail)
 go_wp2
 go_ret
 exact⟨rfl,_,rfl⟩
theorem lx (a:Option Addr) (len cap:Nat) (w:World) (h:len<4) :
  Calls prog 74 #[.slice a len cap] w fun e w'=>e=.returned (.bool false)∧∃ m,w'=w.drewN m:=by
 have hd:decide ((0:Int) ≤ (len:Int)-4)=false:=by simp;omega
 have hd2:decide ((4:Int) ≤ (len:Int))=false:=by simp;omega
 have hd3:decide (4≤len)=false:=by simp;omega
 go_enter func74,ntmps74
 go_wp2_with fail
 go_quiet (fail)
 go_wp2
 go_ret
 exact⟨rfl,_,rfl⟩
theorem mJ (b off len cap:Nat) (bs:Nat→Nat) (w:World) (h:4≤len) (hr:Row8 w (ac b off) len cap bs) (hlen:len≤9223372036854775807) :
  Calls prog 74 #[.slice (ac b off) len cap] w fun e w'=>e=.returned (.bool (decide (PM.R PM.g 32 (PM.V (PM.fb bs) (8*len))=0)))∧∃ m,w'=w.drewN m:=by
 obtain⟨n,rfl⟩:∃ n,len=n+4:=⟨len-4,by omega⟩
 have hcap:=hr.le
 have HV:=PM.valid_iff bs n hr.byte
 have hdec:((bs n*16777216+bs (n+1)*65536+bs (n+2)*256+bs (n+3):Nat) == PM.K bs n)=decide (PM.R PM.g 32 (PM.V (PM.fb bs) (8 * (n+4)))=0):=by
  rw[← decide_eq_decide.2 HV];rfl
 have hdec2:(((bs n*16777216+bs (n+1)*65536+bs (n+2)*256+bs (n+3):Nat):Int) == ((PM.K bs n:Nat):Int))=decide (PM.R PM.g 32 (PM.V (PM.fb bs) (8 * (n+4)))=0):=by
  rw[← hdec,Bool.eq_iff_iff];simp;omega
 have hA:=fun k=>(hr.drewN k).upto n (by omega)
 have hW:∀ k c,Calls prog 115 #[.slice (ac b (off+n)) 4 c] (w.drewN k) fun e w'=>e=.returned (.int .u32 ((bs n*16777216+bs (n+1)*65536+bs (n+2)*256+bs (n+3):Nat):Int))∧∃ m,w'=(w.drewN k).drewN m:=by
  intro k c
  have R:=(hr.drewN k).from_ n (by omega)
  have s:=R.src _ rfl
  have q:=R.byte
  have t0:=s 0 (by omega);have t1:=s 1 (by omega);have t2:=s 2 (by omega);have t3:=s 3 (by omega)
  rw[Go.WideShapes.add_plain]at t0 t1 t2 t3
  exact rG b (off+n) 4 c _ _ _ _ _ (by omega) (q 0 (by omega)) (q 1 (by omega)) (q 2 (by omega)) (q 3 (by omega)) t0 t1 t2 t3
 have hB:=fun k=>fH _ _ _ _ _ (hA k) (by omega)
 clear hr HV hA
 generalize decide (PM.R PM.g 32 (PM.V (PM.fb bs) (8 * (n+4)))=0)=D at *
 generalize PM.K bs n=Z at *
 generalize bs n*16777216+bs (n+1)*65536+bs (n+2)*256+bs (n+3)=Y at *
 clear hdec
 have hd:decide ((0:Int) ≤ ((n+4:Nat):Int)-4)=true:=by simp
 go_enter func74,ntmps74
 go_wp2_with fail
 go_quiet (first | (go_at_call 115;refine Calls.quiet_of (hW _ _)) | (go_at_call 110;refine Calls.quiet_of_same (hB _)))
 go_wp2
 go_ret
 exact⟨rfl,_,rfl⟩
theorem je (a:Option Addr) (len cap:Nat) (bs:Nat→Nat) (w:World) (hr:Row8 w a len cap bs) (hlen:len≤9223372036854775807) :
  Calls prog 74 #[.slice a len cap] w fun e w'=>e=.returned (.bool (decide (4≤len∧PM.R PM.g 32 (PM.V (PM.fb bs) (8*len))=0)))∧∃ m,w'=w.drewN m:=by
 by_cases h:4≤len
 ·obtain⟨b,off,rfl,_,_⟩:=hr.plain (by omega)
  have:=mJ b off len cap bs w h hr hlen
  simpa [h] using this
 ·have:=lx a len cap w (by omega)
  simpa [h] using this
theorem qV (w:World) (x:Nat) (hx:x<4294967296) :
  Row8 (w.alloc (.cells #[.int .u8 ((x:Int) / 16777216),.int .u8 ((x:Int) / 65536 % 256),.int .u8 ((x:Int) / 256 % 256),.int .u8 ((x:Int) % 256)] 5)) (ac w.heap.size 0) 4 4 (PM.w4 x):=by
 refine ev w _ _ (PM.w4 x) 4 (fun i _=>PM.w4_lt x i) (fun i hi=>?_)
 have e0:(x:Int) / 16777216=((PM.w4 x 0:Nat):Int):=by show _=((x / 16777216 % 256:Nat):Int);omega
 have e1:(x:Int) / 65536 % 256=((PM.w4 x 1:Nat):Int):=by show _=((x / 65536 % 256:Nat):Int);omega
 have e2:(x:Int) / 256 % 256=((PM.w4 x 2:Nat):Int):=by show _=((x / 256 % 256:Nat):Int);omega
 have e3:(x:Int) % 256=((PM.w4 x 3:Nat):Int):=by show _=((x % 256:Nat):Int);omega
 rw[e0,e1,e2,e3]
 rcases (show i=0∨i=1∨i=2∨i=3 by omega) with rfl | rfl | rfl | rfl <;> rfl
theorem qX (a:Option Addr) (len cap:Nat) (bs:Nat→Nat) (w:World) (hr:Row8 w a len cap bs) (hlen:len≤1000000) :
  Calls prog 68 #[.slice a len cap] w fun e w'=>∃ v,e=.returned v∧w'.ownsRow w.heap.size 5 1 v (len+4) (CB (PM.sl bs len) (len+4))∧Below w.heap.size w w':=by
 obtain⟨i0,hi,hz0,hz1,hz2⟩:=info_parts aS
 have hk:=PM.K_lt bs len
 go_enter func68,ntmps68
 go_wp2_with (at_make;refine aH _ rfl (.tmp 6) (.tmp 9) 43 rfl w.heap.size 5 i0 underlying43 hi hz0 hz1 hz2 _ _ _ _ len (len+4) rfl rfl rfl ?b1 (by omega) (by omega) ?b2 ?_)
 case b1=>omega
 case b2=>exact Nat.le_refl _
 intro w1 hown1 hbel1
 have R1:=hr.below hbel1
 go_wp2_with (refine jQ rfl (.tmp 11) (.tmp 12) 43 43 rfl 5 underlying43 jN w.heap.size w.heap.size len (len+4) _ rfl hown1 a len cap bs rfl R1 w hbel1 ?_)
 intro w2 hown2 hbel2
 rw[cn _ bs len (fun i hi=>if_pos hi)]at hown2
 have R2:=hr.below hbel2
 have hB:=fH a len cap bs w2 R2 (by omega)
 have hsz2:=hbel2.size
 have hown3:=hown2.alloc (.cells #[.int .u8 ((PM.K bs len:Int) / 16777216),.int .u8 ((PM.K bs len:Int) / 65536 % 256),.int .u8 ((PM.K bs len:Int) / 256 % 256),.int .u8 ((PM.K bs len:Int) % 256)] 5)
 have hbel3:=hbel2.alloc hsz2 (.cells #[.int .u8 ((PM.K bs len:Int) / 16777216),.int .u8 ((PM.K bs len:Int) / 65536 % 256),.int .u8 ((PM.K bs len:Int) / 256 % 256),.int .u8 ((PM.K bs len:Int) % 256)] 5)
 have R4:=qV w2 (PM.K bs len) hk
 have hsz3:=hbel3.size
 have HS:Hid (CB bs len ++ CB (PM.w4 (PM.K bs len)) 4=CB (PM.sl bs len) (len+4)):=aX _ _ _ _
 clear hown1 hown2 hbel1 hbel2 R1 R2
 generalize PM.K bs len=k at *
 go_wp2_with (first | (go_at_call 110;refine hB.mono ?_;rintro e w' ⟨rfl,rfl⟩) | (at_builtin;refine ae rfl (.tmp 16) (.tmp 28) 43 rfl w.heap.size 5 i0 (.int .u8 0) underlying43 hi hz0 hz1 hz2 rfl _ len _ rfl hown3 (ac w'.heap.size 0) 4 4 (PM.w4 k) rfl R4 (by unfold maxLen;omega) (by omega) hsz3 ?_))
 intro v w4 hown4 hgrow4
 have hbel4:Below w.heap.size w w4:=hbel3.grown hgrow4 hsz3 (fun j hj=>(hown3.lt j hj).1)
 rw[HS.out]at hown4
 clear hown3 hgrow4 hbel3 R4
 go_wp2
 go_ret
 exact⟨_,rfl,hown4,hbel4⟩
theorem t9 (a:Option Addr) (len cap:Nat) (bs:Nat→Nat) (w:World) (hr:Row8 w a len cap bs) (hlen:len≤1000000) :
  Calls prog 134 #[.slice a len cap,.int .u64 4812730177] w fun e w'=>e=.returned (.tuple #[.int .u64 (PM.R PM.g 32 (PM.V (PM.fb bs) (8*len)):Nat),.int .i64 0])∧Below w.heap.size w w':=by
 have h:=oO a len cap 4812730177 bs w hr hlen (by decide) (by decide)
 rw[tM]at h
 exact h
theorem uV (w:World):Row8 (w.alloc (.cells #[.int .u8 0,.int .u8 0,.int .u8 0,.int .u8 0] 5)) (ac w.heap.size 0) 4 4 (fun _=>0):=by
 refine ev w _ _ (fun _=>0) 4 (fun i _=>by omega) (fun i hi=>?_)
 rcases (show i=0∨i=1∨i=2∨i=3 by omega) with rfl | rfl | rfl | rfl <;> rfl
theorem rP (bs:Nat→Nat) (n:Nat):PM.V (PM.fb (PM.ct bs (fun _=>0) n)) (8 * (n+4))=PM.C (PM.V (PM.fb bs) (8*n)) (2 ^ 32):=by
 rw[PM.V_ct,PM.V_bytes_zero,Nat.xor_zero]
theorem ie (a:Option Addr) (len cap:Nat) (bs:Nat→Nat) (w:World) (hr:Row8 w a len cap bs) (hlen:len≤900000) :
  Calls prog 94 #[.slice a len cap] w fun e w'=>e=.returned (.int .u32 (PM.K bs len:Nat))∧Below w.heap.size w w':=by
 obtain⟨i0,hi,hz0,hz1,hz2⟩:=info_parts aS
 have hk:=PM.K_lt bs len
 obtain⟨k,hK⟩:∃ k,k=PM.K bs len:=⟨_,rfl⟩
 rw[← hK]at hk ⊢
 have HK:Hid (k=PM.K bs len):=hK
 clear hK
 go_enter func94,ntmps94
 go_wp2_with (at_make;refine aH _ rfl (.const (.int .i64 0)) (.tmp 8) 43 rfl w.heap.size 5 i0 underlying43 hi hz0 hz1 hz2 _ _ _ _ 0 (len+4) rfl rfl rfl ?b1 (by omega) (by omega) ?b2 ?_)
 case b1=>omega
 case b2=>exact Nat.le_refl _
 intro w1 hown1 hbel1
 have R1:=hr.below hbel1
 have hsz1:=hbel1.size
 go_wp2_with (at_builtin;refine ae rfl (.tmp 9) (.tmp 10) 43 rfl w.heap.size 5 i0 (.int .u8 0) underlying43 hi hz0 hz1 hz2 rfl _ _ _ rfl hown1 a len cap bs rfl R1 (by unfold maxLen;omega) (by omega) hsz1 ?_)
 intro v2 w2 hown2 hgrow2
 have hbel2:Below w.heap.size w w2:=hbel1.grown hgrow2 hsz1 (fun j hj=>(hown1.lt j hj).1)
 rw[aX]at hown2
 have hsz2:=hbel2.size
 have hown3:=hown2.alloc (.cells #[.int .u8 0,.int .u8 0,.int .u8 0,.int .u8 0] 5)
 have hbel3:=hbel2.alloc hsz2 (.cells #[.int .u8 0,.int .u8 0,.int .u8 0,.int .u8 0] 5)
 have R4:=uV w2
 have hsz3:=hbel3.size
 clear hgrow2 hown1 hbel1 R1 hown2 hbel2
 go_wp2_with (at_builtin;refine ae rfl (.tmp 11) (.tmp 12) 43 rfl w.heap.size 5 i0 (.int .u8 0) underlying43 hi hz0 hz1 hz2 rfl _ _ _ rfl hown3 (ac w2.heap.size 0) 4 4 (fun _=>0) rfl R4 (by unfold maxLen;omega) (by omega) hsz3 ?_)
 intro v4 w4 hown4 hgrow4
 have hbel4:Below w.heap.size w w4:=hbel3.grown hgrow4 hsz3 (fun j hj=>(hown3.lt j hj).1)
 have hct:∀ i,i<len+4→PM.ct bs (fun _=>0) len i<256:=PM.ct_lt (k:=4) hr.byte (fun i _=>by omega)
 have hown5:w4.ownsRow w.heap.size 5 1 v4 (len+4) (CB (PM.ct bs (fun _=>0) len) (len+4)):=by
  have h:=hown4
  rw[aX]at h
  rw[cn (PM.ct bs (fun _=>0) len) _ (len+4) (fun i _=>?_)]
  ·exact h
  ·unfold PM.ct
   by_cases hlt:i<len
   ·simp[hlt]
   ·simp[hlt]
 obtain⟨av,cv,rfl,R5⟩:=aO hown5 hct
 have hO:=t9 av (len+4) cv _ w4 R5 (by omega)
 rw[rP]at hO
 clear hown3 hgrow4 hbel3 R4 hown4 hown5 R5 hct
 change Calls _ _ _ _ fun e w'=>e=.returned (.tuple #[.int .u64 (PM.K bs len:Nat),.int .i64 0])∧Below w4.heap.size w4 w' at hO
 rw[← HK.out]at hO
 have hsz4:=hbel4.size
 go_wp2_with fail
 refine hO.mono ?_
 rintro e w6 ⟨rfl,hbel6⟩
 go_wp2_with fail
 go_ret
 exact⟨rfl,aF hbel4 hsz4 hbel6⟩
theorem bD (x:Nat) (w:World) (hx:x<4294967296) :
  Calls prog 93 #[.int .u32 x] w fun e w'=>e=.returned (.slice (ac w.heap.size 0) 4 4)∧w'=w.alloc (.cells #[.int .u8 ((x:Int) / 16777216),.int .u8 ((x:Int) / 65536 % 256),.int .u8 ((x:Int) / 256 % 256),.int .u8 ((x:Int) % 256)] 5):=by
 go_enter func93,ntmps93
 go_wp2
 go_ret
 exact⟨rfl,rfl⟩
theorem ld (a:Option Addr) (len cap:Nat) (bs:Nat→Nat) (w:World) (hr:Row8 w a len cap bs) (hlen:len≤900000) :
  Calls prog 136 #[.slice a len cap] w fun e w'=>∃ v,e=.returned v∧w'.ownsRow w.heap.size 5 1 v (len+4) (CB (PM.sl bs len) (len+4))∧Below w.heap.size w w':=by
 obtain⟨i0,hi,hz0,hz1,hz2⟩:=info_parts aS
 have hk:=PM.K_lt bs len
 have hbd:=pG
 have hbelA:Below w.heap.size w (w.alloc (.cells #[] 5)):=(Below.refl _ _).alloc (Nat.le_refl _) _
 have R0:=hr.below hbelA
 have O0:(w.alloc (.cells #[] 5)).ownsRow w.heap.size 5 1 (.slice (ac w.heap.size 0) 0 0) 0 (CB bs 0):=World.ownsRow_made w #[] 0 (Nat.le_refl _) (Nat.zero_le _) rfl
 have hszA:=hbelA.size
 go_enter func136,ntmps136
 go_wp2_with (at_builtin;refine ae rfl (.tmp 3) (.tmp 4) 43 rfl w.heap.size 5 i0 (.int .u8 0) underlying43 hi hz0 hz1 hz2 rfl _ 0 _ rfl O0 a len cap bs rfl R0 (by unfold maxLen;omega) (by omega) hszA ?_)
 intro v1 w1 hown1 hgrow1
 have hbel1:Below w.heap.size w w1:=hbelA.grown hgrow1 hszA (fun k hk=>(O0.lt k hk).1)
 rw[show CB bs 0=[] from rfl,List.nil_append]at hown1
 have hS:=ie a len cap bs w1 (hr.below hbel1) hlen
 have hsz1:=hbel1.size
 clear hgrow1 O0 R0 hbelA
 go_wp2_with fail
 refine hS.mono ?_
 rintro e w2 ⟨rfl,hbel2⟩
 have hown2:=bN hown1 hbel2
 have hbel3:=aF hbel1 hsz1 hbel2
 have hsz3:=hbel3.size
 have HS:Hid (CB bs len ++ CB (PM.w4 (PM.K bs len)) 4=CB (PM.sl bs len) (len+4)):=aX _ _ _ _
 generalize PM.K bs len=k at *
 go_wp2_with fail
 refine (bD k w2 hk).mono ?_
 rintro e w3 ⟨rfl,rfl⟩
 have R4:=qV w2 k hk
 have hown4:=hown2.alloc (.cells #[.int .u8 ((k:Int) / 16777216),.int .u8 ((k:Int) / 65536 % 256),.int .u8 ((k:Int) / 256 % 256),.int .u8 ((k:Int) % 256)] 5)
 have hbel4:=hbel3.alloc hsz3 (.cells #[.int .u8 ((k:Int) / 16777216),.int .u8 ((k:Int) / 65536 % 256),.int .u8 ((k:Int) / 256 % 256),.int .u8 ((k:Int) % 256)] 5)
 have hsz4:=hbel4.size
 clear hown1 hown2 hbel1 hbel2 hbel3
 go_wp2_with (at_builtin;refine ae rfl (.tmp 5) (.tmp 8) 43 rfl w.heap.size 5 i0 (.int .u8 0) underlying43 hi hz0 hz1 hz2 rfl _ len _ rfl hown4 (ac w2.heap.size 0) 4 4 (PM.w4 k) rfl R4 (by unfold maxLen;omega) (by omega) hsz4 ?_)
 intro v5 w5 hown5 hgrow5
 have hbel5:Below w.heap.size w w5:=hbel4.grown hgrow5 hsz4 (fun j hj=>(hown4.lt j hj).1)
 rw[HS.out]at hown5
 clear hown4 hgrow5 hbel4 R4
 go_wp2
 go_ret
 exact⟨_,rfl,hown5,hbel5⟩
theorem vQ (a b c d:Nat) (hb:b<256) (hc:c<256) (hd:d<256):(a*16777216+b*65536+c*256+d) / 16777216=a:=by omega
theorem vR (a b c d:Nat) (hc:c<256) (hd:d<256):(a*16777216+b*65536+c*256+d) / 65536=a*256+b:=by omega
theorem vS (a b c d:Nat) (hd:d<256):(a*16777216+b*65536+c*256+d) / 256=a*65536+b*256+c:=by omega
theorem uh (bs:Nat→Nat) (n k:Nat) (hk:k<4294967296) (h0:bs n<256) (h1:bs (n+1)<256) (h2:bs (n+2)<256) (h3:bs (n+3)<256) :
  (∀ i,i<4→bs (n+i)=PM.w4 k i) ↔ bs n*16777216+bs (n+1)*65536+bs (n+2)*256+bs (n+3)=k:=by
 have hv:=PM.V_w4 k hk
 rw[PM.V4 _ (fun i _=>PM.w4_lt k i)]at hv
 constructor
 ·intro h
  have e0:=h 0 (by omega)
  rw[Nat.add_zero]at e0
  rw[e0,h 1 (by omega),h 2 (by omega),h 3 (by omega)]
  exact hv
 ·intro h
  have c0:PM.w4 k 0=bs n:=by
   unfold PM.w4
   rw[if_pos rfl,← h,vQ _ _ _ _ h1 h2 h3,Nat.mod_eq_of_lt h0]
  have c1:PM.w4 k 1=bs (n+1):=by
   unfold PM.w4
   rw[if_neg (by omega),if_pos rfl,← h,vR _ _ _ _ h2 h3]
   omega
  have c2:PM.w4 k 2=bs (n+2):=by
   unfold PM.w4
   rw[if_neg (by omega),if_neg (by omega),if_pos rfl,← h,vS _ _ _ _ h3]
   omega
  have c3:PM.w4 k 3=bs (n+3):=by
   unfold PM.w4
   rw[if_neg (by omega),if_neg (by omega),if_neg (by omega),← h]
   omega
  intro i hi
  by_cases e0:i=0
  ·rw[e0,c0,Nat.add_zero]
  ·by_cases e1:i=1
   ·rw[e1,c1]
   ·by_cases e2:i=2
    ·rw[e2,c2]
    ·rw[show i=3 by omega,c3]
end Go.Proofs.YtdpahjfekoikiaaGreat
