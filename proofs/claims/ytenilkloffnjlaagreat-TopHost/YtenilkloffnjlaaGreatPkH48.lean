/- Part 49: contracts that the proof rests on. -/
import Derived.Test.YtenilkloffnjlaaGreatPkH09
set_option maxHeartbeats 64000000
set_option maxRecDepth 100000
namespace Go.Proofs.YtenilkloffnjlaaGreat
open Tryz
open Go.RowKit
set_option linter.unusedVariables false
theorem vP {k c s n f len:Int} (h:LW k c s n f len len=0):(k=1∨k=2∨k=3∨k=4∨k=5∨k=17∨k=18∨k=19∨k=20∨k=21∨k=22)∧c≠0∧dX k len=true∧dy k s=true∧iN k=decide (n≠0)∧¬ f<0∧¬ sE k<f:=by
 unfold LW at h
 by_cases h1:eJ k=false∧fE k=false
 ·rw[if_pos h1]at h;omega
 rw[if_neg h1]at h
 by_cases h2:c=0
 ·rw[if_pos h2]at h;omega
 rw[if_neg h2]at h
 by_cases h3:len≠len∨dX k len=false
 ·rw[if_pos h3]at h;omega
 rw[if_neg h3]at h
 by_cases h4:dy k s=false
 ·rw[if_pos h4]at h;omega
 rw[if_neg h4]at h
 by_cases h5:iN k≠decide (n≠0)
 ·rw[if_pos h5]at h;omega
 rw[if_neg h5]at h
 by_cases h6:f<0∨sE k<f
 ·rw[if_pos h6]at h;omega
 refine⟨?_,h2,by cases q:dX k len;exact absurd (.inr q) h3;rfl,by cases q:dy k s;exact absurd q h4;rfl,Decidable.not_not.1 h5,fun q=>h6 (.inl q),fun q=>h6 (.inr q)⟩
 unfold eJ fE at h1
 simp only[decide_eq_false_iff_not]at h1
 omega
theorem nR (k:Int) (c s n:Nat) (f:Int) (a:Option Addr) (len cap:Nat) (w:World) (h:LW k c s n f len len=0) :
  Calls prog 67 #[.agg #[.int .i64 k,.int .u32 c,.int .u32 s,.int .u32 n,.int .i64 f,.slice a len cap]] w fun e w'=>e=.returned (.int .i64 0)∧Below w.heap.size w w':=by
 obtain⟨hk,hc,hd,hs,hn,hf1,hf2⟩:=vP h
 have hM:=qi k len
 rw[hd]at hM
 have hH:=ql k
 have hD:=lR k
 have qc:((c:Int) == 0)=false:=by simpa using hc
 have qf:decide (f<0)=false:=decide_eq_false hf1
 have q15:decide (15<f)=false:=decide_eq_false (by
  unfold sE at hf2
  split at hf2 <;> omega)
 clear h hd
 by_cases s0:s=0 <;> by_cases n0:n=0 <;> by_cases f0:f=0
 all_goals
  rcases hk with rfl | rfl | rfl | rfl | rfl | rfl | rfl | rfl | rfl | rfl | rfl
 all_goals first
  | (exfalso;revert hs hn hf2;simp[dy,iN,dR,sE,s0,n0];done)
  | (exfalso;revert hs hn hf2;simp[dy,iN,dR,sE,s0,n0];omega)
  | (clear hs hn hf2 hf1
     simp only[eJ,fE]at hH hD
     first | subst s0 | have qs:((s:Int) == 0)=false:=by simpa using s0
     first | subst n0 | have qn:((n:Int) == 0)=false∧((n:Int) != 0)=true:=⟨by simpa using n0,by simpa using n0⟩
     first | subst f0 | have q0:(f == 0)=false:=by simpa using f0
     go_enter func67,ntmps67
     go_wp2_with (first | (go_at_call 91;refine (hH _).mono ?_;rintro e w' ⟨rfl,rfl⟩) | (go_at_call 92;refine (hD _).mono ?_;rintro e w' ⟨rfl,rfl⟩) | (go_at_call 93;refine (hM _).mono ?_;rintro e w' ⟨rfl,rfl⟩))
     go_ret
     exact⟨rfl,(Below.refl _ _).alloc (Nat.le_refl _) _⟩)
end Go.Proofs.YtenilkloffnjlaaGreat
