/- Part 11: contracts that the proof rests on. -/
import Derived.Test.YtenilkloffnjlaaGreatPkH09
set_option maxHeartbeats 64000000
set_option maxRecDepth 100000
namespace Go.Proofs.YtenilkloffnjlaaGreat
open Tryz
open Go.RowKit
theorem mg (k:Int) (c s n:Nat) (f:Int) (a:Option Addr) (len cap:Nat) (said:Int) (w:World) :
  Calls prog 156 #[.agg #[.int .i64 k,.int .u32 c,.int .u32 s,.int .u32 n,.int .i64 f,.slice a len cap],.int .i64 said] w fun e w'=>e=.returned (.int .i64 (LW k c s n f len said))∧Below w.heap.size w w':=by
 have hH:=fY k
 have hD:=gx k
 have hM:=jR k said
 have hS:=iA k s
 have hN:=lO k
 have hF:=lQ k
 unfold LW
 generalize eJ k=A at *
 generalize fE k=B at *
 generalize dX k said=D at *
 generalize dy k s=S at *
 generalize iN k=N at *
 generalize sE k=M at *
 have hb:Below w.heap.size w (w.alloc (.cells #[.int .i64 k,.int .u32 c,.int .u32 s,.int .u32 n,.int .i64 f,.slice a len cap] 50)):=(Below.refl _ _).alloc (Nat.le_refl _) _
 by_cases h0:A=false∧B=false
 ·obtain⟨rfl,rfl⟩:=h0
  go_enter func156,ntmps156
  go_wp2_with (first | (go_at_call 173;refine (hH _).mono ?_;rintro e w' ⟨rfl,rfl⟩) | (go_at_call 165;refine (hD _).mono ?_;rintro e w' ⟨rfl,rfl⟩))
  go_ret
  exact⟨rfl,hb⟩
 ·rw[if_neg h0]
  have h1:A=true∨(A=false∧B=true):=by
   cases A
   ·cases B
    ·exact absurd ⟨rfl,rfl⟩ h0
    ·exact Or.inr ⟨rfl,rfl⟩
   ·exact Or.inl rfl
  clear h0
  by_cases hc:(c:Int)=0
  ·rw[if_pos hc,hc]
   rw[hc]at hb
   rcases h1 with rfl | ⟨rfl,rfl⟩
   all_goals
    go_enter func156,ntmps156
    go_wp2_with (first | (go_at_call 173;refine (hH _).mono ?_;rintro e w' ⟨rfl,rfl⟩) | (go_at_call 165;refine (hD _).mono ?_;rintro e w' ⟨rfl,rfl⟩))
    go_ret
    exact⟨rfl,hb⟩
  ·rw[if_neg hc]
   have qc:((c:Int) == 0)=false:=by simpa using hc
   by_cases hs:said=(len:Int)
   ·cases D
    ·rw[if_pos (Or.inr rfl),hs]
     rw[hs]at hM
     rcases h1 with rfl | ⟨rfl,rfl⟩
     all_goals
      go_enter func156,ntmps156
      go_wp2_with (first | (go_at_call 173;refine (hH _).mono ?_;rintro e w' ⟨rfl,rfl⟩) | (go_at_call 165;refine (hD _).mono ?_;rintro e w' ⟨rfl,rfl⟩) | (go_at_call 189;refine (hM _).mono ?_;rintro e w' ⟨rfl,rfl⟩))
      go_ret
      exact⟨rfl,hb⟩
    ·rw[if_neg (by intro h;rcases h with h | h;exact h hs;cases h),hs]
     rw[hs]at hM
     cases S
     ·rw[if_pos rfl]
      rcases h1 with rfl | ⟨rfl,rfl⟩
      all_goals
       go_enter func156,ntmps156
       go_wp2_with (first | (go_at_call 173;refine (hH _).mono ?_;rintro e w' ⟨rfl,rfl⟩) | (go_at_call 165;refine (hD _).mono ?_;rintro e w' ⟨rfl,rfl⟩) | (go_at_call 189;refine (hM _).mono ?_;rintro e w' ⟨rfl,rfl⟩) | (go_at_call 190;refine (hS _).mono ?_;rintro e w' ⟨rfl,rfl⟩))
       go_ret
       exact⟨rfl,hb⟩
     ·rw[if_neg (by simp)]
      obtain⟨Z,hZ⟩:∃ Z,Z=decide ((n:Int)≠0):=⟨_,rfl⟩
      rw[← hZ]
      have qz:((n:Int) != 0)=Z:=by rw[hZ,Bool.eq_iff_iff];simp
      clear hZ hs hc
      by_cases hn:N≠Z
      ·rw[if_pos hn]
       have qn:(N == Z)=false:=by simpa using hn
       rcases h1 with rfl | ⟨rfl,rfl⟩
       all_goals
        go_enter func156,ntmps156
        go_wp2_with (first | (go_at_call 173;refine (hH _).mono ?_;rintro e w' ⟨rfl,rfl⟩) | (go_at_call 165;refine (hD _).mono ?_;rintro e w' ⟨rfl,rfl⟩) | (go_at_call 189;refine (hM _).mono ?_;rintro e w' ⟨rfl,rfl⟩) | (go_at_call 190;refine (hS _).mono ?_;rintro e w' ⟨rfl,rfl⟩))
        go_quiet (first | (go_at_call 191;refine Calls.quiet_of_same (hN _)))
        go_wp2_with fail
        go_ret
        exact⟨rfl,below_drewN hb _⟩
      ·rw[if_neg hn]
       have qn:(N == Z)=true:=by simpa using hn
       clear hn
       by_cases hf:f<0
       ·rw[if_pos (Or.inl hf)]
        have qf:decide (f<0)=true:=decide_eq_true hf
        rcases h1 with rfl | ⟨rfl,rfl⟩
        all_goals
         go_enter func156,ntmps156
         go_wp2_with (first | (go_at_call 173;refine (hH _).mono ?_;rintro e w' ⟨rfl,rfl⟩) | (go_at_call 165;refine (hD _).mono ?_;rintro e w' ⟨rfl,rfl⟩) | (go_at_call 189;refine (hM _).mono ?_;rintro e w' ⟨rfl,rfl⟩) | (go_at_call 190;refine (hS _).mono ?_;rintro e w' ⟨rfl,rfl⟩))
         go_quiet (first | (go_at_call 191;refine Calls.quiet_of_same (hN _)))
         go_wp2_with fail
         go_quiet (first | (go_at_call 192;refine (hF _).mono ?_;rintro e w2 ⟨rfl,rfl⟩;exact⟨rfl,_,rfl⟩))
         go_wp2_with fail
         go_ret
         exact⟨rfl,by repeat (first | exact hb | refine below_drewN ?_ _)⟩
       ·have qf:decide (f<0)=false:=decide_eq_false hf
        by_cases hm:M<f
        ·rw[if_pos (Or.inr hm)]
         have qm:decide (M<f)=true:=decide_eq_true hm
         rcases h1 with rfl | ⟨rfl,rfl⟩
         all_goals
          go_enter func156,ntmps156
          go_wp2_with (first | (go_at_call 173;refine (hH _).mono ?_;rintro e w' ⟨rfl,rfl⟩) | (go_at_call 165;refine (hD _).mono ?_;rintro e w' ⟨rfl,rfl⟩) | (go_at_call 189;refine (hM _).mono ?_;rintro e w' ⟨rfl,rfl⟩) | (go_at_call 190;refine (hS _).mono ?_;rintro e w' ⟨rfl,rfl⟩))
          go_quiet (first | (go_at_call 191;refine Calls.quiet_of_same (hN _)))
          go_wp2_with fail
          go_quiet (first | (go_at_call 192;refine (hF _).mono ?_;rintro e w2 ⟨rfl,rfl⟩;exact⟨rfl,_,rfl⟩))
          go_wp2_with fail
          go_ret
          exact⟨rfl,by repeat (first | exact hb | refine below_drewN ?_ _)⟩
        ·rw[if_neg (by omega)]
         have qm:decide (M<f)=false:=decide_eq_false hm
         rcases h1 with rfl | ⟨rfl,rfl⟩
         all_goals
          go_enter func156,ntmps156
          go_wp2_with (first | (go_at_call 173;refine (hH _).mono ?_;rintro e w' ⟨rfl,rfl⟩) | (go_at_call 165;refine (hD _).mono ?_;rintro e w' ⟨rfl,rfl⟩) | (go_at_call 189;refine (hM _).mono ?_;rintro e w' ⟨rfl,rfl⟩) | (go_at_call 190;refine (hS _).mono ?_;rintro e w' ⟨rfl,rfl⟩))
          go_quiet (first | (go_at_call 191;refine Calls.quiet_of_same (hN _)))
          go_wp2_with fail
          go_quiet (first | (go_at_call 192;refine (hF _).mono ?_;rintro e w2 ⟨rfl,rfl⟩;exact⟨rfl,_,rfl⟩))
          go_wp2_with fail
          go_ret
          exact⟨rfl,by repeat (first | exact hb | refine below_drewN ?_ _)⟩
   ·rw[if_pos (Or.inl hs)]
    have qs:(said != (len:Int))=true:=by simpa using hs
    rcases h1 with rfl | ⟨rfl,rfl⟩
    all_goals
     go_enter func156,ntmps156
     go_wp2_with (first | (go_at_call 173;refine (hH _).mono ?_;rintro e w' ⟨rfl,rfl⟩) | (go_at_call 165;refine (hD _).mono ?_;rintro e w' ⟨rfl,rfl⟩))
     go_ret
     exact⟨rfl,hb⟩
end Go.Proofs.YtenilkloffnjlaaGreat
