/- Part 10: contracts that the proof rests on. -/
import Derived.Deep.RegionLaw
import Derived.Deep.DeepCutAuto
import Derived.Test.YtdpahjfekoikiaaGreatPkX07
set_option maxHeartbeats 64000000
set_option maxRecDepth 100000
namespace Go.Proofs.YtdpahjfekoikiaaGreat
open Tryz
open Go.RowKit
theorem gQ {k:Int} (h:1≤k∧k≤5):cz k=true:=decide_eq_true h
theorem dE {k:Int} (h:¬ (1≤k∧k≤5)):cz k=false:=decide_eq_false h
theorem iK {k:Int} (h:17≤k∧k≤22):dB k=true:=decide_eq_true h
theorem dV {k:Int} (h:¬ (17≤k∧k≤22)):dB k=false:=decide_eq_false h
theorem dX (k:Int) (w:World):Calls prog 113 #[.int .i64 k] w fun e w'=>e=.returned (.bool (cz k))∧w'=w:=by
 by_cases h1:1≤k
 ·by_cases h2:k≤5
  ·rw[gQ ⟨h1,h2⟩]
   go_enter func113,ntmps113
   go_wp2
   go_ret
   exact⟨rfl,rfl⟩
  ·rw[dE (by omega)]
   go_enter func113,ntmps113
   go_wp2
   go_ret
   exact⟨rfl,rfl⟩
 ·rw[dE (by omega)]
  go_enter func113,ntmps113
  go_wp2
  go_ret
  exact⟨rfl,rfl⟩
theorem em (k:Int) (w:World):Calls prog 77 #[.int .i64 k] w fun e w'=>e=.returned (.bool (dB k))∧w'=w:=by
 by_cases h1:17≤k
 ·by_cases h2:k≤22
  ·rw[iK ⟨h1,h2⟩]
   go_enter func77,ntmps77
   go_wp2
   go_ret
   exact⟨rfl,rfl⟩
  ·rw[dV (by omega)]
   go_enter func77,ntmps77
   go_wp2
   go_ret
   exact⟨rfl,rfl⟩
 ·rw[dV (by omega)]
  go_enter func77,ntmps77
  go_wp2
  go_ret
  exact⟨rfl,rfl⟩
theorem bX (k:Int) (w:World):Calls prog 158 #[.int .i64 k] w fun e w'=>e=.returned (.bool (cz k))∧w'=w:=by
 by_cases h1:1≤k
 ·by_cases h2:k≤5
  ·rw[gQ ⟨h1,h2⟩]
   go_enter func158,ntmps158
   go_wp2
   go_ret
   exact⟨rfl,rfl⟩
  ·rw[dE (by omega)]
   go_enter func158,ntmps158
   go_wp2
   go_ret
   exact⟨rfl,rfl⟩
 ·rw[dE (by omega)]
  go_enter func158,ntmps158
  go_wp2
  go_ret
  exact⟨rfl,rfl⟩
theorem bq (k:Int) (w:World):Calls prog 159 #[.int .i64 k] w fun e w'=>e=.returned (.bool (dB k))∧w'=w:=by
 by_cases h1:17≤k
 ·by_cases h2:k≤22
  ·rw[iK ⟨h1,h2⟩]
   go_enter func159,ntmps159
   go_wp2
   go_ret
   exact⟨rfl,rfl⟩
  ·rw[dV (by omega)]
   go_enter func159,ntmps159
   go_wp2
   go_ret
   exact⟨rfl,rfl⟩
 ·rw[dV (by omega)]
  go_enter func159,ntmps159
  go_wp2
  go_ret
  exact⟨rfl,rfl⟩
theorem ur {k:Int} (h:k=1∨k=2∨k=17):cG k=1:=if_pos h
theorem us {k:Int} (h:k=4∨k=20):cG k=2:=by unfold cG;rw[if_neg (by omega),if_pos h]
theorem tn {k:Int} (h:¬ (k=1∨k=2∨k=17)) (h2:¬ (k=4∨k=20)):cG k=0:=by unfold cG;rw[if_neg h,if_neg h2]
theorem lN (k:Int):cG k=0∨cG k=1∨cG k=2:=by
 unfold cG
 by_cases h:k=1∨k=2∨k=17
 ·rw[if_pos h];omega
 ·rw[if_neg h]
  by_cases h2:k=4∨k=20
  ·rw[if_pos h2];omega
  ·rw[if_neg h2];omega
theorem dI (k:Int) (w:World):Calls prog 151 #[.int .i64 k] w fun e w'=>e=.returned (.int .i64 (cG k:Nat))∧w'=w:=by
 by_cases h1:k=1
 ·subst h1
  go_enter func151,ntmps151
  go_wp2
  go_ret
  exact⟨rfl,rfl⟩
 ·by_cases h2:k=2
  ·subst h2
   go_enter func151,ntmps151
   go_wp2
   go_ret
   exact⟨rfl,rfl⟩
  ·by_cases h3:k=17
   ·subst h3
    go_enter func151,ntmps151
    go_wp2
    go_ret
    exact⟨rfl,rfl⟩
   ·by_cases h4:k=4
    ·subst h4
     go_enter func151,ntmps151
     go_wp2
     go_ret
     exact⟨rfl,rfl⟩
    ·by_cases h5:k=20
     ·subst h5
      go_enter func151,ntmps151
      go_wp2
      go_ret
      exact⟨rfl,rfl⟩
     ·rw[tn (by omega) (by omega)]
      go_enter func151,ntmps151
      go_wp2
      go_ret
      exact⟨rfl,rfl⟩
theorem qe {k n:Int} (h:cG k=0):bT k n=decide (n=0):=by unfold bT;rw[if_neg (by omega),if_neg (by omega)]
theorem qg {k n:Int} (h:cG k=1):bT k n=decide (n=4):=by unfold bT;rw[if_pos h]
theorem qh {k n:Int} (h:cG k=2):bT k n=decide (1≤n∧n≤8):=by unfold bT;rw[if_neg (by omega),if_pos h]
theorem fZ (k n:Int) (w:World):Calls prog 117 #[.int .i64 k,.int .i64 n] w fun e w'=>e=.returned (.bool (bT k n))∧w'=w:=by
 have hC:=dI k w
 rcases lN k with h | h | h
 ·rw[qe h]
  rw[h]at hC
  clear h
  by_cases hn:n=0
  ·rw[decide_eq_true hn]
   subst hn
   go_enter func117,ntmps117
   go_wp2_with (go_at_call 151;refine hC.mono ?_;rintro e w' ⟨rfl,rfl⟩)
   go_ret
   exact⟨rfl,rfl⟩
  ·rw[decide_eq_false hn]
   have hq:(n == 0)=false:=by simpa using hn
   go_enter func117,ntmps117
   go_wp2_with (go_at_call 151;refine hC.mono ?_;rintro e w' ⟨rfl,rfl⟩)
   go_ret
   exact⟨rfl,rfl⟩
 ·rw[qg h]
  rw[h]at hC
  clear h
  by_cases hn:n=4
  ·rw[decide_eq_true hn]
   subst hn
   go_enter func117,ntmps117
   go_wp2_with (go_at_call 151;refine hC.mono ?_;rintro e w' ⟨rfl,rfl⟩)
   go_ret
   exact⟨rfl,rfl⟩
  ·rw[decide_eq_false hn]
   have hq:(n == 4)=false:=by simpa using hn
   go_enter func117,ntmps117
   go_wp2_with (go_at_call 151;refine hC.mono ?_;rintro e w' ⟨rfl,rfl⟩)
   go_ret
   exact⟨rfl,rfl⟩
 ·rw[qh h]
  rw[h]at hC
  clear h
  by_cases hn:1≤n
  ·by_cases hn2:n≤8
   ·rw[decide_eq_true ⟨hn,hn2⟩]
    have hq:decide (n≤8)=true:=decide_eq_true hn2
    go_enter func117,ntmps117
    go_wp2_with (go_at_call 151;refine hC.mono ?_;rintro e w' ⟨rfl,rfl⟩)
    go_ret
    exact⟨rfl,rfl⟩
   ·rw[decide_eq_false (by omega)]
    have hq:decide (n≤8)=false:=decide_eq_false hn2
    go_enter func117,ntmps117
    go_wp2_with (go_at_call 151;refine hC.mono ?_;rintro e w' ⟨rfl,rfl⟩)
    go_ret
    exact⟨rfl,rfl⟩
  ·rw[decide_eq_false (by omega)]
   have hq:decide (1≤n)=false:=decide_eq_false hn
   go_enter func117,ntmps117
   go_wp2_with (go_at_call 151;refine hC.mono ?_;rintro e w' ⟨rfl,rfl⟩)
   go_ret
   exact⟨rfl,rfl⟩
theorem eX (k:Int) (s:Nat) (w:World):Calls prog 118 #[.int .i64 k,.int .u32 s] w fun e w'=>e=.returned (.bool (aW k s))∧w'=w:=by
 by_cases h1:k=1
 ·subst h1
  rw[show aW 1 s=decide ((s:Int)=0) from rfl]
  by_cases hs:(s:Int)=0
  ·rw[decide_eq_true hs,hs]
   go_enter func118,ntmps118
   go_wp2
   go_ret
   exact⟨rfl,rfl⟩
  ·rw[decide_eq_false hs]
   have hq:((s:Int) == 0)=false:=by simpa using hs
   go_enter func118,ntmps118
   go_wp2
   go_ret
   exact⟨rfl,rfl⟩
 ·by_cases h2:k=22
  ·subst h2
   go_enter func118,ntmps118
   go_wp2
   go_ret
   exact⟨rfl,rfl⟩
  ·rw[show aW k s=decide ((s:Int)≠0) by unfold aW;rw[if_neg h1,if_neg h2]]
   by_cases hs:(s:Int)=0
   ·rw[decide_eq_false (fun e=>e hs),hs]
    go_enter func118,ntmps118
    go_wp2
    go_ret
    exact⟨rfl,rfl⟩
   ·rw[decide_eq_true hs]
    have hq:((s:Int) != 0)=true:=by simpa using hs
    go_enter func118,ntmps118
    go_wp2
    go_ret
    exact⟨rfl,rfl⟩
theorem iC (k:Int) (w:World):Calls prog 119 #[.int .i64 k] w fun e w'=>e=.returned (.bool (eo k))∧w'=w:=by
 have hC:=dI k w
 by_cases h2:cG k=2
 ·rw[show eo k=true from decide_eq_true (Or.inl h2)]
  rw[h2]at hC
  clear h2
  go_enter func119,ntmps119
  go_wp2_with (go_at_call 151;refine hC.mono ?_;rintro e w' ⟨rfl,rfl⟩)
  go_ret
  exact⟨rfl,rfl⟩
 ·have hc2:((cG k:Int) == 2)=false:=by simp;omega
  by_cases h5:k=5
  ·subst h5
   rw[show eo 5=true from rfl]
   go_enter func119,ntmps119
   go_wp2_with (go_at_call 151;refine hC.mono ?_;rintro e w' ⟨rfl,rfl⟩)
   go_ret
   exact⟨rfl,rfl⟩
  ·by_cases h21:k=21
   ·subst h21
    rw[show eo 21=true from rfl]
    go_enter func119,ntmps119
    go_wp2_with (go_at_call 151;refine hC.mono ?_;rintro e w' ⟨rfl,rfl⟩)
    go_ret
    exact⟨rfl,rfl⟩
   ·rw[show eo k=false from decide_eq_false (by omega)]
    have hq5:(k == 5)=false:=by simpa using h5
    have hq21:(k == 21)=false:=by simpa using h21
    generalize cG k=c at *
    go_enter func119,ntmps119
    go_wp2_with (go_at_call 151;refine hC.mono ?_;rintro e w' ⟨rfl,rfl⟩)
    go_ret
    exact⟨rfl,rfl⟩
theorem iE (k:Int) (w:World):Calls prog 120 #[.int .i64 k] w fun e w'=>e=.returned (.int .i64 (kO k))∧w'=w:=by
 have hC:=dI k w
 by_cases h2:cG k=2
 ·rw[show kO k=15 from if_pos h2]
  rw[h2]at hC
  clear h2
  go_enter func120,ntmps120
  go_wp2_with (go_at_call 151;refine hC.mono ?_;rintro e w' ⟨rfl,rfl⟩)
  go_ret
  exact⟨rfl,rfl⟩
 ·have hc2:((cG k:Int) == 2)=false:=by simp;omega
  rw[show kO k=0 from if_neg h2]
  generalize cG k=c at *
  go_enter func120,ntmps120
  go_wp2_with (go_at_call 151;refine hC.mono ?_;rintro e w' ⟨rfl,rfl⟩)
  go_ret
  exact⟨rfl,rfl⟩
theorem bV (k n:Int) (w:World):Calls prog 160 #[.int .i64 k,.int .i64 n] w fun e w'=>e=.returned (.bool (bT k n))∧w'=w:=by
 by_cases h:k=1∨k=2∨k=17
 ·rw[qg (ur h)]
  by_cases hn:n=4
  ·rw[decide_eq_true hn]
   subst hn
   rcases h with rfl | rfl | rfl
   all_goals
    go_enter func160,ntmps160
    go_wp2
    go_ret
    exact⟨rfl,rfl⟩
  ·rw[decide_eq_false hn]
   have hq:(n == 4)=false:=by simpa using hn
   rcases h with rfl | rfl | rfl
   all_goals
    go_enter func160,ntmps160
    go_wp2
    go_ret
    exact⟨rfl,rfl⟩
 ·by_cases h2:k=4∨k=20
  ·rw[qh (us h2)]
   clear h
   by_cases hn:1≤n
   ·by_cases hn2:n≤8
    ·rw[decide_eq_true ⟨hn,hn2⟩]
     have hq:decide (n≤8)=true:=decide_eq_true hn2
     rcases h2 with rfl | rfl
     all_goals
      go_enter func160,ntmps160
      go_wp2
      go_ret
      exact⟨rfl,rfl⟩
    ·rw[decide_eq_false (by omega)]
     have hq:decide (n≤8)=false:=decide_eq_false hn2
     rcases h2 with rfl | rfl
     all_goals
      go_enter func160,ntmps160
      go_wp2
      go_ret
      exact⟨rfl,rfl⟩
   ·rw[decide_eq_false (by omega)]
    have hq:decide (1≤n)=false:=decide_eq_false hn
    rcases h2 with rfl | rfl
    all_goals
     go_enter func160,ntmps160
     go_wp2
     go_ret
     exact⟨rfl,rfl⟩
  ·rw[qe (tn h h2)]
   have e1:¬ k=1:=by omega
   have e2:¬ k=2:=by omega
   have e3:¬ k=17:=by omega
   have e4:¬ k=4:=by omega
   have e5:¬ k=20:=by omega
   clear h h2
   by_cases hn:n=0
   ·rw[decide_eq_true hn]
    subst hn
    go_enter func160,ntmps160
    go_wp2
    go_ret
    exact⟨rfl,rfl⟩
   ·rw[decide_eq_false hn]
    have hq:(n == 0)=false:=by simpa using hn
    go_enter func160,ntmps160
    go_wp2
    go_ret
    exact⟨rfl,rfl⟩
theorem iN (k:Int) (c s n:Nat) (f:Int) (a:Option Addr) (len cap:Nat) (said:Int) (w:World) :
  Calls prog 76 #[.agg #[.int .i64 k,.int .u32 c,.int .u32 s,.int .u32 n,.int .i64 f,.slice a len cap],.int .i64 said] w fun e w'=>e=.returned (.int .i64 (LW k c s n f len said))∧Below w.heap.size w w':=by
 have hH:=dX k
 have hD:=em k
 have hM:=fZ k said
 have hS:=eX k s
 have hN:=iC k
 have hF:=iE k
 unfold LW
 generalize cz k=A at *
 generalize dB k=B at *
 generalize bT k said=D at *
 generalize aW k s=S at *
 generalize eo k=N at *
 generalize kO k=M at *
 have hb:Below w.heap.size w (w.alloc (.cells #[.int .i64 k,.int .u32 c,.int .u32 s,.int .u32 n,.int .i64 f,.slice a len cap] 103)):=(Below.refl _ _).alloc (Nat.le_refl _) _
 by_cases h0:A=false∧B=false
 ·obtain⟨rfl,rfl⟩:=h0
  go_enter func76,ntmps76
  go_wp2_with (first | (go_at_call 113;refine (hH _).mono ?_;rintro e w' ⟨rfl,rfl⟩) | (go_at_call 77;refine (hD _).mono ?_;rintro e w' ⟨rfl,rfl⟩))
  go_ret
  exact⟨rfl,hb⟩
 ·rw[if_neg h0]
  have h1:A=true∨(A=false∧B=true):=by
   cases A
   ·cases B
    ·exact absurd ⟨rfl,rfl⟩ h0
    ·exact Or.inr ⟨rfl,rfl⟩
   ·exact Or.inl rfl
  clear h0
  by_cases hc:(c:Int)=0
  ·rw[if_pos hc,hc]
   rw[hc]at hb
   rcases h1 with rfl | ⟨rfl,rfl⟩
   all_goals
    go_enter func76,ntmps76
    go_wp2_with (first | (go_at_call 113;refine (hH _).mono ?_;rintro e w' ⟨rfl,rfl⟩) | (go_at_call 77;refine (hD _).mono ?_;rintro e w' ⟨rfl,rfl⟩))
    go_ret
    exact⟨rfl,hb⟩
  ·rw[if_neg hc]
   have qc:((c:Int) == 0)=false:=by simpa using hc
   by_cases hs:said=(len:Int)
   ·cases D
    ·rw[if_pos (Or.inr rfl),hs]
     rw[hs]at hM
     rcases h1 with rfl | ⟨rfl,rfl⟩
     all_goals
      go_enter func76,ntmps76
      go_wp2_with (first | (go_at_call 113;refine (hH _).mono ?_;rintro e w' ⟨rfl,rfl⟩) | (go_at_call 77;refine (hD _).mono ?_;rintro e w' ⟨rfl,rfl⟩) | (go_at_call 117;refine (hM _).mono ?_;rintro e w' ⟨rfl,rfl⟩))
      go_ret
      exact⟨rfl,hb⟩
    ·rw[if_neg (by intro h;rcases h with h | h;exact h hs;cases h),hs]
     rw[hs]at hM
     cases S
     ·rw[if_pos rfl]
      rcases h1 with rfl | ⟨rfl,rfl⟩
      all_goals
       go_enter func76,ntmps76
       go_wp2_with (first | (go_at_call 113;refine (hH _).mono ?_;rintro e w' ⟨rfl,rfl⟩) | (go_at_call 77;refine (hD _).mono ?_;rintro e w' ⟨rfl,rfl⟩) | (go_at_call 117;refine (hM _).mono ?_;rintro e w' ⟨rfl,rfl⟩) | (go_at_call 118;refine (hS _).mono ?_;rintro e w' ⟨rfl,rfl⟩))
       go_ret
       exact⟨rfl,hb⟩
     ·rw[if_neg (by simp)]
      obtain⟨Z,hZ⟩:∃ Z,Z=decide ((n:Int)≠0):=⟨_,rfl⟩
      rw[← hZ]
      have qz:((n:Int) != 0)=Z:=by rw[hZ,Bool.eq_iff_iff];simp
      clear hZ hs hc
      by_cases hn:N≠Z
      ·rw[if_pos hn]
       have qn:(N == Z)=false:=by simpa using hn
       rcases h1 with rfl | ⟨rfl,rfl⟩
       all_goals
        go_enter func76,ntmps76
        go_wp2_with (first | (go_at_call 113;refine (hH _).mono ?_;rintro e w' ⟨rfl,rfl⟩) | (go_at_call 77;refine (hD _).mono ?_;rintro e w' ⟨rfl,rfl⟩) | (go_at_call 117;refine (hM _).mono ?_;rintro e w' ⟨rfl,rfl⟩) | (go_at_call 118;refine (hS _).mono ?_;rintro e w' ⟨rfl,rfl⟩))
        go_quiet (first | (go_at_call 119;refine Calls.quiet_of_same (hN _)))
        go_wp2_with fail
        go_ret
        exact⟨rfl,below_drewN hb _⟩
      ·rw[if_neg hn]
       have qn:(N == Z)=true:=by simpa using hn
       clear hn
       by_cases hf:f<0
       ·rw[if_pos (Or.inl hf)]
        have qf:decide (f<0)=true:=decide_eq_true hf
        rcases h1 with rfl | ⟨rfl,rfl⟩
        all_goals
         go_enter func76,ntmps76
         go_wp2_with (first | (go_at_call 113;refine (hH _).mono ?_;rintro e w' ⟨rfl,rfl⟩) | (go_at_call 77;refine (hD _).mono ?_;rintro e w' ⟨rfl,rfl⟩) | (go_at_call 117;refine (hM _).mono ?_;rintro e w' ⟨rfl,rfl⟩) | (go_at_call 118;refine (hS _).mono ?_;rintro e w' ⟨rfl,rfl⟩))
         go_quiet (first | (go_at_call 119;refine Calls.quiet_of_same (hN _)))
         go_wp2_with fail
         go_quiet (first | (go_at_call 120;refine (hF _).mono ?_;rintro e w2 ⟨rfl,rfl⟩;exact⟨rfl,_,rfl⟩))
         go_wp2_with fail
         go_ret
         exact⟨rfl,by repeat (first | exact hb | refine below_drewN ?_ _)⟩
       ·have qf:decide (f<0)=false:=decide_eq_false hf
        by_cases hm:M<f
        ·rw[if_pos (Or.inr hm)]
         have qm:decide (M<f)=true:=decide_eq_true hm
         rcases h1 with rfl | ⟨rfl,rfl⟩
         all_goals
          go_enter func76,ntmps76
          go_wp2_with (first | (go_at_call 113;refine (hH _).mono ?_;rintro e w' ⟨rfl,rfl⟩) | (go_at_call 77;refine (hD _).mono ?_;rintro e w' ⟨rfl,rfl⟩) | (go_at_call 117;refine (hM _).mono ?_;rintro e w' ⟨rfl,rfl⟩) | (go_at_call 118;refine (hS _).mono ?_;rintro e w' ⟨rfl,rfl⟩))
          go_quiet (first | (go_at_call 119;refine Calls.quiet_of_same (hN _)))
          go_wp2_with fail
          go_quiet (first | (go_at_call 120;refine (hF _).mono ?_;rintro e w2 ⟨rfl,rfl⟩;exact⟨rfl,_,rfl⟩))
          go_wp2_with fail
          go_ret
          exact⟨rfl,by repeat (first | exact hb | refine below_drewN ?_ _)⟩
        ·rw[if_neg (by omega)]
         have qm:decide (M<f)=false:=decide_eq_false hm
         rcases h1 with rfl | ⟨rfl,rfl⟩
         all_goals
          go_enter func76,ntmps76
          go_wp2_with (first | (go_at_call 113;refine (hH _).mono ?_;rintro e w' ⟨rfl,rfl⟩) | (go_at_call 77;refine (hD _).mono ?_;rintro e w' ⟨rfl,rfl⟩) | (go_at_call 117;refine (hM _).mono ?_;rintro e w' ⟨rfl,rfl⟩) | (go_at_call 118;refine (hS _).mono ?_;rintro e w' ⟨rfl,rfl⟩))
          go_quiet (first | (go_at_call 119;refine Calls.quiet_of_same (hN _)))
          go_wp2_with fail
          go_quiet (first | (go_at_call 120;refine (hF _).mono ?_;rintro e w2 ⟨rfl,rfl⟩;exact⟨rfl,_,rfl⟩))
          go_wp2_with fail
          go_ret
          exact⟨rfl,by repeat (first | exact hb | refine below_drewN ?_ _)⟩
   ·rw[if_pos (Or.inl hs)]
    have qs:(said != (len:Int))=true:=by simpa using hs
    rcases h1 with rfl | ⟨rfl,rfl⟩
    all_goals
     go_enter func76,ntmps76
     go_wp2_with (first | (go_at_call 113;refine (hH _).mono ?_;rintro e w' ⟨rfl,rfl⟩) | (go_at_call 77;refine (hD _).mono ?_;rintro e w' ⟨rfl,rfl⟩))
     go_ret
     exact⟨rfl,hb⟩
theorem gT (k:Int) (c s n:Nat) (f:Int) (a:Option Addr) (len cap:Nat) (w:World) :
  Calls prog 66 #[.agg #[.int .i64 k,.int .u32 c,.int .u32 s,.int .u32 n,.int .i64 f,.slice a len cap]] w fun e w'=>e=.returned (.int .i64 (LW k c s n f len len))∧Below w.heap.size w w':=by
 have hb:Below w.heap.size w (w.alloc (.cells #[.int .i64 k,.int .u32 c,.int .u32 s,.int .u32 n,.int .i64 f,.slice a len cap] 103)):=(Below.refl _ _).alloc (Nat.le_refl _) _
 have hF:=iN k c s n f a len cap len (w.alloc (.cells #[.int .i64 k,.int .u32 c,.int .u32 s,.int .u32 n,.int .i64 f,.slice a len cap] 103))
 generalize LW k c s n f len len=E at *
 go_enter func66,ntmps66
 go_wp2_with fail
 refine hF.mono ?_
 rintro e w1 ⟨rfl,hb1⟩
 have hb2:=aF hb hb.size hb1
 clear hb hF hb1
 go_wp2_with fail
 go_ret
 exact⟨rfl,hb2⟩
theorem eu (B g N cap off L C x:Nat) (F:Nat→Nat) (w0 w:World) (hown:w.ownsRow B 5 1 (.slice (ac g 0) N cap) N (CB F N)) (hbel:Below B w0 w) (hBg:B≤g) (ho:off+4≤N) (hL:4≤L) :
  Calls prog 67 #[.slice (ac g off) L C,.int .u32 x] w fun e w'=>e=.returned (.tuple #[]) ∧
   Hid (w'.ownsRow B 5 1 (.slice (ac g 0) N cap) N (CB (fun i=>if off≤i∧i<off+4 then PM.w4 x (i-off) else F i) N)∧Below B w0 w'):=by
 have e0:(x:Int) / 16777216 % 256=((PM.w4 x 0:Nat):Int):=by show _=((x / 16777216 % 256:Nat):Int);omega
 have e1:(x:Int) / 65536 % 256=((PM.w4 x 1:Nat):Int):=by show _=((x / 65536 % 256:Nat):Int);omega
 have e2:(x:Int) / 256 % 256=((PM.w4 x 2:Nat):Int):=by show _=((x / 256 % 256:Nat):Int);omega
 have e3:(x:Int) % 256=((PM.w4 x 3:Nat):Int):=by show _=((x % 256:Nat):Int);omega
 go_enter func67,ntmps67
 go_wp2_with fail
 go_loopw [4,5] (fun _ c wr=>∃ i:Nat,i≤4∧c=.int .i64 i∧wr.ownsRow B 5 1 (.slice (ac g 0) N cap) N (CB (fun j=>if off≤j∧j<off+i then PM.w4 x (j-off) else F j) N)∧Below B w0 wr) (fun _ c _=>4 - (intOf c).toNat)
 case atStart=>exact⟨0,by omega,rfl,by rw[cn _ F N (fun i _=>if_neg (by omega))];exact hown,hbel⟩
 case round=>
  clear hown hbel
  obtain⟨i,hi,rfl,hown,hbel⟩:=hrel
  by_cases hlt:i<4
  ·have hcx:=hown.cellAt (off+i) (by omega)
   rw[az _ _ _ (show off+i<N by omega)]at hcx
   have hfx:=hown.frozenAt (off+i)
   have hown3:=(hown.stored (off+i) (.int .u8 ((PM.w4 x i:Nat):Int))).1
   rw[d9,cn _ (fun j=>if off≤j∧j<off + (i+1) then PM.w4 x (j-off) else F j) N (fun j _=>by
    by_cases e:j=off+i
    ·rw[if_pos e,if_pos (by omega),e,show off+i-off=i by omega]
    ·rw[if_neg e]
     by_cases e2:off≤j∧j<off+i
     ·rw[if_pos e2,if_pos (by omega)]
     ·rw[if_neg e2,if_neg (by omega)])]at hown3
   have hbel3:=hbel.setCell (p:=⟨g,off+i,none⟩) hBg (.int .u8 ((PM.w4 x i:Nat):Int))
   have H3:Hid (_):=And.intro hown3 hbel3
   clear hown hbel hown3 hbel3
   have hLI:(i:Int) < (L:Int):=by omega
   have hv:(x:Int) / 2 ^ (24-8*i) % 256=((PM.w4 x i:Nat):Int):=by
    rcases (show i=0∨i=1∨i=2∨i=3 by omega) with rfl | rfl | rfl | rfl
    ·exact e0
    ·exact e1
    ·exact e2
    ·simpa using e3
   clear e0 e1 e2 e3
   generalize PM.w4 x i=y at *
   go_wp2_with fail
   go_roundw
   case rel=>exact⟨i+1,by omega,by go_num,H3.out.1,H3.out.2⟩
   case measure=>simp[intOf] <;> omega
  ·obtain rfl:i=4:=by omega
   have H3:Hid (_):=And.intro hown hbel
   clear hown hbel
   go_wp2_with fail
   go_end0
   exact⟨rfl,H3.out.1,H3.out.2⟩
theorem mC {ops:Array Oper} {o:Oper} {a:Act} {w:World} {K:Act→World→Prop} {Q:Exit→Act→World→Prop} {E:Prop} (hgd:o.guard=none) (d s:Operand)
  (ho:o.op=.call { callee:=.builtin .copy,args:=#[d,s],argTypes:=#[43,43] }) (B g N cap off m c C M:Nat) (dp ao:Option Addr) (f bs:Nat→Nat)
  (hd:a.eval d=.slice dp M C) (hs:a.eval s=.slice ao m c) (hM:M=m) (hdp:0<m→dp=ac g off) (hN:off+m≤N)
  (hown:w.ownsRow B 5 1 (.slice (ac g 0) N cap) N (CB f N)) (hrow:Row8 w ao m c bs) (w0:World) (hb:Below B w0 w)
  (h:∀ w',Hid (w'.ownsRow B 5 1 (.slice (ac g 0) N cap) N (CB (fun i=>if off≤i∧i<off+m then bs (i-off) else f i) N)∧Below B w0 w')→K (a.put o.dst (goInt m)) w') :
  if Region.wanted o (yielded ops a.tmps)=true then Oper.wp prog o a w K Q else E:=by
 subst hM
 rcases hown.2 with ⟨h',_⟩ | ⟨g',cap',cur,h',hbg,hg,hnc,hcm,hcs,a4⟩
 ·simp at h'
 ·simp only[Value.slice.injEq,Option.some.injEq,Addr.mk.injEq,and_true,true_and]at h'
  obtain⟨rfl,rfl⟩:=h'
  refine step_copy_splice hgd d s _ _ ho 5 underlying43 jN dp ao M C M c hd hs g off cur.toList 5 (by simpa using hg) (CB bs M) (by rw[ah];exact (Nat.min_self M).symm) ?_ (by rw[ah,Array.length_toList,hcs];omega) (gu _ _) B w0 hb hbg ?_
  ·intro hpos
   rw[ah]at hpos
   refine⟨hdp hpos,?_⟩
   cases ao with
   | none=>have:=(hrow.nil rfl).1;omega
   | some ad=>
    refine⟨ad,rfl,fun j v hj=>?_⟩
    by_cases hlt:j<M
    ·rw[az _ _ _ hlt]at hj
     cases hj
     exact hrow.src ad rfl j hlt
    ·rw[bg _ _ _ (by omega)]at hj;cases hj
  ·intro w' hg' hb'
   rw[ah]
   refine h w' ⟨⟨by rw[ah];omega,.inr ⟨g,cap,_,rfl,hbg,hg'.out,hnc,hcm,?_,?_⟩⟩,hb'⟩
   ·rw[List.size_toArray,length_splice _ _ _ (by rw[ah,Array.length_toList,hcs];omega),Array.length_toList,hcs]
   ·rw[Nat.mul_one]at a4 ⊢
    simp only[splice]
    apply List.ext_getElem?
    intro i
    rw[List.getElem?_take]
    by_cases hi:i<N
    ·rw[if_pos hi,az _ N i hi]
     have hcur:cur.toList[i]?=some (.int .u8 (f i)):=by
      have:=congrArg (·[i]?) a4
      simp only[List.getElem?_take,if_pos hi,az f N i hi]at this
      exact this
     have hlo:(List.take off cur.toList).length=off:=by rw[List.length_take,Array.length_toList,hcs];omega
     by_cases h1:i<off
     ·rw[if_neg (by omega),List.getElem?_append_left (by omega),List.getElem?_take,if_pos h1,hcur]
     ·by_cases h2:i<off+M
      ·rw[if_pos ⟨by omega,h2⟩,List.getElem?_append_right (by omega),hlo,List.getElem?_append_left (by rw[ah];omega),az _ _ _ (by omega)]
      ·rw[if_neg (by omega),List.getElem?_append_right (by omega),hlo,List.getElem?_append_right (by rw[ah];omega),ah,List.getElem?_drop,show off+M + (i-off-M)=i by omega,hcur]
    ·rw[if_neg hi,bg _ N i (by omega)]
theorem pS (K c s n F len:Nat) (bs:Nat→Nat) (j:Nat) (hj:j<15+len) :
  (if 15≤j∧j<15+len then bs (j-15) else if j=14 then len else if j=13 then F else if 9≤j∧j<9+4 then PM.w4 n (j-9) else if 5≤j∧j<5+4 then PM.w4 s (j-5) else if 1≤j∧j<1+4 then PM.w4 c (j-1) else if j=0 then K else 0)=fr K c s n F len bs j:=by
 unfold fr
 by_cases h0:j=0
 ·simp (disch:=omega) only [if_pos,if_neg]
 ·by_cases h1:j<5
  ·simp (disch:=omega) only [if_pos,if_neg]
  ·by_cases h2:j<9
   ·simp (disch:=omega) only [if_pos,if_neg]
   ·by_cases h3:j<13
    ·simp (disch:=omega) only [if_pos,if_neg]
    ·by_cases h4:j=13
     ·simp (disch:=omega) only [if_pos,if_neg]
     ·by_cases h5:j=14
      ·simp (disch:=omega) only [if_pos,if_neg]
      ·simp (disch:=omega) only [if_pos,if_neg]
theorem oM {w:World} {B e g n cap:Nat} {bs:Nat→Nat} (h:w.ownsRow B e 1 (.slice (ac g 0) n cap) n (CB bs n)) (hb:∀ i,i<n→bs i<256):Row8 w (ac g 0) n cap bs:=by
 obtain⟨a,c,e,r⟩:=aO h hb
 simp only[Value.slice.injEq,true_and]at e
 obtain⟨rfl,rfl⟩:=e
 exact r
structure Box (wx:World) (g:Nat) (k:Int) (c s n:Nat) (f:Int) (v:Value):Prop where
 c0:wx.cell? ⟨g,0,none⟩=some (.int .i64 k)
 c1:wx.cell? ⟨g,1,none⟩=some (.int .u32 c)
 c2:wx.cell? ⟨g,2,none⟩=some (.int .u32 s)
 c3:wx.cell? ⟨g,3,none⟩=some (.int .u32 n)
 c4:wx.cell? ⟨g,4,none⟩=some (.int .i64 f)
 c5:wx.cell? ⟨g,5,none⟩=some v
theorem gi (w:World) (k:Int) (c s n:Nat) (f:Int) (v:Value) (wx:World) (hb:Below (w.alloc (.cells #[.int .i64 k,.int .u32 c,.int .u32 s,.int .u32 n,.int .i64 f,v] 103)).heap.size (w.alloc (.cells #[.int .i64 k,.int .u32 c,.int .u32 s,.int .u32 n,.int .i64 f,v] 103)) wx) :
  Box wx w.heap.size k c s n f v:=by
 have h:∀ i,wx.cell? ⟨w.heap.size,i,none⟩=(w.alloc (.cells #[.int .i64 k,.int .u32 c,.int .u32 s,.int .u32 n,.int .i64 f,v] 103)).cell? ⟨w.heap.size,i,none⟩:=fun i=>hb.cell (p:=⟨w.heap.size,i,none⟩) (by simp)
 exact⟨(h 0).trans (by simp),(h 1).trans (by simp),(h 2).trans (by simp),(h 3).trans (by simp),(h 4).trans (by simp),(h 5).trans (by simp)⟩
theorem gJ (k:Int) (c s n:Nat) (f:Int) (a:Option Addr) (len cap:Nat) (w:World) (hE:LW k c s n f len len≠0) :
  Calls prog 35 #[.agg #[.int .i64 k,.int .u32 c,.int .u32 s,.int .u32 n,.int .i64 f,.slice a len cap]] w fun e w'=>e=.returned (.tuple #[.slice none 0 0,.int .i64 (LW k c s n f len len)])∧Below w.heap.size w w':=by
 have hb:Below w.heap.size w (w.alloc (.cells #[.int .i64 k,.int .u32 c,.int .u32 s,.int .u32 n,.int .i64 f,.slice a len cap] 103)):=(Below.refl _ _).alloc (Nat.le_refl _) _
 have hF:=gT k c s n f a len cap (w.alloc (.cells #[.int .i64 k,.int .u32 c,.int .u32 s,.int .u32 n,.int .i64 f,.slice a len cap] 103))
 generalize LW k c s n f len len=E at *
 have q:(E == 0)=false:=by simpa using hE
 go_enter func35,ntmps35
 go_wp2_with fail
 refine hF.mono ?_
 rintro e w1 ⟨rfl,hb1⟩
 have hb2:=aF hb hb.size hb1
 clear hb hF hb1
 go_wp2_with fail
 go_ret2
 exact⟨rfl,hb2⟩
theorem fT (K c s n F:Nat) (a:Option Addr) (len cap:Nat) (bs:Nat→Nat) (w:World) (hr:Row8 w a len cap bs) (hE:LW K c s n F len len=0) :
  Calls prog 35 #[.agg #[.int .i64 K,.int .u32 c,.int .u32 s,.int .u32 n,.int .i64 F,.slice a len cap]] w fun e w'=>∃ v,e=.returned (.tuple #[v,.int .i64 0]) ∧
   Hid (w'.ownsRow w.heap.size 5 1 v (15+len+4) (CB (PM.sl (fr K c s n F len bs) (15+len)) (15+len+4))∧Below w.heap.size w w'):=by
 obtain⟨i0,hi,hz0,hz1,hz2⟩:=info_parts aS
 obtain⟨hkk,_,_,hll,hff⟩:=cR hE
 have hA:Below w.heap.size w (w.alloc (.cells #[.int .i64 K,.int .u32 c,.int .u32 s,.int .u32 n,.int .i64 F,.slice a len cap] 103)):=(Below.refl _ _).alloc (Nat.le_refl _) _
 have hL:=gT K c s n F a len cap (w.alloc (.cells #[.int .i64 K,.int .u32 c,.int .u32 s,.int .u32 n,.int .i64 F,.slice a len cap] 103))
 rw[hE]at hL
 have hX:=gi w K c s n F (.slice a len cap)
 have hAs:w.heap.size < (w.alloc (.cells #[.int .i64 K,.int .u32 c,.int .u32 s,.int .u32 n,.int .i64 F,.slice a len cap] 103)).heap.size:=by simp
 have hrA:=hr.below hA
 clear hE
 go_enter func35,ntmps35
 go_wp2_with fail
 refine hL.mono ?_
 rintro e w1 ⟨rfl,hb1⟩
 generalize w.alloc (.cells #[.int .i64 K,.int .u32 c,.int .u32 s,.int .u32 n,.int .i64 F,.slice a len cap] 103)=wa at *
 have X1:=hX w1 hb1
 obtain⟨N,hN⟩:∃ N,N=15+len:=⟨_,rfl⟩
 have HN:Hid (N=15+len):=hN
 have hNI:(15:Int) + (len:Int)=(N:Int):=by omega
 have x5:=X1.c5
 have hs1:=hb1.size
 have hbase:wa.heap.size≤w1.heap.size:=hs1
 have hN15:15≤N:=by omega
 have hN23:N≤23:=by omega
 clear hL X1 hr hN
 go_wp2_with (at_make;refine aH _ rfl (.tmp 14) (.tmp 14) 43 rfl wa.heap.size 5 i0 underlying43 hi hz0 hz1 hz2 _ _ _ _ N N rfl rfl rfl rfl (Nat.le_refl _) (by omega) hbase ?_)
 intro w2 hown2 hbel2
 have hB2:Below wa.heap.size wa w2:=hb1.trans hbel2
 have X2:=hX w2 hB2
 have x0:=X2.c0
 have hBg:wa.heap.size≤w1.heap.size:=hbase
 generalize w1.heap.size=g at *
 have hcx:=hown2.cellAt 0 (by omega)
 rw[az _ _ _ (show 0<N by omega)]at hcx
 have hfx:=hown2.frozenAt 0
 have hown3:=(hown2.stored 0 (.int .u8 ((K:Nat):Int))).1
 rw[d9]at hown3
 have hB3:=hB2.setCell (p:=⟨g,0,none⟩) hBg (.int .u8 ((K:Nat):Int))
 have hKm:(K:Int) % 256=(K:Int):=by omega
 have hN0:(0:Int) < (N:Int):=by omega
 clear hb1 hbel2 hown2 hB2 X2 hbase hs1 x5
 go_upto_region 6 with fail
 generalize w2.setCell ⟨g,0,none⟩ (.int .u8 (K:Int))=w3 at *
 have hN1:¬ N=1:=by omega
 have hN5:¬ N=5:=by omega
 have hN9:¬ N=9:=by omega
 have hI1:(1:Int) ≤ (N:Int):=by omega
 have hI5:(5:Int) ≤ (N:Int):=by omega
 have hI9:(9:Int) ≤ (N:Int):=by omega
 have hI13:(13:Int) < (N:Int):=by omega
 have hI14:(14:Int) < (N:Int):=by omega
 have hI15:(15:Int) ≤ (N:Int):=by omega
 have hne:¬ w.heap.size=g:=by omega
 have hne':¬ g=w.heap.size:=by omega
 have hFm:(F:Int) % 256=(F:Int):=by omega
 have hlm:(len:Int) % 256=(len:Int):=by omega
 clear hcx hfx x0
 have X3:=hX w3 hB3
 have x1:=X3.c1
 have hP:=fun L C hL=>eu wa.heap.size g N N 1 L C c (fun i=>if i=0 then K else 0) wa w3.drew hown3 hB3.drew hBg (by omega) hL
 go_upto_region 6 with fail
 go_cut [25] (fun _ wx=>Hid (wx.ownsRow wa.heap.size 5 1 (.slice (ac g 0) N N) N (CB (fun i=>if 1≤i∧i<1+4 then PM.w4 c (i-1) else if i=0 then K else 0) N)∧Below wa.heap.size wa wx))
 case first=>
  go_region_with (go_at_call 67;refine (hP _ _ (by omega)).mono ?_;rintro e w9 ⟨rfl,H9⟩)
  all_goals (go_wp2_with fail;go_meet;exact H9)
 case rest=>
  obtain⟨w4,rfl⟩:∃ x,x=wc:=⟨_,rfl⟩
  obtain⟨own_w4,bel_w4⟩:=hcut
  clear hP X3 x1 hown3 hB3
  have X4:=hX w4 bel_w4
  have x2:=X4.c2
  have hP:=fun L C hL=>eu wa.heap.size g N N 5 L C s (fun i=>if 1≤i∧i<1+4 then PM.w4 c (i-1) else if i=0 then K else 0) wa w4.drew own_w4 bel_w4.drew hBg (by omega) hL
  go_upto_region 7 with fail
  go_cut [30] (fun _ wx=>Hid (wx.ownsRow wa.heap.size 5 1 (.slice (ac g 0) N N) N (CB (fun i=>if 5≤i∧i<5+4 then PM.w4 s (i-5) else if 1≤i∧i<1+4 then PM.w4 c (i-1) else if i=0 then K else 0) N)∧Below wa.heap.size wa wx))
  case first=>
   go_region_with (go_at_call 67;refine (hP _ _ (by omega)).mono ?_;rintro e w9 ⟨rfl,H9⟩)
   all_goals (go_wp2_with fail;go_meet;exact H9)
  case rest=>
   obtain⟨w5,rfl⟩:∃ x,x=wc:=⟨_,rfl⟩
   obtain⟨own_w5,bel_w5⟩:=hcut
   clear hP X4 x2 own_w4 bel_w4
   have X5:=hX w5 bel_w5
   have x3:=X5.c3
   have hP:=fun L C hL=>eu wa.heap.size g N N 9 L C n (fun i=>if 5≤i∧i<5+4 then PM.w4 s (i-5) else if 1≤i∧i<1+4 then PM.w4 c (i-1) else if i=0 then K else 0) wa w5.drew own_w5 bel_w5.drew hBg (by omega) hL
   go_upto_region 8 with fail
   go_cut [35] (fun _ wx=>Hid (wx.ownsRow wa.heap.size 5 1 (.slice (ac g 0) N N) N (CB (fun i=>if 9≤i∧i<9+4 then PM.w4 n (i-9) else if 5≤i∧i<5+4 then PM.w4 s (i-5) else if 1≤i∧i<1+4 then PM.w4 c (i-1) else if i=0 then K else 0) N)∧Below wa.heap.size wa wx))
   case first=>
    go_region_with (go_at_call 67;refine (hP _ _ (by omega)).mono ?_;rintro e w9 ⟨rfl,H9⟩)
    all_goals (go_wp2_with fail;go_meet;exact H9)
   case rest=>
    obtain⟨w6,rfl⟩:∃ x,x=wc:=⟨_,rfl⟩
    obtain⟨own_w6,bel_w6⟩:=hcut
    clear hP X5 x3 own_w5 bel_w5
    have X6:=hX w6 bel_w6
    have x4:=X6.c4
    have x5:=X6.c5
    have hc13:=own_w6.cellAt 13 (by omega)
    rw[az _ _ _ (show 13<N by omega)]at hc13
    have hf13:=own_w6.frozenAt 13
    have own_a:=(own_w6.stored 13 (.int .u8 ((F:Nat):Int))).1
    rw[d9]at own_a
    have bel_a:=bel_w6.setCell (p:=⟨g,13,none⟩) hBg (.int .u8 ((F:Nat):Int))
    have hc14:=own_a.cellAt 14 (by omega)
    rw[az _ _ _ (show 14<N by omega)]at hc14
    have hf14:=own_a.frozenAt 14
    have own_b:=(own_a.stored 14 (.int .u8 ((len:Nat):Int))).1
    rw[d9]at own_b
    have bel_b:=bel_a.setCell (p:=⟨g,14,none⟩) hBg (.int .u8 ((len:Nat):Int))
    clear own_w6 bel_w6 X6 own_a bel_a
    go_upto_region 11 with fail
    generalize (w6.setCell ⟨g,13,none⟩ (.int .u8 (F:Int))).setCell ⟨g,14,none⟩ (.int .u8 (len:Int))=w7 at *
    have X7:=hX w7 bel_b
    have y5:=X7.c5
    have R7:=hrA.below bel_b.drew
    obtain⟨dp,hif⟩:∃ dp,(if N=15 then some (⟨g,0,none⟩:Addr) else ac g 15)=dp:=⟨_,rfl⟩
    have HDP:Hid (0<len→dp=ac g 15):=fun h=>by rw[← hif];exact if_neg (by have:=HN.out;omega)
    go_cut [51] (fun _ wx=>Hid (wx.ownsRow wa.heap.size 5 1 (.slice (ac g 0) N N) N (CB (fun i=>if 15≤i∧i<15+len then bs (i-15) else if i=14 then len else if i=13 then F else if 9≤i∧i<9+4 then PM.w4 n (i-9) else if 5≤i∧i<5+4 then PM.w4 s (i-5) else if 1≤i∧i<1+4 then PM.w4 c (i-1) else if i=0 then K else 0) N)∧Below wa.heap.size wa wx))
    case first=>
     go_region_law (refine mC rfl (.tmp 48) (.tmp 50) rfl wa.heap.size g N N 15 len cap (N-15) (N-15) dp a (fun i=>if i=14 then len else if i=13 then F else if 9≤i∧i<9+4 then PM.w4 n (i-9) else if 5≤i∧i<5+4 then PM.w4 s (i-5) else if 1≤i∧i<1+4 then PM.w4 c (i-1) else if i=0 then K else 0) bs (by simp[Act.eval]) (by simp[Act.eval]) (by have:=HN.out;omega) HDP.out (by have:=HN.out;omega) own_b R7 wa bel_b.drew ?_;intro w9 H9)
     all_goals (go_wp2_with fail;go_meet;exact H9)
    case rest=>
     obtain⟨w8,rfl⟩:∃ x,x=wc:=⟨_,rfl⟩
     obtain⟨own8,bel8⟩:=hcut
     rw[cn _ (fr K c s n F len bs) N (fun j hj=>pS K c s n F len bs j (by rw[← HN.out];exact hj))]at own8
     have hby:∀ i,i<N→fr K c s n F len bs i<256:=fun i hi=>pT (by omega) (by omega) (by omega) hrA.byte i (by rw[← HN.out];exact hi)
     have R8:=oM own8 hby
     have hS:=qX _ N N _ w8 R8 (by omega)
     have hs8:=bel8.size
     have hBB:Below w.heap.size w w8:=hA.trans (bel8.mono (Nat.le_of_lt hAs))
     clear own8 bel8 R8 hX X7 y5 R7 own_b bel_b HDP hif hc13 hc14 hf13 hf14 x4 x5 hrA
     go_wp2_with fail
     refine hS.mono ?_
     rintro e w9 ⟨v,rfl,own9,bel9⟩
     clear hS
     go_wp2_with fail
     go_ret2
     refine⟨v,rfl,?_,aF hBB (by omega) bel9⟩
     rw[← HN.out]
     exact ak own9 (by omega)
theorem vK {p:Prop} (h:p):Hid p:=h
theorem jC (c O I T n:Nat) (w:World) (hc:c<4294967296) (hn:n<4294967296) (hE:iY c O I T n) :
  Calls prog 143 #[.agg #[.int .u32 c,.int .i64 O,.int .i64 I,.int .i64 T,.int .u32 n]] w fun e w'=>∃ g,e=.returned (.tuple #[.slice (ac g 0) 14 14,.int .i64 0]) ∧
   Hid (w.heap.size≤g∧w'.ownsRow w.heap.size 5 1 (.slice (ac g 0) 14 14) 14 (CB (pe c O I T n) 14)∧Below w.heap.size w w'):=by
 obtain⟨i0,hi,hz0,hz1,hz2⟩:=info_parts aS
 obtain⟨_,hO,hI,hT,_⟩:=id hE
 have hA:Below w.heap.size w (w.alloc (.cells #[.int .u32 c,.int .i64 O,.int .i64 I,.int .i64 T,.int .u32 n] 29)):=(Below.refl _ _).alloc (Nat.le_refl _) _
 have hAs:w.heap.size < (w.alloc (.cells #[.int .u32 c,.int .i64 O,.int .i64 I,.int .i64 T,.int .u32 n] 29)).heap.size:=by simp
 have hF:=fI c O I T n (w.alloc (.cells #[.int .u32 c,.int .i64 O,.int .i64 I,.int .i64 T,.int .u32 n] 29)) 0 (if_pos hE)
 have hX:=pI w c O I T n
 have hOm:(O:Int) % 256=(O:Int):=by omega
 have hIm:(I:Int) % 256=(I:Int):=by omega
 have hTm:(T:Int) % 4294967296=(T:Int):=by omega
 have hT2:T<4294967296:=by omega
 have hwT:IntKind.u32.wrap (T:Int)=(T:Int):=by rw[IntKind.wrap_u32];omega
 have hbT:∀ wx,Calls prog 108 #[.int .u32 (IntKind.u32.wrap (T:Int))] wx _:=fun wx=>by rw[hwT];exact cJ T wx hT2
 clear hwT hTm
 clear hE hO hI hT
 go_enter func143,ntmps143
 go_wp2_with fail
 generalize w.alloc (.cells #[.int .u32 c,.int .i64 O,.int .i64 I,.int .i64 T,.int .u32 n] 29)=wa at *
 refine hF.mono ?_
 rintro e w1 ⟨rfl,hb1⟩
 have hs1:wa.heap.size≤w1.heap.size:=hb1.size
 clear hF
 go_wp2_with (at_make;refine aH _ rfl (.const (.int .i64 14)) (.const (.int .i64 14)) 43 rfl wa.heap.size 5 i0 underlying43 hi hz0 hz1 hz2 _ _ _ _ 14 14 rfl rfl rfl rfl (Nat.le_refl _) (by omega) hs1 ?_)
 intro w2 hown2 hbel2
 have hB2:Below wa.heap.size wa w2:=hb1.trans hbel2
 generalize w1.heap.size=g at *
 clear hb1 hbel2
 have S2:=(hX w2 hB2).c0
 have hx2:∀ wx,Below w2.heap.size w2 wx→wx.cell? ⟨w.heap.size,0,none⟩=some (.int .u32 c):=fun wx h=>(hX wx (aF hB2 hB2.size h)).c0
 have ho2:=fun wx (h:Below w2.heap.size w2 wx)=>bN hown2 h
 have hb2:=fun wx (h:Below w2.heap.size w2 wx)=>aF hB2 hB2.size h
 go_wp2_with fail
 go_region_held3 (fun w'=>w'.cell? ⟨w.heap.size,0,none⟩=some (.int .u32 c)) (first | assumption | exact (hX _ (by with_reducible assumption)).c0 | exact hx2 _ (by repeat (first | with_reducible assumption | with_reducible refine below_drewN ?_ _ | with_reducible refine Below.drew ?_ | with_reducible refine dU ?_ _ | with_reducible exact Below.refl _ _))) (first
  | (refine fO rfl 108 #[.tmp 15] #[27] rfl #[.int .u32 c] _ (by kernel_rfl) (cJ c _ hc) ?_;rintro w3 rfl)
  | (refine ew rfl (.tmp 13) (.tmp 16) rfl wa.heap.size g 14 14 0 14 14 _ rfl (ho2 _ (by repeat (first | with_reducible assumption | with_reducible refine below_drewN ?_ _ | with_reducible refine Below.drew ?_ | with_reducible refine dU ?_ _ | with_reducible exact Below.refl _ _))) _ 4 4 _ rfl (fA _ c hc) (by omega) (by omega) wa (hb2 _ (by repeat (first | with_reducible assumption | with_reducible refine below_drewN ?_ _ | with_reducible refine Below.drew ?_ | with_reducible refine dU ?_ _ | with_reducible exact Below.refl _ _))) ?_;intro w3 H3 hB3))
 clear S2 hx2 ho2 hb2 hown2
 clear hB2
 have hcx:=H3.out.cellAt 4 (by omega)
 rw[az _ _ _ (show 4<14 by omega)]at hcx
 have hfx:=H3.out.frozenAt 4
 have hown4:=(H3.out.stored 4 (.int .u8 ((O:Nat):Int))).1
 rw[d9]at hown4
 have hB4:=hB3.setCell (p:=⟨g,4,none⟩) hs1 (.int .u8 ((O:Nat):Int))
 have x4:=(hX w3 hB3).c1
 have H4:=vK hown4
 clear hown4 H3 hB3
 go_upto_region 7 with fail
 generalize w3.setCell ⟨g,4,none⟩ (.int .u8 (O:Int))=w4 at *
 clear hcx hfx x4
 have hcx:=H4.out.cellAt 5 (by omega)
 rw[az _ _ _ (show 5<14 by omega)]at hcx
 have hfx:=H4.out.frozenAt 5
 have hown5:=(H4.out.stored 5 (.int .u8 ((I:Nat):Int))).1
 rw[d9]at hown5
 have hB5:=hB4.setCell (p:=⟨g,5,none⟩) hs1 (.int .u8 ((I:Nat):Int))
 have x5:=(hX w4 hB4).c2
 have H5:=vK hown5
 clear hown5 H4 hB4
 go_upto_region 8 with fail
 generalize w4.setCell ⟨g,5,none⟩ (.int .u8 (I:Int))=w5 at *
 clear hcx hfx x5
 have S5:=(hX w5 hB5).c3
 have hx5:∀ wx,Below w5.heap.size w5 wx→wx.cell? ⟨w.heap.size,3,none⟩=some (.int .i64 T):=fun wx h=>(hX wx (aF hB5 hB5.size h)).c3
 have ho5:=fun wx (h:Below w5.heap.size w5 wx)=>bN H5.out h
 have hb5:=fun wx (h:Below w5.heap.size w5 wx)=>aF hB5 hB5.size h
 go_wp2_with fail
 go_region_held3 (fun w'=>w'.cell? ⟨w.heap.size,3,none⟩=some (.int .i64 T)) (first | assumption | exact (hX _ (by with_reducible assumption)).c3 | exact hx5 _ (by repeat (first | with_reducible assumption | with_reducible refine below_drewN ?_ _ | with_reducible refine Below.drew ?_ | with_reducible refine dU ?_ _ | with_reducible exact Below.refl _ _))) (first
  | (refine fO rfl 108 #[.tmp 32] #[27] rfl #[.int .u32 (IntKind.u32.wrap (T:Int))] _ (by kernel_rfl) (hbT _) ?_;rintro w3 rfl)
  | (refine ew rfl (.tmp 29) (.tmp 33) rfl wa.heap.size g 14 14 6 8 8 _ rfl (ho5 _ (by repeat (first | with_reducible assumption | with_reducible refine below_drewN ?_ _ | with_reducible refine Below.drew ?_ | with_reducible refine dU ?_ _ | with_reducible exact Below.refl _ _))) _ 4 4 _ rfl (fA _ T hT2) (by omega) (by omega) wa (hb5 _ (by repeat (first | with_reducible assumption | with_reducible refine below_drewN ?_ _ | with_reducible refine Below.drew ?_ | with_reducible refine dU ?_ _ | with_reducible exact Below.refl _ _))) ?_;intro w6 H6 hB6))
 clear S5 hx5 ho5 hb5 H5
 clear hB5
 have S6:=(hX w6 hB6).c4
 have hx6:∀ wx,Below w6.heap.size w6 wx→wx.cell? ⟨w.heap.size,4,none⟩=some (.int .u32 n):=fun wx h=>(hX wx (aF hB6 hB6.size h)).c4
 have ho6:=fun wx (h:Below w6.heap.size w6 wx)=>bN H6.out h
 have hb6:=fun wx (h:Below w6.heap.size w6 wx)=>aF hB6 hB6.size h
 go_wp2_with fail
 go_region_held3 (fun w'=>w'.cell? ⟨w.heap.size,4,none⟩=some (.int .u32 n)) (first | assumption | exact (hX _ (by with_reducible assumption)).c4 | exact hx6 _ (by repeat (first | with_reducible assumption | with_reducible refine below_drewN ?_ _ | with_reducible refine Below.drew ?_ | with_reducible refine dU ?_ _ | with_reducible exact Below.refl _ _))) (first
  | (refine fO rfl 108 #[.tmp 38] #[27] rfl #[.int .u32 n] _ (by kernel_rfl) (cJ n _ hn) ?_;rintro w3 rfl)
  | (refine ew rfl (.tmp 36) (.tmp 39) rfl wa.heap.size g 14 14 10 4 4 _ rfl (ho6 _ (by repeat (first | with_reducible assumption | with_reducible refine below_drewN ?_ _ | with_reducible refine Below.drew ?_ | with_reducible refine dU ?_ _ | with_reducible exact Below.refl _ _))) _ 4 4 _ rfl (fA _ n hn) (by omega) (by omega) wa (hb6 _ (by repeat (first | with_reducible assumption | with_reducible refine below_drewN ?_ _ | with_reducible refine Below.drew ?_ | with_reducible refine dU ?_ _ | with_reducible exact Below.refl _ _))) ?_;intro w7 H7 hB7))
 clear S6 hx6 ho6 hb6 H6
 clear hB6
 have HB:Hid (_):=And.intro (H7.out) (hA.trans (hB7.mono (Nat.le_of_lt hAs)))
 clear hA hB7
 go_wp2_with fail
 go_ret2
 refine⟨g,rfl,by omega,?_,HB.out.2⟩
 have h:=ak HB.out.1 (Nat.le_of_lt hAs)
 rw[cn _ (pe c O I T n) 14 ?_]at h
 ·exact h
 ·intro k hk
  unfold pe
  by_cases h1:k<4
  ·rw[if_neg (by omega),if_neg (by omega),if_neg (by omega),if_neg (by omega),if_pos (by omega),if_pos h1,Nat.sub_zero]
  ·rw[if_neg h1]
   by_cases h2:k=4
   ·rw[if_neg (by omega),if_neg (by omega),if_neg (by omega),if_pos h2,if_pos h2]
   ·rw[if_neg h2]
    by_cases h3:k=5
    ·rw[if_neg (by omega),if_neg (by omega),if_pos h3,if_neg h2,if_pos h3]
    ·rw[if_neg h3]
     by_cases h4:k<10
     ·rw[if_neg (by omega),if_pos (by omega),if_neg h2,if_neg h3,if_pos h4]
     ·rw[if_pos (by omega),if_neg h2,if_neg h3,if_neg h4]
end Go.Proofs.YtdpahjfekoikiaaGreat
