/- Part 10 of the texts on which the proofs of layer 13 rest: contracts of Go functions. -/
import Derived.Deep.RegionLaw
import Derived.Deep.DeepCutAuto
import Derived.Test.YthbogkaoidbpgaaGreatProg
import Derived.WalkKit
import Derived.ProofKit
import Derived.Lib.SmallJoins
import Derived.Test.YthbogkaoidbpgaaGreatPkB01
import Derived.Test.YthbogkaoidbpgaaGreatPkB05
import Derived.Test.YthbogkaoidbpgaaGreatPkB06
import Derived.Test.YthbogkaoidbpgaaGreatPkB08
namespace Go.Proofs.YthbogkaoidbpgaaGreat
set_option maxRecDepth 100000
open Go.RowKit
theorem hostK_true {k:Int} (h:1≤k∧k≤5):hostK k=true:=decide_eq_true h
theorem hostK_false {k:Int} (h:¬ (1≤k∧k≤5)):hostK k=false:=decide_eq_false h
theorem devK_true {k:Int} (h:17≤k∧k≤22):devK k=true:=decide_eq_true h
theorem devK_false {k:Int} (h:¬ (17≤k∧k≤22)):devK k=false:=decide_eq_false h
set_option maxHeartbeats 400000 in
theorem fromHost_any (k:Int) (w:World):Calls Tryz.prog 88 #[.int .i64 k] w fun e w'=>e=.returned (.bool (hostK k))∧w'=w:=by
 by_cases h1:1≤k
 ·by_cases h2:k≤5
  ·rw[hostK_true ⟨h1,h2⟩]
   go_enter Tryz.func88,Tryz.ntmps88
   go_wp2
   go_ret
   exact⟨rfl,rfl⟩
  ·rw[hostK_false (by omega)]
   go_enter Tryz.func88,Tryz.ntmps88
   go_wp2
   go_ret
   exact⟨rfl,rfl⟩
 ·rw[hostK_false (by omega)]
  go_enter Tryz.func88,Tryz.ntmps88
  go_wp2
  go_ret
  exact⟨rfl,rfl⟩
set_option maxHeartbeats 400000 in
theorem fromDevice_any (k:Int) (w:World):Calls Tryz.prog 122 #[.int .i64 k] w fun e w'=>e=.returned (.bool (devK k))∧w'=w:=by
 by_cases h1:17≤k
 ·by_cases h2:k≤22
  ·rw[devK_true ⟨h1,h2⟩]
   go_enter Tryz.func122,Tryz.ntmps122
   go_wp2
   go_ret
   exact⟨rfl,rfl⟩
  ·rw[devK_false (by omega)]
   go_enter Tryz.func122,Tryz.ntmps122
   go_wp2
   go_ret
   exact⟨rfl,rfl⟩
 ·rw[devK_false (by omega)]
  go_enter Tryz.func122,Tryz.ntmps122
  go_wp2
  go_ret
  exact⟨rfl,rfl⟩
set_option maxHeartbeats 400000 in
theorem refHost_any (k:Int) (w:World):Calls Tryz.prog 51 #[.int .i64 k] w fun e w'=>e=.returned (.bool (hostK k))∧w'=w:=by
 by_cases h1:1≤k
 ·by_cases h2:k≤5
  ·rw[hostK_true ⟨h1,h2⟩]
   go_enter Tryz.func51,Tryz.ntmps51
   go_wp2
   go_ret
   exact⟨rfl,rfl⟩
  ·rw[hostK_false (by omega)]
   go_enter Tryz.func51,Tryz.ntmps51
   go_wp2
   go_ret
   exact⟨rfl,rfl⟩
 ·rw[hostK_false (by omega)]
  go_enter Tryz.func51,Tryz.ntmps51
  go_wp2
  go_ret
  exact⟨rfl,rfl⟩
set_option maxHeartbeats 400000 in
theorem refDevice_any (k:Int) (w:World):Calls Tryz.prog 152 #[.int .i64 k] w fun e w'=>e=.returned (.bool (devK k))∧w'=w:=by
 by_cases h1:17≤k
 ·by_cases h2:k≤22
  ·rw[devK_true ⟨h1,h2⟩]
   go_enter Tryz.func152,Tryz.ntmps152
   go_wp2
   go_ret
   exact⟨rfl,rfl⟩
  ·rw[devK_false (by omega)]
   go_enter Tryz.func152,Tryz.ntmps152
   go_wp2
   go_ret
   exact⟨rfl,rfl⟩
 ·rw[devK_false (by omega)]
  go_enter Tryz.func152,Tryz.ntmps152
  go_wp2
  go_ret
  exact⟨rfl,rfl⟩
theorem cont1 {k:Int} (h:k=1∨k=2∨k=17):cont k=1:=if_pos h
theorem cont2 {k:Int} (h:k=4∨k=20):cont k=2:=by unfold cont;rw[if_neg (by omega),if_pos h]
theorem cont0 {k:Int} (h:¬ (k=1∨k=2∨k=17)) (h2:¬ (k=4∨k=20)):cont k=0:=by unfold cont;rw[if_neg h,if_neg h2]
theorem cont_cases (k:Int):cont k=0∨cont k=1∨cont k=2:=by
 unfold cont
 by_cases h:k=1∨k=2∨k=17
 ·rw[if_pos h];omega
 ·rw[if_neg h]
  by_cases h2:k=4∨k=20
  ·rw[if_pos h2];omega
  ·rw[if_neg h2];omega
set_option maxHeartbeats 400000 in
theorem contentOf_any (k:Int) (w:World):Calls Tryz.prog 205 #[.int .i64 k] w fun e w'=>e=.returned (.int .i64 (cont k:Nat))∧w'=w:=by
 by_cases h1:k=1
 ·subst h1
  go_enter Tryz.func205,Tryz.ntmps205
  go_wp2
  go_ret
  exact⟨rfl,rfl⟩
 ·by_cases h2:k=2
  ·subst h2
   go_enter Tryz.func205,Tryz.ntmps205
   go_wp2
   go_ret
   exact⟨rfl,rfl⟩
  ·by_cases h3:k=17
   ·subst h3
    go_enter Tryz.func205,Tryz.ntmps205
    go_wp2
    go_ret
    exact⟨rfl,rfl⟩
   ·by_cases h4:k=4
    ·subst h4
     go_enter Tryz.func205,Tryz.ntmps205
     go_wp2
     go_ret
     exact⟨rfl,rfl⟩
    ·by_cases h5:k=20
     ·subst h5
      go_enter Tryz.func205,Tryz.ntmps205
      go_wp2
      go_ret
      exact⟨rfl,rfl⟩
     ·rw[cont0 (by omega) (by omega)]
      go_enter Tryz.func205,Tryz.ntmps205
      go_wp2
      go_ret
      exact⟨rfl,rfl⟩
theorem mData0 {k n:Int} (h:cont k=0):mData k n=decide (n=0):=by unfold mData;rw[if_neg (by omega),if_neg (by omega)]
theorem mData1 {k n:Int} (h:cont k=1):mData k n=decide (n=4):=by unfold mData;rw[if_pos h]
theorem mData2 {k n:Int} (h:cont k=2):mData k n=decide (1≤n∧n≤8):=by unfold mData;rw[if_neg (by omega),if_pos h]
set_option maxHeartbeats 400000 in
theorem mayHaveData_any (k n:Int) (w:World):Calls Tryz.prog 177 #[.int .i64 k,.int .i64 n] w fun e w'=>e=.returned (.bool (mData k n))∧w'=w:=by
 have hC:=contentOf_any k w
 rcases cont_cases k with h | h | h
 ·rw[mData0 h]
  rw[h]at hC
  clear h
  by_cases hn:n=0
  ·rw[decide_eq_true hn]
   subst hn
   go_enter Tryz.func177,Tryz.ntmps177
   go_wp2_with (go_at_call 205;refine hC.mono ?_;rintro e w' ⟨rfl,rfl⟩)
   go_ret
   exact⟨rfl,rfl⟩
  ·rw[decide_eq_false hn]
   have hq:(n == 0)=false:=by simpa using hn
   go_enter Tryz.func177,Tryz.ntmps177
   go_wp2_with (go_at_call 205;refine hC.mono ?_;rintro e w' ⟨rfl,rfl⟩)
   go_ret
   exact⟨rfl,rfl⟩
 ·rw[mData1 h]
  rw[h]at hC
  clear h
  by_cases hn:n=4
  ·rw[decide_eq_true hn]
   subst hn
   go_enter Tryz.func177,Tryz.ntmps177
   go_wp2_with (go_at_call 205;refine hC.mono ?_;rintro e w' ⟨rfl,rfl⟩)
   go_ret
   exact⟨rfl,rfl⟩
  ·rw[decide_eq_false hn]
   have hq:(n == 4)=false:=by simpa using hn
   go_enter Tryz.func177,Tryz.ntmps177
   go_wp2_with (go_at_call 205;refine hC.mono ?_;rintro e w' ⟨rfl,rfl⟩)
   go_ret
   exact⟨rfl,rfl⟩
 ·rw[mData2 h]
  rw[h]at hC
  clear h
  by_cases hn:1≤n
  ·by_cases hn2:n≤8
   ·rw[decide_eq_true ⟨hn,hn2⟩]
    have hq:decide (n≤8)=true:=decide_eq_true hn2
    go_enter Tryz.func177,Tryz.ntmps177
    go_wp2_with (go_at_call 205;refine hC.mono ?_;rintro e w' ⟨rfl,rfl⟩)
    go_ret
    exact⟨rfl,rfl⟩
   ·rw[decide_eq_false (by omega)]
    have hq:decide (n≤8)=false:=decide_eq_false hn2
    go_enter Tryz.func177,Tryz.ntmps177
    go_wp2_with (go_at_call 205;refine hC.mono ?_;rintro e w' ⟨rfl,rfl⟩)
    go_ret
    exact⟨rfl,rfl⟩
  ·rw[decide_eq_false (by omega)]
   have hq:decide (1≤n)=false:=decide_eq_false hn
   go_enter Tryz.func177,Tryz.ntmps177
   go_wp2_with (go_at_call 205;refine hC.mono ?_;rintro e w' ⟨rfl,rfl⟩)
   go_ret
   exact⟨rfl,rfl⟩
set_option maxHeartbeats 400000 in
theorem mayHaveSession_any (k:Int) (s:Nat) (w:World):Calls Tryz.prog 178 #[.int .i64 k,.int .u32 s] w fun e w'=>e=.returned (.bool (mSess k s))∧w'=w:=by
 by_cases h1:k=1
 ·subst h1
  rw[show mSess 1 s=decide ((s:Int)=0) from rfl]
  by_cases hs:(s:Int)=0
  ·rw[decide_eq_true hs,hs]
   go_enter Tryz.func178,Tryz.ntmps178
   go_wp2
   go_ret
   exact⟨rfl,rfl⟩
  ·rw[decide_eq_false hs]
   have hq:((s:Int) == 0)=false:=by simpa using hs
   go_enter Tryz.func178,Tryz.ntmps178
   go_wp2
   go_ret
   exact⟨rfl,rfl⟩
 ·by_cases h2:k=22
  ·subst h2
   go_enter Tryz.func178,Tryz.ntmps178
   go_wp2
   go_ret
   exact⟨rfl,rfl⟩
  ·rw[show mSess k s=decide ((s:Int)≠0) by unfold mSess;rw[if_neg h1,if_neg h2]]
   by_cases hs:(s:Int)=0
   ·rw[decide_eq_false (fun e=>e hs),hs]
    go_enter Tryz.func178,Tryz.ntmps178
    go_wp2
    go_ret
    exact⟨rfl,rfl⟩
   ·rw[decide_eq_true hs]
    have hq:((s:Int) != 0)=true:=by simpa using hs
    go_enter Tryz.func178,Tryz.ntmps178
    go_wp2
    go_ret
    exact⟨rfl,rfl⟩
set_option maxHeartbeats 400000 in
theorem hasNumber_any (k:Int) (w:World):Calls Tryz.prog 179 #[.int .i64 k] w fun e w'=>e=.returned (.bool (hNum k))∧w'=w:=by
 have hC:=contentOf_any k w
 by_cases h2:cont k=2
 ·rw[show hNum k=true from decide_eq_true (Or.inl h2)]
  rw[h2]at hC
  clear h2
  go_enter Tryz.func179,Tryz.ntmps179
  go_wp2_with (go_at_call 205;refine hC.mono ?_;rintro e w' ⟨rfl,rfl⟩)
  go_ret
  exact⟨rfl,rfl⟩
 ·have hc2:((cont k:Int) == 2)=false:=by simp;omega
  by_cases h5:k=5
  ·subst h5
   rw[show hNum 5=true from rfl]
   go_enter Tryz.func179,Tryz.ntmps179
   go_wp2_with (go_at_call 205;refine hC.mono ?_;rintro e w' ⟨rfl,rfl⟩)
   go_ret
   exact⟨rfl,rfl⟩
  ·by_cases h21:k=21
   ·subst h21
    rw[show hNum 21=true from rfl]
    go_enter Tryz.func179,Tryz.ntmps179
    go_wp2_with (go_at_call 205;refine hC.mono ?_;rintro e w' ⟨rfl,rfl⟩)
    go_ret
    exact⟨rfl,rfl⟩
   ·rw[show hNum k=false from decide_eq_false (by omega)]
    have hq5:(k == 5)=false:=by simpa using h5
    have hq21:(k == 21)=false:=by simpa using h21
    generalize cont k=c at *
    go_enter Tryz.func179,Tryz.ntmps179
    go_wp2_with (go_at_call 205;refine hC.mono ?_;rintro e w' ⟨rfl,rfl⟩)
    go_ret
    exact⟨rfl,rfl⟩
set_option maxHeartbeats 400000 in
theorem mostFlags_any (k:Int) (w:World):Calls Tryz.prog 180 #[.int .i64 k] w fun e w'=>e=.returned (.int .i64 (mFl k))∧w'=w:=by
 have hC:=contentOf_any k w
 by_cases h2:cont k=2
 ·rw[show mFl k=15 from if_pos h2]
  rw[h2]at hC
  clear h2
  go_enter Tryz.func180,Tryz.ntmps180
  go_wp2_with (go_at_call 205;refine hC.mono ?_;rintro e w' ⟨rfl,rfl⟩)
  go_ret
  exact⟨rfl,rfl⟩
 ·have hc2:((cont k:Int) == 2)=false:=by simp;omega
  rw[show mFl k=0 from if_neg h2]
  generalize cont k=c at *
  go_enter Tryz.func180,Tryz.ntmps180
  go_wp2_with (go_at_call 205;refine hC.mono ?_;rintro e w' ⟨rfl,rfl⟩)
  go_ret
  exact⟨rfl,rfl⟩
set_option maxHeartbeats 400000 in
theorem refData_any (k n:Int) (w:World):Calls Tryz.prog 153 #[.int .i64 k,.int .i64 n] w fun e w'=>e=.returned (.bool (mData k n))∧w'=w:=by
 by_cases h:k=1∨k=2∨k=17
 ·rw[mData1 (cont1 h)]
  by_cases hn:n=4
  ·rw[decide_eq_true hn]
   subst hn
   rcases h with rfl | rfl | rfl
   all_goals
    go_enter Tryz.func153,Tryz.ntmps153
    go_wp2
    go_ret
    exact⟨rfl,rfl⟩
  ·rw[decide_eq_false hn]
   have hq:(n == 4)=false:=by simpa using hn
   rcases h with rfl | rfl | rfl
   all_goals
    go_enter Tryz.func153,Tryz.ntmps153
    go_wp2
    go_ret
    exact⟨rfl,rfl⟩
 ·by_cases h2:k=4∨k=20
  ·rw[mData2 (cont2 h2)]
   clear h
   by_cases hn:1≤n
   ·by_cases hn2:n≤8
    ·rw[decide_eq_true ⟨hn,hn2⟩]
     have hq:decide (n≤8)=true:=decide_eq_true hn2
     rcases h2 with rfl | rfl
     all_goals
      go_enter Tryz.func153,Tryz.ntmps153
      go_wp2
      go_ret
      exact⟨rfl,rfl⟩
    ·rw[decide_eq_false (by omega)]
     have hq:decide (n≤8)=false:=decide_eq_false hn2
     rcases h2 with rfl | rfl
     all_goals
      go_enter Tryz.func153,Tryz.ntmps153
      go_wp2
      go_ret
      exact⟨rfl,rfl⟩
   ·rw[decide_eq_false (by omega)]
    have hq:decide (1≤n)=false:=decide_eq_false hn
    rcases h2 with rfl | rfl
    all_goals
     go_enter Tryz.func153,Tryz.ntmps153
     go_wp2
     go_ret
     exact⟨rfl,rfl⟩
  ·rw[mData0 (cont0 h h2)]
   have e1:¬ k=1:=by omega
   have e2:¬ k=2:=by omega
   have e3:¬ k=17:=by omega
   have e4:¬ k=4:=by omega
   have e5:¬ k=20:=by omega
   clear h h2
   by_cases hn:n=0
   ·rw[decide_eq_true hn]
    subst hn
    go_enter Tryz.func153,Tryz.ntmps153
    go_wp2
    go_ret
    exact⟨rfl,rfl⟩
   ·rw[decide_eq_false hn]
    have hq:(n == 0)=false:=by simpa using hn
    go_enter Tryz.func153,Tryz.ntmps153
    go_wp2
    go_ret
    exact⟨rfl,rfl⟩
set_option maxRecDepth 100000 in
set_option maxHeartbeats 2000000 in
theorem fault_any (k:Int) (c s n:Nat) (f:Int) (a:Option Addr) (len cap:Nat) (said:Int) (w:World) :
  Calls Tryz.prog 121 #[.agg #[.int .i64 k,.int .u32 c,.int .u32 s,.int .u32 n,.int .i64 f,.slice a len cap],.int .i64 said] w fun e w'=>e=.returned (.int .i64 (LW k c s n f len said))∧Below w.heap.size w w':=by
 have hH:=fromHost_any k
 have hD:=fromDevice_any k
 have hM:=mayHaveData_any k said
 have hS:=mayHaveSession_any k s
 have hN:=hasNumber_any k
 have hF:=mostFlags_any k
 unfold LW
 generalize hostK k=A at *
 generalize devK k=B at *
 generalize mData k said=D at *
 generalize mSess k s=S at *
 generalize hNum k=N at *
 generalize mFl k=M at *
 have hb:Below w.heap.size w (w.alloc (.cells #[.int .i64 k,.int .u32 c,.int .u32 s,.int .u32 n,.int .i64 f,.slice a len cap] 107)):=(Below.refl _ _).alloc (Nat.le_refl _) _
 by_cases h0:A=false∧B=false
 ·obtain⟨rfl,rfl⟩:=h0
  go_enter Tryz.func121,Tryz.ntmps121
  go_wp2_with (first | (go_at_call 88;refine (hH _).mono ?_;rintro e w' ⟨rfl,rfl⟩) | (go_at_call 122;refine (hD _).mono ?_;rintro e w' ⟨rfl,rfl⟩))
  go_ret
  exact⟨rfl,hb⟩
 ·rw[if_neg h0]
  have h1:A=true∨(A=false∧B=true):=by
   cases A
   ·cases B
    ·exact absurd ⟨rfl,rfl⟩ h0
    ·exact Or.inr ⟨rfl,rfl⟩
   ·exact Or.inl rfl
  clear h0
  by_cases hc:(c:Int)=0
  ·rw[if_pos hc,hc]
   rw[hc]at hb
   rcases h1 with rfl | ⟨rfl,rfl⟩
   all_goals
    go_enter Tryz.func121,Tryz.ntmps121
    go_wp2_with (first | (go_at_call 88;refine (hH _).mono ?_;rintro e w' ⟨rfl,rfl⟩) | (go_at_call 122;refine (hD _).mono ?_;rintro e w' ⟨rfl,rfl⟩))
    go_ret
    exact⟨rfl,hb⟩
  ·rw[if_neg hc]
   have qc:((c:Int) == 0)=false:=by simpa using hc
   by_cases hs:said=(len:Int)
   ·cases D
    ·rw[if_pos (Or.inr rfl),hs]
     rw[hs]at hM
     rcases h1 with rfl | ⟨rfl,rfl⟩
     all_goals
      go_enter Tryz.func121,Tryz.ntmps121
      go_wp2_with (first | (go_at_call 88;refine (hH _).mono ?_;rintro e w' ⟨rfl,rfl⟩) | (go_at_call 122;refine (hD _).mono ?_;rintro e w' ⟨rfl,rfl⟩) | (go_at_call 177;refine (hM _).mono ?_;rintro e w' ⟨rfl,rfl⟩))
      go_ret
      exact⟨rfl,hb⟩
    ·rw[if_neg (by intro h;rcases h with h | h;exact h hs;cases h),hs]
     rw[hs]at hM
     cases S
     ·rw[if_pos rfl]
      rcases h1 with rfl | ⟨rfl,rfl⟩
      all_goals
       go_enter Tryz.func121,Tryz.ntmps121
       go_wp2_with (first | (go_at_call 88;refine (hH _).mono ?_;rintro e w' ⟨rfl,rfl⟩) | (go_at_call 122;refine (hD _).mono ?_;rintro e w' ⟨rfl,rfl⟩) | (go_at_call 177;refine (hM _).mono ?_;rintro e w' ⟨rfl,rfl⟩) | (go_at_call 178;refine (hS _).mono ?_;rintro e w' ⟨rfl,rfl⟩))
       go_ret
       exact⟨rfl,hb⟩
     ·rw[if_neg (by simp)]
      obtain⟨Z,hZ⟩:∃ Z,Z=decide ((n:Int)≠0):=⟨_,rfl⟩
      rw[← hZ]
      have qz:((n:Int) != 0)=Z:=by rw[hZ,Bool.eq_iff_iff];simp
      clear hZ hs hc
      by_cases hn:N≠Z
      ·rw[if_pos hn]
       have qn:(N == Z)=false:=by simpa using hn
       rcases h1 with rfl | ⟨rfl,rfl⟩
       all_goals
        go_enter Tryz.func121,Tryz.ntmps121
        go_wp2_with (first | (go_at_call 88;refine (hH _).mono ?_;rintro e w' ⟨rfl,rfl⟩) | (go_at_call 122;refine (hD _).mono ?_;rintro e w' ⟨rfl,rfl⟩) | (go_at_call 177;refine (hM _).mono ?_;rintro e w' ⟨rfl,rfl⟩) | (go_at_call 178;refine (hS _).mono ?_;rintro e w' ⟨rfl,rfl⟩))
        go_quiet (first | (go_at_call 179;refine Calls.quiet_of_same (hN _)))
        go_wp2_with fail
        go_ret
        exact⟨rfl,below_drewN hb _⟩
      ·rw[if_neg hn]
       have qn:(N == Z)=true:=by simpa using hn
       clear hn
       by_cases hf:f<0
       ·rw[if_pos (Or.inl hf)]
        have qf:decide (f<0)=true:=decide_eq_true hf
        rcases h1 with rfl | ⟨rfl,rfl⟩
        all_goals
         go_enter Tryz.func121,Tryz.ntmps121
         go_wp2_with (first | (go_at_call 88;refine (hH _).mono ?_;rintro e w' ⟨rfl,rfl⟩) | (go_at_call 122;refine (hD _).mono ?_;rintro e w' ⟨rfl,rfl⟩) | (go_at_call 177;refine (hM _).mono ?_;rintro e w' ⟨rfl,rfl⟩) | (go_at_call 178;refine (hS _).mono ?_;rintro e w' ⟨rfl,rfl⟩))
         go_quiet (first | (go_at_call 179;refine Calls.quiet_of_same (hN _)))
         go_wp2_with fail
         go_quiet (first | (go_at_call 180;refine (hF _).mono ?_;rintro e w2 ⟨rfl,rfl⟩;exact⟨rfl,_,rfl⟩))
         go_wp2_with fail
         go_ret
         exact⟨rfl,by repeat (first | exact hb | refine below_drewN ?_ _)⟩
       ·have qf:decide (f<0)=false:=decide_eq_false hf
        by_cases hm:M<f
        ·rw[if_pos (Or.inr hm)]
         have qm:decide (M<f)=true:=decide_eq_true hm
         rcases h1 with rfl | ⟨rfl,rfl⟩
         all_goals
          go_enter Tryz.func121,Tryz.ntmps121
          go_wp2_with (first | (go_at_call 88;refine (hH _).mono ?_;rintro e w' ⟨rfl,rfl⟩) | (go_at_call 122;refine (hD _).mono ?_;rintro e w' ⟨rfl,rfl⟩) | (go_at_call 177;refine (hM _).mono ?_;rintro e w' ⟨rfl,rfl⟩) | (go_at_call 178;refine (hS _).mono ?_;rintro e w' ⟨rfl,rfl⟩))
          go_quiet (first | (go_at_call 179;refine Calls.quiet_of_same (hN _)))
          go_wp2_with fail
          go_quiet (first | (go_at_call 180;refine (hF _).mono ?_;rintro e w2 ⟨rfl,rfl⟩;exact⟨rfl,_,rfl⟩))
          go_wp2_with fail
          go_ret
          exact⟨rfl,by repeat (first | exact hb | refine below_drewN ?_ _)⟩
        ·rw[if_neg (by omega)]
         have qm:decide (M<f)=false:=decide_eq_false hm
         rcases h1 with rfl | ⟨rfl,rfl⟩
         all_goals
          go_enter Tryz.func121,Tryz.ntmps121
          go_wp2_with (first | (go_at_call 88;refine (hH _).mono ?_;rintro e w' ⟨rfl,rfl⟩) | (go_at_call 122;refine (hD _).mono ?_;rintro e w' ⟨rfl,rfl⟩) | (go_at_call 177;refine (hM _).mono ?_;rintro e w' ⟨rfl,rfl⟩) | (go_at_call 178;refine (hS _).mono ?_;rintro e w' ⟨rfl,rfl⟩))
          go_quiet (first | (go_at_call 179;refine Calls.quiet_of_same (hN _)))
          go_wp2_with fail
          go_quiet (first | (go_at_call 180;refine (hF _).mono ?_;rintro e w2 ⟨rfl,rfl⟩;exact⟨rfl,_,rfl⟩))
          go_wp2_with fail
          go_ret
          exact⟨rfl,by repeat (first | exact hb | refine below_drewN ?_ _)⟩
   ·rw[if_pos (Or.inl hs)]
    have qs:(said != (len:Int))=true:=by simpa using hs
    rcases h1 with rfl | ⟨rfl,rfl⟩
    all_goals
     go_enter Tryz.func121,Tryz.ntmps121
     go_wp2_with (first | (go_at_call 88;refine (hH _).mono ?_;rintro e w' ⟨rfl,rfl⟩) | (go_at_call 122;refine (hD _).mono ?_;rintro e w' ⟨rfl,rfl⟩))
     go_ret
     exact⟨rfl,hb⟩
set_option maxRecDepth 100000 in
set_option maxHeartbeats 1000000 in
theorem lawful_any (k:Int) (c s n:Nat) (f:Int) (a:Option Addr) (len cap:Nat) (w:World) :
  Calls Tryz.prog 116 #[.agg #[.int .i64 k,.int .u32 c,.int .u32 s,.int .u32 n,.int .i64 f,.slice a len cap]] w fun e w'=>e=.returned (.int .i64 (LW k c s n f len len))∧Below w.heap.size w w':=by
 have hb:Below w.heap.size w (w.alloc (.cells #[.int .i64 k,.int .u32 c,.int .u32 s,.int .u32 n,.int .i64 f,.slice a len cap] 107)):=(Below.refl _ _).alloc (Nat.le_refl _) _
 have hF:=fault_any k c s n f a len cap len (w.alloc (.cells #[.int .i64 k,.int .u32 c,.int .u32 s,.int .u32 n,.int .i64 f,.slice a len cap] 107))
 generalize LW k c s n f len len=E at *
 go_enter Tryz.func116,Tryz.ntmps116
 go_wp2_with fail
 refine hF.mono ?_
 rintro e w1 ⟨rfl,hb1⟩
 have hb2:=below_all hb hb.size hb1
 clear hb hF hb1
 go_wp2_with fail
 go_ret
 exact⟨rfl,hb2⟩
set_option maxRecDepth 100000 in
set_option maxHeartbeats 1000000 in
theorem putWord_own (B g N cap off L C x:Nat) (F:Nat→Nat) (w0 w:World) (hown:w.ownsRow B 5 1 (.slice (some ⟨g,0,none⟩) N cap) N (CB F N)) (hbel:Below B w0 w) (hBg:B≤g) (ho:off+4≤N) (hL:4≤L) :
  Calls Tryz.prog 117 #[.slice (some ⟨g,off,none⟩) L C,.int .u32 x] w fun e w'=>e=.returned (.tuple #[]) ∧
   Hid (w'.ownsRow B 5 1 (.slice (some ⟨g,0,none⟩) N cap) N (CB (fun i=>if off≤i∧i<off+4 then PM.w4 x (i-off) else F i) N)∧Below B w0 w'):=by
 have e0:(x:Int) / 16777216 % 256=((PM.w4 x 0:Nat):Int):=by show _=((x / 16777216 % 256:Nat):Int);omega
 have e1:(x:Int) / 65536 % 256=((PM.w4 x 1:Nat):Int):=by show _=((x / 65536 % 256:Nat):Int);omega
 have e2:(x:Int) / 256 % 256=((PM.w4 x 2:Nat):Int):=by show _=((x / 256 % 256:Nat):Int);omega
 have e3:(x:Int) % 256=((PM.w4 x 3:Nat):Int):=by show _=((x % 256:Nat):Int);omega
 go_enter Tryz.func117,Tryz.ntmps117
 go_wp2_with fail
 go_loopw [4,5] (fun _ c wr=>∃ i:Nat,i≤4∧c=.int .i64 i∧wr.ownsRow B 5 1 (.slice (some ⟨g,0,none⟩) N cap) N (CB (fun j=>if off≤j∧j<off+i then PM.w4 x (j-off) else F j) N)∧Below B w0 wr) (fun _ c _=>4 - (intOf c).toNat)
 case atStart=>exact⟨0,by omega,rfl,by rw[CB_congr _ F N (fun i _=>if_neg (by omega))];exact hown,hbel⟩
 case round=>
  clear hown hbel
  obtain⟨i,hi,rfl,hown,hbel⟩:=hrel
  by_cases hlt:i<4
  ·have hcx:=hown.cellAt (off+i) (by omega)
   rw[CB_get _ _ _ (show off+i<N by omega)]at hcx
   have hfx:=hown.frozenAt (off+i)
   have hown3:=(hown.stored (off+i) (.int .u8 ((PM.w4 x i:Nat):Int))).1
   rw[CB_set,CB_congr _ (fun j=>if off≤j∧j<off + (i+1) then PM.w4 x (j-off) else F j) N (fun j _=>by
    by_cases e:j=off+i
    ·rw[if_pos e,if_pos (by omega),e,show off+i-off=i by omega]
    ·rw[if_neg e]
     by_cases e2:off≤j∧j<off+i
     ·rw[if_pos e2,if_pos (by omega)]
     ·rw[if_neg e2,if_neg (by omega)])]at hown3
   have hbel3:=hbel.setCell (p:=⟨g,off+i,none⟩) hBg (.int .u8 ((PM.w4 x i:Nat):Int))
   have H3:Hid (_):=And.intro hown3 hbel3
   clear hown hbel hown3 hbel3
   have hLI:(i:Int) < (L:Int):=by omega
   have hv:(x:Int) / 2 ^ (24-8*i) % 256=((PM.w4 x i:Nat):Int):=by
    rcases (show i=0∨i=1∨i=2∨i=3 by omega) with rfl | rfl | rfl | rfl
    ·exact e0
    ·exact e1
    ·exact e2
    ·simpa using e3
   clear e0 e1 e2 e3
   generalize PM.w4 x i=y at *
   go_wp2_with fail
   go_roundw
   case rel=>exact⟨i+1,by omega,by go_num,H3.out.1,H3.out.2⟩
   case measure=>simp[intOf] <;> omega
  ·obtain rfl:i=4:=by omega
   have H3:Hid (_):=And.intro hown hbel
   clear hown hbel
   go_wp2_with fail
   go_end0
   exact⟨rfl,H3.out.1,H3.out.2⟩
theorem step_copy8 {ops:Array Oper} {o:Oper} {a:Act} {w:World} {K:Act→World→Prop} {Q:Exit→Act→World→Prop} {E:Prop} (hgd:o.guard=none) (d s:Operand)
  (ho:o.op=.call { callee:=.builtin .copy,args:=#[d,s],argTypes:=#[50,50] }) (B g N cap off m c C M:Nat) (dp ao:Option Addr) (f bs:Nat→Nat)
  (hd:a.eval d=.slice dp M C) (hs:a.eval s=.slice ao m c) (hM:M=m) (hdp:0<m→dp=some ⟨g,off,none⟩) (hN:off+m≤N)
  (hown:w.ownsRow B 5 1 (.slice (some ⟨g,0,none⟩) N cap) N (CB f N)) (hrow:Row8 w ao m c bs) (w0:World) (hb:Below B w0 w)
  (h:∀ w',Hid (w'.ownsRow B 5 1 (.slice (some ⟨g,0,none⟩) N cap) N (CB (fun i=>if off≤i∧i<off+m then bs (i-off) else f i) N)∧Below B w0 w')→K (a.put o.dst (goInt m)) w') :
  if Region.wanted o (yielded ops a.tmps)=true then Oper.wp Tryz.prog o a w K Q else E:=by
 subst hM
 rcases hown.2 with ⟨h',_⟩ | ⟨g',cap',cur,h',hbg,hg,hnc,hcm,hcs,htake⟩
 ·simp at h'
 ·simp only[Value.slice.injEq,Option.some.injEq,Addr.mk.injEq,and_true,true_and]at h'
  obtain⟨rfl,rfl⟩:=h'
  refine step_copy_splice hgd d s _ _ ho 5 Tryz.underlying50 size_u8 dp ao M C M c hd hs g off cur.toList 5 (by simpa using hg) (CB bs M) (by rw[CB_length];exact (Nat.min_self M).symm) ?_ (by rw[CB_length,Array.length_toList,hcs];omega) (CB_one _ _) B w0 hb hbg ?_
  ·intro hpos
   rw[CB_length]at hpos
   refine⟨hdp hpos,?_⟩
   cases ao with
   | none=>have:=(hrow.nil rfl).1;omega
   | some ad=>
    refine⟨ad,rfl,fun j v hj=>?_⟩
    by_cases hlt:j<M
    ·rw[CB_get _ _ _ hlt]at hj
     cases hj
     exact hrow.src ad rfl j hlt
    ·rw[CB_none _ _ _ (by omega)]at hj;cases hj
  ·intro w' hg' hb'
   rw[CB_length]
   refine h w' ⟨⟨by rw[CB_length];omega,.inr ⟨g,cap,_,rfl,hbg,hg'.out,hnc,hcm,?_,?_⟩⟩,hb'⟩
   ·rw[List.size_toArray,length_splice _ _ _ (by rw[CB_length,Array.length_toList,hcs];omega),Array.length_toList,hcs]
   ·rw[Nat.mul_one]at htake ⊢
    simp only[splice]
    apply List.ext_getElem?
    intro i
    rw[List.getElem?_take]
    by_cases hi:i<N
    ·rw[if_pos hi,CB_get _ N i hi]
     have hcur:cur.toList[i]?=some (.int .u8 (f i)):=by
      have:=congrArg (·[i]?) htake
      simp only[List.getElem?_take,if_pos hi,CB_get f N i hi]at this
      exact this
     have hlo:(List.take off cur.toList).length=off:=by rw[List.length_take,Array.length_toList,hcs];omega
     by_cases h1:i<off
     ·rw[if_neg (by omega),List.getElem?_append_left (by omega),List.getElem?_take,if_pos h1,hcur]
     ·by_cases h2:i<off+M
      ·rw[if_pos ⟨by omega,h2⟩,List.getElem?_append_right (by omega),hlo,List.getElem?_append_left (by rw[CB_length];omega),CB_get _ _ _ (by omega)]
      ·rw[if_neg (by omega),List.getElem?_append_right (by omega),hlo,List.getElem?_append_right (by rw[CB_length];omega),CB_length,List.getElem?_drop,show off+M + (i-off-M)=i by omega,hcur]
    ·rw[if_neg hi,CB_none _ N i (by omega)]
theorem fr_build (K c s n F len:Nat) (bs:Nat→Nat) (j:Nat) (hj:j<15+len) :
  (if 15≤j∧j<15+len then bs (j-15) else if j=14 then len else if j=13 then F else if 9≤j∧j<9+4 then PM.w4 n (j-9) else if 5≤j∧j<5+4 then PM.w4 s (j-5) else if 1≤j∧j<1+4 then PM.w4 c (j-1) else if j=0 then K else 0)=fr K c s n F len bs j:=by
 unfold fr
 by_cases h0:j=0
 ·simp (disch:=omega) only [if_pos,if_neg]
 ·by_cases h1:j<5
  ·simp (disch:=omega) only [if_pos,if_neg]
  ·by_cases h2:j<9
   ·simp (disch:=omega) only [if_pos,if_neg]
   ·by_cases h3:j<13
    ·simp (disch:=omega) only [if_pos,if_neg]
    ·by_cases h4:j=13
     ·simp (disch:=omega) only [if_pos,if_neg]
     ·by_cases h5:j=14
      ·simp (disch:=omega) only [if_pos,if_neg]
      ·simp (disch:=omega) only [if_pos,if_neg]
theorem own_row8s {w:World} {B e g n cap:Nat} {bs:Nat→Nat} (h:w.ownsRow B e 1 (.slice (some ⟨g,0,none⟩) n cap) n (CB bs n)) (hb:∀ i,i<n→bs i<256):Row8 w (some ⟨g,0,none⟩) n cap bs:=by
 obtain⟨a,c,e,r⟩:=own_row8 h hb
 simp only[Value.slice.injEq,true_and]at e
 obtain⟨rfl,rfl⟩:=e
 exact r
structure Box (wx:World) (g:Nat) (k:Int) (c s n:Nat) (f:Int) (v:Value):Prop where
 c0:wx.cell? ⟨g,0,none⟩=some (.int .i64 k)
 c1:wx.cell? ⟨g,1,none⟩=some (.int .u32 c)
 c2:wx.cell? ⟨g,2,none⟩=some (.int .u32 s)
 c3:wx.cell? ⟨g,3,none⟩=some (.int .u32 n)
 c4:wx.cell? ⟨g,4,none⟩=some (.int .i64 f)
 c5:wx.cell? ⟨g,5,none⟩=some v
theorem box_new (w:World) (k:Int) (c s n:Nat) (f:Int) (v:Value) (wx:World) (hb:Below (w.alloc (.cells #[.int .i64 k,.int .u32 c,.int .u32 s,.int .u32 n,.int .i64 f,v] 107)).heap.size (w.alloc (.cells #[.int .i64 k,.int .u32 c,.int .u32 s,.int .u32 n,.int .i64 f,v] 107)) wx) :
  Box wx w.heap.size k c s n f v:=by
 have h:∀ i,wx.cell? ⟨w.heap.size,i,none⟩=(w.alloc (.cells #[.int .i64 k,.int .u32 c,.int .u32 s,.int .u32 n,.int .i64 f,v] 107)).cell? ⟨w.heap.size,i,none⟩:=fun i=>hb.cell (p:=⟨w.heap.size,i,none⟩) (by simp)
 exact⟨(h 0).trans (by simp),(h 1).trans (by simp),(h 2).trans (by simp),(h 3).trans (by simp),(h 4).trans (by simp),(h 5).trans (by simp)⟩
set_option maxRecDepth 100000 in
set_option maxHeartbeats 1000000 in
theorem encode_bad (k:Int) (c s n:Nat) (f:Int) (a:Option Addr) (len cap:Nat) (w:World) (hE:LW k c s n f len len≠0) :
  Calls Tryz.prog 66 #[.agg #[.int .i64 k,.int .u32 c,.int .u32 s,.int .u32 n,.int .i64 f,.slice a len cap]] w fun e w'=>e=.returned (.tuple #[.slice none 0 0,.int .i64 (LW k c s n f len len)])∧Below w.heap.size w w':=by
 have hb:Below w.heap.size w (w.alloc (.cells #[.int .i64 k,.int .u32 c,.int .u32 s,.int .u32 n,.int .i64 f,.slice a len cap] 107)):=(Below.refl _ _).alloc (Nat.le_refl _) _
 have hF:=lawful_any k c s n f a len cap (w.alloc (.cells #[.int .i64 k,.int .u32 c,.int .u32 s,.int .u32 n,.int .i64 f,.slice a len cap] 107))
 generalize LW k c s n f len len=E at *
 have q:(E == 0)=false:=by simpa using hE
 go_enter Tryz.func66,Tryz.ntmps66
 go_wp2_with fail
 refine hF.mono ?_
 rintro e w1 ⟨rfl,hb1⟩
 have hb2:=below_all hb hb.size hb1
 clear hb hF hb1
 go_wp2_with fail
 go_ret2
 exact⟨rfl,hb2⟩
set_option maxRecDepth 100000 in
set_option maxHeartbeats 2000000 in
theorem encode_good (K c s n F:Nat) (a:Option Addr) (len cap:Nat) (bs:Nat→Nat) (w:World) (hr:Row8 w a len cap bs) (hE:LW K c s n F len len=0) :
  Calls Tryz.prog 66 #[.agg #[.int .i64 K,.int .u32 c,.int .u32 s,.int .u32 n,.int .i64 F,.slice a len cap]] w fun e w'=>∃ v,e=.returned (.tuple #[v,.int .i64 0]) ∧
   Hid (w'.ownsRow w.heap.size 5 1 v (15+len+4) (CB (PM.sl (fr K c s n F len bs) (15+len)) (15+len+4))∧Below w.heap.size w w'):=by
 obtain⟨i0,hi,hz0,hz1,hz2⟩:=info_parts info_u8
 obtain⟨hkk,_,_,hll,hff⟩:=LW_zero hE
 have hA:Below w.heap.size w (w.alloc (.cells #[.int .i64 K,.int .u32 c,.int .u32 s,.int .u32 n,.int .i64 F,.slice a len cap] 107)):=(Below.refl _ _).alloc (Nat.le_refl _) _
 have hL:=lawful_any K c s n F a len cap (w.alloc (.cells #[.int .i64 K,.int .u32 c,.int .u32 s,.int .u32 n,.int .i64 F,.slice a len cap] 107))
 rw[hE]at hL
 have hX:=box_new w K c s n F (.slice a len cap)
 have hAs:w.heap.size < (w.alloc (.cells #[.int .i64 K,.int .u32 c,.int .u32 s,.int .u32 n,.int .i64 F,.slice a len cap] 107)).heap.size:=by simp
 have hrA:=hr.below hA
 clear hE
 go_enter Tryz.func66,Tryz.ntmps66
 go_wp2_with fail
 refine hL.mono ?_
 rintro e w1 ⟨rfl,hb1⟩
 generalize w.alloc (.cells #[.int .i64 K,.int .u32 c,.int .u32 s,.int .u32 n,.int .i64 F,.slice a len cap] 107)=wa at *
 have X1:=hX w1 hb1
 obtain⟨N,hN⟩:∃ N,N=15+len:=⟨_,rfl⟩
 have HN:Hid (N=15+len):=hN
 have hNI:(15:Int) + (len:Int)=(N:Int):=by omega
 have x5:=X1.c5
 have hs1:=hb1.size
 have hbase:wa.heap.size≤w1.heap.size:=hs1
 have hN15:15≤N:=by omega
 have hN23:N≤23:=by omega
 clear hL X1 hr hN
 go_wp2_with (at_make;refine wpList_make8 _ rfl (.tmp 14) (.tmp 14) 50 rfl wa.heap.size 5 i0 Tryz.underlying50 hi hz0 hz1 hz2 _ _ _ _ N N rfl rfl rfl rfl (Nat.le_refl _) (by omega) hbase ?_)
 intro w2 hown2 hbel2
 have hB2:Below wa.heap.size wa w2:=hb1.trans hbel2
 have X2:=hX w2 hB2
 have x0:=X2.c0
 have hBg:wa.heap.size≤w1.heap.size:=hbase
 generalize w1.heap.size=g at *
 have hcx:=hown2.cellAt 0 (by omega)
 rw[CB_get _ _ _ (show 0<N by omega)]at hcx
 have hfx:=hown2.frozenAt 0
 have hown3:=(hown2.stored 0 (.int .u8 ((K:Nat):Int))).1
 rw[CB_set]at hown3
 have hB3:=hB2.setCell (p:=⟨g,0,none⟩) hBg (.int .u8 ((K:Nat):Int))
 have hKm:(K:Int) % 256=(K:Int):=by omega
 have hN0:(0:Int) < (N:Int):=by omega
 clear hb1 hbel2 hown2 hB2 X2 hbase hs1 x5
 go_upto_region 6 with fail
 generalize w2.setCell ⟨g,0,none⟩ (.int .u8 (K:Int))=w3 at *
 have hN1:¬ N=1:=by omega
 have hN5:¬ N=5:=by omega
 have hN9:¬ N=9:=by omega
 have hI1:(1:Int) ≤ (N:Int):=by omega
 have hI5:(5:Int) ≤ (N:Int):=by omega
 have hI9:(9:Int) ≤ (N:Int):=by omega
 have hI13:(13:Int) < (N:Int):=by omega
 have hI14:(14:Int) < (N:Int):=by omega
 have hI15:(15:Int) ≤ (N:Int):=by omega
 have hne:¬ w.heap.size=g:=by omega
 have hne':¬ g=w.heap.size:=by omega
 have hFm:(F:Int) % 256=(F:Int):=by omega
 have hlm:(len:Int) % 256=(len:Int):=by omega
 clear hcx hfx x0
 have X3:=hX w3 hB3
 have x1:=X3.c1
 have hP:=fun L C hL=>putWord_own wa.heap.size g N N 1 L C c (fun i=>if i=0 then K else 0) wa w3.drew hown3 hB3.drew hBg (by omega) hL
 go_upto_region 6 with fail
 go_cut [25] (fun _ wx=>Hid (wx.ownsRow wa.heap.size 5 1 (.slice (some ⟨g,0,none⟩) N N) N (CB (fun i=>if 1≤i∧i<1+4 then PM.w4 c (i-1) else if i=0 then K else 0) N)∧Below wa.heap.size wa wx))
 case first=>
  go_region_with (go_at_call 117;refine (hP _ _ (by omega)).mono ?_;rintro e w9 ⟨rfl,H9⟩)
  all_goals (go_wp2_with fail;go_meet;exact H9)
 case rest=>
  obtain⟨w4,rfl⟩:∃ x,x=wc:=⟨_,rfl⟩
  obtain⟨own_w4,bel_w4⟩:=hcut
  clear hP X3 x1 hown3 hB3
  have X4:=hX w4 bel_w4
  have x2:=X4.c2
  have hP:=fun L C hL=>putWord_own wa.heap.size g N N 5 L C s (fun i=>if 1≤i∧i<1+4 then PM.w4 c (i-1) else if i=0 then K else 0) wa w4.drew own_w4 bel_w4.drew hBg (by omega) hL
  go_upto_region 7 with fail
  go_cut [30] (fun _ wx=>Hid (wx.ownsRow wa.heap.size 5 1 (.slice (some ⟨g,0,none⟩) N N) N (CB (fun i=>if 5≤i∧i<5+4 then PM.w4 s (i-5) else if 1≤i∧i<1+4 then PM.w4 c (i-1) else if i=0 then K else 0) N)∧Below wa.heap.size wa wx))
  case first=>
   go_region_with (go_at_call 117;refine (hP _ _ (by omega)).mono ?_;rintro e w9 ⟨rfl,H9⟩)
   all_goals (go_wp2_with fail;go_meet;exact H9)
  case rest=>
   obtain⟨w5,rfl⟩:∃ x,x=wc:=⟨_,rfl⟩
   obtain⟨own_w5,bel_w5⟩:=hcut
   clear hP X4 x2 own_w4 bel_w4
   have X5:=hX w5 bel_w5
   have x3:=X5.c3
   have hP:=fun L C hL=>putWord_own wa.heap.size g N N 9 L C n (fun i=>if 5≤i∧i<5+4 then PM.w4 s (i-5) else if 1≤i∧i<1+4 then PM.w4 c (i-1) else if i=0 then K else 0) wa w5.drew own_w5 bel_w5.drew hBg (by omega) hL
   go_upto_region 8 with fail
   go_cut [35] (fun _ wx=>Hid (wx.ownsRow wa.heap.size 5 1 (.slice (some ⟨g,0,none⟩) N N) N (CB (fun i=>if 9≤i∧i<9+4 then PM.w4 n (i-9) else if 5≤i∧i<5+4 then PM.w4 s (i-5) else if 1≤i∧i<1+4 then PM.w4 c (i-1) else if i=0 then K else 0) N)∧Below wa.heap.size wa wx))
   case first=>
    go_region_with (go_at_call 117;refine (hP _ _ (by omega)).mono ?_;rintro e w9 ⟨rfl,H9⟩)
    all_goals (go_wp2_with fail;go_meet;exact H9)
   case rest=>
    obtain⟨w6,rfl⟩:∃ x,x=wc:=⟨_,rfl⟩
    obtain⟨own_w6,bel_w6⟩:=hcut
    clear hP X5 x3 own_w5 bel_w5
    have X6:=hX w6 bel_w6
    have x4:=X6.c4
    have x5:=X6.c5
    have hc13:=own_w6.cellAt 13 (by omega)
    rw[CB_get _ _ _ (show 13<N by omega)]at hc13
    have hf13:=own_w6.frozenAt 13
    have own_a:=(own_w6.stored 13 (.int .u8 ((F:Nat):Int))).1
    rw[CB_set]at own_a
    have bel_a:=bel_w6.setCell (p:=⟨g,13,none⟩) hBg (.int .u8 ((F:Nat):Int))
    have hc14:=own_a.cellAt 14 (by omega)
    rw[CB_get _ _ _ (show 14<N by omega)]at hc14
    have hf14:=own_a.frozenAt 14
    have own_b:=(own_a.stored 14 (.int .u8 ((len:Nat):Int))).1
    rw[CB_set]at own_b
    have bel_b:=bel_a.setCell (p:=⟨g,14,none⟩) hBg (.int .u8 ((len:Nat):Int))
    clear own_w6 bel_w6 X6 own_a bel_a
    go_upto_region 11 with fail
    generalize (w6.setCell ⟨g,13,none⟩ (.int .u8 (F:Int))).setCell ⟨g,14,none⟩ (.int .u8 (len:Int))=w7 at *
    have X7:=hX w7 bel_b
    have y5:=X7.c5
    have R7:=hrA.below bel_b.drew
    obtain⟨dp,hif⟩:∃ dp,(if N=15 then some (⟨g,0,none⟩:Addr) else some ⟨g,15,none⟩)=dp:=⟨_,rfl⟩
    have HDP:Hid (0<len→dp=some ⟨g,15,none⟩):=fun h=>by rw[← hif];exact if_neg (by have:=HN.out;omega)
    go_cut [51] (fun _ wx=>Hid (wx.ownsRow wa.heap.size 5 1 (.slice (some ⟨g,0,none⟩) N N) N (CB (fun i=>if 15≤i∧i<15+len then bs (i-15) else if i=14 then len else if i=13 then F else if 9≤i∧i<9+4 then PM.w4 n (i-9) else if 5≤i∧i<5+4 then PM.w4 s (i-5) else if 1≤i∧i<1+4 then PM.w4 c (i-1) else if i=0 then K else 0) N)∧Below wa.heap.size wa wx))
    case first=>
     go_region_law (refine step_copy8 rfl (.tmp 48) (.tmp 50) rfl wa.heap.size g N N 15 len cap (N-15) (N-15) dp a (fun i=>if i=14 then len else if i=13 then F else if 9≤i∧i<9+4 then PM.w4 n (i-9) else if 5≤i∧i<5+4 then PM.w4 s (i-5) else if 1≤i∧i<1+4 then PM.w4 c (i-1) else if i=0 then K else 0) bs (by simp[Act.eval]) (by simp[Act.eval]) (by have:=HN.out;omega) HDP.out (by have:=HN.out;omega) own_b R7 wa bel_b.drew ?_;intro w9 H9)
     all_goals (go_wp2_with fail;go_meet;exact H9)
    case rest=>
     obtain⟨w8,rfl⟩:∃ x,x=wc:=⟨_,rfl⟩
     obtain⟨own8,bel8⟩:=hcut
     rw[CB_congr _ (fr K c s n F len bs) N (fun j hj=>fr_build K c s n F len bs j (by rw[← HN.out];exact hj))]at own8
     have hby:∀ i,i<N→fr K c s n F len bs i<256:=fun i hi=>fr_lt (by omega) (by omega) (by omega) hrA.byte i (by rw[← HN.out];exact hi)
     have R8:=own_row8s own8 hby
     have hS:=seal_row _ N N _ w8 R8 (by omega)
     have hs8:=bel8.size
     have hBB:Below w.heap.size w w8:=hA.trans (bel8.mono (Nat.le_of_lt hAs))
     clear own8 bel8 R8 hX X7 y5 R7 own_b bel_b HDP hif hc13 hc14 hf13 hf14 x4 x5 hrA
     go_wp2_with fail
     refine hS.mono ?_
     rintro e w9 ⟨v,rfl,own9,bel9⟩
     clear hS
     go_wp2_with fail
     go_ret2
     refine⟨v,rfl,?_,below_all hBB (by omega) bel9⟩
     rw[← HN.out]
     exact own_base own9 (by omega)
theorem hid {p:Prop} (h:p):Hid p:=h
set_option maxRecDepth 100000 in
set_option maxHeartbeats 4000000 in
theorem pencode_good (c O I T n:Nat) (w:World) (hc:c<4294967296) (hn:n<4294967296) (hE:okP c O I T n) :
  Calls Tryz.prog 203 #[.agg #[.int .u32 c,.int .i64 O,.int .i64 I,.int .i64 T,.int .u32 n]] w fun e w'=>∃ g,e=.returned (.tuple #[.slice (some ⟨g,0,none⟩) 14 14,.int .i64 0]) ∧
   Hid (w.heap.size≤g∧w'.ownsRow w.heap.size 5 1 (.slice (some ⟨g,0,none⟩) 14 14) 14 (CB (pe c O I T n) 14)∧Below w.heap.size w w'):=by
 obtain⟨i0,hi,hz0,hz1,hz2⟩:=info_parts info_u8
 obtain⟨_,hO,hI,hT,_⟩:=id hE
 have hA:Below w.heap.size w (w.alloc (.cells #[.int .u32 c,.int .i64 O,.int .i64 I,.int .i64 T,.int .u32 n] 42)):=(Below.refl _ _).alloc (Nat.le_refl _) _
 have hAs:w.heap.size < (w.alloc (.cells #[.int .u32 c,.int .i64 O,.int .i64 I,.int .i64 T,.int .u32 n] 42)).heap.size:=by simp
 have hF:=check_any c O I T n (w.alloc (.cells #[.int .u32 c,.int .i64 O,.int .i64 I,.int .i64 T,.int .u32 n] 42)) 0 (if_pos hE)
 have hX:=bx_new w c O I T n
 have hOm:(O:Int) % 256=(O:Int):=by omega
 have hIm:(I:Int) % 256=(I:Int):=by omega
 have hTm:(T:Int) % 4294967296=(T:Int):=by omega
 have hT2:T<4294967296:=by omega
 have hwT:IntKind.u32.wrap (T:Int)=(T:Int):=by rw[IntKind.wrap_u32];omega
 have hbT:∀ wx,Calls Tryz.prog 172 #[.int .u32 (IntKind.u32.wrap (T:Int))] wx _:=fun wx=>by rw[hwT];exact bytes4_any T wx hT2
 clear hwT hTm
 clear hE hO hI hT
 go_enter Tryz.func203,Tryz.ntmps203
 go_wp2_with fail
 generalize w.alloc (.cells #[.int .u32 c,.int .i64 O,.int .i64 I,.int .i64 T,.int .u32 n] 42)=wa at *
 refine hF.mono ?_
 rintro e w1 ⟨rfl,hb1⟩
 have hs1:wa.heap.size≤w1.heap.size:=hb1.size
 clear hF
 go_wp2_with (at_make;refine wpList_make8 _ rfl (.const (.int .i64 14)) (.const (.int .i64 14)) 50 rfl wa.heap.size 5 i0 Tryz.underlying50 hi hz0 hz1 hz2 _ _ _ _ 14 14 rfl rfl rfl rfl (Nat.le_refl _) (by omega) hs1 ?_)
 intro w2 hown2 hbel2
 have hB2:Below wa.heap.size wa w2:=hb1.trans hbel2
 generalize w1.heap.size=g at *
 clear hb1 hbel2
 have S2:=(hX w2 hB2).c0
 have hx2:∀ wx,Below w2.heap.size w2 wx→wx.cell? ⟨w.heap.size,0,none⟩=some (.int .u32 c):=fun wx h=>(hX wx (below_all hB2 hB2.size h)).c0
 have ho2:=fun wx (h:Below w2.heap.size w2 wx)=>own_below hown2 h
 have hb2:=fun wx (h:Below w2.heap.size w2 wx)=>below_all hB2 hB2.size h
 go_wp2_with fail
 go_region_held3 (fun w'=>w'.cell? ⟨w.heap.size,0,none⟩=some (.int .u32 c)) (first | assumption | exact (hX _ (by with_reducible assumption)).c0 | exact hx2 _ (by repeat (first | with_reducible assumption | with_reducible refine below_drewN ?_ _ | with_reducible refine Below.drew ?_ | with_reducible refine belowA ?_ _ | with_reducible exact Below.refl _ _))) (first
  | (refine step_call rfl 172 #[.tmp 15] #[40] rfl #[.int .u32 c] _ (by kernel_rfl) (bytes4_any c _ hc) ?_;rintro w3 rfl)
  | (refine step_copy8P rfl (.tmp 13) (.tmp 16) rfl wa.heap.size g 14 14 0 14 14 _ rfl (ho2 _ (by repeat (first | with_reducible assumption | with_reducible refine below_drewN ?_ _ | with_reducible refine Below.drew ?_ | with_reducible refine belowA ?_ _ | with_reducible exact Below.refl _ _))) _ 4 4 _ rfl (row4P _ c hc) (by omega) (by omega) wa (hb2 _ (by repeat (first | with_reducible assumption | with_reducible refine below_drewN ?_ _ | with_reducible refine Below.drew ?_ | with_reducible refine belowA ?_ _ | with_reducible exact Below.refl _ _))) ?_;intro w3 H3 hB3))
 clear S2 hx2 ho2 hb2 hown2
 clear hB2
 have hcx:=H3.out.cellAt 4 (by omega)
 rw[CB_get _ _ _ (show 4<14 by omega)]at hcx
 have hfx:=H3.out.frozenAt 4
 have hown4:=(H3.out.stored 4 (.int .u8 ((O:Nat):Int))).1
 rw[CB_set]at hown4
 have hB4:=hB3.setCell (p:=⟨g,4,none⟩) hs1 (.int .u8 ((O:Nat):Int))
 have x4:=(hX w3 hB3).c1
 have H4:=hid hown4
 clear hown4 H3 hB3
 go_upto_region 7 with fail
 generalize w3.setCell ⟨g,4,none⟩ (.int .u8 (O:Int))=w4 at *
 clear hcx hfx x4
 have hcx:=H4.out.cellAt 5 (by omega)
 rw[CB_get _ _ _ (show 5<14 by omega)]at hcx
 have hfx:=H4.out.frozenAt 5
 have hown5:=(H4.out.stored 5 (.int .u8 ((I:Nat):Int))).1
 rw[CB_set]at hown5
 have hB5:=hB4.setCell (p:=⟨g,5,none⟩) hs1 (.int .u8 ((I:Nat):Int))
 have x5:=(hX w4 hB4).c2
 have H5:=hid hown5
 clear hown5 H4 hB4
 go_upto_region 8 with fail
 generalize w4.setCell ⟨g,5,none⟩ (.int .u8 (I:Int))=w5 at *
 clear hcx hfx x5
 have S5:=(hX w5 hB5).c3
 have hx5:∀ wx,Below w5.heap.size w5 wx→wx.cell? ⟨w.heap.size,3,none⟩=some (.int .i64 T):=fun wx h=>(hX wx (below_all hB5 hB5.size h)).c3
 have ho5:=fun wx (h:Below w5.heap.size w5 wx)=>own_below H5.out h
 have hb5:=fun wx (h:Below w5.heap.size w5 wx)=>below_all hB5 hB5.size h
 go_wp2_with fail
 go_region_held3 (fun w'=>w'.cell? ⟨w.heap.size,3,none⟩=some (.int .i64 T)) (first | assumption | exact (hX _ (by with_reducible assumption)).c3 | exact hx5 _ (by repeat (first | with_reducible assumption | with_reducible refine below_drewN ?_ _ | with_reducible refine Below.drew ?_ | with_reducible refine belowA ?_ _ | with_reducible exact Below.refl _ _))) (first
  | (refine step_call rfl 172 #[.tmp 32] #[40] rfl #[.int .u32 (IntKind.u32.wrap (T:Int))] _ (by kernel_rfl) (hbT _) ?_;rintro w3 rfl)
  | (refine step_copy8P rfl (.tmp 29) (.tmp 33) rfl wa.heap.size g 14 14 6 8 8 _ rfl (ho5 _ (by repeat (first | with_reducible assumption | with_reducible refine below_drewN ?_ _ | with_reducible refine Below.drew ?_ | with_reducible refine belowA ?_ _ | with_reducible exact Below.refl _ _))) _ 4 4 _ rfl (row4P _ T hT2) (by omega) (by omega) wa (hb5 _ (by repeat (first | with_reducible assumption | with_reducible refine below_drewN ?_ _ | with_reducible refine Below.drew ?_ | with_reducible refine belowA ?_ _ | with_reducible exact Below.refl _ _))) ?_;intro w6 H6 hB6))
 clear S5 hx5 ho5 hb5 H5
 clear hB5
 have S6:=(hX w6 hB6).c4
 have hx6:∀ wx,Below w6.heap.size w6 wx→wx.cell? ⟨w.heap.size,4,none⟩=some (.int .u32 n):=fun wx h=>(hX wx (below_all hB6 hB6.size h)).c4
 have ho6:=fun wx (h:Below w6.heap.size w6 wx)=>own_below H6.out h
 have hb6:=fun wx (h:Below w6.heap.size w6 wx)=>below_all hB6 hB6.size h
 go_wp2_with fail
 go_region_held3 (fun w'=>w'.cell? ⟨w.heap.size,4,none⟩=some (.int .u32 n)) (first | assumption | exact (hX _ (by with_reducible assumption)).c4 | exact hx6 _ (by repeat (first | with_reducible assumption | with_reducible refine below_drewN ?_ _ | with_reducible refine Below.drew ?_ | with_reducible refine belowA ?_ _ | with_reducible exact Below.refl _ _))) (first
  | (refine step_call rfl 172 #[.tmp 38] #[40] rfl #[.int .u32 n] _ (by kernel_rfl) (bytes4_any n _ hn) ?_;rintro w3 rfl)
  | (refine step_copy8P rfl (.tmp 36) (.tmp 39) rfl wa.heap.size g 14 14 10 4 4 _ rfl (ho6 _ (by repeat (first | with_reducible assumption | with_reducible refine below_drewN ?_ _ | with_reducible refine Below.drew ?_ | with_reducible refine belowA ?_ _ | with_reducible exact Below.refl _ _))) _ 4 4 _ rfl (row4P _ n hn) (by omega) (by omega) wa (hb6 _ (by repeat (first | with_reducible assumption | with_reducible refine below_drewN ?_ _ | with_reducible refine Below.drew ?_ | with_reducible refine belowA ?_ _ | with_reducible exact Below.refl _ _))) ?_;intro w7 H7 hB7))
 clear S6 hx6 ho6 hb6 H6
 clear hB6
 have HB:Hid (_):=And.intro (H7.out) (hA.trans (hB7.mono (Nat.le_of_lt hAs)))
 clear hA hB7
 go_wp2_with fail
 go_ret2
 refine⟨g,rfl,by omega,?_,HB.out.2⟩
 have h:=own_base HB.out.1 (Nat.le_of_lt hAs)
 rw[CB_congr _ (pe c O I T n) 14 ?_]at h
 ·exact h
 ·intro k hk
  unfold pe
  by_cases h1:k<4
  ·rw[if_neg (by omega),if_neg (by omega),if_neg (by omega),if_neg (by omega),if_pos (by omega),if_pos h1,Nat.sub_zero]
  ·rw[if_neg h1]
   by_cases h2:k=4
   ·rw[if_neg (by omega),if_neg (by omega),if_neg (by omega),if_pos h2,if_pos h2]
   ·rw[if_neg h2]
    by_cases h3:k=5
    ·rw[if_neg (by omega),if_neg (by omega),if_pos h3,if_neg h2,if_pos h3]
    ·rw[if_neg h3]
     by_cases h4:k<10
     ·rw[if_neg (by omega),if_pos (by omega),if_neg h2,if_neg h3,if_pos h4]
     ·rw[if_pos (by omega),if_neg h2,if_neg h3,if_neg h4]
open Go.ChangeShapes Go.WideShapes Go.ChangeAt Go.RowKit Go.Joins Go.Deep
set_option maxRecDepth 100000 in
set_option maxHeartbeats 1000000 in
theorem psig_good (c O I T n:Nat) (w:World) (hc:c<4294967296) (hn:n<4294967296) (hE:okP c O I T n) :
  Calls Tryz.prog 171 #[.agg #[.int .u32 c,.int .i64 O,.int .i64 I,.int .i64 T,.int .u32 n]] w fun e w'=>e=.returned (.tuple #[.int .u32 (PM.K (pe c O I T n) 14:Nat),.int .i64 0])∧Below w.heap.size w w':=by
 have hb:Below w.heap.size w (w.alloc (.cells #[.int .u32 c,.int .i64 O,.int .i64 I,.int .i64 T,.int .u32 n] 42)):=(Below.refl _ _).alloc (Nat.le_refl _) _
 have hF:=pencode_good c O I T n (w.alloc (.cells #[.int .u32 c,.int .i64 O,.int .i64 I,.int .i64 T,.int .u32 n] 42)) hc hn hE
 obtain⟨_,hO,hI,_,_⟩:=hE
 have hby:=pe_lt (c:=c) (o:=O) (i:=I) (t:=T) (n:=n) (by omega) (by omega)
 clear hO hI
 go_enter Tryz.func171,Tryz.ntmps171
 go_wp2_with fail
 refine hF.mono ?_
 rintro e w1 ⟨g,rfl,H1⟩
 obtain⟨_,O1,hb1⟩:=H1.out
 have hb2:=below_all hb hb.size hb1
 obtain⟨a1,c1,e1,R1⟩:=own_row8 O1 (fun k _=>hby k)
 simp only[Value.slice.injEq,true_and]at e1
 obtain⟨rfl,rfl⟩:=e1
 have hB:=cbits_row _ 14 14 (pe c O I T n) w1 R1 (by omega)
 clear hb hF hb1 H1 O1 R1 hby
 go_wp2_with fail
 refine hB.mono ?_
 rintro e w2 ⟨rfl,rfl⟩
 go_wp2_with fail
 go_ret2
 exact⟨rfl,hb2⟩
set_option maxRecDepth 100000 in
set_option maxHeartbeats 4000000 in
theorem rlaw_any (c:Nat) (o i t:Int) (n:Nat) (w:World) (D:Bool) (hD:decide (okP c o i t n)=D) :
  Calls Tryz.prog 75 #[.agg #[.int .u32 c,.int .i64 o,.int .i64 i,.int .i64 t,.int .u32 n]] w fun e w'=>e=.returned (.bool D)∧Below w.heap.size w w':=by
 have hb:Below w.heap.size w (w.alloc (.cells #[.int .u32 c,.int .i64 o,.int .i64 i,.int .i64 t,.int .u32 n] 42)):=(Below.refl _ _).alloc (Nat.le_refl _) _
 have HB:Hid (_):=hb
 have HD:Hid (_):=hD
 clear hD hb
 by_cases h0:(0:Int) < (c:Int)
 rotate_left
 ·have q0:decide ((0:Int) < (c:Int))=false:=decide_eq_false h0
  have r0:c=0:=by omega
  subst r0
  have hD':D=false:=by rw[← HD.out];exact decide_eq_false (fun h=>by unfold okP at h;omega)
  subst hD'
  clear HD h0
  go_enter Tryz.func75,Tryz.ntmps75
  go_wp2_with fail
  go_ret
  exact⟨rfl,HB.out⟩
 have q0:decide ((0:Int) < (c:Int))=true:=decide_eq_true h0
 have r0:0<c:=by omega
 by_cases h1:1≤o
 rotate_left
 ·have q1:decide (1≤o)=false:=decide_eq_false h1
  have hD':D=false:=by rw[← HD.out];exact decide_eq_false (fun h=>by unfold okP at h;omega)
  subst hD'
  clear HD h0 h1
  go_enter Tryz.func75,Tryz.ntmps75
  go_wp2_with fail
  go_ret
  exact⟨rfl,HB.out⟩
 have q1:decide (1≤o)=true:=decide_eq_true h1
 by_cases h2:o≤8
 rotate_left
 ·have q2:decide (o≤8)=false:=decide_eq_false h2
  have hD':D=false:=by rw[← HD.out];exact decide_eq_false (fun h=>by unfold okP at h;omega)
  subst hD'
  clear HD h0 h1 h2
  go_enter Tryz.func75,Tryz.ntmps75
  go_wp2_with fail
  go_ret
  exact⟨rfl,HB.out⟩
 have q2:decide (o≤8)=true:=decide_eq_true h2
 by_cases h3:1≤i
 rotate_left
 ·have q3:decide (1≤i)=false:=decide_eq_false h3
  have hD':D=false:=by rw[← HD.out];exact decide_eq_false (fun h=>by unfold okP at h;omega)
  subst hD'
  clear HD h0 h1 h2 h3
  go_enter Tryz.func75,Tryz.ntmps75
  go_wp2_with fail
  go_ret
  exact⟨rfl,HB.out⟩
 have q3:decide (1≤i)=true:=decide_eq_true h3
 by_cases h4:i≤8
 rotate_left
 ·have q4:decide (i≤8)=false:=decide_eq_false h4
  have hD':D=false:=by rw[← HD.out];exact decide_eq_false (fun h=>by unfold okP at h;omega)
  subst hD'
  clear HD h0 h1 h2 h3 h4
  go_enter Tryz.func75,Tryz.ntmps75
  go_wp2_with fail
  go_ret
  exact⟨rfl,HB.out⟩
 have q4:decide (i≤8)=true:=decide_eq_true h4
 by_cases h5:1≤t
 rotate_left
 ·have q5:decide (1≤t)=false:=decide_eq_false h5
  have hD':D=false:=by rw[← HD.out];exact decide_eq_false (fun h=>by unfold okP at h;omega)
  subst hD'
  clear HD h0 h1 h2 h3 h4 h5
  go_enter Tryz.func75,Tryz.ntmps75
  go_wp2_with fail
  go_ret
  exact⟨rfl,HB.out⟩
 have q5:decide (1≤t)=true:=decide_eq_true h5
 by_cases h6:t≤1048576
 rotate_left
 ·have q6:decide (t≤1048576)=false:=decide_eq_false h6
  have hD':D=false:=by rw[← HD.out];exact decide_eq_false (fun h=>by unfold okP at h;omega)
  subst hD'
  clear HD h0 h1 h2 h3 h4 h5 h6
  go_enter Tryz.func75,Tryz.ntmps75
  go_wp2_with fail
  go_ret
  exact⟨rfl,HB.out⟩
 have q6:decide (t≤1048576)=true:=decide_eq_true h6
 by_cases h7:(2:Int) ≤ (n:Int)
 rotate_left
 ·have q7:decide ((2:Int) ≤ (n:Int))=false:=decide_eq_false h7
  have hD':D=false:=by rw[← HD.out];exact decide_eq_false (fun h=>by unfold okP at h;omega)
  subst hD'
  clear HD h0 h1 h2 h3 h4 h5 h6 h7
  go_enter Tryz.func75,Tryz.ntmps75
  go_wp2_with fail
  go_ret
  exact⟨rfl,HB.out⟩
 have q7:decide ((2:Int) ≤ (n:Int))=true:=decide_eq_true h7
 have hD':D=true:=by rw[← HD.out];exact decide_eq_true (by unfold okP;omega)
 subst hD'
 clear HD h0 h1 h2 h3 h4 h5 h6 h7
 go_enter Tryz.func75,Tryz.ntmps75
 go_wp2_with fail
 go_ret
 exact⟨rfl,HB.out⟩
set_option maxRecDepth 100000 in
set_option maxHeartbeats 1000000 in
theorem bequal_any (a b:Option Addr) (n ca m cb:Nat) (f g:Nat→Nat) (w:World) (ha:Row8 w a n ca f) (hb:Row8 w b m cb g) (D:Bool) (hD:decide (BA f n=BA g m)=D) :
  Calls Tryz.prog 206 #[.slice a n ca,.slice b m cb] w fun e w'=>e=.returned (.bool D)∧w'=w:=by
 have h1:=conv_any a n ca f w ha
 have h2:=conv_any b m cb g w hb
 rw[bytes_beq]at hD
 generalize BA f n=X at *
 generalize BA g m=Y at *
 clear ha hb
 go_enter Tryz.func206,Tryz.ntmps206
 go_wp2_with fail
 go_ret
 exact⟨rfl,rfl⟩
set_option maxRecDepth 100000 in
set_option maxHeartbeats 1000000 in
theorem pmatch_good (c O I T n:Nat) (a:Option Addr) (len cap:Nat) (bs:Nat→Nat) (w:World) (hr:Row8 w a len cap bs) (hc:c<4294967296) (hn:n<4294967296) (hE:okP c O I T n) (D:Bool) (hD:decide (BA bs len=BA (PM.w4 (PM.K (pe c O I T n) 14)) 4)=D) :
  Calls Tryz.prog 181 #[.agg #[.int .u32 c,.int .i64 O,.int .i64 I,.int .i64 T,.int .u32 n],.slice a len cap] w fun e w'=>e=.returned (.tuple #[.bool D,.int .i64 0])∧Below w.heap.size w w':=by
 have hb:Below w.heap.size w (w.alloc (.cells #[.int .u32 c,.int .i64 O,.int .i64 I,.int .i64 T,.int .u32 n] 42)):=(Below.refl _ _).alloc (Nat.le_refl _) _
 have hF:=psig_good c O I T n (w.alloc (.cells #[.int .u32 c,.int .i64 O,.int .i64 I,.int .i64 T,.int .u32 n] 42)) hc hn hE
 have hk:=PM.K_lt (pe c O I T n) 14
 clear hE
 generalize PM.K (pe c O I T n) 14=k at *
 go_enter Tryz.func181,Tryz.ntmps181
 go_wp2_with fail
 refine hF.mono ?_
 rintro e w1 ⟨rfl,hb1⟩
 have hb2:=below_all hb hb.size hb1
 clear hb hF hb1
 go_wp2_with fail
 refine (bytes4_any k _ hk).mono ?_
 rintro e w2 ⟨rfl,rfl⟩
 have hb3:=hb2.alloc hb2.size (.cells #[.int .u8 ((k:Int) / 16777216),.int .u8 ((k:Int) / 65536 % 256),.int .u8 ((k:Int) / 256 % 256),.int .u8 ((k:Int) % 256)] 5)
 have hQ:=bequal_any a _ len cap 4 4 bs (PM.w4 k) _ (hr.below hb3) (row4P w1 k hk) D hD
 clear hr hb2 hk hD
 go_wp2_with fail
 refine hQ.mono ?_
 rintro e w3 ⟨rfl,rfl⟩
 have HB:Hid (_):=hb3
 clear hb3 hQ
 go_wp2_with fail
 go_ret2
 exact⟨rfl,HB.out⟩
theorem row2P (w:World) (x y:Nat) (hx:x<256) (hy:y<256):Row8 (w.alloc (.cells #[.int .u8 (x:Int),.int .u8 (y:Int)] 5)) (some ⟨w.heap.size,0,none⟩) 2 2 (fun i=>if i=0 then x else y):=by
 refine row8_new w _ _ _ 2 (fun i _=>?_) (fun i hi=>?_)
 ·by_cases h:i=0
  ·rw[if_pos h];exact hx
  ·rw[if_neg h];exact hy
 ·rcases (show i=0∨i=1 by omega) with rfl | rfl <;> rfl
theorem pe_build (c O I T n k:Nat) (hk:k<14):(if k<10 then (if k<6 then (if k<4 then PM.w4 c k else (if k-4=0 then O else I)) else PM.w4 T (k-6)) else PM.w4 n (k-10))=pe c O I T n k:=by
 unfold pe
 by_cases h1:k<4
 ·rw[if_pos (by omega),if_pos (by omega),if_pos h1,if_pos h1]
 ·by_cases h2:k=4
  ·subst h2;rfl
  ·by_cases h3:k=5
   ·subst h3;rfl
   ·by_cases h4:k<10
    ·rw[if_pos h4,if_neg (by omega),if_neg h1,if_neg h2,if_neg h3,if_pos h4]
    ·rw[if_neg h4,if_neg h1,if_neg h2,if_neg h3,if_neg h4]
set_option maxRecDepth 100000 in
set_option maxHeartbeats 2000000 in
theorem rencode_good (c O I T n:Nat) (w:World) (hc:c<4294967296) (hn:n<4294967296) (hE:okP c O I T n) :
  Calls Tryz.prog 78 #[.agg #[.int .u32 c,.int .i64 O,.int .i64 I,.int .i64 T,.int .u32 n]] w fun e w'=>∃ a cap,e=.returned (.tuple #[.slice a 14 cap,.int .i64 0]) ∧
   Hid (w'.ownsRow w.heap.size 5 1 (.slice a 14 cap) 14 (CB (pe c O I T n) 14)∧Below w.heap.size w w'):=by
 obtain⟨i0,hi,hz0,hz1,hz2⟩:=info_parts info_u8
 obtain⟨_,hO,hI,hT,_⟩:=id hE
 have hA:Below w.heap.size w (w.alloc (.cells #[.int .u32 c,.int .i64 O,.int .i64 I,.int .i64 T,.int .u32 n] 42)):=(Below.refl _ _).alloc (Nat.le_refl _) _
 have hAs:w.heap.size < (w.alloc (.cells #[.int .u32 c,.int .i64 O,.int .i64 I,.int .i64 T,.int .u32 n] 42)).heap.size:=by simp
 have hL:=rlaw_any c O I T n (w.alloc (.cells #[.int .u32 c,.int .i64 O,.int .i64 I,.int .i64 T,.int .u32 n] 42)) true (decide_eq_true hE)
 have hX:=bx_new w c O I T n
 have hby:=pe_lt (c:=c) (o:=O) (i:=I) (t:=T) (n:=n) (by omega) (by omega)
 have hOm:(O:Int) % 256=(O:Int):=by omega
 have hIm:(I:Int) % 256=(I:Int):=by omega
 have hTm:(T:Int) % 4294967296=(T:Int):=by omega
 have hT2:T<4294967296:=by omega
 have hO2:O<256:=by omega
 have hI2:I<256:=by omega
 clear hE hO hI hT
 go_enter Tryz.func78,Tryz.ntmps78
 go_wp2_with fail
 generalize w.alloc (.cells #[.int .u32 c,.int .i64 O,.int .i64 I,.int .i64 T,.int .u32 n] 42)=wa at *
 refine hL.mono ?_
 rintro e w1 ⟨rfl,hb1⟩
 have hs1:=hb1.size
 have hb2:=hb1.alloc hs1 (.cells #[] 5)
 have O2:(w1.alloc (.cells #[] 5)).ownsRow wa.heap.size 5 1 (.slice (some ⟨w1.heap.size,0,none⟩) 0 0) 0 (CB (fun _=>0) 0):=World.ownsRow_made w1 #[] 0 hs1 (Nat.zero_le _) rfl
 have x0:=(hX _ hb2).c0
 clear hL
 go_wp2_with fail
 generalize w1.alloc (.cells #[] 5)=w2 at *
 refine (refWord_any c _ hc).mono ?_
 rintro e u3 ⟨rfl,rfl⟩
 have R3:=row4P w2 c hc
 have P3:=O2.alloc (.cells #[.int .u8 ((c:Int) / 16777216),.int .u8 ((c:Int) / 65536 % 256),.int .u8 ((c:Int) / 256 % 256),.int .u8 ((c:Int) % 256)] 5)
 have hs3:wa.heap.size≤w2.heap.size:=hb2.size
 have B3:=hb2.alloc hs3 (.cells #[.int .u8 ((c:Int) / 16777216),.int .u8 ((c:Int) / 65536 % 256),.int .u8 ((c:Int) / 256 % 256),.int .u8 ((c:Int) % 256)] 5)
 have ht3:=B3.size
 clear O2 hb2
 go_wp2_with (at_builtin;refine wpList_append_row8 rfl (.tmp 8) (.tmp 11) 50 rfl wa.heap.size 5 i0 (.int .u8 0) Tryz.underlying50 hi hz0 hz1 hz2 rfl _ 0 _ rfl P3 _ 4 4 (PM.w4 c) rfl R3 (by unfold maxLen;omega) (by omega) ht3 ?_)
 intro v3 w3 O3 G3
 have C3:Below wa.heap.size wa w3:=B3.grown G3 ht3 (fun j hj=>(P3.lt j hj).1)
 rw[CB_append]at O3
 clear R3 P3 B3 G3
 rw[CB_congr _ (PM.w4 c) _ (fun j _=>by rw[if_neg (by omega),Nat.sub_zero])]at O3
 have x1:=(hX w3 C3).c1
 have x2:=(hX w3 C3).c2
 have R4:=row2P w3 O I hO2 hI2
 have P4:=O3.alloc (.cells #[.int .u8 (O:Int),.int .u8 (I:Int)] 5)
 have hs4:=C3.size
 have B4:=C3.alloc hs4 (.cells #[.int .u8 (O:Int),.int .u8 (I:Int)] 5)
 have ht4:=B4.size
 clear O3 C3
 go_wp2_with (at_builtin;refine wpList_append_row8 rfl (.tmp 13) (.tmp 20) 50 rfl wa.heap.size 5 i0 (.int .u8 0) Tryz.underlying50 hi hz0 hz1 hz2 rfl _ 4 _ rfl P4 _ 2 2 (fun i=>if i=0 then O else I) rfl R4 (by unfold maxLen;omega) (by omega) ht4 ?_)
 intro v4 w4 O4 G4
 have C4:Below wa.heap.size wa w4:=B4.grown G4 ht4 (fun j hj=>(P4.lt j hj).1)
 rw[CB_append]at O4
 clear R4 P4 B4 G4
 have x3:=(hX w4 C4).c3
 go_wp2_with fail
 refine (refWord_any T _ hT2).mono ?_
 rintro e u5 ⟨rfl,rfl⟩
 have R5:=row4P w4 T hT2
 have P5:=O4.alloc (.cells #[.int .u8 ((T:Int) / 16777216),.int .u8 ((T:Int) / 65536 % 256),.int .u8 ((T:Int) / 256 % 256),.int .u8 ((T:Int) % 256)] 5)
 have hs5:wa.heap.size≤w4.heap.size:=C4.size
 have B5:=C4.alloc hs5 (.cells #[.int .u8 ((T:Int) / 16777216),.int .u8 ((T:Int) / 65536 % 256),.int .u8 ((T:Int) / 256 % 256),.int .u8 ((T:Int) % 256)] 5)
 have ht5:=B5.size
 clear O4 C4
 go_wp2_with (at_builtin;refine wpList_append_row8 rfl (.tmp 22) (.tmp 26) 50 rfl wa.heap.size 5 i0 (.int .u8 0) Tryz.underlying50 hi hz0 hz1 hz2 rfl _ 6 _ rfl P5 _ 4 4 (PM.w4 T) rfl R5 (by unfold maxLen;omega) (by omega) ht5 ?_)
 intro v5 w5 O5 G5
 have C5:Below wa.heap.size wa w5:=B5.grown G5 ht5 (fun j hj=>(P5.lt j hj).1)
 rw[CB_append]at O5
 clear R5 P5 B5 G5
 have x4:=(hX w5 C5).c4
 go_wp2_with fail
 refine (refWord_any n _ hn).mono ?_
 rintro e u6 ⟨rfl,rfl⟩
 have R6:=row4P w5 n hn
 have P6:=O5.alloc (.cells #[.int .u8 ((n:Int) / 16777216),.int .u8 ((n:Int) / 65536 % 256),.int .u8 ((n:Int) / 256 % 256),.int .u8 ((n:Int) % 256)] 5)
 have hs6:wa.heap.size≤w5.heap.size:=C5.size
 have B6:=C5.alloc hs6 (.cells #[.int .u8 ((n:Int) / 16777216),.int .u8 ((n:Int) / 65536 % 256),.int .u8 ((n:Int) / 256 % 256),.int .u8 ((n:Int) % 256)] 5)
 have ht6:=B6.size
 clear O5 C5
 go_wp2_with (at_builtin;refine wpList_append_row8 rfl (.tmp 28) (.tmp 31) 50 rfl wa.heap.size 5 i0 (.int .u8 0) Tryz.underlying50 hi hz0 hz1 hz2 rfl _ 10 _ rfl P6 _ 4 4 (PM.w4 n) rfl R6 (by unfold maxLen;omega) (by omega) ht6 ?_)
 intro v6 w6 O6 G6
 have C6:Below wa.heap.size wa w6:=B6.grown G6 ht6 (fun j hj=>(P6.lt j hj).1)
 rw[CB_append]at O6
 clear R6 P6 B6 G6
 rw[CB_congr _ (pe c O I T n) _ (fun j hj=>pe_build c O I T n j (by omega))]at O6
 obtain⟨a7,c7,rfl,_⟩:=own_row8 O6 (fun k _=>hby k)
 have HB:Hid (_):=And.intro (own_base O6 (Nat.le_of_lt hAs)) (hA.trans (C6.mono (Nat.le_of_lt hAs)))
 clear O6 C6 hX x0 x1 x2 x3 x4
 go_wp2_with fail
 go_ret2
 exact⟨a7,c7,rfl,HB.out⟩
set_option maxRecDepth 100000 in
set_option maxHeartbeats 1000000 in
theorem rsign_good (c O I T n:Nat) (w:World) (hc:c<4294967296) (hn:n<4294967296) (hE:okP c O I T n) :
  Calls Tryz.prog 36 #[.agg #[.int .u32 c,.int .i64 O,.int .i64 I,.int .i64 T,.int .u32 n]] w fun e w'=>∃ g,e=.returned (.slice (some ⟨g,0,none⟩) 4 4) ∧
   Hid (Row8 w' (some ⟨g,0,none⟩) 4 4 (PM.w4 (PM.K (pe c O I T n) 14))∧Below w.heap.size w w'):=by
 have hb:Below w.heap.size w (w.alloc (.cells #[.int .u32 c,.int .i64 O,.int .i64 I,.int .i64 T,.int .u32 n] 42)):=(Below.refl _ _).alloc (Nat.le_refl _) _
 have hF:=rencode_good c O I T n (w.alloc (.cells #[.int .u32 c,.int .i64 O,.int .i64 I,.int .i64 T,.int .u32 n] 42)) hc hn hE
 obtain⟨_,hO,hI,_,_⟩:=hE
 have hby:=pe_lt (c:=c) (o:=O) (i:=I) (t:=T) (n:=n) (by omega) (by omega)
 have hk:=PM.K_lt (pe c O I T n) 14
 have hB0:=fun a cap w1 (R1:Row8 w1 a 14 cap (pe c O I T n))=>refSum_row a 14 cap (pe c O I T n) w1 R1 (by omega)
 obtain⟨k,hkd⟩:∃ k,k=PM.K (pe c O I T n) 14:=⟨_,rfl⟩
 rw[← hkd]at hk hB0 ⊢
 clear hO hI hkd
 go_enter Tryz.func36,Tryz.ntmps36
 go_wp2_with fail
 refine hF.mono ?_
 rintro e w1 ⟨a,cap,rfl,H1⟩
 obtain⟨O1,hb1⟩:=H1.out
 have hb2:=below_all hb hb.size hb1
 obtain⟨a1,c1,e1,R1⟩:=own_row8 O1 (fun k _=>hby k)
 simp only[Value.slice.injEq,true_and]at e1
 obtain⟨rfl,rfl⟩:=e1
 have hB:=hB0 _ _ w1 R1
 clear hb hF hb1 H1 O1 R1 hby hB0
 go_wp2_with fail
 refine hB.mono ?_
 rintro e w2 ⟨rfl,hb3'⟩
 have hb3:=below_all hb2 hb2.size hb3'
 clear hB hb3' hb2
 go_wp2_with fail
 refine (refWord_any k _ hk).mono ?_
 rintro e w4 ⟨rfl,rfl⟩
 have HB:Hid (_):=And.intro (row4P w2 k hk) (hb3.alloc hb3.size (.cells #[.int .u8 ((k:Int) / 16777216),.int .u8 ((k:Int) / 65536 % 256),.int .u8 ((k:Int) / 256 % 256),.int .u8 ((k:Int) % 256)] 5))
 clear hb3 hk
 go_wp2_with fail
 go_ret
 exact⟨_,rfl,HB.out⟩
set_option maxHeartbeats 3200000 in
theorem flags_any (d m g n mx:Nat) (P:Pm) (U:List Nat) (s:Sd) (w:World) (h:DV w d m g n mx P U s) :
  Calls Tryz.prog 198 #[.pointer (some ⟨d,9,none⟩)] w fun e w'=>e=.returned (.int .i64 (dflags s:Nat))∧Below w.heap.size w w':=by
 obtain⟨B,h⟩:=h
 have c10:=h.cells.2.2.2.2.2.2.2.2.2.2.1
 have c17:=h.cells.2.2.2.2.2.2.2.2.2.2.2.2.2.2.2.2.2
 have H:Hid (_):=h
 clear h
 unfold dflags
 cases h1:von s.v <;> cases h2:vreq s.v <;> by_cases h3:s.v.lat=0 <;> cases h4:s.hd
 all_goals
  rw[h4]at c17
  go_enter Tryz.func198,Tryz.ntmps198
  go_wp2_with fail
  refine (vout_any _ _ _ _ _ _ H.out.val).mono ?_
  rintro e w2 ⟨v2,rfl,h5⟩
  rw[h1]
  have hb:=h5.out.2
  have x2:=H.out.newd (Off.of_below hb)
  have e10:=x2.cells.2.2.2.2.2.2.2.2.2.2.1
  have e17:=x2.cells.2.2.2.2.2.2.2.2.2.2.2.2.2.2.2.2.2
  have q1:=vreq_any _ _ _ _ _ _ x2.val
  have q2:=vlat_any _ _ _ _ _ _ x2.val
  rw[h2]at q1
  rw[h4]at e17
  first
   | rw[h3]at q2
   | skip
  have HB:Hid (_):=hb
  clear H h5 hb x2 c10 c17
  go_wp2_with (first | (go_at_call 57;refine q1.mono ?_;rintro e w' ⟨rfl,hw⟩;have hw:=hw.symm;subst hw) | (go_at_call 56;refine q2.mono ?_;rintro e w' ⟨rfl,hw⟩;have hw:=hw.symm;subst hw))
  go_ret
  exact⟨by first | rfl | (simp[h3];done) | (simp[h3];rfl),HB.out⟩
def Fr (w:World) (M:Nat) (v:Value) (f:Fm):Prop:=w.ownsRow M 5 1 v f.1 (CB f.2 f.1)
theorem own_nil (w:World) (M e:Nat):w.ownsRow M e 1 (.slice none 0 0) 0 (CB (fun _=>0) 0):=World.ownsRow_nil w M e 1
set_option maxHeartbeats 3200000 in
theorem say_any (d m g n mx:Nat) (P:Pm) (U:List Nat) (s:Sd) (k num fl:Nat) (a:Option Addr) (len cap:Nat) (bs:Nat→Nat) (w:World) (h:DV w d m g n mx P U s) (hr:Row8 w a len cap bs) :
  Calls Tryz.prog 197 #[.pointer (some ⟨d,0,none⟩),.agg #[.int .i64 (k:Nat),.int .u32 0,.int .u32 0,.int .u32 (num:Nat),.int .i64 (fl:Nat),.slice a len cap]] w fun e w'=>∃ v,e=.returned v∧Hid (Fr w' w.heap.size v (dsay P s k num fl len bs)∧Below w.heap.size w w'):=by
 obtain⟨B,h⟩:=h
 obtain⟨c0,_,_,_,_,_,_,_,_,_,_,_,c12,_⟩:=h.cells
 have hlt:=h.dlt
 have hne:¬ d=w.heap.size:=by omega
 have hne':¬ w.heap.size=d:=by omega
 clear h
 have fin:∀ w3,Below w.heap.size w w3→Calls Tryz.prog 66 #[.agg #[.int .i64 (k:Nat),.int .u32 (P.c:Nat),.int .u32 (s.ss:Nat),.int .u32 (num:Nat),.int .i64 (fl:Nat),.slice a len cap]] w3 fun e w'=>∃ v E,e=.returned (.tuple #[v,.int .i64 E])∧Hid (Fr w' w.heap.size v (dsay P s k num fl len bs)∧Below w.heap.size w w'):=by
  intro w3 h3
  unfold dsay encF
  by_cases hE:LW k P.c s.ss num fl len len=0
  ·rw[if_pos hE]
   refine (encode_good k P.c s.ss num fl a len cap bs w3 (hr.below h3) hE).mono ?_
   rintro e w' ⟨v,rfl,h4⟩
   exact⟨v,0,rfl,own_base h4.out.1 h3.size,h3.trans (h4.out.2.mono h3.size)⟩
  ·rw[if_neg hE]
   refine (encode_bad k P.c s.ss num fl a len cap w3 hE).mono ?_
   rintro e w' ⟨rfl,h4⟩
   exact⟨_,_,rfl,own_nil _ _ _,h3.trans (h4.mono h3.size)⟩
 clear hr
 go_enter Tryz.func197,Tryz.ntmps197
 go_wp2_with fail
 go_region_with fail
 all_goals
  go_wp2_with fail
  refine (fin _ ?_).mono ?_
  ·exact Below.drew ((Below.refl _ _).alloc (Nat.le_refl _) _)
  ·rintro e w4 ⟨v,E,rfl,h4⟩
   clear fin
   go_wp2_with fail
   go_ret
   exact⟨v,rfl,h4⟩
theorem row_nilX (w:World) (bs:Nat→Nat):Row8 w none 0 0 bs:=⟨fun i hi=>by omega,fun _=>⟨rfl,rfl⟩,(fun x hx=>by cases hx),Nat.le_refl _⟩
theorem DV.below {w w':World} {d m g n mx:Nat} {P:Pm} {U:List Nat} {s:Sd} (h:DV w d m g n mx P U s) (hb:Below w.heap.size w w'):DV w' d m g n mx P U s:=by
 obtain⟨B,h⟩:=h
 exact⟨B,h.newd (Off.of_below hb)⟩
set_option maxHeartbeats 1600000 in
theorem none_any (d m g n mx:Nat) (P:Pm) (U:List Nat) (s:Sd) (w:World) (h:DV w d m g n mx P U s) :
  Calls Tryz.prog 194 #[.pointer (some ⟨d,0,none⟩)] w fun e w'=>∃ v,e=.returned v∧Hid (Fr w' w.heap.size v (dnone P s)∧Below w.heap.size w w'):=by
 have hS:=say_any d m g n mx P U s 22 0 0 none 0 0 (fun _=>0) w h (row_nilX _ _)
 clear h
 go_enter Tryz.func194,Tryz.ntmps194
 go_wp2_with fail
 refine hS.mono ?_
 rintro e w2 ⟨v,rfl,h2⟩
 clear hS
 go_wp2_with fail
 go_ret
 exact⟨v,rfl,h2⟩
set_option maxHeartbeats 1600000 in
theorem offer_any (d m g n mx:Nat) (P:Pm) (U:List Nat) (s:Sd) (w:World) (h:DV w d m g n mx P U s) :
  Calls Tryz.prog 193 #[.pointer (some ⟨d,0,none⟩)] w fun e w'=>∃ v,e=.returned v∧Hid (Fr w' w.heap.size v (doffer P s)∧Below w.heap.size w w'):=by
 obtain⟨B,h0⟩:=id h
 obtain⟨c0,c1,c2,c3,c4,_⟩:=h0.cells
 have hG:=psig_good P.c P.o P.i P.t P.n w h0.pok.c h0.pok.n h0.pok.ok
 have H:Hid (_):=h
 clear h h0
 go_enter Tryz.func193,Tryz.ntmps193
 go_wp2_with fail
 refine hG.mono ?_
 rintro e w2 ⟨rfl,b2⟩
 have K:=PM.K_lt (pe P.c P.o P.i P.t P.n) 14
 have hr:=row4P w2 (PM.K (pe P.c P.o P.i P.t P.n) 14) K
 have hB:=bytes4_any (PM.K (pe P.c P.o P.i P.t P.n) 14) w2 K
 have b3:Below w2.heap.size w2 (w2.alloc (.cells #[.int .u8 ((PM.K (pe P.c P.o P.i P.t P.n) 14:Nat) / 16777216:Int),.int .u8 ((PM.K (pe P.c P.o P.i P.t P.n) 14:Nat) / 65536 % 256:Int),.int .u8 ((PM.K (pe P.c P.o P.i P.t P.n) 14:Nat) / 256 % 256:Int),.int .u8 ((PM.K (pe P.c P.o P.i P.t P.n) 14:Nat) % 256:Int)] 5)):=(Below.refl _ _).alloc (Nat.le_refl _) _
 have b4:=b2.trans (b3.mono b2.size)
 have hS:=say_any d m g n mx P U s 17 0 0 (some ⟨w2.heap.size,0,none⟩) 4 4 (dsg P) _ (DV.below H.out b4) hr
 have HB:Hid (_):=b4
 clear hG b2 b3 b4 hr K c0 c1 c2 c3 c4 H
 generalize PM.K (pe P.c P.o P.i P.t P.n) 14=K at *
 go_wp2_with fail
 refine hB.mono ?_
 rintro e w3 ⟨rfl,rfl⟩
 clear hB
 go_wp2_with fail
 refine hS.mono ?_
 rintro e w4 ⟨v,rfl,h4⟩
 have H4:Hid (Fr w4 w.heap.size v (doffer P s)∧Below w.heap.size w w4):=⟨own_base h4.out.1 HB.out.size,HB.out.trans (h4.out.2.mono HB.out.size)⟩
 clear hS h4 HB
 go_wp2_with fail
 go_ret
 exact⟨v,rfl,H4⟩
set_option maxHeartbeats 1600000 in
theorem signed_any (d m g n mx:Nat) (P:Pm) (U:List Nat) (s:Sd) (a:Option Addr) (len cap:Nat) (bs:Nat→Nat) (w:World) (h:DV w d m g n mx P U s) (hr:Row8 w a len cap bs) :
  Calls Tryz.prog 191 #[.pointer (some ⟨d,0,none⟩),.slice a len cap] w fun e w'=>e=.returned (.bool (dsigned P len bs))∧Below w.heap.size w w':=by
 obtain⟨B,h⟩:=h
 obtain⟨c0,c1,c2,c3,c4,_⟩:=h.cells
 have hG:=pmatch_good P.c P.o P.i P.t P.n a len cap bs w hr h.pok.c h.pok.n h.pok.ok (dsigned P len bs) rfl
 clear h hr
 go_enter Tryz.func191,Tryz.ntmps191
 go_wp2_with fail
 refine hG.mono ?_
 rintro e w2 ⟨rfl,b2⟩
 clear hG
 go_wp2_with fail
 go_ret
 exact⟨rfl,b2⟩
def Out (U:List Nat) (w w':World) (d m g n mx:Nat) (P:Pm) (s:Sd) (f:Fm) (v:Value):Prop:=
 ∃ U',Gr U w U' w'∧DV w' d m g n mx P U' s∧Fr w' w.heap.size v f∧∀ k,v.ownBlock=some k→k ∉ U'
theorem DV.ult {w:World} {d m g n mx:Nat} {P:Pm} {U:List Nat} {s:Sd} (h:DV w d m g n mx P U s) (k:Nat) (hk:k ∈ U):k<w.heap.size:=by
 obtain⟨B,h⟩:=h
 exact h.ltU k hk
theorem Fr.ge {w:World} {M:Nat} {v:Value} {f:Fm} (h:Fr w M v f) (k:Nat) (hk:v.ownBlock=some k):M≤k:=by
 rcases h.2 with hn | ⟨g',cap',cur',rfl,hg',_⟩
 ·rw[hn.1]at hk;cases hk
 ·cases hk;exact hg'
theorem Out.mk {U U1:List Nat} {w w1 w2:World} {d m g n mx:Nat} {P:Pm} {s:Sd} {f:Fm} {v:Value} (h:Gr U w U1 w1) (x:DV w1 d m g n mx P U1 s) (hf:Fr w2 w1.heap.size v f) (hb:Below w1.heap.size w1 w2):Out U w w2 d m g n mx P s f v:=
 ⟨U1,h.trans (Gr.below hb),x.below hb,own_base hf h.off.size,fun k hk hm=>by have:=x.ult k hm;have:=hf.ge k hk;omega⟩
theorem Out.pre {U U1:List Nat} {w w1 w2:World} {d m g n mx:Nat} {P:Pm} {s:Sd} {f:Fm} {v:Value} (h:Gr U w U1 w1) (x:Out U1 w1 w2 d m g n mx P s f v):Out U w w2 d m g n mx P s f v:=by
 obtain⟨U',g2,x2,f2,k2⟩:=x
 exact⟨U',h.trans g2,x2,own_base f2 h.off.size,k2⟩
theorem Out.none_ {U U1:List Nat} {w w1:World} {d m g n mx:Nat} {P:Pm} {s:Sd} (h:Gr U w U1 w1) (x:DV w1 d m g n mx P U1 s):Out U w w1 d m g n mx P s fm0 (.slice none 0 0):=
 ⟨U1,h,x,own_nil _ _ _,fun k hk=>by cases hk⟩
set_option maxHeartbeats 1600000 in
theorem countOdd_any (d m g n mx:Nat) (P:Pm) (U:List Nat) (s:Sd) (w:World) (h:DV w d m g n mx P U s) (hs:s.st≠6) (ho:s.od<4) (hL:s.L.length<900000) :
  Calls Tryz.prog 192 #[.pointer (some ⟨d,0,none⟩)] w fun e w'=>e=.returned (.tuple #[])∧Hid (∃ U',Gr U w U' w'∧DV w' d m g n mx P U' (dodd s)):=by
 obtain⟨B,h⟩:=h
 have c11:=h.cells.2.2.2.2.2.2.2.2.2.2.2.1
 have c15:=h.cells.2.2.2.2.2.2.2.2.2.2.2.2.2.2.2.1
 have z15:=h.fz 15
 have hI:=inSession_any d s.st w c11
 unfold dodd
 by_cases hb:dbusy s=true
 ·rw[if_pos hb]
  rw[show decide (s.st=2∨s.st=3∨s.st=4)=true from hb]at hI
  obtain⟨od1,hod⟩:∃ k,s.od+1=k:=⟨_,rfl⟩
  rw[hod]
  have o1:=Off.setCell d 15 w (.int .i64 (od1:Int))
  have x1:=h.own o1 (s':={ s with od:=od1 }) (heap_setCell_same _ _ _ _ _ _ h.dev) rfl rfl rfl rfl rfl id
  have g1:Gr U w U (w.setCell ⟨d,15,none⟩ (.int .i64 (od1:Int))):=Gr.same o1 (by simp[h.kd.2])
  have e1:(s.od:Int)+1=(od1:Int):=by omega
  clear hod
  by_cases h4:od1<4
  ·rw[if_pos h4]
   have h4':(od1:Int)<4:=by omega
   have H:Hid (_):=And.intro g1 x1
   clear h hb o1 x1 g1 hL h4 hs
   go_enter Tryz.func192,Tryz.ntmps192
   go_wp2_with (go_at_call 222;refine hI.mono ?_;rintro e w' ⟨rfl,hw⟩;have hw:=hw.symm;subst hw)
   all_goals
    refine bodyPost_ret (results_none rfl _ _ _) rfl ?_
    exact⟨rfl,U,H.out.1,B,H.out.2⟩
  ·rw[if_neg h4]
   have h4':¬ (od1:Int)<4:=by omega
   by_cases hr:s.st=4
   ·rw[if_pos hr]
    have hr':((s.st:Nat):Int)=4:=by omega
    have hT:=dvlatch_any d m g n mx P U { s with od:=od1 } 131 _ ⟨B,x1⟩ (by omega) (by decide) hL
    rw[hr]at c11
    have H:Hid (_):=g1
    have HS:Hid (_):=hs
    clear h hb o1 x1 g1 hL h4 hr' hs
    go_enter Tryz.func192,Tryz.ntmps192
    go_wp2_with (first | (go_at_call 222;refine hI.mono ?_;rintro e w' ⟨rfl,hw⟩;have hw:=hw.symm;subst hw) | (go_at_call 42;refine hT.mono ?_;rintro e w2 ⟨rfl,h2⟩))
    obtain⟨U2,g2,x2⟩:=h2.out
    have hst:(dlatch { s with od:=od1 } 131).st≠6:=by unfold dlatch;split <;> exact HS.out
    have hV:=leave_any d m g n mx P U2 _ 1 w2 x2 hst
    have H2:Hid (_):=H.out.trans g2
    clear hT hI h2 g2 x2 c11 c15 z15 H HS hst
    go_wp2_with (go_at_call 223;refine hV.mono ?_;rintro e w3 ⟨rfl,h3⟩)
    go_end0
    obtain⟨U3,g3,x3⟩:=h3.out
    exact⟨rfl,U3,H2.out.trans g3,x3⟩
   ·rw[if_neg hr]
    have hr':(((s.st:Nat):Int) == 4)=false:=by simp;omega
    have hV:=leave_any d m g n mx P U { s with od:=od1 } 1 _ ⟨B,x1⟩ hs
    have H:Hid (_):=g1
    clear h hb o1 x1 g1 hL h4 hr hs
    go_enter Tryz.func192,Tryz.ntmps192
    go_wp2_with (first | (go_at_call 222;refine hI.mono ?_;rintro e w' ⟨rfl,hw⟩;have hw:=hw.symm;subst hw) | (go_at_call 223;refine hV.mono ?_;rintro e w3 ⟨rfl,h3⟩))
    go_end0
    obtain⟨U3,g3,x3⟩:=h3.out
    exact⟨rfl,U3,H.out.trans g3,x3⟩
 ·rw[if_neg hb]
  have hb':dbusy s=false:=by simpa using hb
  rw[show decide (s.st=2∨s.st=3∨s.st=4)=false from hb']at hI
  have H:Hid (_):=h
  clear h hb hb' c15 z15
  go_enter Tryz.func192,Tryz.ntmps192
  go_wp2_with (go_at_call 222;refine hI.mono ?_;rintro e w' ⟨rfl,hw⟩;have hw:=hw.symm;subst hw)
  all_goals
   refine bodyPost_ret (results_none rfl _ _ _) rfl ?_
   exact⟨rfl,U,Gr.refl _ _,B,H.out⟩
set_option maxHeartbeats 1600000 in
theorem refuse_any (d m g n mx:Nat) (P:Pm) (U:List Nat) (s:Sd) (x:Int) (w:World) (h:DV w d m g n mx P U s) (hs:s.st≠6) (ho:s.od<4) (hL:s.L.length<900000) :
  Calls Tryz.prog 149 #[.pointer (some ⟨d,0,none⟩),.int .i64 x] w fun e w'=>∃ v,e=.returned (.tuple #[v,.int .i64 x])∧Hid (Out U w w' d m g n mx P (dodd s) (dnone P (dodd s)) v):=by
 have hC:=countOdd_any d m g n mx P U s w h hs ho hL
 clear h hs ho hL
 go_enter Tryz.func149,Tryz.ntmps149
 go_wp2_with (go_at_call 192;refine hC.mono ?_;rintro e w2 ⟨rfl,h2⟩)
 obtain⟨U2,g2,x2⟩:=h2.out
 have hN:=none_any d m g n mx P U2 _ w2 x2
 have H:Hid (_):=And.intro g2 x2
 clear hC h2 g2 x2
 go_wp2_with (go_at_call 194;refine hN.mono ?_;rintro e w3 ⟨v,rfl,h3⟩)
 go_ret2
 exact⟨v,rfl,Out.mk H.out.1 H.out.2 h3.out.1 h3.out.2⟩
end Go.Proofs.YthbogkaoidbpgaaGreat
