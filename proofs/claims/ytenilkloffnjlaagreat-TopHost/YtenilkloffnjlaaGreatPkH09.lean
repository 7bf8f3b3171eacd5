/- Part 10: contracts that the proof rests on. -/
import Derived.Test.YtenilkloffnjlaaGreatPkH07
set_option maxHeartbeats 64000000
set_option maxRecDepth 100000
namespace Go.Proofs.YtenilkloffnjlaaGreat
open Tryz
open Go.RowKit
theorem kQ {k:Int} (h:1≤k∧k≤5):eJ k=true:=decide_eq_true h
theorem fh {k:Int} (h:¬ (1≤k∧k≤5)):eJ k=false:=decide_eq_false h
theorem ma {k:Int} (h:17≤k∧k≤22):fE k=true:=decide_eq_true h
theorem fQ {k:Int} (h:¬ (17≤k∧k≤22)):fE k=false:=decide_eq_false h
theorem fY (k:Int) (w:World):Calls prog 173 #[.int .i64 k] w fun e w'=>e=.returned (.bool (eJ k))∧w'=w:=by
 by_cases h1:1≤k
 ·by_cases h2:k≤5
  ·rw[kQ ⟨h1,h2⟩]
   go_enter func173,ntmps173
   go_wp2
   go_ret
   exact⟨rfl,rfl⟩
  ·rw[fh (by omega)]
   go_enter func173,ntmps173
   go_wp2
   go_ret
   exact⟨rfl,rfl⟩
 ·rw[fh (by omega)]
  go_enter func173,ntmps173
  go_wp2
  go_ret
  exact⟨rfl,rfl⟩
theorem gx (k:Int) (w:World):Calls prog 165 #[.int .i64 k] w fun e w'=>e=.returned (.bool (fE k))∧w'=w:=by
 by_cases h1:17≤k
 ·by_cases h2:k≤22
  ·rw[ma ⟨h1,h2⟩]
   go_enter func165,ntmps165
   go_wp2
   go_ret
   exact⟨rfl,rfl⟩
  ·rw[fQ (by omega)]
   go_enter func165,ntmps165
   go_wp2
   go_ret
   exact⟨rfl,rfl⟩
 ·rw[fQ (by omega)]
  go_enter func165,ntmps165
  go_wp2
  go_ret
  exact⟨rfl,rfl⟩
theorem ql (k:Int) (w:World):Calls prog 91 #[.int .i64 k] w fun e w'=>e=.returned (.bool (eJ k))∧w'=w:=by
 by_cases h1:1≤k
 ·by_cases h2:k≤5
  ·rw[kQ ⟨h1,h2⟩]
   go_enter func91,ntmps91
   go_wp2
   go_ret
   exact⟨rfl,rfl⟩
  ·rw[fh (by omega)]
   go_enter func91,ntmps91
   go_wp2
   go_ret
   exact⟨rfl,rfl⟩
 ·rw[fh (by omega)]
  go_enter func91,ntmps91
  go_wp2
  go_ret
  exact⟨rfl,rfl⟩
theorem lR (k:Int) (w:World):Calls prog 92 #[.int .i64 k] w fun e w'=>e=.returned (.bool (fE k))∧w'=w:=by
 by_cases h1:17≤k
 ·by_cases h2:k≤22
  ·rw[ma ⟨h1,h2⟩]
   go_enter func92,ntmps92
   go_wp2
   go_ret
   exact⟨rfl,rfl⟩
  ·rw[fQ (by omega)]
   go_enter func92,ntmps92
   go_wp2
   go_ret
   exact⟨rfl,rfl⟩
 ·rw[fQ (by omega)]
  go_enter func92,ntmps92
  go_wp2
  go_ret
  exact⟨rfl,rfl⟩
theorem abH {k:Int} (h:k=1∨k=2∨k=17):dR k=1:=if_pos h
theorem abI {k:Int} (h:k=4∨k=20):dR k=2:=by unfold dR;rw[if_neg (by omega),if_pos h]
theorem zO {k:Int} (h:¬ (k=1∨k=2∨k=17)) (h2:¬ (k=4∨k=20)):dR k=0:=by unfold dR;rw[if_neg h,if_neg h2]
theorem qR (k:Int):dR k=0∨dR k=1∨dR k=2:=by
 unfold dR
 by_cases h:k=1∨k=2∨k=17
 ·rw[if_pos h];omega
 ·rw[if_neg h]
  by_cases h2:k=4∨k=20
  ·rw[if_pos h2];omega
  ·rw[if_neg h2];omega
theorem fq (k:Int) (w:World):Calls prog 221 #[.int .i64 k] w fun e w'=>e=.returned (.int .i64 (dR k:Nat))∧w'=w:=by
 by_cases h1:k=1
 ·subst h1
  go_enter func221,ntmps221
  go_wp2
  go_ret
  exact⟨rfl,rfl⟩
 ·by_cases h2:k=2
  ·subst h2
   go_enter func221,ntmps221
   go_wp2
   go_ret
   exact⟨rfl,rfl⟩
  ·by_cases h3:k=17
   ·subst h3
    go_enter func221,ntmps221
    go_wp2
    go_ret
    exact⟨rfl,rfl⟩
   ·by_cases h4:k=4
    ·subst h4
     go_enter func221,ntmps221
     go_wp2
     go_ret
     exact⟨rfl,rfl⟩
    ·by_cases h5:k=20
     ·subst h5
      go_enter func221,ntmps221
      go_wp2
      go_ret
      exact⟨rfl,rfl⟩
     ·rw[zO (by omega) (by omega)]
      go_enter func221,ntmps221
      go_wp2
      go_ret
      exact⟨rfl,rfl⟩
theorem vQ {k n:Int} (h:dR k=0):dX k n=decide (n=0):=by unfold dX;rw[if_neg (by omega),if_neg (by omega)]
theorem vR {k n:Int} (h:dR k=1):dX k n=decide (n=4):=by unfold dX;rw[if_pos h]
theorem vS {k n:Int} (h:dR k=2):dX k n=decide (1≤n∧n≤8):=by unfold dX;rw[if_neg (by omega),if_pos h]
theorem jR (k n:Int) (w:World):Calls prog 189 #[.int .i64 k,.int .i64 n] w fun e w'=>e=.returned (.bool (dX k n))∧w'=w:=by
 have hC:=fq k w
 rcases qR k with h | h | h
 ·rw[vQ h]
  rw[h]at hC
  clear h
  by_cases hn:n=0
  ·rw[decide_eq_true hn]
   subst hn
   go_enter func189,ntmps189
   go_wp2_with (go_at_call 221;refine hC.mono ?_;rintro e w' ⟨rfl,rfl⟩)
   go_ret
   exact⟨rfl,rfl⟩
  ·rw[decide_eq_false hn]
   have hq:(n == 0)=false:=by simpa using hn
   go_enter func189,ntmps189
   go_wp2_with (go_at_call 221;refine hC.mono ?_;rintro e w' ⟨rfl,rfl⟩)
   go_ret
   exact⟨rfl,rfl⟩
 ·rw[vR h]
  rw[h]at hC
  clear h
  by_cases hn:n=4
  ·rw[decide_eq_true hn]
   subst hn
   go_enter func189,ntmps189
   go_wp2_with (go_at_call 221;refine hC.mono ?_;rintro e w' ⟨rfl,rfl⟩)
   go_ret
   exact⟨rfl,rfl⟩
  ·rw[decide_eq_false hn]
   have hq:(n == 4)=false:=by simpa using hn
   go_enter func189,ntmps189
   go_wp2_with (go_at_call 221;refine hC.mono ?_;rintro e w' ⟨rfl,rfl⟩)
   go_ret
   exact⟨rfl,rfl⟩
 ·rw[vS h]
  rw[h]at hC
  clear h
  by_cases hn:1≤n
  ·by_cases hn2:n≤8
   ·rw[decide_eq_true ⟨hn,hn2⟩]
    have hq:decide (n≤8)=true:=decide_eq_true hn2
    go_enter func189,ntmps189
    go_wp2_with (go_at_call 221;refine hC.mono ?_;rintro e w' ⟨rfl,rfl⟩)
    go_ret
    exact⟨rfl,rfl⟩
   ·rw[decide_eq_false (by omega)]
    have hq:decide (n≤8)=false:=decide_eq_false hn2
    go_enter func189,ntmps189
    go_wp2_with (go_at_call 221;refine hC.mono ?_;rintro e w' ⟨rfl,rfl⟩)
    go_ret
    exact⟨rfl,rfl⟩
  ·rw[decide_eq_false (by omega)]
   have hq:decide (1≤n)=false:=decide_eq_false hn
   go_enter func189,ntmps189
   go_wp2_with (go_at_call 221;refine hC.mono ?_;rintro e w' ⟨rfl,rfl⟩)
   go_ret
   exact⟨rfl,rfl⟩
theorem iA (k:Int) (s:Nat) (w:World):Calls prog 190 #[.int .i64 k,.int .u32 s] w fun e w'=>e=.returned (.bool (dy k s))∧w'=w:=by
 by_cases h1:k=1
 ·subst h1
  rw[show dy 1 s=decide ((s:Int)=0) from rfl]
  by_cases hs:(s:Int)=0
  ·rw[decide_eq_true hs,hs]
   go_enter func190,ntmps190
   go_wp2
   go_ret
   exact⟨rfl,rfl⟩
  ·rw[decide_eq_false hs]
   have hq:((s:Int) == 0)=false:=by simpa using hs
   go_enter func190,ntmps190
   go_wp2
   go_ret
   exact⟨rfl,rfl⟩
 ·by_cases h2:k=22
  ·subst h2
   go_enter func190,ntmps190
   go_wp2
   go_ret
   exact⟨rfl,rfl⟩
  ·rw[show dy k s=decide ((s:Int)≠0) by unfold dy;rw[if_neg h1,if_neg h2]]
   by_cases hs:(s:Int)=0
   ·rw[decide_eq_false (fun e=>e hs),hs]
    go_enter func190,ntmps190
    go_wp2
    go_ret
    exact⟨rfl,rfl⟩
   ·rw[decide_eq_true hs]
    have hq:((s:Int) != 0)=true:=by simpa using hs
    go_enter func190,ntmps190
    go_wp2
    go_ret
    exact⟨rfl,rfl⟩
theorem lO (k:Int) (w:World):Calls prog 191 #[.int .i64 k] w fun e w'=>e=.returned (.bool (iN k))∧w'=w:=by
 have hC:=fq k w
 by_cases h2:dR k=2
 ·rw[show iN k=true from decide_eq_true (Or.inl h2)]
  rw[h2]at hC
  clear h2
  go_enter func191,ntmps191
  go_wp2_with (go_at_call 221;refine hC.mono ?_;rintro e w' ⟨rfl,rfl⟩)
  go_ret
  exact⟨rfl,rfl⟩
 ·have hc2:((dR k:Int) == 2)=false:=by simp;omega
  by_cases h5:k=5
  ·subst h5
   rw[show iN 5=true from rfl]
   go_enter func191,ntmps191
   go_wp2_with (go_at_call 221;refine hC.mono ?_;rintro e w' ⟨rfl,rfl⟩)
   go_ret
   exact⟨rfl,rfl⟩
  ·by_cases h21:k=21
   ·subst h21
    rw[show iN 21=true from rfl]
    go_enter func191,ntmps191
    go_wp2_with (go_at_call 221;refine hC.mono ?_;rintro e w' ⟨rfl,rfl⟩)
    go_ret
    exact⟨rfl,rfl⟩
   ·rw[show iN k=false from decide_eq_false (by omega)]
    have hq5:(k == 5)=false:=by simpa using h5
    have hq21:(k == 21)=false:=by simpa using h21
    generalize dR k=c at *
    go_enter func191,ntmps191
    go_wp2_with (go_at_call 221;refine hC.mono ?_;rintro e w' ⟨rfl,rfl⟩)
    go_ret
    exact⟨rfl,rfl⟩
theorem lQ (k:Int) (w:World):Calls prog 192 #[.int .i64 k] w fun e w'=>e=.returned (.int .i64 (sE k))∧w'=w:=by
 have hC:=fq k w
 by_cases h2:dR k=2
 ·rw[show sE k=15 from if_pos h2]
  rw[h2]at hC
  clear h2
  go_enter func192,ntmps192
  go_wp2_with (go_at_call 221;refine hC.mono ?_;rintro e w' ⟨rfl,rfl⟩)
  go_ret
  exact⟨rfl,rfl⟩
 ·have hc2:((dR k:Int) == 2)=false:=by simp;omega
  rw[show sE k=0 from if_neg h2]
  generalize dR k=c at *
  go_enter func192,ntmps192
  go_wp2_with (go_at_call 221;refine hC.mono ?_;rintro e w' ⟨rfl,rfl⟩)
  go_ret
  exact⟨rfl,rfl⟩
theorem qi (k n:Int) (w:World):Calls prog 93 #[.int .i64 k,.int .i64 n] w fun e w'=>e=.returned (.bool (dX k n))∧w'=w:=by
 by_cases h:k=1∨k=2∨k=17
 ·rw[vR (abH h)]
  by_cases hn:n=4
  ·rw[decide_eq_true hn]
   subst hn
   rcases h with rfl | rfl | rfl
   all_goals
    go_enter func93,ntmps93
    go_wp2
    go_ret
    exact⟨rfl,rfl⟩
  ·rw[decide_eq_false hn]
   have hq:(n == 4)=false:=by simpa using hn
   rcases h with rfl | rfl | rfl
   all_goals
    go_enter func93,ntmps93
    go_wp2
    go_ret
    exact⟨rfl,rfl⟩
 ·by_cases h2:k=4∨k=20
  ·rw[vS (abI h2)]
   clear h
   by_cases hn:1≤n
   ·by_cases hn2:n≤8
    ·rw[decide_eq_true ⟨hn,hn2⟩]
     have hq:decide (n≤8)=true:=decide_eq_true hn2
     rcases h2 with rfl | rfl
     all_goals
      go_enter func93,ntmps93
      go_wp2
      go_ret
      exact⟨rfl,rfl⟩
    ·rw[decide_eq_false (by omega)]
     have hq:decide (n≤8)=false:=decide_eq_false hn2
     rcases h2 with rfl | rfl
     all_goals
      go_enter func93,ntmps93
      go_wp2
      go_ret
      exact⟨rfl,rfl⟩
   ·rw[decide_eq_false (by omega)]
    have hq:decide (1≤n)=false:=decide_eq_false hn
    rcases h2 with rfl | rfl
    all_goals
     go_enter func93,ntmps93
     go_wp2
     go_ret
     exact⟨rfl,rfl⟩
  ·rw[vQ (zO h h2)]
   have e1:¬ k=1:=by omega
   have e2:¬ k=2:=by omega
   have e3:¬ k=17:=by omega
   have e4:¬ k=4:=by omega
   have e5:¬ k=20:=by omega
   clear h h2
   by_cases hn:n=0
   ·rw[decide_eq_true hn]
    subst hn
    go_enter func93,ntmps93
    go_wp2
    go_ret
    exact⟨rfl,rfl⟩
   ·rw[decide_eq_false hn]
    have hq:(n == 0)=false:=by simpa using hn
    go_enter func93,ntmps93
    go_wp2
    go_ret
    exact⟨rfl,rfl⟩
end Go.Proofs.YtenilkloffnjlaaGreat
