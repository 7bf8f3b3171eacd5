/- Part 10: contracts that the proof rests on. -/
import Derived.Test.YtenilkloffnjlaaGreatPkD07
set_option maxHeartbeats 64000000
set_option maxRecDepth 100000
namespace Go.Proofs.YtenilkloffnjlaaGreat
open Tryz
open Go.RowKit
theorem kL {k:Int} (h:1≤k∧k≤5):eK k=true:=decide_eq_true h
theorem fp {k:Int} (h:¬ (1≤k∧k≤5)):eK k=false:=decide_eq_false h
theorem lT {k:Int} (h:17≤k∧k≤22):fR k=true:=decide_eq_true h
theorem fS {k:Int} (h:¬ (17≤k∧k≤22)):fR k=false:=decide_eq_false h
theorem gd (k:Int) (w:World):Calls prog 173 #[.int .i64 k] w fun e w'=>e=.returned (.bool (eK k))∧w'=w:=by
 by_cases h1:1≤k
 ·by_cases h2:k≤5
  ·rw[kL ⟨h1,h2⟩]
   go_enter func173,ntmps173
   go_wp2
   go_ret
   exact⟨rfl,rfl⟩
  ·rw[fp (by omega)]
   go_enter func173,ntmps173
   go_wp2
   go_ret
   exact⟨rfl,rfl⟩
 ·rw[fp (by omega)]
  go_enter func173,ntmps173
  go_wp2
  go_ret
  exact⟨rfl,rfl⟩
theorem gw (k:Int) (w:World):Calls prog 165 #[.int .i64 k] w fun e w'=>e=.returned (.bool (fR k))∧w'=w:=by
 by_cases h1:17≤k
 ·by_cases h2:k≤22
  ·rw[lT ⟨h1,h2⟩]
   go_enter func165,ntmps165
   go_wp2
   go_ret
   exact⟨rfl,rfl⟩
  ·rw[fS (by omega)]
   go_enter func165,ntmps165
   go_wp2
   go_ret
   exact⟨rfl,rfl⟩
 ·rw[fS (by omega)]
  go_enter func165,ntmps165
  go_wp2
  go_ret
  exact⟨rfl,rfl⟩
theorem pY (k:Int) (w:World):Calls prog 91 #[.int .i64 k] w fun e w'=>e=.returned (.bool (eK k))∧w'=w:=by
 by_cases h1:1≤k
 ·by_cases h2:k≤5
  ·rw[kL ⟨h1,h2⟩]
   go_enter func91,ntmps91
   go_wp2
   go_ret
   exact⟨rfl,rfl⟩
  ·rw[fp (by omega)]
   go_enter func91,ntmps91
   go_wp2
   go_ret
   exact⟨rfl,rfl⟩
 ·rw[fp (by omega)]
  go_enter func91,ntmps91
  go_wp2
  go_ret
  exact⟨rfl,rfl⟩
theorem lJ (k:Int) (w:World):Calls prog 92 #[.int .i64 k] w fun e w'=>e=.returned (.bool (fR k))∧w'=w:=by
 by_cases h1:17≤k
 ·by_cases h2:k≤22
  ·rw[lT ⟨h1,h2⟩]
   go_enter func92,ntmps92
   go_wp2
   go_ret
   exact⟨rfl,rfl⟩
  ·rw[fS (by omega)]
   go_enter func92,ntmps92
   go_wp2
   go_ret
   exact⟨rfl,rfl⟩
 ·rw[fS (by omega)]
  go_enter func92,ntmps92
  go_wp2
  go_ret
  exact⟨rfl,rfl⟩
theorem abu {k:Int} (h:k=1∨k=2∨k=17):dQ k=1:=if_pos h
theorem abv {k:Int} (h:k=4∨k=20):dQ k=2:=by unfold dQ;rw[if_neg (by omega),if_pos h]
theorem zJ {k:Int} (h:¬ (k=1∨k=2∨k=17)) (h2:¬ (k=4∨k=20)):dQ k=0:=by unfold dQ;rw[if_neg h,if_neg h2]
theorem qI (k:Int):dQ k=0∨dQ k=1∨dQ k=2:=by
 unfold dQ
 by_cases h:k=1∨k=2∨k=17
 ·rw[if_pos h];omega
 ·rw[if_neg h]
  by_cases h2:k=4∨k=20
  ·rw[if_pos h2];omega
  ·rw[if_neg h2];omega
theorem fw (k:Int) (w:World):Calls prog 221 #[.int .i64 k] w fun e w'=>e=.returned (.int .i64 (dQ k:Nat))∧w'=w:=by
 by_cases h1:k=1
 ·subst h1
  go_enter func221,ntmps221
  go_wp2
  go_ret
  exact⟨rfl,rfl⟩
 ·by_cases h2:k=2
  ·subst h2
   go_enter func221,ntmps221
   go_wp2
   go_ret
   exact⟨rfl,rfl⟩
  ·by_cases h3:k=17
   ·subst h3
    go_enter func221,ntmps221
    go_wp2
    go_ret
    exact⟨rfl,rfl⟩
   ·by_cases h4:k=4
    ·subst h4
     go_enter func221,ntmps221
     go_wp2
     go_ret
     exact⟨rfl,rfl⟩
    ·by_cases h5:k=20
     ·subst h5
      go_enter func221,ntmps221
      go_wp2
      go_ret
      exact⟨rfl,rfl⟩
     ·rw[zJ (by omega) (by omega)]
      go_enter func221,ntmps221
      go_wp2
      go_ret
      exact⟨rfl,rfl⟩
theorem vN {k n:Int} (h:dQ k=0):dS k n=decide (n=0):=by unfold dS;rw[if_neg (by omega),if_neg (by omega)]
theorem vO {k n:Int} (h:dQ k=1):dS k n=decide (n=4):=by unfold dS;rw[if_pos h]
theorem vP {k n:Int} (h:dQ k=2):dS k n=decide (1≤n∧n≤8):=by unfold dS;rw[if_neg (by omega),if_pos h]
theorem jO (k n:Int) (w:World):Calls prog 189 #[.int .i64 k,.int .i64 n] w fun e w'=>e=.returned (.bool (dS k n))∧w'=w:=by
 have hC:=fw k w
 rcases qI k with h | h | h
 ·rw[vN h]
  rw[h]at hC
  clear h
  by_cases hn:n=0
  ·rw[decide_eq_true hn]
   subst hn
   go_enter func189,ntmps189
   go_wp2_with (go_at_call 221;refine hC.mono ?_;rintro e w' ⟨rfl,rfl⟩)
   go_ret
   exact⟨rfl,rfl⟩
  ·rw[decide_eq_false hn]
   have hq:(n == 0)=false:=by simpa using hn
   go_enter func189,ntmps189
   go_wp2_with (go_at_call 221;refine hC.mono ?_;rintro e w' ⟨rfl,rfl⟩)
   go_ret
   exact⟨rfl,rfl⟩
 ·rw[vO h]
  rw[h]at hC
  clear h
  by_cases hn:n=4
  ·rw[decide_eq_true hn]
   subst hn
   go_enter func189,ntmps189
   go_wp2_with (go_at_call 221;refine hC.mono ?_;rintro e w' ⟨rfl,rfl⟩)
   go_ret
   exact⟨rfl,rfl⟩
  ·rw[decide_eq_false hn]
   have hq:(n == 4)=false:=by simpa using hn
   go_enter func189,ntmps189
   go_wp2_with (go_at_call 221;refine hC.mono ?_;rintro e w' ⟨rfl,rfl⟩)
   go_ret
   exact⟨rfl,rfl⟩
 ·rw[vP h]
  rw[h]at hC
  clear h
  by_cases hn:1≤n
  ·by_cases hn2:n≤8
   ·rw[decide_eq_true ⟨hn,hn2⟩]
    have hq:decide (n≤8)=true:=decide_eq_true hn2
    go_enter func189,ntmps189
    go_wp2_with (go_at_call 221;refine hC.mono ?_;rintro e w' ⟨rfl,rfl⟩)
    go_ret
    exact⟨rfl,rfl⟩
   ·rw[decide_eq_false (by omega)]
    have hq:decide (n≤8)=false:=decide_eq_false hn2
    go_enter func189,ntmps189
    go_wp2_with (go_at_call 221;refine hC.mono ?_;rintro e w' ⟨rfl,rfl⟩)
    go_ret
    exact⟨rfl,rfl⟩
  ·rw[decide_eq_false (by omega)]
   have hq:decide (1≤n)=false:=decide_eq_false hn
   go_enter func189,ntmps189
   go_wp2_with (go_at_call 221;refine hC.mono ?_;rintro e w' ⟨rfl,rfl⟩)
   go_ret
   exact⟨rfl,rfl⟩
theorem iz (k:Int) (s:Nat) (w:World):Calls prog 190 #[.int .i64 k,.int .u32 s] w fun e w'=>e=.returned (.bool (du k s))∧w'=w:=by
 by_cases h1:k=1
 ·subst h1
  rw[show du 1 s=decide ((s:Int)=0) from rfl]
  by_cases hs:(s:Int)=0
  ·rw[decide_eq_true hs,hs]
   go_enter func190,ntmps190
   go_wp2
   go_ret
   exact⟨rfl,rfl⟩
  ·rw[decide_eq_false hs]
   have hq:((s:Int) == 0)=false:=by simpa using hs
   go_enter func190,ntmps190
   go_wp2
   go_ret
   exact⟨rfl,rfl⟩
 ·by_cases h2:k=22
  ·subst h2
   go_enter func190,ntmps190
   go_wp2
   go_ret
   exact⟨rfl,rfl⟩
  ·rw[show du k s=decide ((s:Int)≠0) by unfold du;rw[if_neg h1,if_neg h2]]
   by_cases hs:(s:Int)=0
   ·rw[decide_eq_false (fun e=>e hs),hs]
    go_enter func190,ntmps190
    go_wp2
    go_ret
    exact⟨rfl,rfl⟩
   ·rw[decide_eq_true hs]
    have hq:((s:Int) != 0)=true:=by simpa using hs
    go_enter func190,ntmps190
    go_wp2
    go_ret
    exact⟨rfl,rfl⟩
theorem lG (k:Int) (w:World):Calls prog 191 #[.int .i64 k] w fun e w'=>e=.returned (.bool (iN k))∧w'=w:=by
 have hC:=fw k w
 by_cases h2:dQ k=2
 ·rw[show iN k=true from decide_eq_true (Or.inl h2)]
  rw[h2]at hC
  clear h2
  go_enter func191,ntmps191
  go_wp2_with (go_at_call 221;refine hC.mono ?_;rintro e w' ⟨rfl,rfl⟩)
  go_ret
  exact⟨rfl,rfl⟩
 ·have hc2:((dQ k:Int) == 2)=false:=by simp;omega
  by_cases h5:k=5
  ·subst h5
   rw[show iN 5=true from rfl]
   go_enter func191,ntmps191
   go_wp2_with (go_at_call 221;refine hC.mono ?_;rintro e w' ⟨rfl,rfl⟩)
   go_ret
   exact⟨rfl,rfl⟩
  ·by_cases h21:k=21
   ·subst h21
    rw[show iN 21=true from rfl]
    go_enter func191,ntmps191
    go_wp2_with (go_at_call 221;refine hC.mono ?_;rintro e w' ⟨rfl,rfl⟩)
    go_ret
    exact⟨rfl,rfl⟩
   ·rw[show iN k=false from decide_eq_false (by omega)]
    have hq5:(k == 5)=false:=by simpa using h5
    have hq21:(k == 21)=false:=by simpa using h21
    generalize dQ k=c at *
    go_enter func191,ntmps191
    go_wp2_with (go_at_call 221;refine hC.mono ?_;rintro e w' ⟨rfl,rfl⟩)
    go_ret
    exact⟨rfl,rfl⟩
theorem lI (k:Int) (w:World):Calls prog 192 #[.int .i64 k] w fun e w'=>e=.returned (.int .i64 (sp k))∧w'=w:=by
 have hC:=fw k w
 by_cases h2:dQ k=2
 ·rw[show sp k=15 from if_pos h2]
  rw[h2]at hC
  clear h2
  go_enter func192,ntmps192
  go_wp2_with (go_at_call 221;refine hC.mono ?_;rintro e w' ⟨rfl,rfl⟩)
  go_ret
  exact⟨rfl,rfl⟩
 ·have hc2:((dQ k:Int) == 2)=false:=by simp;omega
  rw[show sp k=0 from if_neg h2]
  generalize dQ k=c at *
  go_enter func192,ntmps192
  go_wp2_with (go_at_call 221;refine hC.mono ?_;rintro e w' ⟨rfl,rfl⟩)
  go_ret
  exact⟨rfl,rfl⟩
theorem pW (k n:Int) (w:World):Calls prog 93 #[.int .i64 k,.int .i64 n] w fun e w'=>e=.returned (.bool (dS k n))∧w'=w:=by
 by_cases h:k=1∨k=2∨k=17
 ·rw[vO (abu h)]
  by_cases hn:n=4
  ·rw[decide_eq_true hn]
   subst hn
   rcases h with rfl | rfl | rfl
   all_goals
    go_enter func93,ntmps93
    go_wp2
    go_ret
    exact⟨rfl,rfl⟩
  ·rw[decide_eq_false hn]
   have hq:(n == 4)=false:=by simpa using hn
   rcases h with rfl | rfl | rfl
   all_goals
    go_enter func93,ntmps93
    go_wp2
    go_ret
    exact⟨rfl,rfl⟩
 ·by_cases h2:k=4∨k=20
  ·rw[vP (abv h2)]
   clear h
   by_cases hn:1≤n
   ·by_cases hn2:n≤8
    ·rw[decide_eq_true ⟨hn,hn2⟩]
     have hq:decide (n≤8)=true:=decide_eq_true hn2
     rcases h2 with rfl | rfl
     all_goals
      go_enter func93,ntmps93
      go_wp2
      go_ret
      exact⟨rfl,rfl⟩
    ·rw[decide_eq_false (by omega)]
     have hq:decide (n≤8)=false:=decide_eq_false hn2
     rcases h2 with rfl | rfl
     all_goals
      go_enter func93,ntmps93
      go_wp2
      go_ret
      exact⟨rfl,rfl⟩
   ·rw[decide_eq_false (by omega)]
    have hq:decide (1≤n)=false:=decide_eq_false hn
    rcases h2 with rfl | rfl
    all_goals
     go_enter func93,ntmps93
     go_wp2
     go_ret
     exact⟨rfl,rfl⟩
  ·rw[vN (zJ h h2)]
   have e1:¬ k=1:=by omega
   have e2:¬ k=2:=by omega
   have e3:¬ k=17:=by omega
   have e4:¬ k=4:=by omega
   have e5:¬ k=20:=by omega
   clear h h2
   by_cases hn:n=0
   ·rw[decide_eq_true hn]
    subst hn
    go_enter func93,ntmps93
    go_wp2
    go_ret
    exact⟨rfl,rfl⟩
   ·rw[decide_eq_false hn]
    have hq:(n == 0)=false:=by simpa using hn
    go_enter func93,ntmps93
    go_wp2
    go_ret
    exact⟨rfl,rfl⟩
end Go.Proofs.YtenilkloffnjlaaGreat
