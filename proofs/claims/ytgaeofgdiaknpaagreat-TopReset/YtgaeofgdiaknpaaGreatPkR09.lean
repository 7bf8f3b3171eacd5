/- Part 10: contracts that the proof rests on. -/
import Derived.Test.YtgaeofgdiaknpaaGreatPkR07
set_option maxHeartbeats 64000000
namespace Go.Proofs.YtgaeofgdiaknpaaGreat
set_option maxRecDepth 100000
open Go.RowKit
theorem hostK_true {k:Int} (h:1≤k∧k≤5):hostK k=true:=decide_eq_true h
theorem hostK_false {k:Int} (h:¬ (1≤k∧k≤5)):hostK k=false:=decide_eq_false h
theorem devK_true {k:Int} (h:17≤k∧k≤22):devK k=true:=decide_eq_true h
theorem devK_false {k:Int} (h:¬ (17≤k∧k≤22)):devK k=false:=decide_eq_false h
theorem fromHost_any (k:Int) (w:World):Calls Tryz.prog 152 #[.int .i64 k] w fun e w'=>e=.returned (.bool (hostK k))∧w'=w:=by
 by_cases h1:1≤k
 ·by_cases h2:k≤5
  ·rw[hostK_true ⟨h1,h2⟩]
   go_enter Tryz.func152,Tryz.ntmps152
   go_wp2
   go_ret
   exact⟨rfl,rfl⟩
  ·rw[hostK_false (by omega)]
   go_enter Tryz.func152,Tryz.ntmps152
   go_wp2
   go_ret
   exact⟨rfl,rfl⟩
 ·rw[hostK_false (by omega)]
  go_enter Tryz.func152,Tryz.ntmps152
  go_wp2
  go_ret
  exact⟨rfl,rfl⟩
theorem fromDevice_any (k:Int) (w:World):Calls Tryz.prog 144 #[.int .i64 k] w fun e w'=>e=.returned (.bool (devK k))∧w'=w:=by
 by_cases h1:17≤k
 ·by_cases h2:k≤22
  ·rw[devK_true ⟨h1,h2⟩]
   go_enter Tryz.func144,Tryz.ntmps144
   go_wp2
   go_ret
   exact⟨rfl,rfl⟩
  ·rw[devK_false (by omega)]
   go_enter Tryz.func144,Tryz.ntmps144
   go_wp2
   go_ret
   exact⟨rfl,rfl⟩
 ·rw[devK_false (by omega)]
  go_enter Tryz.func144,Tryz.ntmps144
  go_wp2
  go_ret
  exact⟨rfl,rfl⟩
theorem cont0 {k:Int} (h:¬ (k=1∨k=2∨k=17)) (h2:¬ (k=4∨k=20)):cont k=0:=by unfold cont;rw[if_neg h,if_neg h2]
theorem cont_cases (k:Int):cont k=0∨cont k=1∨cont k=2:=by
 unfold cont
 by_cases h:k=1∨k=2∨k=17
 ·rw[if_pos h];omega
 ·rw[if_neg h]
  by_cases h2:k=4∨k=20
  ·rw[if_pos h2];omega
  ·rw[if_neg h2];omega
theorem contentOf_any (k:Int) (w:World):Calls Tryz.prog 199 #[.int .i64 k] w fun e w'=>e=.returned (.int .i64 (cont k:Nat))∧w'=w:=by
 by_cases h1:k=1
 ·subst h1
  go_enter Tryz.func199,Tryz.ntmps199
  go_wp2
  go_ret
  exact⟨rfl,rfl⟩
 ·by_cases h2:k=2
  ·subst h2
   go_enter Tryz.func199,Tryz.ntmps199
   go_wp2
   go_ret
   exact⟨rfl,rfl⟩
  ·by_cases h3:k=17
   ·subst h3
    go_enter Tryz.func199,Tryz.ntmps199
    go_wp2
    go_ret
    exact⟨rfl,rfl⟩
   ·by_cases h4:k=4
    ·subst h4
     go_enter Tryz.func199,Tryz.ntmps199
     go_wp2
     go_ret
     exact⟨rfl,rfl⟩
    ·by_cases h5:k=20
     ·subst h5
      go_enter Tryz.func199,Tryz.ntmps199
      go_wp2
      go_ret
      exact⟨rfl,rfl⟩
     ·rw[cont0 (by omega) (by omega)]
      go_enter Tryz.func199,Tryz.ntmps199
      go_wp2
      go_ret
      exact⟨rfl,rfl⟩
theorem mData0 {k n:Int} (h:cont k=0):mData k n=decide (n=0):=by unfold mData;rw[if_neg (by omega),if_neg (by omega)]
theorem mData1 {k n:Int} (h:cont k=1):mData k n=decide (n=4):=by unfold mData;rw[if_pos h]
theorem mData2 {k n:Int} (h:cont k=2):mData k n=decide (1≤n∧n≤8):=by unfold mData;rw[if_neg (by omega),if_pos h]
theorem mayHaveData_any (k n:Int) (w:World):Calls Tryz.prog 167 #[.int .i64 k,.int .i64 n] w fun e w'=>e=.returned (.bool (mData k n))∧w'=w:=by
 have hC:=contentOf_any k w
 rcases cont_cases k with h | h | h
 ·rw[mData0 h]
  rw[h]at hC
  clear h
  by_cases hn:n=0
  ·rw[decide_eq_true hn]
   subst hn
   go_enter Tryz.func167,Tryz.ntmps167
   go_wp2_with (go_at_call 199;refine hC.mono ?_;rintro e w' ⟨rfl,rfl⟩)
   go_ret
   exact⟨rfl,rfl⟩
  ·rw[decide_eq_false hn]
   have hq:(n == 0)=false:=by simpa using hn
   go_enter Tryz.func167,Tryz.ntmps167
   go_wp2_with (go_at_call 199;refine hC.mono ?_;rintro e w' ⟨rfl,rfl⟩)
   go_ret
   exact⟨rfl,rfl⟩
 ·rw[mData1 h]
  rw[h]at hC
  clear h
  by_cases hn:n=4
  ·rw[decide_eq_true hn]
   subst hn
   go_enter Tryz.func167,Tryz.ntmps167
   go_wp2_with (go_at_call 199;refine hC.mono ?_;rintro e w' ⟨rfl,rfl⟩)
   go_ret
   exact⟨rfl,rfl⟩
  ·rw[decide_eq_false hn]
   have hq:(n == 4)=false:=by simpa using hn
   go_enter Tryz.func167,Tryz.ntmps167
   go_wp2_with (go_at_call 199;refine hC.mono ?_;rintro e w' ⟨rfl,rfl⟩)
   go_ret
   exact⟨rfl,rfl⟩
 ·rw[mData2 h]
  rw[h]at hC
  clear h
  by_cases hn:1≤n
  ·by_cases hn2:n≤8
   ·rw[decide_eq_true ⟨hn,hn2⟩]
    have hq:decide (n≤8)=true:=decide_eq_true hn2
    go_enter Tryz.func167,Tryz.ntmps167
    go_wp2_with (go_at_call 199;refine hC.mono ?_;rintro e w' ⟨rfl,rfl⟩)
    go_ret
    exact⟨rfl,rfl⟩
   ·rw[decide_eq_false (by omega)]
    have hq:decide (n≤8)=false:=decide_eq_false hn2
    go_enter Tryz.func167,Tryz.ntmps167
    go_wp2_with (go_at_call 199;refine hC.mono ?_;rintro e w' ⟨rfl,rfl⟩)
    go_ret
    exact⟨rfl,rfl⟩
  ·rw[decide_eq_false (by omega)]
   have hq:decide (1≤n)=false:=decide_eq_false hn
   go_enter Tryz.func167,Tryz.ntmps167
   go_wp2_with (go_at_call 199;refine hC.mono ?_;rintro e w' ⟨rfl,rfl⟩)
   go_ret
   exact⟨rfl,rfl⟩
theorem mayHaveSession_any (k:Int) (s:Nat) (w:World):Calls Tryz.prog 168 #[.int .i64 k,.int .u32 s] w fun e w'=>e=.returned (.bool (mSess k s))∧w'=w:=by
 by_cases h1:k=1
 ·subst h1
  rw[show mSess 1 s=decide ((s:Int)=0) from rfl]
  by_cases hs:(s:Int)=0
  ·rw[decide_eq_true hs,hs]
   go_enter Tryz.func168,Tryz.ntmps168
   go_wp2
   go_ret
   exact⟨rfl,rfl⟩
  ·rw[decide_eq_false hs]
   have hq:((s:Int) == 0)=false:=by simpa using hs
   go_enter Tryz.func168,Tryz.ntmps168
   go_wp2
   go_ret
   exact⟨rfl,rfl⟩
 ·by_cases h2:k=22
  ·subst h2
   go_enter Tryz.func168,Tryz.ntmps168
   go_wp2
   go_ret
   exact⟨rfl,rfl⟩
  ·rw[show mSess k s=decide ((s:Int)≠0) by unfold mSess;rw[if_neg h1,if_neg h2]]
   by_cases hs:(s:Int)=0
   ·rw[decide_eq_false (fun e=>e hs),hs]
    go_enter Tryz.func168,Tryz.ntmps168
    go_wp2
    go_ret
    exact⟨rfl,rfl⟩
   ·rw[decide_eq_true hs]
    have hq:((s:Int) != 0)=true:=by simpa using hs
    go_enter Tryz.func168,Tryz.ntmps168
    go_wp2
    go_ret
    exact⟨rfl,rfl⟩
theorem hasNumber_any (k:Int) (w:World):Calls Tryz.prog 169 #[.int .i64 k] w fun e w'=>e=.returned (.bool (hNum k))∧w'=w:=by
 have hC:=contentOf_any k w
 by_cases h2:cont k=2
 ·rw[show hNum k=true from decide_eq_true (Or.inl h2)]
  rw[h2]at hC
  clear h2
  go_enter Tryz.func169,Tryz.ntmps169
  go_wp2_with (go_at_call 199;refine hC.mono ?_;rintro e w' ⟨rfl,rfl⟩)
  go_ret
  exact⟨rfl,rfl⟩
 ·have hc2:((cont k:Int) == 2)=false:=by simp;omega
  by_cases h5:k=5
  ·subst h5
   rw[show hNum 5=true from rfl]
   go_enter Tryz.func169,Tryz.ntmps169
   go_wp2_with (go_at_call 199;refine hC.mono ?_;rintro e w' ⟨rfl,rfl⟩)
   go_ret
   exact⟨rfl,rfl⟩
  ·by_cases h21:k=21
   ·subst h21
    rw[show hNum 21=true from rfl]
    go_enter Tryz.func169,Tryz.ntmps169
    go_wp2_with (go_at_call 199;refine hC.mono ?_;rintro e w' ⟨rfl,rfl⟩)
    go_ret
    exact⟨rfl,rfl⟩
   ·rw[show hNum k=false from decide_eq_false (by omega)]
    have hq5:(k == 5)=false:=by simpa using h5
    have hq21:(k == 21)=false:=by simpa using h21
    generalize cont k=c at *
    go_enter Tryz.func169,Tryz.ntmps169
    go_wp2_with (go_at_call 199;refine hC.mono ?_;rintro e w' ⟨rfl,rfl⟩)
    go_ret
    exact⟨rfl,rfl⟩
theorem mostFlags_any (k:Int) (w:World):Calls Tryz.prog 170 #[.int .i64 k] w fun e w'=>e=.returned (.int .i64 (mFl k))∧w'=w:=by
 have hC:=contentOf_any k w
 by_cases h2:cont k=2
 ·rw[show mFl k=15 from if_pos h2]
  rw[h2]at hC
  clear h2
  go_enter Tryz.func170,Tryz.ntmps170
  go_wp2_with (go_at_call 199;refine hC.mono ?_;rintro e w' ⟨rfl,rfl⟩)
  go_ret
  exact⟨rfl,rfl⟩
 ·have hc2:((cont k:Int) == 2)=false:=by simp;omega
  rw[show mFl k=0 from if_neg h2]
  generalize cont k=c at *
  go_enter Tryz.func170,Tryz.ntmps170
  go_wp2_with (go_at_call 199;refine hC.mono ?_;rintro e w' ⟨rfl,rfl⟩)
  go_ret
  exact⟨rfl,rfl⟩
end Go.Proofs.YtgaeofgdiaknpaaGreat
