/- Part 22: contracts that the proof rests on. -/
import Derived.Test.YtdpahjfekoikiaaGreatPkX09
set_option maxHeartbeats 64000000
set_option maxRecDepth 100000
namespace Go.Proofs.YtdpahjfekoikiaaGreat
open Tryz
open Go.RowKit
theorem kY (c s n:Nat) (f:Int) (a:Option Addr) (len cap:Nat) (w:World) :
  Calls prog 135 #[.agg #[.int .i64 1,.int .u32 c,.int .u32 s,.int .u32 n,.int .i64 f,.slice a len cap]] w fun e w'=>e=.returned (.int .i64 (LW 1 c s n f len len))∧Below w.heap.size w w':=by
 have hH:=bX 1
 have hD:=bq 1
 have hM:=bV 1 len
 unfold LW
 rw[show cz 1=true from rfl]at hH ⊢
 rw[show dB 1=false from rfl]at hD ⊢
 rw[show eo 1=false from rfl,show kO 1=0 from rfl]
 generalize bT 1 len=D at *
 have hb:Below w.heap.size w (w.alloc (.cells #[.int .i64 1,.int .u32 c,.int .u32 s,.int .u32 n,.int .i64 f,.slice a len cap] 103)):=(Below.refl _ _).alloc (Nat.le_refl _) _
 rw[if_neg (by simp)]
 by_cases hc:(c:Int)=0
 ·rw[if_pos hc,hc]
  rw[hc]at hb
  go_enter func135,ntmps135
  go_wp2_with (first | (go_at_call 158;refine (hH _).mono ?_;rintro e w' ⟨rfl,rfl⟩) | (go_at_call 159;refine (hD _).mono ?_;rintro e w' ⟨rfl,rfl⟩) | (go_at_call 160;refine (hM _).mono ?_;rintro e w' ⟨rfl,rfl⟩))
  go_ret
  exact⟨rfl,hb⟩
 ·rw[if_neg hc]
  have qc:((c:Int) == 0)=false:=by simpa using hc
  cases D
  ·rw[if_pos (Or.inr rfl)]
   go_enter func135,ntmps135
   go_wp2_with (first | (go_at_call 158;refine (hH _).mono ?_;rintro e w' ⟨rfl,rfl⟩) | (go_at_call 159;refine (hD _).mono ?_;rintro e w' ⟨rfl,rfl⟩) | (go_at_call 160;refine (hM _).mono ?_;rintro e w' ⟨rfl,rfl⟩))
   go_ret
   exact⟨rfl,hb⟩
  ·rw[if_neg (by simp)]
   by_cases hs:(s:Int)=0
   ·rw[if_neg (by simp[aW,hs]),hs]
    rw[hs]at hb
    by_cases hn:(n:Int)=0
    ·rw[if_neg (by simp[hn]),hn]
     rw[hn]at hb
     by_cases hf:f<0
     ·rw[if_pos (Or.inl hf)]
      have qf:decide (f<0)=true:=decide_eq_true hf
      go_enter func135,ntmps135
      go_wp2_with (first | (go_at_call 158;refine (hH _).mono ?_;rintro e w' ⟨rfl,rfl⟩) | (go_at_call 159;refine (hD _).mono ?_;rintro e w' ⟨rfl,rfl⟩) | (go_at_call 160;refine (hM _).mono ?_;rintro e w' ⟨rfl,rfl⟩))
      go_ret
      exact⟨rfl,hb⟩
     ·have qf:decide (f<0)=false:=decide_eq_false hf
      by_cases h15:15<f
      ·rw[if_pos (by omega)]
       have q15:decide (15<f)=true:=decide_eq_true h15
       go_enter func135,ntmps135
       go_wp2_with (first | (go_at_call 158;refine (hH _).mono ?_;rintro e w' ⟨rfl,rfl⟩) | (go_at_call 159;refine (hD _).mono ?_;rintro e w' ⟨rfl,rfl⟩) | (go_at_call 160;refine (hM _).mono ?_;rintro e w' ⟨rfl,rfl⟩))
       go_ret
       exact⟨rfl,hb⟩
      ·have q15:decide (15<f)=false:=decide_eq_false h15
       by_cases h0:f=0
       ·rw[if_neg (by omega)]
        subst h0
        go_enter func135,ntmps135
        go_wp2_with (first | (go_at_call 158;refine (hH _).mono ?_;rintro e w' ⟨rfl,rfl⟩) | (go_at_call 159;refine (hD _).mono ?_;rintro e w' ⟨rfl,rfl⟩) | (go_at_call 160;refine (hM _).mono ?_;rintro e w' ⟨rfl,rfl⟩))
        go_ret
        exact⟨rfl,hb⟩
       ·rw[if_pos (by omega)]
        have q0:(f == 0)=false:=by simpa using h0
        go_enter func135,ntmps135
        go_wp2_with (first | (go_at_call 158;refine (hH _).mono ?_;rintro e w' ⟨rfl,rfl⟩) | (go_at_call 159;refine (hD _).mono ?_;rintro e w' ⟨rfl,rfl⟩) | (go_at_call 160;refine (hM _).mono ?_;rintro e w' ⟨rfl,rfl⟩))
        go_ret
        exact⟨rfl,hb⟩
    ·rw[if_pos (by simpa using hn)]
     have qn:((n:Int) == 0)=false:=by simpa using hn
     have qn2:((n:Int) != 0)=true:=by simpa using hn
     go_enter func135,ntmps135
     go_wp2_with (first | (go_at_call 158;refine (hH _).mono ?_;rintro e w' ⟨rfl,rfl⟩) | (go_at_call 159;refine (hD _).mono ?_;rintro e w' ⟨rfl,rfl⟩) | (go_at_call 160;refine (hM _).mono ?_;rintro e w' ⟨rfl,rfl⟩))
     go_ret
     exact⟨rfl,hb⟩
   ·rw[if_pos (by simpa [aW] using hs)]
    have qs:((s:Int) == 0)=false:=by simpa using hs
    go_enter func135,ntmps135
    go_wp2_with (first | (go_at_call 158;refine (hH _).mono ?_;rintro e w' ⟨rfl,rfl⟩) | (go_at_call 159;refine (hD _).mono ?_;rintro e w' ⟨rfl,rfl⟩) | (go_at_call 160;refine (hM _).mono ?_;rintro e w' ⟨rfl,rfl⟩))
    go_ret
    exact⟨rfl,hb⟩
theorem jJ (c s n:Nat) (f:Int) (a:Option Addr) (len cap:Nat) (w:World) :
  Calls prog 135 #[.agg #[.int .i64 22,.int .u32 c,.int .u32 s,.int .u32 n,.int .i64 f,.slice a len cap]] w fun e w'=>e=.returned (.int .i64 (LW 22 c s n f len len))∧Below w.heap.size w w':=by
 have hH:=bX 22
 have hD:=bq 22
 have hM:=bV 22 len
 unfold LW
 rw[show cz 22=false from rfl]at hH ⊢
 rw[show dB 22=true from rfl]at hD ⊢
 rw[show eo 22=false from rfl,show kO 22=0 from rfl]
 generalize bT 22 len=D at *
 have hb:Below w.heap.size w (w.alloc (.cells #[.int .i64 22,.int .u32 c,.int .u32 s,.int .u32 n,.int .i64 f,.slice a len cap] 103)):=(Below.refl _ _).alloc (Nat.le_refl _) _
 rw[if_neg (by simp)]
 by_cases hc:(c:Int)=0
 ·rw[if_pos hc,hc]
  rw[hc]at hb
  go_enter func135,ntmps135
  go_wp2_with (first | (go_at_call 158;refine (hH _).mono ?_;rintro e w' ⟨rfl,rfl⟩) | (go_at_call 159;refine (hD _).mono ?_;rintro e w' ⟨rfl,rfl⟩) | (go_at_call 160;refine (hM _).mono ?_;rintro e w' ⟨rfl,rfl⟩))
  go_ret
  exact⟨rfl,hb⟩
 ·rw[if_neg hc]
  have qc:((c:Int) == 0)=false:=by simpa using hc
  cases D
  ·rw[if_pos (Or.inr rfl)]
   go_enter func135,ntmps135
   go_wp2_with (first | (go_at_call 158;refine (hH _).mono ?_;rintro e w' ⟨rfl,rfl⟩) | (go_at_call 159;refine (hD _).mono ?_;rintro e w' ⟨rfl,rfl⟩) | (go_at_call 160;refine (hM _).mono ?_;rintro e w' ⟨rfl,rfl⟩))
   go_ret
   exact⟨rfl,hb⟩
  ·rw[if_neg (by simp)]
   rw[if_neg (by simp[aW])]
   by_cases hn:(n:Int)=0
   ·rw[if_neg (by simp[hn]),hn]
    rw[hn]at hb
    by_cases hf:f<0
    ·rw[if_pos (Or.inl hf)]
     have qf:decide (f<0)=true:=decide_eq_true hf
     go_enter func135,ntmps135
     go_wp2_with (first | (go_at_call 158;refine (hH _).mono ?_;rintro e w' ⟨rfl,rfl⟩) | (go_at_call 159;refine (hD _).mono ?_;rintro e w' ⟨rfl,rfl⟩) | (go_at_call 160;refine (hM _).mono ?_;rintro e w' ⟨rfl,rfl⟩))
     go_ret
     exact⟨rfl,hb⟩
    ·have qf:decide (f<0)=false:=decide_eq_false hf
     by_cases h15:15<f
     ·rw[if_pos (by omega)]
      have q15:decide (15<f)=true:=decide_eq_true h15
      go_enter func135,ntmps135
      go_wp2_with (first | (go_at_call 158;refine (hH _).mono ?_;rintro e w' ⟨rfl,rfl⟩) | (go_at_call 159;refine (hD _).mono ?_;rintro e w' ⟨rfl,rfl⟩) | (go_at_call 160;refine (hM _).mono ?_;rintro e w' ⟨rfl,rfl⟩))
      go_ret
      exact⟨rfl,hb⟩
     ·have q15:decide (15<f)=false:=decide_eq_false h15
      by_cases h0:f=0
      ·rw[if_neg (by omega)]
       subst h0
       go_enter func135,ntmps135
       go_wp2_with (first | (go_at_call 158;refine (hH _).mono ?_;rintro e w' ⟨rfl,rfl⟩) | (go_at_call 159;refine (hD _).mono ?_;rintro e w' ⟨rfl,rfl⟩) | (go_at_call 160;refine (hM _).mono ?_;rintro e w' ⟨rfl,rfl⟩))
       go_ret
       exact⟨rfl,hb⟩
      ·rw[if_pos (by omega)]
       have q0:(f == 0)=false:=by simpa using h0
       go_enter func135,ntmps135
       go_wp2_with (first | (go_at_call 158;refine (hH _).mono ?_;rintro e w' ⟨rfl,rfl⟩) | (go_at_call 159;refine (hD _).mono ?_;rintro e w' ⟨rfl,rfl⟩) | (go_at_call 160;refine (hM _).mono ?_;rintro e w' ⟨rfl,rfl⟩))
       go_ret
       exact⟨rfl,hb⟩
   ·rw[if_pos (by simpa using hn)]
    have qn:((n:Int) == 0)=false:=by simpa using hn
    have qn2:((n:Int) != 0)=true:=by simpa using hn
    go_enter func135,ntmps135
    go_wp2_with (first | (go_at_call 158;refine (hH _).mono ?_;rintro e w' ⟨rfl,rfl⟩) | (go_at_call 159;refine (hD _).mono ?_;rintro e w' ⟨rfl,rfl⟩) | (go_at_call 160;refine (hM _).mono ?_;rintro e w' ⟨rfl,rfl⟩))
    go_ret
    exact⟨rfl,hb⟩
theorem kZ (c s n:Nat) (f:Int) (a:Option Addr) (len cap:Nat) (w:World) :
  Calls prog 135 #[.agg #[.int .i64 4,.int .u32 c,.int .u32 s,.int .u32 n,.int .i64 f,.slice a len cap]] w fun e w'=>e=.returned (.int .i64 (LW 4 c s n f len len))∧Below w.heap.size w w':=by
 have hH:=bX 4
 have hD:=bq 4
 have hM:=bV 4 len
 unfold LW
 rw[show cz 4=true from rfl]at hH ⊢
 rw[show dB 4=false from rfl]at hD ⊢
 rw[show eo 4=true from rfl,show kO 4=15 from rfl]
 have hS:aW 4 s=decide ((s:Int)≠0):=rfl
 generalize bT 4 len=D at *
 have hb:Below w.heap.size w (w.alloc (.cells #[.int .i64 4,.int .u32 c,.int .u32 s,.int .u32 n,.int .i64 f,.slice a len cap] 103)):=(Below.refl _ _).alloc (Nat.le_refl _) _
 rw[if_neg (by simp)]
 by_cases hc:(c:Int)=0
 ·rw[if_pos hc,hc]
  rw[hc]at hb
  go_enter func135,ntmps135
  go_wp2_with (first | (go_at_call 158;refine (hH _).mono ?_;rintro e w' ⟨rfl,rfl⟩) | (go_at_call 159;refine (hD _).mono ?_;rintro e w' ⟨rfl,rfl⟩) | (go_at_call 160;refine (hM _).mono ?_;rintro e w' ⟨rfl,rfl⟩))
  go_ret
  exact⟨rfl,hb⟩
 ·rw[if_neg hc]
  have qc:((c:Int) == 0)=false:=by simpa using hc
  cases D
  ·rw[if_pos (Or.inr rfl)]
   go_enter func135,ntmps135
   go_wp2_with (first | (go_at_call 158;refine (hH _).mono ?_;rintro e w' ⟨rfl,rfl⟩) | (go_at_call 159;refine (hD _).mono ?_;rintro e w' ⟨rfl,rfl⟩) | (go_at_call 160;refine (hM _).mono ?_;rintro e w' ⟨rfl,rfl⟩))
   go_ret
   exact⟨rfl,hb⟩
  ·rw[if_neg (by simp)]
   by_cases hs:(s:Int)=0
   ·rw[if_pos (by rw[hS];simpa using hs),hs]
    rw[hs]at hb
    go_enter func135,ntmps135
    go_wp2_with (first | (go_at_call 158;refine (hH _).mono ?_;rintro e w' ⟨rfl,rfl⟩) | (go_at_call 159;refine (hD _).mono ?_;rintro e w' ⟨rfl,rfl⟩) | (go_at_call 160;refine (hM _).mono ?_;rintro e w' ⟨rfl,rfl⟩))
    go_ret
    exact⟨rfl,hb⟩
   ·rw[if_neg (by rw[hS];simpa using hs)]
    have qs:((s:Int) == 0)=false:=by simpa using hs
    by_cases hn:(n:Int)=0
    ·rw[if_pos (by simp[hn]),hn]
     rw[hn]at hb
     go_enter func135,ntmps135
     go_wp2_with (first | (go_at_call 158;refine (hH _).mono ?_;rintro e w' ⟨rfl,rfl⟩) | (go_at_call 159;refine (hD _).mono ?_;rintro e w' ⟨rfl,rfl⟩) | (go_at_call 160;refine (hM _).mono ?_;rintro e w' ⟨rfl,rfl⟩))
     go_ret
     exact⟨rfl,hb⟩
    ·rw[if_neg (by simpa using hn)]
     have qn:((n:Int) == 0)=false:=by simpa using hn
     have qn2:((n:Int) != 0)=true:=by simpa using hn
     by_cases hf:f<0
     ·rw[if_pos (Or.inl hf)]
      have qf:decide (f<0)=true:=decide_eq_true hf
      go_enter func135,ntmps135
      go_wp2_with (first | (go_at_call 158;refine (hH _).mono ?_;rintro e w' ⟨rfl,rfl⟩) | (go_at_call 159;refine (hD _).mono ?_;rintro e w' ⟨rfl,rfl⟩) | (go_at_call 160;refine (hM _).mono ?_;rintro e w' ⟨rfl,rfl⟩))
      go_ret
      exact⟨rfl,hb⟩
     ·have qf:decide (f<0)=false:=decide_eq_false hf
      by_cases h15:15<f
      ·rw[if_pos (by omega)]
       have q15:decide (15<f)=true:=decide_eq_true h15
       go_enter func135,ntmps135
       go_wp2_with (first | (go_at_call 158;refine (hH _).mono ?_;rintro e w' ⟨rfl,rfl⟩) | (go_at_call 159;refine (hD _).mono ?_;rintro e w' ⟨rfl,rfl⟩) | (go_at_call 160;refine (hM _).mono ?_;rintro e w' ⟨rfl,rfl⟩))
       go_ret
       exact⟨rfl,hb⟩
      ·have q15:decide (15<f)=false:=decide_eq_false h15
       rw[if_neg (by omega)]
       go_enter func135,ntmps135
       go_wp2_with (first | (go_at_call 158;refine (hH _).mono ?_;rintro e w' ⟨rfl,rfl⟩) | (go_at_call 159;refine (hD _).mono ?_;rintro e w' ⟨rfl,rfl⟩) | (go_at_call 160;refine (hM _).mono ?_;rintro e w' ⟨rfl,rfl⟩))
       go_ret
       exact⟨rfl,hb⟩
theorem jH (c s n:Nat) (f:Int) (a:Option Addr) (len cap:Nat) (w:World) :
  Calls prog 135 #[.agg #[.int .i64 20,.int .u32 c,.int .u32 s,.int .u32 n,.int .i64 f,.slice a len cap]] w fun e w'=>e=.returned (.int .i64 (LW 20 c s n f len len))∧Below w.heap.size w w':=by
 have hH:=bX 20
 have hD:=bq 20
 have hM:=bV 20 len
 unfold LW
 rw[show cz 20=false from rfl]at hH ⊢
 rw[show dB 20=true from rfl]at hD ⊢
 rw[show eo 20=true from rfl,show kO 20=15 from rfl]
 have hS:aW 20 s=decide ((s:Int)≠0):=rfl
 generalize bT 20 len=D at *
 have hb:Below w.heap.size w (w.alloc (.cells #[.int .i64 20,.int .u32 c,.int .u32 s,.int .u32 n,.int .i64 f,.slice a len cap] 103)):=(Below.refl _ _).alloc (Nat.le_refl _) _
 rw[if_neg (by simp)]
 by_cases hc:(c:Int)=0
 ·rw[if_pos hc,hc]
  rw[hc]at hb
  go_enter func135,ntmps135
  go_wp2_with (first | (go_at_call 158;refine (hH _).mono ?_;rintro e w' ⟨rfl,rfl⟩) | (go_at_call 159;refine (hD _).mono ?_;rintro e w' ⟨rfl,rfl⟩) | (go_at_call 160;refine (hM _).mono ?_;rintro e w' ⟨rfl,rfl⟩))
  go_ret
  exact⟨rfl,hb⟩
 ·rw[if_neg hc]
  have qc:((c:Int) == 0)=false:=by simpa using hc
  cases D
  ·rw[if_pos (Or.inr rfl)]
   go_enter func135,ntmps135
   go_wp2_with (first | (go_at_call 158;refine (hH _).mono ?_;rintro e w' ⟨rfl,rfl⟩) | (go_at_call 159;refine (hD _).mono ?_;rintro e w' ⟨rfl,rfl⟩) | (go_at_call 160;refine (hM _).mono ?_;rintro e w' ⟨rfl,rfl⟩))
   go_ret
   exact⟨rfl,hb⟩
  ·rw[if_neg (by simp)]
   by_cases hs:(s:Int)=0
   ·rw[if_pos (by rw[hS];simpa using hs),hs]
    rw[hs]at hb
    go_enter func135,ntmps135
    go_wp2_with (first | (go_at_call 158;refine (hH _).mono ?_;rintro e w' ⟨rfl,rfl⟩) | (go_at_call 159;refine (hD _).mono ?_;rintro e w' ⟨rfl,rfl⟩) | (go_at_call 160;refine (hM _).mono ?_;rintro e w' ⟨rfl,rfl⟩))
    go_ret
    exact⟨rfl,hb⟩
   ·rw[if_neg (by rw[hS];simpa using hs)]
    have qs:((s:Int) == 0)=false:=by simpa using hs
    by_cases hn:(n:Int)=0
    ·rw[if_pos (by simp[hn]),hn]
     rw[hn]at hb
     go_enter func135,ntmps135
     go_wp2_with (first | (go_at_call 158;refine (hH _).mono ?_;rintro e w' ⟨rfl,rfl⟩) | (go_at_call 159;refine (hD _).mono ?_;rintro e w' ⟨rfl,rfl⟩) | (go_at_call 160;refine (hM _).mono ?_;rintro e w' ⟨rfl,rfl⟩))
     go_ret
     exact⟨rfl,hb⟩
    ·rw[if_neg (by simpa using hn)]
     have qn:((n:Int) == 0)=false:=by simpa using hn
     have qn2:((n:Int) != 0)=true:=by simpa using hn
     by_cases hf:f<0
     ·rw[if_pos (Or.inl hf)]
      have qf:decide (f<0)=true:=decide_eq_true hf
      go_enter func135,ntmps135
      go_wp2_with (first | (go_at_call 158;refine (hH _).mono ?_;rintro e w' ⟨rfl,rfl⟩) | (go_at_call 159;refine (hD _).mono ?_;rintro e w' ⟨rfl,rfl⟩) | (go_at_call 160;refine (hM _).mono ?_;rintro e w' ⟨rfl,rfl⟩))
      go_ret
      exact⟨rfl,hb⟩
     ·have qf:decide (f<0)=false:=decide_eq_false hf
      by_cases h15:15<f
      ·rw[if_pos (by omega)]
       have q15:decide (15<f)=true:=decide_eq_true h15
       go_enter func135,ntmps135
       go_wp2_with (first | (go_at_call 158;refine (hH _).mono ?_;rintro e w' ⟨rfl,rfl⟩) | (go_at_call 159;refine (hD _).mono ?_;rintro e w' ⟨rfl,rfl⟩) | (go_at_call 160;refine (hM _).mono ?_;rintro e w' ⟨rfl,rfl⟩))
       go_ret
       exact⟨rfl,hb⟩
      ·have q15:decide (15<f)=false:=decide_eq_false h15
       rw[if_neg (by omega)]
       go_enter func135,ntmps135
       go_wp2_with (first | (go_at_call 158;refine (hH _).mono ?_;rintro e w' ⟨rfl,rfl⟩) | (go_at_call 159;refine (hD _).mono ?_;rintro e w' ⟨rfl,rfl⟩) | (go_at_call 160;refine (hM _).mono ?_;rintro e w' ⟨rfl,rfl⟩))
       go_ret
       exact⟨rfl,hb⟩
theorem la (c s n:Nat) (f:Int) (a:Option Addr) (len cap:Nat) (w:World) :
  Calls prog 135 #[.agg #[.int .i64 5,.int .u32 c,.int .u32 s,.int .u32 n,.int .i64 f,.slice a len cap]] w fun e w'=>e=.returned (.int .i64 (LW 5 c s n f len len))∧Below w.heap.size w w':=by
 have hH:=bX 5
 have hD:=bq 5
 have hM:=bV 5 len
 unfold LW
 rw[show cz 5=true from rfl]at hH ⊢
 rw[show dB 5=false from rfl]at hD ⊢
 rw[show eo 5=true from rfl,show kO 5=0 from rfl]
 have hS:aW 5 s=decide ((s:Int)≠0):=rfl
 generalize bT 5 len=D at *
 have hb:Below w.heap.size w (w.alloc (.cells #[.int .i64 5,.int .u32 c,.int .u32 s,.int .u32 n,.int .i64 f,.slice a len cap] 103)):=(Below.refl _ _).alloc (Nat.le_refl _) _
 rw[if_neg (by simp)]
 by_cases hc:(c:Int)=0
 ·rw[if_pos hc,hc]
  rw[hc]at hb
  go_enter func135,ntmps135
  go_wp2_with (first | (go_at_call 158;refine (hH _).mono ?_;rintro e w' ⟨rfl,rfl⟩) | (go_at_call 159;refine (hD _).mono ?_;rintro e w' ⟨rfl,rfl⟩) | (go_at_call 160;refine (hM _).mono ?_;rintro e w' ⟨rfl,rfl⟩))
  go_ret
  exact⟨rfl,hb⟩
 ·rw[if_neg hc]
  have qc:((c:Int) == 0)=false:=by simpa using hc
  cases D
  ·rw[if_pos (Or.inr rfl)]
   go_enter func135,ntmps135
   go_wp2_with (first | (go_at_call 158;refine (hH _).mono ?_;rintro e w' ⟨rfl,rfl⟩) | (go_at_call 159;refine (hD _).mono ?_;rintro e w' ⟨rfl,rfl⟩) | (go_at_call 160;refine (hM _).mono ?_;rintro e w' ⟨rfl,rfl⟩))
   go_ret
   exact⟨rfl,hb⟩
  ·rw[if_neg (by simp)]
   by_cases hs:(s:Int)=0
   ·rw[if_pos (by rw[hS];simpa using hs),hs]
    rw[hs]at hb
    go_enter func135,ntmps135
    go_wp2_with (first | (go_at_call 158;refine (hH _).mono ?_;rintro e w' ⟨rfl,rfl⟩) | (go_at_call 159;refine (hD _).mono ?_;rintro e w' ⟨rfl,rfl⟩) | (go_at_call 160;refine (hM _).mono ?_;rintro e w' ⟨rfl,rfl⟩))
    go_ret
    exact⟨rfl,hb⟩
   ·rw[if_neg (by rw[hS];simpa using hs)]
    have qs:((s:Int) == 0)=false:=by simpa using hs
    by_cases hn:(n:Int)=0
    ·rw[if_pos (by simp[hn]),hn]
     rw[hn]at hb
     go_enter func135,ntmps135
     go_wp2_with (first | (go_at_call 158;refine (hH _).mono ?_;rintro e w' ⟨rfl,rfl⟩) | (go_at_call 159;refine (hD _).mono ?_;rintro e w' ⟨rfl,rfl⟩) | (go_at_call 160;refine (hM _).mono ?_;rintro e w' ⟨rfl,rfl⟩))
     go_ret
     exact⟨rfl,hb⟩
    ·rw[if_neg (by simpa using hn)]
     have qn:((n:Int) == 0)=false:=by simpa using hn
     have qn2:((n:Int) != 0)=true:=by simpa using hn
     by_cases hf:f<0
     ·rw[if_pos (Or.inl hf)]
      have qf:decide (f<0)=true:=decide_eq_true hf
      go_enter func135,ntmps135
      go_wp2_with (first | (go_at_call 158;refine (hH _).mono ?_;rintro e w' ⟨rfl,rfl⟩) | (go_at_call 159;refine (hD _).mono ?_;rintro e w' ⟨rfl,rfl⟩) | (go_at_call 160;refine (hM _).mono ?_;rintro e w' ⟨rfl,rfl⟩))
      go_ret
      exact⟨rfl,hb⟩
     ·have qf:decide (f<0)=false:=decide_eq_false hf
      by_cases h15:15<f
      ·rw[if_pos (by omega)]
       have q15:decide (15<f)=true:=decide_eq_true h15
       go_enter func135,ntmps135
       go_wp2_with (first | (go_at_call 158;refine (hH _).mono ?_;rintro e w' ⟨rfl,rfl⟩) | (go_at_call 159;refine (hD _).mono ?_;rintro e w' ⟨rfl,rfl⟩) | (go_at_call 160;refine (hM _).mono ?_;rintro e w' ⟨rfl,rfl⟩))
       go_ret
       exact⟨rfl,hb⟩
      ·have q15:decide (15<f)=false:=decide_eq_false h15
       by_cases h0:f=0
       ·rw[if_neg (by omega)]
        subst h0
        go_enter func135,ntmps135
        go_wp2_with (first | (go_at_call 158;refine (hH _).mono ?_;rintro e w' ⟨rfl,rfl⟩) | (go_at_call 159;refine (hD _).mono ?_;rintro e w' ⟨rfl,rfl⟩) | (go_at_call 160;refine (hM _).mono ?_;rintro e w' ⟨rfl,rfl⟩))
        go_ret
        exact⟨rfl,hb⟩
       ·rw[if_pos (by omega)]
        have q0:(f == 0)=false:=by simpa using h0
        go_enter func135,ntmps135
        go_wp2_with (first | (go_at_call 158;refine (hH _).mono ?_;rintro e w' ⟨rfl,rfl⟩) | (go_at_call 159;refine (hD _).mono ?_;rintro e w' ⟨rfl,rfl⟩) | (go_at_call 160;refine (hM _).mono ?_;rintro e w' ⟨rfl,rfl⟩))
        go_ret
        exact⟨rfl,hb⟩
theorem jI (c s n:Nat) (f:Int) (a:Option Addr) (len cap:Nat) (w:World) :
  Calls prog 135 #[.agg #[.int .i64 21,.int .u32 c,.int .u32 s,.int .u32 n,.int .i64 f,.slice a len cap]] w fun e w'=>e=.returned (.int .i64 (LW 21 c s n f len len))∧Below w.heap.size w w':=by
 have hH:=bX 21
 have hD:=bq 21
 have hM:=bV 21 len
 unfold LW
 rw[show cz 21=false from rfl]at hH ⊢
 rw[show dB 21=true from rfl]at hD ⊢
 rw[show eo 21=true from rfl,show kO 21=0 from rfl]
 have hS:aW 21 s=decide ((s:Int)≠0):=rfl
 generalize bT 21 len=D at *
 have hb:Below w.heap.size w (w.alloc (.cells #[.int .i64 21,.int .u32 c,.int .u32 s,.int .u32 n,.int .i64 f,.slice a len cap] 103)):=(Below.refl _ _).alloc (Nat.le_refl _) _
 rw[if_neg (by simp)]
 by_cases hc:(c:Int)=0
 ·rw[if_pos hc,hc]
  rw[hc]at hb
  go_enter func135,ntmps135
  go_wp2_with (first | (go_at_call 158;refine (hH _).mono ?_;rintro e w' ⟨rfl,rfl⟩) | (go_at_call 159;refine (hD _).mono ?_;rintro e w' ⟨rfl,rfl⟩) | (go_at_call 160;refine (hM _).mono ?_;rintro e w' ⟨rfl,rfl⟩))
  go_ret
  exact⟨rfl,hb⟩
 ·rw[if_neg hc]
  have qc:((c:Int) == 0)=false:=by simpa using hc
  cases D
  ·rw[if_pos (Or.inr rfl)]
   go_enter func135,ntmps135
   go_wp2_with (first | (go_at_call 158;refine (hH _).mono ?_;rintro e w' ⟨rfl,rfl⟩) | (go_at_call 159;refine (hD _).mono ?_;rintro e w' ⟨rfl,rfl⟩) | (go_at_call 160;refine (hM _).mono ?_;rintro e w' ⟨rfl,rfl⟩))
   go_ret
   exact⟨rfl,hb⟩
  ·rw[if_neg (by simp)]
   by_cases hs:(s:Int)=0
   ·rw[if_pos (by rw[hS];simpa using hs),hs]
    rw[hs]at hb
    go_enter func135,ntmps135
    go_wp2_with (first | (go_at_call 158;refine (hH _).mono ?_;rintro e w' ⟨rfl,rfl⟩) | (go_at_call 159;refine (hD _).mono ?_;rintro e w' ⟨rfl,rfl⟩) | (go_at_call 160;refine (hM _).mono ?_;rintro e w' ⟨rfl,rfl⟩))
    go_ret
    exact⟨rfl,hb⟩
   ·rw[if_neg (by rw[hS];simpa using hs)]
    have qs:((s:Int) == 0)=false:=by simpa using hs
    by_cases hn:(n:Int)=0
    ·rw[if_pos (by simp[hn]),hn]
     rw[hn]at hb
     go_enter func135,ntmps135
     go_wp2_with (first | (go_at_call 158;refine (hH _).mono ?_;rintro e w' ⟨rfl,rfl⟩) | (go_at_call 159;refine (hD _).mono ?_;rintro e w' ⟨rfl,rfl⟩) | (go_at_call 160;refine (hM _).mono ?_;rintro e w' ⟨rfl,rfl⟩))
     go_ret
     exact⟨rfl,hb⟩
    ·rw[if_neg (by simpa using hn)]
     have qn:((n:Int) == 0)=false:=by simpa using hn
     have qn2:((n:Int) != 0)=true:=by simpa using hn
     by_cases hf:f<0
     ·rw[if_pos (Or.inl hf)]
      have qf:decide (f<0)=true:=decide_eq_true hf
      go_enter func135,ntmps135
      go_wp2_with (first | (go_at_call 158;refine (hH _).mono ?_;rintro e w' ⟨rfl,rfl⟩) | (go_at_call 159;refine (hD _).mono ?_;rintro e w' ⟨rfl,rfl⟩) | (go_at_call 160;refine (hM _).mono ?_;rintro e w' ⟨rfl,rfl⟩))
      go_ret
      exact⟨rfl,hb⟩
     ·have qf:decide (f<0)=false:=decide_eq_false hf
      by_cases h15:15<f
      ·rw[if_pos (by omega)]
       have q15:decide (15<f)=true:=decide_eq_true h15
       go_enter func135,ntmps135
       go_wp2_with (first | (go_at_call 158;refine (hH _).mono ?_;rintro e w' ⟨rfl,rfl⟩) | (go_at_call 159;refine (hD _).mono ?_;rintro e w' ⟨rfl,rfl⟩) | (go_at_call 160;refine (hM _).mono ?_;rintro e w' ⟨rfl,rfl⟩))
       go_ret
       exact⟨rfl,hb⟩
      ·have q15:decide (15<f)=false:=decide_eq_false h15
       by_cases h0:f=0
       ·rw[if_neg (by omega)]
        subst h0
        go_enter func135,ntmps135
        go_wp2_with (first | (go_at_call 158;refine (hH _).mono ?_;rintro e w' ⟨rfl,rfl⟩) | (go_at_call 159;refine (hD _).mono ?_;rintro e w' ⟨rfl,rfl⟩) | (go_at_call 160;refine (hM _).mono ?_;rintro e w' ⟨rfl,rfl⟩))
        go_ret
        exact⟨rfl,hb⟩
       ·rw[if_pos (by omega)]
        have q0:(f == 0)=false:=by simpa using h0
        go_enter func135,ntmps135
        go_wp2_with (first | (go_at_call 158;refine (hH _).mono ?_;rintro e w' ⟨rfl,rfl⟩) | (go_at_call 159;refine (hD _).mono ?_;rintro e w' ⟨rfl,rfl⟩) | (go_at_call 160;refine (hM _).mono ?_;rintro e w' ⟨rfl,rfl⟩))
        go_ret
        exact⟨rfl,hb⟩
theorem gf (k:Int) (h1:k≠1) (h22:k≠22) (h4:k≠4) (h20:k≠20) (h5:k≠5) (h21:k≠21) (c s n:Nat) (f:Int) (a:Option Addr) (len cap:Nat) (w:World) :
  Calls prog 135 #[.agg #[.int .i64 k,.int .u32 c,.int .u32 s,.int .u32 n,.int .i64 f,.slice a len cap]] w fun e w'=>e=.returned (.int .i64 (LW k c s n f len len))∧Below w.heap.size w w':=by
 have hH:=bX k
 have hD:=bq k
 have hM:=bV k len
 have hc0:¬ cG k=2:=by
  intro e
  unfold cG at e
  by_cases g1:k=1∨k=2∨k=17
  ·rw[if_pos g1]at e;omega
  ·rw[if_neg g1,if_neg (by omega)]at e;omega
 have hN:eo k=false:=decide_eq_false (by omega)
 have hF:kO k=0:=if_neg hc0
 have q1:(k == 1)=false:=by simpa using h1
 have q22:(k == 22)=false:=by simpa using h22
 have p1:(k != 1)=true:=by simpa using h1
 have p22:(k != 22)=true:=by simpa using h22
 have q4:(k == 4)=false:=by simpa using h4
 have q20:(k == 20)=false:=by simpa using h20
 have q5:(k == 5)=false:=by simpa using h5
 have q21:(k == 21)=false:=by simpa using h21
 have hS:aW k s=decide ((s:Int)≠0):=by unfold aW;rw[if_neg h1,if_neg h22]
 unfold LW
 rw[hS,hF,hN]
 clear hF hN hc0 h1 h22 h4 h20 h5 h21
 generalize cz k=A at *
 generalize dB k=B at *
 generalize bT k len=D at *
 generalize aW k s=S at *
 have hb:Below w.heap.size w (w.alloc (.cells #[.int .i64 k,.int .u32 c,.int .u32 s,.int .u32 n,.int .i64 f,.slice a len cap] 103)):=(Below.refl _ _).alloc (Nat.le_refl _) _
 by_cases h0:A=false∧B=false
 ·obtain⟨rfl,rfl⟩:=h0
  rw[if_pos ⟨rfl,rfl⟩]
  clear hS
  go_enter func135,ntmps135
  go_wp2_with (first | (go_at_call 158;refine (hH _).mono ?_;rintro e w' ⟨rfl,rfl⟩) | (go_at_call 159;refine (hD _).mono ?_;rintro e w' ⟨rfl,rfl⟩) | (go_at_call 160;refine (hM _).mono ?_;rintro e w' ⟨rfl,rfl⟩))
  go_ret
  exact⟨rfl,hb⟩
 ·rw[if_neg h0]
  have h1:A=true∨(A=false∧B=true):=by
   cases A
   ·cases B
    ·exact absurd ⟨rfl,rfl⟩ h0
    ·exact Or.inr ⟨rfl,rfl⟩
   ·exact Or.inl rfl
  clear h0
  by_cases hc:(c:Int)=0
  ·rw[if_pos hc,hc]
   rw[hc]at hb
   clear hS
   rcases h1 with rfl | ⟨rfl,rfl⟩
   all_goals
    go_enter func135,ntmps135
    go_wp2_with (first | (go_at_call 158;refine (hH _).mono ?_;rintro e w' ⟨rfl,rfl⟩) | (go_at_call 159;refine (hD _).mono ?_;rintro e w' ⟨rfl,rfl⟩) | (go_at_call 160;refine (hM _).mono ?_;rintro e w' ⟨rfl,rfl⟩))
    go_ret
    exact⟨rfl,hb⟩
  ·rw[if_neg hc]
   have qc:((c:Int) == 0)=false:=by simpa using hc
   cases D
   ·rw[if_pos (Or.inr rfl)]
    clear hS
    rcases h1 with rfl | ⟨rfl,rfl⟩
    all_goals
     go_enter func135,ntmps135
     go_wp2_with (first | (go_at_call 158;refine (hH _).mono ?_;rintro e w' ⟨rfl,rfl⟩) | (go_at_call 159;refine (hD _).mono ?_;rintro e w' ⟨rfl,rfl⟩) | (go_at_call 160;refine (hM _).mono ?_;rintro e w' ⟨rfl,rfl⟩))
     go_ret
     exact⟨rfl,hb⟩
   ·rw[if_neg (by simp)]
    by_cases hs:(s:Int)=0
    ·rw[if_pos (by simp[hs]),hs]
     rw[hs]at hb
     rcases h1 with rfl | ⟨rfl,rfl⟩
     all_goals
      go_enter func135,ntmps135
      go_wp2_with (first | (go_at_call 158;refine (hH _).mono ?_;rintro e w' ⟨rfl,rfl⟩) | (go_at_call 159;refine (hD _).mono ?_;rintro e w' ⟨rfl,rfl⟩) | (go_at_call 160;refine (hM _).mono ?_;rintro e w' ⟨rfl,rfl⟩))
      go_ret
      exact⟨rfl,hb⟩
    ·rw[if_neg (by simpa using hs)]
     have qs:((s:Int) == 0)=false:=by simpa using hs
     by_cases hn:(n:Int)=0
     ·rw[if_neg (by simp[hn]),hn]
      rw[hn]at hb
      by_cases hf:f<0
      ·rw[if_pos (Or.inl hf)]
       have qf:decide (f<0)=true:=decide_eq_true hf
       rcases h1 with rfl | ⟨rfl,rfl⟩
       all_goals
        go_enter func135,ntmps135
        go_wp2_with (first | (go_at_call 158;refine (hH _).mono ?_;rintro e w' ⟨rfl,rfl⟩) | (go_at_call 159;refine (hD _).mono ?_;rintro e w' ⟨rfl,rfl⟩) | (go_at_call 160;refine (hM _).mono ?_;rintro e w' ⟨rfl,rfl⟩))
        go_ret
        exact⟨rfl,hb⟩
      ·have qf:decide (f<0)=false:=decide_eq_false hf
       by_cases h15:15<f
       ·rw[if_pos (by omega)]
        have q15:decide (15<f)=true:=decide_eq_true h15
        rcases h1 with rfl | ⟨rfl,rfl⟩
        all_goals
         go_enter func135,ntmps135
         go_wp2_with (first | (go_at_call 158;refine (hH _).mono ?_;rintro e w' ⟨rfl,rfl⟩) | (go_at_call 159;refine (hD _).mono ?_;rintro e w' ⟨rfl,rfl⟩) | (go_at_call 160;refine (hM _).mono ?_;rintro e w' ⟨rfl,rfl⟩))
         go_ret
         exact⟨rfl,hb⟩
       ·have q15:decide (15<f)=false:=decide_eq_false h15
        by_cases h0:f=0
        ·rw[if_neg (by omega)]
         subst h0
         rcases h1 with rfl | ⟨rfl,rfl⟩
         all_goals
          go_enter func135,ntmps135
          go_wp2_with (first | (go_at_call 158;refine (hH _).mono ?_;rintro e w' ⟨rfl,rfl⟩) | (go_at_call 159;refine (hD _).mono ?_;rintro e w' ⟨rfl,rfl⟩) | (go_at_call 160;refine (hM _).mono ?_;rintro e w' ⟨rfl,rfl⟩))
          go_ret
          exact⟨rfl,hb⟩
        ·rw[if_pos (by omega)]
         have q0:(f == 0)=false:=by simpa using h0
         rcases h1 with rfl | ⟨rfl,rfl⟩
         all_goals
          go_enter func135,ntmps135
          go_wp2_with (first | (go_at_call 158;refine (hH _).mono ?_;rintro e w' ⟨rfl,rfl⟩) | (go_at_call 159;refine (hD _).mono ?_;rintro e w' ⟨rfl,rfl⟩) | (go_at_call 160;refine (hM _).mono ?_;rintro e w' ⟨rfl,rfl⟩))
          go_ret
          exact⟨rfl,hb⟩
     ·rw[if_pos (by simpa using hn)]
      have qn:((n:Int) == 0)=false:=by simpa using hn
      have qn2:((n:Int) != 0)=true:=by simpa using hn
      rcases h1 with rfl | ⟨rfl,rfl⟩
      all_goals
       go_enter func135,ntmps135
       go_wp2_with (first | (go_at_call 158;refine (hH _).mono ?_;rintro e w' ⟨rfl,rfl⟩) | (go_at_call 159;refine (hD _).mono ?_;rintro e w' ⟨rfl,rfl⟩) | (go_at_call 160;refine (hM _).mono ?_;rintro e w' ⟨rfl,rfl⟩))
       go_ret
       exact⟨rfl,hb⟩
theorem eT (k:Int) (c s n:Nat) (f:Int) (a:Option Addr) (len cap:Nat) (w:World) :
  Calls prog 135 #[.agg #[.int .i64 k,.int .u32 c,.int .u32 s,.int .u32 n,.int .i64 f,.slice a len cap]] w fun e w'=>e=.returned (.int .i64 (LW k c s n f len len))∧Below w.heap.size w w':=by
 by_cases h1:k=1
 ·subst h1;exact kY c s n f a len cap w
 by_cases h22:k=22
 ·subst h22;exact jJ c s n f a len cap w
 by_cases h4:k=4
 ·subst h4;exact kZ c s n f a len cap w
 by_cases h20:k=20
 ·subst h20;exact jH c s n f a len cap w
 by_cases h5:k=5
 ·subst h5;exact la c s n f a len cap w
 by_cases h21:k=21
 ·subst h21;exact jI c s n f a len cap w
 exact gf k h1 h22 h4 h20 h5 h21 c s n f a len cap w
end Go.Proofs.YtdpahjfekoikiaaGreat
