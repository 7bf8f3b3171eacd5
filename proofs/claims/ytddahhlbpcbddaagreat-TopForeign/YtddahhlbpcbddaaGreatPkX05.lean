/- Part 6: contracts that the proof rests on. -/
import Derived.Test.YtddahhlbpcbddaaGreatPkX02
set_option maxHeartbeats 64000000
set_option maxRecDepth 100000
namespace Go.Proofs.YtddahhlbpcbddaaGreat
open Tryz
open Go.RowKit
def DC (l c:Nat):Array Value:=#[.int .i64 l,.int .i64 c]
structure DR (w:World) (b l c:Nat):Prop where
 at_:w.heap[b]?=some (.cells (DC l c) 194 (0,0))
 lo:1≤l
 hi:l≤1048576
 le:c≤l
section
variable {w w':World} {b l c:Nat}
theorem DR.lt (h:DR w b l c):b<w.heap.size:=(Array.getElem?_eq_some_iff.1 h.at_).1
theorem DR.c0 (h:DR w b l c):w.cell? ⟨b,0,none⟩=some (.int .i64 l):=ae w b 0 _ _ _ h.at_
theorem DR.c1 (h:DR w b l c):w.cell? ⟨b,1,none⟩=some (.int .i64 c):=ae w b 1 _ _ _ h.at_
theorem DR.fz (h:DR w b l c) (j:Nat):w.frozen? ⟨b,j,none⟩=false:=frozen_of_row w b j _ _ h.at_
theorem DR.off {m:List Nat} (h:DR w b l c) (q:Off m w w') (hb:b ∉ m):DR w' b l c:=⟨(q.block b h.lt hb).trans h.at_,h.lo,h.hi,h.le⟩
theorem DR.set (h:DR w b l c) (x:Nat) (hx:x≤l):DR (w.setCell ⟨b,1,none⟩ (.int .i64 x)) b l x:=⟨heap_setCell_same _ _ _ _ _ _ h.at_,h.lo,h.hi,hx⟩
end
def tk (l c n:Nat):Nat:=c+min n (l-c)
def lM (l c n:Nat):Bool:=decide (c<l∧l≤c+n)
theorem aa4 (l c n:Nat) (h:c≤l):tk l c n≤l:=by unfold tk;omega
theorem rJ (l:Nat) (w:World) (h1:1≤l) (h2:l≤1048576) :
  Calls prog 91 #[.int .i64 l] w fun e w'=>e=.returned (.tuple #[ac w.heap.size 0,.int .i64 0])∧(Off [] w w'∧DR w' w.heap.size l 0):=by
 go_enter func91,ntmps91
 go_wp2
 go_ret2
 exact⟨rfl,Off.alloc _ _ _,⟨ay w _,h1,h2,Nat.zero_le _⟩⟩
theorem ut (l c n b:Nat) (w:World) (h:DR w b l c) (hn:n≤9223372036854775807) :
  Calls prog 255 #[ac b 0,.int .i64 n] w fun e w'=>e=.returned (.bool (lM l c n))∧w'=w.setCell ⟨b,1,none⟩ (.int .i64 (tk l c n:Nat)):=by
 have h0:=h.c0
 have h1:=h.c1
 have hl:=oU _ _ w h1
 have hc:=xW ⟨b,1,none⟩ c (tk l c n:Nat) w h1 (h.fz 1)
 obtain⟨_,_,hi,le⟩:=h
 obtain⟨L,hL⟩:∃ L,L=l-c:=⟨_,rfl⟩
 have e1:IntKind.i64.wrap ((l:Int) - (c:Int))=((L:Nat):Int):=by rw[IntKind.wrap_i64];omega
 have e4:lM l c n=(decide (0<L) && decide (L≤n)):=by unfold lM;rw[Bool.eq_iff_iff];simp;omega
 have e5:tk l c n=if L<n then c+L else c+n:=by unfold tk;split <;> omega
 generalize lM l c n=t at *
 generalize tk l c n=s at *
 rcases Nat.lt_trichotomy L n with g | g | g
 ·rw[if_pos g]at e5
  have e3:IntKind.i64.wrap ((c:Int) + (L:Int))=(s:Int):=by rw[e5,IntKind.wrap_i64];omega
  clear e5
  have g2:L≤n:=by omega
  by_cases g1:0<L
  ·have ht:t=true:=by rw[e4];simp[g1,g2]
   subst ht
   clear e4 hL le hi hn
   go_enter func255,ntmps255
   go_wp2_with fail
   refine wp_loop_once ?_
   go_wp2_with (first | (go_at_call 86;refine hl.mono ?_;rintro e w' ⟨rfl,rfl⟩) | (go_at_call 256;refine hc.mono ?_;rintro e w' ⟨rfl,rfl⟩))
   go_ret
   exact⟨rfl,rfl⟩
  ·have ht:t=false:=by rw[e4];simp[g1]
   subst ht
   clear e4 hL le hi hn
   go_enter func255,ntmps255
   go_wp2_with fail
   refine wp_loop_once ?_
   go_wp2_with (first | (go_at_call 86;refine hl.mono ?_;rintro e w' ⟨rfl,rfl⟩) | (go_at_call 256;refine hc.mono ?_;rintro e w' ⟨rfl,rfl⟩))
   go_ret
   exact⟨rfl,rfl⟩
 ·subst g
  rw[if_neg (by omega)]at e5
  have e3:IntKind.i64.wrap ((c:Int) + (L:Int))=(s:Int):=by rw[e5,IntKind.wrap_i64];omega
  clear e5
  by_cases g1:0<L
  ·have ht:t=true:=by rw[e4];simp[g1]
   subst ht
   clear e4 hL le hi hn
   go_enter func255,ntmps255
   go_wp2_with fail
   refine wp_loop_once ?_
   go_wp2_with (first | (go_at_call 86;refine hl.mono ?_;rintro e w' ⟨rfl,rfl⟩) | (go_at_call 256;refine hc.mono ?_;rintro e w' ⟨rfl,rfl⟩))
   go_ret
   exact⟨rfl,rfl⟩
  ·have ht:t=false:=by rw[e4];simp[g1]
   subst ht
   clear e4 hL le hi hn
   go_enter func255,ntmps255
   go_wp2_with fail
   refine wp_loop_once ?_
   go_wp2_with (first | (go_at_call 86;refine hl.mono ?_;rintro e w' ⟨rfl,rfl⟩) | (go_at_call 256;refine hc.mono ?_;rintro e w' ⟨rfl,rfl⟩))
   go_ret
   exact⟨rfl,rfl⟩
 ·rw[if_neg (by omega)]at e5
  have e3:IntKind.i64.wrap ((c:Int) + (n:Int))=(s:Int):=by rw[e5,IntKind.wrap_i64];omega
  clear e5
  have g1:0<L:=by omega
  have ht:t=false:=by rw[e4];simp;omega
  subst ht
  have g2:¬ L≤n:=by omega
  clear e4 hL le hi hn
  go_enter func255,ntmps255
  go_wp2_with fail
  refine wp_loop_once ?_
  go_wp2_with (first | (go_at_call 86;refine hl.mono ?_;rintro e w' ⟨rfl,rfl⟩) | (go_at_call 256;refine hc.mono ?_;rintro e w' ⟨rfl,rfl⟩))
  go_ret
  exact⟨rfl,rfl⟩
theorem kY (l c n b:Nat) (w:World) (h:DR w b l c) (hn:n≤9223372036854775807) :
  Calls prog 253 #[ac b 0,.int .i64 n] w fun e w'=>e=.returned (.tuple #[.bool (lM l c n),.int .i64 0])∧(Off [b] w w'∧DR w' b l (tk l c n)):=by
 have hg:=ut l c n b w h hn
 have hk:Hid (Off [b] w (w.setCell ⟨b,1,none⟩ (.int .i64 (tk l c n:Nat)))∧DR (w.setCell ⟨b,1,none⟩ (.int .i64 (tk l c n:Nat))) b l (tk l c n)):=⟨Off.setCell _ _ _ _,h.set _ (aa4 l c n h.le)⟩
 generalize lM l c n=t at *
 clear h
 go_enter func253,ntmps253
 go_wp2_with fail
 refine hg.mono ?_
 rintro e w' ⟨rfl,hw⟩
 have hj:=hw ▸ hk
 clear hk hg hw
 go_wp2_with fail
 go_ret2
 exact⟨rfl,hj.out⟩
theorem lq (n:Int) (b:Nat) (w:World) (hn:n<0) :
  Calls prog 253 #[ac b 0,.int .i64 n] w fun e w'=>e=.returned (.tuple #[.bool false,.int .i64 2])∧w'=w:=by
 go_enter func253,ntmps253
 go_wp2_with fail
 go_ret2
 exact⟨rfl,rfl⟩
theorem mc (l c b:Nat) (w:World) (h:DR w b l c) :
  Calls prog 196 #[ac b 0] w fun e w'=>e=.returned (.tuple #[])∧(Off [b] w w'∧DR w' b l 0):=by
 have hs:=ta ⟨b,1,none⟩ c 0 w h.c1 (h.fz 1)
 have hk:Hid (Off [b] w (w.setCell ⟨b,1,none⟩ (.int .i64 ((0:Nat):Int)))∧DR (w.setCell ⟨b,1,none⟩ (.int .i64 ((0:Nat):Int))) b l 0):=⟨Off.setCell _ _ _ _,h.set _ (Nat.zero_le _)⟩
 clear h
 go_enter func196,ntmps196
 go_wp2_with fail
 refine hs.mono ?_
 rintro e w' ⟨rfl,hw⟩
 have hj:Hid (Off [b] w w'∧DR w' b l 0):=by rw[hw];exact hk
 clear hk hs hw
 go_wp2_with fail
 go_end0
 exact⟨rfl,hj.out⟩
theorem kI (l c b:Nat) (w:World) (h:DR w b l c) :
  Calls prog 63 #[ac b 0] w fun e w'=>e=.returned (.int .i64 c)∧w'=w:=by
 have hl:=oU _ _ w h.c1
 clear h
 go_enter func63,ntmps63
 go_wp2_with (go_at_call 86;refine hl.mono ?_;rintro e w' ⟨rfl,rfl⟩)
 go_ret
 exact⟨rfl,rfl⟩
end Go.Proofs.YtddahhlbpcbddaaGreat
