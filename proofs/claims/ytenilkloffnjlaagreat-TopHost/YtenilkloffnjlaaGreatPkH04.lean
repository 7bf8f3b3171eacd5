/- Part 5: contracts that the proof rests on. -/
import Derived.Deep.QuietTactic
import Derived.BigQuiet
import Derived.Deep.RegionHeld3
import Derived.Test.YtenilkloffnjlaaGreatPkH02
set_option maxHeartbeats 64000000
set_option maxRecDepth 100000
namespace Go.Proofs.YtenilkloffnjlaaGreat
open Tryz
open Go.RowKit
theorem zS (a:Addr) (d:Int) (w:World) (h0:w.cell? a=some (.int .u32 d)) :
  Calls prog 186 #[.pointer (some a)] w fun e w'=>e=.returned (.bool (d != 0))∧w'=w:=by
 have hl:=run_call_load (P:=prog) func218 (by kernel_rfl) (by kernel_rfl) (by kernel_rfl) .u32 (by kernel_rfl) h0
 go_enter func186,ntmps186
 go_wp2
 go_ret
 exact⟨rfl,rfl⟩
def o32 (b:Bool):Int:=if b then 1 else 0
theorem vY (a:Addr) (x:Value) (b:Bool) (w:World) (hc:w.cell? a=some x) (hz:w.frozen? a=false) :
  Calls prog 143 #[.pointer (some a),.bool b] w fun e w'=>e=.returned (.tuple #[])∧w'=w.drew.setCell a (.int .u32 (o32 b)):=by
 have hc':w.drew.cell? a=some x:=by go_simp
 have hz':w.drew.frozen? a=false:=by go_simp
 have hst:=fun y:Int=>run_call_store (P:=prog) func175 (by kernel_rfl) (by kernel_rfl) (by kernel_rfl) (by kernel_rfl) (k:=.u32) (y:=y) hc' hz'
 cases b
 ·have hst0:=hst 0
  clear hst
  go_enter func143,ntmps143
  go_wp2
  go_region_calls
  all_goals (go_end0;exact⟨rfl,rfl⟩)
 ·have hst1:=hst 1
  clear hst
  go_enter func143,ntmps143
  go_wp2
  go_region_calls
  all_goals (go_end0;exact⟨rfl,rfl⟩)
structure Ms where
 bs:Nat→Nat
 off:Bool
 ar:Bool
 l:Int
 t:Int
structure Held (w:World) (b g n:Nat) (bs:Nat→Nat) (v:Value):Prop where
 own:w.ownsRow 0 5 1 v n (CB bs n)
 at_:(v=.slice none 0 0∧n=0∧g=b)∨(g≠b∧∃ cap,v=.slice (af g 0) n cap)
section
variable {w w':World} {b g n:Nat} {bs:Nat→Nat} {v:Value}
theorem Held.off {l:List Nat} (h:Held w b g n bs v) (q:Off l w w') (hg:g ∉ l):Held w' b g n bs v:=by
 refine⟨⟨h.own.1,?_⟩,h.at_⟩
 rcases h.own.2 with hn | ⟨g',cap,cur,hv,hg0,hgg,rest⟩
 ·exact .inl hn
 ·rcases h.at_ with ⟨hv',_⟩ | ⟨_,cap',hv'⟩
  ·rw[hv]at hv';simp at hv'
  ·rw[hv]at hv'
   simp only[Value.slice.injEq,Option.some.injEq,Addr.mk.injEq,and_true,true_and]at hv'
   obtain⟨rfl,rfl⟩:=hv'
   exact .inr ⟨_,_,cur,hv,hg0,by rw[q.block _ (Array.getElem?_eq_some_iff.1 hgg).1 hg];exact hgg,rest⟩
theorem Held.lt (h:Held w b g n bs v) (hb:b<w.heap.size):g<w.heap.size:=by
 rcases h.at_ with ⟨_,_,rfl⟩ | ⟨_,cap,rfl⟩
 ·exact hb
 ·exact (h.own.lt g rfl).2
theorem Held.row (h:Held w b g n bs v) (hb:∀ i,i<n→bs i<256):∃ a cap,v=.slice a n cap∧Row8 w a n cap bs:=aY h.own hb
theorem Held.plain (h:Held w b g n bs v) (hn:0<n):g≠b∧∃ cap,v=.slice (af g 0) n cap:=by
 rcases h.at_ with ⟨_,rfl,_⟩ | h
 ·omega
 ·exact h
theorem Held.here (h:Held w b g n bs v) (q:Off [b] w w'):Held w' b g n bs v:=by
 rcases h.at_ with ⟨rfl,rfl,rfl⟩ | hg
 ·exact⟨World.ownsRow_nil _ _ _ _,.inl ⟨rfl,rfl,rfl⟩⟩
 ·exact h.off q (by simpa using hg.1)
theorem Held.set (h:Held w b g n bs v) (j x:Nat) (hj:j<n):Held (w.setCell ⟨g,j,none⟩ (.int .u8 (x:Nat))) b g n (fun i=>if i=j then x else bs i) v:=by
 obtain⟨hg,cap,rfl⟩:=h.plain (by omega)
 refine⟨?_,.inr ⟨hg,cap,rfl⟩⟩
 have:=(h.own.stored j (.int .u8 (x:Nat))).1
 rwa [fN]at this
end
def MC (v:Value) (s:Ms):Array Value:=#[v,.int .u32 (o32 s.off),.bool s.ar,.int .i64 s.l,.int .i64 s.t]
structure MR (w:World) (b g n:Nat) (s:Ms):Prop where
 ex:∃ v,w.heap[b]?=some (.cells (MC v s) 182 (0,0))∧Held w b g n s.bs v
 byte:∀ i,i<n→s.bs i<256
 l0:0≤s.l
 l1:s.l≤9223372036854775807
 t0:0≤s.t
 nn:n≤4096
section
variable {w w':World} {b g n:Nat} {s:Ms}
theorem MR.lt (h:MR w b g n s):b<w.heap.size:=by
 obtain⟨v,hv,_⟩:=h.ex
 exact (Array.getElem?_eq_some_iff.1 hv).1
theorem MR.lg (h:MR w b g n s):g<w.heap.size:=by
 obtain⟨v,hv,hh⟩:=h.ex
 exact hh.lt h.lt
theorem MR.off {l:List Nat} (h:MR w b g n s) (q:Off l w w') (hb:b ∉ l) (hg:g ∉ l):MR w' b g n s:=by
 obtain⟨v,hv,hh⟩:=h.ex
 exact⟨⟨v,(q.block b h.lt hb).trans hv,hh.off q hg⟩,h.byte,h.l0,h.l1,h.t0,h.nn⟩
theorem MR.cells (h:MR w b g n s):∃ a cap,w.cell? ⟨b,0,none⟩=some (.slice a n cap)∧Row8 w a n cap s.bs∧(0<n→g≠b∧a=af g 0)∧w.cell? ⟨b,1,none⟩=some (.int .u32 (o32 s.off)) ∧
  w.cell? ⟨b,2,none⟩=some (.bool s.ar)∧w.cell? ⟨b,3,none⟩=some (.int .i64 s.l)∧w.cell? ⟨b,4,none⟩=some (.int .i64 s.t)∧∀ j,w.frozen? ⟨b,j,none⟩=false:=by
 obtain⟨v,hv,hh⟩:=h.ex
 obtain⟨a,cap,rfl,hr⟩:=hh.row h.byte
 refine⟨a,cap,ae w b 0 _ _ _ hv,hr,fun hn=>?_,ae w b 1 _ _ _ hv,ae w b 2 _ _ _ hv,ae w b 3 _ _ _ hv,ae w b 4 _ _ _ hv,fun j=>frozen_of_row w b j _ _ hv⟩
 obtain⟨hg,cap',he⟩:=hh.plain hn
 simp only[Value.slice.injEq]at he
 exact⟨hg,he.1⟩
theorem MR.held (h:MR w b g n s) (j:Nat) (hj:j<n):w.cell? ⟨g,j,none⟩=some (.int .u8 (s.bs j:Nat))∧w.frozen? ⟨g,j,none⟩=false:=by
 obtain⟨v,hv,hh⟩:=h.ex
 obtain⟨hg,cap,rfl⟩:=hh.plain (by omega)
 exact⟨by rw[hh.own.cellAt j (by omega),aZ _ _ _ hj],hh.own.frozenAt j⟩
theorem MR.upd (h:MR w b g n s) (s':Ms) (q:Off [b] w w') (hc:∀ v,w.heap[b]?=some (.cells (MC v s) 182 (0,0))→w'.heap[b]?=some (.cells (MC v s') 182 (0,0)))
  (hbs:s'.bs=s.bs) (l0:0≤s'.l) (l1:s'.l≤9223372036854775807) (t0:0≤s'.t):MR w' b g n s':=by
 obtain⟨v,hv,hh⟩:=h.ex
 exact⟨⟨v,hc v hv,hbs ▸ hh.here q⟩,hbs ▸ h.byte,l0,l1,t0,h.nn⟩
theorem MR.put (h:MR w b g n s) (j x:Nat) (hj:j<n) (hx:x<256):MR (w.setCell ⟨g,j,none⟩ (.int .u8 (x:Nat))) b g n { s with bs:=fun i=>if i=j then x else s.bs i }:=by
 obtain⟨v,hv,hh⟩:=h.ex
 have hg:=(hh.plain (by omega)).1
 refine⟨⟨v,(heap_setCell_other w _ b _ (Ne.symm hg)).trans hv,hh.set j x hj⟩,fun i hi=>?_,h.l0,h.l1,h.t0,h.nn⟩
 by_cases e:i=j
 ·simp[e,hx]
 ·simp[e,h.byte i hi]
theorem MR.drew (h:MR w b g n s):MR w.drew b g n s:=h.off (Off.drew [] _) (by simp) (by simp)
theorem MR.drewN (h:MR w b g n s) (k:Nat):MR (w.drewN k) b g n s:=h.off (Off.drewN [] _ k) (by simp) (by simp)
end
def lN (s:Ms) (n:Nat) (p:Int):Int:=if s.off then 70 else if p<0∨(n:Int)≤p then 2 else 0
theorem mI (b g n:Nat) (s:Ms) (p:Int) (w:World) (h:MR w b g n s) :
  Calls prog 147 #[ac b 0,.int .i64 p] w fun e w'=>e=.returned (.int .i64 (lN s n p))∧w'=w:=by
 obtain⟨a,cap,c0,_,_,c1,_⟩:=h.cells
 have hl:=zS ⟨b,1,none⟩ _ w c1
 unfold lN
 cases ho:s.off
 ·rw[ho]at hl
  have e1:(o32 false != 0)=false:=rfl
  rw[e1]at hl
  by_cases hp:p<0
  ·rw[if_neg (by simp),if_pos (.inl hp)]
   go_enter func147,ntmps147
   go_wp2_with (go_at_call 186;refine hl.mono ?_;rintro e w' ⟨rfl,rfl⟩)
   go_ret
   exact⟨rfl,rfl⟩
  ·by_cases hn:(n:Int)≤p
   ·rw[if_neg (by simp),if_pos (.inr hn)]
    go_enter func147,ntmps147
    go_wp2_with (go_at_call 186;refine hl.mono ?_;rintro e w' ⟨rfl,rfl⟩)
    go_ret
    exact⟨rfl,rfl⟩
   ·rw[if_neg (by simp),if_neg (by omega)]
    go_enter func147,ntmps147
    go_wp2_with (go_at_call 186;refine hl.mono ?_;rintro e w' ⟨rfl,rfl⟩)
    go_ret
    exact⟨rfl,rfl⟩
 ·rw[ho]at hl
  have e1:(o32 true != 0)=true:=rfl
  rw[e1]at hl
  rw[if_pos rfl]
  go_enter func147,ntmps147
  go_wp2_with (go_at_call 186;refine hl.mono ?_;rintro e w' ⟨rfl,rfl⟩)
  go_ret
  exact⟨rfl,rfl⟩
end Go.Proofs.YtenilkloffnjlaaGreat
namespace Go.Proofs.YtenilkloffnjlaaGreat
open Tryz
open Go.RowKit
def lay (bs:Nat→Nat) (j x:Nat):Nat→Nat:=fun i=>if i=j then x else bs i
def qF (s:Ms) (n:Nat) (p:Int):Int:=if lN s n p≠0 then lN s n p else if s.ar=true∧s.l=0 then 70 else 0
def oE (s:Ms) (n:Nat) (p:Int) (c:Nat):Ms:=
 if lN s n p≠0 then s else if s.ar=true∧s.l=0 then { s with off:=true } else { s with bs:=lay s.bs p.toNat c,l:=if s.ar then s.l-1 else s.l,t:=s.t+1 }
theorem qh {s:Ms} {n:Nat} {p:Int} (h:lN s n p=0):s.off=false∧0≤p∧p < (n:Int):=by
 unfold lN at h
 cases ho:s.off
 ·rw[ho,if_neg (by simp)]at h
  by_cases e:p<0∨(n:Int)≤p
  ·rw[if_pos e]at h;omega
  ·exact⟨rfl,by omega,by omega⟩
 ·rw[ho,if_pos rfl]at h;omega
theorem acs {s:Ms} {n:Nat} {p:Int} {c:Nat} (hr:lN s n p≠0):qF s n p=lN s n p∧oE s n p c=s:=⟨if_pos hr,if_pos hr⟩
theorem sc {s:Ms} {n:Nat} {p:Int} {c:Nat} (hr:lN s n p=0) (ha:s.ar=true) (hl:s.l=0):qF s n p=70∧oE s n p c={ s with off:=true }:=
 ⟨(if_neg (fun k=>k hr)).trans (if_pos ⟨ha,hl⟩),(if_neg (fun k=>k hr)).trans (if_pos ⟨ha,hl⟩)⟩
theorem zI {s:Ms} {n:Nat} {p:Int} {c:Nat} (hr:lN s n p=0) (ha:s.ar=false):qF s n p=0∧oE s n p c={ s with bs:=lay s.bs p.toNat c,t:=s.t+1 }:=by
 refine⟨(if_neg (fun k=>k hr)).trans (if_neg (by simp[ha])),(if_neg (fun k=>k hr)).trans ((if_neg (by simp[ha])).trans ?_)⟩
 simp[ha]
theorem zJ {s:Ms} {n:Nat} {p:Int} {c:Nat} (hr:lN s n p=0) (ha:s.ar=true) (hl:s.l≠0):qF s n p=0∧oE s n p c={ s with bs:=lay s.bs p.toNat c,l:=s.l-1,t:=s.t+1 }:=by
 refine⟨(if_neg (fun k=>k hr)).trans (if_neg (by simp[hl])),(if_neg (fun k=>k hr)).trans ((if_neg (by simp[hl])).trans ?_)⟩
 simp[ha]
theorem Off.pair {b g:Nat} {w w':World} (h:Off [b] w w'):Off [b,g] w w':=h.more (by simp)
theorem Off.pair' {b g:Nat} {w w':World} (h:Off [g] w w'):Off [b,g] w w':=h.more (by simp)
theorem ig (b g n:Nat) (s:Ms) (p:Int) (c:Nat) (w:World) (h:MR w b g n s) (hc:c<256) (ht:s.t<9223372036854775807) :
  Calls prog 148 #[ac b 0,.int .i64 p,.int .u8 (c:Nat)] w fun e w'=>e=.returned (.int .i64 (qF s n p))∧(Off [b,g] w w'∧MR w' b g n (oE s n p c)):=by
 have hR:=mI b g n s p w h
 by_cases hr:lN s n p=0
 ·rw[hr]at hR
  obtain⟨hoff,hp0,hpn⟩:=qh hr
  obtain⟨j,rfl⟩:=Int.eq_ofNat_of_zero_le hp0
  have hj:j<n:=by omega
  obtain⟨a,cap,c0,_,hpl,c1,c2,c3,c4,fz⟩:=h.cells
  obtain⟨hgb,rfl⟩:=hpl (by omega)
  obtain⟨cg,fg⟩:=h.held j hj
  have hl0:=h.l0
  have hl1:=h.l1
  have ht0:=h.t0
  have H:Hid (_):=h
  have fz1:=fz 1
  have fz3:=fz 3
  have fz4:=fz 4
  clear h fz hpl
  cases ha:s.ar
  ·rw[ha]at c2
   obtain⟨hE,hS⟩:=zI (c:=c) hr ha
   rw[hE,hS]
   clear hE hS hr
   go_enter func148,ntmps148
   go_wp2_with (go_at_call 147;refine hR.mono ?_;rintro e w' ⟨rfl,rfl⟩)
   go_ret
   refine⟨rfl,(Off.setCell g j _ _).pair'.trans (Off.setCell b 4 _ _).pair,?_⟩
   exact (H.out.put j c hj hc).upd { s with bs:=lay s.bs j c,t:=s.t+1 } (Off.setCell b 4 _ _) (fun v hv=>heap_setCell_same _ _ _ _ _ _ hv) rfl hl0 hl1 (by show 0≤s.t+1;omega)
  ·rw[ha]at c2
   by_cases hz:s.l=0
   ·obtain⟨hE,hS⟩:=sc (c:=c) hr ha hz
    rw[hE,hS]
    rw[hz]at c3
    have hst:=vY ⟨b,1,none⟩ _ true _ c1 fz1
    clear hE hS hr
    go_enter func148,ntmps148
    go_wp2_with (first | (go_at_call 147;refine hR.mono ?_;rintro e w' ⟨rfl,hw⟩;rw[hw];clear hw) | (go_at_call 143;refine hst.mono ?_;rintro e w' ⟨rfl,rfl⟩))
    go_ret
    refine⟨rfl,((Off.drew [b] _).trans (Off.setCell b 1 _ _)).pair,?_⟩
    exact H.out.drew.upd { s with off:=true } (Off.setCell b 1 _ _) (fun v hv=>heap_setCell_same _ _ _ _ _ _ hv) rfl hl0 hl1 ht0
   ·obtain⟨hE,hS⟩:=zJ (c:=c) hr ha hz
    rw[hE,hS]
    clear hE hS hr
    go_enter func148,ntmps148
    go_wp2_with (go_at_call 147;refine hR.mono ?_;rintro e w' ⟨rfl,rfl⟩)
    go_ret
    refine⟨rfl,((Off.setCell b 3 _ _).pair.trans (Off.setCell g j _ _).pair').trans (Off.setCell b 4 _ _).pair,?_⟩
    have h1:=H.out.upd { s with l:=s.l-1 } (Off.setCell b 3 _ (.int .i64 (s.l-1))) (fun v hv=>heap_setCell_same _ _ _ _ _ _ hv) rfl (by show 0≤s.l-1;omega) (by show s.l-1≤_;omega) ht0
    exact (h1.put j c hj hc).upd { s with bs:=lay s.bs j c,l:=s.l-1,t:=s.t+1 } (Off.setCell b 4 _ _) (fun v hv=>heap_setCell_same _ _ _ _ _ _ hv) rfl (by show 0≤s.l-1;omega) (by show s.l-1≤_;omega) (by show 0≤s.t+1;omega)
 ·obtain⟨hE,hS⟩:=acs (c:=c) hr
  rw[hE,hS]
  have H:Hid (_):=h
  clear h hE hS
  generalize lN s n p=r at *
  go_enter func148,ntmps148
  go_wp2_with (go_at_call 147;refine hR.mono ?_;rintro e w' ⟨rfl,rfl⟩)
  go_ret
  exact⟨rfl,Off.refl _ _,H.out⟩
def rdB (s:Ms) (n:Nat) (p:Int):Nat:=if lN s n p≠0 then 0 else s.bs p.toNat
theorem lj (b g n:Nat) (s:Ms) (p:Int) (w:World) (h:MR w b g n s) :
  Calls prog 120 #[ac b 0,.int .i64 p] w fun e w'=>e=.returned (.tuple #[.int .u8 (rdB s n p:Nat),.int .i64 (lN s n p)])∧w'=w:=by
 have hR:=mI b g n s p w h
 unfold rdB
 by_cases hr:lN s n p=0
 ·rw[hr]at hR ⊢
  rw[if_neg (by simp)]
  obtain⟨hoff,hp0,hpn⟩:=qh hr
  obtain⟨j,rfl⟩:=Int.eq_ofNat_of_zero_le hp0
  have hj:j<n:=by omega
  obtain⟨a,cap,c0,_,hpl,_⟩:=h.cells
  obtain⟨hgb,rfl⟩:=hpl (by omega)
  obtain⟨cg,fg⟩:=h.held j hj
  clear h hpl hr
  rw[Int.toNat_natCast]
  generalize s.bs j=x at *
  go_enter func120,ntmps120
  go_wp2_with (go_at_call 147;refine hR.mono ?_;rintro e w' ⟨rfl,rfl⟩)
  go_ret2
  exact⟨rfl,rfl⟩
 ·rw[if_pos hr]
  clear h
  generalize lN s n p=r at *
  go_enter func120,ntmps120
  go_wp2_with (go_at_call 147;refine hR.mono ?_;rintro e w' ⟨rfl,rfl⟩)
  go_ret2
  exact⟨rfl,rfl⟩
def arE (p:Int):Int:=if p<0 then 2 else 0
def lK (s:Ms) (p:Int):Ms:=if p<0 then s else { s with ar:=true,l:=p }
theorem sj (b g n:Nat) (s:Ms) (p:Int) (w:World) (h:MR w b g n s) (hp:p≤9223372036854775807) :
  Calls prog 59 #[ac b 0,.int .i64 p] w fun e w'=>e=.returned (.int .i64 (arE p))∧(Off [b] w w'∧MR w' b g n (lK s p)):=by
 obtain⟨a,cap,c0,_,_,c1,c2,c3,c4,fz⟩:=h.cells
 have fz2:=fz 2
 have fz3:=fz 3
 unfold arE lK
 by_cases hn:p<0
 ·rw[if_pos hn,if_pos hn]
  go_enter func59,ntmps59
  go_wp2_with fail
  go_ret
  exact⟨rfl,Off.refl _ _,h⟩
 ·rw[if_neg hn,if_neg hn]
  have H:Hid (_):=h
  clear h fz c0 c1 c4
  go_enter func59,ntmps59
  go_wp2_with fail
  go_ret
  exact⟨rfl,(Off.setCell b 2 _ _).trans (Off.setCell b 3 _ _),H.out.upd _ ((Off.setCell b 2 _ _).trans (Off.setCell b 3 _ _)) (fun v hv=>heap_setCell_same _ _ _ _ _ _ (heap_setCell_same _ _ _ _ _ _ hv)) rfl (by show 0≤p;omega) hp H.out.t0⟩
theorem wl (b g n:Nat) (s:Ms) (w:World) (h:MR w b g n s) :
  Calls prog 113 #[ac b 0] w fun e w'=>e=.returned (.tuple #[])∧(Off [b] w w'∧MR w' b g n { s with off:=false,ar:=false }):=by
 obtain⟨a,cap,c0,_,_,c1,c2,c3,c4,fz⟩:=h.cells
 have fz2:=fz 2
 have h1:MR (w.setCell ⟨b,2,none⟩ (.bool false)) b g n { s with ar:=false }:=h.upd _ (Off.setCell b 2 _ _) (fun v hv=>heap_setCell_same _ _ _ _ _ _ hv) rfl h.l0 h.l1 h.t0
 obtain⟨_,_,_,_,_,d1,_,_,_,ez⟩:=h1.cells
 have hst:=vY ⟨b,1,none⟩ _ false _ d1 (ez 1)
 have H:Hid (_):=h1
 clear h h1 fz c0 c1 c3 c4 d1 ez
 go_enter func113,ntmps113
 go_wp2_with (go_at_call 143;refine hst.mono ?_;rintro e w' ⟨rfl,rfl⟩)
 go_end0
 exact⟨rfl,((Off.setCell b 2 _ _).trans (Off.drew _ _)).trans (Off.setCell b 1 _ _),H.out.drew.upd _ (Off.setCell b 1 _ _) (fun v hv=>heap_setCell_same _ _ _ _ _ _ hv) rfl H.out.l0 H.out.l1 H.out.t0⟩
theorem aaP (b:Bool):(o32 b != 0)=b:=by cases b <;> rfl
theorem nJ (b g n:Nat) (s:Ms) (w:World) (h:MR w b g n s) :
  Calls prog 238 #[ac b 0] w fun e w'=>e=.returned (.bool s.off)∧w'=w:=by
 obtain⟨_,_,_,_,_,c1,_⟩:=h.cells
 have hl:=zS ⟨b,1,none⟩ _ w c1
 rw[aaP]at hl
 clear h c1
 generalize s.off=x at *
 go_enter func238,ntmps238
 go_wp2_with (go_at_call 186;refine hl.mono ?_;rintro e w' ⟨rfl,rfl⟩)
 go_ret
 exact⟨rfl,rfl⟩
theorem lr (b g n:Nat) (s:Ms) (w:World) (h:MR w b g n s) :
  Calls prog 99 #[ac b 0] w fun e w'=>e=.returned (.int .i64 (n:Nat))∧w'=w:=by
 obtain⟨_,_,c0,_⟩:=h.cells
 clear h
 go_enter func99,ntmps99
 go_wp2_with fail
 go_ret
 exact⟨rfl,rfl⟩
def fM (n:Nat):List (Nat × Nat)→Ms→Int
 | [],_=>0
 | (p,c) :: r,s=>if qF s n (p:Nat)=0 then fM n r (oE s n (p:Nat) c) else qF s n (p:Nat)
def gi (n:Nat):List (Nat × Nat)→Ms→Ms
 | [],s=>s
 | (p,c) :: r,s=>if qF s n (p:Nat)=0 then gi n r (oE s n (p:Nat) c) else oE s n (p:Nat) c
def cI:List (Nat × Nat)→(Nat→Nat)→Nat→Nat
 | [],z=>z
 | (p,c) :: r,z=>cI r (lay z p c)
theorem rK {s:Ms} {n p:Nat} (hp:p<n) (ho:s.off=false):lN s n (p:Nat)=0:=by
 unfold lN
 rw[ho,if_neg (by simp),if_neg (by omega)]
theorem acu {s:Ms} {n p:Nat} (c:Nat) (hp:p<n) (ho:s.off=false) :
  (qF s n (p:Nat)=0∧oE s n (p:Nat) c=⟨lay s.bs p c,false,s.ar,if s.ar then s.l-1 else s.l,s.t+1⟩∧¬ (s.ar=true∧s.l=0)) ∨
  (qF s n (p:Nat)=70∧oE s n (p:Nat) c={ s with off:=true }∧s.ar=true∧s.l=0):=by
 have hr:=rK hp ho
 by_cases h:s.ar=true∧s.l=0
 ·exact .inr ⟨(sc (c:=c) hr h.1 h.2).1,(sc (c:=c) hr h.1 h.2).2,h.1,h.2⟩
 ·refine .inl ⟨(if_neg (fun k=>k hr)).trans (if_neg h),(if_neg (fun k=>k hr)).trans ((if_neg h).trans ?_),h⟩
  rw[Int.toNat_natCast,ho]
theorem gd (n:Nat):∀ (l:List (Nat × Nat)) (s:Ms),(∀ x,x ∈ l→x.1<n)→s.off=false→0≤s.l →
  (fM n l s=0∧gi n l s=⟨cI l s.bs,false,s.ar,if s.ar then s.l-l.length else s.l,s.t+l.length⟩∧(s.ar=true→(l.length:Int)≤s.l)) ∨
  (fM n l s=70∧gi n l s=⟨cI (l.take s.l.toNat) s.bs,true,true,0,s.t+s.l⟩∧s.ar=true∧s.l < (l.length:Int))
 | [],⟨_,off,ar,_,_⟩,_,ho,hl=>.inl ⟨rfl,by simp only at ho;subst ho;cases ar <;> simp[gi,cI],fun _=>hl⟩
 | (p,c) :: r,s,hin,ho,hl=>by
  have hp:p<n:=hin (p,c) (by simp)
  have hin':∀ x,x ∈ r→x.1<n:=fun x hx=>hin x (by simp[hx])
  rcases acu c hp ho with ⟨hE,hS,hna⟩ | ⟨hE,hS,ha,h0⟩
  ·have hl':0 ≤ (⟨lay s.bs p c,false,s.ar,if s.ar then s.l-1 else s.l,s.t+1⟩:Ms).l:=by
    cases ha:s.ar
    ·simpa using hl
    ·simp only[ha,true_and]at hna
     simp only[if_true]
     omega
   have ih:=gd n r ⟨lay s.bs p c,false,s.ar,if s.ar then s.l-1 else s.l,s.t+1⟩ hin' rfl hl'
   have e1:fM n ((p,c) :: r) s=fM n r ⟨lay s.bs p c,false,s.ar,if s.ar then s.l-1 else s.l,s.t+1⟩:=by
    rw[fM,if_pos hE,hS]
   have e2:gi n ((p,c) :: r) s=gi n r ⟨lay s.bs p c,false,s.ar,if s.ar then s.l-1 else s.l,s.t+1⟩:=by
    rw[gi,if_pos hE,hS]
   rw[e1,e2]
   cases ha:s.ar
   ·simp only[ha,cI,List.length_cons]at ih ⊢
    rcases ih with ⟨h1,h2,h3⟩ | ⟨h1,h2,h3,h4⟩
    ·refine .inl ⟨h1,?_,by simp⟩
     rw[h2]
     simp
     omega
    ·simp at h3
   ·simp only[ha,true_and]at hna
    simp only[ha,if_true,cI,List.length_cons]at ih ⊢
    rcases ih with ⟨h1,h2,h3⟩ | ⟨h1,h2,h3,h4⟩
    ·refine .inl ⟨h1,?_,fun _=>by have:=h3 trivial;omega⟩
     rw[h2]
     simp
     omega
    ·refine .inr ⟨h1,?_,trivial,by omega⟩
     rw[h2]
     have e3:s.l.toNat=(s.l-1).toNat+1:=by omega
     rw[e3]
     simp[cI]
     omega
  ·refine .inr ⟨?_,?_,ha,by rw[h0];simp⟩
   ·rw[fM,if_neg (by rw[hE];omega),hE]
   ·rw[gi,if_neg (by rw[hE];omega),hS,h0,ha]
    simp[cI]
def bt (v i:Nat):Nat:=v / 2 ^ (8 * (3-i)) % 256
def cY (k v:Nat):List (Nat × Nat):=[(5*k,0),(5*k+1,bt v 0),(5*k+2,bt v 1),(5*k+3,bt v 2),(5*k+4,bt v 3),(5*k,165)]
def wz (z:Nat→Nat) (k:Nat):Nat:=z (5*k+1)*16777216+z (5*k+2)*65536+z (5*k+3)*256+z (5*k+4)
def hw (z:Nat→Nat) (k:Nat):Nat:=if z (5*k)=165 then wz z k else 0
def vz (z:Nat→Nat):Nat:=max (hw z 0) (hw z 1)
def tg (z:Nat→Nat):Nat:=if z 0=165∧(z 5≠165∨wz z 1<wz z 0) then 1 else 0
def dj (z:Nat→Nat):List (Nat × Nat):=
 if z 0=165 then (if z 5=165 then [] else cY 1 (wz z 0)) else if z 5=165 then cY 0 (wz z 1) else
 if z 0≠0 then (if z 5≠0 then [(0,0),(5,0)] else [(0,0)]) else (if z 5≠0 then [(5,0)] else [])
def Bz (z:Nat→Nat):Prop:=∀ i,i<10→z i<256
theorem qH {z:Nat→Nat} (h:Bz z) (k:Nat) (hk:k<2):wz z k<4294967296:=by
 unfold wz
 have h1:=h (5*k+1) (by omega)
 have h2:=h (5*k+2) (by omega)
 have h3:=h (5*k+3) (by omega)
 have h4:=h (5*k+4) (by omega)
 omega
theorem zM (v i:Nat):bt v i<256:=Nat.mod_lt _ (by omega)
theorem xY (v:Nat) (h:v<4294967296):bt v 0*16777216+bt v 1*65536+bt v 2*256+bt v 3=v:=by
 have e:bt v 0=v / 16777216 % 256∧bt v 1=v / 65536 % 256∧bt v 2=v / 256 % 256∧bt v 3=v / 1 % 256:=⟨rfl,rfl,rfl,rfl⟩
 omega
theorem fw (k v n:Nat) (hk:k<2) (hn:10≤n):∀ x,x ∈ cY k v→x.1<n∧x.2<256:=by
 intro x hx
 have:=zM v
 simp only[cY,List.mem_cons,List.not_mem_nil,or_false]at hx
 rcases hx with rfl | rfl | rfl | rfl | rfl | rfl <;> refine⟨by simp only;omega,?_⟩ <;> simp only <;> first | omega | exact this _
theorem qr (z:Nat→Nat) (k v:Nat):cI (cY k v) z (5*k)=165:=by simp[cY,cI,lay]
theorem xa (z:Nat→Nat) (k v:Nat) (h:v<4294967296):wz (cI (cY k v) z) k=v:=by
 have e:=xY v h
 simp only[wz,cY,cI,lay]
 simp
 omega
theorem fa (z:Nat→Nat) (k v j:Nat) (i:Nat) (h:i<5*k∨5*k+4<i):cI ((cY k v).take j) z i=z i:=by
 have:∀ j',j'≤6→cI ((cY k v).take j') z i=z i:=by
  intro j' hj
  have:j'=0∨j'=1∨j'=2∨j'=3∨j'=4∨j'=5∨j'=6:=by omega
  have e0:i≠5*k:=by omega
  have e1:i≠5*k+1:=by omega
  have e2:i≠5*k+2:=by omega
  have e3:i≠5*k+3:=by omega
  have e4:i≠5*k+4:=by omega
  rcases this with rfl | rfl | rfl | rfl | rfl | rfl | rfl <;> simp[cY,cI,lay,e0,e1,e2,e3,e4]
 by_cases hj:j≤6
 ·exact this j hj
 ·have e:(cY k v).take j=(cY k v).take 6:=by rw[List.take_of_length_le (by simp[cY];omega),List.take_of_length_le (by simp[cY])]
  rw[e]
  exact this 6 (by omega)
theorem zo (z:Nat→Nat) (k v j:Nat) (h0:0<j) (h:j<6):cI ((cY k v).take j) z (5*k)=0:=by
 have:j=1∨j=2∨j=3∨j=4∨j=5:=by omega
 rcases this with rfl | rfl | rfl | rfl | rfl <;> simp[cY,cI,lay]
theorem vH (z:Nat→Nat) (k v:Nat) (h:v<4294967296):hw (cI (cY k v) z) k=v:=by
 unfold hw
 rw[qr,if_pos rfl,xa z k v h]
theorem kR (z:Nat→Nat) (k k' v j:Nat) (h:k≠k'):hw (cI ((cY k v).take j) z) k'=hw z k':=by
 unfold hw wz
 rw[fa z k v j _ (by omega),fa z k v j _ (by omega),fa z k v j _ (by omega),fa z k v j _ (by omega),fa z k v j _ (by omega)]
theorem wZ (k v:Nat):(cY k v).take 6=cY k v:=rfl
theorem mr (z:Nat→Nat) (k k' v:Nat) (h:k≠k'):hw (cI (cY k v) z) k'=hw z k':=kR z k k' v 6 h
theorem vF (z:Nat→Nat) (k v j:Nat) (h:j<6):j=0∨hw (cI ((cY k v).take j) z) k=0:=by
 by_cases h0:j=0
 ·exact .inl h0
 ·refine .inr ?_
  unfold hw
  rw[zo z k v j (by omega) h,if_neg (by omega)]
theorem lC (z:Nat→Nat):tg z<2:=by
 unfold tg
 split <;> omega
theorem acg (z:Nat→Nat):hw z (tg z)≤hw z (1-tg z):=by
 unfold tg
 by_cases h:z 0=165∧(z 5≠165∨wz z 1<wz z 0)
 ·rw[if_pos h]
  unfold hw
  simp only[Nat.mul_one,Nat.mul_zero,Nat.sub_self,h.1,if_true]
  split <;> omega
 ·rw[if_neg h]
  unfold hw
  simp only[Nat.mul_one,Nat.mul_zero,Nat.sub_zero]
  by_cases h0:z 0=165
  ·have h5:z 5=165:=by omega
   rw[if_pos h0,if_pos h5]
   omega
  ·rw[if_neg h0]
   omega
theorem gK (z:Nat→Nat) (k:Nat) (hk:k<2):vz z=max (hw z k) (hw z (1-k)):=by
 have:k=0∨k=1:=by omega
 rcases this with rfl | rfl
 ·rfl
 ·unfold vz
  exact Nat.max_comm _ _
theorem zH (z:Nat→Nat) (v:Nat) (h:v<4294967296) (hv:vz z≤v):vz (cI (cY (tg z) v) z)=v:=by
 have hk:=lC z
 rw[gK _ _ hk,vH z _ v h,mr z _ _ v (by omega)]
 rw[gK z _ hk]at hv
 omega
theorem abp (z:Nat→Nat) (v j:Nat) (h:j<6):vz (cI ((cY (tg z) v).take j) z)=vz z:=by
 have hk:=lC z
 have hl:=acg z
 rcases vF z (tg z) v j h with rfl | h0
 ·rfl
 ·rw[gK _ _ hk,h0,kR z _ _ v j (by omega),gK z _ hk]
  omega
theorem vG {z:Nat→Nat} {k:Nat} (h:z (5*k)≠165):hw z k=0:=if_neg h
theorem xv (z:Nat→Nat) (k j:Nat) (hz:Bz z) (hk:k<2) (h0:z (5*k)≠165) (h1:z (5 * (1-k))=165):vz (cI ((cY k (wz z (1-k))).take j) z)=vz z:=by
 have e0:=vG h0
 have e1:hw z (1-k)=wz z (1-k):=if_pos h1
 have hl:=qH hz (1-k) (by omega)
 by_cases h:j<6
 ·rcases vF z k (wz z (1-k)) j h with rfl | e
  ·rfl
  ·rw[gK _ _ hk,e,kR z _ _ _ j (by omega),gK z _ hk,e0]
 ·have e:(cY k (wz z (1-k))).take j=cY k (wz z (1-k)):=List.take_of_length_le (by simp[cY];omega)
  rw[e,gK _ _ hk,vH z k _ hl,mr z _ _ _ (by omega),gK z _ hk,e0,e1]
  omega
theorem ta {z:Nat→Nat} (h0:z 0≠165) (h1:z 5≠165):vz z=0:=by
 unfold vz
 rw[vG h0,vG h1]
 rfl
theorem oq (z:Nat→Nat) (j:Nat) (hz:Bz z):vz (cI ((dj z).take j) z)=vz z:=by
 unfold dj
 by_cases h0:z 0=165
 ·rw[if_pos h0]
  by_cases h1:z 5=165
  ·rw[if_pos h1]
   simp[cI]
  ·rw[if_neg h1]
   exact xv z 1 j hz (by omega) h1 h0
 ·rw[if_neg h0]
  by_cases h1:z 5=165
  ·rw[if_pos h1]
   exact xv z 0 j hz (by omega) h0 h1
  ·rw[if_neg h1,ta h0 h1]
   have H:∀ l:List (Nat × Nat),(∀ x,x ∈ l→x.2=0)→∀ z:Nat→Nat,z 0≠165→z 5≠165→vz (cI l z)=0:=by
    intro l
    induction l with
    | nil=>intro _ z h0 h1;exact ta h0 h1
    | cons x r ih=>
     intro hx z h0 h1
     obtain⟨p,c⟩:=x
     have hc:c=0:=hx (p,c) (by simp)
     subst hc
     refine ih (fun y hy=>hx y (by simp[hy])) _ ?_ ?_
     ·unfold lay;split <;> omega
     ·unfold lay;split <;> omega
   refine H _ (fun x hx=>?_) z h0 h1
   have:=List.mem_of_mem_take hx
   split at this <;> split at this <;> simp at this <;> first | omega | (rcases this with rfl | rfl <;> rfl) | (subst this;rfl)
theorem iS (z:Nat→Nat) (n:Nat) (hn:10≤n):∀ x,x ∈ dj z→x.1<n∧x.2<256:=by
 intro x hx
 unfold dj at hx
 split at hx
 ·split at hx
  ·simp at hx
  ·exact fw 1 _ n (by omega) hn x hx
 ·split at hx
  ·exact fw 0 _ n (by omega) hn x hx
  ·split at hx <;> split at hx <;> simp at hx <;> first | (rcases hx with rfl | rfl <;> exact⟨by simp only;omega,by simp only;omega⟩) | (subst hx;exact⟨by simp only;omega,by simp only;omega⟩)
theorem pJ (z:Nat→Nat):(dj z).length≤6:=by
 unfold dj
 split
 ·split <;> simp[cY]
 ·split
  ·simp[cY]
  ·split <;> split <;> simp
def CV (m mx:Nat) (mk wd:Nat→Nat) (cut:Bool):Array Value:=
 #[ac m 0,.int .u32 (mx:Nat),.int .u8 (mk 0:Nat),.int .u8 (mk 1:Nat),.int .u32 (wd 0:Nat),.int .u32 (wd 1:Nat),.bool cut]
structure CX (w:World) (c m mx:Nat) (mk wd:Nat→Nat) (cut:Bool):Prop where
 at_:w.heap[c]?=some (.cells (CV m mx mk wd cut) 217 (0,0))
def upd (f:Nat→Nat) (k x:Nat):Nat→Nat:=fun i=>if i=k then x else f i
section
variable {w w':World} {c m mx:Nat} {mk wd:Nat→Nat} {cut:Bool}
theorem CX.lt (h:CX w c m mx mk wd cut):c<w.heap.size:=(Array.getElem?_eq_some_iff.1 h.at_).1
theorem CX.off {l:List Nat} (h:CX w c m mx mk wd cut) (q:Off l w w') (hc:c ∉ l):CX w' c m mx mk wd cut:=⟨(q.block c h.lt hc).trans h.at_⟩
theorem CX.fz (h:CX w c m mx mk wd cut) (j:Nat):w.frozen? ⟨c,j,none⟩=false:=frozen_of_row w c j _ _ h.at_
theorem CX.mem (h:CX w c m mx mk wd cut):w.cell? ⟨c,0,none⟩=some (ac m 0):=ae w c 0 _ _ _ h.at_
theorem CX.max (h:CX w c m mx mk wd cut):w.cell? ⟨c,1,none⟩=some (.int .u32 (mx:Nat)):=ae w c 1 _ _ _ h.at_
theorem CX.hmk (h:CX w c m mx mk wd cut) (k:Nat) (hk:k<2):w.cell? ⟨c,2+k,none⟩=some (.int .u8 (mk k:Nat)):=by
 have:k=0∨k=1:=by omega
 rcases this with rfl | rfl
 ·exact ae w c 2 _ _ _ h.at_
 ·exact ae w c 3 _ _ _ h.at_
theorem CX.hwd (h:CX w c m mx mk wd cut) (k:Nat) (hk:k<2):w.cell? ⟨c,4+k,none⟩=some (.int .u32 (wd k:Nat)):=by
 have:k=0∨k=1:=by omega
 rcases this with rfl | rfl
 ·exact ae w c 4 _ _ _ h.at_
 ·exact ae w c 5 _ _ _ h.at_
theorem CX.hcut (h:CX w c m mx mk wd cut):w.cell? ⟨c,6,none⟩=some (.bool cut):=ae w c 6 _ _ _ h.at_
theorem CX.setMk (h:CX w c m mx mk wd cut) (k x:Nat) (hk:k<2):CX (w.setCell ⟨c,2+k,none⟩ (.int .u8 (x:Nat))) c m mx (upd mk k x) wd cut:=by
 have:k=0∨k=1:=by omega
 rcases this with rfl | rfl
 ·exact⟨heap_setCell_same _ _ _ _ _ _ h.at_⟩
 ·exact⟨heap_setCell_same _ _ _ _ _ _ h.at_⟩
theorem CX.setWd (h:CX w c m mx mk wd cut) (k x:Nat) (hk:k<2):CX (w.setCell ⟨c,4+k,none⟩ (.int .u32 (x:Nat))) c m mx mk (upd wd k x) cut:=by
 have:k=0∨k=1:=by omega
 rcases this with rfl | rfl
 ·exact⟨heap_setCell_same _ _ _ _ _ _ h.at_⟩
 ·exact⟨heap_setCell_same _ _ _ _ _ _ h.at_⟩
theorem CX.setCut (h:CX w c m mx mk wd cut) (b:Bool):CX (w.setCell ⟨c,6,none⟩ (.bool b)) c m mx mk wd b:=⟨heap_setCell_same _ _ _ _ _ _ h.at_⟩
theorem CX.as {mk' wd':Nat→Nat} (h:CX w c m mx mk wd cut) (a0:mk 0=mk' 0) (a1:mk 1=mk' 1) (b0:wd 0=wd' 0) (b1:wd 1=wd' 1):CX w c m mx mk' wd' cut:=by
 refine⟨?_⟩
 rw[h.at_]
 unfold CV
 rw[a0,a1,b0,b1]
theorem CX.drewN (h:CX w c m mx mk wd cut) (k:Nat):CX (w.drewN k) c m mx mk wd cut:=h.off (Off.drewN [] _ k) (by simp)
end
theorem mn (c m mx:Nat) (mk wd:Nat→Nat) (cut:Bool) (k:Nat) (w:World) (h:CX w c m mx mk wd cut) (hk:k<2) :
  Calls prog 122 #[ac c 0,.int .i64 (k:Nat)] w fun e w'=>e=.returned (.bool (decide ((mk k:Int)=165)))∧w'=w:=by
 have hm:=h.hmk k hk
 clear h
 go_enter func122,ntmps122
 go_wp2_with fail
 go_ret
 exact⟨rfl,rfl⟩
theorem wU (k v:Nat):cY k v=(5*k,0) :: (cY k v).drop 1:=rfl
theorem wW (k v i:Nat) (hi:i<4):(cY k v).drop (i+1)=(5*k+1+i,bt v i) :: (cY k v).drop (i+2):=by
 have:i=0∨i=1∨i=2∨i=3:=by omega
 rcases this with rfl | rfl | rfl | rfl <;> rfl
theorem wV (k v:Nat):(cY k v).drop 5=[(5*k,165)]:=rfl
theorem sU {n p c:Nat} {r:List (Nat × Nat)} {s:Ms} {E:Int} {S:Ms} (hE:fM n ((p,c) :: r) s=E) (hS:gi n ((p,c) :: r) s=S) (h:qF s n (p:Nat)=0) :
  fM n r (oE s n (p:Nat) c)=E∧gi n r (oE s n (p:Nat) c)=S:=by
 rw[← hE,← hS,fM,gi,if_pos h,if_pos h]
 exact⟨rfl,rfl⟩
theorem j8 {n p c:Nat} {r:List (Nat × Nat)} {s:Ms} {E:Int} {S:Ms} (hE:fM n ((p,c) :: r) s=E) (hS:gi n ((p,c) :: r) s=S) (h:¬ qF s n (p:Nat)=0) :
  qF s n (p:Nat)=E∧oE s n (p:Nat) c=S:=by
 rw[← hE,← hS,fM,gi,if_neg h,if_neg h]
 exact⟨rfl,rfl⟩
theorem xE (s:Ms) (n:Nat) (p:Int) (c:Nat):(oE s n p c).t≤s.t+1:=by
 unfold oE
 split
 ·omega
 ·split
  ·show s.t≤s.t+1;omega
  ·exact Int.le_refl _
theorem Off.three {m g c:Nat} {w w':World} (h:Off [m,g] w w'):Off [m,g,c] w w':=h.more (by simp)
theorem Off.three' {m g c:Nat} {w w':World} (h:Off [c] w w'):Off [m,g,c] w w':=h.more (by simp)
theorem ir (c m g n mx:Nat) (mk wd:Nat→Nat) (cut:Bool) (s:Ms) (k v:Nat) (w:World) (hM:MR w m g n s) (hC:CX w c m mx mk wd cut) (hcm:c≠m) (hcg:c≠g) (hk:k<2) (_hv:v<4294967296) (ht:s.t<9223372036854775000) :
  Calls prog 123 #[ac c 0,.int .i64 (k:Nat),.int .u32 (v:Nat)] w fun e w'=>e=.returned (.int .i64 (fM n (cY k v) s))∧(Off [m,g,c] w w'∧MR w' m g n (gi n (cY k v) s) ∧
   CX w' c m mx (if fM n (cY k v) s=0 then upd mk k 165 else mk) (if fM n (cY k v) s=0 then upd wd k v else wd) cut):=by
 obtain⟨E,hE⟩:∃ E,fM n (cY k v) s=E:=⟨_,rfl⟩
 obtain⟨S,hS⟩:∃ S,gi n (cY k v) s=S:=⟨_,rfl⟩
 rw[hE,hS]
 rw[wU]at hE hS
 obtain⟨mk',hmk⟩:∃ f,(if E=0 then upd mk k 165 else mk)=f:=⟨_,rfl⟩
 obtain⟨wd',hwd⟩:∃ f,(if E=0 then upd wd k v else wd)=f:=⟨_,rfl⟩
 rw[hmk,hwd]
 have HK:Hid (_):=And.intro hmk hwd
 clear hmk hwd
 have c0:=hC.mem
 have HC:Hid (_):=hC
 clear hC
 go_enter func123,ntmps123
 go_wp2_with fail
 refine (ig m g n s _ 0 w hM (by omega) (by omega)).mono ?_
 rintro e w1 ⟨rfl,o1,m1⟩
 rw[show (k:Int)*5=((5*k:Nat):Int) by omega]at m1 ⊢
 have t1:=xE s n ((5*k:Nat):Int) 0
 by_cases he:qF s n ((5*k:Nat):Int)=0
 ·obtain⟨hE1,hS1⟩:=sU hE hS he
  rw[he]
  have C1:=HC.out.off o1 (by simp;omega)
  have O1:Off [m,g,c] w w1:=o1.three
  clear hE hS he o1 HC c0 hM
  generalize oE s n ((5*k:Nat):Int) 0=s1 at *
  go_wp2_with fail
  go_loopw [6,9,10,11,24] (fun _ _ _ _ ci wr=>∃ (i:Nat) (si:Ms),i≤4∧ci=.int .i64 ((i:Nat):Int)∧fM n ((cY k v).drop (i+1)) si=E∧gi n ((cY k v).drop (i+1)) si=S∧si.t≤s.t+1+i∧Off [m,g,c] w wr∧MR wr m g n si∧CX wr c m mx mk wd cut) (fun _ _ _ _ ci _=>4 - (intOf ci).toNat)
  case atStart=>exact⟨0,s1,by omega,rfl,hE1,hS1,by omega,O1,m1,C1⟩
  case round=>
   clear hE1 hS1 O1 m1 C1 t1
   obtain⟨i,si,hi,rfl,hE,hS,t1,O1,m1,C1⟩:=hrel
   have c0:=C1.mem
   by_cases hlt:i<4
   ·rw[wW k v i hlt]at hE hS
    have HC:Hid (_):=C1
    clear C1
    go_wp2_with fail
    rw[show (v:Int) / 2 ^ (8 * (3-i)) % 256=((bt v i:Nat):Int) by simp[bt]]
    refine (ig m g n si _ (bt v i) wr m1 (zM v i) (by omega)).mono ?_
    rintro e w2 ⟨rfl,o2,m2⟩
    rw[show 5 * (k:Int)+1 + (i:Int)=((5*k+1+i:Nat):Int) by omega]at m2 ⊢
    have t2:=xE si n ((5*k+1+i:Nat):Int) (bt v i)
    have C2:=HC.out.off o2 (by simp;omega)
    have O2:Off [m,g,c] w w2:=O1.trans o2.three
    generalize bt v i=x at *
    by_cases he:qF si n ((5*k+1+i:Nat):Int)=0
    ·obtain⟨hE1,hS1⟩:=sU hE hS he
     rw[he]
     have H:Hid (_):=And.intro (And.intro hE1 hS1) (And.intro O2 (And.intro m2 C2))
     clear hE hS he o2 HC c0 O1 m1 m2 C2 O2 hE1 hS1
     generalize oE si n ((5*k+1+i:Nat):Int) x=s2 at *
     go_wp2_with fail
     go_roundw
     case rel=>exact⟨i+1,s2,by omega,by go_num,H.out.1.1,H.out.1.2,by omega,H.out.2⟩
     case measure=>simp[intOf] <;> omega
    ·obtain⟨hE1,hS1⟩:=j8 hE hS he
     rw[hS1]at m2
     rw[hE1]at he ⊢
     have HK1:=HK.out
     rw[if_neg he,if_neg he]at HK1
     rw[HK1.1,HK1.2]at C2
     have H:Hid (_):=And.intro O2 (And.intro m2 C2)
     clear hE hS o2 HC c0 O1 m1 m2 C2 O2 hE1 hS1 t1 t2 HK HK1
     go_wp2_with fail
     go_ret
     exact⟨rfl,H.out⟩
   ·obtain rfl:i=4:=by omega
    rw[wV]at hE hS
    have HC:Hid (_):=C1
    clear C1 hlt
    go_wp2_with fail
    refine (ig m g n si _ 165 wr m1 (by omega) (by omega)).mono ?_
    rintro e w2 ⟨rfl,o2,m2⟩
    rw[show 5 * (k:Int)=((5*k:Nat):Int) by omega]at m2 ⊢
    have C2:=HC.out.off o2 (by simp;omega)
    have O2:Off [m,g,c] w w2:=O1.trans o2.three
    by_cases he:qF si n ((5*k:Nat):Int)=0
    ·obtain⟨hE1,hS1⟩:=sU hE hS he
     rw[gi]at hS1
     rw[fM]at hE1
     rw[hS1]at m2
     rw[he]
     subst hE1
     have HK1:=HK.out
     rw[if_pos rfl,if_pos rfl]at HK1
     have zk:=C2.hmk k hk
     have fk:=C2.fz (2+k)
     have C3:=C2.setMk k 165 hk
     have wk:=C3.hwd k hk
     have gk:=C3.fz (4+k)
     have wj:=C2.hwd k hk
     have gj:=C2.fz (4+k)
     have zj:=(C2.setWd k v hk).hmk k hk
     have fj:=(C2.setWd k v hk).fz (2+k)
     have nk:¬ 2+k=4+k:=by omega
     have nj:¬ 4+k=2+k:=by omega
     have H:Hid (_):=And.intro HK1 (And.intro O2 (And.intro m2 C2))
     clear hE hS o2 HC c0 O1 m1 m2 C2 O2 hS1 t1 he C3 HK HK1
     go_wp2_with fail
     go_region
     go_wp2_with fail
     go_ret
     obtain⟨hK,oo,mm,cc⟩:=H.out
     have q:Off [c] w2 ((w2.setCell ⟨c,2+k,none⟩ (.int .u8 165)).setCell ⟨c,4+k,none⟩ (.int .u32 (v:Nat))).drew:=((Off.setCell c (2+k) _ _).trans (Off.setCell c (4+k) _ _)).trans (Off.drew _ _)
     have cc':=((cc.setMk k 165 hk).setWd k v hk).off (Off.drew [] _) (by simp)
     rw[hK.1,hK.2]at cc'
     exact⟨rfl,oo.trans q.three',mm.off q (by simp;omega) (by simp;omega),cc'⟩
    ·obtain⟨hE1,hS1⟩:=j8 hE hS he
     rw[hS1]at m2
     rw[hE1]at he ⊢
     have HK1:=HK.out
     rw[if_neg he,if_neg he]at HK1
     rw[HK1.1,HK1.2]at C2
     have H:Hid (_):=And.intro O2 (And.intro m2 C2)
     clear hE hS o2 HC c0 O1 m1 m2 C2 O2 hE1 hS1 t1 HK HK1
     go_wp2_with fail
     go_ret
     exact⟨rfl,H.out⟩
 ·obtain⟨hE1,hS1⟩:=j8 hE hS he
  rw[hS1]at m1
  rw[hE1]at he ⊢
  have C1:=HC.out.off o1 (by simp;omega)
  have HK1:=HK.out
  rw[if_neg he,if_neg he]at HK1
  rw[HK1.1,HK1.2]at C1
  have H:Hid (_):=And.intro (Off.three (c:=c) o1) (And.intro m1 C1)
  clear hE hS o1 HC c0 m1 C1 hE1 hS1 t1 HK HK1
  go_wp2_with fail
  go_ret
  exact⟨rfl,H.out⟩
end Go.Proofs.YtenilkloffnjlaaGreat
namespace Go.Proofs.YtenilkloffnjlaaGreat
open Tryz
open Go.RowKit
def pw (z:Nat→Nat) (k:Nat):Nat→Nat
 | 0=>0
 | i+1=>pw z k i*256+z (5*k+1+i)
theorem za (z:Nat→Nat) (k:Nat):pw z k 4=wz z k:=by
 show (((0*256+z (5*k+1))*256+z (5*k+2))*256+z (5*k+3))*256+z (5*k+4)=wz z k
 unfold wz
 omega
theorem acb {z:Nat→Nat} (hz:Bz z) (k:Nat) (hk:k<2) (i:Nat) (hi:i≤4):pw z k i<256 ^ i:=by
 induction i with
 | zero=>simp[pw]
 | succ i ih=>
  have:=ih (by omega)
  have:=hz (5*k+1+i) (by omega)
  rw[pw,Nat.pow_succ]
  omega
theorem nP (c m g n mx:Nat) (mk wd:Nat→Nat) (cut:Bool) (s:Ms) (k:Nat) (w:World) (hM:MR w m g n s) (hC:CX w c m mx mk wd cut) (hk:k<2) (hn:10≤n) (ho:s.off=false) :
  Calls prog 121 #[ac c 0,.int .i64 (k:Nat)] w fun e w'=>e=.returned (.tuple #[.int .u32 (wz s.bs k:Nat),.int .i64 0])∧w'=w:=by
 have c0:=hC.mem
 have hz:Bz s.bs:=fun i hi=>hM.byte i (by omega)
 have hf:=fun i (hi:i≤4)=>acb hz k hk i hi
 rw[← za]
 obtain⟨X,hX⟩:∃ X,pw s.bs k 4=X:=⟨_,rfl⟩
 rw[hX]
 have HX:Hid (_):=hX
 clear hX
 have HZ:Hid (Bz s.bs):=hz
 clear hC hz
 go_enter func121,ntmps121
 go_wp2_with fail
 go_loopw [4,5,6,7,8,9,10] (fun _ _ x _ _ _ ci wr=>∃ i:Nat,i≤4∧ci=.int .i64 ((i:Nat):Int)∧x=.int .u32 (pw s.bs k i:Nat)∧wr=w) (fun _ _ _ _ _ _ ci _=>4 - (intOf ci).toNat)
 case atStart=>exact⟨0,by omega,rfl,rfl,rfl⟩
 case round=>
  obtain⟨i,hi,rfl,rfl,rfl⟩:=hrel
  by_cases hlt:i<4
  ·have hr:=rK (s:=s) (n:=n) (p:=5*k+1+i) (by omega) ho
   have hb:=HZ.out (5*k+1+i) (by omega)
   have hl:=hf i (by omega)
   have e1:pw s.bs k (i+1)=pw s.bs k i*256+s.bs (5*k+1+i):=rfl
   have e2:rdB s n ((5*k+1+i:Nat):Int)=s.bs (5*k+1+i):=by
    unfold rdB
    rw[hr,if_neg (by simp),Int.toNat_natCast]
   generalize s.bs (5*k+1+i)=b at *
   obtain⟨y,hy⟩:∃ y,pw s.bs k (i+1)=y:=⟨_,rfl⟩
   rw[hy]at e1
   have HY:Hid (_):=hy
   clear hy
   generalize pw s.bs k i=x at *
   have HH:Hid (_):=And.intro hr e2
   have hor:bits .or .u32 ((x:Int)*256 % 4294967296) (b:Int)=((y:Nat):Int):=by
    have h3:x<256 ^ 3:=Nat.lt_of_lt_of_le hl (Nat.pow_le_pow_right (by omega) (by omega))
    rw[show (x:Int)*256 % 4294967296=((x*256:Nat):Int) by omega,u32_or_nat _ _ (by omega) (by omega),nat_join 8 (x*256) b (by omega) (by omega),e1]
   clear hf HZ hr e2 HX
   go_wp2_with fail
   refine (lj m g n s _ wr hM).mono ?_
   rintro e w' ⟨rfl,hw⟩
   rw[hw,show (k:Int)*5+1 + (i:Int)=((5*k+1+i:Nat):Int) by omega,HH.out.1,HH.out.2]
   clear hw
   go_wp2_with fail
   exact⟨⟨i+1,by omega,by go_num,by rw[HY.out,e1];simp,trivial⟩,by simp[intOf] <;> omega⟩
  ·obtain rfl:i=4:=by omega
   rw[HX.out]
   clear hf HZ HX
   go_wp2_with fail
   go_ret2
   exact⟨rfl,rfl⟩
theorem tn (c m g n mx:Nat) (mk wd:Nat→Nat) (cut:Bool) (s:Ms) (w:World) (hM:MR w m g n s) (hC:CX w c m mx mk wd cut) (hcm:c≠m) (hcg:c≠g) (hn:10≤n) (ho:s.off=false) :
  Calls prog 100 #[ac c 0] w fun e w'=>e=.returned (.int .i64 0)∧(Off [c] w w'∧MR w' m g n s∧CX w' c m mx (fun k=>s.bs (5*k)) (wz s.bs) cut):=by
 go_enter func100,ntmps100
 go_wp2_with fail
 go_loopw [2,3,4,5,6,7] (fun _ _ _ _ _ ci wr=>∃ (i:Nat) (mk wd:Nat→Nat),i≤2∧ci=.int .i64 ((i:Nat):Int)∧(∀ j,j<i→mk j=s.bs (5*j)∧wd j=wz s.bs j)∧Off [c] w wr∧MR wr m g n s∧CX wr c m mx mk wd cut) (fun _ _ _ _ _ ci _=>2 - (intOf ci).toNat)
 case atStart=>exact⟨0,mk,wd,by omega,rfl,fun j hj=>by omega,Off.refl _ _,hM,hC⟩
 case round=>
  clear hM hC mk wd
  obtain⟨i,mk,wd,hi,rfl,hj,O,hM,hC⟩:=hrel
  by_cases hlt:i<2
  ·have hr:=rK (s:=s) (n:=n) (p:=5*i) (by omega) ho
   have e2:rdB s n ((5*i:Nat):Int)=s.bs (5*i):=by
    unfold rdB
    rw[hr,if_neg (by simp),Int.toNat_natCast]
   have c0:=hC.mem
   have q:=nP c m g n mx mk wd cut s i wr hM hC hlt hn ho
   have z1:=hC.hmk i hlt
   have f1:=hC.fz (2+i)
   have C3:=hC.setMk i (s.bs (5*i)) hlt
   have wk:=C3.hwd i hlt
   have gk:=C3.fz (4+i)
   have wj:=hC.hwd i hlt
   have gj:=hC.fz (4+i)
   have nk:¬ 2+i=4+i:=by omega
   have nj:¬ 4+i=2+i:=by omega
   have H:Hid (_):=And.intro hj (And.intro O (And.intro hM hC))
   obtain⟨a,ha⟩:∃ a,s.bs (5*i)=a:=⟨_,rfl⟩
   obtain⟨x,hx⟩:∃ x,wz s.bs i=x:=⟨_,rfl⟩
   rw[ha]at e2 C3 wk gk
   rw[hx]at q
   have HA:Hid (_):=And.intro (And.intro ha hx) (And.intro hr e2)
   clear O hC C3 ha hx hr e2 hj
   go_wp2_with fail
   refine (lj m g n s _ wr hM).mono ?_
   rintro e w' ⟨rfl,hw⟩
   rw[hw,show (i:Int)*5=((5*i:Nat):Int) by omega,HA.out.2.1,HA.out.2.2]
   clear hw hM
   go_wp2_with (go_at_call 121;refine q.mono ?_;rintro e w' ⟨rfl,hw⟩;rw[hw];clear hw)
   go_region
   go_wp2_with fail
   obtain⟨hj,O,hM,hC⟩:=H.out
   obtain⟨⟨ha,hx⟩,_⟩:=HA.out
   have q1:Off [c] wr ((wr.setCell ⟨c,2+i,none⟩ (.int .u8 (a:Nat))).setCell ⟨c,4+i,none⟩ (.int .u32 (x:Nat))).drew:=((Off.setCell c (2+i) _ _).trans (Off.setCell c (4+i) _ _)).trans (Off.drew _ _)
   refine⟨⟨i+1,upd mk i a,upd wd i x,by omega,by go_num,fun j hjj=>?_,O.trans q1,hM.off q1 (by simp;omega) (by simp;omega),((hC.setMk i a hlt).setWd i x hlt).off (Off.drew [] _) (by simp)⟩,by simp[intOf] <;> omega⟩
   unfold upd
   by_cases e:j=i
   ·rw[if_pos e,if_pos e,e]
    exact⟨ha.symm,hx.symm⟩
   ·rw[if_neg e,if_neg e]
    exact hj j (by omega)
  ·obtain rfl:i=2:=by omega
   have H:Hid (_):=And.intro O (And.intro hM (hC.as (mk':=fun k=>s.bs (5*k)) (wd':=wz s.bs) (hj 0 (by omega)).1 (hj 1 (by omega)).1 (hj 0 (by omega)).2 (hj 1 (by omega)).2))
   clear O hM hC hj
   go_wp2_with fail
   go_ret
   exact⟨rfl,H.out⟩
theorem tp (c m g n mx:Nat) (mk wd:Nat→Nat) (cut:Bool) (s:Ms) (w:World) (hM:MR w m g n s) (hC:CX w c m mx mk wd cut) (ho:s.off=true) :
  Calls prog 100 #[ac c 0] w fun e w'=>e=.returned (.int .i64 70)∧w'=w:=by
 have c0:=hC.mem
 have q:=lj m g n s 0 w hM
 rw[show lN s n 0=70 by unfold lN;rw[ho,if_pos rfl]]at q
 clear hM hC
 generalize rdB s n 0=x at *
 go_enter func100,ntmps100
 go_wp2_with fail
 go_loopw [2,3,4,5,6,7] (fun _ _ _ _ _ ci wr=>∃ i:Nat,i=0∧ci=.int .i64 ((i:Nat):Int)∧wr=w) (fun _ _ _ _ _ ci _=>2 - (intOf ci).toNat)
 case atStart=>exact⟨0,rfl,rfl,rfl⟩
 case round=>
  obtain⟨i,rfl,rfl,rfl⟩:=hrel
  go_wp2_with (go_at_call 120;refine q.mono ?_;rintro e w' ⟨rfl,hw⟩;rw[hw];clear hw)
  go_ret
  exact⟨rfl,rfl⟩
def iY (z:Nat→Nat) (i:Nat):List (Nat × Nat):=
 if i=0 then (if z 0≠0 then (if z 5≠0 then [(0,0),(5,0)] else [(0,0)]) else (if z 5≠0 then [(5,0)] else [])) else if i=1 then (if z 5≠0 then [(5,0)] else []) else []
theorem abg (z:Nat→Nat) (i:Nat) (hi:i<2) (h:z (5*i)≠0):iY z i=(5*i,0) :: iY z (i+1):=by
 have:i=0∨i=1:=by omega
 rcases this with rfl | rfl
 ·have h':z 0≠0:=h
  unfold iY
  simp only[if_true,if_pos h']
  by_cases h5:z 5=0 <;> simp[h5]
 ·have h':z 5≠0:=h
  unfold iY
  simp[h']
theorem abf (z:Nat→Nat) (i:Nat) (hi:i<2) (h:z (5*i)=0):iY z i=iY z (i+1):=by
 have:i=0∨i=1:=by omega
 rcases this with rfl | rfl
 ·have h':z 0=0:=h
  unfold iY
  simp[h']
 ·have h':z 5=0:=h
  unfold iY
  simp[h']
theorem tm (c m g n mx:Nat) (wd:Nat→Nat) (cut:Bool) (s:Ms) (w:World) (hM:MR w m g n s) (hC:CX w c m mx (fun k=>s.bs (5*k)) wd cut) (hcm:c≠m) (hcg:c≠g) (ht:s.t<9223372036854775000) :
  Calls prog 124 #[ac c 0] w fun e w'=>e=.returned (.int .i64 (fM n (iY s.bs 0) s))∧(Off [m,g,c] w w'∧MR w' m g n (gi n (iY s.bs 0) s) ∧
   (fM n (iY s.bs 0) s=0→CX w' c m mx (fun _=>0) wd cut)):=by
 obtain⟨E,hE⟩:∃ E,fM n (iY s.bs 0) s=E:=⟨_,rfl⟩
 obtain⟨S,hS⟩:∃ S,gi n (iY s.bs 0) s=S:=⟨_,rfl⟩
 rw[hE,hS]
 go_enter func124,ntmps124
 go_wp2_with fail
 go_loopw [2,3,4,5] (fun _ _ _ ci wr=>∃ (i:Nat) (mk:Nat→Nat) (si:Ms),i≤2∧ci=.int .i64 ((i:Nat):Int)∧(∀ j,j<i→mk j=0)∧(∀ j,i≤j→mk j=s.bs (5*j))∧fM n (iY s.bs i) si=E∧gi n (iY s.bs i) si=S∧si.t≤s.t+i∧Off [m,g,c] w wr∧MR wr m g n si∧CX wr c m mx mk wd cut) (fun _ _ _ ci _=>2 - (intOf ci).toNat)
 case atStart=>exact⟨0,_,s,by omega,rfl,fun j hj=>by omega,fun j hj=>rfl,hE,hS,by omega,Off.refl _ _,hM,hC⟩
 case round=>
  clear hM hC hE hS
  obtain⟨i,mk,si,hi,rfl,hj,hj2,hE,hS,t1,O,hM,hC⟩:=hrel
  by_cases hlt:i<2
  ·have c0:=hC.mem
   have z1:=hC.hmk i hlt
   have f1:=hC.fz (2+i)
   obtain⟨a,ha⟩:∃ a,mk i=a:=⟨_,rfl⟩
   have ha2:s.bs (5*i)=a:=(hj2 i (Nat.le_refl _)).symm.trans ha
   rw[ha]at z1
   by_cases hz:a=0
   ·subst hz
    rw[abf _ _ hlt ha2]at hE hS
    have hj':∀ j,j<i+1→mk j=0:=fun j hjj=>by
     by_cases e:j=i
     ·rw[e,ha]
     ·exact hj j (by omega)
    have H:Hid (_):=And.intro hj' (And.intro (And.intro hE hS) (And.intro O (And.intro hM hC)))
    have HJ:Hid (_):=hj2
    clear hj' hj hE hS O hM hC ha ha2 hj2
    go_wp2_with fail
    go_roundw
    case rel=>exact⟨i+1,mk,si,by omega,by go_num,H.out.1,fun j h=>HJ.out j (by omega),H.out.2.1.1,H.out.2.1.2,by omega,H.out.2.2⟩
    case measure=>simp[intOf] <;> omega
   ·have hz':¬ (a:Int)=0:=by omega
    rw[abg _ _ hlt (by omega)]at hE hS
    have HJ:Hid (_):=And.intro hj hj2
    have HC:Hid (_):=hC
    clear hC hj hj2 ha2
    go_wp2_with fail
    refine (ig m g n si _ 0 wr hM (by omega) (by omega)).mono ?_
    rintro e w2 ⟨rfl,o2,m2⟩
    rw[show (i:Int)*5=((5*i:Nat):Int) by omega]at m2 ⊢
    have t2:=xE si n ((5*i:Nat):Int) 0
    have C2:=HC.out.off o2 (by simp;omega)
    have O2:Off [m,g,c] w w2:=O.trans o2.three
    by_cases he:qF si n ((5*i:Nat):Int)=0
    ·obtain⟨hE1,hS1⟩:=sU hE hS he
     rw[he]
     have z2:=C2.hmk i hlt
     have f2:=C2.fz (2+i)
     have H:Hid (_):=And.intro (And.intro hE1 hS1) (And.intro O2 (And.intro m2 C2))
     clear hE hS he o2 HC c0 O hM m2 C2 O2 hE1 hS1 z1 f1 ha
     generalize oE si n ((5*i:Nat):Int) 0=s2 at *
     go_wp2_with fail
     obtain⟨⟨hE1,hS1⟩,O2,m2,C2⟩:=H.out
     have q1:Off [c] w2 (w2.setCell ⟨c,2+i,none⟩ (.int .u8 0)):=Off.setCell c (2+i) _ _
     go_roundw
     case rel=>
      refine⟨i+1,upd mk i 0,s2,by omega,by go_num,fun j h=>?_,fun j h=>?_,hE1,hS1,by omega,O2.trans q1.three',m2.off q1 (by simp;omega) (by simp;omega),C2.setMk i 0 hlt⟩
      ·unfold upd
       by_cases e:j=i
       ·rw[if_pos e]
       ·rw[if_neg e];exact HJ.out.1 j (by omega)
      ·unfold upd
       rw[if_neg (by omega)]
       exact HJ.out.2 j (by omega)
     case measure=>simp[intOf] <;> omega
    ·obtain⟨hE1,hS1⟩:=j8 hE hS he
     rw[hS1]at m2
     rw[hE1]at he ⊢
     have H:Hid (_):=And.intro O2 m2
     clear hE hS o2 HC c0 O hM m2 C2 O2 hE1 hS1 t1 t2 ha z1
     go_wp2_with fail
     go_ret
     exact⟨rfl,H.out.1,H.out.2,fun h=>absurd h he⟩
  ·obtain rfl:i=2:=by omega
   have e0:iY s.bs 2=[]:=rfl
   rw[e0]at hE hS
   have hE':(0:Int)=E:=hE
   have hS':si=S:=hS
   subst hE' hS'
   have H:Hid (_):=And.intro O (And.intro hM (hC.as (mk':=fun _=>0) (wd':=wd) (hj 0 (by omega)) (hj 1 (by omega)) rfl rfl))
   clear O hM hC hj hj2 hE hS
   go_wp2_with fail
   go_ret
   exact⟨rfl,H.out⟩
theorem CX.sync {w:World} {c m mx k v:Nat} {z:Nat→Nat} {cut:Bool} (h:CX w c m mx (upd (fun k=>z (5*k)) k 165) (upd (wz z) k v) cut) (hv:v<4294967296) :
  CX w c m mx (fun j=>cI (cY k v) z (5*j)) (wz (cI (cY k v) z)) cut:=by
 have hm:∀ j,upd (fun k=>z (5*k)) k 165 j=cI (cY k v) z (5*j):=fun j=>by
  unfold upd
  by_cases e:j=k
  ·rw[if_pos e,e,qr]
  ·rw[if_neg e]
   exact (fa z k v 6 (5*j) (by omega)).symm
 have hw:∀ j,upd (wz z) k v j=wz (cI (cY k v) z) j:=fun j=>by
  unfold upd
  by_cases e:j=k
  ·rw[if_pos e,e,xa z k v hv]
  ·rw[if_neg e]
   have q:=fun i (h:i<5*k∨5*k+4<i)=>(fa z k v 6 i h).symm
   rw[wZ]at q
   unfold wz
   rw[q (5*j+1) (by omega),q (5*j+2) (by omega),q (5*j+3) (by omega),q (5*j+4) (by omega)]
 exact h.as (hm 0) (hm 1) (hw 0) (hw 1)
theorem CX.swept {w:World} {c m mx:Nat} {z:Nat→Nat} {cut:Bool} (h:CX w c m mx (fun _=>0) (wz z) cut) :
  CX w c m mx (fun j=>cI (iY z 0) z (5*j)) (wz (cI (iY z 0) z)) cut:=by
 have hl:∀ i,i≠0→i≠5→cI (iY z 0) z i=z i:=fun i h0 h5=>by
  unfold iY
  rw[if_pos rfl]
  split <;> split <;> simp[cI,lay,h0,h5]
 have h0:cI (iY z 0) z 0=0:=by
  unfold iY
  rw[if_pos rfl]
  split <;> split <;> simp[cI,lay] <;> omega
 have h5:cI (iY z 0) z 5=0:=by
  unfold iY
  rw[if_pos rfl]
  split <;> split <;> simp[cI,lay] <;> omega
 have hw:∀ j,j<2→wz z j=wz (cI (iY z 0) z) j:=fun j hj=>by
  unfold wz
  rw[hl (5*j+1) (by omega) (by omega),hl (5*j+2) (by omega) (by omega),hl (5*j+3) (by omega) (by omega),hl (5*j+4) (by omega) (by omega)]
 exact h.as h0.symm h5.symm (hw 0 (by omega)) (hw 1 (by omega))
theorem qt {n:Nat} {l:List (Nat × Nat)} {s:Ms} (hin:∀ x,x ∈ l→x.1<n∧x.2<256) (ho:s.off=false) (hl:0≤s.l) (h:fM n l s=0):(gi n l s).bs=cI l s.bs:=by
 rcases gd n l s (fun x hx=>(hin x hx).1) ho hl with ⟨_,h2,_⟩ | ⟨h1,_⟩
 ·rw[h2]
 ·omega
theorem eh (c m mx:Nat) (mk wd:Nat→Nat) (cut b:Bool) (w:World) (h:CX w c m mx mk wd cut) (hb:decide (mk 0=165)=b) :
  Calls prog 122 #[ac c 0,.int .i64 0] w fun e w'=>e=.returned (.bool b)∧w'=w:=by
 refine (mn c m mx mk wd cut 0 w h (by omega)).mono ?_
 rintro e w' ⟨rfl,rfl⟩
 refine⟨?_,rfl⟩
 rw[← hb]
 congr 2
 by_cases h:mk 0=165
 ·simp[h]
 ·have:¬ ((mk 0:Nat):Int)=165:=by omega
  simp[h,this]
theorem dI (c m mx:Nat) (mk wd:Nat→Nat) (cut b:Bool) (w:World) (h:CX w c m mx mk wd cut) (hb:decide (mk 1=165)=b) :
  Calls prog 122 #[ac c 0,.int .i64 1] w fun e w'=>e=.returned (.bool b)∧w'=w:=by
 refine (mn c m mx mk wd cut 1 w h (by omega)).mono ?_
 rintro e w' ⟨rfl,rfl⟩
 refine⟨?_,rfl⟩
 rw[← hb]
 congr 2
 by_cases h:mk 1=165
 ·simp[h]
 ·have:¬ ((mk 1:Nat):Int)=165:=by omega
  simp[h,this]
theorem vU (c m g n mx:Nat) (cut:Bool) (s:Ms) (w:World) (hM:MR w m g n s) (hC:CX w c m mx (fun k=>s.bs (5*k)) (wz s.bs) cut) (hcm:c≠m) (hcg:c≠g) (hn:10≤n) (ho:s.off=false) (ht:s.t<9223372036854775000) :
  Calls prog 101 #[ac c 0] w fun e w'=>e=.returned (.int .i64 (fM n (dj s.bs) s))∧(Off [m,g,c] w w'∧MR w' m g n (gi n (dj s.bs) s) ∧
   (fM n (dj s.bs) s=0→CX w' c m mx (fun k=>(gi n (dj s.bs) s).bs (5*k)) (wz (gi n (dj s.bs) s).bs) cut)):=by
 have hz:Bz s.bs:=fun i hi=>hM.byte i (by omega)
 have l0:=hM.l0
 have c4:=hC.hwd 0 (by omega)
 have c5:=hC.hwd 1 (by omega)
 have v0:=qH hz 0 (by omega)
 have v1:=qH hz 1 (by omega)
 by_cases h0:s.bs 0=165
 ·have q0:=eh c m mx _ _ cut true w hC (by simp[h0])
  by_cases h1:s.bs 5=165
  ·have q1:=dI c m mx _ _ cut true w hC (by simp[h1])
   rw[show dj s.bs=[] by unfold dj;rw[if_pos h0,if_pos h1]]
   have H:Hid (_):=And.intro (Off.refl [m,g,c] w) (And.intro hM hC)
   clear hM hC hz l0 c4 c5 v0 v1 h0 h1
   go_enter func101,ntmps101
   go_wp2_with fail
   refine q0.mono ?_
   rintro e w' ⟨rfl,hw⟩
   rw[hw]
   clear hw
   go_wp2_with fail
   refine q1.mono ?_
   rintro e w' ⟨rfl,hw⟩
   rw[hw]
   clear hw
   go_wp2_with fail
   go_ret
   exact⟨rfl,H.out.1,H.out.2.1,fun _=>H.out.2.2⟩
  ·have q1:=dI c m mx _ _ cut false w hC (by simp[h1])
   rw[show dj s.bs=cY 1 (wz s.bs 0) by unfold dj;rw[if_pos h0,if_neg h1]]
   have hcw:=ir c m g n mx _ _ cut s 1 (wz s.bs 0) w hM hC hcm hcg (by omega) v0 ht
   have hb:=fun h=>qt (fw 1 (wz s.bs 0) n (by omega) hn) ho l0 h
   have HB:Hid (_):=And.intro hb v0
   clear hM hC hz l0 c5 v1 h0 h1 hb
   go_enter func101,ntmps101
   go_wp2_with fail
   refine q0.mono ?_
   rintro e w' ⟨rfl,hw⟩
   rw[hw]
   clear hw
   go_wp2_with fail
   refine q1.mono ?_
   rintro e w' ⟨rfl,hw⟩
   rw[hw]
   clear hw
   go_wp2_with fail
   refine hcw.mono ?_
   rintro e w2 ⟨rfl,H2⟩
   have H:Hid (_):=H2
   clear H2 hcw c4 q0 q1
   go_wp2_with fail
   go_ret
   refine⟨rfl,H.out.1,H.out.2.1,fun he=>?_⟩
   have C:=H.out.2.2
   rw[if_pos he,if_pos he]at C
   rw[HB.out.1 he]
   exact C.sync HB.out.2
 ·have q0:=eh c m mx _ _ cut false w hC (by simp[h0])
  by_cases h1:s.bs 5=165
  ·have q1:=dI c m mx _ _ cut true w hC (by simp[h1])
   rw[show dj s.bs=cY 0 (wz s.bs 1) by unfold dj;rw[if_neg h0,if_pos h1]]
   have hcw:=ir c m g n mx _ _ cut s 0 (wz s.bs 1) w hM hC hcm hcg (by omega) v1 ht
   have hb:=fun h=>qt (fw 0 (wz s.bs 1) n (by omega) hn) ho l0 h
   have HB:Hid (_):=And.intro hb v1
   clear hM hC hz l0 c4 v0 h0 h1 hb
   go_enter func101,ntmps101
   go_wp2_with fail
   refine q0.mono ?_
   rintro e w' ⟨rfl,hw⟩
   rw[hw]
   clear hw
   go_wp2_with fail
   refine q1.mono ?_
   rintro e w' ⟨rfl,hw⟩
   rw[hw]
   clear hw
   go_wp2_with fail
   refine hcw.mono ?_
   rintro e w2 ⟨rfl,H2⟩
   have H:Hid (_):=H2
   clear H2 hcw c5 q0 q1
   go_wp2_with fail
   go_ret
   refine⟨rfl,H.out.1,H.out.2.1,fun he=>?_⟩
   have C:=H.out.2.2
   rw[if_pos he,if_pos he]at C
   rw[HB.out.1 he]
   exact C.sync HB.out.2
  ·have q1:=dI c m mx _ _ cut false w hC (by simp[h1])
   rw[show dj s.bs=iY s.bs 0 by unfold dj iY;rw[if_neg h0,if_neg h1,if_pos rfl]]
   have hcw:=tm c m g n mx _ cut s w hM hC hcm hcg ht
   have hin:∀ x,x ∈ iY s.bs 0→x.1<n∧x.2<256:=fun x hx=>iS s.bs n hn x (by unfold dj;rw[if_neg h0,if_neg h1];unfold iY at hx;rwa [if_pos rfl]at hx)
   have hb:=fun h=>qt hin ho l0 h
   have HB:Hid (_):=hb
   clear hM hC hz l0 c4 c5 v0 v1 h0 h1 hb hin
   go_enter func101,ntmps101
   go_wp2_with fail
   refine q0.mono ?_
   rintro e w' ⟨rfl,hw⟩
   rw[hw]
   clear hw
   go_wp2_with fail
   refine q1.mono ?_
   rintro e w' ⟨rfl,hw⟩
   rw[hw]
   clear hw
   go_wp2_with fail
   refine hcw.mono ?_
   rintro e w2 ⟨rfl,H2⟩
   have H:Hid (_):=H2
   clear H2 hcw q0 q1
   go_wp2_with fail
   go_ret
   refine⟨rfl,H.out.1,H.out.2.1,fun he=>?_⟩
   have C:=H.out.2.2 he
   rw[HB.out he]
   exact C.swept
def vp (mk wd:Nat→Nat):Nat→Nat
 | 0=>0
 | i+1=>if mk i=165 then (if vp mk wd i<wd i then wd i else vp mk wd i) else vp mk wd i
theorem abN (a b:Nat) (w:World):(Instr.index 215 (.agg #[.int .u32 (a:Nat),.int .u32 (b:Nat)]) (.int .i64 0)).run prog w=.ok (.int .u32 (a:Nat)) w:=by kernel_rfl
theorem abO (a b:Nat) (w:World):(Instr.index 215 (.agg #[.int .u32 (a:Nat),.int .u32 (b:Nat)]) (.int .i64 1)).run prog w=.ok (.int .u32 (b:Nat)) w:=by kernel_rfl
theorem mP (c m mx:Nat) (mk wd:Nat→Nat) (cut:Bool) (w:World) (hC:CX w c m mx mk wd cut) (hw:∀ j,j<2→wd j<4294967296) :
  Calls prog 239 #[ac c 0] w fun e w'=>e=.returned (.int .u32 (vp mk wd 2:Nat))∧w'=w:=by
 have c4:w.cell? ⟨c,4,none⟩=some (.int .u32 (wd 0:Nat)):=hC.hwd 0 (by omega)
 have c5:w.cell? ⟨c,5,none⟩=some (.int .u32 (wd 1:Nat)):=hC.hwd 1 (by omega)
 go_enter func239,ntmps239
 go_wp2_with fail
 go_loopw [3,4,5,12] (fun x _ _ ci wr=>∃ i:Nat,i≤2∧ci=.int .i64 ((i:Nat):Int)∧x=.int .u32 (vp mk wd i:Nat)∧wr=w) (fun _ _ _ ci _=>2 - (intOf ci).toNat)
 case atStart=>exact⟨0,by omega,rfl,rfl,rfl⟩
 case round=>
  obtain⟨i,hi,rfl,rfl,rfl⟩:=hrel
  by_cases hlt:i<2
  ·have hi2:i=0∨i=1:=by omega
   have h0:=hw 0 (by omega)
   have h1:=hw 1 (by omega)
   clear hw
   rcases hi2 with rfl | rfl
   ·by_cases hm:mk 0=165
    ·have q:=eh c m mx mk wd cut true wr hC (by simp[hm])
     have x0:=abN (wd 0) (wd 1) wr
     have e:vp mk wd 1=(if vp mk wd 0<wd 0 then wd 0 else vp mk wd 0):=if_pos hm
     have HE:Hid (_):=e
     clear hC e hm
     generalize vp mk wd 0=y at *
     go_wp2_with (go_at_call 122;refine q.mono ?_;rintro e w' ⟨rfl,hw⟩;rw[hw];clear hw)
     exact⟨⟨1,by omega,rfl,by rw[HE.out];split <;> rfl,trivial⟩,by decide⟩
    ·have q:=eh c m mx mk wd cut false wr hC (by simp[hm])
     have x0:=abN (wd 0) (wd 1) wr
     have e:vp mk wd 1=vp mk wd 0:=if_neg hm
     have HE:Hid (_):=e
     clear hC e hm
     generalize vp mk wd 0=y at *
     go_wp2_with (go_at_call 122;refine q.mono ?_;rintro e w' ⟨rfl,hw⟩;rw[hw];clear hw)
     exact⟨⟨1,by omega,rfl,by rw[HE.out],trivial⟩,by decide⟩
   ·by_cases hm:mk 1=165
    ·have q:=dI c m mx mk wd cut true wr hC (by simp[hm])
     have x0:=abO (wd 0) (wd 1) wr
     have e:vp mk wd 2=(if vp mk wd 1<wd 1 then wd 1 else vp mk wd 1):=if_pos hm
     have HE:Hid (_):=e
     clear hC e hm
     generalize vp mk wd 1=y at *
     go_wp2_with (go_at_call 122;refine q.mono ?_;rintro e w' ⟨rfl,hw⟩;rw[hw];clear hw)
     exact⟨⟨2,by omega,rfl,by rw[HE.out];split <;> rfl,trivial⟩,by decide⟩
    ·have q:=dI c m mx mk wd cut false wr hC (by simp[hm])
     have x0:=abO (wd 0) (wd 1) wr
     have e:vp mk wd 2=vp mk wd 1:=if_neg hm
     have HE:Hid (_):=e
     clear hC e hm
     generalize vp mk wd 1=y at *
     go_wp2_with (go_at_call 122;refine q.mono ?_;rintro e w' ⟨rfl,hw⟩;rw[hw];clear hw)
     exact⟨⟨2,by omega,rfl,by rw[HE.out],trivial⟩,by decide⟩
  ·obtain rfl:i=2:=by omega
   go_wp2_with fail
   go_ret
   exact⟨rfl,rfl⟩
theorem aad (z:Nat→Nat):vp (fun k=>z (5*k)) (wz z) 2=vz z:=by
 have e:∀ i,vp (fun k=>z (5*k)) (wz z) (i+1)=max (vp (fun k=>z (5*k)) (wz z) i) (hw z i):=fun i=>by
  unfold hw
  rw[vp]
  by_cases h:z (5*i)=165
  ·rw[if_pos h,if_pos h]
   split <;> omega
  ·rw[if_neg h,if_neg h]
   omega
 rw[e 1,e 0,show vp (fun k=>z (5*k)) (wz z) 0=0 from rfl]
 unfold vz
 omega
theorem rT (c m mx:Nat) (z:Nat→Nat) (cut:Bool) (w:World) (hC:CX w c m mx (fun k=>z (5*k)) (wz z) cut) :
  Calls prog 240 #[ac c 0] w fun e w'=>e=.returned (.int .i64 (tg z:Nat))∧∃ j,w'=w.drewN j:=by
 have c4:w.cell? ⟨c,4,none⟩=some (.int .u32 (wz z 0:Nat)):=hC.hwd 0 (by omega)
 have c5:w.cell? ⟨c,5,none⟩=some (.int .u32 (wz z 1:Nat)):=hC.hwd 1 (by omega)
 by_cases h0:z 0=165
 ·have q0:=eh c m mx _ _ cut true w hC (by simp[h0])
  by_cases h1:z 5=165
  ·have q1:=fun j=>dI c m mx _ _ cut true (w.drewN j) (hC.drewN j) (by simp[h1])
   have et:tg z=if wz z 1<wz z 0 then 1 else 0:=by
    unfold tg
    by_cases h:wz z 1<wz z 0
    ·rw[if_pos ⟨h0,.inr h⟩,if_pos h]
    ·rw[if_neg (by omega),if_neg h]
   rw[et]
   clear hC et h0 h1
   generalize wz z 0=x at *
   generalize wz z 1=y at *
   by_cases hxy:y<x
   ·rw[if_pos hxy]
    go_enter func240,ntmps240
    go_wp2_with fail
    refine q0.mono ?_
    rintro e w' ⟨rfl,hw⟩
    rw[hw]
    clear hw
    go_wp2_with fail
    go_quiet ((go_at_call 122;exact Calls.quiet_of_same (q1 _)))
    go_wp2_with fail
    go_ret
    exact⟨rfl,_,rfl⟩
   ·rw[if_neg hxy]
    go_enter func240,ntmps240
    go_wp2_with fail
    refine q0.mono ?_
    rintro e w' ⟨rfl,hw⟩
    rw[hw]
    clear hw
    go_wp2_with fail
    go_quiet ((go_at_call 122;exact Calls.quiet_of_same (q1 _)))
    go_wp2_with fail
    go_ret
    exact⟨rfl,_,rfl⟩
  ·have q1:=fun j=>dI c m mx _ _ cut false (w.drewN j) (hC.drewN j) (by simp[h1])
   rw[show tg z=1 from if_pos ⟨h0,.inl h1⟩]
   clear hC h0 h1 c4 c5
   go_enter func240,ntmps240
   go_wp2_with fail
   refine q0.mono ?_
   rintro e w' ⟨rfl,hw⟩
   rw[hw]
   clear hw
   go_wp2_with fail
   go_quiet ((go_at_call 122;exact Calls.quiet_of_same (q1 _)))
   go_wp2_with fail
   go_ret
   exact⟨rfl,_,rfl⟩
 ·have q0:=eh c m mx _ _ cut false w hC (by simp[h0])
  rw[show tg z=0 from if_neg (fun h=>h0 h.1)]
  clear hC h0 c4 c5
  go_enter func240,ntmps240
  go_wp2_with fail
  refine q0.mono ?_
  rintro e w' ⟨rfl,hw⟩
  rw[hw]
  clear hw
  go_wp2_with fail
  go_ret
  exact⟨rfl,0,(World.drewN_zero _).symm⟩
abbrev CS (w:World) (c m mx:Nat) (z:Nat→Nat) (cut:Bool):Prop:=CX w c m mx (fun k=>z (5*k)) (wz z) cut
theorem we (c m g n mx:Nat) (z:Nat→Nat) (cut:Bool) (s:Ms) (w:World) (hM:MR w m g n s) (hC:CS w c m mx z cut) (h:cut=true∨s.off=true) :
  Calls prog 237 #[ac c 0] w fun e w'=>e=.returned (.tuple #[.int .u32 0,.int .i64 70])∧w'=w:=by
 have c0:=hC.mem
 have c6:=hC.hcut
 have q:=nJ m g n s w hM
 clear hM hC
 cases cut
 ·rw[h.resolve_left (by simp)]at q
  clear h
  go_enter func237,ntmps237
  go_wp2_with (go_at_call 238;refine q.mono ?_;rintro e w' ⟨rfl,hw⟩;rw[hw];clear hw)
  go_ret2
  exact⟨rfl,rfl⟩
 ·clear h q
  go_enter func237,ntmps237
  go_wp2_with fail
  go_ret2
  exact⟨rfl,rfl⟩
theorem tV (c m g n mx:Nat) (z:Nat→Nat) (s:Ms) (w:World) (hM:MR w m g n s) (hC:CS w c m mx z false) (hz:Bz z) (ho:s.off=false) (h:mx≤vz z) :
  Calls prog 237 #[ac c 0] w fun e w'=>e=.returned (.tuple #[.int .u32 0,.int .i64 80])∧w'=w:=by
 have c0:=hC.mem
 have c1:=hC.max
 have c6:=hC.hcut
 have q:=nJ m g n s w hM
 have q2:=mP c m mx _ _ false w hC (fun j hj=>qH hz j hj)
 rw[aad]at q2
 rw[ho]at q
 clear hM hC hz
 generalize vz z=v at *
 go_enter func237,ntmps237
 go_wp2_with (first | (go_at_call 238;refine q.mono ?_;rintro e w' ⟨rfl,hw⟩;rw[hw];clear hw) | (go_at_call 239;refine q2.mono ?_;rintro e w' ⟨rfl,hw⟩;rw[hw];clear hw))
 go_ret2
 exact⟨rfl,rfl⟩
theorem yF (c m g n mx:Nat) (s:Ms) (w:World) (hM:MR w m g n s) (hC:CS w c m mx s.bs false) (hcm:c≠m) (hcg:c≠g) (hn:10≤n) (hx:mx<4294967296) (ho:s.off=false) (h:vz s.bs<mx) (ht:s.t<9223372036854775000) :
  Calls prog 237 #[ac c 0] w fun e w'=>e=.returned (.tuple #[.int .u32 ((if fM n (cY (tg s.bs) (vz s.bs+1)) s=0 then vz s.bs+1 else 0:Nat):Int),.int .i64 (fM n (cY (tg s.bs) (vz s.bs+1)) s)]) ∧
   (Off [m,g,c] w w'∧MR w' m g n (gi n (cY (tg s.bs) (vz s.bs+1)) s)∧(fM n (cY (tg s.bs) (vz s.bs+1)) s=0→CS w' c m mx (gi n (cY (tg s.bs) (vz s.bs+1)) s).bs false)∧(¬ fM n (cY (tg s.bs) (vz s.bs+1)) s=0→CS w' c m mx s.bs true)):=by
 have hz:Bz s.bs:=fun i hi=>hM.byte i (by omega)
 have c0:=hC.mem
 have c1:=hC.max
 have c6:=hC.hcut
 have q:=nJ m g n s w hM
 have q2:=mP c m mx _ _ false w hC (fun j hj=>qH hz j hj)
 rw[aad]at q2
 rw[ho]at q
 have q3:=rT c m mx s.bs false w hC
 have hk:=lC s.bs
 obtain⟨v,hv⟩:∃ v,vz s.bs+1=v:=⟨_,rfl⟩
 have q4:=fun j=>ir c m g n mx _ _ false s (tg s.bs) (vz s.bs+1) (w.drewN j) (hM.drewN j) (hC.drewN j) hcm hcg hk (by omega) ht
 have hb:=fun h=>qt (fw (tg s.bs) (vz s.bs+1) n hk hn) ho hM.l0 h
 obtain⟨E,hE⟩:∃ E,fM n (cY (tg s.bs) (vz s.bs+1)) s=E:=⟨_,rfl⟩
 obtain⟨S,hS⟩:∃ S,gi n (cY (tg s.bs) (vz s.bs+1)) s=S:=⟨_,rfl⟩
 rw[hE,hS]
 rw[hE,hS]at hb
 simp only[hE,hS]at q4
 have HB:Hid (_):=And.intro hb (show vz s.bs+1<4294967296 by omega)
 clear hM hC hz hb hE hS hk hv v
 obtain⟨V,hV⟩:∃ V,vz s.bs=V:=⟨_,rfl⟩
 obtain⟨k,hk⟩:∃ k,tg s.bs=k:=⟨_,rfl⟩
 rw[hV]at HB h q2 q4 ⊢
 rw[hk]at HB q3 q4
 by_cases he:E=0
 ·subst he
  rw[if_pos rfl]
  simp only[if_pos]at q4
  clear hV hk
  go_enter func237,ntmps237
  go_wp2_with (first | (go_at_call 238;refine q.mono ?_;rintro e w' ⟨rfl,hw⟩;rw[hw];clear hw) | (go_at_call 239;refine q2.mono ?_;rintro e w' ⟨rfl,hw⟩;rw[hw];clear hw))
  refine q3.mono ?_
  rintro e w1 ⟨rfl,j,rfl⟩
  go_wp2_with fail
  refine (q4 j).mono ?_
  rintro e w2 ⟨rfl,H2⟩
  have H:Hid (_):=H2
  clear H2 q4 q3 q2 q c0 c1 c6
  go_wp2_with fail
  go_ret2
  obtain⟨O,M,C⟩:=H.out
  have C':=C.sync HB.out.2
  rw[← HB.out.1 trivial]at C'
  exact⟨rfl,(Off.drewN _ _ _).trans O,M,fun _=>C',fun h=>absurd trivial h⟩
 ·rw[if_neg he]
  simp only[if_neg he]at q4
  clear hV hk
  go_enter func237,ntmps237
  go_wp2_with (first | (go_at_call 238;refine q.mono ?_;rintro e w' ⟨rfl,hw⟩;rw[hw];clear hw) | (go_at_call 239;refine q2.mono ?_;rintro e w' ⟨rfl,hw⟩;rw[hw];clear hw))
  refine q3.mono ?_
  rintro e w1 ⟨rfl,j,rfl⟩
  go_wp2_with fail
  refine (q4 j).mono ?_
  rintro e w2 ⟨rfl,H2⟩
  have d6:=H2.2.2.hcut
  have f6:=H2.2.2.fz 6
  have H:Hid (_):=H2
  clear H2 q4 q3 q2 q c0 c1 c6
  go_wp2_with fail
  go_ret2
  obtain⟨O,M,C⟩:=H.out
  have q1:Off [c] w2 (w2.setCell ⟨c,6,none⟩ (.bool true)):=Off.setCell c 6 _ _
  exact⟨rfl,((Off.drewN _ _ _).trans O).trans q1.three',M.off q1 (by simp;omega) (by simp;omega),fun h=>absurd h he,fun _=>C.setCut true⟩
theorem yM (m g n mx:Nat) (s:Ms) (w:World) (hM:MR w m g n s) (h:mx=0∨n<10) :
  Calls prog 76 #[ac m 0,.int .u32 (mx:Nat)] w fun e w'=>e=.returned (.tuple #[.pointer none,.int .i64 2])∧w'=w:=by
 have q:=lr m g n s w hM
 clear hM
 by_cases h0:mx=0
 ·subst h0
  clear h q
  go_enter func76,ntmps76
  go_wp2_with fail
  go_ret2
  exact⟨rfl,rfl⟩
 ·have h1:n<10:=by omega
  have h2:¬ (mx:Int)=0:=by omega
  clear h h0
  go_enter func76,ntmps76
  go_wp2_with (go_at_call 99;refine q.mono ?_;rintro e w' ⟨rfl,hw⟩;rw[hw];clear hw)
  go_ret2
  exact⟨rfl,rfl⟩
theorem wm (m g n mx:Nat) (s:Ms) (w:World) (hM:MR w m g n s) (hn:10≤n) (h0:mx≠0) (ho:s.off=true) :
  Calls prog 76 #[ac m 0,.int .u32 (mx:Nat)] w fun e w'=>e=.returned (.tuple #[.pointer none,.int .i64 70])∧(Off [m,g] w w'∧MR w' m g n s):=by
 have q:=lr m g n s w hM
 have h2:((mx:Int) == 0)=false:=by simpa using h0
 have h3:decide ((n:Int)<10)=false:=by simp;omega
 have hA:Off [m,g] w (w.alloc (.cells (CV m mx (fun _=>0) (fun _=>0) false) 217)):=Off.alloc _ _ _
 have M1:=hM.off (Off.alloc [] w (.cells (CV m mx (fun _=>0) (fun _=>0) false) 217)) (by simp) (by simp)
 have C1:CX (w.alloc (.cells (CV m mx (fun _=>0) (fun _=>0) false) 217)) w.heap.size m mx (fun _=>0) (fun _=>0) false:=⟨aB w _⟩
 have q2:=tp _ m g n mx _ _ false s _ M1 C1 ho
 have H:Hid (_):=And.intro hA M1
 clear hM hA M1 C1 h0
 go_enter func76,ntmps76
 go_wp2_with (go_at_call 99;refine q.mono ?_;rintro e w' ⟨rfl,hw⟩;rw[hw];clear hw)
 refine q2.mono ?_
 rintro e w' ⟨rfl,hw⟩
 rw[hw]
 clear hw
 go_wp2_with fail
 go_ret2
 exact⟨rfl,H.out⟩
theorem yL (m g n mx:Nat) (s:Ms) (w:World) (hM:MR w m g n s) (hn:10≤n) (h0:mx≠0) (ho:s.off=false) (ht:s.t<9223372036854775000) :
  Calls prog 76 #[ac m 0,.int .u32 (mx:Nat)] w fun e w'=>
   ∃ p,e=.returned (.tuple #[.pointer p,.int .i64 (fM n (dj s.bs) s)])∧Hid (Off [m,g] w w'∧MR w' m g n (gi n (dj s.bs) s)∧(fM n (dj s.bs) s=0→p=af w.heap.size 0∧CS w' w.heap.size m mx (gi n (dj s.bs) s).bs false)∧(¬ fM n (dj s.bs) s=0→p=none)):=by
 have q:=lr m g n s w hM
 have h2:((mx:Int) == 0)=false:=by simpa using h0
 have h3:decide ((n:Int)<10)=false:=by simp;omega
 have lm:=hM.lt
 have lg:=hM.lg
 have M1:=hM.off (Off.alloc [] w (.cells (CV m mx (fun _=>0) (fun _=>0) false) 217)) (by simp) (by simp)
 have C1:CX (w.alloc (.cells (CV m mx (fun _=>0) (fun _=>0) false) 217)) w.heap.size m mx (fun _=>0) (fun _=>0) false:=⟨aB w _⟩
 have q2:=tn _ m g n mx _ _ false s _ M1 C1 (by omega) (by omega) hn ho
 have hA:Off [m,g,w.heap.size] w (w.alloc (.cells (CV m mx (fun _=>0) (fun _=>0) false) 217)):=Off.alloc _ _ _
 have HA:Hid (_):=hA
 have q3:=fun w2 M2 C2=>vU w.heap.size m g n mx false s w2 M2 C2 (by omega) (by omega) hn ho ht
 obtain⟨E,hE⟩:∃ E,fM n (dj s.bs) s=E:=⟨_,rfl⟩
 obtain⟨S,hS⟩:∃ S,gi n (dj s.bs) s=S:=⟨_,rfl⟩
 rw[hE,hS]
 simp only[hE,hS]at q3
 clear hM M1 C1 h0 hE hS hA
 go_enter func76,ntmps76
 go_wp2_with (go_at_call 99;refine q.mono ?_;rintro e w' ⟨rfl,hw⟩;rw[hw];clear hw)
 refine q2.mono ?_
 rintro e w2 ⟨rfl,o2,m2,c2⟩
 have O2:=HA.out.trans o2.three'
 have q4:=q3 w2 m2 c2
 have H2:Hid (_):=O2
 clear O2 o2 q3 HA m2 c2 q2
 go_wp2_with fail
 refine q4.mono ?_
 rintro e w3 ⟨rfl,H3⟩
 obtain⟨o3,m3,c3⟩:=H3
 have o4:Off [m,g] w w3:=(H2.out.trans o3).only (fun k hk hl=>by simp only[List.mem_cons,List.not_mem_nil,or_false]at hk ⊢;omega)
 have H:Hid (_):=And.intro o4 (And.intro m3 c3)
 clear o3 o4 m3 c3 H2 q4 q
 by_cases he:E=0
 ·subst he
  go_wp2_with fail
  go_ret2
  obtain⟨O,M,C⟩:=H.out
  first | exact⟨_,rfl,O,M,rfl,C trivial⟩ | exact⟨_,rfl,O,M,rfl,C rfl⟩ | exact⟨_,rfl,O,M,rfl,C⟩ | exact⟨_,rfl,⟨O,M,rfl,C⟩⟩ | exact⟨_,rfl,⟨O,M,rfl,C rfl⟩⟩
 ·go_wp2_with fail
  go_ret2
  obtain⟨O,M,C⟩:=H.out
  exact⟨_,rfl,O,M,fun h=>absurd h he,fun _=>rfl⟩
def S0 (bs:Nat→Nat):Ms:=⟨bs,false,false,0,0⟩
theorem aaM (n:Nat) (w:World) (hn:n≤4096) :
  Calls prog 44 #[.int .i64 (n:Nat)] w fun e w'=>∃ b g,e=.returned (.tuple #[ac b 0,.int .i64 0])∧Hid (w.heap.size≤b∧w.heap.size≤g∧Off [] w w'∧MR w' b g n (S0 fun _=>0)):=by
 obtain⟨i0,hi,hz0,hz1,hz2⟩:=info_parts cq
 go_enter func44,ntmps44
 go_wp2_with (at_make;refine bk _ rfl (.tmp 10) (.tmp 10) 37 rfl w.heap.size 5 i0 underlying37 hi hz0 hz1 hz2 _ _ _ _ n n rfl rfl rfl rfl (Nat.le_refl _) (by omega) (Nat.le_refl _) ?_)
 intro w1 hown1 hbel1
 have H:Hid (_):=And.intro hown1 hbel1
 clear hown1 hbel1
 go_wp2_with fail
 go_ret2
 obtain⟨hown1,hbel1⟩:=H.out
 have hlt:w.heap.size<w1.heap.size:=(hown1.lt _ rfl).2
 refine⟨_,w.heap.size,rfl,hbel1.size,Nat.le_refl _,(Off.of_below hbel1).trans (Off.alloc _ _ _),⟨⟨_,aB w1 _,?_⟩,by intro i _;show 0<256;omega,Int.le_refl _,by show (0:Int)≤_;omega,Int.le_refl _,hn⟩⟩
 refine⟨cU (aS hown1 (Nat.zero_le _)) ((Below.refl _ _).alloc (Nat.le_refl _) _),.inr ⟨Nat.ne_of_lt hlt,_,rfl⟩⟩
section
variable {w w':World} {b g n:Nat} {s:Ms}
end
end Go.Proofs.YtenilkloffnjlaaGreat
namespace Go.Proofs.YtenilkloffnjlaaGreat
open Tryz
open Go.RowKit
def A6:Array Value:=#[.int .i64 0,.int .i64 1,.int .i64 2,.int .i64 3,.int .i64 4,.int .i64 0]
def B6 (v:Nat):Array Value:=#[.int .u8 0,.int .u8 (bt v 0:Nat),.int .u8 (bt v 1:Nat),.int .u8 (bt v 2:Nat),.int .u8 (bt v 3:Nat),.int .u8 165]
structure S6 (w:World) (A B v:Nat):Prop where
 a:w.heap[A]?=some (.cells A6 3 (0,0))
 b:w.heap[B]?=some (.cells (B6 v) 5 (0,0))
def acQ (z:Nat→Nat) (k:Nat):List (Nat × Nat):=
 if z (5*k)≠165∧z (5 * (1-k))=165 then cY k (wz z (1-k)) else if z (5*k)≠165∧z (5*k)≠0 then [(5*k,0)] else []
def rl (z:Nat→Nat) (k:Nat):List (Nat × Nat):=if k=0 then dj z else if k=1 then acQ z 1 else []
section
variable {w w':World} {d m mx v:Nat} {dead:Bool}
end
end Go.Proofs.YtenilkloffnjlaaGreat
namespace Go.Proofs.YtenilkloffnjlaaGreat
open Tryz
open Go.RowKit
end Go.Proofs.YtenilkloffnjlaaGreat
