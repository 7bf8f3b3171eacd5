/- Part 4: contracts that the proof rests on. -/
import Derived.Deep.QuietTactic
import Derived.BigQuiet
import Derived.Test.YtfgnmadnmjdbiaaGreatPkU02
set_option maxHeartbeats 64000000
set_option maxRecDepth 100000
namespace Go.Proofs.YtfgnmadnmjdbiaaGreat
open Tryz
open Go.RowKit
structure Vs where
 run:Bool
 held:Bool
 fr:Bool
 lat:Int
 sm:Bool
 bs:Nat→Nat
def mM:Vs:=⟨false,false,false,0,false,fun _=>0⟩
def dz (s:Vs) (x:Int):Vs:=if x=0 then s else { s with fr:=false,sm:=false,lat:=if s.lat=0 then x else s.lat }
def dx (s:Vs) (o:Bool):Vs:=if s.run=o then s else { s with run:=o,held:=false,sm:=false }
def cJ (s:Vs) (o:Bool):Vs:={ s with held:=o && s.run }
def bk (s:Vs):Vs:={ s with fr:=s.lat != 0 }
def bH (s:Vs) (bs:Nat→Nat):Vs:=if s.run=true∧s.lat=0 then { s with sm:=true,bs:=bs } else s
def aq (s:Vs):Bool:=s.run && (s.lat != 0 && s.fr)
def dY (s:Vs):Vs:=if aq s=true then { s with lat:=0,fr:=false } else s
def aA (s:Vs):Bool:=s.run && (!s.held && s.sm)
def cF (s:Vs):Nat→Nat:=if aA s=true then s.bs else fun _=>0
theorem Row8.off {l:List Nat} {w w':World} {a:Option Addr} {len cap:Nat} {bs:Nat→Nat} (h:Row8 w a len cap bs) (q:Off l w w') (hl:∀ x,a=some x→x.block ∉ l):Row8 w' a len cap bs:=by
 refine⟨h.byte,h.nil,fun x hx i hi=>?_,h.le⟩
 have h1:=h.src x hx i hi
 have hlt:=World.block_lt_of_cell? w _ h1
 have hb:(x.add i).block=x.block:=by unfold Addr.add;split <;> rfl
 have he:w'.heap[(x.add i).block]?=w.heap[(x.add i).block]?:=q.block _ hlt (by rw[hb];exact hl x hx)
 rw[← h1]
 unfold World.cell?
 rw[he]
def VC (n:Nat) (s:Vs) (g:Nat) (v:Value):Array Value:=#[.int .i64 (n:Nat),.bool s.run,.bool s.held,ac g 0,.bool s.fr,v]
def VV (w:World) (M:List Nat) (n:Nat) (s:Vs) (v:Value):Prop:=(s.sm=false∧v=.slice none 0 0)∨(s.sm=true∧(w.ownsRow 0 5 1 v n (CB s.bs n)∧∀ k,v.ownBlock=some k→k ∈ M)∧∀ i,i<n→s.bs i<256)
theorem aH {l:List Nat} {w w':World} {B e size n:Nat} {v:Value} {xs:List Value} (h:w.ownsRow B e size v n xs) (q:Off l w w') (hl:∀ k,v.ownBlock=some k→k ∉ l):w'.ownsRow B e size v n xs:=by
 refine⟨h.1,?_⟩
 rcases h.2 with hn | ⟨g,cap,cur,rfl,hg,hgg,rest⟩
 ·exact .inl hn
 ·exact .inr ⟨g,cap,cur,rfl,hg,by rw[q.block g (Array.getElem?_eq_some_iff.1 hgg).1 (hl g rfl)];exact hgg,rest⟩
theorem VV.off {l:List Nat} {w w':World} {M:List Nat} {n:Nat} {s:Vs} {v:Value} (h:VV w M n s v) (q:Off l w w') (hl:∀ k,k ∈ l→k ∉ M):VV w' M n s v:=by
 rcases h with h | ⟨h1,h2,h3⟩
 ·exact .inl h
 ·exact .inr ⟨h1,⟨aH h2.1 q (fun k hk hm=>hl k hm (h2.2 k hk)),h2.2⟩,h3⟩
structure VR (w:World) (b g:Nat) (M:List Nat) (n:Nat) (s:Vs):Prop where
 ex:∃ v t,w.heap[b]?=some (.cells (VC n s g v) 173 (0,0))∧GR w g 0 (if s.lat=0 then 0 else 1) 0 s.lat t∧VV w M n s v
 bM:b ∉ M
 gM:g ∉ M
 ne:g≠b
 n1:1≤n
 n8:n≤8
section
variable {w w':World} {b g:Nat} {M:List Nat} {n:Nat} {s:Vs}
theorem VR.lt (h:VR w b g M n s):b<w.heap.size:=by
 obtain⟨v,t,h1,_⟩:=h.ex
 exact (Array.getElem?_eq_some_iff.1 h1).1
theorem VR.off {l:List Nat} (h:VR w b g M n s) (q:Off l w w') (hb:b ∉ l) (hg:g ∉ l) (hl:∀ k,k ∈ l→k ∉ M):VR w' b g M n s:=by
 obtain⟨v,t,h1,h2,h3⟩:=h.ex
 exact⟨⟨v,t,(q.block b h.lt hb).trans h1,h2.off q hg,h3.off q hl⟩,h.bM,h.gM,h.ne,h.n1,h.n8⟩
theorem VR.cells (h:VR w b g M n s):∃ v t,w.cell? ⟨b,0,none⟩=some (.int .i64 (n:Nat))∧w.cell? ⟨b,1,none⟩=some (.bool s.run)∧w.cell? ⟨b,2,none⟩=some (.bool s.held)∧w.cell? ⟨b,3,none⟩=some (ac g 0) ∧
  w.cell? ⟨b,4,none⟩=some (.bool s.fr)∧w.cell? ⟨b,5,none⟩=some v∧(∀ j,w.frozen? ⟨b,j,none⟩=false)∧GR w g 0 (if s.lat=0 then 0 else 1) 0 s.lat t∧VV w M n s v∧w.heap[b]?=some (.cells (VC n s g v) 173 (0,0)):=by
 obtain⟨v,t,e,h2,h3⟩:=h.ex
 exact⟨v,t,ae w b 0 _ _ _ e,ae w b 1 _ _ _ e,ae w b 2 _ _ _ e,ae w b 3 _ _ _ e,ae w b 4 _ _ _ e,ae w b 5 _ _ _ e,fun j=>frozen_of_row w b j _ _ e,h2,h3,e⟩
end
theorem gf (b g:Nat) (M:List Nat) (n:Nat) (s:Vs) (w:World) (h:VR w b g M n s) :
  Calls prog 78 #[ac b 0] w fun e w'=>e=.returned (.bool (s.lat != 0))∧w'=w:=by
 obtain⟨v,t,c0,c1,c2,c3,c4,c5,fz,G,V,hb⟩:=h.cells
 have H:Hid (_):=G
 clear G V hb h
 by_cases hl:s.lat=0
 ·rw[hl]
  go_enter func78,ntmps78
  go_wp2_with fail
  refine (iH g _ _ t w H.out).mono ?_
  rintro e w2 ⟨rfl,rfl⟩
  rw[hl]
  go_wp2_with fail
  go_ret
  exact⟨rfl,rfl⟩
 ·have hl':(s.lat != 0)=true:=by simpa using hl
  rw[hl']
  go_enter func78,ntmps78
  go_wp2_with fail
  refine (iH g _ _ t w H.out).mono ?_
  rintro e w2 ⟨rfl,rfl⟩
  go_wp2_with fail
  go_ret
  exact⟨rfl,rfl⟩
theorem ir (b g:Nat) (M:List Nat) (n:Nat) (s:Vs) (w:World) (h:VR w b g M n s) :
  Calls prog 58 #[ac b 0] w fun e w'=>e=.returned (.int .i64 s.lat)∧w'=w:=by
 obtain⟨v,t,c0,c1,c2,c3,c4,c5,fz,G,V,hb⟩:=h.cells
 have H:Hid (_):=G
 clear G V hb h
 go_enter func58,ntmps58
 go_wp2_with fail
 refine (iH g _ _ t w H.out).mono ?_
 rintro e w2 ⟨rfl,rfl⟩
 go_wp2_with fail
 go_ret
 exact⟨rfl,rfl⟩
theorem fT (b g:Nat) (M:List Nat) (n:Nat) (s:Vs) (w:World) (h:VR w b g M n s) :
  Calls prog 59 #[ac b 0] w fun e w'=>e=.returned (.bool (aq s))∧w'=w:=by
 obtain⟨v,t,c0,c1,c2,c3,c4,c5,fz,G,V,hb⟩:=h.cells
 have hl:=gf b g M n s w h
 clear G V hb h
 unfold aq
 cases hr:s.run
 ·rw[hr]at c1
  go_enter func59,ntmps59
  go_wp2_with fail
  go_ret
  exact⟨rfl,rfl⟩
 ·rw[hr]at c1
  generalize (s.lat != 0)=q at hl ⊢
  cases q
  ·go_enter func59,ntmps59
   go_wp2_with (go_at_call 78;refine hl.mono ?_;rintro e w' ⟨rfl,rfl⟩)
   go_ret
   exact⟨rfl,rfl⟩
  ·go_enter func59,ntmps59
   go_wp2_with (go_at_call 78;refine hl.mono ?_;rintro e w' ⟨rfl,rfl⟩)
   go_ret
   exact⟨rfl,rfl⟩
theorem sM (b n:Nat) (r hd:Bool) (x:Value) (w:World) (c0:w.cell? ⟨b,0,none⟩=some (.int .i64 (n:Nat))) (c1:w.cell? ⟨b,1,none⟩=some (.bool r)) (c2:w.cell? ⟨b,2,none⟩=some (.bool hd)) (c5:w.cell? ⟨b,5,none⟩=some x) (h8:n≤8)
  (hx:r=false∨hd=true∨x=.slice none 0 0) :
  Calls prog 56 #[ac b 0] w fun e w'=>∃ v,e=.returned (.tuple #[v,.bool false])∧Hid (w'.ownsRow w.heap.size 5 1 v n (CB (fun _=>0) n)∧Below w.heap.size w w'):=by
 obtain⟨i0,hi,hz0,hz1,hz2⟩:=info_parts bY
 cases r
 ·go_enter func56,ntmps56
  go_wp2_with (at_make;refine aW _ rfl (.tmp 27) (.tmp 27) 22 rfl w.heap.size 5 i0 underlying22 hi hz0 hz1 hz2 _ _ _ _ n n rfl rfl rfl rfl (Nat.le_refl _) (by omega) (Nat.le_refl _) ?_)
  intro w1 hown1 hbel1
  have H:Hid (_):=And.intro hown1 hbel1
  clear hown1 hbel1
  go_wp2_with fail
  go_ret2
  exact⟨_,rfl,H⟩
 ·cases hd
  ·have e:x=.slice none 0 0:=by rcases hx with h | h | h <;> simp_all
   subst e
   have he:∀ w:World,(binOp .eql 22 (.slice none 0 0) (.slice none 0 0)).run prog w=.ok (.bool true) w:=fun _=>by kernel_rfl
   go_enter func56,ntmps56
   go_wp2_with (at_make;refine aW _ rfl (.tmp 27) (.tmp 27) 22 rfl w.heap.size 5 i0 underlying22 hi hz0 hz1 hz2 _ _ _ _ n n rfl rfl rfl rfl (Nat.le_refl _) (by omega) (Nat.le_refl _) ?_)
   intro w1 hown1 hbel1
   have H:Hid (_):=And.intro hown1 hbel1
   clear hown1 hbel1
   go_wp2_with fail
   go_ret2
   exact⟨_,rfl,H⟩
  ·go_enter func56,ntmps56
   go_wp2_with (at_make;refine aW _ rfl (.tmp 27) (.tmp 27) 22 rfl w.heap.size 5 i0 underlying22 hi hz0 hz1 hz2 _ _ _ _ n n rfl rfl rfl rfl (Nat.le_refl _) (by omega) (Nat.le_refl _) ?_)
   intro w1 hown1 hbel1
   have H:Hid (_):=And.intro hown1 hbel1
   clear hown1 hbel1
   go_wp2_with fail
   go_ret2
   exact⟨_,rfl,H⟩
theorem uX (b n:Nat) (ad:Addr) (cap:Nat) (bs:Nat→Nat) (w:World) (c1:w.cell? ⟨b,1,none⟩=some (.bool true)) (c2:w.cell? ⟨b,2,none⟩=some (.bool false)) (c5:w.cell? ⟨b,5,none⟩=some (.slice (some ad) n cap)) (h8:n≤8)
  (R:Row8 w (some ad) n cap bs) :
  Calls prog 56 #[ac b 0] w fun e w'=>∃ v,e=.returned (.tuple #[v,.bool true])∧Hid (w'.ownsRow w.heap.size 5 1 v n (CB bs n)∧Below w.heap.size w w'):=by
 obtain⟨i0,hi,hz0,hz1,hz2⟩:=info_parts bY
 have O0:=World.ownsRow_nil w w.heap.size 5 1
 have he:∀ w:World,(binOp .eql 22 (.slice (some ad) n cap) (.slice none 0 0)).run prog w=.ok (.bool false) w:=fun _=>by kernel_rfl
 go_enter func56,ntmps56
 go_wp2_with (at_builtin;refine a9 rfl (.const (.slice none 0 0)) (.tmp 32) 22 rfl w.heap.size 5 i0 (.int .u8 0) underlying22 hi hz0 hz1 hz2 rfl _ 0 _ rfl O0 (some ad) n cap bs rfl R (by unfold maxLen;omega) (by omega) (Nat.le_refl _) ?_)
 intro v2 w2 hown2 hgrow2
 have hbel2:Below w.heap.size w w2:=(Below.refl _ _).grown hgrow2 (Nat.le_refl _) (fun j hj=>by cases hj)
 have H:Hid (_):=And.intro hown2 hbel2
 clear hown2 hbel2 hgrow2 O0 R
 go_wp2_with fail
 go_ret2
 exact⟨_,rfl,H⟩
theorem ig (b g:Nat) (M:List Nat) (n:Nat) (s:Vs) (w:World) (h:VR w b g M n s) :
  Calls prog 56 #[ac b 0] w fun e w'=>∃ v,e=.returned (.tuple #[v,.bool (aA s)])∧Hid (w'.ownsRow w.heap.size 5 1 v n (CB (cF s) n)∧Below w.heap.size w w'):=by
 obtain⟨v,t,c0,c1,c2,c3,c4,c5,fz,G,V,hb⟩:=h.cells
 by_cases ho:aA s=true
 ·unfold cF
  rw[if_pos ho,ho]
  simp only[aA,Bool.and_eq_true,Bool.not_eq_true']at ho
  obtain⟨o1,o2,o3⟩:=ho
  rcases V with ⟨e,_⟩ | ⟨_,⟨V,_⟩,hby⟩
  ·rw[o3]at e;cases e
  obtain⟨a,cap,rfl,R⟩:=aX V hby
  have n1:=h.n1
  obtain⟨hb',off',rfl,_⟩:=R.plain (by omega)
  exact uX b n _ cap s.bs w (o1 ▸ c1) (o2 ▸ c2) c5 h.n8 R
 ·have ho':aA s=false:=by simpa using ho
  unfold cF
  rw[if_neg ho,ho']
  refine sM b n s.run s.held v w c0 c1 c2 c5 h.n8 ?_
  rcases V with ⟨_,rfl⟩ | ⟨e,_⟩
  ·exact .inr (.inr rfl)
  ·unfold aA at ho'
   rw[e]at ho'
   cases hr:s.run
   ·exact .inl rfl
   ·rw[hr]at ho'
    cases hh:s.held
    ·rw[hh]at ho';cases ho'
    ·exact .inr (.inl rfl)
end Go.Proofs.YtfgnmadnmjdbiaaGreat
namespace Go.Proofs.YtfgnmadnmjdbiaaGreat
open Tryz
open Go.RowKit
section
variable {w w':World} {b g:Nat} {M:List Nat} {n:Nat} {s:Vs}
theorem VR.upd (h:VR w b g M n s) (s':Vs) (q:Off [b] w w') (hl:s'.lat=s.lat) (hc:∀ v,w.heap[b]?=some (.cells (VC n s g v) 173 (0,0))→VV w M n s v→∃ v',w'.heap[b]?=some (.cells (VC n s' g v') 173 (0,0))∧VV w' M n s' v'):VR w' b g M n s':=by
 obtain⟨v,t,e,G,V⟩:=h.ex
 obtain⟨v',e',V'⟩:=hc v e V
 exact⟨⟨v',t,e',by rw[hl];exact G.off q (by simpa using h.ne),V'⟩,h.bM,h.gM,h.ne,h.n1,h.n8⟩
end
theorem fW (b g:Nat) (M:List Nat) (n:Nat) (s:Vs) (o:Bool) (w:World) (h:VR w b g M n s) :
  Calls prog 151 #[ac b 0,.bool o] w fun e w'=>e=.returned (.tuple #[])∧Hid (Off [b,g] w w'∧VR w' b g M n (dx s o)):=by
 obtain⟨v,t,c0,c1,c2,c3,c4,c5,fz,G,V,hb⟩:=h.cells
 have z1:=fz 1
 have z2:=fz 2
 have z5:=fz 5
 unfold dx
 by_cases hr:s.run=o
 ·rw[if_pos hr]
  have H:Hid (_):=h
  rw[hr]at c1
  clear h G V hb
  cases o
  ·go_enter func151,ntmps151
   go_wp2_with fail
   refine bodyPost_ret (results_none rfl _ _ _) rfl ?_
   exact⟨rfl,Off.refl _ _,H.out⟩
  ·go_enter func151,ntmps151
   go_wp2_with fail
   refine bodyPost_ret (results_none rfl _ _ _) rfl ?_
   exact⟨rfl,Off.refl _ _,H.out⟩
 ·rw[if_neg hr]
  have o1:=Off.setCell b 1 w (.bool o)
  have o2:=o1.trans (Off.setCell b 2 _ (.bool false))
  have o3:=o2.trans (Off.setCell b 5 _ (.slice none 0 0))
  have F:Hid (Off [b,g] w (((w.setCell ⟨b,1,none⟩ (.bool o)).setCell ⟨b,2,none⟩ (.bool false)).setCell ⟨b,5,none⟩ (.slice none 0 0))∧VR (((w.setCell ⟨b,1,none⟩ (.bool o)).setCell ⟨b,2,none⟩ (.bool false)).setCell ⟨b,5,none⟩ (.slice none 0 0)) b g M n { s with run:=o,held:=false,sm:=false }):=
   ⟨o3.more (by simp),h.upd _ o3 rfl fun v e _=>⟨.slice none 0 0,heap_setCell_same _ _ _ _ _ _ (heap_setCell_same _ _ _ _ _ _ (heap_setCell_same _ _ _ _ _ _ e)),.inl ⟨rfl,rfl⟩⟩⟩
  clear h G V hb o1 o2 o3
  have hr':s.run = !o:=by cases o <;> cases hq:s.run <;> simp_all
  rw[hr']at c1
  clear hr
  cases o
  ·go_enter func151,ntmps151
   go_wp2_with fail
   go_end0
   exact⟨rfl,F⟩
  ·go_enter func151,ntmps151
   go_wp2_with fail
   go_end0
   exact⟨rfl,F⟩
theorem kH (b g:Nat) (M:List Nat) (n:Nat) (s:Vs) (o:Bool) (w:World) (h:VR w b g M n s) :
  Calls prog 153 #[ac b 0,.bool o] w fun e w'=>e=.returned (.tuple #[])∧Hid (Off [b,g] w w'∧VR w' b g M n (cJ s o)):=by
 obtain⟨v,t,c0,c1,c2,c3,c4,c5,fz,G,V,hb⟩:=h.cells
 have z2:=fz 2
 unfold cJ
 have o1:=Off.setCell b 2 w (.bool (o && s.run))
 have F:Hid (Off [b,g] w (w.setCell ⟨b,2,none⟩ (.bool (o && s.run)))∧VR (w.setCell ⟨b,2,none⟩ (.bool (o && s.run))) b g M n { s with held:=o && s.run }):=
  ⟨o1.more (by simp),h.upd _ o1 rfl fun v e V=>⟨v,heap_setCell_same _ _ _ _ _ _ e,VV.off (s:={ s with held:=o && s.run }) V o1 (by simpa using h.bM)⟩⟩
 clear h G V hb o1
 cases o
 ·go_enter func153,ntmps153
  go_wp2_with fail
  go_end0
  exact⟨rfl,F⟩
 ·go_enter func153,ntmps153
  go_wp2_with fail
  go_end0
  exact⟨rfl,F⟩
theorem ju (b g:Nat) (M:List Nat) (n:Nat) (s:Vs) (w:World) (h:VR w b g M n s) :
  Calls prog 185 #[ac b 0] w fun e w'=>e=.returned (.tuple #[])∧Hid (Off [b,g] w w'∧VR w' b g M n (bk s)):=by
 obtain⟨v,t,c0,c1,c2,c3,c4,c5,fz,G,V,hb⟩:=h.cells
 have z4:=fz 4
 have hl:=gf b g M n s w h
 unfold bk
 generalize (s.lat != 0)=q at hl ⊢
 have o1:=Off.setCell b 4 w (.bool q)
 have F:Hid (Off [b,g] w (w.setCell ⟨b,4,none⟩ (.bool q))∧VR (w.setCell ⟨b,4,none⟩ (.bool q)) b g M n { s with fr:=q }):=
  ⟨o1.more (by simp),h.upd _ o1 rfl fun v e V=>⟨v,heap_setCell_same _ _ _ _ _ _ e,VV.off (s:={ s with fr:=q }) V o1 (by simpa using h.bM)⟩⟩
 clear h G V hb o1
 go_enter func185,ntmps185
 go_wp2_with (go_at_call 78;refine hl.mono ?_;rintro e w' ⟨rfl,rfl⟩)
 go_end0
 exact⟨rfl,F⟩
def gm (s:Vs) (x:Int):Bool:=decide (¬ x=0∧s.lat=0)
theorem tD (b:Nat) (w:World) :
  Calls prog 132 #[ac b 0,.int .i64 0] w fun e w'=>e=.returned (.bool false)∧w'=w:=by
 go_enter func132,ntmps132
 go_wp2_with fail
 go_ret
 exact⟨rfl,rfl⟩
theorem pG (b g:Nat) (x:Int) (hx:¬ x=0) (q:Bool) (w:World) (P:World→Prop) (v y:Value) (c3:w.cell? ⟨b,3,none⟩=some (ac g 0)) (c4:w.cell? ⟨b,4,none⟩=some y) (c5:w.cell? ⟨b,5,none⟩=some v) (z4:w.frozen? ⟨b,4,none⟩=false) (z5:w.frozen? ⟨b,5,none⟩=false)
  (hg:Calls prog 168 #[ac g 0,.int .i64 x] ((w.setCell ⟨b,5,none⟩ (.slice none 0 0)).setCell ⟨b,4,none⟩ (.bool false)) fun e w'=>e=.returned (.bool q)∧P w') :
  Calls prog 132 #[ac b 0,.int .i64 x] w fun e w'=>e=.returned (.bool q)∧P w':=by
 go_enter func132,ntmps132
 go_wp2_with fail
 refine hg.mono ?_
 rintro e w2 ⟨rfl,p⟩
 have H:Hid (_):=p
 clear p hg
 go_wp2_with fail
 go_ret
 exact⟨rfl,H.out⟩
theorem gz (b g:Nat) (M:List Nat) (n:Nat) (s:Vs) (x:Int) (w:World) (h:VR w b g M n s) :
  Calls prog 132 #[ac b 0,.int .i64 x] w fun e w'=>e=.returned (.bool (gm s x))∧Hid (Off [b,g] w w'∧VR w' b g M n (dz s x)):=by
 unfold gm dz
 by_cases hx:x=0
 ·rw[if_pos hx,decide_eq_false (fun k=>k.1 hx)]
  subst hx
  exact (tD b w).mono (fun _ _ ⟨he,hw⟩=>⟨he,by subst hw;exact⟨Off.refl _ _,h⟩⟩)
 ·rw[if_neg hx]
  obtain⟨v,t,c0,c1,c2,c3,c4,c5,fz,G,V,hb⟩:=h.cells
  have o1:=Off.setCell b 5 w (.slice none 0 0)
  have o2:=o1.trans (Off.setCell b 4 _ (.bool false))
  have e2:((w.setCell ⟨b,5,none⟩ (.slice none 0 0)).setCell ⟨b,4,none⟩ (.bool false)).heap[b]?=some (.cells (VC n { s with fr:=false,sm:=false } g (.slice none 0 0)) 173 (0,0)):=heap_setCell_same _ _ _ _ _ _ (heap_setCell_same _ _ _ _ _ _ hb)
  have G2:=G.off o2 (by simpa using h.ne)
  have s2:=Nat.lt_of_lt_of_le h.lt o2.size
  refine pG b g x hx (decide (¬ x=0∧s.lat=0)) w (fun w'=>Hid (Off [b,g] w w'∧VR w' b g M n { s with fr:=false,sm:=false,lat:=if s.lat=0 then x else s.lat })) v _ c3 c4 c5 (fz 4) (fz 5) ?_
  generalize (w.setCell ⟨b,5,none⟩ (.slice none 0 0)).setCell ⟨b,4,none⟩ (.bool false)=w2 at *
  by_cases hl:s.lat=0
  ·rw[decide_eq_true ⟨hx,hl⟩,if_pos hl]
   rw[if_pos hl,hl]at G2
   refine (oP g x t hx w2 G2).mono ?_
   rintro e w3 ⟨rfl,o3,G3⟩
   refine⟨rfl,(o2.more (by simp)).trans (o3.more (by simp)),⟨⟨_,wrap64 (t+1),(o3.block b s2 (by simpa using Ne.symm h.ne)).trans e2,?_,.inl ⟨rfl,rfl⟩⟩,h.bM,h.gM,h.ne,h.n1,h.n8⟩⟩
   show GR w3 g 0 (if x=0 then 0 else 1) 0 x _
   rw[if_neg hx]
   exact G3
  ·rw[decide_eq_false (fun k=>hl k.2),if_neg hl]
   rw[if_neg hl]at G2
   refine (oK g x s.lat t hx w2 G2).mono ?_
   rintro e w3 ⟨rfl,o3,G3⟩
   refine⟨rfl,(o2.more (by simp)).trans (o3.more (by simp)),⟨⟨_,wrap64 (t+1),(o3.block b s2 (by simpa using Ne.symm h.ne)).trans e2,?_,.inl ⟨rfl,rfl⟩⟩,h.bM,h.gM,h.ne,h.n1,h.n8⟩⟩
   show GR w3 g 0 (if s.lat=0 then 0 else 1) 0 s.lat _
   rw[if_neg hl]
   exact G3
def sq (n len:Nat):Int:=if len=n then 0 else 45
theorem rD (b n:Nat) (a:Option Addr) (len cap:Nat) (w:World) (c0:w.cell? ⟨b,0,none⟩=some (.int .i64 (n:Nat))) (hn:¬ len=n) :
  Calls prog 154 #[ac b 0,.slice a len cap] w fun e w'=>e=.returned (.int .i64 45)∧w'=w:=by
 have hI:¬ (len:Int)=(n:Int):=by omega
 go_enter func154,ntmps154
 go_wp2_with fail
 go_ret
 exact⟨rfl,rfl⟩
theorem rY (b n:Nat) (r q:Bool) (a:Option Addr) (cap:Nat) (w:World) (c0:w.cell? ⟨b,0,none⟩=some (.int .i64 (n:Nat))) (c1:w.cell? ⟨b,1,none⟩=some (.bool r))
  (hl:Calls prog 78 #[ac b 0] w fun e w'=>e=.returned (.bool q)∧w'=w) (hx:r=false∨q=true) :
  Calls prog 154 #[ac b 0,.slice a n cap] w fun e w'=>e=.returned (.int .i64 0)∧w'=w:=by
 cases r
 ·go_enter func154,ntmps154
  go_wp2_with fail
  go_ret
  exact⟨rfl,rfl⟩
 ·have e:q=true:=by rcases hx with h | h <;> simp_all
  subst e
  go_enter func154,ntmps154
  go_wp2_with (go_at_call 78;refine hl.mono ?_;rintro e w' ⟨rfl,rfl⟩)
  go_ret
  exact⟨rfl,rfl⟩
theorem qJ (b n:Nat) (v:Value) (a:Option Addr) (cap:Nat) (bs:Nat→Nat) (w:World) (R:Row8 w a n cap bs) (h8:n≤8) (c0:w.cell? ⟨b,0,none⟩=some (.int .i64 (n:Nat))) (c1:w.cell? ⟨b,1,none⟩=some (.bool true)) (c5:w.cell? ⟨b,5,none⟩=some v) (z5:w.frozen? ⟨b,5,none⟩=false) (hlt:b<w.heap.size)
  (hl:Calls prog 78 #[ac b 0] w fun e w'=>e=.returned (.bool false)∧w'=w) :
  Calls prog 154 #[ac b 0,.slice a n cap] w fun e w'=>e=.returned (.int .i64 0)∧Hid (∃ u w2,w2.ownsRow w.heap.size 5 1 u n (CB bs n)∧Below w.heap.size w w2∧w'=w2.setCell ⟨b,5,none⟩ u):=by
 obtain⟨i0,hi,hz0,hz1,hz2⟩:=info_parts bY
 have O0:=World.ownsRow_nil w w.heap.size 5 1
 go_enter func154,ntmps154
 go_wp2_with (first | (go_at_call 78;refine hl.mono ?_;rintro e w' ⟨rfl,hw⟩;have hw:=hw.symm;subst hw) | (at_builtin;refine a9 rfl (.const (.slice none 0 0)) (.tmp 24) 22 rfl w.heap.size 5 i0 (.int .u8 0) underlying22 hi hz0 hz1 hz2 rfl _ 0 _ rfl O0 a n cap bs rfl R (by unfold maxLen;omega) (by omega) (Nat.le_refl _) ?_))
 intro v2 w2 hown2 hgrow2
 have hbel2:Below w.heap.size w w2:=(Below.refl _ _).grown hgrow2 (Nat.le_refl _) (fun j hj=>by cases hj)
 have d5:w2.cell? ⟨b,5,none⟩=some v:=(hbel2.cell hlt).trans c5
 have y5:w2.frozen? ⟨b,5,none⟩=false:=(hbel2.frozen hlt).trans z5
 obtain⟨a2,k2,rfl,_⟩:=aX hown2 R.byte
 have H:Hid (∃ w2' ,w2'.ownsRow w.heap.size 5 1 (.slice a2 n k2) n (CB bs n)∧Below w.heap.size w w2'∧w2=w2'):=⟨w2,hown2,hbel2,rfl⟩
 clear hown2 hbel2 hgrow2 O0 R c0 c1 c5 z5 hl
 go_wp2_with fail
 go_ret
 obtain⟨_,h1,h2,rfl⟩:=H.out
 exact⟨rfl,_,_,h1,h2,rfl⟩
theorem kP (b g:Nat) (M:List Nat) (n:Nat) (s:Vs) (a:Option Addr) (len cap:Nat) (bs:Nat→Nat) (w:World) (h:VR w b g M n s) (R:Row8 w a len cap bs) :
  Calls prog 154 #[ac b 0,.slice a len cap] w fun e w'=>e=.returned (.int .i64 (sq n len))∧Hid (∃ M',Off [b,g] w w'∧VR w' b g M' n (if len=n then bH s bs else s)∧∀ k,k ∈ M'→k ∈ M∨w.heap.size≤k∧k<w'.heap.size):=by
 obtain⟨v,t,c0,c1,c2,c3,c4,c5,fz,G,V,hb⟩:=h.cells
 have hl:=gf b g M n s w h
 unfold sq
 by_cases hn:len=n
 ·subst hn
  rw[if_pos rfl,if_pos rfl]
  unfold bH
  by_cases hs:s.run=true∧s.lat=0
  ·rw[if_pos hs]
   rw[show (s.lat != 0)=false by simpa using hs.2]at hl
   refine (qJ b len v a cap bs w R h.n8 c0 (hs.1 ▸ c1) c5 (fz 5) h.lt hl).mono ?_
   rintro e w3 ⟨rfl,H⟩
   obtain⟨u,w2,h1,h2,rfl⟩:=H.out
   have o2:Off [b] w w2:=Off.of_below h2
   have o3:=Off.setCell b 5 w2 u
   have hob:∀ k,u.ownBlock=some k→w.heap.size≤k∧k<w2.heap.size:=by
    intro k hk
    rcases h1.2 with hn | ⟨g',cap',cur',rfl,hg',hh,_⟩
    ·rw[hn.1]at hk;cases hk
    ·cases hk;exact⟨hg',(Array.getElem?_eq_some_iff.1 hh).1⟩
   have hbk:∀ k,u.ownBlock=some k→k ∉ [b]:=fun k hk hm=>by have:=hob k hk;have:=h.lt;simp at hm;omega
   cases hu:u.ownBlock with
   | none=>
    refine⟨rfl,M,(o2.more (by simp)).trans (o3.more (by simp)),h.upd _ (o2.trans o3) rfl fun v' e' _=>⟨u,heap_setCell_same _ _ _ _ _ _ ((h2.block b h.lt).trans e'),.inr ⟨rfl,⟨aH (aO h1 (Nat.zero_le _)) o3 hbk,?_⟩,R.byte⟩⟩,fun k hk=>.inl hk⟩
    intro k hk
    rw[hu]at hk;cases hk
   | some k0=>
    have hk0:=hob k0 hu
    obtain⟨v1,t1,x1,x2,_⟩:=h.ex
    have hb1:=h.lt
    have hg1:=x2.lt
    refine⟨rfl,[k0],(o2.more (by simp)).trans (o3.more (by simp)),⟨⟨u,t1,heap_setCell_same _ _ _ _ _ _ ((h2.block b h.lt).trans x1),x2.off (o2.trans o3) (by simpa using h.ne),.inr ⟨rfl,⟨aH (aO h1 (Nat.zero_le _)) o3 hbk,?_⟩,R.byte⟩⟩,?_,?_,h.ne,h.n1,h.n8⟩,?_⟩
    ·intro k hk
     rw[hu]at hk;cases hk;simp
    ·simp;omega
    ·simp;omega
    ·intro k hk
     simp at hk;subst hk;exact .inr ⟨hk0.1,Nat.lt_of_lt_of_le hk0.2 o3.size⟩
  ·rw[if_neg hs]
   refine (rY b len s.run _ a cap w c0 c1 hl ?_).mono (fun _ _ ⟨he,hw⟩=>⟨he,by subst hw;exact⟨M,Off.refl _ _,h,fun _ hk=>.inl hk⟩⟩)
   cases hr:s.run
   ·exact .inl rfl
   ·exact .inr (by simpa using fun k=>hs ⟨hr,k⟩)
 ·rw[if_neg hn,if_neg hn]
  exact (rD b n a len cap w c0 hn).mono (fun _ _ ⟨he,hw⟩=>⟨he,by subst hw;exact⟨M,Off.refl _ _,h,fun _ hk=>.inl hk⟩⟩)
def pX (s:Vs):Int:=if aq s=true then 0 else 110
theorem nU (b g:Nat) (M:List Nat) (n:Nat) (s:Vs) (w:World) (h:VR w b g M n s) :
  Calls prog 241 #[ac b 0] w fun e w'=>e=.returned (.int .i64 (pX s))∧Hid (Off [b,g] w w'∧VR w' b g M n (dY s)):=by
 obtain⟨v,t,c0,c1,c2,c3,c4,c5,fz,G,V,hb⟩:=h.cells
 have hq:=fT b g M n s w h
 unfold pX dY
 by_cases hr:aq s=true
 ·rw[if_pos hr,if_pos hr]
  rw[hr]at hq
  have H:Hid (_):=h
  have HG:Hid (_):=G
  have HV:Hid (_):=V
  have HB:Hid (_):=hb
  have hlt:=h.lt
  have hne:=h.ne
  clear h G V hb
  go_enter func241,ntmps241
  go_wp2_with (go_at_call 59;refine hq.mono ?_;rintro e w' ⟨rfl,hw⟩;have hw:=hw.symm;subst hw)
  refine (tS g _ _ t w HG.out).mono ?_
  rintro e w2 ⟨rfl,o2,G2⟩
  have e2:w2.heap[b]?=_:=(o2.block b hlt (by simpa using Ne.symm hne)).trans HB.out
  have d4:w2.cell? ⟨b,4,none⟩=some (.bool s.fr):=ae w2 b 4 _ _ _ e2
  have y4:w2.frozen? ⟨b,4,none⟩=false:=frozen_of_row w2 b 4 _ _ e2
  have K:Hid (Off [g] w w2∧GR w2 g 0 0 0 0 0∧w2.heap[b]?=some (.cells (VC n s g v) 173 (0,0))):=⟨o2,G2,e2⟩
  clear o2 G2 e2 c0 c1 c2 c3 c4 c5 hq
  go_wp2_with fail
  go_ret
  obtain⟨o2,G2,e2⟩:=K.out
  have hh:=H.out
  have o3:=Off.setCell b 4 w2 (.bool false)
  refine⟨rfl,(o2.more (by simp)).trans (o3.more (by simp)),⟨⟨v,0,heap_setCell_same _ _ _ _ _ _ e2,?_,?_⟩,hh.bM,hh.gM,hh.ne,hh.n1,hh.n8⟩⟩
  ·exact G2.off o3 (by simpa using hne)
  ·exact VV.off (s:={ s with lat:=0,fr:=false }) (VV.off (s:={ s with lat:=0,fr:=false }) HV.out o2 (by simpa using hh.gM)) o3 (by simpa using hh.bM)
 ·rw[if_neg hr,if_neg hr]
  rw[show aq s=false by simpa using hr]at hq
  have H:Hid (_):=h
  clear h G V hb
  go_enter func241,ntmps241
  go_wp2_with (go_at_call 59;refine hq.mono ?_;rintro e w' ⟨rfl,rfl⟩)
  go_ret
  exact⟨rfl,Off.refl _ _,H.out⟩
theorem pK (n:Nat) (w:World) (h1:1≤n) (h8:n≤8) :
  Calls prog 81 #[.int .i64 (n:Nat)] w fun e w'=>∃ b g,e=.returned (.tuple #[ac b 0,.int .i64 0])∧Hid (w.heap.size≤b∧w.heap.size≤g∧b<w'.heap.size∧g<w'.heap.size∧Off [] w w'∧VR w' b g [] n mM):=by
 go_enter func81,ntmps81
 go_wp2_with fail
 refine (tc w).mono ?_
 rintro e w2 ⟨rfl,o2,G2⟩
 have K:Hid (_):=And.intro o2 G2
 clear o2 G2
 go_wp2_with fail
 go_ret2
 obtain⟨o2,G2⟩:=K.out
 have hg:=G2.lt
 have oa:=Off.alloc [] w2 (.cells (VC n mM w.heap.size (.slice none 0 0)) 173)
 refine⟨w2.heap.size,w.heap.size,rfl,o2.size,Nat.le_refl _,by rw[World.size_alloc];omega,by rw[World.size_alloc];omega,o2.trans (Off.alloc _ _ _),⟨⟨_,0,aC w2 _,G2.off (Off.alloc [] _ _) (by simp),.inl ⟨rfl,rfl⟩⟩,by simp,by simp,by omega,h1,h8⟩⟩
end Go.Proofs.YtfgnmadnmjdbiaaGreat
namespace Go.Proofs.YtfgnmadnmjdbiaaGreat
open Tryz
open Go.RowKit
theorem wo (a:Addr) (d:Int) (w:World) (h0:w.cell? a=some (.int .u32 d)) :
  Calls prog 167 #[.pointer (some a)] w fun e w'=>e=.returned (.bool (d != 0))∧w'=w:=by
 have hl:=run_call_load (P:=prog) func199 (by kernel_rfl) (by kernel_rfl) (by kernel_rfl) .u32 (by kernel_rfl) h0
 go_enter func167,ntmps167
 go_wp2
 go_ret
 exact⟨rfl,rfl⟩
def xW (b:Bool):Int:=if b then 1 else 0
theorem tV (a:Addr) (x:Value) (b:Bool) (w:World) (hc:w.cell? a=some x) (hz:w.frozen? a=false) :
  Calls prog 126 #[.pointer (some a),.bool b] w fun e w'=>e=.returned (.tuple #[])∧w'=w.drew.setCell a (.int .u32 (xW b)):=by
 have hc':w.drew.cell? a=some x:=by go_simp
 have hz':w.drew.frozen? a=false:=by go_simp
 have hst:=fun y:Int=>run_call_store (P:=prog) func157 (by kernel_rfl) (by kernel_rfl) (by kernel_rfl) (by kernel_rfl) (k:=.u32) (y:=y) hc' hz'
 cases b
 ·have hst0:=hst 0
  clear hst
  go_enter func126,ntmps126
  go_wp2
  go_region_calls
  all_goals (go_end0;exact⟨rfl,rfl⟩)
 ·have hst1:=hst 1
  clear hst
  go_enter func126,ntmps126
  go_wp2
  go_region_calls
  all_goals (go_end0;exact⟨rfl,rfl⟩)
structure Ms where
 bs:Nat→Nat
 off:Bool
 ar:Bool
 l:Int
 t:Int
structure Held (w:World) (b g n:Nat) (bs:Nat→Nat) (v:Value):Prop where
 own:w.ownsRow 0 5 1 v n (CB bs n)
 at_:(v=.slice none 0 0∧n=0∧g=b)∨(g≠b∧∃ cap,v=.slice (af g 0) n cap)
section
variable {w w':World} {b g n:Nat} {bs:Nat→Nat} {v:Value}
theorem Held.off {l:List Nat} (h:Held w b g n bs v) (q:Off l w w') (hg:g ∉ l):Held w' b g n bs v:=by
 refine⟨⟨h.own.1,?_⟩,h.at_⟩
 rcases h.own.2 with hn | ⟨g',cap,cur,hv,hg0,hgg,rest⟩
 ·exact .inl hn
 ·rcases h.at_ with ⟨hv',_⟩ | ⟨_,cap',hv'⟩
  ·rw[hv]at hv';simp at hv'
  ·rw[hv]at hv'
   simp only[Value.slice.injEq,Option.some.injEq,Addr.mk.injEq,and_true,true_and]at hv'
   obtain⟨rfl,rfl⟩:=hv'
   exact .inr ⟨_,_,cur,hv,hg0,by rw[q.block _ (Array.getElem?_eq_some_iff.1 hgg).1 hg];exact hgg,rest⟩
theorem Held.lt (h:Held w b g n bs v) (hb:b<w.heap.size):g<w.heap.size:=by
 rcases h.at_ with ⟨_,_,rfl⟩ | ⟨_,cap,rfl⟩
 ·exact hb
 ·exact (h.own.lt g rfl).2
theorem Held.row (h:Held w b g n bs v) (hb:∀ i,i<n→bs i<256):∃ a cap,v=.slice a n cap∧Row8 w a n cap bs:=aX h.own hb
theorem Held.plain (h:Held w b g n bs v) (hn:0<n):g≠b∧∃ cap,v=.slice (af g 0) n cap:=by
 rcases h.at_ with ⟨_,rfl,_⟩ | h
 ·omega
 ·exact h
theorem Held.here (h:Held w b g n bs v) (q:Off [b] w w'):Held w' b g n bs v:=by
 rcases h.at_ with ⟨rfl,rfl,rfl⟩ | hg
 ·exact⟨World.ownsRow_nil _ _ _ _,.inl ⟨rfl,rfl,rfl⟩⟩
 ·exact h.off q (by simpa using hg.1)
theorem Held.set (h:Held w b g n bs v) (j x:Nat) (hj:j<n):Held (w.setCell ⟨g,j,none⟩ (.int .u8 (x:Nat))) b g n (fun i=>if i=j then x else bs i) v:=by
 obtain⟨hg,cap,rfl⟩:=h.plain (by omega)
 refine⟨?_,.inr ⟨hg,cap,rfl⟩⟩
 have:=(h.own.stored j (.int .u8 (x:Nat))).1
 rwa [eV]at this
end
def MC (v:Value) (s:Ms):Array Value:=#[v,.int .u32 (xW s.off),.bool s.ar,.int .i64 s.l,.int .i64 s.t]
structure MR (w:World) (b g n:Nat) (s:Ms):Prop where
 ex:∃ v,w.heap[b]?=some (.cells (MC v s) 160 (0,0))∧Held w b g n s.bs v
 byte:∀ i,i<n→s.bs i<256
 l0:0≤s.l
 l1:s.l≤9223372036854775807
 t0:0≤s.t
 nn:n≤4096
section
variable {w w':World} {b g n:Nat} {s:Ms}
theorem MR.lt (h:MR w b g n s):b<w.heap.size:=by
 obtain⟨v,hv,_⟩:=h.ex
 exact (Array.getElem?_eq_some_iff.1 hv).1
theorem MR.lg (h:MR w b g n s):g<w.heap.size:=by
 obtain⟨v,hv,hh⟩:=h.ex
 exact hh.lt h.lt
theorem MR.off {l:List Nat} (h:MR w b g n s) (q:Off l w w') (hb:b ∉ l) (hg:g ∉ l):MR w' b g n s:=by
 obtain⟨v,hv,hh⟩:=h.ex
 exact⟨⟨v,(q.block b h.lt hb).trans hv,hh.off q hg⟩,h.byte,h.l0,h.l1,h.t0,h.nn⟩
theorem MR.cells (h:MR w b g n s):∃ a cap,w.cell? ⟨b,0,none⟩=some (.slice a n cap)∧Row8 w a n cap s.bs∧(0<n→g≠b∧a=af g 0)∧w.cell? ⟨b,1,none⟩=some (.int .u32 (xW s.off)) ∧
  w.cell? ⟨b,2,none⟩=some (.bool s.ar)∧w.cell? ⟨b,3,none⟩=some (.int .i64 s.l)∧w.cell? ⟨b,4,none⟩=some (.int .i64 s.t)∧∀ j,w.frozen? ⟨b,j,none⟩=false:=by
 obtain⟨v,hv,hh⟩:=h.ex
 obtain⟨a,cap,rfl,hr⟩:=hh.row h.byte
 refine⟨a,cap,ae w b 0 _ _ _ hv,hr,fun hn=>?_,ae w b 1 _ _ _ hv,ae w b 2 _ _ _ hv,ae w b 3 _ _ _ hv,ae w b 4 _ _ _ hv,fun j=>frozen_of_row w b j _ _ hv⟩
 obtain⟨hg,cap',he⟩:=hh.plain hn
 simp only[Value.slice.injEq]at he
 exact⟨hg,he.1⟩
theorem MR.held (h:MR w b g n s) (j:Nat) (hj:j<n):w.cell? ⟨g,j,none⟩=some (.int .u8 (s.bs j:Nat))∧w.frozen? ⟨g,j,none⟩=false:=by
 obtain⟨v,hv,hh⟩:=h.ex
 obtain⟨hg,cap,rfl⟩:=hh.plain (by omega)
 exact⟨by rw[hh.own.cellAt j (by omega),aQ _ _ _ hj],hh.own.frozenAt j⟩
theorem MR.upd (h:MR w b g n s) (s':Ms) (q:Off [b] w w') (hc:∀ v,w.heap[b]?=some (.cells (MC v s) 160 (0,0))→w'.heap[b]?=some (.cells (MC v s') 160 (0,0)))
  (hbs:s'.bs=s.bs) (l0:0≤s'.l) (l1:s'.l≤9223372036854775807) (t0:0≤s'.t):MR w' b g n s':=by
 obtain⟨v,hv,hh⟩:=h.ex
 exact⟨⟨v,hc v hv,hbs ▸ hh.here q⟩,hbs ▸ h.byte,l0,l1,t0,h.nn⟩
theorem MR.put (h:MR w b g n s) (j x:Nat) (hj:j<n) (hx:x<256):MR (w.setCell ⟨g,j,none⟩ (.int .u8 (x:Nat))) b g n { s with bs:=fun i=>if i=j then x else s.bs i }:=by
 obtain⟨v,hv,hh⟩:=h.ex
 have hg:=(hh.plain (by omega)).1
 refine⟨⟨v,(heap_setCell_other w _ b _ (Ne.symm hg)).trans hv,hh.set j x hj⟩,fun i hi=>?_,h.l0,h.l1,h.t0,h.nn⟩
 by_cases e:i=j
 ·simp[e,hx]
 ·simp[e,h.byte i hi]
theorem MR.drew (h:MR w b g n s):MR w.drew b g n s:=h.off (Off.drew [] _) (by simp) (by simp)
theorem MR.drewN (h:MR w b g n s) (k:Nat):MR (w.drewN k) b g n s:=h.off (Off.drewN [] _ k) (by simp) (by simp)
end
def j3 (s:Ms) (n:Nat) (p:Int):Int:=if s.off then 70 else if p<0∨(n:Int)≤p then 2 else 0
theorem kV (b g n:Nat) (s:Ms) (p:Int) (w:World) (h:MR w b g n s) :
  Calls prog 129 #[ac b 0,.int .i64 p] w fun e w'=>e=.returned (.int .i64 (j3 s n p))∧w'=w:=by
 obtain⟨a,cap,c0,_,_,c1,_⟩:=h.cells
 have hl:=wo ⟨b,1,none⟩ _ w c1
 unfold j3
 cases ho:s.off
 ·rw[ho]at hl
  have e1:(xW false != 0)=false:=rfl
  rw[e1]at hl
  by_cases hp:p<0
  ·rw[if_neg (by simp),if_pos (.inl hp)]
   go_enter func129,ntmps129
   go_wp2_with (go_at_call 167;refine hl.mono ?_;rintro e w' ⟨rfl,rfl⟩)
   go_ret
   exact⟨rfl,rfl⟩
  ·by_cases hn:(n:Int)≤p
   ·rw[if_neg (by simp),if_pos (.inr hn)]
    go_enter func129,ntmps129
    go_wp2_with (go_at_call 167;refine hl.mono ?_;rintro e w' ⟨rfl,rfl⟩)
    go_ret
    exact⟨rfl,rfl⟩
   ·rw[if_neg (by simp),if_neg (by omega)]
    go_enter func129,ntmps129
    go_wp2_with (go_at_call 167;refine hl.mono ?_;rintro e w' ⟨rfl,rfl⟩)
    go_ret
    exact⟨rfl,rfl⟩
 ·rw[ho]at hl
  have e1:(xW true != 0)=true:=rfl
  rw[e1]at hl
  rw[if_pos rfl]
  go_enter func129,ntmps129
  go_wp2_with (go_at_call 167;refine hl.mono ?_;rintro e w' ⟨rfl,rfl⟩)
  go_ret
  exact⟨rfl,rfl⟩
end Go.Proofs.YtfgnmadnmjdbiaaGreat
namespace Go.Proofs.YtfgnmadnmjdbiaaGreat
open Tryz
open Go.RowKit
def lay (bs:Nat→Nat) (j x:Nat):Nat→Nat:=fun i=>if i=j then x else bs i
def nC (s:Ms) (n:Nat) (p:Int):Int:=if j3 s n p≠0 then j3 s n p else if s.ar=true∧s.l=0 then 70 else 0
def mq (s:Ms) (n:Nat) (p:Int) (c:Nat):Ms:=
 if j3 s n p≠0 then s else if s.ar=true∧s.l=0 then { s with off:=true } else { s with bs:=lay s.bs p.toNat c,l:=if s.ar then s.l-1 else s.l,t:=s.t+1 }
theorem nR {s:Ms} {n:Nat} {p:Int} (h:j3 s n p=0):s.off=false∧0≤p∧p < (n:Int):=by
 unfold j3 at h
 cases ho:s.off
 ·rw[ho,if_neg (by simp)]at h
  by_cases e:p<0∨(n:Int)≤p
  ·rw[if_pos e]at h;omega
  ·exact⟨rfl,by omega,by omega⟩
 ·rw[ho,if_pos rfl]at h;omega
theorem yR {s:Ms} {n:Nat} {p:Int} {c:Nat} (hr:j3 s n p≠0):nC s n p=j3 s n p∧mq s n p c=s:=⟨if_pos hr,if_pos hr⟩
theorem oL {s:Ms} {n:Nat} {p:Int} {c:Nat} (hr:j3 s n p=0) (ha:s.ar=true) (hl:s.l=0):nC s n p=70∧mq s n p c={ s with off:=true }:=
 ⟨(if_neg (fun k=>k hr)).trans (if_pos ⟨ha,hl⟩),(if_neg (fun k=>k hr)).trans (if_pos ⟨ha,hl⟩)⟩
theorem uw {s:Ms} {n:Nat} {p:Int} {c:Nat} (hr:j3 s n p=0) (ha:s.ar=false):nC s n p=0∧mq s n p c={ s with bs:=lay s.bs p.toNat c,t:=s.t+1 }:=by
 refine⟨(if_neg (fun k=>k hr)).trans (if_neg (by simp[ha])),(if_neg (fun k=>k hr)).trans ((if_neg (by simp[ha])).trans ?_)⟩
 simp[ha]
theorem vF {s:Ms} {n:Nat} {p:Int} {c:Nat} (hr:j3 s n p=0) (ha:s.ar=true) (hl:s.l≠0):nC s n p=0∧mq s n p c={ s with bs:=lay s.bs p.toNat c,l:=s.l-1,t:=s.t+1 }:=by
 refine⟨(if_neg (fun k=>k hr)).trans (if_neg (by simp[hl])),(if_neg (fun k=>k hr)).trans ((if_neg (by simp[hl])).trans ?_)⟩
 simp[ha]
theorem Off.pair {b g:Nat} {w w':World} (h:Off [b] w w'):Off [b,g] w w':=h.more (by simp)
theorem Off.pair' {b g:Nat} {w w':World} (h:Off [g] w w'):Off [b,g] w w':=h.more (by simp)
theorem gE (b g n:Nat) (s:Ms) (p:Int) (c:Nat) (w:World) (h:MR w b g n s) (hc:c<256) (ht:s.t<9223372036854775807) :
  Calls prog 130 #[ac b 0,.int .i64 p,.int .u8 (c:Nat)] w fun e w'=>e=.returned (.int .i64 (nC s n p))∧(Off [b,g] w w'∧MR w' b g n (mq s n p c)):=by
 have hR:=kV b g n s p w h
 by_cases hr:j3 s n p=0
 ·rw[hr]at hR
  obtain⟨hoff,hp0,hpn⟩:=nR hr
  obtain⟨j,rfl⟩:=Int.eq_ofNat_of_zero_le hp0
  have hj:j<n:=by omega
  obtain⟨a,cap,c0,_,hpl,c1,c2,c3,c4,fz⟩:=h.cells
  obtain⟨hgb,rfl⟩:=hpl (by omega)
  obtain⟨cg,fg⟩:=h.held j hj
  have hl0:=h.l0
  have hl1:=h.l1
  have ht0:=h.t0
  have H:Hid (_):=h
  have fz1:=fz 1
  have fz3:=fz 3
  have fz4:=fz 4
  clear h fz hpl
  cases ha:s.ar
  ·rw[ha]at c2
   obtain⟨hE,hS⟩:=uw (c:=c) hr ha
   rw[hE,hS]
   clear hE hS hr
   go_enter func130,ntmps130
   go_wp2_with (go_at_call 129;refine hR.mono ?_;rintro e w' ⟨rfl,rfl⟩)
   go_ret
   refine⟨rfl,(Off.setCell g j _ _).pair'.trans (Off.setCell b 4 _ _).pair,?_⟩
   exact (H.out.put j c hj hc).upd { s with bs:=lay s.bs j c,t:=s.t+1 } (Off.setCell b 4 _ _) (fun v hv=>heap_setCell_same _ _ _ _ _ _ hv) rfl hl0 hl1 (by show 0≤s.t+1;omega)
  ·rw[ha]at c2
   by_cases hz:s.l=0
   ·obtain⟨hE,hS⟩:=oL (c:=c) hr ha hz
    rw[hE,hS]
    rw[hz]at c3
    have hst:=tV ⟨b,1,none⟩ _ true _ c1 fz1
    clear hE hS hr
    go_enter func130,ntmps130
    go_wp2_with (first | (go_at_call 129;refine hR.mono ?_;rintro e w' ⟨rfl,hw⟩;rw[hw];clear hw) | (go_at_call 126;refine hst.mono ?_;rintro e w' ⟨rfl,rfl⟩))
    go_ret
    refine⟨rfl,((Off.drew [b] _).trans (Off.setCell b 1 _ _)).pair,?_⟩
    exact H.out.drew.upd { s with off:=true } (Off.setCell b 1 _ _) (fun v hv=>heap_setCell_same _ _ _ _ _ _ hv) rfl hl0 hl1 ht0
   ·obtain⟨hE,hS⟩:=vF (c:=c) hr ha hz
    rw[hE,hS]
    clear hE hS hr
    go_enter func130,ntmps130
    go_wp2_with (go_at_call 129;refine hR.mono ?_;rintro e w' ⟨rfl,rfl⟩)
    go_ret
    refine⟨rfl,((Off.setCell b 3 _ _).pair.trans (Off.setCell g j _ _).pair').trans (Off.setCell b 4 _ _).pair,?_⟩
    have h1:=H.out.upd { s with l:=s.l-1 } (Off.setCell b 3 _ (.int .i64 (s.l-1))) (fun v hv=>heap_setCell_same _ _ _ _ _ _ hv) rfl (by show 0≤s.l-1;omega) (by show s.l-1≤_;omega) ht0
    exact (h1.put j c hj hc).upd { s with bs:=lay s.bs j c,l:=s.l-1,t:=s.t+1 } (Off.setCell b 4 _ _) (fun v hv=>heap_setCell_same _ _ _ _ _ _ hv) rfl (by show 0≤s.l-1;omega) (by show s.l-1≤_;omega) (by show 0≤s.t+1;omega)
 ·obtain⟨hE,hS⟩:=yR (c:=c) hr
  rw[hE,hS]
  have H:Hid (_):=h
  clear h hE hS
  generalize j3 s n p=r at *
  go_enter func130,ntmps130
  go_wp2_with (go_at_call 129;refine hR.mono ?_;rintro e w' ⟨rfl,rfl⟩)
  go_ret
  exact⟨rfl,Off.refl _ _,H.out⟩
def xz (s:Ms) (n:Nat) (p:Int):Nat:=if j3 s n p≠0 then 0 else s.bs p.toNat
theorem jq (b g n:Nat) (s:Ms) (p:Int) (w:World) (h:MR w b g n s) :
  Calls prog 103 #[ac b 0,.int .i64 p] w fun e w'=>e=.returned (.tuple #[.int .u8 (xz s n p:Nat),.int .i64 (j3 s n p)])∧w'=w:=by
 have hR:=kV b g n s p w h
 unfold xz
 by_cases hr:j3 s n p=0
 ·rw[hr]at hR ⊢
  rw[if_neg (by simp)]
  obtain⟨hoff,hp0,hpn⟩:=nR hr
  obtain⟨j,rfl⟩:=Int.eq_ofNat_of_zero_le hp0
  have hj:j<n:=by omega
  obtain⟨a,cap,c0,_,hpl,_⟩:=h.cells
  obtain⟨hgb,rfl⟩:=hpl (by omega)
  obtain⟨cg,fg⟩:=h.held j hj
  clear h hpl hr
  rw[Int.toNat_natCast]
  generalize s.bs j=x at *
  go_enter func103,ntmps103
  go_wp2_with (go_at_call 129;refine hR.mono ?_;rintro e w' ⟨rfl,rfl⟩)
  go_ret2
  exact⟨rfl,rfl⟩
 ·rw[if_pos hr]
  clear h
  generalize j3 s n p=r at *
  go_enter func103,ntmps103
  go_wp2_with (go_at_call 129;refine hR.mono ?_;rintro e w' ⟨rfl,rfl⟩)
  go_ret2
  exact⟨rfl,rfl⟩
def xQ (p:Int):Int:=if p<0 then 2 else 0
def jZ (s:Ms) (p:Int):Ms:=if p<0 then s else { s with ar:=true,l:=p }
theorem pV (b g n:Nat) (s:Ms) (p:Int) (w:World) (h:MR w b g n s) (hp:p≤9223372036854775807) :
  Calls prog 55 #[ac b 0,.int .i64 p] w fun e w'=>e=.returned (.int .i64 (xQ p))∧(Off [b] w w'∧MR w' b g n (jZ s p)):=by
 obtain⟨a,cap,c0,_,_,c1,c2,c3,c4,fz⟩:=h.cells
 have fz2:=fz 2
 have fz3:=fz 3
 unfold xQ jZ
 by_cases hn:p<0
 ·rw[if_pos hn,if_pos hn]
  go_enter func55,ntmps55
  go_wp2_with fail
  go_ret
  exact⟨rfl,Off.refl _ _,h⟩
 ·rw[if_neg hn,if_neg hn]
  have H:Hid (_):=h
  clear h fz c0 c1 c4
  go_enter func55,ntmps55
  go_wp2_with fail
  go_ret
  exact⟨rfl,(Off.setCell b 2 _ _).trans (Off.setCell b 3 _ _),H.out.upd _ ((Off.setCell b 2 _ _).trans (Off.setCell b 3 _ _)) (fun v hv=>heap_setCell_same _ _ _ _ _ _ (heap_setCell_same _ _ _ _ _ _ hv)) rfl (by show 0≤p;omega) hp H.out.t0⟩
theorem sZ (b g n:Nat) (s:Ms) (w:World) (h:MR w b g n s) :
  Calls prog 97 #[ac b 0] w fun e w'=>e=.returned (.tuple #[])∧(Off [b] w w'∧MR w' b g n { s with off:=false,ar:=false }):=by
 obtain⟨a,cap,c0,_,_,c1,c2,c3,c4,fz⟩:=h.cells
 have fz2:=fz 2
 have h1:MR (w.setCell ⟨b,2,none⟩ (.bool false)) b g n { s with ar:=false }:=h.upd _ (Off.setCell b 2 _ _) (fun v hv=>heap_setCell_same _ _ _ _ _ _ hv) rfl h.l0 h.l1 h.t0
 obtain⟨_,_,_,_,_,d1,_,_,_,ez⟩:=h1.cells
 have hst:=tV ⟨b,1,none⟩ _ false _ d1 (ez 1)
 have H:Hid (_):=h1
 clear h h1 fz c0 c1 c3 c4 d1 ez
 go_enter func97,ntmps97
 go_wp2_with (go_at_call 126;refine hst.mono ?_;rintro e w' ⟨rfl,rfl⟩)
 go_end0
 exact⟨rfl,((Off.setCell b 2 _ _).trans (Off.drew _ _)).trans (Off.setCell b 1 _ _),H.out.drew.upd _ (Off.setCell b 1 _ _) (fun v hv=>heap_setCell_same _ _ _ _ _ _ hv) rfl H.out.l0 H.out.l1 H.out.t0⟩
theorem wY (b:Bool):(xW b != 0)=b:=by cases b <;> rfl
theorem lz (b g n:Nat) (s:Ms) (w:World) (h:MR w b g n s) :
  Calls prog 218 #[ac b 0] w fun e w'=>e=.returned (.bool s.off)∧w'=w:=by
 obtain⟨_,_,_,_,_,c1,_⟩:=h.cells
 have hl:=wo ⟨b,1,none⟩ _ w c1
 rw[wY]at hl
 clear h c1
 generalize s.off=x at *
 go_enter func218,ntmps218
 go_wp2_with (go_at_call 167;refine hl.mono ?_;rintro e w' ⟨rfl,rfl⟩)
 go_ret
 exact⟨rfl,rfl⟩
theorem jK (b g n:Nat) (s:Ms) (w:World) (h:MR w b g n s) :
  Calls prog 82 #[ac b 0] w fun e w'=>e=.returned (.int .i64 (n:Nat))∧w'=w:=by
 obtain⟨_,_,c0,_⟩:=h.cells
 clear h
 go_enter func82,ntmps82
 go_wp2_with fail
 go_ret
 exact⟨rfl,rfl⟩
def fo (n:Nat):List (Nat × Nat)→Ms→Int
 | [],_=>0
 | (p,c) :: r,s=>if nC s n (p:Nat)=0 then fo n r (mq s n (p:Nat) c) else nC s n (p:Nat)
def fJ (n:Nat):List (Nat × Nat)→Ms→Ms
 | [],s=>s
 | (p,c) :: r,s=>if nC s n (p:Nat)=0 then fJ n r (mq s n (p:Nat) c) else mq s n (p:Nat) c
def co:List (Nat × Nat)→(Nat→Nat)→Nat→Nat
 | [],z=>z
 | (p,c) :: r,z=>co r (lay z p c)
theorem oT {s:Ms} {n p:Nat} (hp:p<n) (ho:s.off=false):j3 s n (p:Nat)=0:=by
 unfold j3
 rw[ho,if_neg (by simp),if_neg (by omega)]
theorem yk {s:Ms} {n p:Nat} (c:Nat) (hp:p<n) (ho:s.off=false) :
  (nC s n (p:Nat)=0∧mq s n (p:Nat) c=⟨lay s.bs p c,false,s.ar,if s.ar then s.l-1 else s.l,s.t+1⟩∧¬ (s.ar=true∧s.l=0)) ∨
  (nC s n (p:Nat)=70∧mq s n (p:Nat) c={ s with off:=true }∧s.ar=true∧s.l=0):=by
 have hr:=oT hp ho
 by_cases h:s.ar=true∧s.l=0
 ·exact .inr ⟨(oL (c:=c) hr h.1 h.2).1,(oL (c:=c) hr h.1 h.2).2,h.1,h.2⟩
 ·refine .inl ⟨(if_neg (fun k=>k hr)).trans (if_neg h),(if_neg (fun k=>k hr)).trans ((if_neg h).trans ?_),h⟩
  rw[Int.toNat_natCast,ho]
theorem ft (n:Nat):∀ (l:List (Nat × Nat)) (s:Ms),(∀ x,x ∈ l→x.1<n)→s.off=false→0≤s.l →
  (fo n l s=0∧fJ n l s=⟨co l s.bs,false,s.ar,if s.ar then s.l-l.length else s.l,s.t+l.length⟩∧(s.ar=true→(l.length:Int)≤s.l)) ∨
  (fo n l s=70∧fJ n l s=⟨co (l.take s.l.toNat) s.bs,true,true,0,s.t+s.l⟩∧s.ar=true∧s.l < (l.length:Int))
 | [],⟨_,off,ar,_,_⟩,_,ho,hl=>.inl ⟨rfl,by simp only at ho;subst ho;cases ar <;> simp[fJ,co],fun _=>hl⟩
 | (p,c) :: r,s,hin,ho,hl=>by
  have hp:p<n:=hin (p,c) (by simp)
  have hin':∀ x,x ∈ r→x.1<n:=fun x hx=>hin x (by simp[hx])
  rcases yk c hp ho with ⟨hE,hS,hna⟩ | ⟨hE,hS,ha,h0⟩
  ·have hl':0 ≤ (⟨lay s.bs p c,false,s.ar,if s.ar then s.l-1 else s.l,s.t+1⟩:Ms).l:=by
    cases ha:s.ar
    ·simpa using hl
    ·simp only[ha,true_and]at hna
     simp only[if_true]
     omega
   have ih:=ft n r ⟨lay s.bs p c,false,s.ar,if s.ar then s.l-1 else s.l,s.t+1⟩ hin' rfl hl'
   have e1:fo n ((p,c) :: r) s=fo n r ⟨lay s.bs p c,false,s.ar,if s.ar then s.l-1 else s.l,s.t+1⟩:=by
    rw[fo,if_pos hE,hS]
   have e2:fJ n ((p,c) :: r) s=fJ n r ⟨lay s.bs p c,false,s.ar,if s.ar then s.l-1 else s.l,s.t+1⟩:=by
    rw[fJ,if_pos hE,hS]
   rw[e1,e2]
   cases ha:s.ar
   ·simp only[ha,co,List.length_cons]at ih ⊢
    rcases ih with ⟨h1,h2,h3⟩ | ⟨h1,h2,h3,h4⟩
    ·refine .inl ⟨h1,?_,by simp⟩
     rw[h2]
     simp
     omega
    ·simp at h3
   ·simp only[ha,true_and]at hna
    simp only[ha,if_true,co,List.length_cons]at ih ⊢
    rcases ih with ⟨h1,h2,h3⟩ | ⟨h1,h2,h3,h4⟩
    ·refine .inl ⟨h1,?_,fun _=>by have:=h3 trivial;omega⟩
     rw[h2]
     simp
     omega
    ·refine .inr ⟨h1,?_,trivial,by omega⟩
     rw[h2]
     have e3:s.l.toNat=(s.l-1).toNat+1:=by omega
     rw[e3]
     simp[co]
     omega
  ·refine .inr ⟨?_,?_,ha,by rw[h0];simp⟩
   ·rw[fo,if_neg (by rw[hE];omega),hE]
   ·rw[fJ,if_neg (by rw[hE];omega),hS,h0,ha]
    simp[co]
def bt (v i:Nat):Nat:=v / 2 ^ (8 * (3-i)) % 256
def cN (k v:Nat):List (Nat × Nat):=[(5*k,0),(5*k+1,bt v 0),(5*k+2,bt v 1),(5*k+3,bt v 2),(5*k+4,bt v 3),(5*k,165)]
def wz (z:Nat→Nat) (k:Nat):Nat:=z (5*k+1)*16777216+z (5*k+2)*65536+z (5*k+3)*256+z (5*k+4)
def hw (z:Nat→Nat) (k:Nat):Nat:=if z (5*k)=165 then wz z k else 0
def vz (z:Nat→Nat):Nat:=max (hw z 0) (hw z 1)
def tg (z:Nat→Nat):Nat:=if z 0=165∧(z 5≠165∨wz z 1<wz z 0) then 1 else 0
def cU (z:Nat→Nat):List (Nat × Nat):=
 if z 0=165 then (if z 5=165 then [] else cN 1 (wz z 0)) else if z 5=165 then cN 0 (wz z 1) else
 if z 0≠0 then (if z 5≠0 then [(0,0),(5,0)] else [(0,0)]) else (if z 5≠0 then [(5,0)] else [])
def Bz (z:Nat→Nat):Prop:=∀ i,i<10→z i<256
theorem np {z:Nat→Nat} (h:Bz z) (k:Nat) (hk:k<2):wz z k<4294967296:=by
 unfold wz
 have h1:=h (5*k+1) (by omega)
 have h2:=h (5*k+2) (by omega)
 have h3:=h (5*k+3) (by omega)
 have h4:=h (5*k+4) (by omega)
 omega
theorem vY (v i:Nat):bt v i<256:=Nat.mod_lt _ (by omega)
theorem vh (v:Nat) (h:v<4294967296):bt v 0*16777216+bt v 1*65536+bt v 2*256+bt v 3=v:=by
 have e:bt v 0=v / 16777216 % 256∧bt v 1=v / 65536 % 256∧bt v 2=v / 256 % 256∧bt v 3=v / 1 % 256:=⟨rfl,rfl,rfl,rfl⟩
 omega
theorem eW (k v n:Nat) (hk:k<2) (hn:10≤n):∀ x,x ∈ cN k v→x.1<n∧x.2<256:=by
 intro x hx
 have:=vY v
 simp only[cN,List.mem_cons,List.not_mem_nil,or_false]at hx
 rcases hx with rfl | rfl | rfl | rfl | rfl | rfl <;> refine⟨by simp only;omega,?_⟩ <;> simp only <;> first | omega | exact this _
theorem nW (z:Nat→Nat) (k v:Nat):co (cN k v) z (5*k)=165:=by simp[cN,co,lay]
theorem sO (z:Nat→Nat) (k v:Nat) (h:v<4294967296):wz (co (cN k v) z) k=v:=by
 have e:=vh v h
 simp only[wz,cN,co,lay]
 simp
 omega
theorem em (z:Nat→Nat) (k v j:Nat) (i:Nat) (h:i<5*k∨5*k+4<i):co ((cN k v).take j) z i=z i:=by
 have:∀ j',j'≤6→co ((cN k v).take j') z i=z i:=by
  intro j' hj
  have:j'=0∨j'=1∨j'=2∨j'=3∨j'=4∨j'=5∨j'=6:=by omega
  have e0:i≠5*k:=by omega
  have e1:i≠5*k+1:=by omega
  have e2:i≠5*k+2:=by omega
  have e3:i≠5*k+3:=by omega
  have e4:i≠5*k+4:=by omega
  rcases this with rfl | rfl | rfl | rfl | rfl | rfl | rfl <;> simp[cN,co,lay,e0,e1,e2,e3,e4]
 by_cases hj:j≤6
 ·exact this j hj
 ·have e:(cN k v).take j=(cN k v).take 6:=by rw[List.take_of_length_le (by simp[cN];omega),List.take_of_length_le (by simp[cN])]
  rw[e]
  exact this 6 (by omega)
theorem vE (z:Nat→Nat) (k v j:Nat) (h0:0<j) (h:j<6):co ((cN k v).take j) z (5*k)=0:=by
 have:j=1∨j=2∨j=3∨j=4∨j=5:=by omega
 rcases this with rfl | rfl | rfl | rfl | rfl <;> simp[cN,co,lay]
theorem sI (z:Nat→Nat) (k v:Nat) (h:v<4294967296):hw (co (cN k v) z) k=v:=by
 unfold hw
 rw[nW,if_pos rfl,sO z k v h]
theorem jr (z:Nat→Nat) (k k' v j:Nat) (h:k≠k'):hw (co ((cN k v).take j) z) k'=hw z k':=by
 unfold hw wz
 rw[em z k v j _ (by omega),em z k v j _ (by omega),em z k v j _ (by omega),em z k v j _ (by omega),em z k v j _ (by omega)]
theorem sP (k v:Nat):(cN k v).take 6=cN k v:=rfl
theorem kQ (z:Nat→Nat) (k k' v:Nat) (h:k≠k'):hw (co (cN k v) z) k'=hw z k':=jr z k k' v 6 h
theorem sf (z:Nat→Nat) (k v j:Nat) (h:j<6):j=0∨hw (co ((cN k v).take j) z) k=0:=by
 by_cases h0:j=0
 ·exact .inl h0
 ·refine .inr ?_
  unfold hw
  rw[vE z k v j (by omega) h,if_neg (by omega)]
theorem jJ (z:Nat→Nat):tg z<2:=by
 unfold tg
 split <;> omega
theorem yF (z:Nat→Nat):hw z (tg z)≤hw z (1-tg z):=by
 unfold tg
 by_cases h:z 0=165∧(z 5≠165∨wz z 1<wz z 0)
 ·rw[if_pos h]
  unfold hw
  simp only[Nat.mul_one,Nat.mul_zero,Nat.sub_self,h.1,if_true]
  split <;> omega
 ·rw[if_neg h]
  unfold hw
  simp only[Nat.mul_one,Nat.mul_zero,Nat.sub_zero]
  by_cases h0:z 0=165
  ·have h5:z 5=165:=by omega
   rw[if_pos h0,if_pos h5]
   omega
  ·rw[if_neg h0]
   omega
theorem fP (z:Nat→Nat) (k:Nat) (hk:k<2):vz z=max (hw z k) (hw z (1-k)):=by
 have:k=0∨k=1:=by omega
 rcases this with rfl | rfl
 ·rfl
 ·unfold vz
  exact Nat.max_comm _ _
theorem uE (z:Nat→Nat) (v:Nat) (h:v<4294967296) (hv:vz z≤v):vz (co (cN (tg z) v) z)=v:=by
 have hk:=jJ z
 rw[fP _ _ hk,sI z _ v h,kQ z _ _ v (by omega)]
 rw[fP z _ hk]at hv
 omega
theorem wN (z:Nat→Nat) (v j:Nat) (h:j<6):vz (co ((cN (tg z) v).take j) z)=vz z:=by
 have hk:=jJ z
 have hl:=yF z
 rcases sf z (tg z) v j h with rfl | h0
 ·rfl
 ·rw[fP _ _ hk,h0,jr z _ _ v j (by omega),fP z _ hk]
  omega
theorem tH {z:Nat→Nat} {k:Nat} (h:z (5*k)≠165):hw z k=0:=if_neg h
theorem sY (z:Nat→Nat) (k j:Nat) (hz:Bz z) (hk:k<2) (h0:z (5*k)≠165) (h1:z (5 * (1-k))=165):vz (co ((cN k (wz z (1-k))).take j) z)=vz z:=by
 have e0:=tH h0
 have e1:hw z (1-k)=wz z (1-k):=if_pos h1
 have hl:=np hz (1-k) (by omega)
 by_cases h:j<6
 ·rcases sf z k (wz z (1-k)) j h with rfl | e
  ·rfl
  ·rw[fP _ _ hk,e,jr z _ _ _ j (by omega),fP z _ hk,e0]
 ·have e:(cN k (wz z (1-k))).take j=cN k (wz z (1-k)):=List.take_of_length_le (by simp[cN];omega)
  rw[e,fP _ _ hk,sI z k _ hl,kQ z _ _ _ (by omega),fP z _ hk,e0,e1]
  omega
theorem pJ {z:Nat→Nat} (h0:z 0≠165) (h1:z 5≠165):vz z=0:=by
 unfold vz
 rw[tH h0,tH h1]
 rfl
theorem lC (z:Nat→Nat) (j:Nat) (hz:Bz z):vz (co ((cU z).take j) z)=vz z:=by
 unfold cU
 by_cases h0:z 0=165
 ·rw[if_pos h0]
  by_cases h1:z 5=165
  ·rw[if_pos h1]
   simp[co]
  ·rw[if_neg h1]
   exact sY z 1 j hz (by omega) h1 h0
 ·rw[if_neg h0]
  by_cases h1:z 5=165
  ·rw[if_pos h1]
   exact sY z 0 j hz (by omega) h0 h1
  ·rw[if_neg h1,pJ h0 h1]
   have H:∀ l:List (Nat × Nat),(∀ x,x ∈ l→x.2=0)→∀ z:Nat→Nat,z 0≠165→z 5≠165→vz (co l z)=0:=by
    intro l
    induction l with
    | nil=>intro _ z h0 h1;exact pJ h0 h1
    | cons x r ih=>
     intro hx z h0 h1
     obtain⟨p,c⟩:=x
     have hc:c=0:=hx (p,c) (by simp)
     subst hc
     refine ih (fun y hy=>hx y (by simp[hy])) _ ?_ ?_
     ·unfold lay;split <;> omega
     ·unfold lay;split <;> omega
   refine H _ (fun x hx=>?_) z h0 h1
   have:=List.mem_of_mem_take hx
   split at this <;> split at this <;> simp at this <;> first | omega | (rcases this with rfl | rfl <;> rfl) | (subst this;rfl)
theorem gZ (z:Nat→Nat) (n:Nat) (hn:10≤n):∀ x,x ∈ cU z→x.1<n∧x.2<256:=by
 intro x hx
 unfold cU at hx
 split at hx
 ·split at hx
  ·simp at hx
  ·exact eW 1 _ n (by omega) hn x hx
 ·split at hx
  ·exact eW 0 _ n (by omega) hn x hx
  ·split at hx <;> split at hx <;> simp at hx <;> first | (rcases hx with rfl | rfl <;> exact⟨by simp only;omega,by simp only;omega⟩) | (subst hx;exact⟨by simp only;omega,by simp only;omega⟩)
theorem mL (z:Nat→Nat):(cU z).length≤6:=by
 unfold cU
 split
 ·split <;> simp[cN]
 ·split
  ·simp[cN]
  ·split <;> split <;> simp
def CV (m mx:Nat) (mk wd:Nat→Nat) (cut:Bool):Array Value:=
 #[ac m 0,.int .u32 (mx:Nat),.int .u8 (mk 0:Nat),.int .u8 (mk 1:Nat),.int .u32 (wd 0:Nat),.int .u32 (wd 1:Nat),.bool cut]
structure CX (w:World) (c m mx:Nat) (mk wd:Nat→Nat) (cut:Bool):Prop where
 at_:w.heap[c]?=some (.cells (CV m mx mk wd cut) 193 (0,0))
def upd (f:Nat→Nat) (k x:Nat):Nat→Nat:=fun i=>if i=k then x else f i
section
variable {w w':World} {c m mx:Nat} {mk wd:Nat→Nat} {cut:Bool}
theorem CX.lt (h:CX w c m mx mk wd cut):c<w.heap.size:=(Array.getElem?_eq_some_iff.1 h.at_).1
theorem CX.off {l:List Nat} (h:CX w c m mx mk wd cut) (q:Off l w w') (hc:c ∉ l):CX w' c m mx mk wd cut:=⟨(q.block c h.lt hc).trans h.at_⟩
theorem CX.fz (h:CX w c m mx mk wd cut) (j:Nat):w.frozen? ⟨c,j,none⟩=false:=frozen_of_row w c j _ _ h.at_
theorem CX.mem (h:CX w c m mx mk wd cut):w.cell? ⟨c,0,none⟩=some (ac m 0):=ae w c 0 _ _ _ h.at_
theorem CX.max (h:CX w c m mx mk wd cut):w.cell? ⟨c,1,none⟩=some (.int .u32 (mx:Nat)):=ae w c 1 _ _ _ h.at_
theorem CX.hmk (h:CX w c m mx mk wd cut) (k:Nat) (hk:k<2):w.cell? ⟨c,2+k,none⟩=some (.int .u8 (mk k:Nat)):=by
 have:k=0∨k=1:=by omega
 rcases this with rfl | rfl
 ·exact ae w c 2 _ _ _ h.at_
 ·exact ae w c 3 _ _ _ h.at_
theorem CX.hwd (h:CX w c m mx mk wd cut) (k:Nat) (hk:k<2):w.cell? ⟨c,4+k,none⟩=some (.int .u32 (wd k:Nat)):=by
 have:k=0∨k=1:=by omega
 rcases this with rfl | rfl
 ·exact ae w c 4 _ _ _ h.at_
 ·exact ae w c 5 _ _ _ h.at_
theorem CX.hcut (h:CX w c m mx mk wd cut):w.cell? ⟨c,6,none⟩=some (.bool cut):=ae w c 6 _ _ _ h.at_
theorem CX.setMk (h:CX w c m mx mk wd cut) (k x:Nat) (hk:k<2):CX (w.setCell ⟨c,2+k,none⟩ (.int .u8 (x:Nat))) c m mx (upd mk k x) wd cut:=by
 have:k=0∨k=1:=by omega
 rcases this with rfl | rfl
 ·exact⟨heap_setCell_same _ _ _ _ _ _ h.at_⟩
 ·exact⟨heap_setCell_same _ _ _ _ _ _ h.at_⟩
theorem CX.setWd (h:CX w c m mx mk wd cut) (k x:Nat) (hk:k<2):CX (w.setCell ⟨c,4+k,none⟩ (.int .u32 (x:Nat))) c m mx mk (upd wd k x) cut:=by
 have:k=0∨k=1:=by omega
 rcases this with rfl | rfl
 ·exact⟨heap_setCell_same _ _ _ _ _ _ h.at_⟩
 ·exact⟨heap_setCell_same _ _ _ _ _ _ h.at_⟩
theorem CX.setCut (h:CX w c m mx mk wd cut) (b:Bool):CX (w.setCell ⟨c,6,none⟩ (.bool b)) c m mx mk wd b:=⟨heap_setCell_same _ _ _ _ _ _ h.at_⟩
theorem CX.as {mk' wd':Nat→Nat} (h:CX w c m mx mk wd cut) (a0:mk 0=mk' 0) (a1:mk 1=mk' 1) (b0:wd 0=wd' 0) (b1:wd 1=wd' 1):CX w c m mx mk' wd' cut:=by
 refine⟨?_⟩
 rw[h.at_]
 unfold CV
 rw[a0,a1,b0,b1]
theorem CX.drewN (h:CX w c m mx mk wd cut) (k:Nat):CX (w.drewN k) c m mx mk wd cut:=h.off (Off.drewN [] _ k) (by simp)
end
theorem k9 (c m mx:Nat) (mk wd:Nat→Nat) (cut:Bool) (k:Nat) (w:World) (h:CX w c m mx mk wd cut) (hk:k<2) :
  Calls prog 105 #[ac c 0,.int .i64 (k:Nat)] w fun e w'=>e=.returned (.bool (decide ((mk k:Int)=165)))∧w'=w:=by
 have hm:=h.hmk k hk
 clear h
 go_enter func105,ntmps105
 go_wp2_with fail
 go_ret
 exact⟨rfl,rfl⟩
theorem td (k v:Nat):cN k v=(5*k,0) :: (cN k v).drop 1:=rfl
theorem uk (k v i:Nat) (hi:i<4):(cN k v).drop (i+1)=(5*k+1+i,bt v i) :: (cN k v).drop (i+2):=by
 have:i=0∨i=1∨i=2∨i=3:=by omega
 rcases this with rfl | rfl | rfl | rfl <;> rfl
theorem sH (k v:Nat):(cN k v).drop 5=[(5*k,165)]:=rfl
theorem qr {n p c:Nat} {r:List (Nat × Nat)} {s:Ms} {E:Int} {S:Ms} (hE:fo n ((p,c) :: r) s=E) (hS:fJ n ((p,c) :: r) s=S) (h:nC s n (p:Nat)=0) :
  fo n r (mq s n (p:Nat) c)=E∧fJ n r (mq s n (p:Nat) c)=S:=by
 rw[← hE,← hS,fo,fJ,if_pos h,if_pos h]
 exact⟨rfl,rfl⟩
theorem jd {n p c:Nat} {r:List (Nat × Nat)} {s:Ms} {E:Int} {S:Ms} (hE:fo n ((p,c) :: r) s=E) (hS:fJ n ((p,c) :: r) s=S) (h:¬ nC s n (p:Nat)=0) :
  nC s n (p:Nat)=E∧mq s n (p:Nat) c=S:=by
 rw[← hE,← hS,fo,fJ,if_neg h,if_neg h]
 exact⟨rfl,rfl⟩
theorem tR (s:Ms) (n:Nat) (p:Int) (c:Nat):(mq s n p c).t≤s.t+1:=by
 unfold mq
 split
 ·omega
 ·split
  ·show s.t≤s.t+1;omega
  ·exact Int.le_refl _
theorem Off.three {m g c:Nat} {w w':World} (h:Off [m,g] w w'):Off [m,g,c] w w':=h.more (by simp)
theorem Off.three' {m g c:Nat} {w w':World} (h:Off [c] w w'):Off [m,g,c] w w':=h.more (by simp)
theorem gH (c m g n mx:Nat) (mk wd:Nat→Nat) (cut:Bool) (s:Ms) (k v:Nat) (w:World) (hM:MR w m g n s) (hC:CX w c m mx mk wd cut) (hcm:c≠m) (hcg:c≠g) (hk:k<2) (_hv:v<4294967296) (ht:s.t<9223372036854775000) :
  Calls prog 106 #[ac c 0,.int .i64 (k:Nat),.int .u32 (v:Nat)] w fun e w'=>e=.returned (.int .i64 (fo n (cN k v) s))∧(Off [m,g,c] w w'∧MR w' m g n (fJ n (cN k v) s) ∧
   CX w' c m mx (if fo n (cN k v) s=0 then upd mk k 165 else mk) (if fo n (cN k v) s=0 then upd wd k v else wd) cut):=by
 obtain⟨E,hE⟩:∃ E,fo n (cN k v) s=E:=⟨_,rfl⟩
 obtain⟨S,hS⟩:∃ S,fJ n (cN k v) s=S:=⟨_,rfl⟩
 rw[hE,hS]
 rw[td]at hE hS
 obtain⟨mk',hmk⟩:∃ f,(if E=0 then upd mk k 165 else mk)=f:=⟨_,rfl⟩
 obtain⟨wd',hwd⟩:∃ f,(if E=0 then upd wd k v else wd)=f:=⟨_,rfl⟩
 rw[hmk,hwd]
 have HK:Hid (_):=And.intro hmk hwd
 clear hmk hwd
 have c0:=hC.mem
 have HC:Hid (_):=hC
 clear hC
 go_enter func106,ntmps106
 go_wp2_with fail
 refine (gE m g n s _ 0 w hM (by omega) (by omega)).mono ?_
 rintro e w1 ⟨rfl,o1,m1⟩
 rw[show (k:Int)*5=((5*k:Nat):Int) by omega]at m1 ⊢
 have t1:=tR s n ((5*k:Nat):Int) 0
 by_cases he:nC s n ((5*k:Nat):Int)=0
 ·obtain⟨hE1,hS1⟩:=qr hE hS he
  rw[he]
  have C1:=HC.out.off o1 (by simp;omega)
  have O1:Off [m,g,c] w w1:=o1.three
  clear hE hS he o1 HC c0 hM
  generalize mq s n ((5*k:Nat):Int) 0=s1 at *
  go_wp2_with fail
  go_loopw [6,9,10,11,24] (fun _ _ _ _ ci wr=>∃ (i:Nat) (si:Ms),i≤4∧ci=.int .i64 ((i:Nat):Int)∧fo n ((cN k v).drop (i+1)) si=E∧fJ n ((cN k v).drop (i+1)) si=S∧si.t≤s.t+1+i∧Off [m,g,c] w wr∧MR wr m g n si∧CX wr c m mx mk wd cut) (fun _ _ _ _ ci _=>4 - (intOf ci).toNat)
  case atStart=>exact⟨0,s1,by omega,rfl,hE1,hS1,by omega,O1,m1,C1⟩
  case round=>
   clear hE1 hS1 O1 m1 C1 t1
   obtain⟨i,si,hi,rfl,hE,hS,t1,O1,m1,C1⟩:=hrel
   have c0:=C1.mem
   by_cases hlt:i<4
   ·rw[uk k v i hlt]at hE hS
    have HC:Hid (_):=C1
    clear C1
    go_wp2_with fail
    rw[show (v:Int) / 2 ^ (8 * (3-i)) % 256=((bt v i:Nat):Int) by simp[bt]]
    refine (gE m g n si _ (bt v i) wr m1 (vY v i) (by omega)).mono ?_
    rintro e w2 ⟨rfl,o2,m2⟩
    rw[show 5 * (k:Int)+1 + (i:Int)=((5*k+1+i:Nat):Int) by omega]at m2 ⊢
    have t2:=tR si n ((5*k+1+i:Nat):Int) (bt v i)
    have C2:=HC.out.off o2 (by simp;omega)
    have O2:Off [m,g,c] w w2:=O1.trans o2.three
    generalize bt v i=x at *
    by_cases he:nC si n ((5*k+1+i:Nat):Int)=0
    ·obtain⟨hE1,hS1⟩:=qr hE hS he
     rw[he]
     have H:Hid (_):=And.intro (And.intro hE1 hS1) (And.intro O2 (And.intro m2 C2))
     clear hE hS he o2 HC c0 O1 m1 m2 C2 O2 hE1 hS1
     generalize mq si n ((5*k+1+i:Nat):Int) x=s2 at *
     go_wp2_with fail
     go_roundw
     case rel=>exact⟨i+1,s2,by omega,by go_num,H.out.1.1,H.out.1.2,by omega,H.out.2⟩
     case measure=>simp[intOf] <;> omega
    ·obtain⟨hE1,hS1⟩:=jd hE hS he
     rw[hS1]at m2
     rw[hE1]at he ⊢
     have HK1:=HK.out
     rw[if_neg he,if_neg he]at HK1
     rw[HK1.1,HK1.2]at C2
     have H:Hid (_):=And.intro O2 (And.intro m2 C2)
     clear hE hS o2 HC c0 O1 m1 m2 C2 O2 hE1 hS1 t1 t2 HK HK1
     go_wp2_with fail
     go_ret
     exact⟨rfl,H.out⟩
   ·obtain rfl:i=4:=by omega
    rw[sH]at hE hS
    have HC:Hid (_):=C1
    clear C1 hlt
    go_wp2_with fail
    refine (gE m g n si _ 165 wr m1 (by omega) (by omega)).mono ?_
    rintro e w2 ⟨rfl,o2,m2⟩
    rw[show 5 * (k:Int)=((5*k:Nat):Int) by omega]at m2 ⊢
    have C2:=HC.out.off o2 (by simp;omega)
    have O2:Off [m,g,c] w w2:=O1.trans o2.three
    by_cases he:nC si n ((5*k:Nat):Int)=0
    ·obtain⟨hE1,hS1⟩:=qr hE hS he
     rw[fJ]at hS1
     rw[fo]at hE1
     rw[hS1]at m2
     rw[he]
     subst hE1
     have HK1:=HK.out
     rw[if_pos rfl,if_pos rfl]at HK1
     have zk:=C2.hmk k hk
     have fk:=C2.fz (2+k)
     have C3:=C2.setMk k 165 hk
     have wk:=C3.hwd k hk
     have gk:=C3.fz (4+k)
     have wj:=C2.hwd k hk
     have gj:=C2.fz (4+k)
     have zj:=(C2.setWd k v hk).hmk k hk
     have fj:=(C2.setWd k v hk).fz (2+k)
     have nk:¬ 2+k=4+k:=by omega
     have nj:¬ 4+k=2+k:=by omega
     have H:Hid (_):=And.intro HK1 (And.intro O2 (And.intro m2 C2))
     clear hE hS o2 HC c0 O1 m1 m2 C2 O2 hS1 t1 he C3 HK HK1
     go_wp2_with fail
     go_region
     go_wp2_with fail
     go_ret
     obtain⟨hK,oo,mm,cc⟩:=H.out
     have q:Off [c] w2 ((w2.setCell ⟨c,2+k,none⟩ (.int .u8 165)).setCell ⟨c,4+k,none⟩ (.int .u32 (v:Nat))).drew:=((Off.setCell c (2+k) _ _).trans (Off.setCell c (4+k) _ _)).trans (Off.drew _ _)
     have cc':=((cc.setMk k 165 hk).setWd k v hk).off (Off.drew [] _) (by simp)
     rw[hK.1,hK.2]at cc'
     exact⟨rfl,oo.trans q.three',mm.off q (by simp;omega) (by simp;omega),cc'⟩
    ·obtain⟨hE1,hS1⟩:=jd hE hS he
     rw[hS1]at m2
     rw[hE1]at he ⊢
     have HK1:=HK.out
     rw[if_neg he,if_neg he]at HK1
     rw[HK1.1,HK1.2]at C2
     have H:Hid (_):=And.intro O2 (And.intro m2 C2)
     clear hE hS o2 HC c0 O1 m1 m2 C2 O2 hE1 hS1 t1 HK HK1
     go_wp2_with fail
     go_ret
     exact⟨rfl,H.out⟩
 ·obtain⟨hE1,hS1⟩:=jd hE hS he
  rw[hS1]at m1
  rw[hE1]at he ⊢
  have C1:=HC.out.off o1 (by simp;omega)
  have HK1:=HK.out
  rw[if_neg he,if_neg he]at HK1
  rw[HK1.1,HK1.2]at C1
  have H:Hid (_):=And.intro (Off.three (c:=c) o1) (And.intro m1 C1)
  clear hE hS o1 HC c0 m1 C1 hE1 hS1 t1 HK HK1
  go_wp2_with fail
  go_ret
  exact⟨rfl,H.out⟩
end Go.Proofs.YtfgnmadnmjdbiaaGreat
namespace Go.Proofs.YtfgnmadnmjdbiaaGreat
open Tryz
open Go.RowKit
def pw (z:Nat→Nat) (k:Nat):Nat→Nat
 | 0=>0
 | i+1=>pw z k i*256+z (5*k+1+i)
theorem vK (z:Nat→Nat) (k:Nat):pw z k 4=wz z k:=by
 show (((0*256+z (5*k+1))*256+z (5*k+2))*256+z (5*k+3))*256+z (5*k+4)=wz z k
 unfold wz
 omega
theorem zf {z:Nat→Nat} (hz:Bz z) (k:Nat) (hk:k<2) (i:Nat) (hi:i≤4):pw z k i<256 ^ i:=by
 induction i with
 | zero=>simp[pw]
 | succ i ih=>
  have:=ih (by omega)
  have:=hz (5*k+1+i) (by omega)
  rw[pw,Nat.pow_succ]
  omega
theorem lG (c m g n mx:Nat) (mk wd:Nat→Nat) (cut:Bool) (s:Ms) (k:Nat) (w:World) (hM:MR w m g n s) (hC:CX w c m mx mk wd cut) (hk:k<2) (hn:10≤n) (ho:s.off=false) :
  Calls prog 104 #[ac c 0,.int .i64 (k:Nat)] w fun e w'=>e=.returned (.tuple #[.int .u32 (wz s.bs k:Nat),.int .i64 0])∧w'=w:=by
 have c0:=hC.mem
 have hz:Bz s.bs:=fun i hi=>hM.byte i (by omega)
 have hf:=fun i (hi:i≤4)=>zf hz k hk i hi
 rw[← vK]
 obtain⟨X,hX⟩:∃ X,pw s.bs k 4=X:=⟨_,rfl⟩
 rw[hX]
 have HX:Hid (_):=hX
 clear hX
 have HZ:Hid (Bz s.bs):=hz
 clear hC hz
 go_enter func104,ntmps104
 go_wp2_with fail
 go_loopw [4,5,6,7,8,9,10] (fun _ _ x _ _ _ ci wr=>∃ i:Nat,i≤4∧ci=.int .i64 ((i:Nat):Int)∧x=.int .u32 (pw s.bs k i:Nat)∧wr=w) (fun _ _ _ _ _ _ ci _=>4 - (intOf ci).toNat)
 case atStart=>exact⟨0,by omega,rfl,rfl,rfl⟩
 case round=>
  obtain⟨i,hi,rfl,rfl,rfl⟩:=hrel
  by_cases hlt:i<4
  ·have hr:=oT (s:=s) (n:=n) (p:=5*k+1+i) (by omega) ho
   have hb:=HZ.out (5*k+1+i) (by omega)
   have hl:=hf i (by omega)
   have e1:pw s.bs k (i+1)=pw s.bs k i*256+s.bs (5*k+1+i):=rfl
   have e2:xz s n ((5*k+1+i:Nat):Int)=s.bs (5*k+1+i):=by
    unfold xz
    rw[hr,if_neg (by simp),Int.toNat_natCast]
   generalize s.bs (5*k+1+i)=b at *
   obtain⟨y,hy⟩:∃ y,pw s.bs k (i+1)=y:=⟨_,rfl⟩
   rw[hy]at e1
   have HY:Hid (_):=hy
   clear hy
   generalize pw s.bs k i=x at *
   have HH:Hid (_):=And.intro hr e2
   have hor:bits .or .u32 ((x:Int)*256 % 4294967296) (b:Int)=((y:Nat):Int):=by
    have h3:x<256 ^ 3:=Nat.lt_of_lt_of_le hl (Nat.pow_le_pow_right (by omega) (by omega))
    rw[show (x:Int)*256 % 4294967296=((x*256:Nat):Int) by omega,u32_or_nat _ _ (by omega) (by omega),nat_join 8 (x*256) b (by omega) (by omega),e1]
   clear hf HZ hr e2 HX
   go_wp2_with fail
   refine (jq m g n s _ wr hM).mono ?_
   rintro e w' ⟨rfl,hw⟩
   rw[hw,show (k:Int)*5+1 + (i:Int)=((5*k+1+i:Nat):Int) by omega,HH.out.1,HH.out.2]
   clear hw
   go_wp2_with fail
   exact⟨⟨i+1,by omega,by go_num,by rw[HY.out,e1];simp,trivial⟩,by simp[intOf] <;> omega⟩
  ·obtain rfl:i=4:=by omega
   rw[HX.out]
   clear hf HZ HX
   go_wp2_with fail
   go_ret2
   exact⟨rfl,rfl⟩
theorem qC (c m g n mx:Nat) (mk wd:Nat→Nat) (cut:Bool) (s:Ms) (w:World) (hM:MR w m g n s) (hC:CX w c m mx mk wd cut) (hcm:c≠m) (hcg:c≠g) (hn:10≤n) (ho:s.off=false) :
  Calls prog 83 #[ac c 0] w fun e w'=>e=.returned (.int .i64 0)∧(Off [c] w w'∧MR w' m g n s∧CX w' c m mx (fun k=>s.bs (5*k)) (wz s.bs) cut):=by
 go_enter func83,ntmps83
 go_wp2_with fail
 go_loopw [2,3,4,5,6,7] (fun _ _ _ _ _ ci wr=>∃ (i:Nat) (mk wd:Nat→Nat),i≤2∧ci=.int .i64 ((i:Nat):Int)∧(∀ j,j<i→mk j=s.bs (5*j)∧wd j=wz s.bs j)∧Off [c] w wr∧MR wr m g n s∧CX wr c m mx mk wd cut) (fun _ _ _ _ _ ci _=>2 - (intOf ci).toNat)
 case atStart=>exact⟨0,mk,wd,by omega,rfl,fun j hj=>by omega,Off.refl _ _,hM,hC⟩
 case round=>
  clear hM hC mk wd
  obtain⟨i,mk,wd,hi,rfl,hj,O,hM,hC⟩:=hrel
  by_cases hlt:i<2
  ·have hr:=oT (s:=s) (n:=n) (p:=5*i) (by omega) ho
   have e2:xz s n ((5*i:Nat):Int)=s.bs (5*i):=by
    unfold xz
    rw[hr,if_neg (by simp),Int.toNat_natCast]
   have c0:=hC.mem
   have q:=lG c m g n mx mk wd cut s i wr hM hC hlt hn ho
   have z1:=hC.hmk i hlt
   have f1:=hC.fz (2+i)
   have C3:=hC.setMk i (s.bs (5*i)) hlt
   have wk:=C3.hwd i hlt
   have gk:=C3.fz (4+i)
   have wj:=hC.hwd i hlt
   have gj:=hC.fz (4+i)
   have nk:¬ 2+i=4+i:=by omega
   have nj:¬ 4+i=2+i:=by omega
   have H:Hid (_):=And.intro hj (And.intro O (And.intro hM hC))
   obtain⟨a,ha⟩:∃ a,s.bs (5*i)=a:=⟨_,rfl⟩
   obtain⟨x,hx⟩:∃ x,wz s.bs i=x:=⟨_,rfl⟩
   rw[ha]at e2 C3 wk gk
   rw[hx]at q
   have HA:Hid (_):=And.intro (And.intro ha hx) (And.intro hr e2)
   clear O hC C3 ha hx hr e2 hj
   go_wp2_with fail
   refine (jq m g n s _ wr hM).mono ?_
   rintro e w' ⟨rfl,hw⟩
   rw[hw,show (i:Int)*5=((5*i:Nat):Int) by omega,HA.out.2.1,HA.out.2.2]
   clear hw hM
   go_wp2_with (go_at_call 104;refine q.mono ?_;rintro e w' ⟨rfl,hw⟩;rw[hw];clear hw)
   go_region
   go_wp2_with fail
   obtain⟨hj,O,hM,hC⟩:=H.out
   obtain⟨⟨ha,hx⟩,_⟩:=HA.out
   have q1:Off [c] wr ((wr.setCell ⟨c,2+i,none⟩ (.int .u8 (a:Nat))).setCell ⟨c,4+i,none⟩ (.int .u32 (x:Nat))).drew:=((Off.setCell c (2+i) _ _).trans (Off.setCell c (4+i) _ _)).trans (Off.drew _ _)
   refine⟨⟨i+1,upd mk i a,upd wd i x,by omega,by go_num,fun j hjj=>?_,O.trans q1,hM.off q1 (by simp;omega) (by simp;omega),((hC.setMk i a hlt).setWd i x hlt).off (Off.drew [] _) (by simp)⟩,by simp[intOf] <;> omega⟩
   unfold upd
   by_cases e:j=i
   ·rw[if_pos e,if_pos e,e]
    exact⟨ha.symm,hx.symm⟩
   ·rw[if_neg e,if_neg e]
    exact hj j (by omega)
  ·obtain rfl:i=2:=by omega
   have H:Hid (_):=And.intro O (And.intro hM (hC.as (mk':=fun k=>s.bs (5*k)) (wd':=wz s.bs) (hj 0 (by omega)).1 (hj 1 (by omega)).1 (hj 0 (by omega)).2 (hj 1 (by omega)).2))
   clear O hM hC hj
   go_wp2_with fail
   go_ret
   exact⟨rfl,H.out⟩
theorem rl (c m g n mx:Nat) (mk wd:Nat→Nat) (cut:Bool) (s:Ms) (w:World) (hM:MR w m g n s) (hC:CX w c m mx mk wd cut) (ho:s.off=true) :
  Calls prog 83 #[ac c 0] w fun e w'=>e=.returned (.int .i64 70)∧w'=w:=by
 have c0:=hC.mem
 have q:=jq m g n s 0 w hM
 rw[show j3 s n 0=70 by unfold j3;rw[ho,if_pos rfl]]at q
 clear hM hC
 generalize xz s n 0=x at *
 go_enter func83,ntmps83
 go_wp2_with fail
 go_loopw [2,3,4,5,6,7] (fun _ _ _ _ _ ci wr=>∃ i:Nat,i=0∧ci=.int .i64 ((i:Nat):Int)∧wr=w) (fun _ _ _ _ _ ci _=>2 - (intOf ci).toNat)
 case atStart=>exact⟨0,rfl,rfl,rfl⟩
 case round=>
  obtain⟨i,rfl,rfl,rfl⟩:=hrel
  go_wp2_with (go_at_call 103;refine q.mono ?_;rintro e w' ⟨rfl,hw⟩;rw[hw];clear hw)
  go_ret
  exact⟨rfl,rfl⟩
def il (z:Nat→Nat) (i:Nat):List (Nat × Nat):=
 if i=0 then (if z 0≠0 then (if z 5≠0 then [(0,0),(5,0)] else [(0,0)]) else (if z 5≠0 then [(5,0)] else [])) else if i=1 then (if z 5≠0 then [(5,0)] else []) else []
theorem wS (z:Nat→Nat) (i:Nat) (hi:i<2) (h:z (5*i)≠0):il z i=(5*i,0) :: il z (i+1):=by
 have:i=0∨i=1:=by omega
 rcases this with rfl | rfl
 ·have h':z 0≠0:=h
  unfold il
  simp only[if_true,if_pos h']
  by_cases h5:z 5=0 <;> simp[h5]
 ·have h':z 5≠0:=h
  unfold il
  simp[h']
theorem wP (z:Nat→Nat) (i:Nat) (hi:i<2) (h:z (5*i)=0):il z i=il z (i+1):=by
 have:i=0∨i=1:=by omega
 rcases this with rfl | rfl
 ·have h':z 0=0:=h
  unfold il
  simp[h']
 ·have h':z 5=0:=h
  unfold il
  simp[h']
theorem ra (c m g n mx:Nat) (wd:Nat→Nat) (cut:Bool) (s:Ms) (w:World) (hM:MR w m g n s) (hC:CX w c m mx (fun k=>s.bs (5*k)) wd cut) (hcm:c≠m) (hcg:c≠g) (ht:s.t<9223372036854775000) :
  Calls prog 107 #[ac c 0] w fun e w'=>e=.returned (.int .i64 (fo n (il s.bs 0) s))∧(Off [m,g,c] w w'∧MR w' m g n (fJ n (il s.bs 0) s) ∧
   (fo n (il s.bs 0) s=0→CX w' c m mx (fun _=>0) wd cut)):=by
 obtain⟨E,hE⟩:∃ E,fo n (il s.bs 0) s=E:=⟨_,rfl⟩
 obtain⟨S,hS⟩:∃ S,fJ n (il s.bs 0) s=S:=⟨_,rfl⟩
 rw[hE,hS]
 go_enter func107,ntmps107
 go_wp2_with fail
 go_loopw [2,3,4,5] (fun _ _ _ ci wr=>∃ (i:Nat) (mk:Nat→Nat) (si:Ms),i≤2∧ci=.int .i64 ((i:Nat):Int)∧(∀ j,j<i→mk j=0)∧(∀ j,i≤j→mk j=s.bs (5*j))∧fo n (il s.bs i) si=E∧fJ n (il s.bs i) si=S∧si.t≤s.t+i∧Off [m,g,c] w wr∧MR wr m g n si∧CX wr c m mx mk wd cut) (fun _ _ _ ci _=>2 - (intOf ci).toNat)
 case atStart=>exact⟨0,_,s,by omega,rfl,fun j hj=>by omega,fun j hj=>rfl,hE,hS,by omega,Off.refl _ _,hM,hC⟩
 case round=>
  clear hM hC hE hS
  obtain⟨i,mk,si,hi,rfl,hj,hj2,hE,hS,t1,O,hM,hC⟩:=hrel
  by_cases hlt:i<2
  ·have c0:=hC.mem
   have z1:=hC.hmk i hlt
   have f1:=hC.fz (2+i)
   obtain⟨a,ha⟩:∃ a,mk i=a:=⟨_,rfl⟩
   have ha2:s.bs (5*i)=a:=(hj2 i (Nat.le_refl _)).symm.trans ha
   rw[ha]at z1
   by_cases hz:a=0
   ·subst hz
    rw[wP _ _ hlt ha2]at hE hS
    have hj':∀ j,j<i+1→mk j=0:=fun j hjj=>by
     by_cases e:j=i
     ·rw[e,ha]
     ·exact hj j (by omega)
    have H:Hid (_):=And.intro hj' (And.intro (And.intro hE hS) (And.intro O (And.intro hM hC)))
    have HJ:Hid (_):=hj2
    clear hj' hj hE hS O hM hC ha ha2 hj2
    go_wp2_with fail
    go_roundw
    case rel=>exact⟨i+1,mk,si,by omega,by go_num,H.out.1,fun j h=>HJ.out j (by omega),H.out.2.1.1,H.out.2.1.2,by omega,H.out.2.2⟩
    case measure=>simp[intOf] <;> omega
   ·have hz':¬ (a:Int)=0:=by omega
    rw[wS _ _ hlt (by omega)]at hE hS
    have HJ:Hid (_):=And.intro hj hj2
    have HC:Hid (_):=hC
    clear hC hj hj2 ha2
    go_wp2_with fail
    refine (gE m g n si _ 0 wr hM (by omega) (by omega)).mono ?_
    rintro e w2 ⟨rfl,o2,m2⟩
    rw[show (i:Int)*5=((5*i:Nat):Int) by omega]at m2 ⊢
    have t2:=tR si n ((5*i:Nat):Int) 0
    have C2:=HC.out.off o2 (by simp;omega)
    have O2:Off [m,g,c] w w2:=O.trans o2.three
    by_cases he:nC si n ((5*i:Nat):Int)=0
    ·obtain⟨hE1,hS1⟩:=qr hE hS he
     rw[he]
     have z2:=C2.hmk i hlt
     have f2:=C2.fz (2+i)
     have H:Hid (_):=And.intro (And.intro hE1 hS1) (And.intro O2 (And.intro m2 C2))
     clear hE hS he o2 HC c0 O hM m2 C2 O2 hE1 hS1 z1 f1 ha
     generalize mq si n ((5*i:Nat):Int) 0=s2 at *
     go_wp2_with fail
     obtain⟨⟨hE1,hS1⟩,O2,m2,C2⟩:=H.out
     have q1:Off [c] w2 (w2.setCell ⟨c,2+i,none⟩ (.int .u8 0)):=Off.setCell c (2+i) _ _
     go_roundw
     case rel=>
      refine⟨i+1,upd mk i 0,s2,by omega,by go_num,fun j h=>?_,fun j h=>?_,hE1,hS1,by omega,O2.trans q1.three',m2.off q1 (by simp;omega) (by simp;omega),C2.setMk i 0 hlt⟩
      ·unfold upd
       by_cases e:j=i
       ·rw[if_pos e]
       ·rw[if_neg e];exact HJ.out.1 j (by omega)
      ·unfold upd
       rw[if_neg (by omega)]
       exact HJ.out.2 j (by omega)
     case measure=>simp[intOf] <;> omega
    ·obtain⟨hE1,hS1⟩:=jd hE hS he
     rw[hS1]at m2
     rw[hE1]at he ⊢
     have H:Hid (_):=And.intro O2 m2
     clear hE hS o2 HC c0 O hM m2 C2 O2 hE1 hS1 t1 t2 ha z1
     go_wp2_with fail
     go_ret
     exact⟨rfl,H.out.1,H.out.2,fun h=>absurd h he⟩
  ·obtain rfl:i=2:=by omega
   have e0:il s.bs 2=[]:=rfl
   rw[e0]at hE hS
   have hE':(0:Int)=E:=hE
   have hS':si=S:=hS
   subst hE' hS'
   have H:Hid (_):=And.intro O (And.intro hM (hC.as (mk':=fun _=>0) (wd':=wd) (hj 0 (by omega)) (hj 1 (by omega)) rfl rfl))
   clear O hM hC hj hj2 hE hS
   go_wp2_with fail
   go_ret
   exact⟨rfl,H.out⟩
theorem CX.sync {w:World} {c m mx k v:Nat} {z:Nat→Nat} {cut:Bool} (h:CX w c m mx (upd (fun k=>z (5*k)) k 165) (upd (wz z) k v) cut) (hv:v<4294967296) :
  CX w c m mx (fun j=>co (cN k v) z (5*j)) (wz (co (cN k v) z)) cut:=by
 have hm:∀ j,upd (fun k=>z (5*k)) k 165 j=co (cN k v) z (5*j):=fun j=>by
  unfold upd
  by_cases e:j=k
  ·rw[if_pos e,e,nW]
  ·rw[if_neg e]
   exact (em z k v 6 (5*j) (by omega)).symm
 have hw:∀ j,upd (wz z) k v j=wz (co (cN k v) z) j:=fun j=>by
  unfold upd
  by_cases e:j=k
  ·rw[if_pos e,e,sO z k v hv]
  ·rw[if_neg e]
   have q:=fun i (h:i<5*k∨5*k+4<i)=>(em z k v 6 i h).symm
   rw[sP]at q
   unfold wz
   rw[q (5*j+1) (by omega),q (5*j+2) (by omega),q (5*j+3) (by omega),q (5*j+4) (by omega)]
 exact h.as (hm 0) (hm 1) (hw 0) (hw 1)
theorem CX.swept {w:World} {c m mx:Nat} {z:Nat→Nat} {cut:Bool} (h:CX w c m mx (fun _=>0) (wz z) cut) :
  CX w c m mx (fun j=>co (il z 0) z (5*j)) (wz (co (il z 0) z)) cut:=by
 have hl:∀ i,i≠0→i≠5→co (il z 0) z i=z i:=fun i h0 h5=>by
  unfold il
  rw[if_pos rfl]
  split <;> split <;> simp[co,lay,h0,h5]
 have h0:co (il z 0) z 0=0:=by
  unfold il
  rw[if_pos rfl]
  split <;> split <;> simp[co,lay] <;> omega
 have h5:co (il z 0) z 5=0:=by
  unfold il
  rw[if_pos rfl]
  split <;> split <;> simp[co,lay] <;> omega
 have hw:∀ j,j<2→wz z j=wz (co (il z 0) z) j:=fun j hj=>by
  unfold wz
  rw[hl (5*j+1) (by omega) (by omega),hl (5*j+2) (by omega) (by omega),hl (5*j+3) (by omega) (by omega),hl (5*j+4) (by omega) (by omega)]
 exact h.as h0.symm h5.symm (hw 0 (by omega)) (hw 1 (by omega))
theorem mw {n:Nat} {l:List (Nat × Nat)} {s:Ms} (hin:∀ x,x ∈ l→x.1<n∧x.2<256) (ho:s.off=false) (hl:0≤s.l) (h:fo n l s=0):(fJ n l s).bs=co l s.bs:=by
 rcases ft n l s (fun x hx=>(hin x hx).1) ho hl with ⟨_,h2,_⟩ | ⟨h1,_⟩
 ·rw[h2]
 ·omega
theorem dE (c m mx:Nat) (mk wd:Nat→Nat) (cut b:Bool) (w:World) (h:CX w c m mx mk wd cut) (hb:decide (mk 0=165)=b) :
  Calls prog 105 #[ac c 0,.int .i64 0] w fun e w'=>e=.returned (.bool b)∧w'=w:=by
 refine (k9 c m mx mk wd cut 0 w h (by omega)).mono ?_
 rintro e w' ⟨rfl,rfl⟩
 refine⟨?_,rfl⟩
 rw[← hb]
 congr 2
 by_cases h:mk 0=165
 ·simp[h]
 ·have:¬ ((mk 0:Nat):Int)=165:=by omega
  simp[h,this]
theorem du (c m mx:Nat) (mk wd:Nat→Nat) (cut b:Bool) (w:World) (h:CX w c m mx mk wd cut) (hb:decide (mk 1=165)=b) :
  Calls prog 105 #[ac c 0,.int .i64 1] w fun e w'=>e=.returned (.bool b)∧w'=w:=by
 refine (k9 c m mx mk wd cut 1 w h (by omega)).mono ?_
 rintro e w' ⟨rfl,rfl⟩
 refine⟨?_,rfl⟩
 rw[← hb]
 congr 2
 by_cases h:mk 1=165
 ·simp[h]
 ·have:¬ ((mk 1:Nat):Int)=165:=by omega
  simp[h,this]
theorem sv (c m g n mx:Nat) (cut:Bool) (s:Ms) (w:World) (hM:MR w m g n s) (hC:CX w c m mx (fun k=>s.bs (5*k)) (wz s.bs) cut) (hcm:c≠m) (hcg:c≠g) (hn:10≤n) (ho:s.off=false) (ht:s.t<9223372036854775000) :
  Calls prog 84 #[ac c 0] w fun e w'=>e=.returned (.int .i64 (fo n (cU s.bs) s))∧(Off [m,g,c] w w'∧MR w' m g n (fJ n (cU s.bs) s) ∧
   (fo n (cU s.bs) s=0→CX w' c m mx (fun k=>(fJ n (cU s.bs) s).bs (5*k)) (wz (fJ n (cU s.bs) s).bs) cut)):=by
 have hz:Bz s.bs:=fun i hi=>hM.byte i (by omega)
 have l0:=hM.l0
 have c4:=hC.hwd 0 (by omega)
 have c5:=hC.hwd 1 (by omega)
 have v0:=np hz 0 (by omega)
 have v1:=np hz 1 (by omega)
 by_cases h0:s.bs 0=165
 ·have q0:=dE c m mx _ _ cut true w hC (by simp[h0])
  by_cases h1:s.bs 5=165
  ·have q1:=du c m mx _ _ cut true w hC (by simp[h1])
   rw[show cU s.bs=[] by unfold cU;rw[if_pos h0,if_pos h1]]
   have H:Hid (_):=And.intro (Off.refl [m,g,c] w) (And.intro hM hC)
   clear hM hC hz l0 c4 c5 v0 v1 h0 h1
   go_enter func84,ntmps84
   go_wp2_with fail
   refine q0.mono ?_
   rintro e w' ⟨rfl,hw⟩
   rw[hw]
   clear hw
   go_wp2_with fail
   refine q1.mono ?_
   rintro e w' ⟨rfl,hw⟩
   rw[hw]
   clear hw
   go_wp2_with fail
   go_ret
   exact⟨rfl,H.out.1,H.out.2.1,fun _=>H.out.2.2⟩
  ·have q1:=du c m mx _ _ cut false w hC (by simp[h1])
   rw[show cU s.bs=cN 1 (wz s.bs 0) by unfold cU;rw[if_pos h0,if_neg h1]]
   have hcw:=gH c m g n mx _ _ cut s 1 (wz s.bs 0) w hM hC hcm hcg (by omega) v0 ht
   have hb:=fun h=>mw (eW 1 (wz s.bs 0) n (by omega) hn) ho l0 h
   have HB:Hid (_):=And.intro hb v0
   clear hM hC hz l0 c5 v1 h0 h1 hb
   go_enter func84,ntmps84
   go_wp2_with fail
   refine q0.mono ?_
   rintro e w' ⟨rfl,hw⟩
   rw[hw]
   clear hw
   go_wp2_with fail
   refine q1.mono ?_
   rintro e w' ⟨rfl,hw⟩
   rw[hw]
   clear hw
   go_wp2_with fail
   refine hcw.mono ?_
   rintro e w2 ⟨rfl,H2⟩
   have H:Hid (_):=H2
   clear H2 hcw c4 q0 q1
   go_wp2_with fail
   go_ret
   refine⟨rfl,H.out.1,H.out.2.1,fun he=>?_⟩
   have C:=H.out.2.2
   rw[if_pos he,if_pos he]at C
   rw[HB.out.1 he]
   exact C.sync HB.out.2
 ·have q0:=dE c m mx _ _ cut false w hC (by simp[h0])
  by_cases h1:s.bs 5=165
  ·have q1:=du c m mx _ _ cut true w hC (by simp[h1])
   rw[show cU s.bs=cN 0 (wz s.bs 1) by unfold cU;rw[if_neg h0,if_pos h1]]
   have hcw:=gH c m g n mx _ _ cut s 0 (wz s.bs 1) w hM hC hcm hcg (by omega) v1 ht
   have hb:=fun h=>mw (eW 0 (wz s.bs 1) n (by omega) hn) ho l0 h
   have HB:Hid (_):=And.intro hb v1
   clear hM hC hz l0 c4 v0 h0 h1 hb
   go_enter func84,ntmps84
   go_wp2_with fail
   refine q0.mono ?_
   rintro e w' ⟨rfl,hw⟩
   rw[hw]
   clear hw
   go_wp2_with fail
   refine q1.mono ?_
   rintro e w' ⟨rfl,hw⟩
   rw[hw]
   clear hw
   go_wp2_with fail
   refine hcw.mono ?_
   rintro e w2 ⟨rfl,H2⟩
   have H:Hid (_):=H2
   clear H2 hcw c5 q0 q1
   go_wp2_with fail
   go_ret
   refine⟨rfl,H.out.1,H.out.2.1,fun he=>?_⟩
   have C:=H.out.2.2
   rw[if_pos he,if_pos he]at C
   rw[HB.out.1 he]
   exact C.sync HB.out.2
  ·have q1:=du c m mx _ _ cut false w hC (by simp[h1])
   rw[show cU s.bs=il s.bs 0 by unfold cU il;rw[if_neg h0,if_neg h1,if_pos rfl]]
   have hcw:=ra c m g n mx _ cut s w hM hC hcm hcg ht
   have hin:∀ x,x ∈ il s.bs 0→x.1<n∧x.2<256:=fun x hx=>gZ s.bs n hn x (by unfold cU;rw[if_neg h0,if_neg h1];unfold il at hx;rwa [if_pos rfl]at hx)
   have hb:=fun h=>mw hin ho l0 h
   have HB:Hid (_):=hb
   clear hM hC hz l0 c4 c5 v0 v1 h0 h1 hb hin
   go_enter func84,ntmps84
   go_wp2_with fail
   refine q0.mono ?_
   rintro e w' ⟨rfl,hw⟩
   rw[hw]
   clear hw
   go_wp2_with fail
   refine q1.mono ?_
   rintro e w' ⟨rfl,hw⟩
   rw[hw]
   clear hw
   go_wp2_with fail
   refine hcw.mono ?_
   rintro e w2 ⟨rfl,H2⟩
   have H:Hid (_):=H2
   clear H2 hcw q0 q1
   go_wp2_with fail
   go_ret
   refine⟨rfl,H.out.1,H.out.2.1,fun he=>?_⟩
   have C:=H.out.2.2 he
   rw[HB.out he]
   exact C.swept
end Go.Proofs.YtfgnmadnmjdbiaaGreat
