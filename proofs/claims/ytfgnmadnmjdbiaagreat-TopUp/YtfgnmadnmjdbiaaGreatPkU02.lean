/- Part 3: contracts that the proof rests on. -/
import Derived.Deep.RegionHeld3
import Derived.Maps.AppendAt
import Derived.Test.YtfgnmadnmjdbiaaGreatProg
import Derived.WalkKit
import Derived.WalkSpells
import Derived.OpenShut
import Derived.Defers
import Derived.Recover
import Derived.Laws.BitsAllLaws
import Derived.Laws.Pointers
import Derived.Laws.LoneSync
import Derived.Laws.NewBlocks
import Derived.RegionTactic
import Derived.RegionCalls
import Derived.ChangeAlike
import Derived.Deep.DeepCutAuto
import Derived.Deep.RegionWith
import Derived.Deep.QuietTactic
import Derived.Test.YtfgnmadnmjdbiaaGreatPkU01
set_option maxHeartbeats 64000000
set_option maxRecDepth 100000
namespace Go.Proofs.YtfgnmadnmjdbiaaGreat
open Tryz
open Go.RowKit
theorem ll (w:World) (c:Nat) (cs:Array Value) (t:TypeId) (fr:Nat × Nat) (h:w.heap[c]?=some (.cells cs t fr)):w.shape? c=some (t,cs.size):=by
 simp[World.shape?,h]
theorem uf (w:World):(convert 145 143 (.pointer none)).run prog w=.ok (.pointer none) w:=by kernel_rfl
theorem rS (w:World):(convert 143 145 (.pointer none)).run prog w=.ok (.pointer none) w:=by kernel_rfl
theorem mT (c:Nat) (v:Value) (w:World) (hc:w.heap[c]?=some (.cells #[v] 2 (0,0))):(convert 145 143 (ac c 0)).run prog w=.ok (ac c 0) w:=
 Lib.run_from_unsafe (u:=2) (j:=(prog.info? 2).get!) w ⟨c,0,none⟩ (by kernel_rfl) (by kernel_rfl) (by kernel_rfl) (ll w c _ _ _ hc) (by kernel_rfl)
theorem oX (c:Nat) (v:Value) (w:World) (hc:w.heap[c]?=some (.cells #[v] 2 (0,0))):(convert 143 145 (ac c 0)).run prog w=.ok (ac c 0) w:=
 run_convert_to_unsafe (t:=2) (by kernel_rfl) (by kernel_rfl) (by kernel_rfl) (ae w c 0 _ _ _ hc)
theorem m6 (t:Int) (b:Nat) (r:Option Addr) (f o v:Int) (w:World) (h:Met w b t none f o r) :
  Calls prog 119 #[ac b 0,.int .i64 v] w fun e w'=>e=.returned (.bool true)∧∃ n,w'=((w.alloc (.cells #[.int .i64 v] 2)).drewN n).setCell ⟨b,1,none⟩ (ac w.heap.size 0):=by
 have h1:Met (w.alloc (.cells #[.int .i64 v] 2)) b t none f o r:=h.off (Off.alloc [] w _) (by simp)
 have hl:=iG _ _ _ h1.c1 (uf _)
 have hc:∀ n,_:=fun n=>nL ⟨b,1,none⟩ none (af w.heap.size 0) ((w.alloc (.cells #[.int .i64 v] 2)).drewN n) h1.c1 (h1.fz 1) (rS _) (oX w.heap.size (.int .i64 v) _ (aC w _))
 clear h1 h
 go_enter func119,ntmps119
 go_wp2_with fail
 refine wp_loop_once ?_
 go_wp2_with (go_at_call 145;refine hl.mono ?_;rintro e w' ⟨rfl,rfl⟩)
 go_quiet (fail)
 go_wp2_with (go_at_call 146;refine (hc nq).mono ?_;rintro e w' ⟨rfl,rfl⟩)
 go_ret
 exact⟨rfl,_,rfl⟩
theorem t8 (t:Int) (b c:Nat) (r:Option Addr) (f o x v:Int) (w:World) (h:Met w b t (af c 0) f o r) (hc:w.heap[c]?=some (.cells #[.int .i64 x] 2 (0,0))) (hlt:x<v) :
  Calls prog 119 #[ac b 0,.int .i64 v] w fun e w'=>e=.returned (.bool true)∧∃ n,w'=((w.alloc (.cells #[.int .i64 v] 2)).drewN n).setCell ⟨b,1,none⟩ (ac w.heap.size 0):=by
 have h1:Met (w.alloc (.cells #[.int .i64 v] 2)) b t (af c 0) f o r:=h.off (Off.alloc [] w _) (by simp)
 have hc1:(w.alloc (.cells #[.int .i64 v] 2)).heap[c]?=some (.cells #[.int .i64 x] 2 (0,0)):=(heap_alloc_old w _ (Array.getElem?_eq_some_iff.1 hc).1).trans hc
 have hl:=iG _ _ _ h1.c1 (mT c _ _ hc1)
 have hcs:∀ n,_:=fun n=>nL ⟨b,1,none⟩ (af c 0) (af w.heap.size 0) ((w.alloc (.cells #[.int .i64 v] 2)).drewN n) h1.c1 (h1.fz 1) (oX c _ _ hc1) (oX w.heap.size (.int .i64 v) _ (aC w _))
 have hcell:=ae _ c 0 _ _ _ hc1
 simp at hcell
 have hle:¬ v≤x:=by omega
 clear h1 h hc hc1
 go_enter func119,ntmps119
 go_wp2_with fail
 refine wp_loop_once ?_
 go_wp2_with (go_at_call 145;refine hl.mono ?_;rintro e w' ⟨rfl,rfl⟩)
 go_quiet (fail)
 go_wp2_with (go_at_call 146;refine (hcs nq).mono ?_;rintro e w' ⟨rfl,rfl⟩)
 go_ret
 exact⟨rfl,_,rfl⟩
theorem sL (t:Int) (b c:Nat) (r:Option Addr) (f o x v:Int) (w:World) (h:Met w b t (af c 0) f o r) (hc:w.heap[c]?=some (.cells #[.int .i64 x] 2 (0,0))) (hle:v≤x) :
  Calls prog 119 #[ac b 0,.int .i64 v] w fun e w'=>e=.returned (.bool false)∧∃ n,w'=(w.alloc (.cells #[.int .i64 v] 2)).drewN n:=by
 have h1:Met (w.alloc (.cells #[.int .i64 v] 2)) b t (af c 0) f o r:=h.off (Off.alloc [] w _) (by simp)
 have hc1:(w.alloc (.cells #[.int .i64 v] 2)).heap[c]?=some (.cells #[.int .i64 x] 2 (0,0)):=(heap_alloc_old w _ (Array.getElem?_eq_some_iff.1 hc).1).trans hc
 have hl:=iG _ _ _ h1.c1 (mT c _ _ hc1)
 have hcell:=ae _ c 0 _ _ _ hc1
 simp at hcell
 clear h1 h hc hc1
 go_enter func119,ntmps119
 go_wp2_with fail
 refine wp_loop_once ?_
 go_wp2_with (go_at_call 145;refine hl.mono ?_;rintro e w' ⟨rfl,rfl⟩)
 go_quiet (fail)
 go_wp2_with fail
 go_ret
 exact⟨rfl,_,rfl⟩
open Go.RowKit Go.Maps
abbrev fL:=Nat × (Nat→Nat)
def fC (L:List fL):Nat:=L.foldl (fun n f=>n+f.1) 0
def oW (L:List fL):Option Int:=L.foldl (fun q f=>if q.all (fun x=>decide (x < (f.1:Int))) then some (f.1:Int) else q) none
theorem tZ (L:List fL) (f:fL):fC (L ++ [f])=fC L+f.1:=by simp[fC]
theorem vx (L:List fL) (f:fL):oW (L ++ [f])=if (oW L).all (fun x=>decide (x < (f.1:Int))) then some (f.1:Int) else oW L:=by unfold oW;rw[List.foldl_append];rfl
theorem uM {L:List fL} (h:∀ f,f ∈ L→f.1≤27):fC L≤27*L.length:=by
 have key:∀ (M:List fL) (n:Nat),(∀ f,f ∈ M→f.1≤27)→M.foldl (fun n f=>n+f.1) n≤n+27*M.length:=by
  intro M
  induction M with
  | nil=>intro n _;simp
  | cons f M ih=>
   intro n hM
   have h1:=hM f (List.mem_cons_self ..)
   have h2:=ih (n+f.1) (fun g hg=>hM g (List.mem_cons_of_mem _ hg))
   simp only[List.foldl_cons,List.length_cons]
   omega
 have:=key L 0 h
 unfold fC
 omega
theorem fU {w w':World} {B e s n:Nat} {v:Value} {xs:List Value} (h:w.ownsRow B e s v n xs) (hk:∀ g,v.ownBlock=some g→w'.heap[g]?=w.heap[g]?):w'.ownsRow B e s v n xs:=by
 obtain⟨h0,h1 | ⟨g,cap,cur,rfl,hg,hgg,rest⟩⟩:=h
 ·exact⟨h0,.inl h1⟩
 ·exact⟨h0,.inr ⟨g,cap,cur,rfl,hg,(hk g rfl).trans hgg,rest⟩⟩
theorem aP {w:World} {B e s n:Nat} {v:Value} {xs:List Value} (h:w.ownsRow B e s v n xs) {g:Nat} (hg:v.ownBlock=some g):∃ c,w.heap[g]?=some (.cells c e (0,0)):=by
 obtain⟨h0,⟨rfl,_⟩ | ⟨g',cap,cur,rfl,_,hgg,rest⟩⟩:=h
 ·cases hg
 ·simp only[Value.ownBlock,Option.some.injEq]at hg
  subst hg
  exact⟨cur,hgg⟩
theorem lj {w:World} {B e size n:Nat} {v:Value} {xs:List Value} (h:w.ownsRow B e size v (n+1) xs):∃ g cap,v=.slice (af g 0) (n+1) cap∧B≤g∧g<w.heap.size:=by
 rcases h.2 with ⟨_,hn⟩ | ⟨g,cap,cur,rfl,hg,hgg,rest⟩
 ·omega
 ·exact⟨g,cap,rfl,hg,(Array.getElem?_eq_some_iff.1 hgg).1⟩
theorem cI {w:World} {B e s n:Nat} {v:Value} {xs:List Value} (h:w.ownsRow B e s v n xs):∃ a cap,v=.slice a n cap:=by
 obtain⟨h0,⟨rfl,rfl⟩ | ⟨g',cap,cur,rfl,rest⟩⟩:=h
 ·exact⟨_,_,rfl⟩
 ·exact⟨_,_,rfl⟩
theorem dN {w:World} {k j:Nat} {c c':Array Value} {e e':TypeId} {f f':Nat × Nat} (h:w.heap[k]?=some (.cells c e f)) (h':w.heap[j]?=some (.cells c' e' f')) (ne:e≠e'):k≠j:=by
 rintro rfl
 rw[h]at h'
 simp only[Option.some.injEq,Obj.cells.injEq]at h'
 exact ne h'.2.1
structure Fl (B:Nat) (w:World) (v:Value) (vs:List Value) (L:List fL):Prop where
 rows:w.ownsRow B 22 1 v L.length vs
 frs:∀ (i:Nat) (f:fL),L[i]?=some f→∃ x,vs[i]?=some x∧w.ownsRow B 5 1 x f.1 (CB f.2 f.1)
 small:∀ (f:fL),f ∈ L→f.1≤27∧∀ i,i<f.1→f.2 i<256
 len:L.length≤4096
theorem Fl.keep {B:Nat} {w w':World} {v:Value} {vs:List Value} {L:List fL} (h:Fl B w v vs L) {l:List Nat} (k:Off l w w') (hl:∀ x,x ∈ l→x<w.heap.size→v.ownBlock≠some x∧∀ c f,w.heap[x]? ≠ some (.cells c 5 f)):Fl B w' v vs L:=by
 have kk:∀ {e:TypeId} {s n:Nat} {x:Value} {xs:List Value},w.ownsRow B e s x n xs→(∀ g,x.ownBlock=some g→g ∉ l)→w'.ownsRow B e s x n xs:=by
  intro e s n x xs ho hg
  refine fU ho fun g eg=>?_
  obtain⟨c,hc⟩:=aP ho eg
  exact k.block g (Array.getElem?_eq_some_iff.1 hc).1 (hg g eg)
 refine⟨kk h.rows fun g eg hm=>?_,fun i f hi=>?_,h.small,h.len⟩
 ·obtain⟨c,hc⟩:=aP h.rows eg
  exact (hl g hm (Array.getElem?_eq_some_iff.1 hc).1).1 eg
 ·obtain⟨x,hx,ho⟩:=h.frs i f hi
  refine⟨x,hx,kk ho fun g eg hm=>?_⟩
  obtain⟨c,hc⟩:=aP ho eg
  exact (hl g hm (Array.getElem?_eq_some_iff.1 hc).1).2 _ _ hc
theorem Fl.below {B:Nat} {w w':World} {v:Value} {vs:List Value} {L:List fL} (h:Fl B w v vs L) (k:Below w.heap.size w w'):Fl B w' v vs L:=h.keep (l:=[]) (Off.of_below k) (fun x hx=>by cases hx)
theorem Fl.more {B:Nat} {w wx wy:World} {v v':Value} {vs:List Value} {L:List fL} {x:Value} {n:Nat} {bs:Nat→Nat} (h:Fl B w v vs L) (hx:Below w.heap.size w wx) (ho:wx.ownsRow B 5 1 x n (CB bs n)) (h27:n≤27) (hb:∀ i,i<n→bs i<256) (hn:L.length<4096)
  (hr:wy.ownsRow B 22 1 v' (L.length+1) (vs ++ [x])) (hg:wx.grownBy wy v.ownBlock):Fl B wy v' (vs ++ [x]) (L ++ [(n,bs)]):=by
 have hvl:vs.length=L.length:=by have:=h.rows.1;omega
 have kk:∀ {n:Nat} {y:Value} {xs:List Value},wx.ownsRow B 5 1 y n xs→wy.ownsRow B 5 1 y n xs:=by
  intro n y xs hy
  refine fU hy fun g eg=>?_
  obtain⟨c,hc⟩:=aP hy eg
  refine hg.block g (Array.getElem?_eq_some_iff.1 hc).1 fun e=>?_
  obtain⟨c',hc'⟩:=aP (h.below hx).rows e.symm
  exact dN hc hc' (by decide) rfl
 refine⟨by simpa using hr,fun i f hi=>?_,fun f hf=>?_,by simp;omega⟩
 ·by_cases hlt:i<L.length
  ·rw[List.getElem?_append_left hlt]at hi
   obtain⟨y,hy,hoy⟩:=(h.below hx).frs i f hi
   exact⟨y,by rw[List.getElem?_append_left (by omega)];exact hy,kk hoy⟩
  ·have hi':=(List.getElem?_eq_some_iff.1 hi).1
   simp only[List.length_append,List.length_cons,List.length_nil]at hi'
   obtain rfl:i=L.length:=by omega
   simp only[List.getElem?_append_right (Nat.le_refl _),Nat.sub_self,List.getElem?_cons_zero,Option.some.injEq]at hi
   subst hi
   refine⟨x,?_,kk ho⟩
   rw[← hvl,List.getElem?_append_right (Nat.le_refl _),Nat.sub_self]
   rfl
 ·rcases List.mem_append.1 hf with hf | hf
  ·exact h.small f hf
  ·simp only[List.mem_singleton]at hf
   subst hf
   exact⟨h27,hb⟩
theorem Fl.at_ {B:Nat} {w:World} {v:Value} {vs:List Value} {L:List fL} (h:Fl B w v vs L) {i:Nat} {f:fL} (hi:L[i]?=some f):∃ a cap,vs[i]?=some (.slice a f.1 cap)∧Row8 w a f.1 cap f.2:=by
 obtain⟨x,hx,ho⟩:=h.frs i f hi
 have hm:f ∈ L:=List.mem_of_getElem? hi
 obtain⟨a,cap,rfl,R⟩:=aX ho (h.small f hm).2
 exact⟨a,cap,hx,R⟩
structure Bg (B:Nat) (w:World) (b m:Nat) (v:Value) (vs:List Value) (p:Option Addr) (L:List fL):Prop where
 at_:w.heap[b]?=some (.cells #[v,ac m 0] 102 (0,0))
 fl:Fl B w v vs L
 met:Met w m (fC L:Nat) p 0 0 none
 pk:Pk 0 w p (oW L)
 bB:B≤b
 mB:B≤m
theorem Bg.lt {B:Nat} {w:World} {b m:Nat} {v:Value} {vs:List Value} {p:Option Addr} {L:List fL} (h:Bg B w b m v vs p L):b<w.heap.size:=(Array.getElem?_eq_some_iff.1 h.at_).1
theorem Bg.off {B:Nat} {w w':World} {b m:Nat} {v:Value} {vs:List Value} {p:Option Addr} {L:List fL} (h:Bg B w b m v vs p L) {l:List Nat} (k:Off l w w') (hl:∀ x,x ∈ l→x<w.heap.size→x≠b∧x≠m∧v.ownBlock≠some x∧∀ c f,w.heap[x]? ≠ some (.cells c 5 f)∧w.heap[x]? ≠ some (.cells c 2 f)):Bg B w' b m v vs p L:=by
 refine⟨(k.block b h.lt fun hm=>(hl b hm h.lt).1 rfl).trans h.at_,h.fl.keep k fun x hx hs=>⟨(hl x hx hs).2.2.1,fun c f=>((hl x hx hs).2.2.2 c f).1⟩,h.met.off k fun hm=>(hl m hm h.met.lt).2.1 rfl,?_,h.bB,h.mB⟩
 have hp:=h.pk
 generalize oW L=q at hp
 cases hp with
 | none=>exact .none
 | some c v' h' hc=>exact .some c v' h' ((k.block c (Array.getElem?_eq_some_iff.1 hc).1 fun hm=>((hl c hm (Array.getElem?_eq_some_iff.1 hc).1).2.2.2 _ _).2 hc).trans hc)
theorem Bg.below {B:Nat} {w w':World} {b m:Nat} {v:Value} {vs:List Value} {p:Option Addr} {L:List fL} (h:Bg B w b m v vs p L) (k:Below w.heap.size w w'):Bg B w' b m v vs p L:=h.off (l:=[]) (Off.of_below k) (fun x hx=>by cases hx)
theorem Bg.c0 {B:Nat} {w:World} {b m:Nat} {v:Value} {vs:List Value} {p:Option Addr} {L:List fL} (h:Bg B w b m v vs p L):w.cell? ⟨b,0,none⟩=some v:=ae w b 0 _ _ _ h.at_
theorem Bg.c1 {B:Nat} {w:World} {b m:Nat} {v:Value} {vs:List Value} {p:Option Addr} {L:List fL} (h:Bg B w b m v vs p L):w.cell? ⟨b,1,none⟩=some (ac m 0):=ae w b 1 _ _ _ h.at_
theorem tv (w:World) :
  Calls prog 26 #[] w fun e w'=>e=.returned (ac (w.heap.size+1) 0)∧Hid (Below w.heap.size w w'∧Bg w.heap.size w' (w.heap.size+1) w.heap.size (.slice none 0 0) [] none []∧w'.heap.size=w.heap.size+2):=by
 have hN:=lQ w
 go_enter func26,ntmps26
 go_wp2_with (go_at_call 44;refine hN.mono ?_;rintro e w' ⟨rfl,rfl⟩)
 go_ret
 have hs:(w.alloc (.cells (tj 0 none 0 0 none) 156)).heap.size=w.heap.size+1:=World.size_alloc _ _
 refine⟨rfl,((Below.refl _ _).alloc (Nat.le_refl _) _).alloc (by rw[hs];omega) _,⟨?_,⟨⟨rfl,.inl ⟨rfl,rfl⟩⟩,fun i f hi=>by simp at hi,fun f hf=>by simp at hf,by simp⟩,?_,.none,by omega,Nat.le_refl _⟩,by rw[World.size_alloc,hs]⟩
 ·have:=aC (w.alloc (.cells (tj 0 none 0 0 none) 156)) (.cells #[.slice none 0 0,ac w.heap.size 0] 102)
  rw[hs]at this
  exact this
 ·exact (lY w).off (Off.alloc [] _ _) (by simp)
theorem uI (w:World):(Instr.buildSlice 22 0 #[]).run prog w=.ok (.slice (af w.heap.size 0) 0 0) (w.alloc (.cells #[] 5)):=by kernel_rfl
theorem zm (B:Nat) (bs:Nat→Nat) (w:World) (h:B≤w.heap.size):(w.alloc (.cells #[] 5)).ownsRow B 5 1 (.slice (af w.heap.size 0) 0 0) 0 (CB bs 0):=World.ownsRow_made w #[] 0 h (Nat.zero_le _) rfl
theorem iI (a:Option Addr) (n cap:Nat) (bs:Nat→Nat) (w:World) (R:Row8 w a n cap bs) (hn:n≤140737488351232) :
  Calls prog 31 #[.slice a n cap] w fun e w'=>∃ a' cap',e=.returned (.slice a' n cap')∧Hid (Below w.heap.size w w'∧w'.ownsRow w.heap.size 5 1 (.slice a' n cap') n (CB bs n)):=by
 cases a with
 | none=>
  obtain⟨rfl,rfl⟩:=R.nil rfl
  have he:∀ w:World,(binOp .eql 22 (.slice none 0 0) (.slice none 0 0)).run prog w=.ok (.bool true) w:=fun _=>rfl
  go_enter func31,ntmps31
  go_wp2_with fail
  go_ret
  exact⟨_,_,rfl,Below.refl _ _,⟨rfl,.inl ⟨rfl,rfl⟩⟩⟩
 | some x=>
  obtain⟨i0,hi,hz0,hz1,hz2⟩:=info_parts bY
  have hbd:=uI
  have he:∀ w:World,(binOp .eql 22 (.slice (some x) n cap) (.slice none 0 0)).run prog w=.ok (.bool false) w:=fun _=>rfl
  have hbelA:Below w.heap.size w (w.alloc (.cells #[] 5)):=(Below.refl _ _).alloc (Nat.le_refl _) _
  have R0:=R.below hbelA
  have O0:=zm w.heap.size bs w (Nat.le_refl _)
  have hszA:=hbelA.size
  have hby:=R.byte
  go_enter func31,ntmps31
  go_wp2_with (at_builtin;refine a9 rfl (.tmp 5) (.tmp 6) 22 rfl w.heap.size 5 i0 (.int .u8 0) underlying22 hi hz0 hz1 hz2 rfl _ 0 _ rfl O0 (some x) n cap bs rfl R0 (by unfold maxLen;omega) (by omega) hszA ?_)
  intro v2 w2 hown2 hgrow2
  have hbel2:Below w.heap.size w w2:=hbelA.grown hgrow2 hszA (fun k hk=>(O0.lt k hk).1)
  replace hown2:w2.ownsRow w.heap.size 5 1 v2 n (CB bs n):=by simpa [CB] using hown2
  obtain⟨a2,k2,rfl,_⟩:=aX hown2 hby
  have H:Hid (Below w.heap.size w w2∧w2.ownsRow w.heap.size 5 1 (.slice a2 n k2) n (CB bs n)):=⟨hbel2,hown2⟩
  clear hown2 hbel2 hgrow2 O0 R0 R hbelA hby
  go_wp2_with fail
  go_ret
  exact⟨_,_,rfl,H.out⟩
theorem ik (B:Nat) (b m:Nat) (v:Value) (vs:List Value) (p:Option Addr) (L:List fL) (i:Nat) (f:fL) (w:World) (h:Bg B w b m v vs p L) (hi:L[i]?=some f) :
  Calls prog 86 #[ac b 0,.int .i64 (i:Nat)] w fun e w'=>∃ a' cap',e=.returned (.tuple #[.slice a' f.1 cap',.int .i64 0])∧Hid (Below w.heap.size w w'∧w'.ownsRow w.heap.size 5 1 (.slice a' f.1 cap') f.1 (CB f.2 f.1)):=by
 have hlt:=(List.getElem?_eq_some_iff.1 hi).1
 have hlen:=h.fl.len
 obtain⟨a,cap,hv,R⟩:=h.fl.at_ hi
 have h27:=(h.fl.small f (List.mem_of_getElem? hi)).1
 have c0:=h.c0
 have hr:=h.fl.rows
 obtain⟨n,en⟩:∃ n,n=L.length:=⟨_,rfl⟩
 rw[← en]at hlt hlen hr
 cases n with
 | zero=>omega
 | succ n=>
  obtain⟨g,capv,rfl,_,_⟩:=lj hr
  have cv:w.cell? ⟨g,i,none⟩=some (.slice a f.1 cap):=(hr.cellAt i (by omega)).trans hv
  have hC:=iI a f.1 cap f.2 w R (by omega)
  have h0:¬ ((i:Int)<0):=by omega
  have h1:¬ (((n+1:Nat):Int) ≤ (i:Int)):=by omega
  clear h hr hv R hi
  go_enter func86,ntmps86
  go_wp2_with (go_at_call 31;refine hC.mono ?_;rintro e w' ⟨a',cap',rfl,H⟩)
  go_ret2
  exact⟨_,_,rfl,H⟩
theorem mG (B:Nat) (b m:Nat) (v:Value) (vs:List Value) (p:Option Addr) (L:List fL) (i:Int) (w:World) (h:Bg B w b m v vs p L) (hi:i<0∨(L.length:Int)≤i) :
  Calls prog 86 #[ac b 0,.int .i64 i] w fun e w'=>e=.returned (.tuple #[.slice none 0 0,.int .i64 151])∧w'=w:=by
 have c0:=h.c0
 obtain⟨a,cap,rfl⟩:=cI h.fl.rows
 generalize L.length=n at *
 clear h
 by_cases h0:i<0
 ·clear hi
  go_enter func86,ntmps86
  go_wp2_with fail
  go_ret2
  exact⟨rfl,rfl⟩
 ·have h1:(n:Int)≤i:=by omega
  clear hi
  go_enter func86,ntmps86
  go_wp2_with fail
  go_ret2
  exact⟨rfl,rfl⟩
theorem sD:(prog.info? 22).map (fun i=>(i.zero,i.size,i.bytes))=some (some (.slice none 0 0),1,24):=by kernel_rfl
theorem jl {B:Nat} {w0 w:World} (h:Below B w0 w) (hs:B≤w0.heap.size) (o:Obj):Below B w0 (w.alloc o):=h.alloc (Nat.le_trans hs h.size) o
theorem fE {B:Nat} {w0 w:World} (h:Below B w0 w) (n:Nat):Below B w0 (w.drewN n):=⟨h.os,h.tape,h.output,h.size,h.block⟩
theorem qU {ops:Array Oper} {o:Oper} {a:Act} {w:World} {K:Act→World→Prop} {Q:Exit→Act→World→Prop} {E:Prop}
  (hg:o.guard=none) (s x:Operand) (hop:o.op=Op.call { callee:=Callee.builtin Builtin.append,args:=#[s,x],argTypes:=#[43,43] }) (hty:o.type=43)
  (B n g:Nat) (vs:List Value) (y v:Value) (hs:a.eval s=v) (hown:w.ownsRow B 22 1 v n vs) (hx:a.eval x=.slice (af g 0) 1 1)
  (hgc:w.cell? ⟨g,0,none⟩=some y) (hy:y.oneCell'=true) (hn:n<1000000) (hB:B≤w.heap.size)
  (hK:∀ g' cap' w',Hid (w'.ownsRow B 22 1 (.slice (af g' 0) (n+1) cap') (n+1) (vs ++ [y])∧w.grownBy w' v.ownBlock∧(v.ownBlock=some g'∨g'=w.heap.size))→K (a.put o.dst (.slice (af g' 0) (n+1) cap')) w') :
  if Region.wanted o (yielded ops a.tmps)=true then Oper.wp prog o a w K Q else E:=by
 have hw:Region.wanted o (yielded ops a.tmps)=true:=by simp[Region.wanted,hg]
 rw[if_pos hw]
 obtain⟨i,hi,h0,h1,h2⟩:=info_parts sD
 obtain⟨v',w',hrun,h3,h4,_,h5⟩:=run_append_own_at w B 43 43 22 i _ 1 24 underlying43 hi h0 h1 h2 rfl (by decide) v n vs hown ⟨g,0,none⟩ 1 1 [y] rfl (by
  intro j u hj
  cases j with
  | zero=>simp at hj;subst hj;simpa [Addr.add] using hgc
  | succ j=>simp at hj) (by intro u hu;simp at hu;subst hu;exact hy) (by unfold maxLen;omega) (by omega) hB
 obtain⟨g',cap',rfl,_,_⟩:=lj h3
 unfold Oper.wp execOp
 simp only[hop,hty,resolve,invoke,builtin,Sem.run_bind,Sem.run_pure,Result.andThen_ok,List.map_toArray,List.map_cons,List.map_nil,hs,hx,hrun]
 refine hK g' cap' w' ⟨h3,h4,?_⟩
 rcases h5 with h5 | h5
 ·left;rw[← h5];rfl
 ·right;simpa [Value.ownBlock] using h5
theorem pz {P:Program} {ops:Array Oper} {o:Oper} {a:Act} {w:World} {K:Act→World→Prop} {Q:Exit→Act→World→Prop} {E:Prop} {R:Value→World→Prop}
  (f:FuncId) (ts:Array Operand) (ty:Array TypeId) (_:o.op=.call { callee:=.value (.func f),args:=ts,argTypes:=ty }) (hw:Region.wanted o (yielded ops a.tmps)=true) (args:Array Value) (hrun:(execOp a.eval o).run P w=.ok (.enter f args) w) (hc:Calls P f args w fun e w'=>∃ v,e=.returned v∧R v w') (hK:∀ v w',R v w'→K (a.put o.dst v) w') :
  if Region.wanted o (yielded ops a.tmps)=true then Oper.wp P o a w K Q else E:=by
 rw[if_pos hw]
 unfold Oper.wp
 rw[hrun]
 refine hc.mono ?_
 rintro e w'' ⟨v,rfl,hr⟩
 exact hK _ _ hr
theorem Row8.offB {l:List Nat} {w w':World} {a:Option Addr} {len cap:Nat} {bs:Nat→Nat} (h:Row8 w a len cap bs) (q:Off l w w') (hl:∀ x,a=some x→x.block ∉ l):Row8 w' a len cap bs:=by
 refine⟨h.byte,h.nil,fun x hx i hi=>?_,h.le⟩
 have h1:=h.src x hx i hi
 have hlt:=World.block_lt_of_cell? w _ h1
 have hb:(x.add i).block=x.block:=by unfold Addr.add;split <;> rfl
 have he:w'.heap[(x.add i).block]?=w.heap[(x.add i).block]?:=q.block _ hlt (by rw[hb];exact hl x hx)
 rw[← h1]
 unfold World.cell?
 rw[he]
theorem Bg.put {B:Nat} {w w2 wx wa wy:World} {b m g cap:Nat} {v:Value} {vs:List Value} {p p':Option Addr} {L:List fL} {x:Value} {n:Nat} {bs:Nat→Nat} (h:Bg B w b m v vs p L)
  (o2:Off [m] w w2) (h2m:Met w2 m (fC (L ++ [(n,bs)]):Nat) p' 0 0 none) (h2p:Pk 0 w2 p' (oW (L ++ [(n,bs)])))
  (hx:Below w2.heap.size w2 wx) (ho:wx.ownsRow w2.heap.size 5 1 x n (CB bs n)) (h27:n≤27) (hb:∀ i,i<n→bs i<256) (hn:L.length<4096) (hBw:B≤w2.heap.size)
  (ha:Below wx.heap.size wx wa) (hr:wy.ownsRow B 22 1 (.slice (af g 0) (L.length+1) cap) (L.length+1) (vs ++ [x])) (hg:wa.grownBy wy v.ownBlock) (hgb:v.ownBlock=some g∨g=wa.heap.size) :
  Off (b :: m :: v.ownBlock.toList) w (wy.setCell ⟨b,0,none⟩ (.slice (af g 0) (L.length+1) cap)) ∧
  Bg B (wy.setCell ⟨b,0,none⟩ (.slice (af g 0) (L.length+1) cap)) b m (.slice (af g 0) (L.length+1) cap) (vs ++ [x]) p' (L ++ [(n,bs)])∧(v.ownBlock=some g∨w.heap.size≤g):=by
 have f2:Fl B w2 v vs L:=h.fl.keep o2 fun y hy hs=>by
  simp only[List.mem_singleton]at hy
  subst hy
  refine⟨fun e=>?_,fun c f hc=>?_⟩
  ·obtain⟨c,hc⟩:=aP h.fl.rows e
   exact dN h.met.at_ hc (by decide) rfl
  ·exact dN h.met.at_ hc (by decide) rfl
 have hbm:b≠m:=dN h.at_ h.met.at_ (by decide)
 have b2:w2.heap[b]?=_:=(o2.block b h.lt (by simpa using hbm)).trans h.at_
 have h2a:Below w2.heap.size w2 wa:=hx.trans (ha.mono hx.size)
 have f3:=f2.more h2a (dC (aO ho hBw) ha) h27 hb hn hr hg
 have rest:∀ (k:Nat) (c:Array Value) (e:TypeId) (f:Nat × Nat),w2.heap[k]?=some (.cells c e f)→e≠22→wy.heap[k]?=some (.cells c e f):=by
  intro k c e f hk he
  have hlt:=(Array.getElem?_eq_some_iff.1 hk).1
  have hka:wa.heap[k]?=_:=(h2a.block k hlt).trans hk
  refine (hg.block k (Nat.lt_of_lt_of_le hlt h2a.size) fun ek=>?_).trans hka
  obtain⟨c',hc'⟩:=aP (f2.below h2a).rows ek.symm
  exact dN hka hc' he rfl
 have by_:=rest b _ _ _ b2 (by decide)
 have o3:=Off.setCell b 0 wy (.slice (af g 0) (L.length+1) cap)
 have my:Met wy m (fC (L ++ [(n,bs)]):Nat) p' 0 0 none:=⟨rest m _ _ _ h2m.at_ (by decide)⟩
 have py:Pk 0 wy p' (oW (L ++ [(n,bs)])):=by
  generalize oW (L ++ [(n,bs)])=q at h2p
  cases h2p with
  | none=>exact .none
  | some c v' h' hc=>exact .some c v' h' (rest c _ _ _ hc (by decide))
 have B0:Bg B (wy.setCell ⟨b,0,none⟩ (.slice (af g 0) (L.length+1) cap)) b m (.slice (af g 0) (L.length+1) cap) (vs ++ [x]) p' (L ++ [(n,bs)]):=by
  refine⟨heap_setCell_same _ _ _ _ _ _ by_,f3.keep o3 fun y hy hs=>?_,my.off o3 (by simpa using hbm.symm),?_,h.bB,h.mB⟩
  ·simp only[List.mem_singleton]at hy
   subst hy
   refine⟨fun e=>?_,fun c f hc=>?_⟩
   ·obtain⟨c,hc⟩:=aP f3.rows e
    exact dN by_ hc (by decide) rfl
   ·exact dN by_ hc (by decide) rfl
  ·generalize oW (L ++ [(n,bs)])=q at py
   cases py with
   | none=>exact .none
   | some c v' h' hc=>exact .some c v' h' ((o3.block c (Array.getElem?_eq_some_iff.1 hc).1 (by simpa using dN hc by_ (by decide))).trans hc)
 have o4:Off (b :: m :: v.ownBlock.toList) w wy:=by
  have q1:Off (b :: m :: v.ownBlock.toList) w2 wa:=Off.of_below h2a
  have q2:Off (b :: m :: v.ownBlock.toList) wa wy:=⟨hg.os,hg.tape,hg.output,hg.size,fun k hk hm=>hg.block k hk fun e=>hm (by rw[← e];simp)⟩
  exact ((o2.more (by simp)).trans q1).trans q2
 refine⟨o4.trans (o3.more (by simp)),B0,?_⟩
 rcases hgb with e | e
 ·exact .inl e
 ·right
  have:=o2.size
  have:=h2a.size
  omega
def Grb (B:Nat) (w':World) (n at_ x:Nat) (f:Nat→Nat) (v:Value):Prop:=
 ∃ g,w'.ownsRow B 5 1 v n (CB (xr f g) n)∧(∀ i,i<n→g i<256)∧∀ k,k<8*n→PM.fb g k=PM.ly at_ (PM.bl x) x (PM.bl x) k
theorem jT (B:Nat) (b m:Nat) (v:Value) (vs:List Value) (p:Option Addr) (L:List fL) (i:Nat) (f:fL) (at_ x:Nat) (w:World) (h:Bg B w b m v vs p L) (hi:L[i]?=some f) (hx:x<4294967296) (hx0:x≠0) (hfit:at_+PM.bl x≤8*f.1) :
  Calls prog 85 #[ac b 0,.int .i64 (i:Nat),.int .i64 (at_:Nat),.int .u32 (x:Nat)] w fun e w'=>∃ g c,e=.returned (.tuple #[.slice (af g 0) f.1 c,.int .i64 0])∧Hid (Below w.heap.size w w'∧Grb w.heap.size w' f.1 at_ x f.2 (.slice (af g 0) f.1 c)∧w.heap.size≤g):=by
 have h27:=(h.fl.small f (List.mem_of_getElem? hi)).1
 have hby:=(h.fl.small f (List.mem_of_getElem? hi)).2
 have hG:=ik B b m v vs p L i f w h hi
 clear h hi
 go_enter func85,ntmps85
 go_wp2_with fail
 refine hG.mono ?_
 rintro e w1 ⟨a1,cap1,rfl,H1⟩
 have hM:=ru f.1 at_ x w1 hx hx0 (by omega) hfit
 clear hG
 go_wp2_with fail
 refine hM.mono ?_
 rintro e w2 ⟨v2,rfl,H2⟩
 obtain⟨b2,g,og,gb,gl⟩:=H2.out
 obtain⟨a2,cap2,rfl,R2⟩:=aX og gb
 have R1:Row8 w2 a1 f.1 cap1 f.2:=by
  obtain⟨a1',cap1',e1,R1⟩:=aX (dC H1.out.2 b2) hby
  simp only[Value.slice.injEq,true_and]at e1
  obtain⟨rfl,rfl⟩:=e1
  exact R1
 have hT:=qL a1 a2 f.1 cap1 cap2 f.2 g w2 R1 R2 (by omega)
 have HH:Hid (_):=And.intro gb (And.intro gl (And.intro H1.out.1 b2))
 clear hM H2 H1 og gb gl R1 R2 b2
 go_wp2_with fail
 refine hT.mono ?_
 rintro e w3 ⟨c3,rfl,H3⟩
 clear hT
 go_wp2_with fail
 go_ret2
 have s1:=HH.out.2.2.1.size
 have s2:=HH.out.2.2.2.size
 exact⟨_,_,rfl,HH.out.2.2.1.trans ((HH.out.2.2.2.trans (H3.out.1.mono s2)).mono s1),⟨g,aO H3.out.2 (Nat.le_trans s1 s2),HH.out.1,HH.out.2.1⟩,Nat.le_trans s1 s2⟩
theorem rQ (B:Nat) (b m:Nat) (v:Value) (vs:List Value) (p:Option Addr) (L:List fL) (i:Nat) (f:fL) (at_:Int) (x:Nat) (w:World) (h:Bg B w b m v vs p L) (hi:L[i]?=some f) (hx:x<4294967296) (ha : -9223372036854775808≤at_∧at_<9223372036854775808) (he:cy f.1 at_ x≠0) :
  Calls prog 85 #[ac b 0,.int .i64 (i:Nat),.int .i64 at_,.int .u32 (x:Nat)] w fun e w'=>e=.returned (.tuple #[.slice none 0 0,.int .i64 (cy f.1 at_ x)])∧Hid (Below w.heap.size w w'):=by
 have h27:=(h.fl.small f (List.mem_of_getElem? hi)).1
 have hG:=ik B b m v vs p L i f w h hi
 have hM:=fun w1=>sx f.1 at_ x w1 hx (by omega) ha he
 generalize cy f.1 at_ x=y at *
 clear h hi
 go_enter func85,ntmps85
 go_wp2_with fail
 refine hG.mono ?_
 rintro e w1 ⟨a1,cap1,rfl,H1⟩
 clear hG
 go_wp2_with fail
 refine (hM _).mono ?_
 rintro e w2 ⟨rfl,rfl⟩
 clear hM
 go_wp2_with fail
 go_ret2
 exact⟨rfl,H1.out.1⟩
theorem rL (B:Nat) (b m:Nat) (v:Value) (vs:List Value) (p:Option Addr) (L:List fL) (i at_ x:Int) (w:World) (h:Bg B w b m v vs p L) (hi:i<0∨(L.length:Int)≤i) :
  Calls prog 85 #[ac b 0,.int .i64 i,.int .i64 at_,.int .u32 x] w fun e w'=>e=.returned (.tuple #[.slice none 0 0,.int .i64 151])∧w'=w:=by
 have hG:=mG B b m v vs p L i w h hi
 clear h hi
 go_enter func85,ntmps85
 go_wp2_with fail
 refine hG.mono ?_
 rintro e w1 ⟨rfl,rfl⟩
 clear hG
 go_wp2_with fail
 go_ret2
 exact⟨rfl,rfl⟩
theorem disable (w:World):(callFunc 159 #[]).run prog w=.ok (.value (.tuple #[])) w:=run_call_mark0 func159 (by kernel_rfl) (by kernel_rfl) (by kernel_rfl) .disable (by kernel_rfl) w
theorem enable (w:World):(callFunc 161 #[]).run prog w=.ok (.value (.tuple #[])) w:=run_call_mark0 func161 (by kernel_rfl) (by kernel_rfl) (by kernel_rfl) .enable (by kernel_rfl) w
theorem acquire (a:Addr) (w:World):(callFunc 162 #[.pointer (some a)]).run prog w=.ok (.value (.tuple #[])) w:=run_call_marked func162 (by kernel_rfl) (by kernel_rfl) (by kernel_rfl) .acquire (by kernel_rfl) a w
theorem releaseMerge (a:Addr) (w:World):(callFunc 164 #[.pointer (some a)]).run prog w=.ok (.value (.tuple #[])) w:=run_call_marked func164 (by kernel_rfl) (by kernel_rfl) (by kernel_rfl) .releaseMerge (by kernel_rfl) a w
theorem sa (a:Addr) (d:Int) (w:World) (h0:w.cell? a=some (.int .u32 d)) :
  Calls prog 167 #[.pointer (some a)] w fun e w'=>e=.returned (.bool (d != 0))∧w'=w:=by
 have hl:=run_call_load (P:=prog) func199 (by kernel_rfl) (by kernel_rfl) (by kernel_rfl) .u32 (by kernel_rfl) h0
 go_enter func167,ntmps167
 go_wp2
 go_ret
 exact⟨rfl,rfl⟩
theorem jF (a:Addr) (x:Value) (u:FrameMode) (w:World) (hc:w.cell? a=some x) (hz:w.frozen? a=false) :
  CallsD prog 126 #[.pointer (some a),.bool true] u w fun e u' w'=>u'=u∧(e=.returned (.tuple #[])∧w'=w.drew.setCell a (.int .u32 1)):=by
 have hc':w.drew.cell? a=some x:=by go_simp
 have hz':w.drew.frozen? a=false:=by go_simp
 have hst:=run_call_store (P:=prog) func157 (by kernel_rfl) (by kernel_rfl) (by kernel_rfl) (by kernel_rfl) (k:=.u32) (y:=1) hc' hz'
 go_enter_d func126,ntmps126
 go_wp2
 go_region_calls
 all_goals (go_end0;exact⟨rfl,rfl⟩)
theorem uQ (a:Addr) (w:World) (hc:w.cell? a=some (.int .i32 1)) (hz:w.frozen? a=false) :
  Calls prog 128 #[.pointer (some a)] w fun e w'=>e=.returned (.tuple #[])∧w'=w.setCell a (.int .i32 0):=by
 have hd:=disable
 have he:=enable
 have hr:=releaseMerge
 have hadd:=run_call_add (P:=prog) func165 (by kernel_rfl) (by kernel_rfl) (by kernel_rfl) .i32 (by kernel_rfl) (y:=-1) (s:=0) hc hz (by simp[go_sem];rfl)
 have hcv:=run_convert_to_unsafe (P:=prog) (src:=262) (dst:=145) underlying262 underlying145 (by kernel_rfl) hc
 go_enter func128,ntmps128
 go_wp2
 go_end0
 exact⟨rfl,rfl⟩
theorem cG (a:Addr) (u:FrameMode) (w:World) (hc:w.cell? a=some (.int .i32 1)) (hz:w.frozen? a=false) :
  CallsD prog 101 #[.pointer (some a)] u w fun e u' w'=>u'=u∧(e=.returned (.tuple #[])∧w'=w.setCell a (.int .i32 0)):=by
 go_enter_d func101,ntmps101
 go_wp2_with (go_at_call 128;refine (uQ a _ hc hz).mono ?_;rintro e w' ⟨rfl,rfl⟩)
 go_end0
 exact⟨rfl,rfl⟩
theorem yY (a:Addr) (w:World) (hc:w.cell? a=some (.int .i32 0)) (hz:w.frozen? a=false) :
  Calls prog 127 #[.pointer (some a)] w fun e w'=>e=.returned (.tuple #[])∧w'=w.setCell a (.int .i32 1):=by
 have hd:=disable
 have he:=enable
 have ha:=acquire
 have hcas:=run_call_cas_hit (P:=prog) func160 (by kernel_rfl) (by kernel_rfl) (by kernel_rfl) .i32 (by kernel_rfl) (y:=1) hc hz
 have hc':(w.setCell a (.int .i32 1)).cell? a=some (.int .i32 1):=World.cell?_setCell_same w a _ hc
 have hcv:=run_convert_to_unsafe (P:=prog) (src:=262) (dst:=145) underlying262 underlying145 (by kernel_rfl) hc'
 go_enter func127,ntmps127
 go_wp2
 first | go_end0 | (simp only[Exit.inBlock,Exit.then];refine bodyPost_ret (results_none rfl _ _ _) rfl ?_) | refine bodyPost_ret (results_none rfl _ _ _) rfl ?_
 exact⟨rfl,rfl⟩
theorem fi (a:Addr) (w:World) (hc:w.cell? a=some (.int .i32 0)) (hz:w.frozen? a=false) :
  Calls prog 100 #[.pointer (some a)] w fun e w'=>e=.returned (.tuple #[])∧w'=w.setCell a (.int .i32 1):=by
 go_enter func100,ntmps100
 go_wp2_with (go_at_call 127;refine (yY a _ hc hz).mono ?_;rintro e w' ⟨rfl,rfl⟩)
 go_end0
 exact⟨rfl,rfl⟩
theorem uU (F:FuncId) (b o:Nat) (cap:Array Value) (w:World) (Post:World→Prop) (hcf:∀ w,(callFunc F cap).run prog w=.ok (.enter F cap) w)
  (h0:w.cell? ⟨b,o,none⟩=some (.int .u32 0)) (h1:w.cell? ⟨b,o+1,none⟩=some (.int .i32 0)) (f1:w.frozen? ⟨b,o+1,none⟩=false)
  (hf:Calls prog F cap (w.setCell ⟨b,o+1,none⟩ (.int .i32 1)) fun e w2=>e=.returned (.tuple #[])∧Post w2)
  (hP:∀ w2,Post w2→w2.cell? ⟨b,o,none⟩=some (.int .u32 0)∧w2.cell? ⟨b,o+1,none⟩=some (.int .i32 1)∧w2.frozen? ⟨b,o,none⟩=false∧w2.frozen? ⟨b,o+1,none⟩=false) :
  Calls prog 213 #[ac b o,.func (.func F) #[] cap] w fun e w'=>e=.returned (.tuple #[]) ∧
   ∃ w2,Post w2∧w'=(w2.drew.setCell ⟨b,o,none⟩ (.int .u32 1)).setCell ⟨b,o+1,none⟩ (.int .i32 0):=by
 have h01:(w.setCell ⟨b,o+1,none⟩ (.int .i32 1)).cell? ⟨b,o,none⟩=some (.int .u32 0):=(World.cell?_setCell_other _ ⟨b,o+1,none⟩ ⟨b,o,none⟩ _ (by simp)).trans h0
 have hld:=sa ⟨b,o,none⟩ 0 _ h01
 go_enter_defers func213,ntmps213
 go_wp2_with (first | (go_at_call 100;refine (fi ⟨b,o+1,none⟩ _ h1 f1).mono ?_;rintro e w' ⟨rfl,rfl⟩) | (go_at_call 167;refine hld.mono ?_;rintro e w' ⟨rfl,rfl⟩))
 refine hf.mono ?_
 rintro e w2 ⟨rfl,hpost⟩
 obtain⟨c0,c1,z0,z1⟩:=hP w2 hpost
 clear hf hP hld hcf
 go_wp2_with fail
 refine leaves_cons (f:=126) (args:=#[ac b o,.bool true]) (by simp) (by simp[go_sem]) ?_
 refine (jF ⟨b,o,none⟩ (.int .u32 0) .returning _ c0 z0).mono ?_
 rintro e u' w'' ⟨rfl,rfl,rfl⟩
 refine leaves_cons (f:=101) (args:=#[ac b (o+1)]) (by simp[settle]) (by simp[go_sem]) ?_
 refine (cG ⟨b,o+1,none⟩ _ _ ?_ (by simp[z1])).mono ?_
 ·refine (World.cell?_setCell_other _ ⟨b,o,none⟩ ⟨b,o+1,none⟩ _ (by simp)).trans ?_
  rw[World.cell?_drew];exact c1
 rintro e u' w'' ⟨rfl,rfl,rfl⟩
 simp[Leaves,settle,results,results213]
 exact⟨w2,hpost,rfl⟩
theorem yW (F:FuncId) (b o:Nat) (cap:Array Value) (w:World) (Post:World→Prop) (hcf:∀ w,(callFunc F cap).run prog w=.ok (.enter F cap) w)
  (h0:w.cell? ⟨b,o,none⟩=some (.int .u32 0)) (h1:w.cell? ⟨b,o+1,none⟩=some (.int .i32 0)) (f1:w.frozen? ⟨b,o+1,none⟩=false)
  (hf:Calls prog F cap (w.setCell ⟨b,o+1,none⟩ (.int .i32 1)) fun e w2=>e=.returned (.tuple #[])∧Post w2)
  (hP:∀ w2,Post w2→w2.cell? ⟨b,o,none⟩=some (.int .u32 0)∧w2.cell? ⟨b,o+1,none⟩=some (.int .i32 1)∧w2.frozen? ⟨b,o,none⟩=false∧w2.frozen? ⟨b,o+1,none⟩=false) :
  Calls prog 200 #[ac b o,.func (.func F) #[] cap] w fun e w'=>e=.returned (.tuple #[]) ∧
   ∃ w2,Post w2∧w'=(w2.drew.setCell ⟨b,o,none⟩ (.int .u32 1)).setCell ⟨b,o+1,none⟩ (.int .i32 0):=by
 have hS:=uU F b o cap w Post hcf h0 h1 f1 hf hP
 have hld:=sa ⟨b,o,none⟩ 0 _ h0
 clear hf hP hcf
 go_enter func200,ntmps200
 go_wp2_with (first | (go_at_call 167;refine hld.mono ?_;rintro e w' ⟨rfl,rfl⟩) | (go_at_call 213;refine hS.mono ?_;rintro e w' ⟨rfl,h⟩))
 go_end0
 exact⟨rfl,h⟩
theorem ur (a:Addr) (fv:Value) (w:World) (h0:w.cell? a=some (.int .u32 1)) :
  Calls prog 200 #[.pointer (some a),fv] w fun e w'=>e=.returned (.tuple #[])∧w'=w:=by
 have hld:=sa a 1 _ h0
 go_enter func200,ntmps200
 go_wp2_with (go_at_call 167;refine hld.mono ?_;rintro e w' ⟨rfl,rfl⟩)
 go_end0
 exact⟨rfl,rfl⟩
structure Vr (w:World) (p:Nat) (v:Value) (ty:TypeId):Prop where
 at_:w.heap[p]?=some (.cells #[v] ty (0,0))
theorem Vr.lt {w:World} {p:Nat} {v:Value} {ty:TypeId} (h:Vr w p v ty):p<w.heap.size:=(Array.getElem?_eq_some_iff.1 h.at_).1
theorem Vr.c {w:World} {p:Nat} {v:Value} {ty:TypeId} (h:Vr w p v ty):w.cell? ⟨p,0,none⟩=some v:=ae w p 0 _ _ _ h.at_
theorem Vr.fz {w:World} {p:Nat} {v:Value} {ty:TypeId} (h:Vr w p v ty):w.frozen? ⟨p,0,none⟩=false:=frozen_of_row w p 0 _ _ h.at_
theorem Vr.off {l:List Nat} {w w':World} {p:Nat} {v:Value} {ty:TypeId} (h:Vr w p v ty) (k:Off l w w') (hb:p ∉ l):Vr w' p v ty:=⟨(k.block p h.lt hb).trans h.at_⟩
theorem Vr.new (w:World) (v:Value) (ty:TypeId):Vr (w.alloc (.cells #[v] ty)) w.heap.size v ty:=⟨aC w _⟩
theorem Vr.set {w:World} {p:Nat} {v:Value} {ty:TypeId} (h:Vr w p v ty) (v':Value):Vr (w.setCell ⟨p,0,none⟩ v') p v' ty:=⟨heap_setCell_same _ _ _ _ _ _ h.at_⟩
def GC (k d m c t:Int):Array Value:=#[.int .i32 k,.int .u32 0,.int .u32 d,.int .i32 m,.int .u32 0,.int .i64 c,.int .i64 t]
structure GR (w:World) (b:Nat) (k d m c t:Int):Prop where
 at_:w.heap[b]?=some (.cells (GC k d m c t) 219 (0,0))
section
variable {w w':World} {b:Nat} {k d m c t:Int}
theorem GR.lt (h:GR w b k d m c t):b<w.heap.size:=(Array.getElem?_eq_some_iff.1 h.at_).1
theorem GR.c0 (h:GR w b k d m c t):w.cell? ⟨b,0,none⟩=some (.int .i32 k):=ae w b 0 _ _ _ h.at_
theorem GR.c2 (h:GR w b k d m c t):w.cell? ⟨b,2,none⟩=some (.int .u32 d):=ae w b 2 _ _ _ h.at_
theorem GR.c3 (h:GR w b k d m c t):w.cell? ⟨b,3,none⟩=some (.int .i32 m):=ae w b 3 _ _ _ h.at_
theorem GR.c4 (h:GR w b k d m c t):w.cell? ⟨b,4,none⟩=some (.int .u32 0):=ae w b 4 _ _ _ h.at_
theorem GR.c5 (h:GR w b k d m c t):w.cell? ⟨b,5,none⟩=some (.int .i64 c):=ae w b 5 _ _ _ h.at_
theorem GR.c6 (h:GR w b k d m c t):w.cell? ⟨b,6,none⟩=some (.int .i64 t):=ae w b 6 _ _ _ h.at_
theorem GR.fz (h:GR w b k d m c t) (j:Nat):w.frozen? ⟨b,j,none⟩=false:=frozen_of_row w b j _ _ h.at_
theorem GR.off {l:List Nat} (h:GR w b k d m c t) (q:Off l w w') (hb:b ∉ l):GR w' b k d m c t:=⟨(q.block b h.lt hb).trans h.at_⟩
theorem GR.s0 (h:GR w b k d m c t) (x:Int):GR (w.setCell ⟨b,0,none⟩ (.int .i32 x)) b x d m c t:=⟨heap_setCell_same _ _ _ _ _ _ h.at_⟩
theorem GR.s2 (h:GR w b k d m c t) (x:Int):GR (w.setCell ⟨b,2,none⟩ (.int .u32 x)) b k x m c t:=⟨heap_setCell_same _ _ _ _ _ _ h.at_⟩
theorem GR.s3 (h:GR w b k d m c t) (x:Int):GR (w.setCell ⟨b,3,none⟩ (.int .i32 x)) b k d x c t:=⟨heap_setCell_same _ _ _ _ _ _ h.at_⟩
theorem GR.s4 (h:GR w b k d m c t):GR (w.setCell ⟨b,4,none⟩ (.int .u32 0)) b k d m c t:=⟨heap_setCell_same _ _ _ _ _ _ h.at_⟩
theorem GR.s5 (h:GR w b k d m c t) (x:Int):GR (w.setCell ⟨b,5,none⟩ (.int .i64 x)) b k d m x t:=⟨heap_setCell_same _ _ _ _ _ _ h.at_⟩
theorem GR.s6 (h:GR w b k d m c t) (x:Int):GR (w.setCell ⟨b,6,none⟩ (.int .i64 x)) b k d m c x:=⟨heap_setCell_same _ _ _ _ _ _ h.at_⟩
theorem GR.drew (h:GR w b k d m c t):GR w.drew b k d m c t:=⟨h.at_⟩
end
theorem tc (w:World) :
  Calls prog 102 #[] w fun e w'=>e=.returned (ac w.heap.size 0)∧(Off [] w w'∧GR w' w.heap.size 0 0 0 0 0):=by
 go_enter func102,ntmps102
 go_wp2
 go_ret
 exact⟨rfl,Off.alloc _ _ _,⟨aC w _⟩⟩
theorem lJ (w:World) (b i:Nat) (cs:Array Value) (ty:TypeId) (x v:Value) (hg:w.heap[b]?=some (.cells cs ty (0,0))) (hv:cs[i]?=some v):(w.setCell ⟨b,i,none⟩ x).setCell ⟨b,i,none⟩ v=w:=by
 have h:((w.setCell ⟨b,i,none⟩ x).setCell ⟨b,i,none⟩ v).heap=w.heap:=by
  apply Array.ext_getElem?
  intro k
  by_cases hk:k=b
  ·subst hk
   rw[heap_setCell_same _ _ _ _ _ _ (heap_setCell_same _ _ _ _ _ _ hg),hg,Array.setIfInBounds_setIfInBounds]
   congr 2
   apply Array.ext_getElem?
   intro j
   rw[Array.getElem?_setIfInBounds]
   split
   ·subst_vars
    split
    ·exact hv.symm
    ·rw[Array.getElem?_eq_none (by omega)]
   ·rfl
  ·rw[heap_setCell_other _ _ _ _ hk,heap_setCell_other _ _ _ _ hk]
 cases w
 simp only[World.setCell]at h ⊢
 rw[h]
theorem iH (b:Nat) (d c t:Int) (w:World) (h:GR w b 0 d 0 c t) :
  Calls prog 77 #[ac b 0] w fun e w'=>e=.returned (.int .i64 c)∧w'=w:=by
 have h0:=h.c0
 have hz:=h.fz 0
 go_enter_defers func77,ntmps77
 go_wp2_with fail
 refine (fi ⟨b,0,none⟩ _ h0 hz).mono ?_
 rintro e w2 ⟨rfl,hw⟩
 have g2:GR w2 b 1 d 0 c t:=hw ▸ h.s0 1
 have hh:Hid (_):=hw
 clear h0 hz hw
 have h5:=g2.c5
 go_wp2_with fail
 refine leaves_cons (f:=101) (args:=#[ac b 0]) (by simp) (by simp[go_sem]) ?_
 refine (cG ⟨b,0,none⟩ .returning _ g2.c0 (g2.fz 0)).mono ?_
 rintro e u' w'' ⟨rfl,rfl,hw'⟩
 refine⟨_,results_tmp rfl _ _ _,rfl,?_⟩
 rw[hw',hh.out]
 exact lJ w b 0 _ _ _ _ h.at_ rfl
theorem tS (b:Nat) (d c t:Int) (w:World) (h:GR w b 0 d 0 c t) :
  Calls prog 243 #[ac b 0] w fun e w'=>e=.returned (.int .i64 c)∧(Off [b] w w'∧GR w' b 0 0 0 0 0):=by
 have h0:=h.c0
 have hz:=h.fz 0
 go_enter_defers func243,ntmps243
 go_wp2_with fail
 refine (fi ⟨b,0,none⟩ _ h0 hz).mono ?_
 rintro e w2 ⟨rfl,hw⟩
 have g2:GR w2 b 1 d 0 c t:=hw ▸ h.s0 1
 have o2:Off [b] w w2:=hw ▸ Off.setCell b 0 w _
 clear hw h h0 hz
 have h2:=g2.c2
 have h3:=g2.c3
 have h4:=g2.c4
 have h5:=g2.c5
 have h6:=g2.c6
 have z2:=g2.fz 2
 have z3:=g2.fz 3
 have z4:=g2.fz 4
 have z5:=g2.fz 5
 have z6:=g2.fz 6
 go_wp2_with fail
 refine leaves_cons (f:=101) (args:=#[ac b 0]) (by simp) (by simp[go_sem]) ?_
 have g3:=((((g2.s2 0).s3 0).s4).s5 0).s6 0
 refine (cG ⟨b,0,none⟩ .returning _ g3.c0 (g3.fz 0)).mono ?_
 rintro e u' w'' ⟨rfl,rfl,hw⟩
 have g4:GR w'' b 0 0 0 0 0:=hw ▸ g3.s0 0
 have o3:Off [b] w2 w'':=hw ▸ ((((((Off.setCell b 2 w2 _).trans (Off.setCell b 3 _ _)).trans (Off.setCell b 4 _ _)).trans (Off.setCell b 5 _ _)).trans (Off.setCell b 6 _ _)).trans (Off.setCell b 0 _ _))
 exact⟨_,results_tmp rfl _ _ _,rfl,o2.trans o3,g4⟩
end Go.Proofs.YtfgnmadnmjdbiaaGreat
namespace Go.Proofs.YtfgnmadnmjdbiaaGreat
open Tryz
open Go.RowKit
theorem vm (b pc pg pf:Nat) (k d m c t x:Int) (y:Value) (w:World) (h:GR w b k d m c t) (vc:Vr w pc (.int .i64 x) 24) (vg:Vr w pg (ac b 0) 171) (vf:Vr w pf y 4) (hbf:b≠pf) :
  Calls prog 201 (ay pc pg pf) w fun e w'=>e=.returned (.tuple #[]) ∧
   (Off [b,pf] w w'∧GR w' b k d m x t∧Vr w' pf (.bool true) 4):=by
 have h1:=vc.c
 have h2:=vg.c
 have h3:=vf.c
 have h5:=h.c5
 have z5:=h.fz 5
 have z3:=vf.fz
 have h3':(w.setCell ⟨b,5,none⟩ (.int .i64 x)).cell? ⟨pf,0,none⟩=some y:=(World.cell?_setCell_other _ _ _ _ (by simp)).trans h3
 go_enter func201,ntmps201
 go_wp2_with fail
 go_end0
 have o1:Off [b,pf] w (w.setCell ⟨b,5,none⟩ (.int .i64 x)):=(Off.setCell b 5 w _).more (by simp)
 have o2:Off [pf] (w.setCell ⟨b,5,none⟩ (.int .i64 x)) ((w.setCell ⟨b,5,none⟩ (.int .i64 x)).setCell ⟨pf,0,none⟩ (.bool true)):=Off.setCell pf 0 _ _
 exact⟨rfl,o1.trans (o2.more (by simp)),(h.s5 x).off o2 (by simpa using hbf),(vf.off (Off.setCell b 5 w _) (by simp;omega)).set _⟩
theorem oP (b:Nat) (x t:Int) (hx:¬ x=0) (w:World) (h:GR w b 0 0 0 0 t) :
  Calls prog 168 #[ac b 0,.int .i64 x] w fun e w'=>e=.returned (.bool true)∧(Off [b] w w'∧GR w' b 0 1 0 x (wrap64 (t+1))):=by
 have hmf:∀ (fn:Fn) (first cap:Array Value) (w:World),(Instr.makeFunc fn first cap).run prog w=.ok (.func fn first cap) w:=fun _ _ _ _=>rfl
 go_enter_defers func168,ntmps168
 go_wp2_with fail
 have o1:Off [] w ((w.alloc (.cells #[ac b 0] 171)).alloc (.cells #[.int .i64 x] 24)):=(Off.alloc _ _ _).trans (Off.alloc _ _ _)
 have vg1:=(Vr.new w (ac b 0) 171).off (Off.alloc [] _ (.cells #[.int .i64 x] 24)) (by simp)
 have vc1:=Vr.new (w.alloc (.cells #[ac b 0] 171)) (.int .i64 x) 24
 rw[World.size_alloc]at vc1
 have g1:=h.off o1 (by simp)
 have lb:=h.lt
 generalize (w.alloc (.cells #[ac b 0] 171)).alloc (.cells #[.int .i64 x] 24)=w1 at *
 refine (fi ⟨b,0,none⟩ _ g1.c0 (g1.fz 0)).mono ?_
 rintro e w2 ⟨rfl,hw⟩
 have g2:GR w2 b 1 0 0 0 t:=hw ▸ g1.s0 1
 have o2:Off [b] w1 w2:=hw ▸ Off.setCell b 0 w1 _
 clear hw
 have vg2:=vg1.off o2 (by simp;omega)
 have vc2:=vc1.off o2 (by simp;omega)
 have o2':Off [b] w w2:=(o1.more (by simp)).trans o2
 clear g1 vg1 vc1 o1 o2
 have cg:=vg2.c
 have c6:=g2.c6
 have z6:=g2.fz 6
 have lg:=vg2.lt
 have lc:=vc2.lt
 have l2:=g2.lt
 go_wp2_with fail
 have s2:w.heap.size≤w2.heap.size:=o2'.size
 have o3:Off [b] w2 ((w2.setCell ⟨b,6,none⟩ (.int .i64 (wrap64 (t+1)))).alloc (.cells #[.bool false] 4)):=(Off.setCell b 6 w2 _).trans (Off.alloc _ _ _)
 have vf3:=Vr.new (w2.setCell ⟨b,6,none⟩ (.int .i64 (wrap64 (t+1)))) (.bool false) 4
 have g3:=(g2.s6 (wrap64 (t+1))).off (Off.alloc [] _ (.cells #[.bool false] 4)) (by simp)
 rw[show (w2.setCell ⟨b,6,none⟩ (.int .i64 (wrap64 (t+1)))).heap.size=w2.heap.size by simp[World.setCell]]at vf3
 generalize (w2.setCell ⟨b,6,none⟩ (.int .i64 (wrap64 (t+1)))).alloc (.cells #[.bool false] 4)=w3 at *
 have vg3:=vg2.off o3 (by simp;omega)
 have vc3:=vc2.off o3 (by simp;omega)
 have o3':=o2'.trans o3
 clear vg2 vc2 g2 o2' o3 c6 z6 cg
 have o4:=Off.setCell b 3 w3 (.int .i32 1)
 have hf:=vm b (w.heap.size+1) w.heap.size w2.heap.size 1 0 1 0 (wrap64 (t+1)) x (.bool false) (w3.setCell ⟨b,3,none⟩ (.int .i32 1)) (g3.s3 1) (vc3.off o4 (by simp;omega)) (vg3.off o4 (by simp;omega)) (vf3.off o4 (by simp;omega)) (by omega)
 refine (yW 201 b 2 _ w3 _ (fun _=>by kernel_rfl) g3.c2 g3.c3 (g3.fz 3) hf ?_).mono ?_
 ·rintro w5 ⟨_,g5,_⟩
  exact⟨g5.c2,g5.c3,g5.fz 2,g5.fz 3⟩
 rintro e w6 ⟨rfl,w5,⟨o5,g5,v5⟩,hw⟩
 have g6:GR w6 b 1 1 0 x (wrap64 (t+1)):=hw ▸ (g5.drew.s2 1).s3 0
 have o6:Off [b] w5 w6:=hw ▸ ((Off.drew _ _).trans (Off.setCell b 2 _ _)).trans (Off.setCell b 3 _ _)
 have v6:=v5.off o6 (by simp;omega)
 have m1:∀ k,k ∈ [b]→k ∈ [b,w2.heap.size]:=by simp
 have o7:Off [b] w w6:=((((o3'.more m1).trans (o4.more m1)).trans o5).trans (o6.more m1)).only (by simp;omega)
 clear hf g5 v5 o5 o4 o3' hw vf3 vg3 vc3 g3
 have cf:=v6.c
 go_wp2_with fail
 refine leaves_cons (f:=101) (args:=#[ac b 0]) (by simp) (by simp[go_sem]) ?_
 refine (cG ⟨b,0,none⟩ .returning _ g6.c0 (g6.fz 0)).mono ?_
 rintro e u' w'' ⟨rfl,rfl,hw⟩
 have g8:GR w'' b 0 1 0 x (wrap64 (t+1)):=hw ▸ g6.s0 0
 have o8:Off [b] w6 w'':=hw ▸ Off.setCell b 0 _ _
 exact⟨_,results_tmp rfl _ _ _,rfl,o7.trans o8,g8⟩
theorem oK (b:Nat) (x c t:Int) (hx:¬ x=0) (w:World) (h:GR w b 0 1 0 c t) :
  Calls prog 168 #[ac b 0,.int .i64 x] w fun e w'=>e=.returned (.bool false)∧(Off [b] w w'∧GR w' b 0 1 0 c (wrap64 (t+1))):=by
 have hmf:∀ (fn:Fn) (first cap:Array Value) (w:World),(Instr.makeFunc fn first cap).run prog w=.ok (.func fn first cap) w:=fun _ _ _ _=>rfl
 go_enter_defers func168,ntmps168
 go_wp2_with fail
 have o1:Off [] w ((w.alloc (.cells #[ac b 0] 171)).alloc (.cells #[.int .i64 x] 24)):=(Off.alloc _ _ _).trans (Off.alloc _ _ _)
 have vg1:=(Vr.new w (ac b 0) 171).off (Off.alloc [] _ (.cells #[.int .i64 x] 24)) (by simp)
 have vc1:=Vr.new (w.alloc (.cells #[ac b 0] 171)) (.int .i64 x) 24
 rw[World.size_alloc]at vc1
 have g1:=h.off o1 (by simp)
 have lb:=h.lt
 generalize (w.alloc (.cells #[ac b 0] 171)).alloc (.cells #[.int .i64 x] 24)=w1 at *
 refine (fi ⟨b,0,none⟩ _ g1.c0 (g1.fz 0)).mono ?_
 rintro e w2 ⟨rfl,hw⟩
 have g2:GR w2 b 1 1 0 c t:=hw ▸ g1.s0 1
 have o2:Off [b] w1 w2:=hw ▸ Off.setCell b 0 w1 _
 clear hw
 have vg2:=vg1.off o2 (by simp;omega)
 have vc2:=vc1.off o2 (by simp;omega)
 have o2':Off [b] w w2:=(o1.more (by simp)).trans o2
 clear g1 vg1 vc1 o1 o2
 have cg:=vg2.c
 have c6:=g2.c6
 have z6:=g2.fz 6
 have lg:=vg2.lt
 have lc:=vc2.lt
 have l2:=g2.lt
 go_wp2_with fail
 have s2:w.heap.size≤w2.heap.size:=o2'.size
 have o3:Off [b] w2 ((w2.setCell ⟨b,6,none⟩ (.int .i64 (wrap64 (t+1)))).alloc (.cells #[.bool false] 4)):=(Off.setCell b 6 w2 _).trans (Off.alloc _ _ _)
 have vf3:=Vr.new (w2.setCell ⟨b,6,none⟩ (.int .i64 (wrap64 (t+1)))) (.bool false) 4
 have g3:=(g2.s6 (wrap64 (t+1))).off (Off.alloc [] _ (.cells #[.bool false] 4)) (by simp)
 rw[show (w2.setCell ⟨b,6,none⟩ (.int .i64 (wrap64 (t+1)))).heap.size=w2.heap.size by simp[World.setCell]]at vf3
 generalize (w2.setCell ⟨b,6,none⟩ (.int .i64 (wrap64 (t+1)))).alloc (.cells #[.bool false] 4)=w3 at *
 have vg3:=vg2.off o3 (by simp;omega)
 have vc3:=vc2.off o3 (by simp;omega)
 have o3':=o2'.trans o3
 clear vg2 vc2 g2 o2' o3 c6 z6 cg
 refine (ur ⟨b,2,none⟩ _ w3 g3.c2).mono ?_
 rintro e w6 ⟨rfl,hw⟩
 have g6:GR w6 b 1 1 0 c (wrap64 (t+1)):=hw ▸ g3
 have v6:Vr w6 w2.heap.size (.bool false) 4:=hw ▸ vf3
 have o7:Off [b] w w6:=hw ▸ o3'
 clear o3' hw vf3 vg3 vc3 g3
 have cf:=v6.c
 go_wp2_with fail
 refine leaves_cons (f:=101) (args:=#[ac b 0]) (by simp) (by simp[go_sem]) ?_
 refine (cG ⟨b,0,none⟩ .returning _ g6.c0 (g6.fz 0)).mono ?_
 rintro e u' w'' ⟨rfl,rfl,hw⟩
 have g8:GR w'' b 0 1 0 c (wrap64 (t+1)):=hw ▸ g6.s0 0
 have o8:Off [b] w6 w'':=hw ▸ Off.setCell b 0 _ _
 exact⟨_,results_tmp rfl _ _ _,rfl,o7.trans o8,g8⟩
end Go.Proofs.YtfgnmadnmjdbiaaGreat
