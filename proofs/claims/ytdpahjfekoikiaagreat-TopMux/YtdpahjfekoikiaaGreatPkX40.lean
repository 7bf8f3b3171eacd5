/- Part 41: contracts that the proof rests on. -/
import Derived.Maps.RangeWalk
import Derived.Deep.CutBlock
import Derived.Test.YtdpahjfekoikiaaGreatPkX38
import Derived.Test.YtdpahjfekoikiaaGreatPkX39
set_option maxHeartbeats 64000000
set_option maxRecDepth 100000
namespace Go.Proofs.YtdpahjfekoikiaaGreat
open Tryz
open Go.RowKit Go.Maps
theorem sq {L:List Prt} (h:L.Pairwise (fun p q=>p.c≠q.c∧p.k≠q.k)) (j:Nat) (hj:j<L.length):dO L (L[j]).c=some (L[j]):=by
 induction L generalizing j with
 | nil=>simp at hj
 | cons q L ih=>
  cases j with
  | zero=>simp[dO]
  | succ j=>
   simp only[List.length_cons]at hj
   have hj':j<L.length:=by omega
   have e:(q :: L)[j+1]=L[j]:=rfl
   rw[e]
   unfold dO
   rw[if_neg ((List.pairwise_cons.1 h).1 _ (List.getElem_mem hj')).1]
   exact ih (List.pairwise_cons.1 h).2 j hj'
open Go.RowKit
open Go.RowKit Go.Maps Go.Sort Go.Shelf
theorem oI {W:World} {g:Nat} {c:Int} (h:W.heap[g]?=some (.cells #[.int .u32 c] 27 (0,0))):∀ b,some (⟨g,0,none⟩:Addr)=some b→∀ j u,([c].map bQ)[j]?=some u→W.cell? (b.add j)=some u:=by
 intro b e j u hu
 cases e
 have hj:j=0:=by
  have:=(List.getElem?_eq_some_iff.1 hu).1
  simp at this;exact this
 subst hj
 simp at hu
 subst hu
 rw[Go.WideShapes.add_plain]
 exact gl h rfl
theorem qK {w:World} {B n:Nat} {e:TypeId} {cap:Nat} {xs:List Value} (h:w.ownsRow B e 1 (.slice none n cap) n xs):n=0∧cap=0:=by
 rcases h.2 with ⟨e,hn⟩ | ⟨g,cap,cur,e,_⟩
 ·simp only[Value.slice.injEq]at e;exact⟨hn,e.2.2⟩
 ·simp at e
theorem sK {w:World} {B n:Nat} {e:TypeId} {ad:Addr} {cap:Nat} {xs:List Value} (h:w.ownsRow B e 1 (.slice (some ad) n cap) n xs):∃ g,ad=⟨g,0,none⟩∧g<w.heap.size:=by
 rcases h.2 with ⟨e,hn⟩ | ⟨g,cap',cur,e,_,hgg,_⟩
 ·simp at e
 ·simp only[Value.slice.injEq,Option.some.injEq]at e
  exact⟨g,e.1,(Array.getElem?_eq_some_iff.1 hgg).1⟩
theorem oK {w:World} {B B' n:Nat} {e:TypeId} {v:Value} {xs:List Value} (h:w.ownsRow B e 1 v n xs) (hB:B'≤B):w.ownsRow B' e 1 v n xs:=by
 refine⟨h.1,?_⟩
 rcases h.2 with hn | ⟨g,cap,cur,rfl,hg,rest⟩
 ·exact .inl hn
 ·exact .inr ⟨g,cap,cur,rfl,by omega,rest⟩
theorem mq {w:World} {B:Nat} {v:Value} {l:List Int} (h:w.ownsRow B 27 1 v l.length (l.map bQ)):∃ a cap,v=.slice a l.length cap∧∀ i (hi:i<l.length),∃ g,a=ac g 0∧g<w.heap.size∧w.cell? ⟨g,i,none⟩=some (.int .u32 l[i]):=by
 obtain⟨a,cap,e,hr,_⟩:=kV h
 refine⟨a,cap,e,fun i hi=>?_⟩
 subst e
 cases a with
 | none=>
  have:=(qK h).1
  omega
 | some ad=>
  obtain⟨g,rfl,hg⟩:=sK h
  obtain⟨b,o,e2,hc⟩:=hr i hi
  cases e2
  exact⟨g,rfl,hg,by simpa using hc⟩
section
variable {w w':World} {b lost:Nat} {v1 v2:Value} {ds ns:List Nat}
end
theorem rk {ops:Array Oper} {rest:List Oper} {o:Oper} {a:Act} {w:World} {Q:Exit→Act→World→Prop} (hgd:o.guard=none) (s x:Operand)
  (ho:o.op=.call { callee:=.builtin .append,args:=#[s,x],argTypes:=#[55,55] }) (w0:World) (v:Value) (l:List Int) (c:Int) (g:Nat) (hs:a.eval s=v) (hx:a.eval x=.slice (ac g 0) 1 1)
  (hown:w.ownsRow w0.heap.size 27 1 v l.length (l.map bQ)) (hg:w.heap[g]?=some (.cells #[.int .u32 c] 27 (0,0))) (hl:l.length<100000) (hb:Below w0.heap.size w0 w)
  (h:∀ v' w',Hid (w'.ownsRow w0.heap.size 27 1 v' (l ++ [c]).length ((l ++ [c]).map bQ)∧Below w0.heap.size w0 w')→wpList prog ops Q rest (a.put o.dst v') w'):wpList prog ops Q (o :: rest) a w:=by
 obtain⟨i0,hi,hz0,hz1,hz2⟩:=info_parts kK
 refine wpList_append_own w hgd s x 55 ho w0.heap.size 27 i0 (.int .u32 0) 1 4 underlying55 hi hz0 hz1 hz2 rfl (by decide) v l.length (l.map bQ) hs hown ⟨g,0,none⟩ 1 1 ([c].map bQ) hx rfl (fun j u hu=>oI hg _ rfl j u hu) (by intro u hu;simp at hu;subst hu;rfl) (by unfold maxLen;omega) (by omega) hb.size ?_
 intro v' w' h1 h2 h3
 refine h v' w' ⟨?_,hb.grown h2 hb.size (fun k hk=>(hown.lt k hk).1)⟩
 rw[List.map_append,List.length_append]
 exact h1
end Go.Proofs.YtdpahjfekoikiaaGreat
namespace Go.Proofs.YtdpahjfekoikiaaGreat
open Tryz
open Go.RowKit Go.Maps Go.Sort Go.Shelf
theorem sF (b:Nat) (L:List Prt) (lost:Nat) (V:List Nat) (w:World) (h:Mxx w b L lost V) (hL:L.length≤12) (x:Nat→Dr) (on:Int→Bool) (hD:∀ j (hj:j<L.length),(∃ U,DV w (x j).d (x j).m (x j).g (x j).n (x j).mx (x j).P U (x j).s)∧(x j).d=(L[j]).d∧on ((L[j]).c:Nat)=aL (x j).s.v) :
  Calls prog 18 #[aa b 0] w fun e w'=>∃ (v:Value) (ls:List Int),e=.returned v∧Hid (ls.Perm ((lM L).filter on)∧ls.Pairwise (· ≤ ·)∧w'.ownsRow w.heap.size 27 1 v ls.length (ls.map bQ)∧Below w.heap.size w w'):=by
 have hC:=gX b L lost V w h hL
 have hfd:=sM
 obtain⟨l,mb,nn,D,hM,hV⟩:=h
 have H:Hid (_):=And.intro hM hD
 clear hM hD hV
 go_enter func18,ntmps18
 go_wp2_with (go_at_call 23;refine hC.mono ?_;rintro e w1 ⟨v,ls,rfl,h1⟩;obtain⟨a,cap,rfl,hcs⟩:=mq h1.out.2.2.1)
 obtain⟨n,en⟩:∃ n,n=ls.length:=⟨_,rfl⟩
 have HN:Hid (n=ls.length):=en
 have HC:Hid (_):=And.intro hcs h1.out
 have hn12:n≤12:=by rw[en,h1.out.1.length_eq];simpa [lM] using hL
 rw[← en]
 clear en hcs h1 hC
 go_loopw [3,5,9] (fun v _ c wr=>∃ i:Nat,i≤n∧c=.int .i64 ((i:Nat):Int)∧Hid (wr.ownsRow w1.heap.size 27 1 v ((ls.take i).filter on).length (((ls.take i).filter on).map bQ)∧Below w1.heap.size w1 wr)) (fun _ _ c _=>n-qy c)
 case atStart=>exact⟨0,by omega,rfl,World.ownsRow_nil _ _ _ _,Below.refl _ _⟩
 case round=>
  obtain⟨i,hi,rfl,HR⟩:=hrel
  by_cases hlt:i<n
  ·have hil:i<ls.length:=by rw[← HN.out];exact hlt
   obtain⟨g,rfl,hg,d1⟩:=HC.out.1 i hil
   have b1:=HC.out.2.2.2.2.2
   have d2:wr.cell? ⟨g,i,none⟩=some (.int .u32 ls[i]):=(World.cell?_of_block (HR.out.2.block g hg)).trans d1
   have bw:Below w.heap.size w wr:=b1.trans (HR.out.2.mono b1.size)
   have hMr:=H.out.1.off (o:=[]) (Off.of_below bw) (by simp)
   have c0:=hMr.c0
   have hmem:ls[i] ∈ lM L:=HC.out.2.1.mem_iff.1 (List.getElem_mem hil)
   obtain⟨p,hp,hpe⟩:=List.mem_map.1 hmem
   obtain⟨j,hj,rfl⟩:=List.getElem_of_mem hp
   obtain⟨⟨U,hDV⟩,hd,gP⟩:=H.out.2 j hj
   have hk:=hMr.look (L[j]).c (hMr.met _ (List.getElem_mem hj)).2.2
   unfold dM at hk
   rw[sq hMr.one j hj]at hk
   change _=Result.ok (Value.agg #[aa ((L[j]).d) 0,aa ((L[j]).k) 0]) _ at hk
   have hSee:=qY _ _ _ _ _ _ _ _ wr (hDV.below bw)
   rw[hd]at hSee
   have et:ls.take (i+1)=ls.take i ++ [ls[i]]:=List.take_succ_eq_append_getElem hil
   rw[← hpe]at d2 et
   have HF:Hid (_):=And.intro et (And.intro gP hj)
   generalize (x j).s=s at *
   generalize (x j).P=P at *
   generalize (L[j]).d=dd at *
   generalize (L[j]).k=kk at *
   have hcl:=(hMr.met _ (List.getElem_mem hj)).2.2
   generalize (L[j]).c=cc at *
   have hlen:((ls.take i).filter on).length<100000:=Nat.lt_of_le_of_lt (List.length_filter_le _ _) (by simp;omega)
   clear et gP hp hpe hmem hDV hMr bw d1
   have hcl:i<12:=by omega
   cases hv:aL s.v with
   | true=>
    rw[hv]at hSee
    have hfl:∀ a9 c9 w,(Instr.field 52 (.agg (gI s.st s.ss s.nm s.sn s.dc s.v.lat (bK s.v) true a9 P.o c9)) 7).run prog w=.ok (.bool true) w:=fun a9 c9 w=>by kernel_rfl
    go_wp2_with (first
     | (go_at_call 48;refine hSee.mono ?_;rintro e w3 ⟨a9,c9,rfl,h9⟩)
     | (at_builtin;refine rk rfl (.tmp 22) (.tmp 24) rfl w1 _ ((ls.take i).filter on) (cc:Nat) w3.heap.size rfl rfl (bN (bN HR.out.1 h9.out.2.2) ((Below.refl _ _).alloc (Nat.le_refl _) _)) (aB w3 _) hlen ((HR.out.2.trans (h9.out.2.2.mono HR.out.2.size)).alloc (Nat.le_trans HR.out.2.size h9.out.2.2.size) _) ?_;intro v' w4 H4))
    go_roundw
    case rel=>
     refine⟨i+1,by omega,by go_num,?_⟩
     obtain⟨et,gP,_⟩:=HF.out
     rw[et,List.filter_append,List.filter_cons,gP,hv]
     exact H4
    case measure=>simp[qy] <;> omega
   | false=>
    rw[hv]at hSee
    have hfl:∀ a9 c9 w,(Instr.field 52 (.agg (gI s.st s.ss s.nm s.sn s.dc s.v.lat (bK s.v) false a9 P.o c9)) 7).run prog w=.ok (.bool false) w:=fun a9 c9 w=>by kernel_rfl
    go_wp2_with (first
     | (go_at_call 48;refine hSee.mono ?_;rintro e w3 ⟨a9,c9,rfl,h9⟩))
    go_roundw
    case rel=>
     refine⟨i+1,by omega,by go_num,?_⟩
     obtain⟨et,gP,_⟩:=HF.out
     rw[et,List.filter_append,List.filter_cons,gP,hv]
     simp only[Bool.false_eq_true,if_false,List.filter_nil,List.append_nil]
     exact⟨bN HR.out.1 h9.out.2.2,HR.out.2.trans (h9.out.2.2.mono HR.out.2.size)⟩
    case measure=>simp[qy] <;> omega
  ·obtain rfl:i=n:=by omega
   go_wp2_with fail
   go_ret
   have e:ls.take i=ls:=List.take_of_length_le (by have:=HN.out;omega)
   have h5:=HR.out
   rw[e]at h5
   obtain⟨_,hp,hup,hrow,_,b1⟩:=HC.out
   exact⟨_,ls.filter on,rfl,hp.filter on,hup.filter on,oK h5.1 b1.size,b1.trans (h5.2.mono b1.size)⟩
open Go.RowKit Go.Maps
set_option linter.unusedVariables false
def PA (j:Nat):Pm:=⟨20-j,2,1,10,400⟩
theorem mQ {j:Nat} (h:j<3):Pok (PA j):=⟨by unfold iY PA;dsimp only;omega,by show 20-j<4294967296;omega,by show (400:Nat)<4294967296;omega⟩
def nL (j:Nat):Nat→Nat:=fun i=>if i=0 then j+1 else 9
def mS (j:Nat):Nat→Nat:=fun _=>j+41
def di {α:Type} (f:Nat→α) (i:Nat) (x:α):Nat→α:=fun j=>if j=i then x else f j
theorem aV {α:Type} (f:Nat→α) (i:Nat) (x:α):di f i x i=x:=if_pos rfl
theorem cq {α:Type} (f:Nat→α) {i j:Nat} (x:α) (h:j≠i):di f i x j=f j:=if_neg h
structure Mk where
 hh:Nat→Nat
 dd:Nat→Nat
 dm:Nat→Nat
 dg:Nat→Nat
 kk:Nat→Nat
 hs:Nat→Sh
 ds:Nat→Sd
 c:Nat→Nat
def iF (M:Mk) (n:Nat):List Prt:=(List.range n).map fun j=>⟨20-j,M.dd j,M.kk j,M.c j⟩
def Mk.dr (M:Mk) (j:Nat):Dr:=⟨M.dd j,M.dm j,M.dg j,16,5,PA j,M.ds j⟩
def uk (d:Nat) (P:Pm) (s:Sh) (U:List Nat):Thing:=⟨U,fun w=>HV w d P U s,fun _ _ _ h o hl=>HV.off h o hl⟩
def t6 (d:Nat):Value:=aa d 0
theorem qL {w w':World} {l:List Nat} {B e s n:Nat} {v:Value} {xs:List Value} (h:w.ownsRow B e s v n xs) (o:Off l w w') (hl:∀ k,v.ownBlock=some k→k ∉ l):w'.ownsRow B e s v n xs:=by
 refine⟨h.1,?_⟩
 rcases h.2 with hn | ⟨g,cap,cur,rfl,hg,hgg,rest⟩
 ·exact .inl hn
 ·exact .inr ⟨g,cap,cur,rfl,hg,by rw[o.block g (Array.getElem?_eq_some_iff.1 hgg).1 (hl g rfl)];exact hgg,rest⟩
def um (v:Value) (ps:List Nat):Thing:=⟨v.ownBlock.toList,fun w=>w.ownsRow 0 38 1 v ps.length (ps.map t6),fun w w' l h o hl=>qL h o (fun k hk=>hl k (by rw[hk];simp))⟩
def vP (g:Nat) (ob:Obj):Thing:=⟨[g],fun w=>w.heap[g]?=some ob,fun w w' q h o hl=>(o.block g (Array.getElem?_eq_some_iff.1 h).1 (hl g (by simp))).trans h⟩
theorem Al.fresh {w0 w w':World} {t:Nat→Thing} (h:Al w0 w t) (b:Below w.heap.size w w') (i:Nat) (x:Thing) (hx:x.T w') (hl:∀ k,k ∈ x.U→w.heap.size≤k∧k<w'.heap.size):Al w0 w' (dh t i x):=
 (h.below b).turn i x (Off.refl _ _) hx (fun k hk=>⟨Nat.le_trans h.size (hl k hk).1,(hl k hk).2⟩) (fun k hk j _ hm=>by have:=(h.lt j k hm).2;have:=(hl k hk).1;omega)
structure Lay (w0 w:World) (b nd nh np:Nat) (v:Value) (ps:List Nat) (M:Mk) (z:Thing) (t:Nat→Thing) (V:List Nat) (U W:Nat→List Nat):Prop where
 al:Al w0 w t
 e0:t 0=qx b (iF M np) 0 V
 eh:∀ j,j<nh→t (2*j+1)=uk (M.hh j) (PA j) (M.hs j) (U j)
 ed:∀ j,j<nd→t (2*j+2)=sh (M.dr j) (W j)
 e7:t 7=um v ps
 e8:t 8=z
def Sc (w0 w:World) (b nd nh np:Nat) (v:Value) (ps:List Nat) (M:Mk) (z:Thing):Prop:=∃ t V U W,Lay w0 w b nd nh np v ps M z t V U W
section
variable {w0 w w':World} {b nd nh np:Nat} {v:Value} {ps:List Nat} {M:Mk} {z:Thing}
theorem Sc.below (h:Sc w0 w b nd nh np v ps M z) (bl:Below w.heap.size w w'):Sc w0 w' b nd nh np v ps M z:=by
 obtain⟨t,V,U,W,h⟩:=h
 exact⟨t,V,U,W,h.al.below bl,h.e0,h.eh,h.ed,h.e7,h.e8⟩
theorem Sc.bel (h:Sc w0 w b nd nh np v ps M z):Below w0.heap.size w0 w:=by
 obtain⟨t,V,U,W,h⟩:=h
 exact h.al.bel
theorem qu {M M':Mk} {n:Nat} (h:∀ j,j<n→M'.dd j=M.dd j∧M'.kk j=M.kk j∧M'.c j=M.c j):iF M' n=iF M n:=by
 unfold iF
 refine List.map_congr_left fun j hj=>?_
 obtain⟨a,b,c⟩:=h j (List.mem_range.1 hj)
 rw[a,b,c]
theorem Sc.dev (h:Sc w0 w b nd nh np v ps M z) (hn:nd<3) (hp:np≤nd) {d m g:Nat} {s:Sd} {W':List Nat} (bl:Below w.heap.size w w') (D:DV w' d m g 16 5 (PA nd) W' s) (hW:∀ k,k ∈ W'→w.heap.size≤k) :
  Sc w0 w' b (nd+1) nh np v ps { M with dd:=di M.dd nd d,dm:=di M.dm nd m,dg:=di M.dg nd g,ds:=di M.ds nd s } z:=by
 obtain⟨t,V,U,W,h⟩:=h
 refine⟨dh t (2*nd+2) (sh ⟨d,m,g,16,5,PA nd,s⟩ W'),V,U,di W nd W',h.al.fresh bl _ _ D (fun k hk=>⟨hW k hk,D.ult k hk⟩),?_,fun j hj=>?_,fun j hj=>?_,?_,?_⟩
 ·rw[ag _ _ (by omega),h.e0,qu (M':={ M with dd:=di M.dd nd d,dm:=di M.dm nd m,dg:=di M.dg nd g,ds:=di M.ds nd s }) (M:=M) (fun j hj=>⟨cq _ _ (by omega),rfl,rfl⟩)]
 ·rw[ag _ _ (by omega),h.eh j hj]
 ·by_cases e:j=nd
  ·subst e
   rw[aR]
   unfold Mk.dr
   simp only[aV]
  ·rw[ag _ _ (by omega),h.ed j (by omega)]
   unfold Mk.dr
   simp only[cq _ _ e]
 ·rw[ag _ _ (by omega),h.e7]
 ·rw[ag _ _ (by omega),h.e8]
theorem Sc.host (h:Sc w0 w b nd nh np v ps M z) (hn:nh<3) {d:Nat} {s:Sh} {U':List Nat} (bl:Below w.heap.size w w') (D:HV w' d (PA nh) U' s) (hU:∀ k,k ∈ U'→w.heap.size≤k) :
  Sc w0 w' b nd (nh+1) np v ps { M with hh:=di M.hh nh d,hs:=di M.hs nh s } z:=by
 obtain⟨t,V,U,W,h⟩:=h
 refine⟨dh t (2*nh+1) (uk d (PA nh) s U'),V,di U nh U',W,h.al.fresh bl _ _ D (fun k hk=>⟨hU k hk,D.ult k hk⟩),?_,fun j hj=>?_,fun j hj=>?_,?_,?_⟩
 ·rw[ag _ _ (by omega),h.e0];rfl
 ·by_cases e:j=nh
  ·subst e
   rw[aR]
   simp only[aV]
  ·rw[ag _ _ (by omega),h.eh j (by omega)]
   simp only[cq _ _ e]
 ·rw[ag _ _ (by omega),h.ed j hj];rfl
 ·rw[ag _ _ (by omega),h.e7]
 ·rw[ag _ _ (by omega),h.e8]
theorem kX (M:Mk) {n:Nat} (hn:n<3) (k:Nat):iz (iF M n) (20-n)=0∧iA (iF M n) (20-n) (M.dd n) k=iF { M with kk:=di M.kk n k,c:=di M.c n 0 } (n+1):=by
 rcases (by omega:n=0∨n=1∨n=2) with rfl | rfl | rfl <;> exact⟨rfl,rfl⟩
theorem Sc.add (h:Sc w0 w b nd nh np v ps M z) (hn:np<3) (hd:np<nd) :
  Calls prog 10 #[aa b 0,aa (M.dd np) 0] w fun e w'=>e=.returned (.int .i64 0)∧Hid (Sc w0 w' b nd nh (np+1) v ps { M with kk:=di M.kk np w.heap.size,c:=di M.c np 0 } z):=by
 obtain⟨t,V,U,W,h⟩:=h
 have D:=(h.al.dv (h.ed np hd)).code
 have q:=gW b (M.dd np) (20-np) (iF M np) 0 V w (h.al.mx h.e0) (by omega) D.1 D.2.1 (by unfold iF;simp;omega)
 rw[(kX M hn w.heap.size).1,(kX M hn w.heap.size).2]at q
 refine q.mono ?_
 rintro e w' ⟨rfl,H⟩
 obtain⟨V',o,m,hV⟩:=H.out
 refine⟨rfl,dh t 0 (qx b (iF { M with kk:=di M.kk np w.heap.size,c:=di M.c np 0 } (np+1)) 0 V'),V',U,W,h.al.put0 h.e0 o m (fun k hk=>by rcases hV k hk with e | e;(exact .inl e);exact .inr (by omega)),aR _ _ _,fun j hj=>?_,fun j hj=>?_,?_,?_⟩
 ·rw[ag _ _ (by omega),h.eh j hj]
 ·rw[ag _ _ (by omega),h.ed j hj];rfl
 ·rw[ag _ _ (by omega),h.e7]
 ·rw[ag _ _ (by omega),h.e8]
theorem Sc.hv (h:Sc w0 w b nd nh np v ps M z) {j:Nat} (hj:j<nh) (h3:j<3):∃ U,HV w (M.hh j) (PA j) U (M.hs j)∧∀ w' s',(∃ U',Gr U w U' w'∧HV w' (M.hh j) (PA j) U' s')→Sc w0 w' b nd nh np v ps { M with hs:=di M.hs j s' } z:=by
 obtain⟨t,V,U,W,h⟩:=h
 refine⟨U j,h.al.get (h.eh j hj),?_⟩
 rintro w' s' ⟨U',g,D⟩
 refine⟨dh t (2*j+1) (uk (M.hh j) (PA j) s' U'),V,di U j U',W,h.al.step _ _ (by rw[h.eh j hj];rfl) g D (fun k hk=>D.ult k hk),?_,fun i hi=>?_,fun i hi=>?_,?_,?_⟩
 ·rw[ag _ _ (by omega),h.e0];rfl
 ·by_cases e:i=j
  ·subst e
   rw[aR]
   simp only[aV]
  ·rw[ag _ _ (by omega),h.eh i hi]
   simp only[cq _ _ e]
 ·rw[ag _ _ (by omega),h.ed i hi];rfl
 ·rw[ag _ _ (by omega),h.e7]
 ·rw[ag _ _ (by omega),h.e8]
theorem Sc.dv (h:Sc w0 w b nd nh np v ps M z) {j:Nat} (hj:j<nd) (h3:j<3):∃ U,DV w (M.dd j) (M.dm j) (M.dg j) 16 5 (PA j) U (M.ds j)∧∀ w' s',(∃ U',Gr U w U' w'∧DV w' (M.dd j) (M.dm j) (M.dg j) 16 5 (PA j) U' s')→Sc w0 w' b nd nh np v ps { M with ds:=di M.ds j s' } z:=by
 obtain⟨t,V,U,W,h⟩:=h
 refine⟨W j,h.al.dv (h.ed j hj),?_⟩
 rintro w' s' ⟨U',g,D⟩
 refine⟨dh t (2*j+2) (sh ⟨M.dd j,M.dm j,M.dg j,16,5,PA j,s'⟩ U'),V,U,di W j U',h.al.stepD (h.ed j hj) g D,?_,fun i hi=>?_,fun i hi=>?_,?_,?_⟩
 ·rw[ag _ _ (by omega),h.e0];rfl
 ·rw[ag _ _ (by omega),h.eh i hi]
 ·by_cases e:i=j
  ·subst e
   rw[aR]
   unfold Mk.dr
   simp only[aV]
  ·rw[ag _ _ (by omega),h.ed i hi]
   unfold Mk.dr
   simp only[cq _ _ e]
 ·rw[ag _ _ (by omega),h.e7]
 ·rw[ag _ _ (by omega),h.e8]
theorem sL {B e size n k:Nat} {v:Value} {xs:List Value} (h:w.ownsRow B e size v n xs) (hk:v.ownBlock=some k):k<w.heap.size:=by
 rcases h.2 with ⟨rfl,_⟩ | ⟨g,cap,cur,rfl,hB,hgg,_⟩
 ·cases hk
 ·cases hk
  exact (Array.getElem?_eq_some_iff.1 hgg).1
theorem Sc.list (h:Sc w0 w b nd nh np v ps M z) (h3:nh≤3):w.ownsRow 0 38 1 v ps.length (ps.map t6)∧∀ w' v' ps',w'.ownsRow 0 38 1 v' ps'.length (ps'.map t6)→w.grownBy w' v.ownBlock→(v'.ownBlock=v.ownBlock∨v'.ownBlock=some w.heap.size)→Sc w0 w' b nd nh np v' ps' M z:=by
 obtain⟨t,V,U,W,h⟩:=h
 refine⟨h.al.get h.e7,?_⟩
 intro w' v' ps' O G E
 refine⟨dh t 7 (um v' ps'),V,U,W,h.al.step 7 (um v' ps') (U:=v.ownBlock.toList) (by rw[h.e7];rfl) ⟨⟨G.os,G.tape,G.output,G.size,fun x hx hn=>G.block x hx (fun e=>hn (by rw[← e];simp))⟩,fun k hk=>?_⟩ O (fun k hk=>sL O (by simpa [um] using hk)),?_,fun i hi=>?_,fun i hi=>?_,?_,?_⟩
 ·have hk:k ∈ v'.ownBlock.toList:=hk
  rcases E with e | e
  ·rw[e]at hk
   exact .inl hk
  ·rw[e]at hk
   simp at hk
   exact .inr (by omega)
 ·rw[ag _ _ (by omega),h.e0]
 ·rw[ag _ _ (by omega),h.eh i hi]
 ·rw[ag _ _ (by omega),h.ed i hi]
 ·rw[aR]
 ·rw[ag _ _ (by omega),h.e8]
theorem Sc.side (h:Sc w0 w b nd nh np v ps M z) (h3:nd≤3):z.T w∧∀ w' z',Gr z.U w z'.U w'→z'.T w'→(∀ k,k ∈ z'.U→k<w'.heap.size)→Sc w0 w' b nd nh np v ps M z':=by
 obtain⟨t,V,U,W,h⟩:=h
 refine⟨h.al.get h.e8,?_⟩
 intro w' z' g T hl
 refine⟨dh t 8 z',V,U,W,h.al.step 8 z' (by rw[h.e8]) g T hl,?_,fun i hi=>?_,fun i hi=>?_,?_,?_⟩
 ·rw[ag _ _ (by omega),h.e0]
 ·rw[ag _ _ (by omega),h.eh i hi]
 ·rw[ag _ _ (by omega),h.ed i hi]
 ·rw[ag _ _ (by omega),h.e7]
 ·rw[aR]
end
theorem ng (M:Mk) {k:Nat} (hk:k<3):dO (iF M 3) (20-k)=some ⟨20-k,M.dd k,M.kk k,M.c k⟩:=by
 rcases (by omega:k=0∨k=1∨k=2) with rfl | rfl | rfl <;> rfl
theorem qt (M:Mk) {k:Nat} (hk:k<3):bump (iF M 3) (20-k)=iF { M with c:=di M.c k (M.c k+1) } 3:=by
 rcases (by omega:k=0∨k=1∨k=2) with rfl | rfl | rfl <;> rfl
end Go.Proofs.YtdpahjfekoikiaaGreat
namespace Go.Proofs.YtdpahjfekoikiaaGreat
open Tryz
open Go.RowKit Go.Maps
set_option linter.unusedVariables false
section
variable {w0 w w':World} {b:Nat} {v:Value} {ps:List Nat} {M:Mk} {z:Thing}
def uj (M:Mk):Prop:=∀ j,j<3→Tx (PA j) (M.hs j) (M.ds j) (M.c j) (nL j) (mS j)
theorem Sc.seen (h:Sc w0 w b 3 3 3 v ps M z) {k:Nat} (hk:k<3) (hc:M.c k<1000000) :
  Calls prog 17 #[aa b 0,.int .u32 ((20-k:Nat):Int)] w fun e w'=>e=.returned (.int .i64 ((M.c k:Nat):Int))∧w'=w:=by
 obtain⟨t,V,U,W,h⟩:=h
 have e:tt (iF M 3) (20-k)=M.c k:=by unfold tt;rw[ng M hk]
 have q:=iW b (iF M 3) 0 V (20-k) w (h.al.mx h.e0) (by omega) (by rw[e];exact hc)
 rw[e]at q
 exact q
theorem Sc.lost (h:Sc w0 w b 3 3 3 v ps M z):Calls prog 19 #[aa b 0] w fun e w'=>e=.returned (.int .i64 0)∧w'=w:=by
 obtain⟨t,V,U,W,h⟩:=h
 exact oE b (iF M 3) 0 V w (h.al.mx h.e0) (by omega)
def cD (c:Nat→Nat):Nat→Nat
 | 0=>0
 | n+1=>cD c n + (if 3<c n then 1 else 0)
theorem Sc.onX (h:Sc w0 w b 3 3 3 v ps M z) (T:uj M):Calls prog 18 #[aa b 0] w fun e w'=>∃ a cp,e=.returned (.slice a (cD M.c 3) cp)∧Hid (Below w.heap.size w w'):=by
 obtain⟨t,V,U,W,h⟩:=h
 have q:=sF b (iF M 3) 0 V w (h.al.mx h.e0) (by show (3:Nat)≤12;omega) M.dr (fun y=>decide (3<M.c (20-y).toNat)) (fun j hj=>by
  have hj:j<3:=hj
  refine⟨⟨W j,h.al.dv (h.ed j hj)⟩,?_⟩
  rcases (by omega:j=0∨j=1∨j=2) with rfl | rfl | rfl
  ·exact⟨rfl,((T 0 (by omega)).vond).symm⟩
  ·exact⟨rfl,((T 1 (by omega)).vond).symm⟩
  ·exact⟨rfl,((T 2 (by omega)).vond).symm⟩)
 refine q.mono ?_
 rintro e w' ⟨v',ls,rfl,H⟩
 obtain⟨pm,_,O,bl⟩:=H.out
 have hl:ls.length=cD M.c 3:=by
  rw[pm.length_eq]
  show (((([20,19,18]:List Int)).filter fun y=>decide (3<M.c (20-y).toNat))).length=((0+if 3<M.c 0 then 1 else 0)+if 3<M.c 1 then 1 else 0)+if 3<M.c 2 then 1 else 0
  have a0:((20:Int)-20).toNat=0:=rfl
  have a1:((20:Int)-19).toNat=1:=rfl
  have a2:((20:Int)-18).toNat=2:=rfl
  simp only[List.filter_cons,List.filter_nil,a0,a1,a2]
  by_cases c0:3<M.c 0 <;> by_cases c1:3<M.c 1 <;> by_cases c2:3<M.c 2 <;> simp[c0,c1,c2]
 obtain⟨a,cp,e,_⟩:∃ a cp,v'=.slice a ls.length cp∧True:=by
  rcases O.2 with ⟨rfl,hn⟩ | ⟨g,cap,cur,rfl,_⟩
  ·exact⟨none,0,by rw[hn],trivial⟩
  ·exact⟨_,_,rfl,trivial⟩
 subst e
 rw[hl]
 exact⟨a,cp,rfl,bl⟩
theorem Sc.exch (h:Sc w0 w b 3 3 3 v ps M z) (T:uj M) {k:Nat} (hk:k<3) (hc:M.c k<400) :
  Calls prog 13 #[aa (M.hh k) 0] w fun e w1=>∃ a1 n1 c1,e=.returned (.tuple #[.slice a1 n1 c1,.int .i64 0]) ∧
   Hid ((∃ M1,Sc w0 w1 b 3 3 3 v ps M1 z∧M1.hh=M.hh)∧∀ wx,Below w1.heap.size w1 wx→Calls prog 14 #[aa b 0,.slice a1 n1 c1] wx fun e w2=>∃ a2 n2 c2,e=.returned (.tuple #[.int .u32 ((20-k:Nat):Int),.slice a2 n2 c2,.int .i64 0]) ∧
    Hid ((∃ M2,Sc w0 w2 b 3 3 3 v ps M2 z∧M2.hh=M.hh)∧∀ wy,Below w2.heap.size w2 wy→Calls prog 15 #[aa (M.hh k) 0,.slice a2 n2 c2] wy fun e w3=>e=.returned (.int .i64 0) ∧
     Hid (∃ M3,Sc w0 w3 b 3 3 3 v ps M3 z∧M3.hh=M.hh∧M3.c=di M.c k (M.c k+1)∧uj M3))):=by
 obtain⟨t,V,U,W,h⟩:=h
 have hP:=mQ hk
 have Tk:=T k hk
 have Dk:DV w (M.dd k) (M.dm k) (M.dg k) 16 5 (PA k) (W k) (M.ds k):=h.al.dv (h.ed k hk)
 have Mo:=Mo.of Dk
 obtain⟨s1,s2,s3,s4,s5,s6,s7,s8⟩:=Tk.step hP Mo (fun i hi=>by unfold nL;split <;> omega) (fun i hi=>by unfold mS;omega) hc
 have hv:HV w (M.hh k) (PA k) (U k) (M.hs k):=h.al.get (h.eh k hk)
 have Lh:=Tk.Lh
 have Ld:=Tk.Ld
 have dt:=Tk.dt
 have q:=oz (M.hh k) (PA k) (U k) (M.hs k) w hv Tk.ih.ms ⟨Tk.ih.st1,Tk.ih.st5⟩ (Tk.ih.sentY hP) (by omega)
 rw[s1]at q
 refine q.mono ?_
 rintro e w1 ⟨v1,rfl,H1⟩
 obtain⟨U',g,hv',fr,nU⟩:=H1.out
 obtain⟨a1,c1,rfl,r1⟩:=fr.row s6
 have A1:Al w0 w1 (dh t (2*k+1) (uk (M.hh k) (PA k) (aj (PA k) (M.hs k)) U')):=h.al.step _ _ (by rw[h.eh k hk];rfl) g hv' (fun k hk=>hv'.ult k hk)
 have L1:Lay w0 w1 b 3 3 3 v ps { M with hs:=di M.hs k (aj (PA k) (M.hs k)) } z (dh t (2*k+1) (uk (M.hh k) (PA k) (aj (PA k) (M.hs k)) U')) V (di U k U') W:=by
  refine⟨A1,?_,fun i hi=>?_,fun i hi=>?_,?_,?_⟩
  ·rw[ag _ _ (by omega),h.e0];rfl
  ·by_cases e:i=k
   ·subst e
    rw[aR]
    simp only[aV]
   ·rw[ag _ _ (by omega),h.eh i hi]
    simp only[cq _ _ e]
  ·rw[ag _ _ (by omega),h.ed i hi];rfl
  ·rw[ag _ _ (by omega),h.e7]
  ·rw[ag _ _ (by omega),h.e8]
 have hge:∀ x,a1=some x→x.block ∉ V:=by
  intro x hx hm
  have h1:=(h.al.lt 0 x.block (by rw[h.e0];exact hm)).2
  have h2:=fr.ge x.block (by rw[hx];rfl)
  omega
 refine⟨a1,_,c1,rfl,⟨_,⟨_,_,_,_,L1⟩,rfl⟩,?_⟩
 intro wx bx
 have A1x:=A1.below bx
 have e0:=L1.e0
 have ed:=L1.ed k hk
 have dj:∀ x,x ∈ W k→x ∉ V:=fun x hx hm=>by
  have:=A1.dis (2*k+2) 0 (by omega) x (by rw[ed];exact hx)
  rw[e0]at this
  exact this hm
 have q2:=iV b (iF M 3) 0 V ⟨20-k,M.dd k,M.kk k,M.c k⟩ (M.dm k) (M.dg k) 16 5 (PA k) (W k) (M.ds k) a1 _ c1 _ wx (A1x.mx e0) (A1x.dv ed) dj (r1.below bx) s2 (by rw[s3];exact ng M hk) rfl (by show M.c k<1000000;omega) (fun e=>by have:=(Tk.iv.run e);have:=(show (PA k).n=400 from rfl);omega) Tk.iv.od (by omega) (by omega) hge
 rw[s4]at q2
 refine q2.mono ?_
 rintro e w2 ⟨v2,rfl,H2⟩
 obtain⟨wm,oV,Dm,⟨W',g2,D2,f2,n2⟩,m2,m1⟩:=H2.out
 obtain⟨a2,c2,rfl,r2⟩:=f2.row s7
 have eb:bump (iF M 3) ((⟨20-k,M.dd k,M.kk k,M.c k⟩:Prt).c)=iF { M with c:=di M.c k (M.c k+1) } 3:=qt M hk
 rw[eb]at m1 m2
 have A2:Al w0 wm (dh (dh t (2*k+1) (uk (M.hh k) (PA k) (aj (PA k) (M.hs k)) U')) 0 (qx b (iF { M with c:=di M.c k (M.c k+1) } 3) 0 V)):=A1x.put0 e0 oV m1 (fun k hk=>.inl hk)
 have A3:=A2.stepD (i:=2*k+2) (x:=Mk.dr { M with hs:=di M.hs k (aj (PA k) (M.hs k)) } k) (U:=W k) (by rw[ag _ _ (by omega)];exact ed) g2 D2
 have L2:∃ t3,Lay w0 w2 b 3 3 3 v ps { M with hs:=di M.hs k (aj (PA k) (M.hs k)),c:=di M.c k (M.c k+1),ds:=di M.ds k (aI (PA k) 5 16 (M.ds k) (af (PA k) (M.hs k)).1 (af (PA k) (M.hs k)).2).s } z t3 V (di U k U') (di W k W'):=by
  refine⟨_,A3,?_,fun i hi=>?_,fun i hi=>?_,?_,?_⟩
  ·rw[ag _ _ (by omega),aR];rfl
  ·rw[ag _ _ (by omega),ag _ _ (by omega),L1.eh i hi]
  ·by_cases e:i=k
   ·subst e
    rw[aR]
    unfold Mk.dr
    simp only[aV]
   ·rw[ag _ _ (by omega),ag _ _ (by omega),L1.ed i hi]
    unfold Mk.dr
    simp only[cq _ _ e]
  ·rw[ag _ _ (by omega),ag _ _ (by omega),L1.e7]
  ·rw[ag _ _ (by omega),ag _ _ (by omega),L1.e8]
 obtain⟨t3,L2⟩:=L2
 refine⟨a2,_,c2,rfl,⟨_,⟨_,_,_,_,L2⟩,rfl⟩,?_⟩
 intro wy by_
 have S2:Sc w0 wy b 3 3 3 v ps _ z:=Sc.below ⟨_,_,_,_,L2⟩ by_
 obtain⟨U3,hv3,nxt⟩:=S2.hv hk hk
 have hv4:HV wy (M.hh k) (PA k) U3 (aj (PA k) (M.hs k)):=by
  have q:=hv3
  simp only[aV]at q
  exact q
 have l1:=iR (PA k) (M.hs k)
 have q3:=jx (M.hh k) (PA k) U3 (aj (PA k) (M.hs k)) a2 _ c2 _ wy hv4 (r2.below by_) (by omega)
 rw[s5]at q3
 refine q3.mono ?_
 rintro e w3 ⟨rfl,H3⟩
 refine⟨rfl,_,nxt w3 _ H3.out,rfl,rfl,fun j hj=>?_⟩
 by_cases e:j=k
 ·subst e
  simp only[aV]
  exact s8
 ·simp only[cq _ _ e]
  exact T j hj
end
end Go.Proofs.YtdpahjfekoikiaaGreat
namespace Go.Proofs.YtdpahjfekoikiaaGreat
open Tryz
open Go.RowKit
theorem BRow.nums {k:IntKind} {w:World} {a:Option Addr} {len cap:Nat} {zs:List Int} (h:BRow k w a len cap zs) (hp:0<len) :
  ∃ b off,a=ac b off∧b<w.heap.size∧∀ i,i<len→w.cell? ⟨b,off+i,none⟩=some (.int k (zs.getD i 0))∧(Lit.int k (zs.getD i 0)).wf=true:=by
 rcases h with ⟨_,rfl,_,_⟩ | ⟨x,rfl,hl,_,hz,hc,hw⟩
 ·omega
 ·obtain⟨b,off,spot⟩:=x
  have h0:=hc 0 (by omega)
  have hspot:spot=none:=by simpa [Addr.add] using World.cell?_spot h0
  subst hspot
  rw[Go.WideShapes.add_plain]at h0
  refine⟨b,off,rfl,World.block_lt_of_cell? w _ h0,fun i hi=>⟨?_,hw _ ?_⟩⟩
  ·have h1:=hc i (by omega)
   rw[Go.WideShapes.add_plain]at h1
   exact h1
  ·have:i<zs.length:=by omega
   rw[List.getD_eq_getElem?_getD,List.getElem?_eq_getElem this]
   exact List.getElem_mem this
end Go.Proofs.YtdpahjfekoikiaaGreat
