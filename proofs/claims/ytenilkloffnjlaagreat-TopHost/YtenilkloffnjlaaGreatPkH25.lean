/- Part 26: contracts that the proof rests on. -/
import Derived.Deep.RegionHeld3
import Derived.Sort.WalkA
import Derived.Test.YtenilkloffnjlaaGreatPkH21
set_option maxHeartbeats 64000000
set_option maxRecDepth 100000
namespace Go.Proofs.YtenilkloffnjlaaGreat
open Tryz
open Go.RowKit
theorem qW (d m g n mx:Nat) (P:Pm) (U:List Nat) (s:Sd) (k:Int) (w:World) (h:DV w d m g n mx P U s) (hk:k≤9223372036854775807) (hL:s.L.length<800000) :
  Calls prog 266 #[ac d 0,.int .i64 k] w fun e w'=>e=.returned (.int .i64 (eU s k))∧Hid (∃ U',Gr U w U' w'∧DV w' d m g n mx P U' (eV P s k)):=by
 obtain⟨B,x⟩:=id h
 have c11:=x.cells.2.2.2.2.2.2.2.2.2.2.2.1
 have c9:=x.cells.2.2.2.2.2.2.2.2.2.1
 unfold eU eV
 by_cases h6:s.st=6
 ·rw[if_pos h6,if_pos h6]
  rw[h6]at c11
  have q:=fp d w c11
  have H:Hid (_):=h
  clear h x c9 c11 h6
  go_enter func266,ntmps266
  go_wp2_with (go_at_call 140;refine q.mono ?_;rintro e w' ⟨rfl,hw⟩;have hw:=hw.symm;subst hw)
  go_ret
  exact⟨rfl,U,Gr.refl _ _,H.out⟩
 ·rw[if_neg h6,if_neg h6]
  have q:=ia d s.st w c11 h6
  by_cases hn:k<0
  ·rw[if_pos hn,if_pos hn]
   have qT:=lJ k B.db w hn
   have H:Hid (_):=h
   clear h x c11 h6
   go_enter func266,ntmps266
   go_wp2_with (first | (go_at_call 140;refine q.mono ?_;rintro e w' ⟨rfl,hw⟩;have hw:=hw.symm;subst hw) | (go_at_call 260;refine qT.mono ?_;rintro e w' ⟨rfl,hw⟩;have hw:=hw.symm;subst hw))
   go_ret
   exact⟨rfl,U,Gr.refl _ _,H.out⟩
  ·rw[if_neg hn,if_neg hn]
   obtain⟨j,rfl⟩:∃ j:Nat,k=(j:Int):=⟨k.toNat,by omega⟩
   rw[show (j:Int).toNat=j from rfl]
   have qT:=lI P.t s.dc j B.db w x.dog (by omega)
   have HX:Hid (_):=x
   have HL:Hid (_):=hL
   clear h x c11 h6 hn hk hL
   cases ht:lW P.t s.dc j
   ·rw[if_neg (by simp)]
    rw[ht]at qT
    go_enter func266,ntmps266
    go_wp2_with (first | (go_at_call 140;refine q.mono ?_;rintro e w' ⟨rfl,hw⟩;have hw:=hw.symm;subst hw) | (go_at_call 260;refine qT.mono ?_;rintro e w2 ⟨rfl,o2,d2⟩;have H2:Hid (_):=And.intro (Gr.same (U:=U) o2 (by simp[HX.out.kb.2])) (HX.out.dogd o2 d2);clear o2 d2))
    go_ret
    exact⟨rfl,U,H2.out.1,B,H2.out.2⟩
   ·rw[if_pos rfl]
    rw[ht]at qT
    go_enter func266,ntmps266
    go_wp2_with (first | (go_at_call 140;refine q.mono ?_;rintro e w' ⟨rfl,hw⟩;have hw:=hw.symm;subst hw) | (go_at_call 260;refine qT.mono ?_;rintro e w2 ⟨rfl,o2,d2⟩;have H2:Hid (_):=And.intro (Gr.same (U:=U) o2 (by simp[HX.out.kb.2])) (HX.out.dogd o2 d2);clear o2 d2))
    refine (fe d m g n mx P U { s with dc:=tk P.t s.dc j } 100 w2 ⟨B,H2.out.2⟩ (by omega) (by decide) (by have:=HL.out;show s.L.length<900000;omega)).mono ?_
    rintro e w3 ⟨rfl,h3⟩
    clear qT q
    go_wp2_with fail
    go_ret
    obtain⟨U3,g3,x3⟩:=h3.out
    exact⟨rfl,U3,H2.out.1.trans g3,x3⟩
theorem tz (d m g n mx:Nat) (P:Pm) (U:List Nat) (s:Sd) (w:World) (h:DV w d m g n mx P U s) :
  Calls prog 265 #[ac d 0] w fun e w'=>e=.returned (.int .i64 (gr s))∧Hid (∃ U',Gr U w U' w'∧DV w' d m g n mx P U' (gt s)):=by
 obtain⟨B,x⟩:=id h
 have c11:=x.cells.2.2.2.2.2.2.2.2.2.2.2.1
 have c10:=x.cells.2.2.2.2.2.2.2.2.2.2.1
 unfold gr gt
 by_cases h6:s.st=6
 ·rw[if_pos h6,if_pos h6]
  rw[h6]at c11
  have q:=fp d w c11
  have H:Hid (_):=h
  clear h x c10 c11 h6
  go_enter func265,ntmps265
  go_wp2_with (go_at_call 140;refine q.mono ?_;rintro e w' ⟨rfl,hw⟩;have hw:=hw.symm;subst hw)
  go_ret
  exact⟨rfl,U,Gr.refl _ _,H.out⟩
 ·rw[if_neg h6,if_neg h6]
  have q:=ia d s.st w c11 h6
  have qA:=qx _ _ _ _ _ _ x.val
  have HX:Hid (_):=x
  clear h x c11 h6
  go_enter func265,ntmps265
  go_wp2_with (first | (go_at_call 140;refine q.mono ?_;rintro e w' ⟨rfl,hw⟩;have hw:=hw.symm;subst hw) | (go_at_call 259;refine qA.mono ?_;rintro e w2 ⟨rfl,h2⟩))
  go_ret
  obtain⟨U2,B2,g2,x2⟩:=HX.out.vals h2.out.1 h2.out.2
  exact⟨rfl,U2,g2,B2,x2⟩
theorem DX.appd {w w1 w2:World} {d m g n mx:Nat} {P:Pm} {U:List Nat} {s s':Sd} {B:Bk} {A A':Prop} (h:DX w d m g n mx P U s B A) {v:Value} {bs:Nat→Nat} (hb:Below w.heap.size w w1) (ho:w1.ownsRow w.heap.size 5 1 v P.i (CB bs P.i)) (hy:∀ i,i<P.i→bs i<256) (o:Off [d] w1 w2)
  (e:w2.heap[d]?=some (.cells (jS P m mx B.cp B.lb B.db B.vb s' v) 147 (0,0))) (h1:s'.ms=s.ms) (h2:s'.dc=s.dc) (h3:s'.v=s.v) (h4:s'.L=s.L) (h5:s'.ap=bs) (h6:A'→A) :
  ∃ U' B',Gr U w U' w2∧DX w2 d m g n mx P U' s' B' A':=by
 have x1:=h.newd (Off.of_below (l:=[]) hb)
 have hd:=h.dlt
 have hn:∀ k,B.col k≠0→k ∉ [d]:=fun k hk hm=>by simp at hm;rw[hm,h.kd.1]at hk;exact hk rfl
 have hge:∀ k,v.ownBlock=some k→w.heap.size≤k:=fun k hk=>Fr.ge (f:=(P.i,bs)) ho k hk
 have hlt:∀ k,v.ownBlock=some k→k<w1.heap.size:=fun k hk=>Fr.lt (f:=(P.i,bs)) ho k hk
 have hq:∀ k x,B.col k=x∧k ∈ U→(if k<w.heap.size then B.col k else 6)=x∧k ∈ v.ownBlock.toList ++ U:=fun k x hk=>⟨by rw[if_pos (h.ltU k hk.2)];exact hk.1,List.mem_append.2 (.inr hk.2)⟩
 refine⟨v.ownBlock.toList ++ U,{ B with av:=v,col:=fun k=>if k<w.heap.size then B.col k else 6 },⟨(Off.of_below hb).trans (o.more (by simp[h.kd.2])),fun k hk=>?_⟩,?_⟩
 ·rcases List.mem_append.1 hk with hk | hk
  ·exact .inr (hge k (by simpa using hk))
  ·exact .inl hk
 ·refine⟨e,?_,?_,?_,?_,?_,?_,h5 ▸ hy,?_,hq _ _ h.kd,hq _ _ h.km,hq _ _ h.kg,hq _ _ h.kc,hq _ _ h.kb,hq _ _ h.kv,hq _ _ h.kw,fun k hk=>hq _ _ (h.kM k hk),fun k hk=>hq _ _ (h.kl k hk),?_,h.pok,h.n10,h.mx0,h.mxl⟩
  ·rw[h1];exact x1.mem.off o (hn _ (by rw[h.km.1];omega)) (hn _ (by rw[h.kg.1];omega))
  ·intro hs
   obtain⟨c1,c2,c3⟩:=x1.cel (h6 hs)
   rw[h1]
   exact⟨c1,c2.off o (hn _ (by rw[h.kc.1];omega)),c3⟩
  ·rw[h2];exact x1.dog.off o (hn _ (by rw[h.kb.1];omega))
  ·rw[h3];exact x1.val.off o (hn _ (by rw[h.kv.1];omega)) (hn _ (by rw[h.kw.1];omega)) (fun k hk hM=>by simp at hk;subst hk;have:=(h.kM _ hM).1;rw[h.kd.1]at this;omega)
  ·rw[h4];exact x1.log.off o (fun k hk=>hn _ (by rw[(h.kl k hk).1];omega))
  ·rw[h5];exact aO (aS ho (Nat.zero_le _)) o (fun k hk=>by have:=hge k hk;simp;omega)
  ·intro k hk
   rcases List.mem_append.1 hk with hk | hk
   ·exact Nat.lt_of_lt_of_le (hlt k (by simpa using hk)) o.size
   ·exact Nat.lt_of_lt_of_le (x1.ltU k hk) o.size
  ·intro k hk
   have:=hge k hk
   exact⟨by show (if k<w.heap.size then _ else 6)=6;rw[if_neg (by omega)],List.mem_append.2 (.inl (by simpa using hk))⟩
theorem oY (d m g n mx:Nat) (P:Pm) (U:List Nat) (s:Sd) (a:Option Addr) (len cap:Nat) (bs:Nat→Nat) (o:Bool) (w:World) (h:DV w d m g n mx P U s) (hr:Row8 w a len cap bs) :
  Calls prog 267 #[ac d 0,.slice a len cap,.bool o] w fun e w'=>e=.returned (.int .i64 (gT P s len))∧Hid (∃ U',Gr U w U' w'∧DV w' d m g n mx P U' (em P s len bs o)):=by
 obtain⟨B,x⟩:=id h
 have c11:=x.cells.2.2.2.2.2.2.2.2.2.2.2.1
 have c2:=x.cells.2.2.1
 unfold gT em
 by_cases h6:s.st=6
 ·rw[if_pos h6,if_pos h6]
  rw[h6]at c11
  have q:=fp d w c11
  have H:Hid (_):=h
  clear h x c2 c11 h6 hr
  go_enter func267,ntmps267
  go_wp2_with (go_at_call 140;refine q.mono ?_;rintro e w' ⟨rfl,hw⟩;have hw:=hw.symm;subst hw)
  go_ret
  exact⟨rfl,U,Gr.refl _ _,H.out⟩
 ·rw[if_neg h6,if_neg h6]
  have q:=ia d s.st w c11 h6
  by_cases hl:len=P.i
  ·subst hl
   rw[if_pos rfl,if_pos rfl]
   obtain⟨i0,hi,hz0,hz1,hz2⟩:=info_parts cq
   have O0:w.ownsRow w.heap.size 5 1 (.slice none 0 0) 0 []:=World.ownsRow_nil w _ _ _
   have hi8:=x.pok.i8
   have hdl:=x.dlt
   have HX:Hid (_):=And.intro x hr.byte
   clear h x c11 h6
   go_enter func267,ntmps267
   go_wp2_with (first | (go_at_call 140;refine q.mono ?_;rintro e w' ⟨rfl,hw⟩;have hw:=hw.symm;subst hw) | (at_builtin;refine aP rfl (.const (.slice none 0 0)) (.tmp 23) 37 rfl w.heap.size 5 i0 (.int .u8 0) underlying37 hi hz0 hz1 hz2 rfl _ 0 _ rfl O0 a P.i cap bs rfl hr (by unfold maxLen;omega) (by omega) (Nat.le_refl _) ?_))
   intro v2 w2 hown2 hgrow2
   have hbel2:Below w.heap.size w w2:=(Below.refl _ _).grown hgrow2 (Nat.le_refl _) (fun j hj=>by cases hj)
   obtain⟨a2,k2,rfl,_⟩:=aY hown2 HX.out.2
   have x2:=HX.out.1.newd (Off.of_below hbel2)
   have y16:=x2.cells.2.2.2.2.2.2.2.2.2.2.2.2.2.2.2.2.1
   have y17:=x2.cells.2.2.2.2.2.2.2.2.2.2.2.2.2.2.2.2.2
   have f16:=x2.fz 16
   have f17:=x2.fz 17
   have H2:Hid (_):=And.intro hown2 (And.intro hbel2 x2)
   clear hown2 hbel2 hgrow2 O0 hr x2 q c2
   go_wp2_with fail
   go_ret
   obtain⟨h1,h2,x2⟩:=H2.out
   have e1:(w2.setCell ⟨d,16,none⟩ (.slice a2 P.i k2)).heap[d]?=some (.cells (jS P m mx B.cp B.lb B.db B.vb s (.slice a2 P.i k2)) 147 (0,0)):=heap_setCell_same _ _ _ _ _ _ x2.dev
   have e2:((w2.setCell ⟨d,16,none⟩ (.slice a2 P.i k2)).setCell ⟨d,17,none⟩ (.bool o)).heap[d]?=some (.cells (jS P m mx B.cp B.lb B.db B.vb { s with ap:=bs,hd:=o } (.slice a2 P.i k2)) 147 (0,0)):=heap_setCell_same _ _ _ _ _ _ e1
   obtain⟨U3,B3,g3,x3⟩:=HX.out.1.appd (s':={ s with ap:=bs,hd:=o }) (A':=s.st≠6) h2 h1 HX.out.2 ((Off.setCell d 16 w2 (.slice a2 P.i k2)).trans (Off.setCell d 17 _ (.bool o))) e2 rfl rfl rfl rfl rfl id
   exact⟨rfl,U3,g3,B3,x3⟩
  ·rw[if_neg hl,if_neg hl]
   have el:((len:Int) != (P.i:Int))=true:=by simp;omega
   have H:Hid (_):=h
   clear h x c11 h6 hr hl
   go_enter func267,ntmps267
   go_wp2_with (go_at_call 140;refine q.mono ?_;rintro e w' ⟨rfl,hw⟩;have hw:=hw.symm;subst hw)
   go_ret
   exact⟨rfl,U,Gr.refl _ _,H.out⟩
open Go.RowKit Go.Maps
end Go.Proofs.YtenilkloffnjlaaGreat
