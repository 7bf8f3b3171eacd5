/- Part 13: contracts that the proof rests on. -/
import Derived.Test.YtdpahjfekoikiaaGreatPkX11
set_option maxHeartbeats 64000000
set_option maxRecDepth 100000
namespace Go.Proofs.YtdpahjfekoikiaaGreat
open Tryz
open Go.RowKit
section
variable {w w' w1 w2:World} {d m g n mx:Nat} {P:Pm} {U:List Nat} {s s':Sd} {B:Bk} {A A':Prop}
theorem DX.memd (h:DX w d m g n mx P U s B A) (q:Off [m,g,B.c] w w') {ms:Ms} (e:MR w' m g n ms) (hc:A'→B.cp=aa B.c 0∧CS w' B.c m mx ms.bs false∧ms.off=false) :
  DX w' d m g n mx P U { s with ms:=ms } B A':=by
 have hn:∀ k,B.col k≠1→B.col k≠2→k ∉ [m,g,B.c]:=fun k hk h2 hm=>by
  simp at hm
  rcases hm with hm | hm | hm
  ·rw[hm]at hk;exact hk h.km.1
  ·rw[hm]at hk;exact hk h.kg.1
  ·rw[hm]at h2;exact h2 h.kc.1
 refine⟨(q.block d h.dlt (hn _ (by rw[h.kd.1];omega) (by rw[h.kd.1];omega))).trans h.dev,e,hc,?_,?_,?_,?_,h.apb,fun k hk=>Nat.lt_of_lt_of_le (h.ltU k hk) q.size,h.kd,h.km,h.kg,h.kc,h.kb,h.kv,h.kw,h.kM,h.kl,h.ka,h.pok,h.n10,h.mx0,h.mxl⟩
 ·exact h.dog.off q (hn _ (by rw[h.kb.1];omega) (by rw[h.kb.1];omega))
 ·refine h.val.off q (hn _ (by rw[h.kv.1];omega) (by rw[h.kv.1];omega)) (hn _ (by rw[h.kw.1];omega) (by rw[h.kw.1];omega)) (fun k hk hM=>hn k ?_ ?_ hk)
  ·rw[(h.kM k hM).1];omega
  ·rw[(h.kM k hM).1];omega
 ·exact h.log.off q (fun k hk=>hn _ (by rw[(h.kl k hk).1];omega) (by rw[(h.kl k hk).1];omega))
 ·exact an h.app q (fun k hk=>hn _ (by rw[(h.ka k hk).1];omega) (by rw[(h.ka k hk).1];omega))
theorem DX.memU (h:DX w d m g n mx P U s B A):∀ k,k ∈ [m,g,B.c]→k ∈ U:=fun k hk=>by
 simp at hk
 rcases hk with hk | hk | hk
 ·rw[hk];exact h.km.2
 ·rw[hk];exact h.kg.2
 ·rw[hk];exact h.kc.2
theorem DX.lived (h:DX w d m g n mx P U s B A) {db vb vg ga k:Nat} (q:NL w w1 P db vb vg ga) (o:Off [d] w1 w2)
  (e:w2.heap[d]?=some (.cells (iw P m mx B.cp B.lb db vb (gD s k) (.slice (ac ga 0) P.i P.i)) 90 (0,0))) :
  ∃ U' B',Gr U w U' w2∧DX w2 d m g n mx P U' (gD s k) B' A:=by
 obtain⟨q1,q2,q3,q4,q5,q6,q7,q8,q9,q10⟩:=q
 have hd:=h.dlt
 have hq:∀ k x,B.col k=x∧k ∈ U→(if k<w.heap.size then B.col k else if k=db then 3 else if k=vb∨k=vg then 4 else 6)=x∧k ∈ [db,vb,vg,ga] ++ U:=fun k x hk=>⟨by rw[if_pos (h.ltU k hk.2)];exact hk.1,List.mem_append.2 (.inr hk.2)⟩
 have hn:∀ k,B.col k≠0→k ∉ [d]:=fun k hk hm=>by simp at hm;rw[hm,h.kd.1]at hk;exact hk rfl
 have h1:=h.newd (Off.of_below (l:=[]) q4)
 refine⟨[db,vb,vg,ga] ++ U,{ B with db:=db,vb:=vb,vg:=vg,M:=[],av:=.slice (ac ga 0) P.i P.i,col:=fun k=>if k<w.heap.size then B.col k else if k=db then 3 else if k=vb∨k=vg then 4 else 6 },⟨?_,?_⟩,?_⟩
 ·exact (Off.of_below q4).trans (o.more (by simp[h.kd.2]))
 ·intro k hk
  rcases List.mem_append.1 hk with hk | hk
  ·simp at hk;right;omega
  ·exact .inl hk
 ·refine⟨e,h1.mem.off o (hn _ (by rw[h.km.1];omega)) (hn _ (by rw[h.kg.1];omega)),?_,q1.off o (by simp;omega),q2.off o (by simp;omega) (by simp;omega) (by simp),h1.log.off o (fun k hk=>hn _ (by rw[(h.kl k hk).1];omega)),?_,fun _ _=>by show 0<256;omega,?_,hq _ _ h.kd,hq _ _ h.km,hq _ _ h.kg,hq _ _ h.kc,?_,?_,?_,fun k hk=>(by simp at hk),fun k hk=>hq _ _ (h.kl k hk),?_,h.pok,h.n10,h.mx0,h.mxl⟩
  ·intro hs
   obtain⟨c1,c2,c3⟩:=h1.cel hs
   exact⟨c1,c2.off o (hn _ (by rw[h.kc.1];omega)),c3⟩
  ·refine an (ak q3 (Nat.zero_le _)) o (fun k hk=>?_)
   cases hk
   simp;omega
  ·intro k hk
   have so:=o.size
   rcases List.mem_append.1 hk with hk | hk
   ·simp at hk;omega
   ·exact Nat.lt_of_lt_of_le (h1.ltU k hk) so
  ·exact⟨by show (if db<w.heap.size then _ else if db=db then 3 else _)=3;rw[if_neg (by omega),if_pos rfl],by simp⟩
  ·exact⟨by show (if vb<w.heap.size then _ else if vb=db then 3 else if vb=vb∨vb=vg then 4 else 6)=4;rw[if_neg (by omega),if_neg (by omega),if_pos (.inl rfl)],by simp⟩
  ·exact⟨by show (if vg<w.heap.size then _ else if vg=db then 3 else if vg=vb∨vg=vg then 4 else 6)=4;rw[if_neg (by omega),if_neg (by omega),if_pos (.inr rfl)],by simp⟩
  ·intro k hk
   cases hk
   exact⟨by show (if ga<w.heap.size then _ else if ga=db then 3 else if ga=vb∨ga=vg then 4 else 6)=6;rw[if_neg (by omega),if_neg (by omega),if_neg (by omega)],by simp⟩
end
theorem tW (b:Nat) (w:World) (x0 x1 x2 x3 x4 x5 x6 x7 x8:Value) :
  Off [b] w (((((((((w.setCell ⟨b,9,none⟩ x0).setCell ⟨b,10,none⟩ x1).setCell ⟨b,11,none⟩ x2).setCell ⟨b,12,none⟩ x3).setCell ⟨b,13,none⟩ x4).setCell ⟨b,14,none⟩ x5).setCell ⟨b,15,none⟩ x6).setCell ⟨b,16,none⟩ x7).setCell ⟨b,17,none⟩ x8):=
 ((((((((Off.setCell b 9 w x0).trans (Off.setCell b 10 _ x1)).trans (Off.setCell b 11 _ x2)).trans (Off.setCell b 12 _ x3)).trans (Off.setCell b 13 _ x4)).trans (Off.setCell b 14 _ x5)).trans (Off.setCell b 15 _ x6)).trans (Off.setCell b 16 _ x7)).trans (Off.setCell b 17 _ x8)
theorem qF {w:World} {d m mx lb db vb db' vb':Nat} {P:Pm} {cp av av':Value} {s:Sd} (e:w.heap[d]?=some (.cells (iw P m mx cp lb db vb s av) 90 (0,0))) :
  (((((((((w.setCell ⟨d,9,none⟩ (aa db' 0)).setCell ⟨d,10,none⟩ (aa vb' 0)).setCell ⟨d,11,none⟩ (.int .i64 1)).setCell ⟨d,12,none⟩ (.int .u32 0)).setCell ⟨d,13,none⟩ (.int .u32 0)).setCell ⟨d,14,none⟩ (.int .u32 0)).setCell ⟨d,15,none⟩ (.int .i64 0)).setCell ⟨d,16,none⟩ av').setCell ⟨d,17,none⟩ (.bool false)).heap[d]?=some (.cells (iw P m mx cp lb db' vb' (gD s 1) av') 90 (0,0)):=by
 have e0:(w.setCell ⟨d,9,none⟩ (aa db' 0)).heap[d]?=some (.cells (iw P m mx cp lb db' vb s av) 90 (0,0)):=heap_setCell_same _ _ _ _ _ _ e
 have e1:((w.setCell ⟨d,9,none⟩ (aa db' 0)).setCell ⟨d,10,none⟩ (aa vb' 0)).heap[d]?=some (.cells (iw P m mx cp lb db' vb' s av) 90 (0,0)):=heap_setCell_same _ _ _ _ _ _ e0
 have e2:(((w.setCell ⟨d,9,none⟩ (aa db' 0)).setCell ⟨d,10,none⟩ (aa vb' 0)).setCell ⟨d,11,none⟩ (.int .i64 1)).heap[d]?=some (.cells (iw P m mx cp lb db' vb' { s with st:=1 } av) 90 (0,0)):=heap_setCell_same _ _ _ _ _ _ e1
 have e3:((((w.setCell ⟨d,9,none⟩ (aa db' 0)).setCell ⟨d,10,none⟩ (aa vb' 0)).setCell ⟨d,11,none⟩ (.int .i64 1)).setCell ⟨d,12,none⟩ (.int .u32 0)).heap[d]?=some (.cells (iw P m mx cp lb db' vb' { s with st:=1,ss:=0 } av) 90 (0,0)):=heap_setCell_same _ _ _ _ _ _ e2
 have e4:(((((w.setCell ⟨d,9,none⟩ (aa db' 0)).setCell ⟨d,10,none⟩ (aa vb' 0)).setCell ⟨d,11,none⟩ (.int .i64 1)).setCell ⟨d,12,none⟩ (.int .u32 0)).setCell ⟨d,13,none⟩ (.int .u32 0)).heap[d]?=some (.cells (iw P m mx cp lb db' vb' { s with st:=1,ss:=0,nm:=0 } av) 90 (0,0)):=heap_setCell_same _ _ _ _ _ _ e3
 have e5:((((((w.setCell ⟨d,9,none⟩ (aa db' 0)).setCell ⟨d,10,none⟩ (aa vb' 0)).setCell ⟨d,11,none⟩ (.int .i64 1)).setCell ⟨d,12,none⟩ (.int .u32 0)).setCell ⟨d,13,none⟩ (.int .u32 0)).setCell ⟨d,14,none⟩ (.int .u32 0)).heap[d]?=some (.cells (iw P m mx cp lb db' vb' { s with st:=1,ss:=0,nm:=0,sn:=0 } av) 90 (0,0)):=heap_setCell_same _ _ _ _ _ _ e4
 have e6:(((((((w.setCell ⟨d,9,none⟩ (aa db' 0)).setCell ⟨d,10,none⟩ (aa vb' 0)).setCell ⟨d,11,none⟩ (.int .i64 1)).setCell ⟨d,12,none⟩ (.int .u32 0)).setCell ⟨d,13,none⟩ (.int .u32 0)).setCell ⟨d,14,none⟩ (.int .u32 0)).setCell ⟨d,15,none⟩ (.int .i64 0)).heap[d]?=some (.cells (iw P m mx cp lb db' vb' { s with st:=1,ss:=0,nm:=0,sn:=0,od:=0 } av) 90 (0,0)):=heap_setCell_same _ _ _ _ _ _ e5
 have e7:((((((((w.setCell ⟨d,9,none⟩ (aa db' 0)).setCell ⟨d,10,none⟩ (aa vb' 0)).setCell ⟨d,11,none⟩ (.int .i64 1)).setCell ⟨d,12,none⟩ (.int .u32 0)).setCell ⟨d,13,none⟩ (.int .u32 0)).setCell ⟨d,14,none⟩ (.int .u32 0)).setCell ⟨d,15,none⟩ (.int .i64 0)).setCell ⟨d,16,none⟩ av').heap[d]?=some (.cells (iw P m mx cp lb db' vb' { s with st:=1,ss:=0,nm:=0,sn:=0,od:=0 } av') 90 (0,0)):=heap_setCell_same _ _ _ _ _ _ e6
 have e8:(((((((((w.setCell ⟨d,9,none⟩ (aa db' 0)).setCell ⟨d,10,none⟩ (aa vb' 0)).setCell ⟨d,11,none⟩ (.int .i64 1)).setCell ⟨d,12,none⟩ (.int .u32 0)).setCell ⟨d,13,none⟩ (.int .u32 0)).setCell ⟨d,14,none⟩ (.int .u32 0)).setCell ⟨d,15,none⟩ (.int .i64 0)).setCell ⟨d,16,none⟩ av').setCell ⟨d,17,none⟩ (.bool false)).heap[d]?=some (.cells (iw P m mx cp lb db' vb' { s with st:=1,ss:=0,nm:=0,sn:=0,od:=0,hd:=false } av') 90 (0,0)):=heap_setCell_same _ _ _ _ _ _ e7
 exact e8
theorem mc (d m g n mx:Nat) (P:Pm) (U:List Nat) (s:Sd) (B:Bk) (A:Prop) (w:World) (h:DX w d m g n mx P U s B A) :
  Calls prog 208 #[aa d 0] w fun e w'=>e=.returned (.tuple #[])∧Hid (∃ U',Gr U w U' w'∧DV w' d m g n mx P U' (gD s 6)):=by
 obtain⟨c0,c1,c2,c3,c4,_⟩:=h.cells
 have hL:=fV P h.pok w
 have H:Hid (_):=h
 clear h
 go_enter func208,ntmps208
 go_wp2_with (go_at_call 28;refine hL.mono ?_;rintro e w1 ⟨db,vb,vg,ga,rfl,h1⟩;obtain⟨_,_,_,_,_,_,_,_,_,y9,y10,y11,y12,y13,y14,y15,y16,y17⟩:=(H.out.newd (Off.of_below h1.out.bel)).cells;have fz:=(H.out.newd (Off.of_below h1.out.bel)).fz;have f9:=fz 9;have f10:=fz 10;have f11:=fz 11;have f12:=fz 12;have f13:=fz 13;have f14:=fz 14;have f15:=fz 15;have f16:=fz 16;have f17:=fz 17;clear fz c0 c1 c2 c3 c4 hL)
 go_end0
 have e1:=(H.out.newd (Off.of_below h1.out.bel)).dev
 have o:=(tW d w1 (aa db 0) (aa vb 0) (.int .i64 1) (.int .u32 0) (.int .u32 0) (.int .u32 0) (.int .i64 0) (.slice (ac ga 0) P.i P.i) (.bool false)).trans (Off.setCell d 11 _ (.int .i64 6))
 have e2:=qF (db':=db) (vb':=vb) (av':=.slice (ac ga 0) P.i P.i) e1
 have e3:(World.setCell _ ⟨d,11,none⟩ (.int .i64 6)).heap[d]?=some (.cells (iw P m mx B.cp B.lb db vb (gD s 6) (.slice (ac ga 0) P.i P.i)) 90 (0,0)):=heap_setCell_same _ _ _ _ _ _ e2
 obtain⟨U',B',g2,x2⟩:=H.out.lived (k:=6) h1.out o e3
 exact⟨rfl,U',g2,B',{ x2 with cel:=fun hs=>absurd rfl hs }⟩
end Go.Proofs.YtdpahjfekoikiaaGreat
namespace Go.Proofs.YtdpahjfekoikiaaGreat
open Tryz
open Go.RowKit
theorem vx (mx n:Nat) (z:Nat→Nat) (cut:Bool) (s:Ms):(nx mx n z cut s).e=0∨(nx mx n z cut s).e=70∨(nx mx n z cut s).e=80:=by
 unfold nx
 split
 ·exact .inr (.inl rfl)
 ·split
  ·exact .inr (.inr rfl)
  ·split
   ·exact .inl rfl
   ·exact .inr (.inl rfl)
theorem tC (k c s n f len said:Int):0≤LW k c s n f len said∧LW k c s n f len said≤48:=by
 unfold LW
 split
 ·omega
 ·split
  ·omega
  ·split
   ·omega
   ·split
    ·omega
    ·split
     ·omega
     ·split <;> omega
theorem pr (bs:Nat→Nat) (N:Nat):0≤DE bs N∧DE bs N≤48:=by
 unfold DE
 split
 ·omega
 ·split
  ·omega
  ·split
   ·omega
   ·exact tC _ _ _ _ _ _ _
theorem eV (s:Sd) (x:Int):(aq s x).L.length≤s.L.length+1:=by
 unfold aq
 split
 ·simp[fs]
 ·simp
theorem nW (s:Sd) (x:Int):(aq s x).st=s.st:=by unfold aq;split <;> rfl
theorem fM (s:Sd) (x:Int):(aq s x).ms=s.ms:=by unfold aq;split <;> rfl
theorem gF (s:Sd):(aT s).L.length≤s.L.length+1:=by
 unfold aT
 split
 ·split
  ·simp
  ·split
   ·exact eV _ _
   ·simp[bB]
 ·omega
theorem eD (s:Sd):(aT s).ms=s.ms:=by
 unfold aT
 split
 ·split
  ·rfl
  ·split
   ·exact fM _ _
   ·rfl
 ·rfl
theorem mY {s:Sd} (h:s.st≠6):(aT s).st≠6:=by
 unfold aT
 split
 ·split
  ·exact h
  ·intro e;cases e
 ·exact h
theorem pM (P:Pm) (mx n:Nat) (s:Sd):0 ≤ (aZ P mx n s).e∧(aZ P mx n s).e≤200:=by
 have:=vx mx n s.ms.bs false s.ms
 unfold aZ
 split
 ·exact⟨by show (0:Int)≤80;omega,by show (80:Int)≤200;omega⟩
 ·split
  ·exact⟨by show 0 ≤ (nx mx n s.ms.bs false s.ms).e;omega,by show (nx mx n s.ms.bs false s.ms).e≤200;omega⟩
  ·exact⟨by show (0:Int)≤0;omega,by show (0:Int)≤200;omega⟩
theorem lO (P:Pm) (mx n:Nat) (s:Sd):(aZ P mx n s).s.L.length≤s.L.length+1:=by
 unfold aZ
 split
 ·exact eV _ _
 ·split
  ·show s.L.length≤_;omega
  ·show s.L.length≤_;omega
theorem sj (P:Pm) (mx n:Nat) (s:Sd):0 ≤ (bk P mx n s).e∧(bk P mx n s).e≤200:=by
 unfold bk
 split
 ·exact⟨by show (0:Int)≤130;omega,by show (130:Int)≤200;omega⟩
 ·split
  ·exact⟨by show (0:Int)≤130;omega,by show (130:Int)≤200;omega⟩
  ·exact pM _ _ _ _
theorem nZ (P:Pm) (mx n:Nat) (s:Sd):(bk P mx n s).s.L.length≤s.L.length+2:=by
 have:=gF s
 unfold bk
 split
 ·show (aT s).L.length≤_;omega
 ·split
  ·show (aT s).L.length≤_;omega
  ·have:=lO P mx n (aT s);omega
theorem se (P:Pm) (mx n:Nat) (s:Sd) (k ss num fl len:Nat) (bs:Nat→Nat):0 ≤ (aw P mx n s k ss num fl len bs).e∧(aw P mx n s k ss num fl len bs).e≤200:=by
 have r1:∀ x:Int,0≤x∧x≤200→0 ≤ (aA P s x).e∧(aA P s x).e≤200:=fun x h=>h
 unfold aw
 split
 ·split
  ·exact sj _ _ _ _
  ·exact r1 91 (by omega)
 ·split
  ·split
   ·exact⟨by show (0:Int)≤0;omega,by show (0:Int)≤200;omega⟩
   ·exact r1 91 (by omega)
  ·split
   ·exact⟨by show (0:Int)≤0;omega,by show (0:Int)≤200;omega⟩
   ·split
    ·exact⟨by show (0:Int)≤0;omega,by show (0:Int)≤200;omega⟩
    ·split
     ·exact⟨by show (0:Int)≤0;omega,by show (0:Int)≤200;omega⟩
     ·exact r1 130 (by omega)
theorem nY (P:Pm) (mx n:Nat) (s:Sd) (k ss num fl len:Nat) (bs:Nat→Nat):(aw P mx n s k ss num fl len bs).s.L.length≤s.L.length+2:=by
 have r1:∀ x:Int,(aA P s x).s.L.length≤s.L.length+2:=fun x=>by have:=gF s;show (aT s).L.length≤_;omega
 unfold aw
 split
 ·split
  ·exact nZ _ _ _ _
  ·exact r1 91
 ·split
  ·split
   ·show (aM s).L.length≤_
    unfold aM
    split
    ·show s.L.length≤_;omega
    ·omega
   ·exact r1 91
  ·split
   ·show (bv s).L.length≤_
    unfold bv
    split
    ·show s.L.length≤_;omega
    ·omega
   ·split
    ·show s.L.length≤_;omega
    ·split
     ·have:=eV (eE { s with nm:=P.n }) 80
      have e:(eE { s with nm:=P.n }).L.length=s.L.length:=rfl
      show (aq (eE { s with nm:=P.n }) 80).L.length≤_;omega
     ·exact r1 130
theorem rZ (P:Pm) (mx n:Nat) (s:Sd) (len:Nat) (bs:Nat→Nat):0 ≤ (bi P mx n s len bs).e∧(bi P mx n s len bs).e≤200:=by
 have:=pr bs len
 unfold bi
 split
 ·exact⟨by show 0≤DE bs len;omega,by show DE bs len≤200;omega⟩
 ·split
  ·exact⟨by show (0:Int)≤43;omega,by show (43:Int)≤200;omega⟩
  ·split
   ·exact⟨by show (0:Int)≤44;omega,by show (44:Int)≤200;omega⟩
   ·exact se _ _ _ _ _ _ _ _ _ _
theorem iL (P:Pm) (mx n:Nat) (s:Sd) (len:Nat) (bs:Nat→Nat):(bi P mx n s len bs).s.L.length≤s.L.length+2:=by
 unfold bi
 split
 ·show s.L.length≤_;omega
 ·split
  ·show s.L.length≤_;omega
  ·split
   ·show s.L.length≤_;omega
   ·exact nY _ _ _ _ _ _ _ _ _ _
theorem sH {mx n:Nat} {s:Ms} (hn:10≤n) (ho:s.off=false) (hl:0≤s.l) :
  ((nx mx n s.bs false s).e=70)∨(((nx mx n s.bs false s).e=80∨(nx mx n s.bs false s).e=0)∧(nx mx n s.bs false s).c=false∧(nx mx n s.bs false s).z=(nx mx n s.bs false s).s.bs∧(nx mx n s.bs false s).s.off=false):=by
 unfold nx
 rw[if_neg (by simp[ho])]
 by_cases hm:mx≤vz s.bs
 ·rw[if_pos hm]
  exact .inr ⟨.inl rfl,rfl,rfl,ho⟩
 ·rw[if_neg hm]
  by_cases hq:bR n (bp (tg s.bs) (vz s.bs+1)) s=0
  ·rw[if_pos hq]
   refine .inr ⟨.inr rfl,rfl,rfl,?_⟩
   rcases dN n (bp (tg s.bs) (vz s.bs+1)) s (fun x hx=>(dw _ _ n (io _) hn x hx).1) ho hl with ⟨_,h2,_⟩ | ⟨h1,_⟩
   ·rw[h2]
   ·omega
  ·rw[if_neg hq]
   exact .inl rfl
theorem nK (d m g n mx:Nat) (P:Pm) (U:List Nat) (s:Sd) (w:World) (h:DV w d m g n mx P U s) (hs:s.st≠6) (hL:s.L.length<900000) (ht:s.ms.t<9223372036854774000) :
  Calls prog 180 #[aa d 0] w fun e w'=>∃ v,e=.returned (.tuple #[v,.int .i64 (aZ P mx n s).e])∧Hid (Out U w w' d m g n mx P (aZ P mx n s).s (aZ P mx n s).f v):=by
 obtain⟨B,h⟩:=h
 obtain⟨hcp,hC,ho⟩:=h.cel hs
 have c7:=h.cells.2.2.2.2.2.2.2.1
 rw[hcp]at c7
 have hX:=uM B.c m g n mx s.ms.bs false s.ms w h.mem hC (fun i hi=>h.mem.byte i (by have:=h.n10;omega)) (fun _=>rfl) (fun e=>by have:=h.kc.1;rw[e,h.km.1]at this;omega) (fun e=>by have:=h.kc.1;rw[e,h.kg.1]at this;omega) h.n10 h.mxl ht
 have hv:=sH (mx:=mx) h.n10 ho h.mem.l0
 have HE:Hid (aZ P mx n s=_):=rfl
 unfold aZ at HE ⊢
 generalize nx mx n s.ms.bs false s.ms=x at *
 have HH:Hid (_):=And.intro h hcp
 have HL:Hid (_):=And.intro hL hs
 clear h hC ho hcp hL ht HE
 rcases hv with he | ⟨he,hc,hz,hoff⟩
 ·rw[he,if_neg (by omega),if_pos (by omega)]
  rw[he]at hX
  go_enter func180,ntmps180
  go_wp2_with (go_at_call 207;refine hX.mono ?_;rintro e w2 ⟨rfl,o2,m2,k2⟩)
  have x2:=HH.out.1.memd o2 m2 (A':=False) (fun h=>h.elim)
  have hD:=mc d m g n mx P U _ B False w2 x2
  have H2:Hid (_):=Gr.same o2 HH.out.1.memU
  clear hX HH HL o2 m2 k2 x2 c7
  go_wp2_with (go_at_call 208;refine hD.mono ?_;rintro e w3 ⟨rfl,h3⟩)
  go_ret2
  obtain⟨U3,g3,x3⟩:=h3.out
  exact⟨_,rfl,Out.none_ (H2.out.trans g3) x3⟩
 ·have hst:(aq { s with ms:=x.s } 80).st=s.st:=by unfold aq;split <;> rfl
  rcases he with he | he
  ·rw[he,if_pos rfl]
   rw[he]at hX
   go_enter func180,ntmps180
   go_wp2_with (go_at_call 207;refine hX.mono ?_;rintro e w2 ⟨rfl,o2,m2,k2⟩)
   rw[hc,hz]at k2
   have x2:=HH.out.1.memd o2 m2 (A':=s.st≠6) (fun _=>⟨HH.out.2,k2,hoff⟩)
   have hT:=ek d m g n mx P U { s with ms:=x.s } 80 w2 ⟨B,x2⟩ (by omega) (by decide) HL.out.1
   have H2:Hid (_):=Gr.same o2 HH.out.1.memU
   have HS:Hid (_):=And.intro HL.out.2 hst
   clear hX HH HL o2 m2 k2 x2 c7 hst
   go_wp2_with (go_at_call 184;refine hT.mono ?_;rintro e w3 ⟨rfl,h3⟩)
   obtain⟨U3,g3,x3⟩:=h3.out
   have hV:=eJ d m g n mx P U3 _ 5 w3 x3 (by rw[HS.out.2];exact HS.out.1)
   have H3:Hid (_):=H2.out.trans g3
   clear hT h3 g3 x3 H2 HS
   go_wp2_with (go_at_call 206;refine hV.mono ?_;rintro e w4 ⟨rfl,h4⟩)
   obtain⟨U4,g4,x4⟩:=h4.out
   have hN:=gY d m g n mx P U4 _ w4 x4
   have H4:Hid (_):=And.intro (H3.out.trans g4) x4
   clear hV h4 g4 x4 H3
   go_wp2_with (go_at_call 179;refine hN.mono ?_;rintro e w5 ⟨v,rfl,h5⟩)
   go_ret2
   exact⟨v,rfl,Out.mk H4.out.1 H4.out.2 h5.out.1 h5.out.2⟩
  ·rw[he,if_neg (by omega),if_neg (by omega)]
   rw[he]at hX
   go_enter func180,ntmps180
   go_wp2_with (go_at_call 207;refine hX.mono ?_;rintro e w2 ⟨rfl,o2,m2,k2⟩)
   rw[hc,hz]at k2
   have x2:=HH.out.1.memd o2 m2 (A':=s.st≠6) (fun _=>⟨HH.out.2,k2,hoff⟩)
   have hV:=eJ d m g n mx P U { s with ms:=x.s } 2 w2 ⟨B,x2⟩ HL.out.2
   have H2:Hid (_):=Gr.same o2 HH.out.1.memU
   clear hX HH HL o2 m2 k2 x2 c7 hst
   go_wp2_with (go_at_call 206;refine hV.mono ?_;rintro e w4 ⟨rfl,h4⟩;obtain⟨U4,g4,B4,x4⟩:=h4.out;have y12:=x4.cells.2.2.2.2.2.2.2.2.2.2.2.2.1;have f12:=x4.fz 12;have H4:Hid (_):=And.intro g4 x4;clear hV h4 g4 x4)
   have x4:=H4.out.2
   have o5:=Off.setCell d 12 w4 (.int .u32 (x.v:Nat))
   have x5:=x4.own o5 (s':={ bB { s with ms:=x.s } 2 with ss:=x.v }) (heap_setCell_same _ _ _ _ _ _ x4.dev) rfl rfl rfl rfl rfl id
   have hN:=iX d m g n mx P U4 _ _ ⟨B4,x5⟩
   have H5:Hid (_):=And.intro ((H2.out.trans H4.out.1).trans (Gr.same o5 (by simp[x4.kd.2]))) x5
   clear x4 H2 H4 o5 x5
   go_wp2_with (go_at_call 178;refine hN.mono ?_;rintro e w5 ⟨v,rfl,h5⟩)
   go_ret2
   exact⟨v,rfl,Out.mk H5.out.1 ⟨B4,H5.out.2⟩ h5.out.1 h5.out.2⟩
theorem rE (d m g n mx:Nat) (P:Pm) (U:List Nat) (s:Sd) (a:Option Addr) (len cap:Nat) (bs:Nat→Nat) (w:World) (h:DV w d m g n mx P U s) (hr:Row8 w a len cap bs) (hs:s.st≠6) (ho:s.od<4) (hL:s.L.length<800000) (ht:s.ms.t<9223372036854774000) :
  Calls prog 145 #[aa d 0,.slice a len cap] w fun e w'=>∃ v,e=.returned (.tuple #[v,.int .i64 (if au P len bs=true then bk P mx n s else aA P s 91).e])∧Hid (Out U w w' d m g n mx P (if au P len bs=true then bk P mx n s else aA P s 91).s (if au P len bs=true then bk P mx n s else aA P s 91).f v):=by
 have hS:=ij d m g n mx P U s a len cap bs w h hr
 have H:Hid (_):=And.intro h (And.intro hs (And.intro ho (And.intro hL ht)))
 clear h hr hs ho hL ht
 by_cases hg:au P len bs=true
 ·rw[if_pos hg]
  rw[hg]at hS
  unfold bk
  by_cases h2:(aT s).st=2
  ·rw[if_pos h2]
   go_enter func145,ntmps145
   go_wp2_with (go_at_call 176;refine hS.mono ?_;rintro e w2 ⟨rfl,b2⟩)
   obtain⟨h,hs,ho,hL,ht⟩:=H.out
   have h2:=DV.below h b2
   have hC:=df d m g n mx P U s w2 h2 hs ho (by omega)
   have H2:Hid (_):=And.intro (Gr.below (U:=U) b2) H.out
   clear hS H b2 h hs ho hL ht h2
   go_wp2_with (go_at_call 177;refine hC.mono ?_;rintro e w3 ⟨rfl,h3⟩;obtain⟨U3,g3,B3,x3⟩:=h3.out;have c11:=x3.cells.2.2.2.2.2.2.2.2.2.2.2.1;have H3:Hid (_):=And.intro (H2.out.1.trans g3) (And.intro x3 H2.out.2);clear hC h3 g3 x3 H2;rw[h2]at c11)
   have hN:=iX d m g n mx P U3 (aT s) w3 ⟨B3,H3.out.2.1⟩
   go_wp2_with (go_at_call 178;refine hN.mono ?_;rintro e w5 ⟨v,rfl,h5⟩)
   go_ret2
   exact⟨v,rfl,Out.mk H3.out.1 ⟨B3,H3.out.2.1⟩ h5.out.1 h5.out.2⟩
  ·rw[if_neg h2]
   have e2:(((aT s).st:Int) == 2)=false:=by simp;omega
   by_cases h4:(aT s).st=3∨(aT s).st=4
   ·rw[if_pos h4]
    rcases h4 with h4 | h4 <;> clear h2 e2
    all_goals
     go_enter func145,ntmps145
     go_wp2_with (go_at_call 176;refine hS.mono ?_;rintro e w2 ⟨rfl,b2⟩)
     obtain⟨h,hs,ho,hL,ht⟩:=H.out
     have h2:=DV.below h b2
     have hC:=df d m g n mx P U s w2 h2 hs ho (by omega)
     have H2:Hid (_):=And.intro (Gr.below (U:=U) b2) H.out
     clear hS H b2 h hs ho hL ht h2
     go_wp2_with (go_at_call 177;refine hC.mono ?_;rintro e w3 ⟨rfl,h3⟩;obtain⟨U3,g3,B3,x3⟩:=h3.out;have c11:=x3.cells.2.2.2.2.2.2.2.2.2.2.2.1;have H3:Hid (_):=And.intro (H2.out.1.trans g3) (And.intro x3 H2.out.2);clear hC h3 g3 x3 H2;rw[h4]at c11)
     have hN:=gY d m g n mx P U3 (aT s) w3 ⟨B3,H3.out.2.1⟩
     go_wp2_with (go_at_call 179;refine hN.mono ?_;rintro e w5 ⟨v,rfl,h5⟩)
     go_ret2
     exact⟨v,rfl,Out.mk H3.out.1 ⟨B3,H3.out.2.1⟩ h5.out.1 h5.out.2⟩
   ·rw[if_neg h4]
    have e3:(((aT s).st:Int) == 3)=false:=by simp;omega
    have e4:(((aT s).st:Int) == 4)=false:=by simp;omega
    clear h2 h4
    go_enter func145,ntmps145
    go_wp2_with (go_at_call 176;refine hS.mono ?_;rintro e w2 ⟨rfl,b2⟩)
    obtain⟨h,hs,ho,hL,ht⟩:=H.out
    have h2:=DV.below h b2
    have hC:=df d m g n mx P U s w2 h2 hs ho (by omega)
    have H2:Hid (_):=And.intro (Gr.below (U:=U) b2) H.out
    clear hS H b2 h hs ho hL ht h2
    go_wp2_with (go_at_call 177;refine hC.mono ?_;rintro e w3 ⟨rfl,h3⟩;obtain⟨U3,g3,B3,x3⟩:=h3.out;have c11:=x3.cells.2.2.2.2.2.2.2.2.2.2.2.1;have H3:Hid (_):=And.intro (H2.out.1.trans g3) (And.intro x3 H2.out.2);clear hC h3 g3 x3 H2)
    have hB:=nK d m g n mx P U3 (aT s) w3 ⟨B3,H3.out.2.1⟩ (mY H3.out.2.2.2.1) (by have:=gF s;have:=H3.out.2.2.2.2.2.1;omega) (by rw[eD];exact H3.out.2.2.2.2.2.2)
    go_wp2_with (go_at_call 180;refine hB.mono ?_;rintro e w5 ⟨v,rfl,h5⟩)
    go_ret2
    exact⟨v,rfl,Out.pre H3.out.1 h5.out⟩
 ·have hg':au P len bs=false:=by simpa using hg
  rw[if_neg hg]
  rw[hg']at hS
  go_enter func145,ntmps145
  go_wp2_with (go_at_call 176;refine hS.mono ?_;rintro e w2 ⟨rfl,b2⟩)
  obtain⟨h,hs,ho,hL,ht⟩:=H.out
  have h2:=DV.below h b2
  have hR:=cO d m g n mx P U s 91 w2 h2 hs ho (by omega)
  have H2:Hid (_):=Gr.below (U:=U) b2
  clear hS H b2 h hs ho hL ht h2
  go_wp2_with (go_at_call 150;refine hR.mono ?_;rintro e w3 ⟨v,rfl,h3⟩)
  go_ret2
  exact⟨v,rfl,Out.pre H2.out h3.out⟩
end Go.Proofs.YtdpahjfekoikiaaGreat
