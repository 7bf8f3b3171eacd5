/- Part 17 of the texts on which the proofs of layer 13 rest: contracts of Go functions. -/
import Derived.Shelf.SlIter.Collect
import Derived.Shelf.AbstractIn
import Derived.Deep.CutBlock
import Derived.Test.YthbogkaoidbpgaaGreatPkB07
import Derived.Test.YthbogkaoidbpgaaGreatPkB08
import Derived.Test.YthbogkaoidbpgaaGreatPkB15
namespace Go.Proofs.YthbogkaoidbpgaaGreat
set_option maxRecDepth 100000
open Go.RowKit Go.Maps
structure Prt where
 c:Nat
 d:Nat
 k:Nat
 n:Nat
def rdQ:Value→Option (DataW Unit × List MemPlace)
 | .agg cs=>match cs.toList with
  | [.pointer none,.pointer none]=>some (.lit (.int .i64 (-1)),[])
  | [.pointer (some ⟨d,0,none⟩),.pointer (some ⟨k,0,none⟩)]=>some (.agg [.lit (.int .i64 d),.lit (.int .i64 k)],[])
  | _=>none
 | _=>none
def datq:Option (Nat × Nat)→DataW Unit
 | none=>.lit (.int .i64 (-1))
 | some x=>.agg [.lit (.int .i64 x.1),.lit (.int .i64 x.2)]
def ptq:Option (Nat × Nat)→Value
 | none=>.agg #[.pointer none,.pointer none]
 | some x=>.agg #[.pointer (some ⟨x.1,0,none⟩),.pointer (some ⟨x.2,0,none⟩)]
theorem rdQ_ptq (o:Option (Nat × Nat)):rdQ (ptq o)=some (datq o,[]):=by cases o <;> rfl
theorem datq_inj {o o':Option (Nat × Nat)} (h:datq o=datq o'):o=o':=by
 cases o with
 | none=>cases o' with
  | none=>rfl
  | some y=>simp[datq]at h
 | some x=>cases o' with
  | none=>simp[datq]at h
  | some y=>
   obtain⟨a,b⟩:=x
   obtain⟨a',b'⟩:=y
   simp[datq]at h
   obtain⟨h1,h2⟩:=h
   rw[show a=a' by omega,show b=b' by omega]
theorem rdQ_inv {v:Value} {o:Option (Nat × Nat)} {ps:List MemPlace} (h:rdQ v=some (datq o,ps)):v=ptq o:=by
 unfold rdQ at h
 split at h
 ·rename_i cs
  split at h
  ·rename_i e
   simp only[Option.some.injEq,Prod.mk.injEq]at h
   have:=datq_inj (o:=none) (o':=o) h.1
   subst this
   have e2:cs=#[.pointer none,.pointer none]:=Array.toList_inj.1 e
   rw[e2];rfl
  ·rename_i d k e
   simp only[Option.some.injEq,Prod.mk.injEq]at h
   have:=datq_inj (o:=some (d,k)) (o':=o) h.1
   subst this
   have e2:cs=#[.pointer (some ⟨d,0,none⟩),.pointer (some ⟨k,0,none⟩)]:=Array.toList_inj.1 e
   rw[e2];rfl
  ·cases h
 ·cases h
def fnd:List Prt→Nat→Option Prt
 | [],_=>none
 | p :: L,c=>if p.c=c then some p else fnd L c
def fndq (L:List Prt) (c:Nat):Option (Nat × Nat):=(fnd L c).map fun p=>(p.d,p.k)
theorem fnd_mem {L:List Prt} {c:Nat} {p:Prt} (h:fnd L c=some p):p ∈ L∧p.c=c:=by
 induction L with
 | nil=>simp[fnd]at h
 | cons q L ih=>
  unfold fnd at h
  split at h
  ·rename_i e
   cases h
   exact⟨by simp,e⟩
  ·exact⟨by simp[(ih h).1],(ih h).2⟩
theorem fnd_none {L:List Prt} {c:Nat} (h:fnd L c=none):∀ p,p ∈ L→p.c≠c:=by
 induction L with
 | nil=>simp
 | cons q L ih=>
  unfold fnd at h
  split at h
  ·cases h
  ·rename_i e
   intro p hp
   rcases List.mem_cons.1 hp with rfl | hp
   ·exact e
   ·exact ih h p hp
theorem fnd_app (L M:List Prt) (c:Nat):fnd (L ++ M) c=match fnd L c with | some p=>some p | none=>fnd M c:=by
 induction L with
 | nil=>rfl
 | cons q L ih=>
  simp only[List.cons_append,fnd]
  split
  ·rfl
  ·exact ih
structure MX (w:World) (b:Nat) (L:List Prt) (lost l mb nn:Nat) (D:DataW Unit):Prop where
 blk:w.heap[b]?=some (.cells #[.map (some mb),.pointer (some ⟨l,0,none⟩)] 113 (0,0))
 los:Met w l (lost:Nat) none 0 0 none
 map:w.ownsMap Tryz.prog 40 rdQ mb nn D
 nle:nn≤L.length
 siz:Maps.size D=L.length
 at_:∀ c:Nat,c<4294967296→D.atKey (.int .u32 (c:Nat)) (datq none)=datq (fndq L c)
 has_:∀ c:Nat,c<4294967296→has D (.int .u32 (c:Nat))=(fnd L c).isSome
 key:∀ c:Int,has D (.int .u32 c)=true→∃ p,p ∈ L∧c=(p.c:Nat)
 met:∀ p,p ∈ L→Met w p.k (p.n:Nat) none 0 0 none∧p.k≠l∧p.c<4294967296
 one:L.Pairwise (fun p q=>p.c≠q.c∧p.k≠q.k)
def MXU (L:List Prt) (b l mb:Nat):List Nat:=b :: l :: mb :: L.map (·.k)
def Mxx (w:World) (b:Nat) (L:List Prt) (lost:Nat) (V:List Nat):Prop:=∃ l mb nn D,MX w b L lost l mb nn D∧V=MXU L b l mb
section
variable {w w':World} {b:Nat} {L:List Prt} {lost l mb nn:Nat} {D:DataW Unit}
theorem MX.lt (h:MX w b L lost l mb nn D):∀ k,k ∈ MXU L b l mb→k<w.heap.size:=by
 intro k hk
 simp[MXU]at hk
 rcases hk with rfl | rfl | rfl | ⟨p,hp,rfl⟩
 ·exact (Array.getElem?_eq_some_iff.1 h.blk).1
 ·exact h.los.lt
 ·exact h.map.lt
 ·exact (h.met p hp).1.lt
theorem MX.off {o:List Nat} (h:MX w b L lost l mb nn D) (ho:Off o w w') (hl:∀ k,k ∈ MXU L b l mb→k ∉ o):MX w' b L lost l mb nn D where
 blk:=(ho.block b (h.lt b (by simp[MXU])) (hl b (by simp[MXU]))).trans h.blk
 los:=h.los.off ho (hl l (by simp[MXU]))
 map:=ownsMap_off h.map ho (hl mb (by simp[MXU]))
 nle:=h.nle
 siz:=h.siz
 at_:=h.at_
 has_:=h.has_
 key:=h.key
 met:=fun p hp=>⟨(h.met p hp).1.off ho (hl p.k (by simp[MXU];exact .inr (.inr (.inr ⟨p,hp,rfl⟩)))),(h.met p hp).2⟩
 one:=h.one
theorem MX.c0 (h:MX w b L lost l mb nn D):w.cell? ⟨b,0,none⟩=some (.map (some mb)):=cell_of_row w b 0 _ _ _ h.blk
theorem MX.c1 (h:MX w b L lost l mb nn D):w.cell? ⟨b,1,none⟩=some (.pointer (some ⟨l,0,none⟩)):=cell_of_row w b 1 _ _ _ h.blk
end
theorem key_u32:Keyed Tryz.prog 40:=int_keyed Tryz.underlying40
theorem zero_prt (w:World):(zeroValue 115).run Tryz.prog w=.ok (ptq none) w:=by kernel_rfl
theorem wf_u32 (c:Nat) (h:c<4294967296):(Lit.int .u32 (c:Nat)).wf=true:=by
 have e1:IntKind.u32.min=0:=by decide
 have e2:IntKind.u32.max=4294967295:=by decide
 simp[Lit.wf,e1,e2]
 omega
section
variable {w:World} {b:Nat} {L:List Prt} {lost l mb nn:Nat} {D:DataW Unit}
theorem MX.look (h:MX w b L lost l mb nn D) (c:Nat) (hc:c<4294967296) :
  (Instr.lookup 110 (.map (some mb)) (.int .u32 (c:Nat)) false).run Tryz.prog w=.ok (ptq (fndq L c)) w:=by
 obtain⟨v,ps,hrun,hv⟩:=h.map.lookup key_u32 Tryz.underlying110 (zero_prt w) (zd:=datq none) (zp:=[]) (rdQ_ptq none) (keyOf_int_mk Tryz.underlying40 (wf_u32 c hc))
 rw[h.at_ c hc]at hv
 rw[hrun,rdQ_inv hv]
theorem MX.look2 (h:MX w b L lost l mb nn D) (c:Nat) (hc:c<4294967296) :
  (Instr.lookup 110 (.map (some mb)) (.int .u32 (c:Nat)) true).run Tryz.prog w=.ok (.tuple #[ptq (fndq L c),.bool (fnd L c).isSome]) w:=by
 obtain⟨v,ps,hrun,hv⟩:=h.map.look_ok key_u32 Tryz.underlying110 (zero_prt w) (zd:=datq none) (zp:=[]) (rdQ_ptq none) (keyOf_int_mk Tryz.underlying40 (wf_u32 c hc))
 rw[h.at_ c hc]at hv
 rw[hrun,rdQ_inv hv,h.has_ c hc]
end
end Go.Proofs.YthbogkaoidbpgaaGreat
namespace Go.Proofs.YthbogkaoidbpgaaGreat
set_option maxRecDepth 100000
open Go.RowKit Go.Maps
theorem map_ne (mb:Nat) (w:World):(binOp BinOp.eql 110 (.map (some mb)) (.map none)).run Tryz.prog w=.ok (.bool false) w:=by kernel_rfl
theorem prt_seen (p q:Value) (w:World):(Instr.field 115 (.agg #[p,q]) 1).run Tryz.prog w=.ok q w:=by kernel_rfl
theorem mnone_any (b mb:Nat) (w:World) (c0:w.cell? ⟨b,0,none⟩=some (.map (some mb))):Calls Tryz.prog 39 #[.pointer (some ⟨b,0,none⟩)] w fun e w'=>e=.returned (.bool false)∧w'=w:=by
 have hne:=map_ne mb w
 go_enter Tryz.func39,Tryz.ntmps39
 go_wp2_with fail
 go_ret
 exact⟨rfl,rfl⟩
def sns (L:List Prt) (c:Nat):Nat:=match fnd L c with | some p=>p.n | none=>0
theorem mseen_any (b:Nat) (L:List Prt) (lost:Nat) (V:List Nat) (c:Nat) (w:World) (h:Mxx w b L lost V) (hc:c<4294967296) (hn:sns L c<1000000):Calls Tryz.prog 28 #[.pointer (some ⟨b,0,none⟩),.int .u32 (c:Nat)] w fun e w'=>e=.returned (.int .i64 (sns L c:Nat))∧w'=w:=by
 obtain⟨l,mb,nn,D,h,_⟩:=h
 have c0:=h.c0
 have hq:=mnone_any b mb w c0
 have hk:=h.look c hc
 have hfs:=prt_seen
 cases hm:fnd L c with
 | none=>
  have e1:sns L c=0:=by unfold sns;rw[hm]
  have e2:ptq (fndq L c)=.agg #[.pointer none,.pointer none]:=by unfold fndq;rw[hm];rfl
  rw[e2]at hk
  rw[e1]
  clear hn
  go_enter Tryz.func28,Tryz.ntmps28
  go_wp2_with (first
   | (go_at_call 39;refine hq.mono ?_;rintro e w' ⟨rfl,rfl⟩)
   | (go_at_call 71;refine (total_nil _).mono ?_;rintro e w' ⟨rfl,rfl⟩))
  go_ret
  exact⟨rfl,rfl⟩
 | some p=>
  have e1:sns L c=p.n:=by unfold sns;rw[hm]
  have e2:ptq (fndq L c)=.agg #[.pointer (some ⟨p.d,0,none⟩),.pointer (some ⟨p.k,0,none⟩)]:=by unfold fndq;rw[hm];rfl
  rw[e2]at hk
  rw[e1]at hn ⊢
  have ht:=total_any (p.n:Nat) p.k none none 0 0 w (h.met p (fnd_mem hm).1).1
  generalize p.n=n at *
  have h1:IntKind.i64.wrap ((n:Nat):Int)=(n:Int):=by rw[IntKind.wrap_i64];omega
  clear hm e1 e2
  go_enter Tryz.func28,Tryz.ntmps28
  go_wp2_with (first
   | (go_at_call 39;refine hq.mono ?_;rintro e w' ⟨rfl,rfl⟩)
   | (go_at_call 71;refine ht.mono ?_;rintro e w' ⟨rfl,rfl⟩))
  go_ret
  exact⟨rfl,rfl⟩
theorem mnew_any (w:World):Calls Tryz.prog 17 #[] w fun e w'=>e=.returned (.pointer (some ⟨w.heap.size+2,0,none⟩))∧Hid (Below w.heap.size w w'∧w'.heap.size=w.heap.size+3∧Mxx w' (w.heap.size+2) [] 0 [w.heap.size+2,w.heap.size+1,w.heap.size]):=by
 have hmk:=@run_makeMap Tryz.prog
 go_enter Tryz.func17,Tryz.ntmps17
 go_wp2_with (go_at_call 58;refine (new_any _).mono ?_;rintro e w' ⟨rfl,rfl⟩)
 go_ret
 refine⟨rfl,?_⟩
 clear hmk
 generalize hw1:w.alloc (Obj.map #[] 0)=w1
 generalize hw2:w1.alloc (Obj.cells (MtC 0 none 0 0 none) 195)=w2
 have s1:w1.heap.size=w.heap.size+1:=by rw[← hw1];simp
 have s2:w2.heap.size=w.heap.size+2:=by rw[← hw2];simp[s1]
 have o1:Off [] w w1:=hw1 ▸ Off.alloc [] w _
 have o2:Off [] w1 w2:=hw2 ▸ Off.alloc [] w1 _
 have o3:∀ o,Off [] w2 (w2.alloc o):=fun o=>Off.alloc [] w2 o
 have m1:w1.ownsMap Tryz.prog 40 rdQ w.heap.size 0 (.map []):=hw1 ▸ World.ownsMap_made w Tryz.prog 40 rdQ
 have m2:Met w2 (w.heap.size+1) 0 none 0 0 none:=by
  have:=new_met w1
  rw[hw2,s1]at this
  exact this
 refine⟨((o1.trans o2).trans (o3 _)).below (Below.refl _ _) (by simp) (Nat.le_refl _),by simp[s2],w.heap.size+1,w.heap.size,0,.map [],?_,rfl⟩
 have hb:=heap_alloc_new w2 (Obj.cells #[Value.map (some w.heap.size),Value.pointer (some ⟨w.heap.size+1,0,none⟩)] 113)
 rw[s2]at hb
 exact⟨hb,m2.off (o3 _) (by simp),ownsMap_off (ownsMap_off m1 o2 (by simp)) (o3 _) (by simp),Nat.le_refl _,rfl,fun c _=>rfl,fun c _=>rfl,fun c h=>by simp[has]at h,fun p hp=>by simp at hp,List.Pairwise.nil⟩
theorem mcode_any (d c:Nat) (w:World) (c0:w.cell? ⟨d,0,none⟩=some (.int .u32 (c:Nat))):Calls Tryz.prog 47 #[.pointer (some ⟨d,0,none⟩)] w fun e w'=>e=.returned (.int .u32 (c:Nat))∧w'=w:=by
 go_enter Tryz.func47,Tryz.ntmps47
 go_wp2_with fail
 go_ret
 exact⟨rfl,rfl⟩
open Go.RowKit Go.Maps Go.Sort Go.Shelf
def encU (x:Int):Value:=.int .u32 x
theorem encU_inj {x y:Int} (h:encU x=encU y):x=y:=by simpa [encU] using h
structure Kcol (D:DataW Unit) (left:Lit→Bool) (ss:List Int):Prop where
 nd:ss.Nodup
 mem:∀ x,x ∈ ss ↔ (has D (.int .u32 x)=true∧left (.int .u32 x)=false)
theorem Kcol.start (D:DataW Unit):Kcol D (has D) []:=⟨List.nodup_nil,fun x=>by cases has D (.int .u32 x) <;> simp⟩
theorem Kcol.step {D:DataW Unit} {left:Lit→Bool} {ss:List Int} (h:Kcol D left ss) {x:Int} {y:DataW Unit} (hl:left (.int .u32 x)=true) (ha:∀ z,D.atKey (.int .u32 x) z=y):Kcol D (fun z=>left z && !z.sameKey (.int .u32 x)) (ss ++ [x]):=by
 have hx:has D (.int .u32 x)=true:=has_true_of_atKey ha
 have hn:x ∉ ss:=fun hm=>by
  have:=((h.mem x).1 hm).2
  rw[hl]at this
  cases this
 refine⟨List.nodup_append.2 ⟨h.nd,by simp,fun a hA b hB e=>?_⟩,fun z=>?_⟩
 ·simp at hB
  subst hB;subst e
  exact hn hA
 ·simp only[List.mem_append,List.mem_singleton,h.mem z,Bool.and_eq_false_iff,Bool.not_eq_false']
  by_cases e:z=x
  ·subst e
   simp[hx,Lit.sameKey]
  ·have:Lit.sameKey (.int .u32 z) (.int .u32 x)=false:=sameKey_ne (by simpa using e)
   simp[e,this]
def AllK (D:DataW Unit) (ss:List Int):Prop:=ss.Nodup∧∀ x,x ∈ ss ↔ has D (.int .u32 x)=true
set_option maxRecDepth 100000 in
set_option maxHeartbeats 1000000 in
theorem keysU1 (l Bm b nn n:Nat) (hn:1≤n) (D:DataW Unit) (J:List Int→World→Prop)
  (hY:∀ pre x W,J pre W→pre.length<Maps.size D→YieldAt Fence.wide (n-1) Tryz.prog l #[encU x] W fun e W'=>e=.returned (.bool true)∧J (pre ++ [x]) W'∧KeepsWalks W W')
  (W:World) (hJ:AbidesFrom W.heap.size J) (hm:W.cell? ⟨Bm,0,none⟩=some (.map (some b))) (hown:W.ownsMap Tryz.prog 40 rdQ b nn D) (h0:J [] W) :
  CallsIn Fence.wide n Tryz.prog 132 #[.func (.yield l) #[] #[],.pointer (some ⟨Bm,0,none⟩)] W fun e W'=>(∃ v,e=.returned v)∧∃ ss:List Int,AllK D ss∧J ss W':=by
 refine callsIn_of_wp Tryz.func132 rfl trivial ?_ rfl
 simp only[Tryz.ntmps132,List.size_toArray,List.length_cons,List.length_nil,Nat.reduceAdd,Nat.reduceSub,Array.replicate_succ,Array.replicate_zero,List.push_toArray,List.append_toArray,List.nil_append,List.cons_append]
 gi_wp2_with (first
  | (gi_at_range;refine wpListIn_range_own _ rfl _ 110 rfl 40 115 key_u32 Tryz.underlying110 _ b nn _ rfl hown ?_;intro w0 hr0 hg0 hs0)
  | gi_in)
 go_frame
 gi_loopw [3] (fun _ wr=>∃ (left:Lit→Bool) (cnt:Nat) (ss:List Int),wr.ranges Tryz.prog 40 rdQ b W.heap.size nn D left cnt∧ss.length+cnt≤Maps.size D∧Kcol D left ss∧J ss wr)
  (fun _ wr=>wr.rangeLeft b W.heap.size)
 case atStart=>
  exact⟨_,_,[],hr0,by simp,Kcol.start D,hJ [] W w0 none h0 hg0 (fun r e=>by cases e)⟩
 case round=>
  obtain⟨left,cnt,ss,hr,hc,hK,hJs⟩:=hrel
  gi_wp2_with (first
   | (gi_at_next;refine wpListIn_next_ranges _ rfl _ rfl 40 key_u32 rdQ encU id (fun key kl hk=>by obtain⟨x,hx,_⟩:=Maps.keyOf_int_inv Tryz.underlying40 hk;exact⟨x,hx⟩) (fun v _ _=>⟨v,rfl⟩) b W.heap.size nn _ _ _ rfl hr ?_ ?_)
   | gi_in)
  ·intro hc0 hl0
   gi_wp2
   go_end0
   exact⟨⟨_,rfl⟩,ss,⟨hK.nd,fun x=>by rw[hK.mem x,hl0];simp⟩,hJs⟩
  ·intro x c kl yd yp w2 cnt2 hkey hlk hv hat hr2 hlt hg2 hs2 hen
   obtain⟨x',ex,rfl,_⟩:=Maps.keyOf_int_inv Tryz.underlying40 hkey
   obtain rfl:x=x':=encU_inj ex
   have hJ2:J ss w2:=hJ ss wr w2 (some W.heap.size) hJs hg2 (fun r e=>by cases e;exact⟨Nat.le_refl _,hr.iter_walk⟩)
   obtain⟨fn,tmps,assign,body,hy,hR⟩:=hY ss x w2 hJ2 (by omega)
   clear hs2
   change (Instr.yield l #[.int .u32 x]).run Tryz.prog w2=_ at hy
   gi_wp2
   refine hR.mono ?_
   rintro e W3 ⟨rfl,hJ3,hk3⟩
   gi_wp2
   have hr3:=hr2.of_walks hk3
   go_roundw
   case rel=>exact⟨_,cnt2,ss ++ [x],hr3,by simp;omega,hK.step hlk hat,hJ3⟩
   case measure=>rw[hr3.left_eq,hr.left_eq];exact hlt
theorem keysU (mb:Option Nat) (n:Nat) (w:World):CallsIn Fence.wide n Tryz.prog 73 #[.map mb] w fun e w'=>e=.returned (.func (.func 132) #[] #[.pointer (some ⟨w.heap.size,0,none⟩)])∧w'=w.alloc (.cells #[.map mb] 110):=by
 refine callsIn_of_wp Tryz.func73 rfl trivial ?_ rfl
 simp only[Tryz.ntmps73,List.size_toArray,List.length_cons,List.length_nil,Nat.reduceAdd,Nat.reduceSub,Array.replicate_succ,Array.replicate_zero,List.push_toArray,List.append_toArray,List.nil_append,List.cons_append]
 gi_wp2
 go_ret
 exact⟨rfl,rfl⟩
theorem keysU_gives (Bm b nn n:Nat) (hn:1≤n) (D:DataW Unit) (w:World) (hB:Bm<w.heap.size) (hm:w.cell? ⟨Bm,0,none⟩=some (.map (some b))) (hown:w.ownsMap Tryz.prog 40 rdQ b nn D) :
  SeqGives Fence.wide n Tryz.prog 132 #[.pointer (some ⟨Bm,0,none⟩)] encU (AllK D) (Maps.size D) w:=fun l J W hW hJ hY h0=>
 keysU1 l Bm b nn n hn D J hY W hJ ((hW.cell (p:=⟨Bm,0,none⟩) hB).trans hm) (ownsMap_off hown (Off.of_below (l:=[]) hW) (by simp)) h0
theorem info_u32:(Tryz.prog.info? 40).map (fun i=>(i.zero,i.size,i.bytes))=some (some (.int .u32 0),1,4):=by kernel_rfl
def renU:Ren:=⟨fun n=>n,fun n=>if n=26 then 40 else if n=24 then 22 else 0,fun n=>n⟩
abbrev recU (fn:FuncId) (sv:Value) (Bs D:Nat) (st:LoopState) (pend:Option Code):Loop:=AnyZ.apRec renU fn sv Bs D st pend
structure ApU (w0:World) (fn:FuncId) (sv:Value) (Bs l D:Nat) (ss:List Int) (W:World):Prop where
 box:∃ v,W.heap[Bs]?=some (.cells #[v] 22 (0,0))∧W.ownsRow w0.heap.size 40 1 v ss.length (ss.map encU)∧(v=.slice none 0 0 ↔ ss=[])
 lop:W.heap[l]?=some (.loop (recU fn sv Bs D .ready none))
 dfr:W.heap[D]?=some (.deferred (some []))
 bel:Below w0.heap.size w0 W
theorem ApU.abides (w0:World) (fn:FuncId) (sv:Value) (Bs l D B:Nat) (hB:w0.heap.size≤B):AbidesFrom B (ApU w0 fn sv Bs l D):=fun s W W' row h hg hrow=>by
 have hw:∀ r,row=some r→∃ o:Obj,W.heap[r]?=some o∧o.isWalk=true:=fun r e=>(hrow r e).2
 obtain⟨v,hv,hr,hn⟩:=h.box
 refine⟨⟨v,(grownBy_keeps hg hw hv rfl).trans hv,ownsRow_abides_a hr hg hw,hn⟩,(grownBy_keeps hg hw h.lop rfl).trans h.lop,(grownBy_keeps hg hw h.dfr rfl).trans h.dfr,?_⟩
 exact h.bel.grown hg h.bel.size (fun k e=>Nat.le_trans hB (hrow k e).1)
set_option maxRecDepth 100000 in
set_option maxHeartbeats 2000000 in
theorem ApU.yield (m:Nat) (w0:World) (fn:FuncId) (sv:Value) (Bs l D:Nat) (hBl:Bs≠l) (hDl:D≠l) (hDB:D≠Bs) (h0B:w0.heap.size≤Bs) (h0l:w0.heap.size≤l) (N:Nat) (hN:N≤1000000) (ss:List Int) (x:Int) (W:World) (h:ApU w0 fn sv Bs l D ss W) (hlen:ss.length<N) :
  YieldAt Fence.wide m Tryz.prog l #[encU x] W fun e W'=>e=.returned (.bool true)∧ApU w0 fn sv Bs l D (ss ++ [x]) W'∧KeepsWalks W W':=by
 have hne:∀ (v:Value) (cur:Array Value),(Obj.cells #[v] 22 (0,0)) ≠ .cells cur 40 (0,0):=fun v cur e=>by cases e
 have hnl:∀ (L:Loop) (cur:Array Value),(Obj.loop L) ≠ .cells cur 40 (0,0):=fun v cur e=>by cases e
 have hnd:∀ (L:Option (List Deferred)) (cur:Array Value),(Obj.deferred L) ≠ .cells cur 40 (0,0):=fun v cur e=>by cases e
 obtain⟨i0,hi,hz0,hz1,hz2⟩:=info_parts info_u32
 obtain⟨v,hv,hrow,_⟩:=h.box
 refine⟨fn,#[.slice none 0 0,sv,.pointer (some ⟨Bs,0,none⟩),undef,.slice none 0 0,undef,sv,.int .u32 x,undef,undef,undef,undef,undef],AnyZ.apAssign renU,AnyZ.apBody renU,by simpa [AnyZ.apRec,encU] using run_yield (P:=Tryz.prog) (args:=#[encU x]) h.lop rfl,roundIn_of_wpIn trivial ?_⟩
 have hl:l<W.heap.size:=(Array.getElem?_eq_some_iff.1 h.lop).1
 have hbr:=run_beginRound (P:=Tryz.prog) h.lop rfl
 obtain⟨W2,hW2⟩:∃ W2,W.putObj l (.loop { recU fn sv Bs D .ready none with state:=.busy })=W2:=⟨_,rfl⟩
 rw[hW2]at hbr
 have g2:W.grownBy W2 (some l):=by rw[← hW2];exact grownBy_putObj_a _ _ _
 have k2:KeepsWalks W W2:=by rw[← hW2];exact KeepsWalks.putObj _ h.lop rfl
 have v2:W2.heap[Bs]?=some (.cells #[v] 22 (0,0)):=by rw[← hW2];exact (World.putObj_heap_other hBl).trans hv
 have d2:W2.heap[D]?=some (.deferred (some [])):=by rw[← hW2];exact (World.putObj_heap_other hDl).trans h.dfr
 have l2:W2.heap[l]?=some (.loop { recU fn sv Bs D .ready none with state:=.busy }):=by rw[← hW2];exact World.putObj_heap_same hl
 have r2:W2.ownsRow w0.heap.size 40 1 v ss.length (ss.map encU):=hrow.kept g2 (ownsRow_ne_a hrow h.lop (hnl _))
 have b2:Below w0.heap.size w0 W2:=h.bel.grown g2 h.bel.size (fun k e=>by cases e;exact h0l)
 obtain⟨c2,f2⟩:=cell_of_box_a v2
 have vl:Bs<W2.heap.size:=(Array.getElem?_eq_some_iff.1 v2).1
 have ll:l<W2.heap.size:=(Array.getElem?_eq_some_iff.1 l2).1
 have dl:D<W2.heap.size:=(Array.getElem?_eq_some_iff.1 d2).1
 have nof:∀ {j:Nat} {o:Obj},W2.heap[j]?=some o→(∀ cur,o ≠ .cells cur 40 (0,0))→some j≠v.ownBlock:=fun hj hno=>by
  rcases ownsRow_ne_a r2 hj hno with e | e
  ·rw[e];simp
  ·exact fun e'=>e e'.symm
 clear hW2
 have sb:=b2.size
 unfold AnyZ.apAssign
 gi_wp2_with gi_round_op_a
 unfold AnyZ.apBody
 simp only[renU]
 gi_wp2_with (first
  | (gi_at_builtin;refine wpListIn_append_own _ rfl _ _ 22 rfl w0.heap.size 40 i0 (.int .u32 0) 1 4 Tryz.underlying22 hi hz0 hz1 hz2 rfl (by decide) _ _ _ rfl (r2.alloc _) ⟨W2.heap.size,0,none⟩ 1 1 [.int .u32 x] rfl rfl (cell_one_new _ _ _) (by simp[Value.oneCell']) (by unfold maxLen;omega) (by omega) (by simp;omega) ?_;intro v' w3 own3 g3 nil3
     have v3:w3.heap[Bs]?=some (.cells #[v] 22 (0,0)):=(g3.block Bs (by simp;omega) (nof v2 (hne _))).trans ((Below.heap_alloc _ _ Bs vl).trans v2)
     obtain⟨c3,f3⟩:=cell_of_box_a v3
     obtain⟨g',cap',cur',rfl,_,_,_,_,_,_⟩:∃ g' cap' cur',v'=.slice (some ⟨g',0,none⟩) (ss.length+1) cap'∧w0.heap.size≤g'∧w3.heap[g']?=some (.cells cur' 40 (0,0))∧ss.length+1≤cap'∧cap'≤maxLen∧cur'.size=cap'*1∧cur'.toList.take ((ss.length+1)*1)=ss.map encU ++ [.int .u32 x]:=by
      rcases own3.2 with ⟨_,h0⟩ | h'
      ·exact absurd h0 (by omega)
      ·exact h'
     go_frame)
  | gi_round_op_a)
 have g3':(W2.alloc (.cells #[.int .u32 x] 40)).grownBy w3 v.ownBlock:=g3
 have l3:w3.heap[l]?=some (.loop { recU fn sv Bs D .ready none with state:=.busy }):=(g3'.block l (by simp;omega) (nof l2 (hnl _))).trans ((Below.heap_alloc _ _ l ll).trans l2)
 have d3:w3.heap[D]?=some (.deferred (some [])):=(g3'.block D (by simp;omega) (nof d2 (hnd _))).trans ((Below.heap_alloc _ _ D dl).trans d2)
 obtain⟨w4,hw4⟩:∃ w4,w3.setCell ⟨Bs,0,none⟩ (.slice (some ⟨g',0,none⟩) (ss.length+1) cap')=w4:=⟨_,rfl⟩
 rw[hw4]
 have g4:w3.grownBy w4 (some Bs):=by rw[← hw4];exact grownBy_setCell0_a _ _ _
 have v4:w4.heap[Bs]?=some (.cells #[.slice (some ⟨g',0,none⟩) (ss.length+1) cap'] 22 (0,0)):=by rw[← hw4];exact heap_setCell_box_a _ v3
 have l4:w4.heap[l]?=some (.loop { recU fn sv Bs D .ready none with state:=.busy }):=(g4.block l (Array.getElem?_eq_some_iff.1 l3).1 (fun e=>hBl (by cases e;rfl))).trans l3
 have d4:w4.heap[D]?=some (.deferred (some [])):=(g4.block D (Array.getElem?_eq_some_iff.1 d3).1 (fun e=>hDB (by cases e;rfl))).trans d3
 have r4:=own3.kept g4 (ownsRow_ne_a own3 v3 (hne _))
 have b3:Below w0.heap.size w0 w3:=(b2.alloc b2.size _).grown g3' (by simp;omega) (fun k e=>(r2.lt k e).1)
 have b4:Below w0.heap.size w0 w4:=b3.grown g4 b3.size (fun k e=>by cases e;exact h0B)
 have k4:KeepsWalks W w4:=((k2.trans (KeepsWalks.alloc _ _)).trans (KeepsWalks.of_grownBy g3' (ownsRow_not_walk_a (r2.alloc _)))).trans (by rw[← hw4];exact KeepsWalks.setCell _ _ _)
 have l4s:l<w4.heap.size:=(Array.getElem?_eq_some_iff.1 l4).1
 clear hw4
 refine⟨_,_,run_endRound none l4,rfl,⟨⟨_,(World.putObj_heap_other hBl).trans v4,?_,by simp⟩,World.putObj_heap_same l4s,(World.putObj_heap_other hDl).trans d4,b4.grown (grownBy_putObj_a _ _ _) b4.size (fun k e=>by cases e;exact h0l)⟩,k4.trans (KeepsWalks.putObj _ l4 rfl)⟩
 have:=r4.kept (grownBy_putObj_a w4 l (.loop { { recU fn sv Bs D .ready none with state:=.busy } with state:=if (none:Option Code).isNone then .ready else .done,pending:=none })) (ownsRow_ne_a r4 l4 (hnl _))
 simpa [encU] using this
set_option maxRecDepth 100000 in
set_option maxHeartbeats 2000000 in
theorem appendU (n:Nat) (hn:2≤n) (g:Nat) (lb:Array Value) (eg:∀ args w,(callFunc g args).run Tryz.prog w=.ok (.enter g args) w) (S:List Int→Prop) (N:Nat) (hN:N≤1000000) (w:World) (hseq:SeqGives Fence.wide (n-1) Tryz.prog g lb encU S N w) :
  CallsIn Fence.wide n Tryz.prog 184 #[.slice none 0 0,.func (.func g) #[] lb] w fun e w'=>∃ (v:Value) (ss:List Int),e=.returned v∧S ss∧w'.ownsRow w.heap.size 40 1 v ss.length (ss.map encU)∧(v=.slice none 0 0 ↔ ss=[])∧Below w.heap.size w w':=by
 have h1:1≤n:=by omega
 have hne:∀ (v:Value) (cur:Array Value),(Obj.cells #[v] 22 (0,0)) ≠ .cells cur 40 (0,0):=fun v cur e=>by cases e
 have hnl:∀ (L:Loop) (cur:Array Value),(Obj.loop L) ≠ .cells cur 40 (0,0):=fun v cur e=>by cases e
 have hnd:∀ (L:Option (List Deferred)) (cur:Array Value),(Obj.deferred L) ≠ .cells cur 40 (0,0):=fun v cur e=>by cases e
 refine callsIn_of_wp_marks Tryz.func184 rfl trivial ?_ rfl
 simp only[Tryz.ntmps184,List.size_toArray,List.length_cons,List.length_nil,Nat.reduceAdd,Nat.reduceSub,Array.replicate_succ,Array.replicate_zero,List.push_toArray,List.append_toArray,List.nil_append,List.cons_append]
 gi_wp2
 refine wpIn_rangeFunc ?_
 intro fn hfn
 obtain⟨W0,hW0⟩:∃ W0,w.alloc (.cells #[.slice none 0 0] 22)=W0:=⟨_,rfl⟩
 have s0:W0.heap.size=w.heap.size+1:=by rw[← hW0];simp
 have v0:W0.heap[w.heap.size]?=some (.cells #[.slice none 0 0] 22 (0,0)):=by rw[← hW0];exact World.alloc_heap_new w _
 have b0:Below w.heap.size w W0:=by rw[← hW0];exact (Below.refl _ w).alloc (Nat.le_refl _) _
 rw[hW0]
 obtain⟨W1,hW1⟩:∃ W1,(W0.alloc (.deferred (some []))).alloc (.loop (recU fn (.func (.func g) #[] lb) w.heap.size W0.heap.size .ready none))=W1:=⟨_,rfl⟩
 have old:∀ k,k<W0.heap.size→W1.heap[k]?=W0.heap[k]?:=fun k hk=>by
  rw[← hW1];exact (Below.heap_alloc _ _ k (by simp;omega)).trans (Below.heap_alloc _ _ k hk)
 have sb:=b0.size
 have b1:Below w.heap.size w W1:=by rw[← hW1];exact (b0.alloc b0.size _).alloc (by simp;omega) _
 have hA:ApU w fn (.func (.func g) #[] lb) w.heap.size (W0.heap.size+1) W0.heap.size [] W1:=by
  refine⟨⟨_,(old w.heap.size (by omega)).trans v0,⟨rfl,.inl ⟨rfl,rfl⟩⟩,by simp⟩,?_,?_,b1⟩
  ·rw[← hW1]
   have:=World.alloc_heap_new (W0.alloc (.deferred (some []))) (.loop (recU fn (.func (.func g) #[] lb) w.heap.size W0.heap.size .ready none))
   rwa [World.size_alloc]at this
  ·rw[← hW1]
   exact (Below.heap_alloc _ _ _ (by simp)).trans (World.alloc_heap_new W0 _)
 refine⟨W0.heap.size+1,[{ target:=.collected W0.heap.size,args:=#[] }],W1,{ target:=.fn (.func g) lb,args:=#[.func (.yield (W0.heap.size+1)) #[] #[]] },W1,g,#[.func (.yield (W0.heap.size+1)) #[] #[]] ++ lb,W1,?_,?_,?_,?_,fun _=>h1,?_⟩
 ·rw[← hW1];exact run_enterLoop_outer _ _ _ _ _
 ·simp[resolve,go_sem]
 ·intro f' _;trivial
 ·simp[invoke,go_sem,eg]
 ·refine (hseq (W0.heap.size+1) (ApU w fn (.func (.func g) #[] lb) w.heap.size (W0.heap.size+1) W0.heap.size) W1 b1 (ApU.abides _ _ _ _ _ _ _ b1.size)
   (fun pre x W hJ hl=>ApU.yield (n-1-1) w fn _ w.heap.size (W0.heap.size+1) W0.heap.size (by omega) (by omega) (by omega) (Nat.le_refl _) (by omega) N hN pre x W hJ hl) hA).mono ?_
  rintro e W2 ⟨⟨u,rfl⟩,ss,hS,h2⟩
  obtain⟨v,hv,hrow,hnil⟩:=h2.box
  have hend:=run_endLoop (P:=Tryz.prog) h2.lop (by simp[AnyZ.apRec])
  obtain⟨W3,hW3⟩:∃ W3,W2.putObj (W0.heap.size+1) (.loop { recU fn (.func (.func g) #[] lb) w.heap.size W0.heap.size .ready none with state:=.exhausted })=W3:=⟨_,rfl⟩
  rw[hW3]at hend
  have g3:W2.grownBy W3 (some (W0.heap.size+1)):=by rw[← hW3];exact grownBy_putObj_a _ _ _
  have v3:W3.heap[w.heap.size]?=some (.cells #[v] 22 (0,0)):=by rw[← hW3];exact (World.putObj_heap_other (by omega)).trans hv
  have d3:W3.heap[W0.heap.size]?=some (.deferred (some [])):=by rw[← hW3];exact (World.putObj_heap_other (by omega)).trans h2.dfr
  have r3:=hrow.kept g3 (ownsRow_ne_a hrow h2.lop (hnl _))
  have b3:Below w.heap.size w W3:=h2.bel.grown g3 h2.bel.size (fun k e=>by cases e;omega)
  obtain⟨c3,f3⟩:=cell_of_box_a v3
  clear hW3
  refine⟨none,W3,hend,?_⟩
  gi_wp2
  rw[← s0]
  refine⟨by simp,.inl ⟨_,_,rfl,run_takeDeferred d3,?_⟩⟩
  exact⟨_,results_tmp rfl _ _ _,v,ss,rfl,hS,r3.kept (grownBy_putObj_a _ _ _) (ownsRow_ne_a r3 d3 (hnd _)),hnil,b3.grown (grownBy_putObj_a _ _ _) b3.size (fun k e=>by cases e;omega)⟩
theorem collectU (n:Nat) (hn:3≤n) (g:Nat) (lb:Array Value) (eg:∀ args w,(callFunc g args).run Tryz.prog w=.ok (.enter g args) w) (S:List Int→Prop) (N:Nat) (hN:N≤1000000) (w:World) (hseq:SeqGives Fence.wide (n-1-1) Tryz.prog g lb encU S N w) :
  CallsIn Fence.wide n Tryz.prog 130 #[.func (.func g) #[] lb] w fun e w'=>∃ (v:Value) (ss:List Int),e=.returned v∧S ss∧w'.ownsRow w.heap.size 40 1 v ss.length (ss.map encU)∧(v=.slice none 0 0 ↔ ss=[])∧Below w.heap.size w w':=by
 have hA:=appendU (n-1) (by omega) g lb eg S N hN w hseq
 have hf:Fence.wide.fn 184:=trivial
 have h1:1≤n:=by omega
 refine callsIn_of_wp Tryz.func130 rfl trivial ?_ rfl
 simp only[Tryz.ntmps130,List.size_toArray,List.length_cons,List.length_nil,Nat.reduceAdd,Nat.reduceSub,Array.replicate_succ,Array.replicate_zero,List.push_toArray,List.append_toArray,List.nil_append,List.cons_append]
 gi_wp2_with (gi_at_call 184;refine hA.mono ?_;rintro e w' ⟨v,ss,rfl,hS,hrow,hnil,hb⟩)
 go_ret
 exact⟨v,ss,rfl,hS,hrow,hnil,hb⟩
theorem old_allocU {w:World} {o:Obj} {r:Nat} (h:r<w.heap.size):(w.alloc o).heap[r]?=w.heap[r]?:=(Off.alloc [] w o).block r h (by simp)
def natU:Value→Nat
 | .int _ x=>x.toNat
 | _=>0
def RowU (w:World) (a:Option Addr) (l:List Int):Prop:=∀ i (h:i<l.length),∃ b o,a=some ⟨b,o,none⟩∧w.cell? ⟨b,o+i,none⟩=some (.int .u32 (l[i]))
theorem RowU.off {w w':World} {a:Option Addr} {l:List Int} {q:List Nat} (h:RowU w a l) (o:Off q w w') (hq:∀ x,a=some x→x.block ∉ q):RowU w' a l:=fun i hi=>by
 obtain⟨b,p,e,hc⟩:=h i hi
 refine⟨b,p,e,?_⟩
 exact (World.cell?_of_block (a:=⟨b,p+i,none⟩) (o.block b (World.block_lt_of_cell? w _ hc) (hq _ e))).trans hc
theorem RowU.below {w w':World} {a:Option Addr} {l:List Int} (h:RowU w a l) (o:Below w.heap.size w w'):RowU w' a l:=h.off (Off.of_below (l:=[]) o) (by simp)
theorem own_rowU {w:World} {B:Nat} {v:Value} {l:List Int} (h:w.ownsRow B 40 1 v l.length (l.map encU)):∃ a cap,v=.slice a l.length cap∧RowU w a l∧(∀ x,a=some x→B≤x.block∧v.ownBlock=some x.block):=by
 rcases h.2 with ⟨rfl,hn⟩ | ⟨g,cap,cur,rfl,hB,hg,h1,h2,h3,h4⟩
 ·refine⟨none,0,by rw[hn],fun i hi=>by omega,fun x hx=>by cases hx⟩
 ·refine⟨some ⟨g,0,none⟩,cap,rfl,fun i hi=>⟨g,0,rfl,?_⟩,fun x hx=>by cases hx;exact⟨hB,rfl⟩⟩
  have h5:cur[0+i]?=some (.int .u32 (l[i])):=by
   have e:(cur.toList.take (l.length*1))[i]?=(l.map encU)[i]?:=by rw[h4]
   rw[List.getElem?_take_of_lt (by omega)]at e
   simp[hi,encU]at e
   simpa using e
  exact (cell_of_row w g (0+i) cur _ _ hg).trans h5
set_option maxHeartbeats 400000 in
theorem equalU (a1 a2:Option Addr) (c1 c2:Nat) (l:List Int) (w:World) (h1:RowU w a1 l) (h2:RowU w a2 l) (hlen:l.length≤1000000000) :
  Calls Tryz.prog 31 #[.slice a1 l.length c1,.slice a2 l.length c2] w fun e w'=>e=.returned (.bool true)∧∃ m,w'=w.drewN m:=by
 obtain⟨n,hn⟩:∃ n,n=l.length:=⟨_,rfl⟩
 have HN:Hid (n=l.length):=hn
 rw[← hn]at hlen ⊢
 clear hn
 go_enter Tryz.func31,Tryz.ntmps31
 go_wp2_with fail
 go_loopw [4,5,13] (fun _ _ c wr=>∃ i m,i≤n∧c=.int .i64 ((i:Nat):Int)∧wr=w.drewN m) (fun _ _ c _=>n-natU c)
 case atStart=>exact⟨0,0,by omega,rfl,rfl⟩
 case round=>
  obtain⟨i,m,hi,rfl,rfl⟩:=hrel
  by_cases hlt:i<n
  ·obtain⟨b1,o1,rfl,q1⟩:=h1 i (by rw[← HN.out];exact hlt)
   obtain⟨b2,o2,rfl,q2⟩:=h2 i (by rw[← HN.out];exact hlt)
   have e1:(w.drewN m).cell? ⟨b1,o1+i,none⟩=some (.int .u32 (l[i]'(by rw[← HN.out];exact hlt))):=q1
   have e2:(w.drewN m).cell? ⟨b2,o2+i,none⟩=some (.int .u32 (l[i]'(by rw[← HN.out];exact hlt))):=q2
   clear q1 q2 h1 h2
   generalize l[i]'(by rw[← HN.out];exact hlt)=x at *
   generalize hwm:w.drewN m=wm at *
   go_wp2_with fail
   go_quiet (fail)
   go_wp2_with fail
   go_roundw
   case rel=>exact⟨i+1,m+nq,by omega,by go_num,by rw[← hwm,World.drewN_drewN]⟩
   case measure=>simp[natU] <;> omega
  ·clear h1 h2
   go_wp2_with fail
   go_ret
   exact⟨rfl,m,rfl⟩
open Go.RowKit
def ptV (d:Nat):Value:=.pointer (some ⟨d,0,none⟩)
def inV (n:Nat):Value:=.int .i64 (n:Nat)
theorem tdiffM {w:World} {a b:Nat} {c c':Array Value} {e e':TypeId} {f f':Nat × Nat} (h:w.heap[a]?=some (.cells c e f)) (h':w.heap[b]?=some (.cells c' e' f')) (he:e≠e'):a≠b:=fun k=>by
 subst k
 rw[h]at h'
 cases h'
 exact he rfl
theorem own_blkM {w:World} {B:Nat} {e:TypeId} {size n:Nat} {v:Value} {xs:List Value} (h:w.ownsRow B e size v n xs) {k:Nat} (hk:v.ownBlock=some k):∃ c,w.heap[k]?=some (.cells c e (0,0)):=by
 rcases h.2 with ⟨rfl,_⟩ | ⟨g,cap,cur,rfl,_,hg,_⟩
 ·cases hk
 ·cases hk
  exact⟨cur,hg⟩
structure RMx (w:World) (b:Nat) (v1 v2:Value) (ds ns:List Nat) (lost:Nat):Prop where
 blk:w.heap[b]?=some (.cells #[v1,v2,.int .i64 (lost:Nat)] 98 (0,0))
 r1:w.ownsRow 0 37 1 v1 ds.length (ds.map ptV)
 r2:w.ownsRow 0 3 1 v2 ns.length (ns.map inV)
def RMU (b:Nat) (v1 v2:Value):List Nat:=b :: (v1.ownBlock.toList ++ v2.ownBlock.toList)
section
variable {w w':World} {b lost:Nat} {v1 v2:Value} {ds ns:List Nat}
theorem RMx.lt (h:RMx w b v1 v2 ds ns lost):∀ k,k ∈ RMU b v1 v2→k<w.heap.size:=by
 intro k hk
 simp[RMU]at hk
 rcases hk with rfl | hk | hk
 ·exact (Array.getElem?_eq_some_iff.1 h.blk).1
 ·obtain⟨c,hc⟩:=own_blkM h.r1 hk
  exact (Array.getElem?_eq_some_iff.1 hc).1
 ·obtain⟨c,hc⟩:=own_blkM h.r2 hk
  exact (Array.getElem?_eq_some_iff.1 hc).1
theorem own_offM {l:List Nat} {w w':World} {B e size n:Nat} {v:Value} {xs:List Value} (h:w.ownsRow B e size v n xs) (q:Off l w w') (hl:∀ k,v.ownBlock=some k→k ∉ l):w'.ownsRow B e size v n xs:=by
 refine⟨h.1,?_⟩
 rcases h.2 with hn | ⟨g,cap,cur,rfl,hg,hgg,rest⟩
 ·exact .inl hn
 ·exact .inr ⟨g,cap,cur,rfl,hg,by rw[q.block g (Array.getElem?_eq_some_iff.1 hgg).1 (hl g rfl)];exact hgg,rest⟩
theorem RMx.off {l:List Nat} (h:RMx w b v1 v2 ds ns lost) (o:Off l w w') (hl:∀ k,k ∈ RMU b v1 v2→k ∉ l):RMx w' b v1 v2 ds ns lost:=
 ⟨(o.block b (h.lt b (by simp[RMU])) (hl b (by simp[RMU]))).trans h.blk,own_offM h.r1 o (fun k hk=>hl k (by simp[RMU,hk])),own_offM h.r2 o (fun k hk=>hl k (by simp[RMU,hk]))⟩
end
def rmT (b:Nat) (v1 v2:Value) (ds ns:List Nat) (lost:Nat):Thing:=⟨RMU b v1 v2,fun w=>RMx w b v1 v2 ds ns lost,fun _ _ _ h o hl=>h.off o hl⟩
def Fnd (n:Nat) (cs:Nat→Nat) (c:Nat) (r:Int):Prop:=(r = -1∧∀ i,i<n→cs i≠c)∨∃ j:Nat,j<n∧r=(j:Int)∧cs j=c∧∀ i,i<j→cs i≠c
theorem own_ptr {w:World} {B:Nat} {e:TypeId} {v:Value} {ds:List Nat} (h:w.ownsRow B e 1 v ds.length (ds.map ptV)):∃ a cap,v=.slice a ds.length cap∧∀ i (hi:i<ds.length),∃ g,a=some ⟨g,0,none⟩∧g<w.heap.size∧w.cell? ⟨g,i,none⟩=some (ptV ds[i]):=by
 rcases h.2 with ⟨rfl,hn⟩ | ⟨g,cap,cur,rfl,hB,hg,h1,h2,h3,h4⟩
 ·exact⟨none,0,by rw[hn],fun i hi=>by omega⟩
 ·refine⟨some ⟨g,0,none⟩,cap,rfl,fun i hi=>⟨g,rfl,(Array.getElem?_eq_some_iff.1 hg).1,?_⟩⟩
  have h5:cur[i]?=some (ptV ds[i]):=by
   have e:(cur.toList.take (ds.length*1))[i]?=(ds.map ptV)[i]?:=by rw[h4]
   rw[List.getElem?_take_of_lt (by omega)]at e
   simp[hi]at e
   simpa using e
  exact (cell_of_row w g i cur _ _ hg).trans h5
set_option maxHeartbeats 1000000 in
theorem rfind_any (b:Nat) (v1 v2:Value) (ds ns:List Nat) (lost:Nat) (cs:Nat→Nat) (c:Nat) (w:World) (h:RMx w b v1 v2 ds ns lost) (hc:∀ i (hi:i<ds.length),w.cell? ⟨ds[i],0,none⟩=some (.int .u32 (cs i:Nat))) (hn:ds.length<100000) :
  Calls Tryz.prog 74 #[.pointer (some ⟨b,0,none⟩),.int .u32 (c:Nat)] w fun e w'=>∃ r,e=.returned (.int .i64 r)∧Hid (Fnd ds.length cs c r)∧w'=w:=by
 obtain⟨a,cap,rfl,hcs⟩:=own_ptr h.r1
 have c0:w.cell? ⟨b,0,none⟩=some (.slice a ds.length cap):=cell_of_row w b 0 _ _ _ h.blk
 have HC:Hid (_):=And.intro hcs hc
 obtain⟨n,en⟩:∃ n,n=ds.length:=⟨_,rfl⟩
 have HN:Hid (n=ds.length):=en
 rw[← en]at c0 hn ⊢
 clear en hcs h hc
 go_enter Tryz.func74,Tryz.ntmps74
 go_wp2_with fail
 go_loopw [5] (fun x wr=>∃ i:Nat,i≤n∧x=.int .i64 ((i:Nat):Int)∧wr=w∧∀ j,j<i→cs j≠c) (fun x _=>n-natU x)
 case atStart=>exact⟨0,by omega,rfl,rfl,fun j hj=>by omega⟩
 case round=>
  obtain⟨i,hi,rfl,rfl,hj⟩:=hrel
  by_cases hlt:i<n
  ·have hil:i<ds.length:=by rw[← HN.out];exact hlt
   obtain⟨g,rfl,_,d1⟩:=HC.out.1 i hil
   have d2:=HC.out.2 i hil
   unfold ptV at d1
   generalize ds[i]=d at *
   have HJ:Hid (_):=hj
   clear hj
   by_cases he:cs i=c
   ·have he':((cs i:Nat):Int)=(c:Int):=by omega
    go_wp2_with fail
    go_ret
    exact⟨_,rfl,.inr ⟨i,hlt,rfl,he,HJ.out⟩,rfl⟩
   ·have he':¬ ((cs i:Nat):Int)=(c:Int):=by omega
    go_wp2_with fail
    go_roundw
    case rel=>exact⟨i+1,by omega,by go_num,by trivial,fun j hj=>by by_cases e:j=i;(subst e;exact he);exact HJ.out j (by omega)⟩
    case measure=>simp[natU] <;> omega
  ·obtain rfl:i=n:=by omega
   have HJ:Hid (_):=hj
   clear hj
   go_wp2_with fail
   go_ret
   exact⟨_,rfl,.inl ⟨rfl,HJ.out⟩,rfl⟩
end Go.Proofs.YthbogkaoidbpgaaGreat
namespace Go.Proofs.YthbogkaoidbpgaaGreat
set_option maxRecDepth 100000
open Go.RowKit Go.Maps
def Ro (w:World) (g n C:Nat) (f:Nat→Int):Prop:=∃ cur:Array Value,w.heap[g]?=some (.cells cur 40 (0,0))∧cur.size=C∧∀ i,i<n→cur[i]?=some (.int .u32 (f i))
theorem Ro.cell {w:World} {g n C:Nat} {f:Nat→Int} (h:Ro w g n C f) {i:Nat} (hi:i<n):w.cell? ⟨g,i,none⟩=some (.int .u32 (f i)):=by
 obtain⟨cur,h1,hC,h2⟩:=h
 simp[World.cell?,h1,h2 i hi]
theorem Ro.fz {w:World} {g n C:Nat} {f:Nat→Int} (h:Ro w g n C f) (i:Nat):w.frozen? ⟨g,i,none⟩=false:=by
 obtain⟨cur,h1,hC,h2⟩:=h
 exact frozen_of_row w g i _ _ h1
theorem Ro.off {l:List Nat} {w w':World} {g n C:Nat} {f:Nat→Int} (h:Ro w g n C f) (o:Off l w w') (hg:g ∉ l):Ro w' g n C f:=by
 obtain⟨cur,h1,hC,h2⟩:=h
 exact⟨cur,(o.block g (Array.getElem?_eq_some_iff.1 h1).1 hg).trans h1,hC,h2⟩
theorem Ro.set {w:World} {g n C:Nat} {f:Nat→Int} (h:Ro w g n C f) (j:Nat) (x:Int):Ro (w.setCell ⟨g,j,none⟩ (.int .u32 x)) g n C (fun i=>if i=j then x else f i):=by
 obtain⟨cur,h1,hC,h2⟩:=h
 refine⟨_,heap_setCell_same _ _ _ _ _ _ h1,by simpa using hC,fun i hi=>?_⟩
 have:=h2 i hi
 have hl:=(Array.getElem?_eq_some_iff.1 this).1
 rw[Array.getElem?_setIfInBounds]
 by_cases e:i=j
 ·subst e;simp[hl]
 ·rw[if_neg (Ne.symm e),this];simp[e]
def nU:Value→Nat
 | .int _ x=>x.toNat
 | _=>0
def lsU (n:Nat) (f:Nat→Int):List Int:=(List.range n).map f
def swU (f:Nat→Int) (j:Nat):Nat→Int:=fun i=>if i=j-1 then f j else if i=j then f (j-1) else f i
theorem swU_perm (n:Nat) (f:Nat→Int) (j:Nat) (h0:0<j) (hj:j<n):(lsU n (swU f j)).Perm (lsU n f):=by
 have h1:j-1 < (lsU n f).length:=by simp[lsU];omega
 have h2:j < (lsU n f).length:=by simp[lsU];omega
 have e:lsU n (swU f j)=((lsU n f).set j (lsU n f)[j-1]).set (j-1) (lsU n f)[j]:=by
  refine List.ext_getElem (by simp[lsU]) fun i hi1 hi2=>?_
  simp only[lsU,List.getElem_map,List.getElem_range,List.getElem_set,swU]
  by_cases e1:i=j-1
  ·simp[e1]
  ·rw[if_neg e1,if_neg (Ne.symm e1)]
   by_cases e2:i=j
   ·simp[e2]
   ·rw[if_neg e2,if_neg (Ne.symm e2)]
 rw[e]
 exact List.set_set_perm h2 h1
def Srt (f:Nat→Int) (i j:Nat):Prop:=∀ p q,p<q→q≤i→q≠j→f p≤f q
theorem Srt.swap {f:Nat→Int} {i j:Nat} (h:Srt f i j) (h0:0<j) (hj:j≤i) (hl:f j<f (j-1)):Srt (swU f j) i (j-1):=by
 intro p q hpq hqi hne
 have a1:∀ p q,p<q→q≤i→q≠j→f p≤f q:=h
 simp only[swU]
 rw[if_neg hne]
 by_cases e:q=j
 ·rw[if_pos e]
  by_cases e2:p=j-1
  ·rw[if_pos e2];omega
  ·rw[if_neg e2,if_neg (by omega)];exact a1 p (j-1) (by omega) (by omega) (by omega)
 ·rw[if_neg e]
  by_cases e2:p=j-1
  ·rw[if_pos e2];exact a1 j q (by omega) hqi e
  ·rw[if_neg e2]
   by_cases e3:p=j
   ·rw[if_pos e3];exact a1 (j-1) q (by omega) hqi e
   ·rw[if_neg e3];exact a1 p q hpq hqi e
theorem Srt.done {f:Nat→Int} {i j:Nat} (h:Srt f i j) (hj:j=0∨f (j-1)≤f j):∀ p q,p<q→q≤i→f p≤f q:=by
 intro p q hpq hqi
 by_cases e:q=j
 ·subst e
  rcases hj with hj | hj
  ·omega
  ·by_cases e2:p=q-1
   ·rw[e2];exact hj
   ·exact Int.le_trans (h p (q-1) (by omega) (by omega) (by omega)) hj
 ·exact h p q hpq hqi e
theorem lessU (a b:Int) (w:World):Calls Tryz.prog 214 #[.int .u32 a,.int .u32 b] w fun e w'=>e=.returned (.bool (decide (a<b)))∧w'=w:=by
 go_enter Tryz.func214,Tryz.ntmps214
 go_wp2
 go_ret
 exact⟨rfl,rfl⟩
set_option maxRecDepth 100000 in
set_option maxHeartbeats 2000000 in
theorem insertU (g n C cap:Nat) (f:Nat→Int) (w:World) (h:Ro w g n C f) (hn:n≤12) :
  Calls Tryz.prog 208 #[.slice (some ⟨g,0,none⟩) n cap,.int .i64 0,.int .i64 (n:Nat)] w fun e w'=>e=.returned (.tuple #[])∧Hid (∃ f',Off [g] w w'∧Ro w' g n C f'∧(lsU n f').Perm (lsU n f)∧∀ p q,p<q→q<n→f' p≤f' q):=by
 go_enter Tryz.func208,Tryz.ntmps208
 go_wp2_with fail
 go_loopw [6,7] (fun ci _ wr=>∃ (i:Nat) (f':Nat→Int),1≤i∧(i≤n∨i=1)∧ci=.int .i64 ((i:Nat):Int)∧Ro wr g n C f'∧Off [g] w wr∧(lsU n f').Perm (lsU n f)∧∀ p q,p<q→q<i→f' p≤f' q) (fun ci _ _=>n-nU ci)
 case atStart=>exact⟨1,f,by omega,.inr rfl,rfl,h,Off.refl _ _,List.Perm.refl _,fun p q h1 h2=>by omega⟩
 case round=>
  clear h
  obtain⟨i,f1,hi1,hin,rfl,R1,o1,p1,s1⟩:=hrel
  by_cases hlt:i<n
  ·have hdI:decide ((i:Int) < (n:Int))=true:=by simp;omega
   have HL:Hid (_):=And.intro R1 (And.intro o1 (And.intro p1 s1))
   clear R1 o1 p1 s1
   go_wp2_with fail
   go_loopw [7] (fun cj wr=>∃ (j:Nat) (f':Nat→Int),j≤i∧cj=.int .i64 ((j:Nat):Int)∧Ro wr g n C f'∧Off [g] w wr∧(lsU n f').Perm (lsU n f)∧Srt f' i j) (fun cj _=>nU cj)
   case atStart=>exact⟨i,f1,by omega,rfl,HL.out.1,HL.out.2.1,HL.out.2.2.1,fun p q h1 h2 h3=>HL.out.2.2.2 p q h1 (by omega)⟩
   case round=>
    clear HL
    obtain⟨j,f2,hj,rfl,R2,o2,p2,s2⟩:=hrel
    by_cases h0:0<j
    ·have hd0:decide ((0:Int) < (j:Int))=true:=by simp;omega
     have hjw:IntKind.i64.wrap ((j:Int)-1)=((j-1:Nat):Int):=by rw[IntKind.wrap_i64];omega
     have c1:wr.cell? ⟨g,j,none⟩=some (.int .u32 (f2 j)):=R2.cell (by omega)
     have c0:wr.cell? ⟨g,j-1,none⟩=some (.int .u32 (f2 (j-1))):=R2.cell (by omega)
     have z1:=R2.fz j
     have z0:=R2.fz (j-1)
     have hb1:(j:Int) < (n:Int):=by omega
     have hb0:((j-1:Nat):Int) < (n:Int):=by omega
     have HR:Hid (_):=And.intro R2 (And.intro o2 (And.intro p2 s2))
     clear R2 o2 p2 s2
     by_cases hl:f2 j<f2 (j-1)
     ·have hdl:decide (f2 j<f2 (j-1))=true:=by simpa using hl
      go_wp2_with fail
      go_quiet ((go_at_call 214;exact Calls.quiet_of_same (lessU _ _ _)))
      have e1:(wr.drewN nq).cell? ⟨g,j,none⟩=some (.int .u32 (f2 j)):=c1
      have e0:(wr.drewN nq).cell? ⟨g,j-1,none⟩=some (.int .u32 (f2 (j-1))):=c0
      have y1:(wr.drewN nq).frozen? ⟨g,j,none⟩=false:=z1
      have y0:(wr.drewN nq).frozen? ⟨g,j-1,none⟩=false:=z0
      have HW:Hid (Off [] wr (wr.drewN nq)∧f2 j<f2 (j-1)):=⟨Off.drewN [] wr nq,hl⟩
      generalize wr.drewN nq=wq at *
      clear c1 c0 z1 z0 hl hdl
      have nj:¬ j=j-1:=by omega
      have nj':¬ j-1=j:=by omega
      obtain⟨x1,hx1⟩:∃ x,f2 j=x:=⟨_,rfl⟩
      obtain⟨x0,hx0⟩:∃ x,f2 (j-1)=x:=⟨_,rfl⟩
      rw[hx1]at e1
      rw[hx0]at e0
      have HX:Hid (f2 j=x1∧f2 (j-1)=x0):=⟨hx1,hx0⟩
      rw[hx1,hx0]
      clear hx1 hx0
      go_wp2_with fail
      go_region_with fail
      all_goals
       go_wp2_with fail
       obtain⟨R2,o2,p2,s2⟩:=HR.out
       obtain⟨oq,hl⟩:=HW.out
       have R3:Ro ((wq.setCell ⟨g,j,none⟩ (.int .u32 x0)).setCell ⟨g,j-1,none⟩ (.int .u32 x1)) g n C (swU f2 j):=by
        have:=((R2.off oq (by simp)).set j (f2 (j-1))).set (j-1) (f2 j)
        rw[HX.out.1,HX.out.2]at this
        unfold swU
        rw[HX.out.1,HX.out.2]
        exact this
       have o3:Off [g] w ((wq.setCell ⟨g,j,none⟩ (.int .u32 x0)).setCell ⟨g,j-1,none⟩ (.int .u32 x1)):=((o2.trans (oq.more (by simp))).trans (Off.setCell g j _ _)).trans (Off.setCell g (j-1) _ _)
       refine⟨⟨j-1,swU f2 j,by omega,rfl,R3.off (Off.drew [] _) (by simp),o3.trans (Off.drew _ _),(swU_perm n f2 j h0 (by omega)).trans p2,s2.swap h0 hj hl⟩,?_⟩
       show ((j-1:Nat):Int).toNat < (j:Int).toNat
       omega
     ·have hdl:decide (f2 j<f2 (j-1))=false:=by simpa using hl
      go_wp2_with fail
      go_quiet ((go_at_call 214;exact Calls.quiet_of_same (lessU _ _ _)))
      have HW:Hid (Off [] wr (wr.drewN nq)):=Off.drewN [] wr nq
      generalize wr.drewN nq=wq at *
      clear c1 c0 z1 z0 hdl
      go_wp2_with fail
      obtain⟨R2,o2,p2,s2⟩:=HR.out
      refine⟨⟨i+1,f2,by omega,.inl (by omega),by simp,R2.off HW.out (by simp),o2.trans (HW.out.more (by simp)),p2,fun p q h1 h2=>s2.done (.inr (by omega)) p q h1 (by omega)⟩,?_⟩
      show n - ((i:Int)+1).toNat<n - ((i:Int)).toNat
      omega
    ·have hd0:decide ((0:Int) < (j:Int))=false:=by simp;omega
     have hd0':decide (0<j)=false:=by simp;omega
     have HR:Hid (_):=And.intro R2 (And.intro o2 (And.intro p2 s2))
     clear R2 o2 p2 s2
     go_wp2_with fail
     go_region
     go_wp2_with fail
     obtain⟨R2,o2,p2,s2⟩:=HR.out
     refine⟨⟨i+1,f2,by omega,.inl (by omega),by simp,R2.off (Off.drew [] wr) (by simp),o2.trans (Off.drew _ _),p2,fun p q h1 h2=>s2.done (.inl (by omega)) p q h1 (by omega)⟩,?_⟩
     show n - ((i:Int)+1).toNat<n - ((i:Int)).toNat
     omega
  ·have hdI:decide ((i:Int) < (n:Int))=false:=by simp;omega
   have HR:Hid (_):=And.intro R1 (And.intro o1 (And.intro p1 s1))
   clear R1 o1 p1 s1
   go_wp2_with fail
   go_end0
   obtain⟨R1,o1,p1,s1⟩:=HR.out
   exact⟨rfl,f1,o1,R1,p1,fun p q h1 h2=>s1 p q h1 (by omega)⟩
set_option maxRecDepth 100000 in
theorem pdqU (g n C cap:Nat) (lim:Int) (f:Nat→Int) (w:World) (h:Ro w g n C f) (hn:n≤12) :
  Calls Tryz.prog 185 #[.slice (some ⟨g,0,none⟩) n cap,.int .i64 0,.int .i64 (n:Nat),.int .i64 lim] w fun e w'=>e=.returned (.tuple #[])∧Hid (∃ f',Off [g] w w'∧Ro w' g n C f'∧(lsU n f').Perm (lsU n f)∧∀ p q,p<q→q<n→f' p≤f' q):=by
 have hI:=insertU g n C cap f w h hn
 have hw:IntKind.i64.wrap ((n:Int)-0)=(n:Int):=by rw[IntKind.wrap_i64];omega
 have h12:(n:Int)≤12:=by omega
 clear h
 go_enter Tryz.func185,Tryz.ntmps185
 go_wp2_with fail
 refine wp_loop_once ?_
 go_wp2_with (go_at_call 208;refine hI.mono ?_;rintro e w2 ⟨rfl,h2⟩)
 refine bodyPost_ret (results_none rfl _ _ _) rfl ?_
 exact⟨rfl,h2⟩
set_option maxRecDepth 100000 in
theorem len64U (k:Nat) (hk:k≤12) (w:World):Calls Tryz.prog 218 #[.int .u64 (k:Nat)] w fun e w'=>(∃ x,e=.returned (.int .i64 x))∧w'=w:=by
 have:k=0∨k=1∨k=2∨k=3∨k=4∨k=5∨k=6∨k=7∨k=8∨k=9∨k=10∨k=11∨k=12:=by omega
 clear hk
 rcases this with rfl | rfl | rfl | rfl | rfl | rfl | rfl | rfl | rfl | rfl | rfl | rfl | rfl
 all_goals
  go_enter Tryz.func218,Tryz.ntmps218
  go_wp2_with fail
  go_ret
  exact⟨⟨_,rfl⟩,rfl⟩
theorem lenU (k:Nat) (hk:k≤12) (w:World):Calls Tryz.prog 186 #[.int .u64 (k:Nat)] w fun e w'=>(∃ x,e=.returned (.int .i64 x))∧w'=w:=by
 have hL:=len64U k hk w
 go_enter Tryz.func186,Tryz.ntmps186
 go_wp2_with (go_at_call 218;refine hL.mono ?_;rintro e w2 ⟨⟨x,rfl⟩,rfl⟩)
 go_ret
 exact⟨⟨_,rfl⟩,rfl⟩
theorem sortU (g n C cap:Nat) (f:Nat→Int) (w:World) (h:Ro w g n C f) (hn:n≤12) :
  Calls Tryz.prog 131 #[.slice (some ⟨g,0,none⟩) n cap] w fun e w'=>e=.returned (.tuple #[])∧Hid (∃ f',Off [g] w w'∧Ro w' g n C f'∧(lsU n f').Perm (lsU n f)∧∀ p q,p<q→q<n→f' p≤f' q):=by
 have hL:=lenU n hn w
 have hP:=fun lim=>pdqU g n C cap lim f w h hn
 have hw:IntKind.u64.wrap (n:Int)=(n:Int):=by rw[IntKind.wrap_u64];omega
 clear h
 go_enter Tryz.func131,Tryz.ntmps131
 go_wp2_with (first
  | (go_at_call 186;refine hL.mono ?_;rintro e w2 ⟨⟨x,rfl⟩,hw⟩;have hw:=hw.symm;subst hw)
  | (go_at_call 185;refine (hP _).mono ?_;rintro e w2 ⟨rfl,h2⟩))
 go_end0
 exact⟨rfl,h2⟩
open Go.RowKit Go.Maps Go.Sort Go.Shelf
set_option maxRecDepth 100000 in
theorem insertU_nil (w:World):Calls Tryz.prog 208 #[.slice none 0 0,.int .i64 0,.int .i64 0] w fun e w'=>e=.returned (.tuple #[])∧w'=w:=by
 go_enter Tryz.func208,Tryz.ntmps208
 go_wp2_with fail
 refine wp_loop_once ?_
 go_wp2_with fail
 go_end0
 exact⟨rfl,rfl⟩
set_option maxRecDepth 100000 in
theorem pdqU_nil (lim:Int) (w:World):Calls Tryz.prog 185 #[.slice none 0 0,.int .i64 0,.int .i64 0,.int .i64 lim] w fun e w'=>e=.returned (.tuple #[])∧w'=w:=by
 have hI:=insertU_nil w
 go_enter Tryz.func185,Tryz.ntmps185
 go_wp2_with fail
 refine wp_loop_once ?_
 go_wp2_with (go_at_call 208;refine hI.mono ?_;rintro e w2 ⟨rfl,hw⟩;have hw:=hw.symm;subst hw)
 refine bodyPost_ret (results_none rfl _ _ _) rfl ?_
 exact⟨rfl,rfl⟩
theorem sortU_nil (w:World):Calls Tryz.prog 131 #[.slice none 0 0] w fun e w'=>e=.returned (.tuple #[])∧w'=w:=by
 have hL:Calls Tryz.prog 186 #[.int .u64 0] w fun e w'=>(∃ x,e=.returned (.int .i64 x))∧w'=w:=lenU 0 (by omega) w
 have hP:=fun lim=>pdqU_nil lim w
 go_enter Tryz.func131,Tryz.ntmps131
 go_wp2_with (first
  | (go_at_call 186;refine hL.mono ?_;rintro e w2 ⟨⟨x,rfl⟩,hw⟩;have hw:=hw.symm;subst hw)
  | (go_at_call 185;refine (hP _).mono ?_;rintro e w2 ⟨rfl,hw⟩;have hw:=hw.symm;subst hw))
 go_end0
 exact⟨rfl,rfl⟩
theorem lsU_get (ss:List Int):lsU ss.length (fun i=>ss[i]!)=ss:=by
 refine List.ext_getElem (by simp[lsU]) fun i h1 h2=>?_
 simp[lsU,h2]
theorem Ro_of_row {W:World} {g:Nat} {cur:Array Value} {ss:List Int} (h:W.heap[g]?=some (.cells cur 40 (0,0))) (ht:cur.toList.take (ss.length*1)=ss.map encU):Ro W g ss.length cur.size (fun i=>ss[i]!):=by
 refine⟨cur,h,rfl,fun i hi=>?_⟩
 have h1:(cur.toList.take (ss.length*1))[i]?=(ss.map encU)[i]?:=by rw[ht]
 rw[List.getElem?_take_of_lt (by omega),List.getElem?_map,List.getElem?_eq_getElem hi]at h1
 simpa [encU,hi] using h1
theorem Ro.take {W:World} {g n C:Nat} {f:Nat→Int} (h:Ro W g n C f) (hn:n≤C):∃ cur:Array Value,W.heap[g]?=some (.cells cur 40 (0,0))∧cur.size=C∧cur.toList.take (n*1)=(lsU n f).map encU:=by
 obtain⟨cur,h1,hC,h2⟩:=h
 refine⟨cur,h1,hC,List.ext_getElem? fun i=>?_⟩
 by_cases hi:i<n
 ·rw[List.getElem?_take_of_lt (by omega)]
  simpa [lsU,encU,hi] using h2 i hi
 ·rw[List.getElem?_eq_none (by simp;omega),List.getElem?_eq_none (by simp[lsU];omega)]
theorem lsU_up {n:Nat} {f:Nat→Int} (h:∀ p q,p<q→q<n→f p≤f q):(lsU n f).Pairwise (· ≤ ·):=by
 refine List.pairwise_iff_getElem.2 fun i j hi hj hij=>?_
 simp[lsU]at hi hj ⊢
 exact h i j hij hj
set_option maxHeartbeats 1000000 in
theorem sortedU (n:Nat) (hn:4≤n) (g:Nat) (lb:Array Value) (eg:∀ args w,(callFunc g args).run Tryz.prog w=.ok (.enter g args) w) (S:List Int→Prop) (N:Nat) (hN:N≤1000000) (hS:∀ ss,S ss→ss.length≤12) (w:World) (hseq:SeqGives Fence.wide (n-1-1-1) Tryz.prog g lb encU S N w) :
  CallsIn Fence.wide n Tryz.prog 72 #[.func (.func g) #[] lb] w fun e w'=>∃ (v:Value) (ls:List Int),e=.returned v∧Hid ((∃ ss,S ss∧ls.Perm ss)∧ls.Pairwise (· ≤ ·)∧w'.ownsRow w.heap.size 40 1 v ls.length (ls.map encU)∧(v=.slice none 0 0 ↔ ls=[])∧Below w.heap.size w w'):=by
 have hA:=collectU (n-1) (by omega) g lb eg S N hN w hseq
 have hf:Fence.wide.fn 130:=trivial
 have hf2:Fence.wide.fn 131:=trivial
 have h1:1≤n:=by omega
 refine callsIn_of_wp Tryz.func72 rfl trivial ?_ rfl
 simp only[Tryz.ntmps72,List.size_toArray,List.length_cons,List.length_nil,Nat.reduceAdd,Nat.reduceSub,Array.replicate_succ,Array.replicate_zero,List.push_toArray,List.append_toArray,List.nil_append,List.cons_append]
 gi_wp2_with (gi_at_call 130;refine hA.mono ?_;rintro e W ⟨v,ss,rfl,hs,hrow,hnil,hb⟩)
 have hl:=hS ss hs
 rcases hrow.2 with ⟨rfl,hz⟩ | ⟨gb,cap,cur,rfl,hbase,hgb,r1,r2,r3,r4⟩
 ·have e0:ss=[]:=List.eq_nil_of_length_eq_zero hz
  subst e0
  have hN2:=(callsIn_wide (n:=n-1)).2 (sortU_nil W)
  gi_wp2_with (gi_at_call 131;refine hN2.mono ?_;rintro e w2 ⟨rfl,hw⟩;have hw:=hw.symm;subst hw)
  go_ret
  exact⟨_,[],rfl,⟨[],hs,List.Perm.refl _⟩,List.Pairwise.nil,by simpa using hrow,by simp,hb⟩
 ·have hR:=Ro_of_row hgb r4
  have hN2:=(callsIn_wide (n:=n-1)).2 (sortU gb ss.length cur.size cap _ W hR hl)
  gi_wp2_with (gi_at_call 131;refine hN2.mono ?_;rintro e w2 ⟨rfl,h2⟩)
  go_ret
  obtain⟨f',o2,R2,p2,s2⟩:=h2.out
  rw[lsU_get]at p2
  obtain⟨cur2,q1,q2,q3⟩:=R2.take (by omega)
  have hlen:(lsU ss.length f').length=ss.length:=by simp[lsU]
  refine⟨_,lsU ss.length f',rfl,⟨ss,hs,p2⟩,lsU_up s2,?_,?_,o2.below hb (by simp;exact hbase) hb.size⟩
  ·rw[hlen]
   exact⟨by simp[lsU],.inr ⟨gb,cap,cur2,rfl,hbase,q1,r1,r2,by rw[q2,r3],q3⟩⟩
  ·constructor
   ·intro e;cases e
   ·intro e
    have:ss.length=0:=by rw[← hlen,e];rfl
    have e0:ss=[]:=List.eq_nil_of_length_eq_zero this
    exact hnil.2 e0
theorem madd_see {b d c:Nat} {L:List Prt} {lost l mb nn:Nat} {D:DataW Unit} {w W:World} (h:MX w b L lost l mb nn D) (hd:d<w.heap.size) (cd:w.cell? ⟨d,0,none⟩=some (.int .u32 (c:Nat)))
  (hW:W=(w.alloc (.cells (MtC 0 none 0 0 none) 195)).alloc (.cells #[.pointer (some ⟨d,0,none⟩),.pointer (some ⟨w.heap.size,0,none⟩)] 115)) :
  Below w.heap.size w W∧MX W b L lost l mb nn D∧W.cell? ⟨b,0,none⟩=some (.map (some mb))∧W.cell? ⟨d,0,none⟩=some (.int .u32 (c:Nat))∧W.cell? ⟨w.heap.size+1,0,none⟩=some (.pointer (some ⟨d,0,none⟩))∧W.cell? ⟨w.heap.size+1,1,none⟩=some (.pointer (some ⟨w.heap.size,0,none⟩))∧Met W w.heap.size 0 none 0 0 none∧W.heap.size=w.heap.size+2:=by
 subst hW
 have o1:Off [] w (w.alloc (.cells (MtC 0 none 0 0 none) 195)):=Off.alloc [] w _
 have o2:=fun o=>Off.alloc [] (w.alloc (.cells (MtC 0 none 0 0 none) 195)) o
 have s1:(w.alloc (.cells (MtC 0 none 0 0 none) 195)).heap.size=w.heap.size+1:=by simp
 have hb:=heap_alloc_new (w.alloc (.cells (MtC 0 none 0 0 none) 195)) (.cells #[.pointer (some ⟨d,0,none⟩),.pointer (some ⟨w.heap.size,0,none⟩)] 115)
 rw[s1]at hb
 have hm:=(h.off o1 (by simp)).off (o2 (.cells #[.pointer (some ⟨d,0,none⟩),.pointer (some ⟨w.heap.size,0,none⟩)] 115)) (by simp)
 refine⟨(o1.trans (o2 _)).below (Below.refl _ _) (by simp) (Nat.le_refl _),hm,hm.c0,?_,cell_of_row _ _ 0 _ _ _ hb,cell_of_row _ _ 1 _ _ _ hb,(new_met w).off (o2 _) (by simp),by simp⟩
 exact (World.cell?_of_block ((o1.trans (o2 _)).block d hd (by simp))).trans cd
theorem MX.put {b c d k:Nat} {L:List Prt} {lost l mb nn:Nat} {D:DataW Unit} {w w':World} (h:MX w b L lost l mb nn D) (hf:fnd L c=none) (hc:c<4294967296) (o:Off [mb] w w') (hm:w'.ownsMap Tryz.prog 40 rdQ mb (nn+1) (D.put (.int .u32 (c:Nat)) (datq (some (d,k))))) (hk:Met w' k 0 none 0 0 none) (hkl:k≠l) (hkp:∀ p,p ∈ L→p.k≠k) (hbm:b≠mb) (hlm:l≠mb) (hpm:∀ p,p ∈ L→p.k≠mb) :
  MX w' b (L ++ [⟨c,d,k,0⟩]) lost l mb (nn+1) (D.put (.int .u32 (c:Nat)) (datq (some (d,k)))) where
 blk:=(o.block b (h.lt b (by simp[MXU])) (by simpa using hbm)).trans h.blk
 los:=h.los.off o (by simpa using hlm)
 map:=hm
 nle:=by have:=h.nle;simp;omega
 siz:=by
  rw[size_put (h.map.tidy key_u32),h.has_ c hc,hf,h.siz]
  simp
 at_:=fun x hx=>by
  unfold fndq
  rw[fnd_app]
  by_cases e:x=c
  ·subst e
   rw[atKey_put_same h.map.isMap (by trivial),hf]
   simp[fnd]
  ·rw[atKey_put_other (by simp;omega),h.at_ x hx]
   unfold fndq
   cases fnd L x with
   | none=>simp[fnd,Ne.symm e]
   | some q=>rfl
 has_:=fun x hx=>by
  rw[fnd_app]
  by_cases e:x=c
  ·subst e
   rw[has_put_same h.map.isMap (by trivial),hf]
   simp[fnd]
  ·rw[has_put_other (by simp;omega),h.has_ x hx]
   cases fnd L x with
   | none=>simp[fnd,Ne.symm e]
   | some q=>rfl
 key:=fun x hx=>by
  by_cases e:x=(c:Int)
  ·exact⟨⟨c,d,k,0⟩,by simp,e⟩
  ·rw[has_put_other (by simpa using e)]at hx
   obtain⟨p,hp,e2⟩:=h.key x hx
   exact⟨p,by simp[hp],e2⟩
 met:=fun p hp=>by
  rcases List.mem_append.1 hp with hp | hp
  ·exact⟨(h.met p hp).1.off o (by simpa using hpm p hp),(h.met p hp).2⟩
  ·simp at hp
   subst hp
   exact⟨hk,hkl,hc⟩
 one:=by
  refine List.pairwise_append.2 ⟨h.one,by simp,fun p hp q hq=>?_⟩
  simp at hq
  subst hq
  exact⟨fnd_none hf p hp,hkp p hp⟩
theorem MX.ne {b:Nat} {L:List Prt} {lost l mb nn:Nat} {D:DataW Unit} {w:World} (h:MX w b L lost l mb nn D):b≠mb∧l≠mb∧∀ p,p ∈ L→p.k≠mb:=by
 obtain⟨es,clock,hb,_⟩:=id h.map
 refine⟨fun e=>?_,fun e=>?_,fun p hp e=>?_⟩
 ·have:=h.blk
  rw[e,hb]at this
  cases this
 ·have:=h.los.at_
  rw[e,hb]at this
  cases this
 ·have:=(h.met p hp).1.at_
  rw[e,hb]at this
  cases this
def addE (L:List Prt) (c:Nat):Int:=if (fnd L c).isSome then 160 else if 8≤L.length then 150 else 0
def addL (L:List Prt) (c d k:Nat):List Prt:=if (fnd L c).isSome then L else if 8≤L.length then L else L ++ [⟨c,d,k,0⟩]
set_option maxHeartbeats 4000000 in
theorem madd_any (b d c:Nat) (L:List Prt) (lost:Nat) (V:List Nat) (w:World) (h:Mxx w b L lost V) (hc:c<4294967296) (cd:w.cell? ⟨d,0,none⟩=some (.int .u32 (c:Nat))) (hd:d<w.heap.size) (hL:L.length<1000000) :
  Calls Tryz.prog 22 #[.pointer (some ⟨b,0,none⟩),.pointer (some ⟨d,0,none⟩)] w fun e w'=>e=.returned (.int .i64 (addE L c))∧Hid (∃ V',Off V w w'∧Mxx w' b (addL L c d w.heap.size) lost V'∧∀ k,k ∈ V'→k ∈ V∨k=w.heap.size):=by
 obtain⟨l,mb,nn,D,h,hV⟩:=h
 have hq:=mnone_any b mb w h.c0
 have hbl:=h.lt b (by simp[MXU])
 go_enter Tryz.func22,Tryz.ntmps22
 go_wp2_with (first
  | (go_at_call 39;refine hq.mono ?_;rintro e w' ⟨rfl,hw⟩;have hw:=hw.symm;subst hw)
  | (go_at_call 58;refine (new_any _).mono ?_;rintro e w' ⟨rfl,hw⟩;have hw:=hw.symm;subst hw))
 generalize hW:((w.alloc (.cells (MtC 0 none 0 0 none) 195)).alloc (.cells #[.pointer (some ⟨d,0,none⟩),.pointer (some ⟨w.heap.size,0,none⟩)] 115))=W
 obtain⟨hB,hM,e1,e2,e3,e4,e6,e7⟩:=madd_see h hd cd hW.symm
 obtain⟨xa,xb,th,hX,hth⟩:∃ xa xb th,ptq (fndq L c)=.agg #[.pointer xa,.pointer xb]∧(fnd L c).isSome=th:=by
  unfold fndq
  cases fnd L c with
  | none=>exact⟨none,none,false,rfl,rfl⟩
  | some q=>exact⟨_,_,true,rfl,rfl⟩
 have hC:=mcode_any d c W.drew e2
 have hk:=(hM.off (Off.drew [] W) (by simp)).look2 c hc
 have hs:W.drew.heap.size=w.heap.size+2:=e7
 have oW:Off [] W (W.alloc (.cells #[.pointer none,.pointer none] 115)).drew:=(Off.alloc [] W _).trans (Off.drew [] _)
 have hC2:=mcode_any d c (W.alloc (.cells #[.pointer none,.pointer none] 115)).drew ((World.cell?_of_block (oW.block d (by omega) (by simp))).trans e2)
 have hk2:=(hM.off oW (by simp)).look2 c hc
 rw[hX,hth]at hk hk2
 have g1:(W.alloc (.cells #[.pointer none,.pointer none] 115)).drew.cell? ⟨b,0,none⟩=some (.map (some mb)):=(World.cell?_of_block (oW.block b (by omega) (by simp))).trans e1
 have g3:(W.alloc (.cells #[.pointer none,.pointer none] 115)).drew.cell? ⟨w.heap.size+1,0,none⟩=some (.pointer (some ⟨d,0,none⟩)):=(World.cell?_of_block (oW.block (w.heap.size+1) (by omega) (by simp))).trans e3
 have n1:¬ b=w.heap.size+2:=by omega
 have n2:¬ d=w.heap.size+2:=by omega
 have HM:Hid (_):=And.intro hB (And.intro hM (And.intro e6 (And.intro h (And.intro hV hth))))
 clear hW hB hM h hq oW hX hth e6 hV
 go_cut [7] (fun x7 wx=>x7=.bool th∧Hid (Off [] W wx))
 case first=>
  go_region_with (go_at_call 47;first | (refine hC.mono ?_;rintro e w2 ⟨rfl,hw⟩;have hw:=hw.symm;subst hw) | (refine hC2.mono ?_;rintro e w2 ⟨rfl,hw⟩;have hw:=hw.symm;subst hw))
  all_goals
   go_wp2_with fail
   go_meet
   exact⟨rfl,(Off.alloc [] W _).trans (Off.drew [] _)⟩
 case rest=>
  obtain⟨rfl,H⟩:=hcut
  clear hC hC2 hk hk2 g1 g3 n1 n2 hs
  obtain⟨hB,hM,e6,h,hV,hth⟩:=HM.out
  have oc:=H.out
  have hMc:=hM.off oc (by simp)
  have sc:=oc.size
  have hBw:Below w.heap.size w wc:=oc.below hB (by simp) hB.size
  have f1:=hMc.c0
  have f2:wc.cell? ⟨d,0,none⟩=some (.int .u32 (c:Nat)):=(World.cell?_of_block (oc.block d (by omega) (by simp))).trans e2
  have f3:wc.cell? ⟨w.heap.size+1,0,none⟩=some (.pointer (some ⟨d,0,none⟩)):=(World.cell?_of_block (oc.block (w.heap.size+1) (by omega) (by simp))).trans e3
  have f4:wc.cell? ⟨w.heap.size+1,1,none⟩=some (.pointer (some ⟨w.heap.size,0,none⟩)):=(World.cell?_of_block (oc.block (w.heap.size+1) (by omega) (by simp))).trans e4
  have hlen:=hMc.map.len Tryz.underlying110 3
  rw[hMc.siz]at hlen
  clear HM H e1 e2 e3 e4
  cases th with
  | true=>
   have HO:Hid (∃ V',Off V w wc∧Mxx wc b (addL L c d w.heap.size) lost V'∧∀ k,k ∈ V'→k ∈ V∨k=w.heap.size):=⟨V,Off.of_below hBw,by unfold addL;rw[hth];exact⟨l,mb,nn,D,hMc,hV⟩,fun k hk=>.inl hk⟩
   have hE:addE L c=160:=by unfold addE;rw[hth];rfl
   clear hB hM e6 h hV hth oc hMc hBw hlen
   go_wp2_with fail
   go_ret
   exact⟨by rw[hE];rfl,HO⟩
  | false=>
   have hf:fnd L c=none:=by
    cases hq:fnd L c with
    | none=>rfl
    | some q=>rw[hq]at hth;cases hth
   by_cases h8:8≤L.length
   ·have HO:Hid (∃ V',Off V w wc∧Mxx wc b (addL L c d w.heap.size) lost V'∧∀ k,k ∈ V'→k ∈ V∨k=w.heap.size):=⟨V,Off.of_below hBw,by unfold addL;rw[hth,if_neg (by simp),if_pos h8];exact⟨l,mb,nn,D,hMc,hV⟩,fun k hk=>.inl hk⟩
    have hE:addE L c=150:=by unfold addE;rw[hth,if_neg (by simp),if_pos h8]
    have h8':(8:Int) ≤ (L.length:Int):=by omega
    clear hB hM e6 h hV hth oc hMc hBw hf
    go_wp2_with fail
    go_ret
    exact⟨by rw[hE];rfl,HO⟩
   ·have hE:addE L c=0:=by unfold addE;rw[hth,if_neg (by simp),if_neg h8]
    have hLc:addL L c d w.heap.size=L ++ [⟨c,d,w.heap.size,0⟩]:=by unfold addL;rw[hth,if_neg (by simp),if_neg h8]
    have h8':¬ (8:Int) ≤ (L.length:Int):=by omega
    have hMd:=hMc.off (Off.drew [] wc) (by simp)
    have hnn:nn<maxLen:=by have:=hMc.nle;unfold maxLen;omega
    obtain⟨w2,hrun,hown,hg⟩:=hMd.map.update key_u32 Tryz.underlying110 hnn (keyOf_int_mk Tryz.underlying40 (wf_u32 c hc)) (rdQ_ptq (some (d,w.heap.size)))
    change (Instr.mapUpdate 110 (.map (some mb)) (.int .u32 (c:Nat)) (.agg #[.pointer (some ⟨d,0,none⟩),.pointer (some ⟨w.heap.size,0,none⟩)])).run Tryz.prog wc.drew=.ok () w2 at hrun
    have o2:Off [mb] wc.drew w2:=⟨hg.os,hg.tape,hg.output,hg.size,fun k hk hb=>hg.block k hk (by simp at hb;simp;exact hb)⟩
    obtain⟨z1,z2,z3⟩:=hMd.ne
    have hmw:=h.lt mb (by simp[MXU])
    have hlw:=h.lt l (by simp[MXU])
    have hpw:∀ p,p ∈ L→p.k<w.heap.size:=fun p hp=>h.lt p.k (by simp[MXU];exact .inr (.inr (.inr ⟨p,hp,rfl⟩)))
    have hMn:=hMd.put (d:=d) (k:=w.heap.size) hf hc o2 hown (((e6.off oc (by simp)).off (Off.drew [] wc) (by simp)).off o2 (by simp;omega)) (by omega) (fun p hp=>by have:=hpw p hp;omega) z1 z2 z3
    have HO:Hid (∃ V',Off V w w2∧Mxx w2 b (L ++ [⟨c,d,w.heap.size,0⟩]) lost V'∧∀ k,k ∈ V'→k ∈ V∨k=w.heap.size):=by
     refine⟨_,((Off.of_below hBw).trans (Off.drew V wc)).trans (o2.more (fun k hk=>by simp at hk;subst hk;rw[hV];simp[MXU])),⟨l,mb,_,_,hMn,rfl⟩,fun k hk=>?_⟩
     rw[hV]
     simp[MXU]at hk ⊢
     rcases hk with rfl | rfl | rfl | ⟨p,hp,rfl⟩ | rfl
     ·exact .inl (.inl rfl)
     ·exact .inl (.inr (.inl rfl))
     ·exact .inl (.inr (.inr (.inl rfl)))
     ·exact .inl (.inr (.inr (.inr ⟨p,hp,rfl⟩)))
     ·exact .inr rfl
    have hC3:=mcode_any d c wc.drew f2
    clear hB hM e6 h hV hth oc hMc hBw hf hMd hown hg o2 z1 z2 z3 hMn hpw
    go_wp2_with fail
    go_region_with (go_at_call 47;refine hC3.mono ?_;rintro e w3 ⟨rfl,hw⟩;have hw:=hw.symm;subst hw)
    all_goals
     go_wp2_with fail
     go_ret
     exact⟨by rw[hE];rfl,by rw[hLc];exact HO⟩
end Go.Proofs.YthbogkaoidbpgaaGreat
