/- Part 49 of the texts on which the proofs of layer 13 rest: contracts of Go functions. -/
import Derived.Test.YtffehehghpafdaaGreatPkB19
import Derived.Test.YtffehehghpafdaaGreatPkB23
namespace Go.Proofs.YtffehehghpafdaaGreat
set_option maxRecDepth 100000
open Go.RowKit Go.Maps Go.Sort Go.Shelf
set_option maxHeartbeats 1000000 in
theorem ronM_any (b:Nat) (v1 v2:Value) (ds ns:List Nat) (lost:Nat) (cs:Nat→Nat) (x:Nat→Dr) (on:Int→Bool) (w:World) (h:RMx w b v1 v2 ds ns lost) (hc:∀ i (hi:i<ds.length),(∃ U,RW w (x i).d (x i).m (x i).g (x i).n (x i).mx (x i).P U (x i).s)∧(x i).d=ds[i]∧(x i).P.c=cs i∧on (cs i:Nat)=von (x i).s.v) (hn:ds.length<10000) :
  Calls Tryz.prog 48 #[.pointer (some ⟨b,0,none⟩)] w fun e w'=>∃ v,e=.returned v∧Hid (w'.ownsRow w.heap.size 30 1 v (riseU ((cdsC ds.length cs).filter on)).length ((riseU ((cdsC ds.length cs).filter on)).map encU)∧Below w.heap.size w w'):=by
 obtain⟨a1,cap1,rfl,hcs⟩:=own_ptr h.r1
 have c0:w.cell? ⟨b,0,none⟩=some (.slice a1 ds.length cap1):=cell_of_row w b 0 _ _ _ h.blk
 have hbl:=h.lt b (by simp[RMU])
 have HC:Hid (_):=And.intro hcs hc
 obtain⟨n,en⟩:∃ n,n=ds.length:=⟨_,rfl⟩
 have HN:Hid (n=ds.length):=en
 rw[← en]at c0 hn ⊢
 clear en hcs h hc
 go_enter Tryz.func48,Tryz.ntmps48
 go_wp2_with fail
 go_loopw [3,4] (fun v x wr=>∃ i:Nat,i≤n∧x=.int .i64 ((i:Nat):Int)∧Hid (wr.ownsRow w.heap.size 30 1 v ((cdsC i cs).filter on).length (((cdsC i cs).filter on).map encU)∧Below w.heap.size w wr)) (fun _ x _=>n-natU x)
 case atStart=>exact⟨0,by omega,rfl,World.ownsRow_nil _ _ _ _,Below.refl _ _⟩
 case round=>
  obtain⟨i,hi,rfl,HR⟩:=hrel
  have c1:wr.cell? ⟨b,0,none⟩=some (.slice a1 n cap1):=(World.cell?_of_block (HR.out.2.block b hbl)).trans c0
  have hlen:((cdsC i cs).filter on).length<100000:=Nat.lt_of_le_of_lt (List.length_filter_le _ _) (by rw[cdsC_len];omega)
  by_cases hlt:i<n
  ·have hil:i<ds.length:=by rw[← HN.out];exact hlt
   obtain⟨g,rfl,hg,x1⟩:=HC.out.1 i hil
   obtain⟨⟨U,hW⟩,hd,hp,hon⟩:=HC.out.2 i hil
   unfold ptV at x1
   have hWr:=hW.below HR.out.2
   have d1:wr.cell? ⟨g,i,none⟩=some (.pointer (some ⟨ds[i],0,none⟩)):=(World.cell?_of_block (HR.out.2.block g hg)).trans x1
   have hSee:=rsee_any _ _ _ _ _ _ _ _ wr hWr
   have hK:∀ w3,Below wr.heap.size wr w3→w3.cell? ⟨b,0,none⟩=some (.slice (some ⟨g,0,none⟩) n cap1)∧w3.cell? ⟨g,i,none⟩=some (.pointer (some ⟨ds[i],0,none⟩))∧w3.cell? ⟨ds[i],0,none⟩=some (.int .u32 (cs i:Nat)):=by
    intro w3 b3
    have e1:=hWr.code
    rw[hp,hd]at e1
    exact⟨(World.cell?_of_block (b3.block _ (World.block_lt_of_cell? wr _ c1))).trans c1,(World.cell?_of_block (b3.block _ (World.block_lt_of_cell? wr _ d1))).trans d1,(World.cell?_of_block (b3.block _ (World.block_lt_of_cell? wr _ e1))).trans e1⟩
   rw[hd]at hSee
   have HK:Hid (_):=hK
   have HF:Hid (_):=hon
   generalize (x i).s=s at *
   generalize (x i).P=P at *
   generalize ds[i]=d at *
   clear x1 hW hWr hK hp hon
   cases hv:von s.v with
   | true=>
    rw[hv]at hSee
    have hfl:∀ a9 c9 w,(Instr.field 76 (.agg #[.int .i64 (s.st:Nat),.int .u32 (s.ss:Nat),.int .u32 (s.nm:Nat),.int .u32 (s.sn:Nat),.int .i64 (s.dc:Nat),.int .i64 s.v.lat,.bool (vreq s.v),.bool true,.slice a9 P.o c9]) 7).run Tryz.prog w=.ok (.bool true) w:=fun a9 c9 w=>by kernel_rfl
    go_wp2_with (first
     | (go_at_call 49;refine hSee.mono ?_;rintro e w3 ⟨a9,c9,rfl,h9⟩;obtain⟨k1,k2,k3⟩:=HK.out w3 h9.out.2.2)
     | (at_builtin;refine step_one rfl (.tmp 23) (.tmp 35) rfl w _ ((cdsC i cs).filter on) (cs i:Nat) w3.heap.size rfl rfl (own_below (own_below HR.out.1 h9.out.2.2) ((Below.refl _ _).alloc (Nat.le_refl _) _)) (heap_alloc_new w3 _) hlen ((HR.out.2.trans (h9.out.2.2.mono HR.out.2.size)).alloc (Nat.le_trans HR.out.2.size h9.out.2.2.size) _) ?_;intro v' w4 H4))
    go_roundw
    case rel=>
     refine⟨i+1,by omega,by go_num,?_⟩
     rw[cdsC_succ,List.filter_append,List.filter_cons,HF.out,hv]
     exact H4
    case measure=>simp[natU] <;> omega
   | false=>
    rw[hv]at hSee
    have hfl:∀ a9 c9 w,(Instr.field 76 (.agg #[.int .i64 (s.st:Nat),.int .u32 (s.ss:Nat),.int .u32 (s.nm:Nat),.int .u32 (s.sn:Nat),.int .i64 (s.dc:Nat),.int .i64 s.v.lat,.bool (vreq s.v),.bool false,.slice a9 P.o c9]) 7).run Tryz.prog w=.ok (.bool false) w:=fun a9 c9 w=>by kernel_rfl
    go_wp2_with (go_at_call 49;refine hSee.mono ?_;rintro e w3 ⟨a9,c9,rfl,h9⟩)
    go_roundw
    case rel=>
     refine⟨i+1,by omega,by go_num,?_⟩
     rw[cdsC_succ,List.filter_append,List.filter_cons,HF.out,hv]
     simp only[Bool.false_eq_true,if_false,List.filter_nil,List.append_nil]
     exact⟨own_below HR.out.1 h9.out.2.2,HR.out.2.trans (h9.out.2.2.mono HR.out.2.size)⟩
    case measure=>simp[natU] <;> omega
  ·obtain rfl:i=n:=by omega
   obtain⟨a,cap,rfl,hcs⟩:=own_cellsU HR.out.1
   have hRi:=rrising_any a cap ((cdsC i cs).filter on) wr hcs hlen
   clear hcs
   generalize ((cdsC i cs).filter on).length=q at *
   go_wp2_with (go_at_call 98;refine hRi.mono ?_;rintro e w5 ⟨v5,rfl,h5⟩)
   go_ret
   exact⟨_,rfl,own_baseU h5.out.1 HR.out.2.size,HR.out.2.trans (h5.out.2.mono HR.out.2.size)⟩
end Go.Proofs.YtffehehghpafdaaGreat
