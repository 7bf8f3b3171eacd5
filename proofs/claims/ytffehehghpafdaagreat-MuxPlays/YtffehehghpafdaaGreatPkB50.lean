/- Part 51 of the texts on which the proofs of layer 13 rest: contracts of Go functions. -/
import Derived.Test.YtffehehghpafdaaGreatPkB21
import Derived.Test.YtffehehghpafdaaGreatPkB47
import Derived.Test.YtffehehghpafdaaGreatPkB49
namespace Go.Proofs.YtffehehghpafdaaGreat
set_option maxRecDepth 100000
open Go.RowKit Go.Maps Go.Sort Go.Shelf
theorem BRow.belowC {k:IntKind} {w w':World} {a:Option Addr} {len cap:Nat} {zs:List Int} (h:BRow k w a len cap zs) (hb:Below w.heap.size w w'):BRow k w' a len cap zs:=by
 rcases h with h | ⟨x,h1,h2,h3,h4,h5,h6⟩
 ·exact .inl h
 ·exact .inr ⟨x,h1,h2,h3,h4,fun i hi=>(World.cell?_of_block (hb.block _ (World.block_lt_of_cell? w _ (h5 i hi)))).trans (h5 i hi),h6⟩
theorem Bd.start {E:List Ent} (h:∀ e,e ∈ E→e.n=0∧e.s=dnew M0):Bd 0 E 0:=⟨Nat.le_refl _,fun e he=>by
 obtain⟨h1,h2⟩:=h e he
 rw[h1,h2]
 exact⟨Iv.new_ M0,by decide,by decide,by omega⟩⟩
set_option maxHeartbeats 8000000 in
theorem mplays_core (a0:Option Addr) (len0 cap0:Nat) (zs:List Int) (a1:Option Addr) (len1 cap1:Nat) (w:World) (hr:BRow .u32 w a0 len0 cap0 zs) (hO:OpRow w a1 len1) :
  Calls Tryz.prog 3 #[.slice a0 len0 cap0,.slice a1 len1 cap1] w fun e w'=>e=.returned (.bool true)∧Below w.heap.size w w':=by
 have hA:=awake16 w
 have HR:Hid (_):=hr
 obtain⟨hlen1,h1⟩:=hO
 have HC:Hid (_):=h1
 clear hr h1
 go_enter Tryz.func3,Tryz.ntmps3
 go_wp2_with (go_at_call 8;refine hA.mono ?_;rintro e w1 ⟨rfl,b1⟩)
 have hBu:=build_any a0 len0 cap0 zs w1 (BRow.belowC HR.out b1)
 refine hBu.mono ?_
 rintro e w2 ⟨x,rfl,h2⟩
 obtain⟨b,r,E,t,hW,hall⟩:=h2.out
 have HB:Hid (∃ E lost t,Wo w1 w2 x b r E lost t∧Bd 0 E lost):=⟨E,0,t,hW,Bd.start hall⟩
 have H1:Hid (Below w.heap.size w w1):=b1
 clear hA b1 hBu h2 hW hall
 go_wp2_with fail
 go_loopw [7] (fun c wr=>∃ i:Nat,i≤len1∧i≤300∧c=.int .i64 ((i:Nat):Int)∧Hid (∃ E lost t,Wo w1 wr x b r E lost t∧Bd i E lost)) (fun c _=>300-natU c)
 case atStart=>exact⟨0,by omega,by omega,rfl,HB⟩
 case round=>
  obtain⟨i,hi,hi3,rfl,HI⟩:=hrel
  clear HB
  by_cases hlt:i<len1∧i<300
  ·obtain⟨hlt,hlt3⟩:=hlt
   have hlt':(i:Int) < (len1:Int):=by omega
   have hlt3':(i:Int)<300:=by omega
   obtain⟨q,off,rfl,hq,hcs⟩:=HC.out (by omega)
   obtain⟨pl,K,N,fl,o,xa,l,c,bs,p,z,k0,k1,k2,k3,k4,k5,k6,k7,R,hl,hN,hz,hlow⟩:=hcs i hlt
   obtain⟨E,lost,t,hW,hBd⟩:=HI.out
   have hb1:=H1.out
   have hbr:Below w.heap.size w wr:=hb1.trans (hW.al.bel.mono hb1.size)
   have u:=fun (j:Nat) (v:Value) (h:w.cell? ⟨q,j,none⟩=some v)=>(World.cell?_of_block (a:=⟨q,j,none⟩) (hbr.block q hq)).trans h
   have c0:=u _ _ k0
   have c1:=u _ _ k1
   have c2:=u _ _ k2
   have c3:=u _ _ k3
   have c4:=u _ _ k4
   have c5:=u _ _ k5
   have c6:=u _ _ k6
   have c7:=u _ _ k7
   have hS:=mstep_any w1 wr x b r E lost t i pl K N fl o xa l c bs p z hW (R.below hbr) (fun y hy h0=>Nat.lt_of_lt_of_le (hlow y hy h0) hb1.size) hl hN hz hBd (by omega)
   clear u k0 k1 k2 k3 k4 k5 k6 k7 R hl hN hz hlow hcs hW hBd hbr HI
   go_wp2_with (first
    | (go_at_call 10;refine hS.mono ?_;rintro e w4 ⟨rfl,h4⟩;have hT:Calls Tryz.prog 11 #[.pointer (some ⟨x,0,none⟩)] w4 fun e w'=>e=.returned (.bool true)∧Below w4.heap.size w4 w':=(by obtain⟨E',lost',t',hW',hB'⟩:=h4.out;exact showsM w1 w4 x b r E' lost' t' hW' (by have:=hB'.1;omega) (fun e he=>by have:=(hB'.2 e he).2.2.2;omega)))
    | (go_at_call 11;refine hT.mono ?_;rintro e w5 ⟨rfl,b5⟩))
   go_roundw
   case rel=>
    obtain⟨E',lost',t',hW',hB'⟩:=h4.out
    exact⟨i+1,by omega,by omega,by go_num,E',lost',t',hW'.below b5,hB'⟩
   case measure=>simp[natU] <;> omega
  ·obtain⟨E,lost,t,hW,hBd⟩:=HI.out
   have hT:=showsM w1 wr x b r E lost t hW (by have:=hBd.1;omega) (fun e he=>by have:=(hBd.2 e he).2.2.2;omega)
   have hno:((i:Int) < (len1:Int))=False∨((i:Int) < (len1:Int))=True∧((i:Int)<300)=False:=by
    by_cases h1:i<len1
    ·exact .inr ⟨by simp;omega,by simp;omega⟩
    ·exact .inl (by simp;omega)
   have H5:Hid (Below w1.heap.size w1 wr):=hW.al.bel
   clear hW hBd HI
   rcases hno with h1 | ⟨h1,h2⟩
   all_goals
    go_wp2_with (go_at_call 11;refine hT.mono ?_;rintro e w5 ⟨rfl,b5⟩)
    go_ret
    have b6:=H5.out.trans (b5.mono H5.out.size)
    exact⟨rfl,H1.out.trans (b6.mono H1.out.size)⟩
theorem muxPlays_walk (a0:Option Addr) (len0 cap0:Nat) (z0:List Int) (a1:Option Addr) (len1 cap1:Nat) (w:World) (w0:BRow .u32 w a0 len0 cap0 z0) (w1:OpRow w a1 len1) :
  Calls Tryz.prog 3 #[.slice a0 len0 cap0,.slice a1 len1 cap1] w fun e w'=>e=.returned (.bool true)∧Below w.heap.size w w':=mplays_core a0 len0 cap0 z0 a1 len1 cap1 w w0 w1
end Go.Proofs.YtffehehghpafdaaGreat
