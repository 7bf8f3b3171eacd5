/- Part 46 of the texts on which the proofs of layer 13 rest: contracts of Go functions. -/
import Derived.Test.YtffehehghpafdaaGreatPkB30
import Derived.Test.YtffehehghpafdaaGreatPkB40
import Derived.Test.YtffehehghpafdaaGreatPkB41
namespace Go.Proofs.YtffehehghpafdaaGreat
set_option maxRecDepth 100000
open Go.RowKit Go.Maps Go.Sort Go.Shelf
set_option maxHeartbeats 8000000 in
theorem mstep11 (w0 w:World) (x b r:Nat) (E:List Ent) (lost:Nat) (t:Nat→Thing) (n j:Nat) (en:Ent) (pl N fl:Int) (odd:Bool) (a:Option Addr) (len cap:Nat) (bs:Nat→Nat) (p:Int) (y:Nat) (h:Wo w0 w x b r E lost t) (hn:E.length=n) (hE:0<n) (hj:plJ pl n=j) (he:E[j]?=some en) (hr:Row8 w a len cap bs) (hl:∀ z,a=some z→0<len→z.block<w0.heap.size) (hss:en.s.ss<4294967296) (hN:N≤9223372036854775807) (ht:en.s.ms.t<9223372036854774000) :
  Calls Tryz.prog 10 #[.pointer (some ⟨x,0,none⟩),.agg #[.int .i64 pl,.int .i64 11,.int .i64 N,.int .i64 fl,.bool odd,.slice a len cap,.int .i64 p,.int .u32 (y:Nat)]] w fun e w'=>e=.returned (.bool true)∧Hid (∃ t',Wo w0 w' x b r (setE E j (dresetS en.L.mx en.L.n en.s N)) lost t'):=by
 have hB:=h.box #[.int .i64 pl,.int .i64 11,.int .i64 N,.int .i64 fl,.bool odd,.slice a len cap,.int .i64 p,.int .u32 (y:Nat)]
 have S0:=hB.stp' he
 obtain⟨ga,ca,gm,cm,gr,cr,hx⟩:=hB.reads' hn he (putT_same _ _ _)
 have X0:=hx _ _ _ S0
 obtain⟨PP,q1,q2,q3,q4,q5⟩:=plJ_facts pl n hE (hn ▸ h.le)
 rw[hj]at q2 q4 q5
 have k0:=cell_of_row _ w.heap.size 0 _ _ _ X0.bx
 have k1:=cell_of_row _ w.heap.size 1 _ _ _ X0.bx
 have k4:=X0.c4
 have hjn:(j:Int) < (n:Int):=by have:=plJ_lt pl n hE;omega
 have hn0:¬ (n:Int)=0:=by omega
 have hR:=hr.both hl h.al.bel hB.al.bel
 have cF:∀ wx,Stp w0 wx (putT t 3 (bxT w.heap.size #[.int .i64 pl,.int .i64 11,.int .i64 N,.int .i64 fl,.bool odd,.slice a len cap,.int .i64 p,.int .u32 (y:Nat)])) j (en.L.dr en.s) (en.L.rr en.s)→Calls Tryz.prog 13 #[.pointer (some ⟨en.L.e,0,none⟩),.agg #[.int .i64 11,.int .i64 N,.int .i64 fl,.bool odd,.slice a len cap,.int .i64 p,.int .u32 (y:Nat)]] wx fun e w'=>e=.returned (.tuple #[.slice none 0 0,.bool false])∧Stp w0 w' (putT t 3 (bxT w.heap.size #[.int .i64 pl,.int .i64 11,.int .i64 N,.int .i64 fl,.bool odd,.slice a len cap,.int .i64 p,.int .u32 (y:Nat)])) j (en.L.dr en.s) (en.L.rr en.s):=by
  intro wx hs
  obtain⟨V,hv,_⟩:=hs.ref
  refine (frameN_any en.L.e en.L.r en.L.q en.L.n en.L.mx en.L.P V en.s 11 N fl odd a len cap bs p y wx hv (hr.both hl h.al.bel hs.bel) (fun z hz h0=>Nat.lt_of_lt_of_le (hl z hz h0) hs.bel.size) hss (by omega)).mono ?_
  rintro e w' ⟨rfl,b2⟩
  exact⟨rfl,hs.below b2⟩
 have HW:Hid (_):=And.intro hB (And.intro S0 (And.intro hx (And.intro he (And.intro hN ht))))
 generalize hw1:w.alloc (.cells #[.int .i64 pl,.int .i64 11,.int .i64 N,.int .i64 fl,.bool odd,.slice a len cap,.int .i64 p,.int .u32 (y:Nat)] 34)=w1 at *
 clear hB X0 hr hl hss he h hn hj hE hR
 go_enter Tryz.func10,Tryz.ntmps10
 go_wp2_with fail
 go_quiet (fail)
 have P1:Hid (_):=S0.below (below_drewNB' (Below.refl _ w1) nq)
 clear S0 k0 k1 k4 q1 q2 q3 q4 q5 hw1
 generalize w1.drewN nq=w2 at *
 go_wp2_with fail
 have HS:(w2.drew.cell? ⟨x,4,none⟩=some (.slice (some ⟨gr,0,none⟩) n cr)∧w2.drew.cell? ⟨gr,j,none⟩=some (.pointer (some ⟨en.L.e,0,none⟩))∧w2.drew.cell? ⟨w.heap.size,1,none⟩=some (.int .i64 11)∧w2.drew.cell? ⟨w.heap.size,2,none⟩=some (.int .i64 N)∧w2.drew.cell? ⟨w.heap.size,3,none⟩=some (.int .i64 fl)∧w2.drew.cell? ⟨w.heap.size,4,none⟩=some (.bool odd)∧w2.drew.cell? ⟨w.heap.size,5,none⟩=some (.slice a len cap)∧w2.drew.cell? ⟨w.heap.size,6,none⟩=some (.int .i64 p)∧w2.drew.cell? ⟨w.heap.size,7,none⟩=some (.int .u32 (y:Nat))):=by
  have X:=HW.out.2.2.1 _ _ _ P1.out.drew
  exact⟨X.c4,X.r4,cell_of_row _ w.heap.size 1 _ _ _ X.bx,cell_of_row _ w.heap.size 2 _ _ _ X.bx,cell_of_row _ w.heap.size 3 _ _ _ X.bx,cell_of_row _ w.heap.size 4 _ _ _ X.bx,cell_of_row _ w.heap.size 5 _ _ _ X.bx,cell_of_row _ w.heap.size 6 _ _ _ X.bx,cell_of_row _ w.heap.size 7 _ _ _ X.bx⟩
 have P2:Hid (_):=P1.out.drew
 clear P1
 go_region_held3 (fun w'=>w'.cell? ⟨x,4,none⟩=some (.slice (some ⟨gr,0,none⟩) n cr)∧w'.cell? ⟨gr,j,none⟩=some (.pointer (some ⟨en.L.e,0,none⟩))∧w'.cell? ⟨w.heap.size,1,none⟩=some (.int .i64 11)∧w'.cell? ⟨w.heap.size,2,none⟩=some (.int .i64 N)∧w'.cell? ⟨w.heap.size,3,none⟩=some (.int .i64 fl)∧w'.cell? ⟨w.heap.size,4,none⟩=some (.bool odd)∧w'.cell? ⟨w.heap.size,5,none⟩=some (.slice a len cap)∧w'.cell? ⟨w.heap.size,6,none⟩=some (.int .i64 p)∧w'.cell? ⟨w.heap.size,7,none⟩=some (.int .u32 (y:Nat))) (assumption) (first
  | (go_at_call 13;refine (cF _ P2.out).mono ?_;rintro e w3 ⟨rfl,h2⟩;have HT:(w3.cell? ⟨x,4,none⟩=some (.slice (some ⟨gr,0,none⟩) n cr)∧w3.cell? ⟨gr,j,none⟩=some (.pointer (some ⟨en.L.e,0,none⟩))∧w3.cell? ⟨w.heap.size,1,none⟩=some (.int .i64 11)∧w3.cell? ⟨w.heap.size,2,none⟩=some (.int .i64 N)∧w3.cell? ⟨w.heap.size,3,none⟩=some (.int .i64 fl)∧w3.cell? ⟨w.heap.size,4,none⟩=some (.bool odd)∧w3.cell? ⟨w.heap.size,5,none⟩=some (.slice a len cap)∧w3.cell? ⟨w.heap.size,6,none⟩=some (.int .i64 p)∧w3.cell? ⟨w.heap.size,7,none⟩=some (.int .u32 (y:Nat))):=(by have X:=HW.out.2.2.1 _ _ _ h2;exact⟨X.c4,X.r4,cell_of_row _ w.heap.size 1 _ _ _ X.bx,cell_of_row _ w.heap.size 2 _ _ _ X.bx,cell_of_row _ w.heap.size 3 _ _ _ X.bx,cell_of_row _ w.heap.size 4 _ _ _ X.bx,cell_of_row _ w.heap.size 5 _ _ _ X.bx,cell_of_row _ w.heap.size 6 _ _ _ X.bx,cell_of_row _ w.heap.size 7 _ _ _ X.bx⟩);have P3:Hid (_):=h2;clear h2))
 all_goals
  have kk:=cell_of_row _ w.heap.size 1 _ _ _ (HW.out.2.2.1 _ _ _ P3.out).bx
  clear cF HS HT P2
  have cA:=fun R wx (hs:Stp w0 wx (putT t 3 (bxT w.heap.size #[.int .i64 pl,.int .i64 11,.int .i64 N,.int .i64 fl,.bool odd,.slice a len cap,.int .i64 p,.int .u32 (y:Nat)])) j (en.L.dr en.s) R)=>(by
   obtain⟨U,hd,hk⟩:=hs.dev
   refine (dresetAll en.L.d en.L.m en.L.g en.L.n en.L.mx en.L.P U en.s N wx hd HW.out.2.2.2.2.1 HW.out.2.2.2.2.2).mono ?_
   rintro e w' ⟨rfl,h5⟩
   obtain⟨U',g5,x5⟩:=h5.out
   exact⟨rfl,hk U' w' _ g5 x5⟩:Calls Tryz.prog 43 #[.pointer (some ⟨en.L.d,0,none⟩),.int .i64 N] wx fun e w'=>e=.returned (.int .i64 (dresetE en.L.mx en.L.n en.s N))∧Stp w0 w' (putT t 3 (bxT w.heap.size #[.int .i64 pl,.int .i64 11,.int .i64 N,.int .i64 fl,.bool odd,.slice a len cap,.int .i64 p,.int .u32 (y:Nat)])) j (en.L.dr (dresetS en.L.mx en.L.n en.s N)) R)
  have cB:=fun D wx (hs:Stp w0 wx (putT t 3 (bxT w.heap.size #[.int .i64 pl,.int .i64 11,.int .i64 N,.int .i64 fl,.bool odd,.slice a len cap,.int .i64 p,.int .u32 (y:Nat)])) j D (en.L.rr en.s))=>(by
   obtain⟨U,hd,hk⟩:=hs.ref
   refine (rresetAll en.L.e en.L.r en.L.q en.L.n en.L.mx en.L.P U en.s N wx hd HW.out.2.2.2.2.1 HW.out.2.2.2.2.2).mono ?_
   rintro e w' ⟨rfl,h5⟩
   obtain⟨U',g5,x5⟩:=h5.out
   exact⟨rfl,hk U' w' _ g5 x5⟩:Calls Tryz.prog 44 #[.pointer (some ⟨en.L.e,0,none⟩),.int .i64 N] wx fun e w'=>e=.returned (.int .i64 (dresetE en.L.mx en.L.n en.s N))∧Stp w0 w' (putT t 3 (bxT w.heap.size #[.int .i64 pl,.int .i64 11,.int .i64 N,.int .i64 fl,.bool odd,.slice a len cap,.int .i64 p,.int .u32 (y:Nat)])) j D (en.L.rr (dresetS en.L.mx en.L.n en.s N)))
  go_wp2_with fail
  have P4:Hid (_):=P3.out.drew
  have hM:∀ wx D R,Stp w0 wx (putT t 3 (bxT w.heap.size #[.int .i64 pl,.int .i64 11,.int .i64 N,.int .i64 fl,.bool odd,.slice a len cap,.int .i64 p,.int .u32 (y:Nat)])) j D R→R.d=en.L.e→R.m=en.L.r→(wx.cell? ⟨x,2,none⟩=some (.slice (some ⟨ga,0,none⟩) n ca)∧wx.cell? ⟨ga,j,none⟩=some (.pointer (some ⟨en.L.d,0,none⟩))∧wx.cell? ⟨x,4,none⟩=some (.slice (some ⟨gr,0,none⟩) n cr)∧wx.cell? ⟨gr,j,none⟩=some (.pointer (some ⟨en.L.e,0,none⟩))∧wx.cell? ⟨w.heap.size,2,none⟩=some (.int .i64 N)):=fun wx D R hs hRd hRm=>by
   have X:=HW.out.2.2.1 _ _ _ hs
   obtain⟨V,hv,_⟩:=hs.ref
   have e5:=hv.memp
   rw[hRd,hRm]at e5
   exact⟨X.c2,X.r2,X.c4,X.r4,cell_of_row _ w.heap.size 2 _ _ _ X.bx⟩
  have HS:=hM _ _ _ P4.out rfl rfl
  clear kk P3
  obtain⟨s2,hs2⟩:∃ S,(dresetS en.L.mx en.L.n en.s N)=S:=⟨_,rfl⟩
  obtain⟨rr,hr2⟩:∃ S,(dresetE en.L.mx en.L.n en.s N)=S:=⟨_,rfl⟩
  rw[hs2,hr2]at cA cB
  have HE:Hid (_):=hs2
  have HM:Hid (_):=hM
  clear hs2 hr2 hM
  go_region_held3 (fun w'=>w'.cell? ⟨x,2,none⟩=some (.slice (some ⟨ga,0,none⟩) n ca)∧w'.cell? ⟨ga,j,none⟩=some (.pointer (some ⟨en.L.d,0,none⟩))∧w'.cell? ⟨x,4,none⟩=some (.slice (some ⟨gr,0,none⟩) n cr)∧w'.cell? ⟨gr,j,none⟩=some (.pointer (some ⟨en.L.e,0,none⟩))∧w'.cell? ⟨w.heap.size,2,none⟩=some (.int .i64 N)) (assumption) (first
   | (go_at_call 43;(first | refine (cA _ _ h1.out).mono ?_ | refine (cA _ _ P4.out).mono ?_);rintro e w4 ⟨rfl,h2⟩;have HT:=HM.out w4 _ _ h2 rfl rfl;have h1:Hid (_):=h2;clear h2)
   | (go_at_call 44;(first | refine (cB _ _ h1.out).mono ?_ | refine (cB _ _ P4.out).mono ?_);rintro e w4 ⟨rfl,h2⟩;have HT:=HM.out w4 _ _ h2 rfl rfl;have h1:Hid (_):=h2;clear h2))
  all_goals
   go_wp2_with fail
   go_ret
   rw[HE.out]
   exact⟨by simp,HW.out.1.set' HW.out.2.2.2.1 h1.out⟩
end Go.Proofs.YtffehehghpafdaaGreat
