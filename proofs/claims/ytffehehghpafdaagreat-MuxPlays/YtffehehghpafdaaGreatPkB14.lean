/- Part 15 of the texts on which the proofs of layer 13 rest: contracts of Go functions. -/
import Derived.Test.YtffehehghpafdaaGreatPkB01
import Derived.Test.YtffehehghpafdaaGreatPkB13
namespace Go.Proofs.YtffehehghpafdaaGreat
set_option maxRecDepth 100000
open Go.RowKit
def encI (k c s n:Nat) (f:Int) (len:Nat) (bs:Nat→Nat):Fm:=if LW k c s n f len len=0 then (15+len+4,PM.sl (fr k c s n f.toNat len bs) (15+len)) else fm0
set_option maxHeartbeats 1600000 in
theorem frame_any (k c s n:Nat) (f:Int) (a:Option Addr) (len cap:Nat) (bs:Nat→Nat) (w:World) (hr:Row8 w a len cap bs) (hc:c<4294967296) (hs:s<4294967296) (hn:n<4294967296) :
  Calls Tryz.prog 53 #[.agg #[.int .i64 (k:Nat),.int .u32 (c:Nat),.int .u32 (s:Nat),.int .u32 (n:Nat),.int .i64 f,.slice a len cap]] w fun e w'=>∃ v,e=.returned v∧Hid (Fr w' w.heap.size v (encI k c s n f len bs)∧Below w.heap.size w w'):=by
 have b0:Below w.heap.size w (w.alloc (.cells #[.int .i64 (k:Nat),.int .u32 (c:Nat),.int .u32 (s:Nat),.int .u32 (n:Nat),.int .i64 f,.slice a len cap] 114)):=(Below.refl _ _).alloc (Nat.le_refl _) _
 have fin:Calls Tryz.prog 105 #[.agg #[.int .i64 (k:Nat),.int .u32 (c:Nat),.int .u32 (s:Nat),.int .u32 (n:Nat),.int .i64 f,.slice a len cap]] (w.alloc (.cells #[.int .i64 (k:Nat),.int .u32 (c:Nat),.int .u32 (s:Nat),.int .u32 (n:Nat),.int .i64 f,.slice a len cap] 114)) fun e w'=>∃ v E,e=.returned (.tuple #[v,.int .i64 E])∧Hid (Fr w' w.heap.size v (encI k c s n f len bs)∧Below w.heap.size w w'):=by
  unfold encI
  by_cases hE:LW k c s n f len len=0
  ·rw[if_pos hE]
   have hf:=(LW_zero hE).2.2.2.2
   obtain⟨F,rfl⟩:∃ F:Nat,f=(F:Int):=⟨f.toNat,by omega⟩
   refine (refEncode_good k c s n F a len cap bs _ (hr.below b0) hc hs hn hE).mono ?_
   rintro e w' ⟨v,rfl,h4⟩
   exact⟨v,0,rfl,own_base h4.out.1 b0.size,b0.trans (h4.out.2.mono b0.size)⟩
  ·rw[if_neg hE]
   refine (refEncode_bad k c s n f a len cap _ hE).mono ?_
   rintro e w' ⟨rfl,h4⟩
   exact⟨_,_,rfl,own_nil _ _ _,b0.trans (h4.mono b0.size)⟩
 clear hr hc hs hn b0
 go_enter Tryz.func53,Tryz.ntmps53
 go_wp2_with fail
 refine fin.mono ?_
 rintro e w4 ⟨v,E,rfl,h4⟩
 clear fin
 go_wp2_with fail
 go_ret
 exact⟨v,rfl,h4⟩
def P0:Pm:=⟨7,2,1,10,9⟩
theorem small_any (w:World):Calls Tryz.prog 30 #[] w fun e w'=>e=.returned (.agg #[.int .u32 (P0.c:Nat),.int .i64 (P0.o:Nat),.int .i64 (P0.i:Nat),.int .i64 (P0.t:Nat),.int .u32 (P0.n:Nat)])∧Below w.heap.size w w':=by
 go_enter Tryz.func30,Tryz.ntmps30
 go_wp2_with fail
 refine bodyPost_ret (v:=.agg #[.int .u32 (P0.c:Nat),.int .i64 (P0.o:Nat),.int .i64 (P0.i:Nat),.int .i64 (P0.t:Nat),.int .u32 (P0.n:Nat)]) (by simp[results,Tryz.results30,go_sem,P0]) rfl ⟨rfl,?_⟩
 exact (Below.refl _ _).alloc (Nat.le_refl _) _
def wishF (P:Pm):Fm:=(23,PM.sl (fr 1 P.c 0 0 0 4 (dsg P)) 19)
theorem LW_wish {c:Nat} (h:c≠0):LW 1 c 0 0 0 4 4=0:=by
 unfold LW
 rw[if_neg (by decide),if_neg (by omega),if_neg (by decide),if_neg (by decide),if_neg (by decide),if_neg (by decide)]
theorem wish_enc (P:Pm) (h:Pok P):encF 1 P.c 0 0 0 4 (dsg P)=wishF P:=by
 exact if_pos (LW_wish h.c0)
theorem BA_congr (f g:Nat→Nat) (n:Nat) (h:∀ i,i<n→f i=g i):BA f n=BA g n:=by
 unfold BA
 congr 1
 apply List.map_congr_left
 intro i hi
 rw[h i (List.mem_range.1 hi)]
theorem hear_wish (P:Pm) (h:Pok P) (mx n:Nat) (s:Sd):dhear P mx n s (wishF P).1 (wishF P).2=dwish P mx n s:=by
 obtain⟨e1,e2,e3,e4,e5,e6,e7⟩:=DE_back 1 P.c 0 0 0 4 (dsg P) h.c (by omega) (by omega) (by omega) (LW_wish h.c0)
 have hd:DE (wishF P).2 (wishF P).1=0:=e1
 have h0:(wishF P).2 0=1:=e2
 have h1:w4v (wishF P).2 1=P.c:=e3
 unfold dhear
 rw[if_neg (by omega),if_neg (by rw[h0];decide),if_neg (by omega),h0]
 unfold dtake
 rw[if_pos rfl,if_pos]
 unfold dsigned
 exact decide_eq_true (BA_congr _ _ 4 (fun i hi=>e7 i hi))
def M0:Ms:=S0 fun _=>0
theorem open0 (mx:Nat) (h:mx≠0):opE mx 16 M0=0∧opS mx 16 M0=M0:=by
 have hm:mend M0.bs=[]:=by decide
 constructor
 ·unfold opE
  rw[if_neg (by omega),if_neg (by decide),hm]
  rfl
 ·unfold opS
  rw[if_neg (by omega),if_neg (by decide),hm]
  rfl
theorem next0 (mx:Nat) (h:mx≠0):(nx mx 16 M0.bs false M0).e=0∧(nx mx 16 M0.bs false M0).v=1:=by
 have hv:vz M0.bs=0:=by decide
 have ht:tg M0.bs=0:=by decide
 unfold nx
 rw[if_neg (by decide),hv,if_neg (by omega),ht]
 rcases sq_all 16 (six 0 (0+1)) M0 (fun x hx=>(six_in _ _ 16 (by omega) (by omega) x hx).1) rfl (Int.le_refl _) with ⟨e,_⟩ | ⟨_,_,e,_⟩
 ·rw[if_pos e];exact⟨rfl,rfl⟩
 ·cases e
theorem first_wish (P:Pm) (h:Pok P) (mx:Nat) (hm:mx≠0) :
  (drecv P mx 16 (dnew M0) (wishF P).1 (wishF P).2).e=0∧(drecv P mx 16 (dnew M0) (wishF P).1 (wishF P).2).s.st=2∧(drecv P mx 16 (dnew M0) (wishF P).1 (wishF P).2).f=encF 17 P.c 1 0 0 4 (dsg P):=by
 obtain⟨n1,n2⟩:=next0 mx hm
 have hw:dwish P mx 16 (dnew M0)=dbegin P mx 16 (dnew M0):=rfl
 have hb:dbegin P mx 16 (dnew M0)=⟨{ dleave { dnew M0 with ms:=(nx mx 16 M0.bs false M0).s } 2 with ss:=(nx mx 16 M0.bs false M0).v },doffer P { dleave { dnew M0 with ms:=(nx mx 16 M0.bs false M0).s } 2 with ss:=(nx mx 16 M0.bs false M0).v },0⟩:=by
  unfold dbegin
  have e1:(nx mx 16 (dnew M0).ms.bs false (dnew M0).ms).e=0:=n1
  rw[if_neg (by rw[e1];decide),if_neg (by rw[e1];decide)]
  rfl
 unfold drecv
 rw[if_neg (by show (1:Nat)≠6;omega),hear_wish P h,hw,hb,if_neg (by rintro ⟨e,_⟩;exact e rfl)]
 refine⟨rfl,rfl,?_⟩
 show encF 17 P.c (nx mx 16 M0.bs false M0).v 0 0 4 (dsg P)=_
 rw[n2]
theorem LW_offer {c s:Nat} (h:c≠0) (hs:s≠0):LW 17 c s 0 0 4 4=0:=by
 unfold LW
 rw[if_neg (by decide),if_neg (by omega),if_neg (by decide),if_neg (by unfold mSess;rw[if_neg (by omega),if_neg (by omega)];simp;omega),if_neg (by decide),if_neg (by decide)]
theorem Fr.row {w:World} {M:Nat} {v:Value} {f:Fm} (h:Fr w M v f) (hb:∀ i,i<f.1→f.2 i<256):∃ a cap,v=.slice a f.1 cap∧Row8 w a f.1 cap f.2:=own_row8 h hb
theorem encF_byte (k c s n f len:Nat) (bs:Nat→Nat) (hb:∀ i,i<len→bs i<256):∀ i,i < (encF k c s n f len bs).1→(encF k c s n f len bs).2 i<256:=by
 unfold encF
 by_cases h:LW k c s n f len len=0
 ·rw[if_pos h]
  have hz:=LW_zero h
  intro i _
  have hfr:=fr_lt (K:=k) (c:=c) (s:=s) (n:=n) (F:=f) (len:=len) (bs:=bs) (by omega) (by omega) (by omega) hb
  show PM.sl _ _ i<256
  unfold PM.sl PM.ct
  split
  ·rename_i h2;exact hfr i h2
  ·exact PM.w4_lt _ _
 ·rw[if_neg h];intro i hi;exact absurd hi (Nat.not_lt_zero i)
theorem dsg_byte (P:Pm):∀ i,i<4→dsg P i<256:=fun i _=>PM.w4_lt _ i
theorem newD_ok (m g n mx:Nat) (P:Pm) (hP:Pok P) (ms:Ms) (w:World) (hM:MR w m g n ms) (hx:mx<4294967296) (ht:ms.t<9223372036854774000) (h0:opE mx n ms=0) :
  Calls Tryz.prog 32 #[.agg #[.int .u32 (P.c:Nat),.int .i64 (P.o:Nat),.int .i64 (P.i:Nat),.int .i64 (P.t:Nat),.int .u32 (P.n:Nat)],.pointer (some ⟨m,0,none⟩),.int .u32 (mx:Nat)] w fun e w'=>∃ d,e=.returned (.tuple #[.pointer (some ⟨d,0,none⟩),.int .i64 0])∧Hid (∃ U,Off [m,g] w w'∧DV w' d m g n mx P U (dnew (opS mx n ms))∧∀ k,k ∈ U→k=m∨k=g∨w.heap.size≤k):=by
 refine (newD_any m g n mx P hP ms w hM hx ht).mono ?_
 rintro e w' ⟨p,rfl,h⟩
 obtain⟨o,_,hd,_⟩:=h.out
 obtain⟨d,U,rfl,D,hU⟩:=hd h0
 rw[h0]
 exact⟨d,rfl,U,o,D,hU⟩
theorem seeS_any (d m g n mx:Nat) (P:Pm) (U:List Nat) (s:Sd) (w:World) (h:DV w d m g n mx P U s) :
  Calls Tryz.prog 21 #[.pointer (some ⟨d,0,none⟩)] w fun e w'=>∃ a cap,e=.returned (.agg #[.int .i64 (s.st:Nat),.int .u32 (s.ss:Nat),.int .u32 (s.nm:Nat),.int .u32 (s.sn:Nat),.int .i64 (s.dc:Nat),.int .i64 s.v.lat,.bool (vreq s.v),.bool (von s.v),.slice a P.o cap])∧Hid (Fr w' w.heap.size (.slice a P.o cap) (P.o,vout s.v)∧Row8 w' a P.o cap (vout s.v)∧Below w.heap.size w w'):=by
 obtain⟨B,x⟩:=id h
 refine (see_any d m g n mx P U s w h).mono ?_
 rintro e w' ⟨v,rfl,h2⟩
 obtain⟨a,cap,hv,r⟩:=h2.out.1.row (vout_byte x.val)
 subst hv
 exact⟨a,cap,rfl,h2.out.1,r,h2.out.2⟩
end Go.Proofs.YtffehehghpafdaaGreat
