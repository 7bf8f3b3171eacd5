/- Part 16 of the texts on which the proof rests: contracts of Go functions. -/
import Derived.Test.YtiopiheomoehbaaGreatPkF11
import Derived.Test.YtiopiheomoehbaaGreatPkF14
namespace Go.Proofs.YtiopiheomoehbaaGreat
set_option maxRecDepth 100000
open Go.RowKit
set_option maxHeartbeats 3200000 in
theorem flags_any (d m g n mx:Nat) (P:Pm) (U:List Nat) (s:Sd) (w:World) (h:DV w d m g n mx P U s) :
  Calls Tryz.prog 207 #[.pointer (some ⟨d,9,none⟩)] w fun e w'=>e=.returned (.int .i64 (dflags s:Nat))∧Below w.heap.size w w':=by
 obtain⟨B,h⟩:=h
 have c10:=h.cells.2.2.2.2.2.2.2.2.2.2.1
 have c17:=h.cells.2.2.2.2.2.2.2.2.2.2.2.2.2.2.2.2.2
 have H:Hid (_):=h
 clear h
 unfold dflags
 cases h1:von s.v <;> cases h2:vreq s.v <;> by_cases h3:s.v.lat=0 <;> cases h4:s.hd
 all_goals
  rw[h4]at c17
  go_enter Tryz.func207,Tryz.ntmps207
  go_wp2_with fail
  refine (vout_any _ _ _ _ _ _ H.out.val).mono ?_
  rintro e w2 ⟨v2,rfl,h5⟩
  rw[h1]
  have hb:=h5.out.2
  have x2:=H.out.newd (Off.of_below hb)
  have e10:=x2.cells.2.2.2.2.2.2.2.2.2.2.1
  have e17:=x2.cells.2.2.2.2.2.2.2.2.2.2.2.2.2.2.2.2.2
  have q1:=vreq_any _ _ _ _ _ _ x2.val
  have q2:=vlat_any _ _ _ _ _ _ x2.val
  rw[h2]at q1
  rw[h4]at e17
  first
   | rw[h3]at q2
   | skip
  have HB:Hid (_):=hb
  clear H h5 hb x2 c10 c17
  go_wp2_with (first | (go_at_call 54;refine q1.mono ?_;rintro e w' ⟨rfl,hw⟩;have hw:=hw.symm;subst hw) | (go_at_call 53;refine q2.mono ?_;rintro e w' ⟨rfl,hw⟩;have hw:=hw.symm;subst hw))
  go_ret
  exact⟨by first | rfl | (simp[h3];done) | (simp[h3];rfl),HB.out⟩
def Fr (w:World) (M:Nat) (v:Value) (f:Fm):Prop:=w.ownsRow M 5 1 v f.1 (CB f.2 f.1)
theorem own_nil (w:World) (M e:Nat):w.ownsRow M e 1 (.slice none 0 0) 0 (CB (fun _=>0) 0):=World.ownsRow_nil w M e 1
set_option maxHeartbeats 3200000 in
theorem say_any (d m g n mx:Nat) (P:Pm) (U:List Nat) (s:Sd) (k num fl:Nat) (a:Option Addr) (len cap:Nat) (bs:Nat→Nat) (w:World) (h:DV w d m g n mx P U s) (hr:Row8 w a len cap bs) :
  Calls Tryz.prog 206 #[.pointer (some ⟨d,0,none⟩),.agg #[.int .i64 (k:Nat),.int .u32 0,.int .u32 0,.int .u32 (num:Nat),.int .i64 (fl:Nat),.slice a len cap]] w fun e w'=>∃ v,e=.returned v∧Hid (Fr w' w.heap.size v (dsay P s k num fl len bs)∧Below w.heap.size w w'):=by
 obtain⟨B,h⟩:=h
 obtain⟨c0,_,_,_,_,_,_,_,_,_,_,_,c12,_⟩:=h.cells
 have hlt:=h.dlt
 have hne:¬ d=w.heap.size:=by omega
 have hne':¬ w.heap.size=d:=by omega
 clear h
 have fin:∀ w3,Below w.heap.size w w3→Calls Tryz.prog 84 #[.agg #[.int .i64 (k:Nat),.int .u32 (P.c:Nat),.int .u32 (s.ss:Nat),.int .u32 (num:Nat),.int .i64 (fl:Nat),.slice a len cap]] w3 fun e w'=>∃ v E,e=.returned (.tuple #[v,.int .i64 E])∧Hid (Fr w' w.heap.size v (dsay P s k num fl len bs)∧Below w.heap.size w w'):=by
  intro w3 h3
  unfold dsay encF
  by_cases hE:LW k P.c s.ss num fl len len=0
  ·rw[if_pos hE]
   refine (encode_good k P.c s.ss num fl a len cap bs w3 (hr.below h3) hE).mono ?_
   rintro e w' ⟨v,rfl,h4⟩
   exact⟨v,0,rfl,own_base h4.out.1 h3.size,h3.trans (h4.out.2.mono h3.size)⟩
  ·rw[if_neg hE]
   refine (encode_bad k P.c s.ss num fl a len cap w3 hE).mono ?_
   rintro e w' ⟨rfl,h4⟩
   exact⟨_,_,rfl,own_nil _ _ _,h3.trans (h4.mono h3.size)⟩
 clear hr
 go_enter Tryz.func206,Tryz.ntmps206
 go_wp2_with fail
 go_region_with fail
 all_goals
  go_wp2_with fail
  refine (fin _ ?_).mono ?_
  ·exact Below.drew ((Below.refl _ _).alloc (Nat.le_refl _) _)
  ·rintro e w4 ⟨v,E,rfl,h4⟩
   clear fin
   go_wp2_with fail
   go_ret
   exact⟨v,rfl,h4⟩
theorem row_nilX (w:World) (bs:Nat→Nat):Row8 w none 0 0 bs:=⟨fun i hi=>by omega,fun _=>⟨rfl,rfl⟩,(fun x hx=>by cases hx),Nat.le_refl _⟩
theorem DV.below {w w':World} {d m g n mx:Nat} {P:Pm} {U:List Nat} {s:Sd} (h:DV w d m g n mx P U s) (hb:Below w.heap.size w w'):DV w' d m g n mx P U s:=by
 obtain⟨B,h⟩:=h
 exact⟨B,h.newd (Off.of_below hb)⟩
set_option maxHeartbeats 1600000 in
theorem none_any (d m g n mx:Nat) (P:Pm) (U:List Nat) (s:Sd) (w:World) (h:DV w d m g n mx P U s) :
  Calls Tryz.prog 203 #[.pointer (some ⟨d,0,none⟩)] w fun e w'=>∃ v,e=.returned v∧Hid (Fr w' w.heap.size v (dnone P s)∧Below w.heap.size w w'):=by
 have hS:=say_any d m g n mx P U s 22 0 0 none 0 0 (fun _=>0) w h (row_nilX _ _)
 clear h
 go_enter Tryz.func203,Tryz.ntmps203
 go_wp2_with fail
 refine hS.mono ?_
 rintro e w2 ⟨v,rfl,h2⟩
 clear hS
 go_wp2_with fail
 go_ret
 exact⟨v,rfl,h2⟩
set_option maxHeartbeats 1600000 in
theorem offer_any (d m g n mx:Nat) (P:Pm) (U:List Nat) (s:Sd) (w:World) (h:DV w d m g n mx P U s) :
  Calls Tryz.prog 202 #[.pointer (some ⟨d,0,none⟩)] w fun e w'=>∃ v,e=.returned v∧Hid (Fr w' w.heap.size v (doffer P s)∧Below w.heap.size w w'):=by
 obtain⟨B,h0⟩:=id h
 obtain⟨c0,c1,c2,c3,c4,_⟩:=h0.cells
 have hG:=psig_good P.c P.o P.i P.t P.n w h0.pok.c h0.pok.n h0.pok.ok
 have H:Hid (_):=h
 clear h h0
 go_enter Tryz.func202,Tryz.ntmps202
 go_wp2_with fail
 refine hG.mono ?_
 rintro e w2 ⟨rfl,b2⟩
 have K:=PM.K_lt (pe P.c P.o P.i P.t P.n) 14
 have hr:=row4P w2 (PM.K (pe P.c P.o P.i P.t P.n) 14) K
 have hB:=bytes4_any (PM.K (pe P.c P.o P.i P.t P.n) 14) w2 K
 have b3:Below w2.heap.size w2 (w2.alloc (.cells #[.int .u8 ((PM.K (pe P.c P.o P.i P.t P.n) 14:Nat) / 16777216:Int),.int .u8 ((PM.K (pe P.c P.o P.i P.t P.n) 14:Nat) / 65536 % 256:Int),.int .u8 ((PM.K (pe P.c P.o P.i P.t P.n) 14:Nat) / 256 % 256:Int),.int .u8 ((PM.K (pe P.c P.o P.i P.t P.n) 14:Nat) % 256:Int)] 5)):=(Below.refl _ _).alloc (Nat.le_refl _) _
 have b4:=b2.trans (b3.mono b2.size)
 have hS:=say_any d m g n mx P U s 17 0 0 (some ⟨w2.heap.size,0,none⟩) 4 4 (dsg P) _ (DV.below H.out b4) hr
 have HB:Hid (_):=b4
 clear hG b2 b3 b4 hr K c0 c1 c2 c3 c4 H
 generalize PM.K (pe P.c P.o P.i P.t P.n) 14=K at *
 go_wp2_with fail
 refine hB.mono ?_
 rintro e w3 ⟨rfl,rfl⟩
 clear hB
 go_wp2_with fail
 refine hS.mono ?_
 rintro e w4 ⟨v,rfl,h4⟩
 have H4:Hid (Fr w4 w.heap.size v (doffer P s)∧Below w.heap.size w w4):=⟨own_base h4.out.1 HB.out.size,HB.out.trans (h4.out.2.mono HB.out.size)⟩
 clear hS h4 HB
 go_wp2_with fail
 go_ret
 exact⟨v,rfl,H4⟩
set_option maxHeartbeats 1600000 in
theorem signed_any (d m g n mx:Nat) (P:Pm) (U:List Nat) (s:Sd) (a:Option Addr) (len cap:Nat) (bs:Nat→Nat) (w:World) (h:DV w d m g n mx P U s) (hr:Row8 w a len cap bs) :
  Calls Tryz.prog 200 #[.pointer (some ⟨d,0,none⟩),.slice a len cap] w fun e w'=>e=.returned (.bool (dsigned P len bs))∧Below w.heap.size w w':=by
 obtain⟨B,h⟩:=h
 obtain⟨c0,c1,c2,c3,c4,_⟩:=h.cells
 have hG:=pmatch_good P.c P.o P.i P.t P.n a len cap bs w hr h.pok.c h.pok.n h.pok.ok (dsigned P len bs) rfl
 clear h hr
 go_enter Tryz.func200,Tryz.ntmps200
 go_wp2_with fail
 refine hG.mono ?_
 rintro e w2 ⟨rfl,b2⟩
 clear hG
 go_wp2_with fail
 go_ret
 exact⟨rfl,b2⟩
end Go.Proofs.YtiopiheomoehbaaGreat
