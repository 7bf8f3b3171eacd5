/- Part 3: contracts that the proof rests on. -/
import Derived.Laws.BytesString
import Derived.Deep.RegionWith
import Derived.Deep.DeepCutAuto
import Derived.RegionTactic
import Derived.Test.YtenilkloffnjlaaGreatProg
import Derived.WalkKit
import Derived.WalkSpells
import Derived.OpenShut
import Derived.Laws.BitsAllLaws
import Derived.Laws.Pointers
import Derived.Laws.LoneSync
import Derived.Laws.NewBlocks
import Derived.Lib.Builder
import Derived.RegionCalls
import Derived.Deep.QuietTactic
import Derived.Deep.RegionHeld3
import Derived.Maps.AppendAt
import Derived.Test.YtenilkloffnjlaaGreatPkH01
set_option maxHeartbeats 64000000
set_option maxRecDepth 100000
namespace Go.Proofs.YtenilkloffnjlaaGreat
open Tryz
open Go.RowKit
theorem by0 (a b c d:Nat) (hb:b<256) (hc:c<256) (hd:d<256):(a*16777216+b*65536+c*256+d) / 16777216=a:=by omega
theorem by1 (a b c d:Nat) (hc:c<256) (hd:d<256):(a*16777216+b*65536+c*256+d) / 65536=a*256+b:=by omega
theorem by2 (a b c d:Nat) (hd:d<256):(a*16777216+b*65536+c*256+d) / 256=a*65536+b*256+c:=by omega
theorem xw (bs:Nat→Nat) (n k:Nat) (hk:k<4294967296) (h0:bs n<256) (h1:bs (n+1)<256) (h2:bs (n+2)<256) (h3:bs (n+3)<256) :
  (∀ i,i<4→bs (n+i)=PM.w4 k i) ↔ bs n*16777216+bs (n+1)*65536+bs (n+2)*256+bs (n+3)=k:=by
 have hv:=PM.V_w4 k hk
 rw[PM.V4 _ (fun i _=>PM.w4_lt k i)]at hv
 constructor
 ·intro h
  have e0:=h 0 (by omega)
  rw[Nat.add_zero]at e0
  rw[e0,h 1 (by omega),h 2 (by omega),h 3 (by omega)]
  exact hv
 ·intro h
  have c0:PM.w4 k 0=bs n:=by
   unfold PM.w4
   rw[if_pos rfl,← h,by0 _ _ _ _ h1 h2 h3,Nat.mod_eq_of_lt h0]
  have c1:PM.w4 k 1=bs (n+1):=by
   unfold PM.w4
   rw[if_neg (by omega),if_pos rfl,← h,by1 _ _ _ _ h2 h3]
   omega
  have c2:PM.w4 k 2=bs (n+2):=by
   unfold PM.w4
   rw[if_neg (by omega),if_neg (by omega),if_pos rfl,← h,by2 _ _ _ _ h3]
   omega
  have c3:PM.w4 k 3=bs (n+3):=by
   unfold PM.w4
   rw[if_neg (by omega),if_neg (by omega),if_neg (by omega),← h]
   omega
  intro i hi
  by_cases e0:i=0
  ·rw[e0,c0,Nat.add_zero]
  ·by_cases e1:i=1
   ·rw[e1,c1]
   ·by_cases e2:i=2
    ·rw[e2,c2]
    ·rw[show i=3 by omega,c3]
theorem lk (a:Option Addr) (len cap:Nat) (w:World) (h:len<4) :
  Calls prog 65 #[.slice a len cap] w fun e w'=>e=.returned (.bool false)∧∃ m,w'=w.drewN m:=by
 have hd:decide ((4:Int) ≤ (len:Int))=false:=by simp;omega
 have hd3:decide (4≤len)=false:=by simp;omega
 go_enter func65,ntmps65
 go_wp2_with fail
 go_quiet (fail)
 go_wp2
 go_ret
 exact⟨rfl,_,rfl⟩
theorem lS (b off len cap:Nat) (bs:Nat→Nat) (w:World) (h:4≤len) (hr:Row8 w (af b off) len cap bs) (hlen:len≤900000) :
  Calls prog 65 #[.slice (af b off) len cap] w fun e w'=>e=.returned (.bool (decide (PM.R PM.g 32 (PM.V (PM.fb bs) (8*len))=0)))∧Below w.heap.size w w':=by
 obtain⟨n,hn⟩:∃ n,len=n+4:=⟨len-4,by omega⟩
 have hcap:=hr.le
 have hk:=PM.K_lt bs n
 have HV:=PM.valid_iff bs n (by rw[← hn];exact hr.byte)
 have hd:decide ((4:Int) ≤ (len:Int))=true:=by simp;omega
 have hN:(len:Int)-4=(n:Int):=by omega
 have hN0:(0:Int) ≤ (n:Int):=by omega
 have hNl:(n:Int) ≤ (len:Int):=by omega
 have hNc:(n:Int) ≤ (cap:Int):=by omega
 have hLN:Hid (len-n=4):=show len-n=4 by omega
 have hcn:n≠cap:=by omega
 have hle1:n+4≤len:=by omega
 have hle2:len≤n+4:=by omega
 have hwn:IntKind.i64.wrap (n:Int)=(n:Int):=by rw[IntKind.wrap_i64];omega
 have hwl:IntKind.i64.wrap ((len:Int)-4)=(n:Int):=by rw[IntKind.wrap_i64];omega
 have hT:∀ w',Below w.heap.size w w'→(convert 37 9 (.slice (af b (off+n)) 4 (cap-n))).run prog w'=.ok (.string (BA (fun i=>bs (n+i)) 4)) w':=fun w' hb=>by
  have R:=(hr.below hb).from_ n (by omega)
  rw[show len-n=4 by omega]at R
  exact kE b (off+n) 4 (cap-n) _ w' R
 have hS:=rN (af b off) n cap bs w.drew ((hr.below (Below.refl _ _).drew).upto n (by omega)) (by omega)
 have hW:∀ w',Below w.heap.size w w'→Calls prog 89 #[.int .u32 (PM.K bs n:Nat)] w' fun e w''=>e=.returned (.slice (af w'.heap.size 0) 4 4)∧Below w.heap.size w w''∧∃ CU:World→Result Value,(∀ u,(convert 37 9 (.slice (af w'.heap.size 0) 4 4)).run prog u=CU u)∧CU w''=.ok (.string (BA (PM.w4 (PM.K bs n)) 4)) w'':=fun w' hb=>by
  refine (qo (PM.K bs n) w' hk).mono ?_
  rintro e w'' ⟨rfl,hw⟩
  have hb2:Below w.heap.size w w'':=by rw[hw];exact hb.alloc hb.size _
  refine⟨rfl,hb2,_,fun _=>rfl,?_⟩
  rw[hw]
  exact kE _ 0 4 4 _ _ (acc w' (PM.K bs n) hk)
 have hEq:(BA (fun i=>bs (n+i)) 4=BA (PM.w4 (PM.K bs n)) 4) ↔ PM.R PM.g 32 (PM.V (PM.fb bs) (8 * (n+4)))=0:=by
  rw[abx _ _ 4 (fun i hi=>hr.byte _ (by omega)) (fun i _=>PM.w4_lt _ i),← HV]
  exact xw bs n (PM.K bs n) hk (hr.byte n (by omega)) (hr.byte (n+1) (by omega)) (hr.byte (n+2) (by omega)) (hr.byte (n+3) (by omega))
 have hdec:decide (PM.R PM.g 32 (PM.V (PM.fb bs) (8 * (n+4)))=0)=decide (BA (fun i=>bs (n+i)) 4=BA (PM.w4 (PM.K bs n)) 4):=decide_eq_decide.2 hEq.symm
 have hdec2:decide (PM.R PM.g 32 (PM.V (PM.fb bs) (8*len))=0)=((BA (fun i=>bs (n+i)) 4).toList == (BA (PM.w4 (PM.K bs n)) 4).toList):=by
  rw[hn,hdec,jh]
 rw[hdec2]
 have hL4:len-n=4:=by omega
 have hb0:Below w.heap.size w w.drew:=(Below.refl _ _).drew
 have hS2:Calls prog 90 #[.slice (af b off) n cap] w.drew fun e w'=>e=.returned (.int .u32 (PM.K bs n:Nat))∧Below w.heap.size w w':=by
  refine hS.mono ?_
  rintro e w' ⟨rfl,hb⟩
  exact⟨rfl,⟨hb.os,hb.tape,hb.output,hb.size,hb.block⟩⟩
 obtain⟨CV,hCV⟩:∃ CV:World→Result Value,∀ u,(convert 37 9 (.slice (af b (off+n)) 4 (cap-n))).run prog u=CV u:=⟨_,fun _=>rfl⟩
 have hCVo:∀ u,Below w.heap.size w u→CV u=.ok (.string (BA (fun i=>bs (n+i)) 4)) u:=fun u hu=>by rw[← hCV];exact hT u hu
 clear hS hT hEq hdec hdec2 HV hr hn h hlen hcap hLN
 generalize BA (fun i=>bs (n+i)) 4=A at *
 generalize BA (PM.w4 (PM.K bs n)) 4=B at *
 generalize PM.K bs n=k at *
 go_enter func65,ntmps65
 go_upto_region 1 with fail
 refine wp_region_any (by kernel_rfl) ?_
 change wpAny _ _ _ _ _ _ _ (World.drew _)
 refine bQ (a':={ tmps:=#[Value.slice (af b off) len cap,undef,Value.bool false,undef,undef,undef,undef,undef,undef,undef,undef,undef,undef,undef,undef,undef,undef,undef,undef,undef,undef,undef,undef],defers:=[] }) (l':=#[false,false,false,false,false,false,false,false,false,false,false,false,false,false,false,false,false,false,false,false,false]) (by kernel_rfl) (by kernel_rfl) ?_
 refine wpAny_take (i:=0) (v:=Value.slice (af b off) len cap) rfl (by kernel_rfl) (by kernel_rfl) (by kernel_rfl) (fun _ _ _ h=>h) (Or.inl ⟨by kernel_rfl,fun w=>by go_simp <;> omega⟩) ?_
 refine wpAny_take (i:=1) (v:=Value.int .i64 (len:Int)) rfl (by kernel_rfl) (by kernel_rfl) (by kernel_rfl) (fun _ _ _ h=>h) (Or.inl ⟨by kernel_rfl,fun w=>by go_simp <;> omega⟩) ?_
 refine wpAny_take (i:=2) (v:=Value.bool true) rfl (by kernel_rfl) (by kernel_rfl) (by kernel_rfl) (fun _ _ _ h=>h) (Or.inl ⟨by kernel_rfl,fun w=>by go_simp <;> omega⟩) ?_
 refine wpAny_take (i:=3) (v:=Value.bool true) rfl (by kernel_rfl) (by kernel_rfl) (by kernel_rfl) (fun _ _ _ h=>h) (Or.inl ⟨by kernel_rfl,fun w=>by go_simp <;> omega⟩) ?_
 refine bQ (a':={ tmps:=#[Value.slice (af b off) len cap,undef,Value.bool false,Value.slice (af b off) len cap,Value.int .i64 (len:Int),Value.bool true,Value.bool true,undef,undef,undef,undef,undef,undef,undef,undef,undef,undef,undef,undef,undef,undef,undef,undef],defers:=[] }) (l':=#[true,true,true,true,false,false,false,false,false,false,false,false,false,false,false,false,false,false,false,false,false]) (by kernel_rfl) (by kernel_rfl) ?_
 refine wpAny_take (i:=4) (v:=Value.slice (af b off) len cap) rfl (by kernel_rfl) (by kernel_rfl) (by kernel_rfl) (fun _ _ _ h=>h) (Or.inl ⟨by kernel_rfl,fun w=>by go_simp <;> omega⟩) ?_
 refine wpAny_take (i:=5) (v:=Value.slice (af b off) len cap) rfl (by kernel_rfl) (by kernel_rfl) (by kernel_rfl) (fun _ _ _ h=>h) (Or.inl ⟨by kernel_rfl,fun w=>by go_simp <;> omega⟩) ?_
 refine wpAny_take (i:=6) (v:=Value.int .i64 (len:Int)) rfl (by kernel_rfl) (by kernel_rfl) (by kernel_rfl) (fun _ _ _ h=>h) (Or.inl ⟨by kernel_rfl,fun w=>by go_simp <;> omega⟩) ?_
 refine wpAny_take (i:=7) (v:=Value.int .i64 (n:Int)) rfl (by kernel_rfl) (by kernel_rfl) (by kernel_rfl) (fun _ _ _ h=>h) (Or.inl ⟨by kernel_rfl,fun w=>by go_simp <;> omega⟩) ?_
 refine bQ (a':={ tmps:=#[Value.slice (af b off) len cap,undef,Value.bool false,Value.slice (af b off) len cap,Value.int .i64 (len:Int),Value.bool true,Value.bool true,Value.slice (af b off) len cap,Value.slice (af b off) len cap,Value.int .i64 (len:Int),Value.int .i64 (n:Int),undef,undef,undef,undef,undef,undef,undef,undef,undef,undef,undef,undef],defers:=[] }) (l':=#[true,true,true,true,true,true,true,true,false,false,false,false,false,false,false,false,false,false,false,false,false]) (by kernel_rfl) (by kernel_rfl) ?_
 refine wpAny_take (i:=8) (v:=Value.slice (af b (off+n)) 4 (cap-n)) rfl (by kernel_rfl) (by kernel_rfl) (by kernel_rfl) (fun _ _ _ h=>h) (Or.inl ⟨by kernel_rfl,fun w=>by go_simp <;> omega⟩) ?_
 refine wpAny_take (i:=10) (v:=Value.slice (af b off) len cap) rfl (by kernel_rfl) (by kernel_rfl) (by kernel_rfl) (fun _ _ _ h=>h) (Or.inl ⟨by kernel_rfl,fun w=>by go_simp <;> omega⟩) ?_
 refine wpAny_take (i:=11) (v:=Value.slice (af b off) len cap) rfl (by kernel_rfl) (by kernel_rfl) (by kernel_rfl) (fun _ _ _ h=>h) (Or.inl ⟨by kernel_rfl,fun w=>by go_simp <;> omega⟩) ?_
 refine wpAny_take (i:=12) (v:=Value.int .i64 (len:Int)) rfl (by kernel_rfl) (by kernel_rfl) (by kernel_rfl) (fun _ _ _ h=>h) (Or.inl ⟨by kernel_rfl,fun w=>by go_simp <;> omega⟩) ?_
 refine wpAny_take (i:=13) (v:=Value.int .i64 (n:Int)) rfl (by kernel_rfl) (by kernel_rfl) (by kernel_rfl) (fun _ _ _ h=>h) (Or.inl ⟨by kernel_rfl,fun w=>by go_simp <;> omega⟩) ?_
 refine wpAny_take (i:=14) (v:=Value.slice (af b off) n cap) rfl (by kernel_rfl) (by kernel_rfl) (by kernel_rfl) (fun _ _ _ h=>h) (Or.inl ⟨by kernel_rfl,fun w=>by go_simp <;> omega⟩) ?_
 refine bQ (a':={ tmps:=#[Value.slice (af b off) len cap,undef,Value.bool false,Value.slice (af b off) len cap,Value.int .i64 (len:Int),Value.bool true,Value.bool true,Value.slice (af b off) len cap,Value.slice (af b off) len cap,Value.int .i64 (len:Int),Value.int .i64 (n:Int),Value.slice (af b (off+n)) 4 (cap-n),undef,Value.slice (af b off) len cap,Value.slice (af b off) len cap,Value.int .i64 (len:Int),Value.int .i64 (n:Int),Value.slice (af b off) n cap,undef,undef,undef,undef,undef],defers:=[] }) (l':=#[true,true,true,true,true,true,true,true,true,false,true,true,true,true,true,false,false,false,false,false,false]) (by kernel_rfl) (by kernel_rfl) ?_
 refine jF (i:=9) (j:=15) (by kernel_rfl) ?_ ?_
 ·refine cA (i:=9) (.string A) w.drew rfl (by kernel_rfl) (by go_simp) ?_
  refine bQ (a':={ tmps:=#[Value.slice (af b off) len cap,undef,Value.bool false,Value.slice (af b off) len cap,Value.int .i64 (len:Int),Value.bool true,Value.bool true,Value.slice (af b off) len cap,Value.slice (af b off) len cap,Value.int .i64 (len:Int),Value.int .i64 (n:Int),Value.slice (af b (off+n)) 4 (cap-n),Value.string A,Value.slice (af b off) len cap,Value.slice (af b off) len cap,Value.int .i64 (len:Int),Value.int .i64 (n:Int),Value.slice (af b off) n cap,undef,undef,undef,undef,undef],defers:=[] }) (l':=#[true,true,true,true,true,true,true,true,true,true,true,true,true,true,true,false,false,false,false,false,false]) (by kernel_rfl) (by kernel_rfl) ?_
  refine ej (i:=15) (by kernel_rfl) ?_
  refine eR (i:=15) 90 #[.slice (af b off) n cap] rfl (by kernel_rfl) (by go_simp) ?_
  refine hS2.mono ?_
  rintro e w2 ⟨rfl,hb2⟩
  refine⟨_,rfl,?_⟩
  refine bQ (a':={ tmps:=#[Value.slice (af b off) len cap,undef,Value.bool false,Value.slice (af b off) len cap,Value.int .i64 (len:Int),Value.bool true,Value.bool true,Value.slice (af b off) len cap,Value.slice (af b off) len cap,Value.int .i64 (len:Int),Value.int .i64 (n:Int),Value.slice (af b (off+n)) 4 (cap-n),Value.string A,Value.slice (af b off) len cap,Value.slice (af b off) len cap,Value.int .i64 (len:Int),Value.int .i64 (n:Int),Value.slice (af b off) n cap,Value.int .u32 (k:Int),undef,undef,undef,undef],defers:=[] }) (l':=#[true,true,true,true,true,true,true,true,true,true,true,true,true,true,true,true,false,false,false,false,false]) (by kernel_rfl) (by kernel_rfl) ?_
  refine ej (i:=16) (by kernel_rfl) ?_
  refine eR (i:=16) 89 #[.int .u32 (k:Int)] rfl (by kernel_rfl) (by go_simp) ?_
  refine (hW w2 hb2).mono ?_
  rintro e w3 ⟨rfl,hb3,CU,hCU,hCUo⟩
  refine⟨_,rfl,?_⟩
  refine bQ (a':={ tmps:=#[Value.slice (af b off) len cap,undef,Value.bool false,Value.slice (af b off) len cap,Value.int .i64 (len:Int),Value.bool true,Value.bool true,Value.slice (af b off) len cap,Value.slice (af b off) len cap,Value.int .i64 (len:Int),Value.int .i64 (n:Int),Value.slice (af b (off+n)) 4 (cap-n),Value.string A,Value.slice (af b off) len cap,Value.slice (af b off) len cap,Value.int .i64 (len:Int),Value.int .i64 (n:Int),Value.slice (af b off) n cap,Value.int .u32 (k:Int),Value.slice (af w2.heap.size 0) 4 4,undef,undef,undef],defers:=[] }) (l':=#[true,true,true,true,true,true,true,true,true,true,true,true,true,true,true,true,true,false,false,false,false]) (by kernel_rfl) (by kernel_rfl) ?_
  refine ej (i:=17) (by kernel_rfl) ?_
  refine cA (i:=17) (.string B) w3 rfl (by kernel_rfl) (by go_simp) ?_
  refine bQ (a':={ tmps:=#[Value.slice (af b off) len cap,undef,Value.bool false,Value.slice (af b off) len cap,Value.int .i64 (len:Int),Value.bool true,Value.bool true,Value.slice (af b off) len cap,Value.slice (af b off) len cap,Value.int .i64 (len:Int),Value.int .i64 (n:Int),Value.slice (af b (off+n)) 4 (cap-n),Value.string A,Value.slice (af b off) len cap,Value.slice (af b off) len cap,Value.int .i64 (len:Int),Value.int .i64 (n:Int),Value.slice (af b off) n cap,Value.int .u32 (k:Int),Value.slice (af w2.heap.size 0) 4 4,Value.string B,undef,undef],defers:=[] }) (l':=#[true,true,true,true,true,true,true,true,true,true,true,true,true,true,true,true,true,true,false,false,false]) (by kernel_rfl) (by kernel_rfl) ?_
  refine wpAny_take (i:=18) (v:=Value.bool (A.toList == B.toList)) rfl (by kernel_rfl) (by kernel_rfl) (by kernel_rfl) (fun _ _ _ h=>h) (Or.inl ⟨by kernel_rfl,fun w=>by go_simp⟩) ?_
  refine wpAny_take (i:=19) (v:=Value.bool (A.toList == B.toList)) rfl (by kernel_rfl) (by kernel_rfl) (by kernel_rfl) (fun _ _ _ h=>h) (Or.inl ⟨by kernel_rfl,fun w=>by go_simp⟩) ?_
  refine wpAny_take (i:=20) (v:=Value.bool (A.toList == B.toList)) rfl (by kernel_rfl) (by kernel_rfl) (by kernel_rfl) (fun _ _ _ h=>h) (Or.inl ⟨by kernel_rfl,fun w=>by go_simp⟩) ?_
  refine wpAny_done (by kernel_rfl) ?_ _
  go_wp2
  go_ret
  exact⟨rfl,hb3⟩
 ·refine eR (i:=15) 90 #[.slice (af b off) n cap] rfl (by kernel_rfl) (by go_simp) ?_
  refine hS2.mono ?_
  rintro e w2 ⟨rfl,hb2⟩
  refine⟨_,rfl,?_⟩
  refine bQ (a':={ tmps:=#[Value.slice (af b off) len cap,undef,Value.bool false,Value.slice (af b off) len cap,Value.int .i64 (len:Int),Value.bool true,Value.bool true,Value.slice (af b off) len cap,Value.slice (af b off) len cap,Value.int .i64 (len:Int),Value.int .i64 (n:Int),Value.slice (af b (off+n)) 4 (cap-n),undef,Value.slice (af b off) len cap,Value.slice (af b off) len cap,Value.int .i64 (len:Int),Value.int .i64 (n:Int),Value.slice (af b off) n cap,Value.int .u32 (k:Int),undef,undef,undef,undef],defers:=[] }) (l':=#[true,true,true,true,true,true,true,true,true,false,true,true,true,true,true,true,false,false,false,false,false]) (by kernel_rfl) (by kernel_rfl) ?_
  refine jF (i:=9) (j:=16) (by kernel_rfl) ?_ ?_
  ·refine cA (i:=9) (.string A) w2 rfl (by kernel_rfl) (by go_simp) ?_
   refine bQ (a':={ tmps:=#[Value.slice (af b off) len cap,undef,Value.bool false,Value.slice (af b off) len cap,Value.int .i64 (len:Int),Value.bool true,Value.bool true,Value.slice (af b off) len cap,Value.slice (af b off) len cap,Value.int .i64 (len:Int),Value.int .i64 (n:Int),Value.slice (af b (off+n)) 4 (cap-n),Value.string A,Value.slice (af b off) len cap,Value.slice (af b off) len cap,Value.int .i64 (len:Int),Value.int .i64 (n:Int),Value.slice (af b off) n cap,Value.int .u32 (k:Int),undef,undef,undef,undef],defers:=[] }) (l':=#[true,true,true,true,true,true,true,true,true,true,true,true,true,true,true,true,false,false,false,false,false]) (by kernel_rfl) (by kernel_rfl) ?_
   refine ej (i:=16) (by kernel_rfl) ?_
   refine eR (i:=16) 89 #[.int .u32 (k:Int)] rfl (by kernel_rfl) (by go_simp) ?_
   refine (hW w2 hb2).mono ?_
   rintro e w3 ⟨rfl,hb3,CU,hCU,hCUo⟩
   refine⟨_,rfl,?_⟩
   refine bQ (a':={ tmps:=#[Value.slice (af b off) len cap,undef,Value.bool false,Value.slice (af b off) len cap,Value.int .i64 (len:Int),Value.bool true,Value.bool true,Value.slice (af b off) len cap,Value.slice (af b off) len cap,Value.int .i64 (len:Int),Value.int .i64 (n:Int),Value.slice (af b (off+n)) 4 (cap-n),Value.string A,Value.slice (af b off) len cap,Value.slice (af b off) len cap,Value.int .i64 (len:Int),Value.int .i64 (n:Int),Value.slice (af b off) n cap,Value.int .u32 (k:Int),Value.slice (af w2.heap.size 0) 4 4,undef,undef,undef],defers:=[] }) (l':=#[true,true,true,true,true,true,true,true,true,true,true,true,true,true,true,true,true,false,false,false,false]) (by kernel_rfl) (by kernel_rfl) ?_
   refine ej (i:=17) (by kernel_rfl) ?_
   refine cA (i:=17) (.string B) w3 rfl (by kernel_rfl) (by go_simp) ?_
   refine bQ (a':={ tmps:=#[Value.slice (af b off) len cap,undef,Value.bool false,Value.slice (af b off) len cap,Value.int .i64 (len:Int),Value.bool true,Value.bool true,Value.slice (af b off) len cap,Value.slice (af b off) len cap,Value.int .i64 (len:Int),Value.int .i64 (n:Int),Value.slice (af b (off+n)) 4 (cap-n),Value.string A,Value.slice (af b off) len cap,Value.slice (af b off) len cap,Value.int .i64 (len:Int),Value.int .i64 (n:Int),Value.slice (af b off) n cap,Value.int .u32 (k:Int),Value.slice (af w2.heap.size 0) 4 4,Value.string B,undef,undef],defers:=[] }) (l':=#[true,true,true,true,true,true,true,true,true,true,true,true,true,true,true,true,true,true,false,false,false]) (by kernel_rfl) (by kernel_rfl) ?_
   refine wpAny_take (i:=18) (v:=Value.bool (A.toList == B.toList)) rfl (by kernel_rfl) (by kernel_rfl) (by kernel_rfl) (fun _ _ _ h=>h) (Or.inl ⟨by kernel_rfl,fun w=>by go_simp⟩) ?_
   refine wpAny_take (i:=19) (v:=Value.bool (A.toList == B.toList)) rfl (by kernel_rfl) (by kernel_rfl) (by kernel_rfl) (fun _ _ _ h=>h) (Or.inl ⟨by kernel_rfl,fun w=>by go_simp⟩) ?_
   refine wpAny_take (i:=20) (v:=Value.bool (A.toList == B.toList)) rfl (by kernel_rfl) (by kernel_rfl) (by kernel_rfl) (fun _ _ _ h=>h) (Or.inl ⟨by kernel_rfl,fun w=>by go_simp⟩) ?_
   refine wpAny_done (by kernel_rfl) ?_ _
   go_wp2
   go_ret
   exact⟨rfl,hb3⟩
  ·refine eR (i:=16) 89 #[.int .u32 (k:Int)] rfl (by kernel_rfl) (by go_simp) ?_
   refine (hW w2 hb2).mono ?_
   rintro e w3 ⟨rfl,hb3,CU,hCU,hCUo⟩
   refine⟨_,rfl,?_⟩
   refine bQ (a':={ tmps:=#[Value.slice (af b off) len cap,undef,Value.bool false,Value.slice (af b off) len cap,Value.int .i64 (len:Int),Value.bool true,Value.bool true,Value.slice (af b off) len cap,Value.slice (af b off) len cap,Value.int .i64 (len:Int),Value.int .i64 (n:Int),Value.slice (af b (off+n)) 4 (cap-n),undef,Value.slice (af b off) len cap,Value.slice (af b off) len cap,Value.int .i64 (len:Int),Value.int .i64 (n:Int),Value.slice (af b off) n cap,Value.int .u32 (k:Int),Value.slice (af w2.heap.size 0) 4 4,undef,undef,undef],defers:=[] }) (l':=#[true,true,true,true,true,true,true,true,true,false,true,true,true,true,true,true,true,false,false,false,false]) (by kernel_rfl) (by kernel_rfl) ?_
   refine jF (i:=9) (j:=17) (by kernel_rfl) ?_ ?_
   ·refine cA (i:=9) (.string A) w3 rfl (by kernel_rfl) (by go_simp) ?_
    refine bQ (a':={ tmps:=#[Value.slice (af b off) len cap,undef,Value.bool false,Value.slice (af b off) len cap,Value.int .i64 (len:Int),Value.bool true,Value.bool true,Value.slice (af b off) len cap,Value.slice (af b off) len cap,Value.int .i64 (len:Int),Value.int .i64 (n:Int),Value.slice (af b (off+n)) 4 (cap-n),Value.string A,Value.slice (af b off) len cap,Value.slice (af b off) len cap,Value.int .i64 (len:Int),Value.int .i64 (n:Int),Value.slice (af b off) n cap,Value.int .u32 (k:Int),Value.slice (af w2.heap.size 0) 4 4,undef,undef,undef],defers:=[] }) (l':=#[true,true,true,true,true,true,true,true,true,true,true,true,true,true,true,true,true,false,false,false,false]) (by kernel_rfl) (by kernel_rfl) ?_
    refine ej (i:=17) (by kernel_rfl) ?_
    refine cA (i:=17) (.string B) w3 rfl (by kernel_rfl) (by go_simp) ?_
    refine bQ (a':={ tmps:=#[Value.slice (af b off) len cap,undef,Value.bool false,Value.slice (af b off) len cap,Value.int .i64 (len:Int),Value.bool true,Value.bool true,Value.slice (af b off) len cap,Value.slice (af b off) len cap,Value.int .i64 (len:Int),Value.int .i64 (n:Int),Value.slice (af b (off+n)) 4 (cap-n),Value.string A,Value.slice (af b off) len cap,Value.slice (af b off) len cap,Value.int .i64 (len:Int),Value.int .i64 (n:Int),Value.slice (af b off) n cap,Value.int .u32 (k:Int),Value.slice (af w2.heap.size 0) 4 4,Value.string B,undef,undef],defers:=[] }) (l':=#[true,true,true,true,true,true,true,true,true,true,true,true,true,true,true,true,true,true,false,false,false]) (by kernel_rfl) (by kernel_rfl) ?_
    refine wpAny_take (i:=18) (v:=Value.bool (A.toList == B.toList)) rfl (by kernel_rfl) (by kernel_rfl) (by kernel_rfl) (fun _ _ _ h=>h) (Or.inl ⟨by kernel_rfl,fun w=>by go_simp⟩) ?_
    refine wpAny_take (i:=19) (v:=Value.bool (A.toList == B.toList)) rfl (by kernel_rfl) (by kernel_rfl) (by kernel_rfl) (fun _ _ _ h=>h) (Or.inl ⟨by kernel_rfl,fun w=>by go_simp⟩) ?_
    refine wpAny_take (i:=20) (v:=Value.bool (A.toList == B.toList)) rfl (by kernel_rfl) (by kernel_rfl) (by kernel_rfl) (fun _ _ _ h=>h) (Or.inl ⟨by kernel_rfl,fun w=>by go_simp⟩) ?_
    refine wpAny_done (by kernel_rfl) ?_ _
    go_wp2
    go_ret
    exact⟨rfl,hb3⟩
   ·refine cA (i:=17) (.string B) w3 rfl (by kernel_rfl) (by go_simp) ?_
    refine bQ (a':={ tmps:=#[Value.slice (af b off) len cap,undef,Value.bool false,Value.slice (af b off) len cap,Value.int .i64 (len:Int),Value.bool true,Value.bool true,Value.slice (af b off) len cap,Value.slice (af b off) len cap,Value.int .i64 (len:Int),Value.int .i64 (n:Int),Value.slice (af b (off+n)) 4 (cap-n),undef,Value.slice (af b off) len cap,Value.slice (af b off) len cap,Value.int .i64 (len:Int),Value.int .i64 (n:Int),Value.slice (af b off) n cap,Value.int .u32 (k:Int),Value.slice (af w2.heap.size 0) 4 4,Value.string B,undef,undef],defers:=[] }) (l':=#[true,true,true,true,true,true,true,true,true,false,true,true,true,true,true,true,true,true,false,false,false]) (by kernel_rfl) (by kernel_rfl) ?_
    refine ej (i:=9) (by kernel_rfl) ?_
    refine cA (i:=9) (.string A) w3 rfl (by kernel_rfl) (by go_simp) ?_
    refine bQ (a':={ tmps:=#[Value.slice (af b off) len cap,undef,Value.bool false,Value.slice (af b off) len cap,Value.int .i64 (len:Int),Value.bool true,Value.bool true,Value.slice (af b off) len cap,Value.slice (af b off) len cap,Value.int .i64 (len:Int),Value.int .i64 (n:Int),Value.slice (af b (off+n)) 4 (cap-n),Value.string A,Value.slice (af b off) len cap,Value.slice (af b off) len cap,Value.int .i64 (len:Int),Value.int .i64 (n:Int),Value.slice (af b off) n cap,Value.int .u32 (k:Int),Value.slice (af w2.heap.size 0) 4 4,Value.string B,undef,undef],defers:=[] }) (l':=#[true,true,true,true,true,true,true,true,true,true,true,true,true,true,true,true,true,true,false,false,false]) (by kernel_rfl) (by kernel_rfl) ?_
    refine wpAny_take (i:=18) (v:=Value.bool (A.toList == B.toList)) rfl (by kernel_rfl) (by kernel_rfl) (by kernel_rfl) (fun _ _ _ h=>h) (Or.inl ⟨by kernel_rfl,fun w=>by go_simp⟩) ?_
    refine wpAny_take (i:=19) (v:=Value.bool (A.toList == B.toList)) rfl (by kernel_rfl) (by kernel_rfl) (by kernel_rfl) (fun _ _ _ h=>h) (Or.inl ⟨by kernel_rfl,fun w=>by go_simp⟩) ?_
    refine wpAny_take (i:=20) (v:=Value.bool (A.toList == B.toList)) rfl (by kernel_rfl) (by kernel_rfl) (by kernel_rfl) (fun _ _ _ h=>h) (Or.inl ⟨by kernel_rfl,fun w=>by go_simp⟩) ?_
    refine wpAny_done (by kernel_rfl) ?_ _
    go_wp2
    go_ret
    exact⟨rfl,hb3⟩
theorem nS (a:Option Addr) (len cap:Nat) (bs:Nat→Nat) (w:World) (hr:Row8 w a len cap bs) (hlen:len≤900000) :
  Calls prog 65 #[.slice a len cap] w fun e w'=>e=.returned (.bool (decide (4≤len∧PM.R PM.g 32 (PM.V (PM.fb bs) (8*len))=0)))∧Below w.heap.size w w':=by
 by_cases h:4≤len
 ·obtain⟨b,off,rfl,_,_⟩:=hr.plain (by omega)
  have:=lS b off len cap bs w h hr hlen
  simpa [h] using this
 ·refine (lk a len cap w (by omega)).mono ?_
  rintro e w' ⟨rfl,m,rfl⟩
  exact⟨by simp[h],below_drewN (Below.refl _ _) m⟩
def cF (n at_:Int) (x:Nat):Int:=if n<0∨65536<n then 2 else if x=0∨at_<0∨8*n<at_+PM.bl x then 30 else 0
theorem pO {n at_:Int} {x:Nat} (h:n<0∨65536<n):cF n at_ x=2:=by unfold cF;rw[if_pos h]
theorem pM {n at_:Int} {x:Nat} (h:¬ (n<0∨65536<n)) (h2:x=0∨at_<0∨8*n<at_+PM.bl x):cF n at_ x=30:=by unfold cF;rw[if_neg h,if_pos h2]
theorem vW {n at_:Int} {x:Nat} (h:¬ (n<0∨65536<n)) (h2:¬ (x=0∨at_<0∨8*n<at_+PM.bl x)):cF n at_ x=0:=by unfold cF;rw[if_neg h,if_neg h2]
theorem pN {n at_:Int} {x:Nat} (h:cF n at_ x≠0):(n<0∨65536<n)∨(¬ (n<0∨65536<n)∧(x=0∨at_<0∨8*n<at_+PM.bl x)):=by
 by_cases h1:n<0∨65536<n
 ·exact .inl h1
 ·by_cases h2:x=0∨at_<0∨8*n<at_+PM.bl x
  ·exact .inr ⟨h1,h2⟩
  ·exact absurd (vW h1 h2) h
def abA (B:Nat) (w':World) (n at_ x:Nat) (v:Value):Prop:=
 ∃ f,w'.ownsRow B 5 1 v n (CB f n)∧(∀ i,i<n→f i<256)∧∀ k,k<8*n→PM.fb f k=PM.ly at_ (PM.bl x) x (PM.bl x) k
theorem vT (n at_:Int) (x:Nat) (w:World) (hx:x<4294967296) (hn : -9223372036854775808≤n∧n<9223372036854775808) (ha : -9223372036854775808≤at_∧at_<9223372036854775808) (h:cF n at_ x≠0) :
  Calls prog 125 #[.int .i64 n,.int .i64 at_,.int .u32 x] w fun e w'=>e=.returned (.tuple #[.slice none 0 0,.int .i64 (cF n at_ x)])∧w'=w:=by
 have hL:=mw x w hx
 have hbl:=PM.bl_le (n:=x) (k:=32) (by omega)
 rcases pN h with h1 | ⟨h1,h2⟩
 ·rw[pO h1]
  clear h hL
  by_cases hn0:n<0
  ·go_enter func125,ntmps125
   go_wp2
   go_ret2
   exact⟨rfl,rfl⟩
  ·have hn1:65536<n:=by omega
   clear h1
   go_enter func125,ntmps125
   go_wp2
   go_ret2
   exact⟨rfl,rfl⟩
 ·rw[pM h1 h2]
  have hn0:0≤n:=by omega
  have hn1:n≤65536:=by omega
  clear h h1
  by_cases hx0:x=0
  ·subst hx0
   clear h2
   rw[PM.bl_zero]at hL
   go_enter func125,ntmps125
   go_wp2_with (go_at_call 149;refine hL.mono ?_;rintro e w' ⟨rfl,rfl⟩)
   go_ret2
   exact⟨rfl,rfl⟩
  ·have hxn:((x:Int) == 0)=false:=by simp;omega
   generalize PM.bl x=s at *
   by_cases ha0:at_<0
   ·clear h2
    go_enter func125,ntmps125
    go_wp2_with (go_at_call 149;refine hL.mono ?_;rintro e w' ⟨rfl,rfl⟩)
    go_ret2
    exact⟨rfl,rfl⟩
   ·have hg:8*n - (s:Int)<at_:=by omega
    clear h2
    go_enter func125,ntmps125
    go_wp2_with (go_at_call 149;refine hL.mono ?_;rintro e w' ⟨rfl,rfl⟩)
    go_ret2
    exact⟨rfl,rfl⟩
theorem acG (x k:Nat):bits .and .u8 ((x:Int) / 2 ^ k % 256) 1=((x.testBit k).toNat:Int):=by
 have e:(x:Int) / 2 ^ k=((x >>> k:Nat):Int):=by rw[Nat.shiftRight_eq_div_pow];simp
 have h:=u8_and_nat (x >>> k % 256) 1 (Nat.mod_lt _ (by omega)) (by omega)
 rw[nat_mask1,Nat.mod_mod_of_dvd _ (by decide),nW]at h
 rw[e,← h];rfl
theorem tT (n at_ x:Nat) (w:World) (hx:x<4294967296) (hx0:x≠0) (hn:n≤65536) (hfit:at_+PM.bl x≤8*n) :
  Calls prog 125 #[.int .i64 n,.int .i64 at_,.int .u32 x] w fun e w'=>∃ v,e=.returned (.tuple #[v,.int .i64 0])∧Hid (Below w.heap.size w w'∧abA w.heap.size w' n at_ x v):=by
 obtain⟨i0,hi,hz0,hz1,hz2⟩:=info_parts cq
 have hL:=mw x w hx
 have hbl:=PM.bl_le (n:=x) (k:=32) (by omega)
 have hbit:=fun k=>acG x k
 have hpos:0<PM.bl x:=by rw[PM.bl_pos hx0];omega
 have hxn:((x:Int) == 0)=false:=by simp;omega
 have hd1:decide ((8:Int) * (n:Int) - (PM.bl x:Int) < (at_:Int))=false:=by simp;omega
 unfold abA
 generalize PM.bl x=s at *
 go_enter func125,ntmps125
 go_wp2_with (first | (go_at_call 149;refine hL.mono ?_;rintro e w ⟨rfl,rfl⟩) | (at_make;refine bk _ rfl (.tmp 35) (.tmp 35) 37 rfl w.heap.size 5 i0 underlying37 hi hz0 hz1 hz2 _ _ _ _ n n rfl rfl rfl rfl (Nat.le_refl _) (by omega) (Nat.le_refl _) ?_))
 intro w1 hown1 hbel1
 clear hL
 go_wp2_with fail
 go_loopw [10,11,12,38] (fun _ _ _ c wr=>∃ i f,i≤s∧c=.int .i64 ((i:Nat):Int)∧wr.ownsRow w.heap.size 5 1 (.slice (af w.heap.size 0) n n) n (CB f n)∧(∀ i,i<n→f i<256)∧(∀ k,PM.fb f k=PM.ly at_ s x i k)∧Below w.heap.size w wr) (fun _ _ _ c _=>s - (intOf c).toNat)
 case atStart=>exact⟨0,fun _=>0,by omega,rfl,hown1,fun i _=>by show 0<256;omega,fun k=>by rw[PM.ly_zero];unfold PM.fb;exact Nat.zero_testBit _,hbel1⟩
 case round=>
  clear hown1 hbel1
  obtain⟨i,f,hi2,rfl,hown,hfb,hfV,hbel⟩:=hrel
  by_cases hlt:i<s
  ·have t1:=hbit (s-1-i)
   clear hbit
   obtain⟨k,hk⟩:∃ k,k=at_+i:=⟨_,rfl⟩
   have hk1:(at_:Int) + (i:Int)=(k:Int):=by omega
   obtain⟨q,hq⟩:∃ q,q=k / 8:=⟨_,rfl⟩
   obtain⟨m,hm⟩:∃ m,m=k % 8:=⟨_,rfl⟩
   have hq1:(k:Int) / 8=(q:Int):=by omega
   have hm1:(k:Int) % 8=(m:Int):=by omega
   have hq2:(k:Int).tdiv 8=(q:Int):=by rw[Int.tdiv_eq_ediv_of_nonneg (by omega)];exact hq1
   have hm2:(k:Int).tmod 8=(m:Int):=by rw[Int.tmod_eq_emod_of_nonneg (by omega)];exact hm1
   have hql:q<n:=by omega
   have hm8:m<8:=by omega
   have hcx:=hown.cellAt q (by omega)
   rw[aZ _ n _ hql]at hcx
   have hfx:=hown.frozenAt q
   have hfq:=hfb q hql
   have HV:Hid (∀ k,PM.fb f k=PM.ly at_ s x i k):=hfV
   have HO:Hid (_):=And.intro hown (And.intro hfb hbel)
   clear hfV hown hfb hbel
   have HS:Hid (∀ j,PM.ly at_ s x (i+1) j=(PM.ly at_ s x i j || (decide (j=at_+i) && x.testBit (s-1-i)))):=fun j=>PM.ly_succ at_ s x i j
   generalize x.testBit (s-1-i)=bb at *
   obtain⟨y1,hy1⟩:∃ y,y=bb.toNat:=⟨_,rfl⟩
   have hy2:y1≤1:=by rw[hy1];exact Bool.toNat_le bb
   rw[← hy1]at t1
   obtain⟨d,hd⟩:∃ d,d=7-m:=⟨_,rfl⟩
   have hd7:(7:Int) - (m:Int)=(d:Int):=by omega
   have hdl:d≤7:=by omega
   obtain⟨z,hz⟩:∃ z,z=y1*2 ^ d:=⟨_,rfl⟩
   have hzl:z<256:=by
    have h1:2 ^ d≤2 ^ 7:=Nat.pow_le_pow_right (by omega) hdl
    have h2:=Nat.mul_le_mul hy2 h1
    rw[hz];omega
   have hsh:(y1:Int)*2 ^ d % 256=(z:Int):=by
    have e:(y1:Int)*2 ^ d=(z:Int):=by rw[hz];simp
    rw[e];omega
   have hor:=u8_or_nat (f q) z hfq hzl
   obtain⟨y,hy⟩:∃ y,y=f q ||| z:=⟨_,rfl⟩
   rw[← hy]at hor
   have hol:∀ j,(if j=q then y else f j)=PM.ol f k bb j:=fun j=>by
    unfold PM.ol;rw[hy,hz,hq,hd,hm,hy1]
   have HO2:Hid ((wr.drew.setCell ⟨w.heap.size,q,none⟩ (.int .u8 ((y:Nat):Int))).ownsRow w.heap.size 5 1 (.slice (af w.heap.size 0) n n) n (CB (PM.ol f k bb) n)∧(∀ i,i<n→PM.ol f k bb i<256)∧(∀ j,PM.fb (PM.ol f k bb) j=PM.ly at_ s x (i+1) j)∧Below w.heap.size w (wr.drew.setCell ⟨w.heap.size,q,none⟩ (.int .u8 ((y:Nat):Int)))):=by
    refine⟨?_,PM.ol_lt HO.out.2.1 k bb (by omega),fun j=>?_,HO.out.2.2.drew.setCell (p:=⟨w.heap.size,q,none⟩) (Nat.le_refl _) _⟩
    ·have h:=((show wr.drew.ownsRow w.heap.size 5 1 (.slice (af w.heap.size 0) n n) n (CB f n) from HO.out.1).stored q (.int .u8 ((y:Nat):Int))).1
     rw[fN,dM _ (PM.ol f k bb) n (fun i _=>hol i)]at h
     exact h
    ·rw[PM.ol_fb,HV.out,HS.out,hk]
   clear hk hq hm hy1 hd hz hol HV HO HS hy hy2
   generalize f q=g at *
   go_wp2_with fail
   go_region
   all_goals (go_wp2_with fail;go_roundw)
   case rel=>exact⟨i+1,PM.ol f k bb,by omega,by go_num,HO2.out.1,HO2.out.2.1,HO2.out.2.2.1,HO2.out.2.2.2⟩
   case measure=>simp[intOf] <;> omega
  ·obtain rfl:i=s:=by omega
   have HO:Hid (_):=And.intro hbel (And.intro hown (And.intro hfb hfV))
   clear hbit hown hfb hfV hbel
   go_wp2
   go_ret2
   exact⟨_,rfl,HO.out.1,f,HO.out.2.1,HO.out.2.2.1,fun k _=>HO.out.2.2.2 k⟩
def xr (f g:Nat→Nat) (i:Nat):Nat:=f i ^^^ g i
theorem aaj {f g:Nat→Nat} {n:Nat} (hf:∀ i,i<n→f i<256) (hg:∀ i,i<n→g i<256):∀ i,i<n→xr f g i<256:=fun i hi=>PM.xor_lt8 (hf i hi) (hg i hi)
theorem ux (a0 a1:Option Addr) (n c0 c1:Nat) (f g:Nat→Nat) (w:World) (r0:Row8 w a0 n c0 f) (r1:Row8 w a1 n c1 g) (hn:n≤1000000) :
  Calls prog 126 #[.slice a0 n c0,.slice a1 n c1] w fun e w'=>∃ c,e=.returned (.tuple #[.slice (af w.heap.size 0) n c,.int .i64 0])∧Hid (Below w.heap.size w w'∧w'.ownsRow w.heap.size 5 1 (.slice (af w.heap.size 0) n c) n (CB (xr f g) n)):=by
 obtain⟨i0,hi,hz0,hz1,hz2⟩:=info_parts cq
 have hne:((n:Int) != (n:Int))=false:=by simp
 go_enter func126,ntmps126
 go_wp2_with (at_make;refine bk _ rfl (.tmp 15) (.tmp 15) 37 rfl w.heap.size 5 i0 underlying37 hi hz0 hz1 hz2 _ _ _ _ n n rfl rfl rfl rfl (Nat.le_refl _) (by omega) (Nat.le_refl _) ?_)
 intro w1 hown1 hbel1
 go_wp2_with fail
 go_loopw [7,8,19] (fun _ _ c wr=>∃ i h,i≤n∧c=.int .i64 ((i:Nat):Int)∧wr.ownsRow w.heap.size 5 1 (.slice (af w.heap.size 0) n n) n (CB h n)∧(∀ j,j<i→h j=xr f g j)∧Below w.heap.size w wr) (fun _ _ c _=>n - (intOf c).toNat)
 case atStart=>exact⟨0,fun _=>0,by omega,rfl,hown1,fun j hj=>by omega,hbel1⟩
 case round=>
  clear hown1 hbel1
  obtain⟨i,h,hi2,rfl,hown,hh,hbel⟩:=hrel
  by_cases hlt:i<n
  ·obtain⟨b0,o0,rfl,hb0,q0⟩:=r0.plain (by omega)
   obtain⟨b1,o1,rfl,hb1,q1⟩:=r1.plain (by omega)
   obtain⟨l0,s0⟩:=q0 i hlt
   obtain⟨l1,s1⟩:=q1 i hlt
   have d0:=(hbel.cell (p:=⟨b0,o0+i,none⟩) hb0).trans s0
   have d1:=(hbel.cell (p:=⟨b1,o1+i,none⟩) hb1).trans s1
   have hcx:=hown.cellAt i (by omega)
   rw[aZ _ n _ hlt]at hcx
   have hfx:=hown.frozenAt i
   have hX:=u8_xor_nat (f i) (g i) l0 l1
   have HO:Hid ((wr.setCell ⟨w.heap.size,i,none⟩ (.int .u8 ((f i ^^^ g i:Nat):Int))).ownsRow w.heap.size 5 1 (.slice (af w.heap.size 0) n n) n (CB (fun j=>if j=i then f i ^^^ g i else h j) n)∧(∀ j,j<i+1→(if j=i then f i ^^^ g i else h j)=xr f g j)∧Below w.heap.size w (wr.setCell ⟨w.heap.size,i,none⟩ (.int .u8 ((f i ^^^ g i:Nat):Int)))):=by
    refine⟨?_,fun j hj=>?_,hbel.setCell (p:=⟨w.heap.size,i,none⟩) (Nat.le_refl _) _⟩
    ·have h:=(hown.stored i (.int .u8 ((f i ^^^ g i:Nat):Int))).1
     rw[fN]at h
     exact h
    ·by_cases e:j=i
     ·rw[if_pos e,e];rfl
     ·rw[if_neg e];exact hh j (by omega)
   clear hown hh hbel r0 r1 q0 q1 s0 s1
   generalize f i ^^^ g i=y at *
   generalize f i=x0 at *
   generalize g i=x1 at *
   go_wp2
   go_roundw
   case rel=>exact⟨i+1,_,by omega,by go_num,HO.out.1,HO.out.2.1,HO.out.2.2⟩
   case measure=>simp[intOf] <;> omega
  ·obtain rfl:i=n:=by omega
   have HO:Hid (Below w.heap.size w wr∧wr.ownsRow w.heap.size 5 1 (.slice (af w.heap.size 0) i i) i (CB (xr f g) i)):=⟨hbel,by rw[← dM h (xr f g) i hh];exact hown⟩
   clear hown hh hbel r0 r1
   go_wp2
   go_ret2
   exact⟨i,rfl,HO⟩
section
variable {P:Program} {f:FuncId} {fn:Func}
theorem i4 (hf : P.funcs[f]? = some fn) (hname : (fn.name == "runtime.NumGoroutine") = false) (hb : fn.body.isNone = true) (hn : Extern.findNext fn = none)
  (he:Extern.find fn=some (Extern.Atomic.loadT .ptr)) {a:Addr} {p:Option Addr} {w:World} (hc:w.cell? a=some (.pointer p)) :
  (callFunc f #[.pointer (some a)]).run P w=.ok (.value (.pointer p)) w:=by
 rw[run_callFunc_extern hf hname hb hn he]
 change (Sem.run P (do Extern.Atomic.read .ptr (← asAddr (.pointer (some a)))) w).andThen _=_
 simp[Extern.Atomic.read,asAddr,hc,Result.andThen]
theorem gE (p:Option Addr) (w:World):(samePointer p p).run P w=.ok true w:=by
 cases p <;> simp[samePointer,sameAddr]
theorem jB (hf : P.funcs[f]? = some fn) (hname : (fn.name == "runtime.NumGoroutine") = false) (hb : fn.body.isNone = true) (hn : Extern.findNext fn = none)
  (he:Extern.find fn=some (Extern.Atomic.casT .ptr)) {a:Addr} {x y:Option Addr} {w:World} (hc:w.cell? a=some (.pointer x)) (hz:w.frozen? a=false) :
  (callFunc f #[.pointer (some a),.pointer x,.pointer y]).run P w=.ok (.value (.bool true)) (w.setCell a (.pointer y)):=by
 rw[run_callFunc_extern hf hname hb hn he]
 change (Sem.run P (do
  let a' ← asAddr (.pointer (some a))
  if ← Extern.Atomic.touchesFrozen a' then unsupported (.unsafePointer "a write to bytes that a string shares")
  let eq ← match Extern.Atomic.T.ptr,← Extern.Atomic.read .ptr a',Value.pointer x with
   | _,.int _ x,.int _ y=>pure (x == y)
   | .ptr,.pointer x,.pointer y=>samePointer x y
   | .int _,.pointer (some _),.int _ 0 | .int _,.int _ 0,.pointer (some _)=>pure false
   | .int _,.pointer (some _),_ | .int _,_,.pointer (some _)=>unsupported .addressObserved
   | _, _, _ => stuck "atomic.CompareAndSwap: old is no T"
  if eq then store a' (.pointer y) .atomic
  pure (Value.bool eq)) w).andThen _=_
 simp[Extern.Atomic.touchesFrozen,Extern.Atomic.read,asAddr,viewAt,World.shape?_isSome_of_cell? hc,hc,hz,gE,run_store P w a (.pointer y) .atomic rfl,Result.andThen]
end
theorem xl (a:Addr) (d:Int) (w:World) (h0:w.cell? a=some (.int .u64 d)) :
  Calls prog 160 #[.pointer (some a)] w fun e w'=>e=.returned (.int .u64 d)∧w'=w:=by
 have hl:=run_call_load (P:=prog) func196 (by kernel_rfl) (by kernel_rfl) (by kernel_rfl) .u64 (by kernel_rfl) h0
 go_enter func160,ntmps160
 go_wp2
 go_ret
 exact⟨rfl,rfl⟩
theorem zC (a:Addr) (x y:Int) (w:World) (h0:w.cell? a=some (.int .u64 x)) (hz:w.frozen? a=false) :
  Calls prog 162 #[.pointer (some a),.int .u64 x,.int .u64 y] w fun e w'=>e=.returned (.bool true)∧w'=w.setCell a (.int .u64 y):=by
 have hl:=run_call_cas_hit (P:=prog) func197 (by kernel_rfl) (by kernel_rfl) (by kernel_rfl) .u64 (by kernel_rfl) (y:=y) h0 hz
 go_enter func162,ntmps162
 go_wp2
 go_ret
 exact⟨rfl,rfl⟩
theorem pG (a:Addr) (d:Int) (w:World) (h0:w.cell? a=some (.int .i64 d)) :
  Calls prog 86 #[.pointer (some a)] w fun e w'=>e=.returned (.int .i64 d)∧w'=w:=by
 have hl:=run_call_load (P:=prog) func115 (by kernel_rfl) (by kernel_rfl) (by kernel_rfl) .i64 (by kernel_rfl) h0
 go_enter func86,ntmps86
 go_wp2
 go_ret
 exact⟨rfl,rfl⟩
theorem yA (a:Addr) (x y:Int) (w:World) (h0:w.cell? a=some (.int .i64 x)) (hz:w.frozen? a=false) :
  Calls prog 263 #[.pointer (some a),.int .i64 x,.int .i64 y] w fun e w'=>e=.returned (.bool true)∧w'=w.setCell a (.int .i64 y):=by
 have hl:=run_call_cas_hit (P:=prog) func264 (by kernel_rfl) (by kernel_rfl) (by kernel_rfl) .i64 (by kernel_rfl) (y:=y) h0 hz
 go_enter func263,ntmps263
 go_wp2
 go_ret
 exact⟨rfl,rfl⟩
theorem tS (a:Addr) (x y:Int) (w:World) (h0:w.cell? a=some (.int .i64 x)) (hz:w.frozen? a=false) :
  Calls prog 223 #[.pointer (some a),.int .i64 y] w fun e w'=>e=.returned (.tuple #[])∧w'=w.setCell a (.int .i64 y):=by
 have hl:=run_call_store (P:=prog) func234 (by kernel_rfl) (by kernel_rfl) (by kernel_rfl) (by kernel_rfl) (k:=.i64) (y:=y) h0 hz
 go_enter func223,ntmps223
 go_wp2
 go_end0
 exact⟨rfl,rfl⟩
theorem jA (a:Addr) (p:Option Addr) (w:World) (h0:w.cell? a=some (.pointer p)) (hcv:(convert 167 165 (.pointer p)).run prog w=.ok (.pointer p) w) :
  Calls prog 163 #[.pointer (some a)] w fun e w'=>e=.returned (.pointer p)∧w'=w:=by
 have hl:=i4 (P:=prog) func198 (by kernel_rfl) (by kernel_rfl) (by kernel_rfl) (by kernel_rfl) h0
 go_enter func163,ntmps163
 go_wp2
 go_ret
 exact⟨rfl,rfl⟩
theorem p9 (a:Addr) (p q:Option Addr) (w:World) (h0:w.cell? a=some (.pointer p)) (hz:w.frozen? a=false) (hcp:(convert 165 167 (.pointer p)).run prog w=.ok (.pointer p) w)
  (hcq:(convert 165 167 (.pointer q)).run prog w=.ok (.pointer q) w) :
  Calls prog 164 #[.pointer (some a),.pointer p,.pointer q] w fun e w'=>e=.returned (.bool true)∧w'=w.setCell a (.pointer q):=by
 have hl:=jB (P:=prog) func199 (by kernel_rfl) (by kernel_rfl) (by kernel_rfl) (by kernel_rfl) (y:=q) h0 hz
 go_enter func164,ntmps164
 go_wp2
 go_ret
 exact⟨rfl,rfl⟩
end Go.Proofs.YtenilkloffnjlaaGreat
namespace Go.Proofs.YtenilkloffnjlaaGreat
open Tryz
open Go.RowKit
structure Off (l:List Nat) (w w':World):Prop where
 os:w'.os=w.os
 tape:w'.tape=w.tape
 output:w'.output=w.output
 size:w.heap.size≤w'.heap.size
 block:∀ k,k<w.heap.size→k ∉ l→w'.heap[k]?=w.heap[k]?
theorem Off.refl (l:List Nat) (w:World):Off l w w:=⟨rfl,rfl,rfl,Nat.le_refl _,fun _ _ _=>rfl⟩
theorem Off.trans {l:List Nat} {u v w:World} (h:Off l u v) (k:Off l v w):Off l u w:=
 ⟨k.os.trans h.os,k.tape.trans h.tape,k.output.trans h.output,Nat.le_trans h.size k.size,fun i hi hb=>(k.block i (Nat.lt_of_lt_of_le hi h.size) hb).trans (h.block i hi hb)⟩
theorem Off.of_below {l:List Nat} {w w':World} (h:Below w.heap.size w w'):Off l w w':=⟨h.os,h.tape,h.output,h.size,fun k hk _=>h.block k hk⟩
theorem Off.more {l m:List Nat} {w w':World} (h:Off l w w') (hs:∀ k,k ∈ l→k ∈ m):Off m w w':=⟨h.os,h.tape,h.output,h.size,fun k hk hb=>h.block k hk fun hm=>hb (hs k hm)⟩
theorem Off.only {l m:List Nat} {w w':World} (h:Off l w w') (hs:∀ k,k ∈ l→k<w.heap.size→k ∈ m):Off m w w':=⟨h.os,h.tape,h.output,h.size,fun k hk hb=>h.block k hk fun hm=>hb (hs k hm hk)⟩
theorem Off.setCell (b i:Nat) (w:World) (v:Value):Off [b] w (w.setCell ⟨b,i,none⟩ v):=⟨rfl,rfl,rfl,by simp[World.setCell],fun k _ hb=>heap_setCell_other w _ k v (by simpa using hb)⟩
theorem Off.alloc (l:List Nat) (w:World) (o:Obj):Off l w (w.alloc o):=Off.of_below ((Below.refl _ _).alloc (Nat.le_refl _) _)
theorem Off.drew (l:List Nat) (w:World):Off l w w.drew:=⟨rfl,rfl,rfl,Nat.le_refl _,fun _ _ _=>rfl⟩
theorem Off.drewN (l:List Nat) (w:World) (n:Nat):Off l w (w.drewN n):=⟨rfl,rfl,rfl,Nat.le_refl _,fun _ _ _=>rfl⟩
theorem Off.below {l:List Nat} {B:Nat} {w0 w w':World} (h:Off l w w') (hb:Below B w0 w) (hB:∀ k,k ∈ l→B≤k) (hs:B≤w.heap.size):Below B w0 w':=
 hb.trans ⟨h.os,h.tape,h.output,h.size,fun k hk=>h.block k (by omega) (fun hm=>by have:=hB k hm;omega)⟩
def uG (t:Int) (p:Option Addr) (f:Int) (o:Int) (r:Option Addr):Array Value:=#[.int .u64 t,.pointer p,.int .u32 f,.int .u32 o,.pointer r]
structure Met (w:World) (b:Nat) (t:Int) (p:Option Addr) (f:Int) (o:Int) (r:Option Addr):Prop where
 at_:w.heap[b]?=some (.cells (uG t p f o r) 178 (0,0))
theorem Met.lt {w:World} {b:Nat} {t f o:Int} {p r:Option Addr} (h:Met w b t p f o r):b<w.heap.size:=(Array.getElem?_eq_some_iff.1 h.at_).1
theorem Met.c0 {w:World} {b:Nat} {t f o:Int} {p r:Option Addr} (h:Met w b t p f o r):w.cell? ⟨b,0,none⟩=some (.int .u64 t):=ae w b 0 _ _ _ h.at_
theorem Met.c1 {w:World} {b:Nat} {t f o:Int} {p r:Option Addr} (h:Met w b t p f o r):w.cell? ⟨b,1,none⟩=some (.pointer p):=ae w b 1 _ _ _ h.at_
theorem Met.fz {w:World} {b:Nat} {t f o:Int} {p r:Option Addr} (h:Met w b t p f o r) (j:Nat):w.frozen? ⟨b,j,none⟩=false:=frozen_of_row w b j _ _ h.at_
theorem Met.off {l:List Nat} {w w':World} {b:Nat} {t f o:Int} {p r:Option Addr} (h:Met w b t p f o r) (k:Off l w w') (hb:b ∉ l):Met w' b t p f o r:=⟨(k.block b h.lt hb).trans h.at_⟩
theorem Met.s0 {w:World} {b:Nat} {t f o:Int} {p r:Option Addr} (h:Met w b t p f o r) (t':Int):Met (w.setCell ⟨b,0,none⟩ (.int .u64 t')) b t' p f o r:=⟨heap_setCell_same _ _ _ _ _ _ h.at_⟩
theorem Met.s1 {w:World} {b:Nat} {t f o:Int} {p r:Option Addr} (h:Met w b t p f o r) (p':Option Addr):Met (w.setCell ⟨b,1,none⟩ (.pointer p')) b t p' f o r:=⟨heap_setCell_same _ _ _ _ _ _ h.at_⟩
inductive Pk (M:Nat) (w:World):Option Addr→Option Int→Prop where
 | none:Pk M w none none
 | some (c:Nat) (v:Int) (h:M≤c) (hc:w.heap[c]?=some (.cells #[.int .i64 v] 2 (0,0))):Pk M w (some ⟨c,0,Option.none⟩) (some v)
def rO (a b:Nat):Nat:=if 18446744073709551615-a<b then 18446744073709551615 else a+b
theorem nH (w:World) :
  Calls prog 42 #[] w fun e w'=>e=.returned (ac w.heap.size 0)∧w'=w.alloc (.cells (uG 0 none 0 0 none) 178):=by
 go_enter func42,ntmps42
 go_wp2
 go_ret
 exact⟨rfl,rfl⟩
theorem nI (w:World):Met (w.alloc (.cells (uG 0 none 0 0 none) 178)) w.heap.size 0 none 0 0 none:=⟨aB w _⟩
theorem ur (a b:Nat) (w:World) (ha:a<18446744073709551616) (hb:b<18446744073709551616) :
  Calls prog 161 #[.int .u64 a,.int .u64 b] w fun e w'=>e=.returned (.int .u64 (rO a b:Nat))∧w'=w:=by
 have h1:IntKind.u64.wrap (18446744073709551615 - (a:Int))=((18446744073709551615-a:Nat):Int):=by rw[IntKind.wrap_u64];omega
 by_cases hc:18446744073709551615-a<b
 ·have e:rO a b=18446744073709551615:=by unfold rO;rw[if_pos hc]
  rw[e]
  go_enter func161,ntmps161
  go_wp2
  go_ret
  exact⟨rfl,rfl⟩
 ·have e:rO a b=a+b:=by unfold rO;rw[if_neg hc]
  rw[e]
  have h2:IntKind.u64.wrap ((a:Int) + (b:Int))=((a+b:Nat):Int):=by rw[IntKind.wrap_u64];omega
  go_enter func161,ntmps161
  go_wp2
  go_ret
  refine⟨?_,rfl⟩
  first | rfl | (rw[h2]) | simp_all
theorem nc (t n b:Nat) (p r:Option Addr) (f o:Int) (w:World) (ht:t<18446744073709551616) (hn:n<18446744073709551616) (h:Met w b t p f o r) :
  Calls prog 135 #[ac b 0,.int .u64 n] w fun e w'=>e=.returned (.tuple #[.int .u64 (rO t n:Nat),.int .i64 0])∧w'=w.setCell ⟨b,0,none⟩ (.int .u64 (rO t n:Nat)):=by
 have h0:=h.c0
 have hz:=h.fz 0
 have hl:=xl _ _ w h0
 have hs:=ur t n w ht hn
 have hc:=zC ⟨b,0,none⟩ t (rO t n:Nat) w h0 hz
 generalize rO t n=s at *
 go_enter func135,ntmps135
 go_wp2_with fail
 refine wp_loop_once ?_
 go_wp2_with (first | (go_at_call 160;refine hl.mono ?_;rintro e w' ⟨rfl,rfl⟩) | (go_at_call 161;refine hs.mono ?_;rintro e w' ⟨rfl,rfl⟩) | (go_at_call 162;refine hc.mono ?_;rintro e w' ⟨rfl,rfl⟩))
 go_ret2
 exact⟨rfl,rfl⟩
theorem nV (w:World) (c:Nat) (cs:Array Value) (t:TypeId) (fr:Nat × Nat) (h:w.heap[c]?=some (.cells cs t fr)):w.shape? c=some (t,cs.size):=by
 simp[World.shape?,h]
theorem uU (w:World):(convert 167 165 (.pointer none)).run prog w=.ok (.pointer none) w:=by kernel_rfl
theorem tq (w:World):(convert 165 167 (.pointer none)).run prog w=.ok (.pointer none) w:=by kernel_rfl
theorem oQ (c:Nat) (v:Value) (w:World) (hc:w.heap[c]?=some (.cells #[v] 2 (0,0))):(convert 167 165 (ac c 0)).run prog w=.ok (ac c 0) w:=
 Lib.run_from_unsafe (u:=2) (j:=(prog.info? 2).get!) w ⟨c,0,none⟩ (by kernel_rfl) (by kernel_rfl) (by kernel_rfl) (nV w c _ _ _ hc) (by kernel_rfl)
theorem qS (c:Nat) (v:Value) (w:World) (hc:w.heap[c]?=some (.cells #[v] 2 (0,0))):(convert 165 167 (ac c 0)).run prog w=.ok (ac c 0) w:=
 run_convert_to_unsafe (t:=2) (by kernel_rfl) (by kernel_rfl) (by kernel_rfl) (ae w c 0 _ _ _ hc)
theorem qg (t:Int) (b:Nat) (r:Option Addr) (f o v:Int) (w:World) (h:Met w b t none f o r) :
  Calls prog 136 #[ac b 0,.int .i64 v] w fun e w'=>e=.returned (.bool true)∧∃ n,w'=((w.alloc (.cells #[.int .i64 v] 2)).drewN n).setCell ⟨b,1,none⟩ (ac w.heap.size 0):=by
 have h1:Met (w.alloc (.cells #[.int .i64 v] 2)) b t none f o r:=h.off (Off.alloc [] w _) (by simp)
 have hl:=jA _ _ _ h1.c1 (uU _)
 have hc:∀ n,_:=fun n=>p9 ⟨b,1,none⟩ none (af w.heap.size 0) ((w.alloc (.cells #[.int .i64 v] 2)).drewN n) h1.c1 (h1.fz 1) (tq _) (qS w.heap.size (.int .i64 v) _ (aB w _))
 clear h1 h
 go_enter func136,ntmps136
 go_wp2_with fail
 refine wp_loop_once ?_
 go_wp2_with (go_at_call 163;refine hl.mono ?_;rintro e w' ⟨rfl,rfl⟩)
 go_quiet (fail)
 go_wp2_with (go_at_call 164;refine (hc nq).mono ?_;rintro e w' ⟨rfl,rfl⟩)
 go_ret
 exact⟨rfl,_,rfl⟩
theorem wL (t:Int) (b c:Nat) (r:Option Addr) (f o x v:Int) (w:World) (h:Met w b t (af c 0) f o r) (hc:w.heap[c]?=some (.cells #[.int .i64 x] 2 (0,0))) (hlt:x<v) :
  Calls prog 136 #[ac b 0,.int .i64 v] w fun e w'=>e=.returned (.bool true)∧∃ n,w'=((w.alloc (.cells #[.int .i64 v] 2)).drewN n).setCell ⟨b,1,none⟩ (ac w.heap.size 0):=by
 have h1:Met (w.alloc (.cells #[.int .i64 v] 2)) b t (af c 0) f o r:=h.off (Off.alloc [] w _) (by simp)
 have hc1:(w.alloc (.cells #[.int .i64 v] 2)).heap[c]?=some (.cells #[.int .i64 x] 2 (0,0)):=(heap_alloc_old w _ (Array.getElem?_eq_some_iff.1 hc).1).trans hc
 have hl:=jA _ _ _ h1.c1 (oQ c _ _ hc1)
 have hcs:∀ n,_:=fun n=>p9 ⟨b,1,none⟩ (af c 0) (af w.heap.size 0) ((w.alloc (.cells #[.int .i64 v] 2)).drewN n) h1.c1 (h1.fz 1) (qS c _ _ hc1) (qS w.heap.size (.int .i64 v) _ (aB w _))
 have hcell:=ae _ c 0 _ _ _ hc1
 simp at hcell
 have hle:¬ v≤x:=by omega
 clear h1 h hc hc1
 go_enter func136,ntmps136
 go_wp2_with fail
 refine wp_loop_once ?_
 go_wp2_with (go_at_call 163;refine hl.mono ?_;rintro e w' ⟨rfl,rfl⟩)
 go_quiet (fail)
 go_wp2_with (go_at_call 164;refine (hcs nq).mono ?_;rintro e w' ⟨rfl,rfl⟩)
 go_ret
 exact⟨rfl,_,rfl⟩
theorem wK (t:Int) (b c:Nat) (r:Option Addr) (f o x v:Int) (w:World) (h:Met w b t (af c 0) f o r) (hc:w.heap[c]?=some (.cells #[.int .i64 x] 2 (0,0))) (hle:v≤x) :
  Calls prog 136 #[ac b 0,.int .i64 v] w fun e w'=>e=.returned (.bool false)∧∃ n,w'=(w.alloc (.cells #[.int .i64 v] 2)).drewN n:=by
 have h1:Met (w.alloc (.cells #[.int .i64 v] 2)) b t (af c 0) f o r:=h.off (Off.alloc [] w _) (by simp)
 have hc1:(w.alloc (.cells #[.int .i64 v] 2)).heap[c]?=some (.cells #[.int .i64 x] 2 (0,0)):=(heap_alloc_old w _ (Array.getElem?_eq_some_iff.1 hc).1).trans hc
 have hl:=jA _ _ _ h1.c1 (oQ c _ _ hc1)
 have hcell:=ae _ c 0 _ _ _ hc1
 simp at hcell
 clear h1 h hc hc1
 go_enter func136,ntmps136
 go_wp2_with fail
 refine wp_loop_once ?_
 go_wp2_with (go_at_call 163;refine hl.mono ?_;rintro e w' ⟨rfl,rfl⟩)
 go_quiet (fail)
 go_wp2_with fail
 go_ret
 exact⟨rfl,_,rfl⟩
open Go.RowKit Go.Maps
abbrev gm:=Nat × (Nat→Nat)
def gf (L:List gm):Nat:=L.foldl (fun n f=>n+f.1) 0
def rF (L:List gm):Option Int:=L.foldl (fun q f=>if q.all (fun x=>decide (x < (f.1:Int))) then some (f.1:Int) else q) none
theorem xi (L:List gm) (f:gm):gf (L ++ [f])=gf L+f.1:=by simp[gf]
theorem yV (L:List gm) (f:gm):rF (L ++ [f])=if (rF L).all (fun x=>decide (x < (f.1:Int))) then some (f.1:Int) else rF L:=by unfold rF;rw[List.foldl_append];rfl
theorem zz {L:List gm} (h:∀ f,f ∈ L→f.1≤27):gf L≤27*L.length:=by
 have key:∀ (M:List gm) (n:Nat),(∀ f,f ∈ M→f.1≤27)→M.foldl (fun n f=>n+f.1) n≤n+27*M.length:=by
  intro M
  induction M with
  | nil=>intro n _;simp
  | cons f M ih=>
   intro n hM
   have h1:=hM f (List.mem_cons_self ..)
   have h2:=ih (n+f.1) (fun g hg=>hM g (List.mem_cons_of_mem _ hg))
   simp only[List.foldl_cons,List.length_cons]
   omega
 have:=key L 0 h
 unfold gf
 omega
theorem gC {w w':World} {B e s n:Nat} {v:Value} {xs:List Value} (h:w.ownsRow B e s v n xs) (hk:∀ g,v.ownBlock=some g→w'.heap[g]?=w.heap[g]?):w'.ownsRow B e s v n xs:=by
 obtain⟨h0,h1 | ⟨g,cap,cur,rfl,hg,hgg,rest⟩⟩:=h
 ·exact⟨h0,.inl h1⟩
 ·exact⟨h0,.inr ⟨g,cap,cur,rfl,hg,(hk g rfl).trans hgg,rest⟩⟩
theorem aT {w:World} {B e s n:Nat} {v:Value} {xs:List Value} (h:w.ownsRow B e s v n xs) {g:Nat} (hg:v.ownBlock=some g):∃ c,w.heap[g]?=some (.cells c e (0,0)):=by
 obtain⟨h0,⟨rfl,_⟩ | ⟨g',cap,cur,rfl,_,hgg,rest⟩⟩:=h
 ·cases hg
 ·simp only[Value.ownBlock,Option.some.injEq]at hg
  subst hg
  exact⟨cur,hgg⟩
theorem mD {w:World} {B e size n:Nat} {v:Value} {xs:List Value} (h:w.ownsRow B e size v (n+1) xs):∃ g cap,v=.slice (af g 0) (n+1) cap∧B≤g∧g<w.heap.size:=by
 rcases h.2 with ⟨_,hn⟩ | ⟨g,cap,cur,rfl,hg,hgg,rest⟩
 ·omega
 ·exact⟨g,cap,rfl,hg,(Array.getElem?_eq_some_iff.1 hgg).1⟩
theorem cy {w:World} {B e s n:Nat} {v:Value} {xs:List Value} (h:w.ownsRow B e s v n xs):∃ a cap,v=.slice a n cap:=by
 obtain⟨h0,⟨rfl,rfl⟩ | ⟨g',cap,cur,rfl,rest⟩⟩:=h
 ·exact⟨_,_,rfl⟩
 ·exact⟨_,_,rfl⟩
theorem ey {w:World} {k j:Nat} {c c':Array Value} {e e':TypeId} {f f':Nat × Nat} (h:w.heap[k]?=some (.cells c e f)) (h':w.heap[j]?=some (.cells c' e' f')) (ne:e≠e'):k≠j:=by
 rintro rfl
 rw[h]at h'
 simp only[Option.some.injEq,Obj.cells.injEq]at h'
 exact ne h'.2.1
structure Fl (B:Nat) (w:World) (v:Value) (vs:List Value) (L:List gm):Prop where
 rows:w.ownsRow B 37 1 v L.length vs
 frs:∀ (i:Nat) (f:gm),L[i]?=some f→∃ x,vs[i]?=some x∧w.ownsRow B 5 1 x f.1 (CB f.2 f.1)
 small:∀ (f:gm),f ∈ L→f.1≤27∧∀ i,i<f.1→f.2 i<256
 len:L.length≤4096
theorem Fl.keep {B:Nat} {w w':World} {v:Value} {vs:List Value} {L:List gm} (h:Fl B w v vs L) {l:List Nat} (k:Off l w w') (hl:∀ x,x ∈ l→x<w.heap.size→v.ownBlock≠some x∧∀ c f,w.heap[x]? ≠ some (.cells c 5 f)):Fl B w' v vs L:=by
 have kk:∀ {e:TypeId} {s n:Nat} {x:Value} {xs:List Value},w.ownsRow B e s x n xs→(∀ g,x.ownBlock=some g→g ∉ l)→w'.ownsRow B e s x n xs:=by
  intro e s n x xs ho hg
  refine gC ho fun g eg=>?_
  obtain⟨c,hc⟩:=aT ho eg
  exact k.block g (Array.getElem?_eq_some_iff.1 hc).1 (hg g eg)
 refine⟨kk h.rows fun g eg hm=>?_,fun i f hi=>?_,h.small,h.len⟩
 ·obtain⟨c,hc⟩:=aT h.rows eg
  exact (hl g hm (Array.getElem?_eq_some_iff.1 hc).1).1 eg
 ·obtain⟨x,hx,ho⟩:=h.frs i f hi
  refine⟨x,hx,kk ho fun g eg hm=>?_⟩
  obtain⟨c,hc⟩:=aT ho eg
  exact (hl g hm (Array.getElem?_eq_some_iff.1 hc).1).2 _ _ hc
theorem Fl.below {B:Nat} {w w':World} {v:Value} {vs:List Value} {L:List gm} (h:Fl B w v vs L) (k:Below w.heap.size w w'):Fl B w' v vs L:=h.keep (l:=[]) (Off.of_below k) (fun x hx=>by cases hx)
theorem Fl.more {B:Nat} {w wx wy:World} {v v':Value} {vs:List Value} {L:List gm} {x:Value} {n:Nat} {bs:Nat→Nat} (h:Fl B w v vs L) (hx:Below w.heap.size w wx) (ho:wx.ownsRow B 5 1 x n (CB bs n)) (h27:n≤27) (hb:∀ i,i<n→bs i<256) (hn:L.length<4096)
  (hr:wy.ownsRow B 37 1 v' (L.length+1) (vs ++ [x])) (hg:wx.grownBy wy v.ownBlock):Fl B wy v' (vs ++ [x]) (L ++ [(n,bs)]):=by
 have hvl:vs.length=L.length:=by have:=h.rows.1;omega
 have kk:∀ {n:Nat} {y:Value} {xs:List Value},wx.ownsRow B 5 1 y n xs→wy.ownsRow B 5 1 y n xs:=by
  intro n y xs hy
  refine gC hy fun g eg=>?_
  obtain⟨c,hc⟩:=aT hy eg
  refine hg.block g (Array.getElem?_eq_some_iff.1 hc).1 fun e=>?_
  obtain⟨c',hc'⟩:=aT (h.below hx).rows e.symm
  exact ey hc hc' (by decide) rfl
 refine⟨by simpa using hr,fun i f hi=>?_,fun f hf=>?_,by simp;omega⟩
 ·by_cases hlt:i<L.length
  ·rw[List.getElem?_append_left hlt]at hi
   obtain⟨y,hy,hoy⟩:=(h.below hx).frs i f hi
   exact⟨y,by rw[List.getElem?_append_left (by omega)];exact hy,kk hoy⟩
  ·have hi':=(List.getElem?_eq_some_iff.1 hi).1
   simp only[List.length_append,List.length_cons,List.length_nil]at hi'
   obtain rfl:i=L.length:=by omega
   simp only[List.getElem?_append_right (Nat.le_refl _),Nat.sub_self,List.getElem?_cons_zero,Option.some.injEq]at hi
   subst hi
   refine⟨x,?_,kk ho⟩
   rw[← hvl,List.getElem?_append_right (Nat.le_refl _),Nat.sub_self]
   rfl
 ·rcases List.mem_append.1 hf with hf | hf
  ·exact h.small f hf
  ·simp only[List.mem_singleton]at hf
   subst hf
   exact⟨h27,hb⟩
theorem Fl.at_ {B:Nat} {w:World} {v:Value} {vs:List Value} {L:List gm} (h:Fl B w v vs L) {i:Nat} {f:gm} (hi:L[i]?=some f):∃ a cap,vs[i]?=some (.slice a f.1 cap)∧Row8 w a f.1 cap f.2:=by
 obtain⟨x,hx,ho⟩:=h.frs i f hi
 have hm:f ∈ L:=List.mem_of_getElem? hi
 obtain⟨a,cap,rfl,R⟩:=aY ho (h.small f hm).2
 exact⟨a,cap,hx,R⟩
structure Bg (B:Nat) (w:World) (b m:Nat) (v:Value) (vs:List Value) (p:Option Addr) (L:List gm):Prop where
 at_:w.heap[b]?=some (.cells #[v,ac m 0] 110 (0,0))
 fl:Fl B w v vs L
 met:Met w m (gf L:Nat) p 0 0 none
 pk:Pk 0 w p (rF L)
 bB:B≤b
 mB:B≤m
theorem Bg.lt {B:Nat} {w:World} {b m:Nat} {v:Value} {vs:List Value} {p:Option Addr} {L:List gm} (h:Bg B w b m v vs p L):b<w.heap.size:=(Array.getElem?_eq_some_iff.1 h.at_).1
theorem Bg.off {B:Nat} {w w':World} {b m:Nat} {v:Value} {vs:List Value} {p:Option Addr} {L:List gm} (h:Bg B w b m v vs p L) {l:List Nat} (k:Off l w w') (hl:∀ x,x ∈ l→x<w.heap.size→x≠b∧x≠m∧v.ownBlock≠some x∧∀ c f,w.heap[x]? ≠ some (.cells c 5 f)∧w.heap[x]? ≠ some (.cells c 2 f)):Bg B w' b m v vs p L:=by
 refine⟨(k.block b h.lt fun hm=>(hl b hm h.lt).1 rfl).trans h.at_,h.fl.keep k fun x hx hs=>⟨(hl x hx hs).2.2.1,fun c f=>((hl x hx hs).2.2.2 c f).1⟩,h.met.off k fun hm=>(hl m hm h.met.lt).2.1 rfl,?_,h.bB,h.mB⟩
 have hp:=h.pk
 generalize rF L=q at hp
 cases hp with
 | none=>exact .none
 | some c v' h' hc=>exact .some c v' h' ((k.block c (Array.getElem?_eq_some_iff.1 hc).1 fun hm=>((hl c hm (Array.getElem?_eq_some_iff.1 hc).1).2.2.2 _ _).2 hc).trans hc)
theorem Bg.below {B:Nat} {w w':World} {b m:Nat} {v:Value} {vs:List Value} {p:Option Addr} {L:List gm} (h:Bg B w b m v vs p L) (k:Below w.heap.size w w'):Bg B w' b m v vs p L:=h.off (l:=[]) (Off.of_below k) (fun x hx=>by cases hx)
theorem Bg.c0 {B:Nat} {w:World} {b m:Nat} {v:Value} {vs:List Value} {p:Option Addr} {L:List gm} (h:Bg B w b m v vs p L):w.cell? ⟨b,0,none⟩=some v:=ae w b 0 _ _ _ h.at_
theorem Bg.c1 {B:Nat} {w:World} {b m:Nat} {v:Value} {vs:List Value} {p:Option Addr} {L:List gm} (h:Bg B w b m v vs p L):w.cell? ⟨b,1,none⟩=some (ac m 0):=ae w b 1 _ _ _ h.at_
theorem uP (w:World) :
  Calls prog 20 #[] w fun e w'=>e=.returned (ac (w.heap.size+1) 0)∧Hid (Below w.heap.size w w'∧Bg w.heap.size w' (w.heap.size+1) w.heap.size (.slice none 0 0) [] none []∧w'.heap.size=w.heap.size+2):=by
 have hN:=nH w
 go_enter func20,ntmps20
 go_wp2_with (go_at_call 42;refine hN.mono ?_;rintro e w' ⟨rfl,rfl⟩)
 go_ret
 have hs:(w.alloc (.cells (uG 0 none 0 0 none) 178)).heap.size=w.heap.size+1:=World.size_alloc _ _
 refine⟨rfl,((Below.refl _ _).alloc (Nat.le_refl _) _).alloc (by rw[hs];omega) _,⟨?_,⟨⟨rfl,.inl ⟨rfl,rfl⟩⟩,fun i f hi=>by simp at hi,fun f hf=>by simp at hf,by simp⟩,?_,.none,by omega,Nat.le_refl _⟩,by rw[World.size_alloc,hs]⟩
 ·have:=aB (w.alloc (.cells (uG 0 none 0 0 none) 178)) (.cells #[.slice none 0 0,ac w.heap.size 0] 110)
  rw[hs]at this
  exact this
 ·exact (nI w).off (Off.alloc [] _ _) (by simp)
theorem uN (B:Nat) (b m:Nat) (v:Value) (vs:List Value) (p:Option Addr) (L:List gm) (w:World) (h:Bg B w b m v vs p L) :
  Calls prog 48 #[ac b 0] w fun e w'=>e=.returned (.int .i64 (L.length:Nat))∧w'=w:=by
 have c0:=h.c0
 obtain⟨a,cap,rfl⟩:=cy h.fl.rows
 generalize L.length=n at *
 clear h
 go_enter func48,ntmps48
 go_wp2_with fail
 go_ret
 exact⟨rfl,rfl⟩
theorem xZ (w:World):(Instr.buildSlice 37 0 #[]).run prog w=.ok (.slice (af w.heap.size 0) 0 0) (w.alloc (.cells #[] 5)):=by kernel_rfl
theorem ab0 (B:Nat) (bs:Nat→Nat) (w:World) (h:B≤w.heap.size):(w.alloc (.cells #[] 5)).ownsRow B 5 1 (.slice (af w.heap.size 0) 0 0) 0 (CB bs 0):=World.ownsRow_made w #[] 0 h (Nat.zero_le _) rfl
theorem jj (a:Option Addr) (n cap:Nat) (bs:Nat→Nat) (w:World) (R:Row8 w a n cap bs) (hn:n≤140737488351232) :
  Calls prog 27 #[.slice a n cap] w fun e w'=>∃ a' cap',e=.returned (.slice a' n cap')∧Hid (Below w.heap.size w w'∧w'.ownsRow w.heap.size 5 1 (.slice a' n cap') n (CB bs n)):=by
 cases a with
 | none=>
  obtain⟨rfl,rfl⟩:=R.nil rfl
  have he:∀ w:World,(binOp .eql 37 (.slice none 0 0) (.slice none 0 0)).run prog w=.ok (.bool true) w:=fun _=>rfl
  go_enter func27,ntmps27
  go_wp2_with fail
  go_ret
  exact⟨_,_,rfl,Below.refl _ _,⟨rfl,.inl ⟨rfl,rfl⟩⟩⟩
 | some x=>
  obtain⟨i0,hi,hz0,hz1,hz2⟩:=info_parts cq
  have hbd:=xZ
  have he:∀ w:World,(binOp .eql 37 (.slice (some x) n cap) (.slice none 0 0)).run prog w=.ok (.bool false) w:=fun _=>rfl
  have hbelA:Below w.heap.size w (w.alloc (.cells #[] 5)):=(Below.refl _ _).alloc (Nat.le_refl _) _
  have R0:=R.below hbelA
  have O0:=ab0 w.heap.size bs w (Nat.le_refl _)
  have hszA:=hbelA.size
  have hby:=R.byte
  go_enter func27,ntmps27
  go_wp2_with (at_builtin;refine aP rfl (.tmp 5) (.tmp 6) 37 rfl w.heap.size 5 i0 (.int .u8 0) underlying37 hi hz0 hz1 hz2 rfl _ 0 _ rfl O0 (some x) n cap bs rfl R0 (by unfold maxLen;omega) (by omega) hszA ?_)
  intro v2 w2 hown2 hgrow2
  have hbel2:Below w.heap.size w w2:=hbelA.grown hgrow2 hszA (fun k hk=>(O0.lt k hk).1)
  replace hown2:w2.ownsRow w.heap.size 5 1 v2 n (CB bs n):=by simpa [CB] using hown2
  obtain⟨a2,k2,rfl,_⟩:=aY hown2 hby
  have H:Hid (Below w.heap.size w w2∧w2.ownsRow w.heap.size 5 1 (.slice a2 n k2) n (CB bs n)):=⟨hbel2,hown2⟩
  clear hown2 hbel2 hgrow2 O0 R0 R hbelA hby
  go_wp2_with fail
  go_ret
  exact⟨_,_,rfl,H.out⟩
theorem gp (B:Nat) (b m:Nat) (v:Value) (vs:List Value) (p:Option Addr) (L:List gm) (i:Nat) (f:gm) (w:World) (h:Bg B w b m v vs p L) (hi:L[i]?=some f) :
  Calls prog 64 #[ac b 0,.int .i64 (i:Nat)] w fun e w'=>∃ a' cap',e=.returned (.tuple #[.slice a' f.1 cap',.int .i64 0])∧Hid (Below w.heap.size w w'∧w'.ownsRow w.heap.size 5 1 (.slice a' f.1 cap') f.1 (CB f.2 f.1)):=by
 have hlt:=(List.getElem?_eq_some_iff.1 hi).1
 have hlen:=h.fl.len
 obtain⟨a,cap,hv,R⟩:=h.fl.at_ hi
 have h27:=(h.fl.small f (List.mem_of_getElem? hi)).1
 have c0:=h.c0
 have hr:=h.fl.rows
 obtain⟨n,en⟩:∃ n,n=L.length:=⟨_,rfl⟩
 rw[← en]at hlt hlen hr
 cases n with
 | zero=>omega
 | succ n=>
  obtain⟨g,capv,rfl,_,_⟩:=mD hr
  have cv:w.cell? ⟨g,i,none⟩=some (.slice a f.1 cap):=(hr.cellAt i (by omega)).trans hv
  have hC:=jj a f.1 cap f.2 w R (by omega)
  have h0:¬ ((i:Int)<0):=by omega
  have h1:¬ (((n+1:Nat):Int) ≤ (i:Int)):=by omega
  clear h hr hv R hi
  go_enter func64,ntmps64
  go_wp2_with (go_at_call 27;refine hC.mono ?_;rintro e w' ⟨a',cap',rfl,H⟩)
  go_ret2
  exact⟨_,_,rfl,H⟩
theorem ko (B:Nat) (b m:Nat) (v:Value) (vs:List Value) (p:Option Addr) (L:List gm) (i:Int) (w:World) (h:Bg B w b m v vs p L) (hi:i<0∨(L.length:Int)≤i) :
  Calls prog 64 #[ac b 0,.int .i64 i] w fun e w'=>e=.returned (.tuple #[.slice none 0 0,.int .i64 151])∧w'=w:=by
 have c0:=h.c0
 obtain⟨a,cap,rfl⟩:=cy h.fl.rows
 generalize L.length=n at *
 clear h
 by_cases h0:i<0
 ·clear hi
  go_enter func64,ntmps64
  go_wp2_with fail
  go_ret2
  exact⟨rfl,rfl⟩
 ·have h1:(n:Int)≤i:=by omega
  clear hi
  go_enter func64,ntmps64
  go_wp2_with fail
  go_ret2
  exact⟨rfl,rfl⟩
end Go.Proofs.YtenilkloffnjlaaGreat
