/- Part 6 of the texts on which the proofs of layer 13 rest: contracts of Go functions. -/
import Derived.Laws.BytesString
import Derived.Deep.RegionWith
import Derived.Deep.DeepCutAuto
import Derived.Test.YthbogkaoidbpgaaGreatPkB01
import Derived.Test.YthbogkaoidbpgaaGreatPkB04
namespace Go.Proofs.YthbogkaoidbpgaaGreat
set_option maxRecDepth 100000
open Go.RowKit
theorem by0 (a b c d:Nat) (hb:b<256) (hc:c<256) (hd:d<256):(a*16777216+b*65536+c*256+d) / 16777216=a:=by omega
theorem by1 (a b c d:Nat) (hc:c<256) (hd:d<256):(a*16777216+b*65536+c*256+d) / 65536=a*256+b:=by omega
theorem by2 (a b c d:Nat) (hd:d<256):(a*16777216+b*65536+c*256+d) / 256=a*65536+b*256+c:=by omega
theorem w4_iff (bs:Nat→Nat) (n k:Nat) (hk:k<4294967296) (h0:bs n<256) (h1:bs (n+1)<256) (h2:bs (n+2)<256) (h3:bs (n+3)<256) :
  (∀ i,i<4→bs (n+i)=PM.w4 k i) ↔ bs n*16777216+bs (n+1)*65536+bs (n+2)*256+bs (n+3)=k:=by
 have hv:=PM.V_w4 k hk
 rw[PM.V4 _ (fun i _=>PM.w4_lt k i)]at hv
 constructor
 ·intro h
  have e0:=h 0 (by omega)
  rw[Nat.add_zero]at e0
  rw[e0,h 1 (by omega),h 2 (by omega),h 3 (by omega)]
  exact hv
 ·intro h
  have c0:PM.w4 k 0=bs n:=by
   unfold PM.w4
   rw[if_pos rfl,← h,by0 _ _ _ _ h1 h2 h3,Nat.mod_eq_of_lt h0]
  have c1:PM.w4 k 1=bs (n+1):=by
   unfold PM.w4
   rw[if_neg (by omega),if_pos rfl,← h,by1 _ _ _ _ h2 h3]
   omega
  have c2:PM.w4 k 2=bs (n+2):=by
   unfold PM.w4
   rw[if_neg (by omega),if_neg (by omega),if_pos rfl,← h,by2 _ _ _ _ h3]
   omega
  have c3:PM.w4 k 3=bs (n+3):=by
   unfold PM.w4
   rw[if_neg (by omega),if_neg (by omega),if_neg (by omega),← h]
   omega
  intro i hi
  by_cases e0:i=0
  ·rw[e0,c0,Nat.add_zero]
  ·by_cases e1:i=1
   ·rw[e1,c1]
   ·by_cases e2:i=2
    ·rw[e2,c2]
    ·rw[show i=3 by omega,c3]
set_option maxHeartbeats 1000000 in
theorem refValid_short (a:Option Addr) (len cap:Nat) (w:World) (h:len<4) :
  Calls Tryz.prog 91 #[.slice a len cap] w fun e w'=>e=.returned (.bool false)∧∃ m,w'=w.drewN m:=by
 have hd:decide ((4:Int) ≤ (len:Int))=false:=by simp;omega
 have hd3:decide (4≤len)=false:=by simp;omega
 go_enter Tryz.func91,Tryz.ntmps91
 go_wp2_with fail
 go_quiet (fail)
 go_wp2
 go_ret
 exact⟨rfl,_,rfl⟩
set_option maxRecDepth 100000 in
set_option maxHeartbeats 4000000 in
theorem refValid_long (b off len cap:Nat) (bs:Nat→Nat) (w:World) (h:4≤len) (hr:Row8 w (some ⟨b,off,none⟩) len cap bs) (hlen:len≤900000) :
  Calls Tryz.prog 91 #[.slice (some ⟨b,off,none⟩) len cap] w fun e w'=>e=.returned (.bool (decide (PM.R PM.g 32 (PM.V (PM.fb bs) (8*len))=0)))∧Below w.heap.size w w':=by
 obtain⟨n,hn⟩:∃ n,len=n+4:=⟨len-4,by omega⟩
 have hcap:=hr.le
 have hk:=PM.K_lt bs n
 have HV:=PM.valid_iff bs n (by rw[← hn];exact hr.byte)
 have hd:decide ((4:Int) ≤ (len:Int))=true:=by simp;omega
 have hN:(len:Int)-4=(n:Int):=by omega
 have hN0:(0:Int) ≤ (n:Int):=by omega
 have hNl:(n:Int) ≤ (len:Int):=by omega
 have hNc:(n:Int) ≤ (cap:Int):=by omega
 have hLN:Hid (len-n=4):=show len-n=4 by omega
 have hcn:n≠cap:=by omega
 have hle1:n+4≤len:=by omega
 have hle2:len≤n+4:=by omega
 have hwn:IntKind.i64.wrap (n:Int)=(n:Int):=by rw[IntKind.wrap_i64];omega
 have hwl:IntKind.i64.wrap ((len:Int)-4)=(n:Int):=by rw[IntKind.wrap_i64];omega
 have hT:∀ w',Below w.heap.size w w'→(convert 50 9 (.slice (some ⟨b,off+n,none⟩) 4 (cap-n))).run Tryz.prog w'=.ok (.string (BA (fun i=>bs (n+i)) 4)) w':=fun w' hb=>by
  have R:=(hr.below hb).from_ n (by omega)
  rw[show len-n=4 by omega]at R
  exact conv_str b (off+n) 4 (cap-n) _ w' R
 have hS:=refSum_row (some ⟨b,off,none⟩) n cap bs w.drew ((hr.below (Below.refl _ _).drew).upto n (by omega)) (by omega)
 have hW:∀ w',Below w.heap.size w w'→Calls Tryz.prog 79 #[.int .u32 (PM.K bs n:Nat)] w' fun e w''=>e=.returned (.slice (some ⟨w'.heap.size,0,none⟩) 4 4)∧Below w.heap.size w w''∧∃ CU:World→Result Value,(∀ u,(convert 50 9 (.slice (some ⟨w'.heap.size,0,none⟩) 4 4)).run Tryz.prog u=CU u)∧CU w''=.ok (.string (BA (PM.w4 (PM.K bs n)) 4)) w'':=fun w' hb=>by
  refine (refWord_any (PM.K bs n) w' hk).mono ?_
  rintro e w'' ⟨rfl,hw⟩
  have hb2:Below w.heap.size w w'':=by rw[hw];exact hb.alloc hb.size _
  refine⟨rfl,hb2,_,fun _=>rfl,?_⟩
  rw[hw]
  exact conv_str _ 0 4 4 _ _ (row4 w' (PM.K bs n) hk)
 have hEq:(BA (fun i=>bs (n+i)) 4=BA (PM.w4 (PM.K bs n)) 4) ↔ PM.R PM.g 32 (PM.V (PM.fb bs) (8 * (n+4)))=0:=by
  rw[BA_eq _ _ 4 (fun i hi=>hr.byte _ (by omega)) (fun i _=>PM.w4_lt _ i),← HV]
  exact w4_iff bs n (PM.K bs n) hk (hr.byte n (by omega)) (hr.byte (n+1) (by omega)) (hr.byte (n+2) (by omega)) (hr.byte (n+3) (by omega))
 have hdec:decide (PM.R PM.g 32 (PM.V (PM.fb bs) (8 * (n+4)))=0)=decide (BA (fun i=>bs (n+i)) 4=BA (PM.w4 (PM.K bs n)) 4):=decide_eq_decide.2 hEq.symm
 have hdec2:decide (PM.R PM.g 32 (PM.V (PM.fb bs) (8*len))=0)=((BA (fun i=>bs (n+i)) 4).toList == (BA (PM.w4 (PM.K bs n)) 4).toList):=by
  rw[hn,hdec,bytes_beq]
 rw[hdec2]
 have hL4:len-n=4:=by omega
 have hb0:Below w.heap.size w w.drew:=(Below.refl _ _).drew
 have hS2:Calls Tryz.prog 80 #[.slice (some ⟨b,off,none⟩) n cap] w.drew fun e w'=>e=.returned (.int .u32 (PM.K bs n:Nat))∧Below w.heap.size w w':=by
  refine hS.mono ?_
  rintro e w' ⟨rfl,hb⟩
  exact⟨rfl,⟨hb.os,hb.tape,hb.output,hb.size,hb.block⟩⟩
 obtain⟨CV,hCV⟩:∃ CV:World→Result Value,∀ u,(convert 50 9 (.slice (some ⟨b,off+n,none⟩) 4 (cap-n))).run Tryz.prog u=CV u:=⟨_,fun _=>rfl⟩
 have hCVo:∀ u,Below w.heap.size w u→CV u=.ok (.string (BA (fun i=>bs (n+i)) 4)) u:=fun u hu=>by rw[← hCV];exact hT u hu
 clear hS hT hEq hdec hdec2 HV hr hn h hlen hcap hLN
 generalize BA (fun i=>bs (n+i)) 4=A at *
 generalize BA (PM.w4 (PM.K bs n)) 4=B at *
 generalize PM.K bs n=k at *
 go_enter Tryz.func91,Tryz.ntmps91
 go_upto_region 1 with fail
 refine wp_region_any (by kernel_rfl) ?_
 change wpAny _ _ _ _ _ _ _ (World.drew _)
 refine wpAny_at (a':={ tmps:=#[Value.slice (some ⟨b,off,none⟩) len cap,undef,Value.bool false,undef,undef,undef,undef,undef,undef,undef,undef,undef,undef,undef,undef,undef,undef,undef,undef,undef,undef,undef,undef],defers:=[] }) (l':=#[false,false,false,false,false,false,false,false,false,false,false,false,false,false,false,false,false,false,false,false,false]) (by kernel_rfl) (by kernel_rfl) ?_
 refine wpAny_take (i:=0) (v:=Value.slice (some ⟨b,off,none⟩) len cap) rfl (by kernel_rfl) (by kernel_rfl) (by kernel_rfl) (fun _ _ _ h=>h) (Or.inl ⟨by kernel_rfl,fun w=>by go_simp <;> omega⟩) ?_
 refine wpAny_take (i:=1) (v:=Value.int .i64 (len:Int)) rfl (by kernel_rfl) (by kernel_rfl) (by kernel_rfl) (fun _ _ _ h=>h) (Or.inl ⟨by kernel_rfl,fun w=>by go_simp <;> omega⟩) ?_
 refine wpAny_take (i:=2) (v:=Value.bool true) rfl (by kernel_rfl) (by kernel_rfl) (by kernel_rfl) (fun _ _ _ h=>h) (Or.inl ⟨by kernel_rfl,fun w=>by go_simp <;> omega⟩) ?_
 refine wpAny_take (i:=3) (v:=Value.bool true) rfl (by kernel_rfl) (by kernel_rfl) (by kernel_rfl) (fun _ _ _ h=>h) (Or.inl ⟨by kernel_rfl,fun w=>by go_simp <;> omega⟩) ?_
 refine wpAny_at (a':={ tmps:=#[Value.slice (some ⟨b,off,none⟩) len cap,undef,Value.bool false,Value.slice (some ⟨b,off,none⟩) len cap,Value.int .i64 (len:Int),Value.bool true,Value.bool true,undef,undef,undef,undef,undef,undef,undef,undef,undef,undef,undef,undef,undef,undef,undef,undef],defers:=[] }) (l':=#[true,true,true,true,false,false,false,false,false,false,false,false,false,false,false,false,false,false,false,false,false]) (by kernel_rfl) (by kernel_rfl) ?_
 refine wpAny_take (i:=4) (v:=Value.slice (some ⟨b,off,none⟩) len cap) rfl (by kernel_rfl) (by kernel_rfl) (by kernel_rfl) (fun _ _ _ h=>h) (Or.inl ⟨by kernel_rfl,fun w=>by go_simp <;> omega⟩) ?_
 refine wpAny_take (i:=5) (v:=Value.slice (some ⟨b,off,none⟩) len cap) rfl (by kernel_rfl) (by kernel_rfl) (by kernel_rfl) (fun _ _ _ h=>h) (Or.inl ⟨by kernel_rfl,fun w=>by go_simp <;> omega⟩) ?_
 refine wpAny_take (i:=6) (v:=Value.int .i64 (len:Int)) rfl (by kernel_rfl) (by kernel_rfl) (by kernel_rfl) (fun _ _ _ h=>h) (Or.inl ⟨by kernel_rfl,fun w=>by go_simp <;> omega⟩) ?_
 refine wpAny_take (i:=7) (v:=Value.int .i64 (n:Int)) rfl (by kernel_rfl) (by kernel_rfl) (by kernel_rfl) (fun _ _ _ h=>h) (Or.inl ⟨by kernel_rfl,fun w=>by go_simp <;> omega⟩) ?_
 refine wpAny_at (a':={ tmps:=#[Value.slice (some ⟨b,off,none⟩) len cap,undef,Value.bool false,Value.slice (some ⟨b,off,none⟩) len cap,Value.int .i64 (len:Int),Value.bool true,Value.bool true,Value.slice (some ⟨b,off,none⟩) len cap,Value.slice (some ⟨b,off,none⟩) len cap,Value.int .i64 (len:Int),Value.int .i64 (n:Int),undef,undef,undef,undef,undef,undef,undef,undef,undef,undef,undef,undef],defers:=[] }) (l':=#[true,true,true,true,true,true,true,true,false,false,false,false,false,false,false,false,false,false,false,false,false]) (by kernel_rfl) (by kernel_rfl) ?_
 refine wpAny_take (i:=8) (v:=Value.slice (some ⟨b,off+n,none⟩) 4 (cap-n)) rfl (by kernel_rfl) (by kernel_rfl) (by kernel_rfl) (fun _ _ _ h=>h) (Or.inl ⟨by kernel_rfl,fun w=>by go_simp <;> omega⟩) ?_
 refine wpAny_take (i:=10) (v:=Value.slice (some ⟨b,off,none⟩) len cap) rfl (by kernel_rfl) (by kernel_rfl) (by kernel_rfl) (fun _ _ _ h=>h) (Or.inl ⟨by kernel_rfl,fun w=>by go_simp <;> omega⟩) ?_
 refine wpAny_take (i:=11) (v:=Value.slice (some ⟨b,off,none⟩) len cap) rfl (by kernel_rfl) (by kernel_rfl) (by kernel_rfl) (fun _ _ _ h=>h) (Or.inl ⟨by kernel_rfl,fun w=>by go_simp <;> omega⟩) ?_
 refine wpAny_take (i:=12) (v:=Value.int .i64 (len:Int)) rfl (by kernel_rfl) (by kernel_rfl) (by kernel_rfl) (fun _ _ _ h=>h) (Or.inl ⟨by kernel_rfl,fun w=>by go_simp <;> omega⟩) ?_
 refine wpAny_take (i:=13) (v:=Value.int .i64 (n:Int)) rfl (by kernel_rfl) (by kernel_rfl) (by kernel_rfl) (fun _ _ _ h=>h) (Or.inl ⟨by kernel_rfl,fun w=>by go_simp <;> omega⟩) ?_
 refine wpAny_take (i:=14) (v:=Value.slice (some ⟨b,off,none⟩) n cap) rfl (by kernel_rfl) (by kernel_rfl) (by kernel_rfl) (fun _ _ _ h=>h) (Or.inl ⟨by kernel_rfl,fun w=>by go_simp <;> omega⟩) ?_
 refine wpAny_at (a':={ tmps:=#[Value.slice (some ⟨b,off,none⟩) len cap,undef,Value.bool false,Value.slice (some ⟨b,off,none⟩) len cap,Value.int .i64 (len:Int),Value.bool true,Value.bool true,Value.slice (some ⟨b,off,none⟩) len cap,Value.slice (some ⟨b,off,none⟩) len cap,Value.int .i64 (len:Int),Value.int .i64 (n:Int),Value.slice (some ⟨b,off+n,none⟩) 4 (cap-n),undef,Value.slice (some ⟨b,off,none⟩) len cap,Value.slice (some ⟨b,off,none⟩) len cap,Value.int .i64 (len:Int),Value.int .i64 (n:Int),Value.slice (some ⟨b,off,none⟩) n cap,undef,undef,undef,undef,undef],defers:=[] }) (l':=#[true,true,true,true,true,true,true,true,true,false,true,true,true,true,true,false,false,false,false,false,false]) (by kernel_rfl) (by kernel_rfl) ?_
 refine wpAny_two (i:=9) (j:=15) (by kernel_rfl) ?_ ?_
 ·refine any_val (i:=9) (.string A) w.drew rfl (by kernel_rfl) (by go_simp) ?_
  refine wpAny_at (a':={ tmps:=#[Value.slice (some ⟨b,off,none⟩) len cap,undef,Value.bool false,Value.slice (some ⟨b,off,none⟩) len cap,Value.int .i64 (len:Int),Value.bool true,Value.bool true,Value.slice (some ⟨b,off,none⟩) len cap,Value.slice (some ⟨b,off,none⟩) len cap,Value.int .i64 (len:Int),Value.int .i64 (n:Int),Value.slice (some ⟨b,off+n,none⟩) 4 (cap-n),Value.string A,Value.slice (some ⟨b,off,none⟩) len cap,Value.slice (some ⟨b,off,none⟩) len cap,Value.int .i64 (len:Int),Value.int .i64 (n:Int),Value.slice (some ⟨b,off,none⟩) n cap,undef,undef,undef,undef,undef],defers:=[] }) (l':=#[true,true,true,true,true,true,true,true,true,true,true,true,true,true,true,false,false,false,false,false,false]) (by kernel_rfl) (by kernel_rfl) ?_
  refine wpAny_one (i:=15) (by kernel_rfl) ?_
  refine any_call (i:=15) 80 #[.slice (some ⟨b,off,none⟩) n cap] rfl (by kernel_rfl) (by go_simp) ?_
  refine hS2.mono ?_
  rintro e w2 ⟨rfl,hb2⟩
  refine⟨_,rfl,?_⟩
  refine wpAny_at (a':={ tmps:=#[Value.slice (some ⟨b,off,none⟩) len cap,undef,Value.bool false,Value.slice (some ⟨b,off,none⟩) len cap,Value.int .i64 (len:Int),Value.bool true,Value.bool true,Value.slice (some ⟨b,off,none⟩) len cap,Value.slice (some ⟨b,off,none⟩) len cap,Value.int .i64 (len:Int),Value.int .i64 (n:Int),Value.slice (some ⟨b,off+n,none⟩) 4 (cap-n),Value.string A,Value.slice (some ⟨b,off,none⟩) len cap,Value.slice (some ⟨b,off,none⟩) len cap,Value.int .i64 (len:Int),Value.int .i64 (n:Int),Value.slice (some ⟨b,off,none⟩) n cap,Value.int .u32 (k:Int),undef,undef,undef,undef],defers:=[] }) (l':=#[true,true,true,true,true,true,true,true,true,true,true,true,true,true,true,true,false,false,false,false,false]) (by kernel_rfl) (by kernel_rfl) ?_
  refine wpAny_one (i:=16) (by kernel_rfl) ?_
  refine any_call (i:=16) 79 #[.int .u32 (k:Int)] rfl (by kernel_rfl) (by go_simp) ?_
  refine (hW w2 hb2).mono ?_
  rintro e w3 ⟨rfl,hb3,CU,hCU,hCUo⟩
  refine⟨_,rfl,?_⟩
  refine wpAny_at (a':={ tmps:=#[Value.slice (some ⟨b,off,none⟩) len cap,undef,Value.bool false,Value.slice (some ⟨b,off,none⟩) len cap,Value.int .i64 (len:Int),Value.bool true,Value.bool true,Value.slice (some ⟨b,off,none⟩) len cap,Value.slice (some ⟨b,off,none⟩) len cap,Value.int .i64 (len:Int),Value.int .i64 (n:Int),Value.slice (some ⟨b,off+n,none⟩) 4 (cap-n),Value.string A,Value.slice (some ⟨b,off,none⟩) len cap,Value.slice (some ⟨b,off,none⟩) len cap,Value.int .i64 (len:Int),Value.int .i64 (n:Int),Value.slice (some ⟨b,off,none⟩) n cap,Value.int .u32 (k:Int),Value.slice (some ⟨w2.heap.size,0,none⟩) 4 4,undef,undef,undef],defers:=[] }) (l':=#[true,true,true,true,true,true,true,true,true,true,true,true,true,true,true,true,true,false,false,false,false]) (by kernel_rfl) (by kernel_rfl) ?_
  refine wpAny_one (i:=17) (by kernel_rfl) ?_
  refine any_val (i:=17) (.string B) w3 rfl (by kernel_rfl) (by go_simp) ?_
  refine wpAny_at (a':={ tmps:=#[Value.slice (some ⟨b,off,none⟩) len cap,undef,Value.bool false,Value.slice (some ⟨b,off,none⟩) len cap,Value.int .i64 (len:Int),Value.bool true,Value.bool true,Value.slice (some ⟨b,off,none⟩) len cap,Value.slice (some ⟨b,off,none⟩) len cap,Value.int .i64 (len:Int),Value.int .i64 (n:Int),Value.slice (some ⟨b,off+n,none⟩) 4 (cap-n),Value.string A,Value.slice (some ⟨b,off,none⟩) len cap,Value.slice (some ⟨b,off,none⟩) len cap,Value.int .i64 (len:Int),Value.int .i64 (n:Int),Value.slice (some ⟨b,off,none⟩) n cap,Value.int .u32 (k:Int),Value.slice (some ⟨w2.heap.size,0,none⟩) 4 4,Value.string B,undef,undef],defers:=[] }) (l':=#[true,true,true,true,true,true,true,true,true,true,true,true,true,true,true,true,true,true,false,false,false]) (by kernel_rfl) (by kernel_rfl) ?_
  refine wpAny_take (i:=18) (v:=Value.bool (A.toList == B.toList)) rfl (by kernel_rfl) (by kernel_rfl) (by kernel_rfl) (fun _ _ _ h=>h) (Or.inl ⟨by kernel_rfl,fun w=>by go_simp⟩) ?_
  refine wpAny_take (i:=19) (v:=Value.bool (A.toList == B.toList)) rfl (by kernel_rfl) (by kernel_rfl) (by kernel_rfl) (fun _ _ _ h=>h) (Or.inl ⟨by kernel_rfl,fun w=>by go_simp⟩) ?_
  refine wpAny_take (i:=20) (v:=Value.bool (A.toList == B.toList)) rfl (by kernel_rfl) (by kernel_rfl) (by kernel_rfl) (fun _ _ _ h=>h) (Or.inl ⟨by kernel_rfl,fun w=>by go_simp⟩) ?_
  refine wpAny_done (by kernel_rfl) ?_ _
  go_wp2
  go_ret
  exact⟨rfl,hb3⟩
 ·refine any_call (i:=15) 80 #[.slice (some ⟨b,off,none⟩) n cap] rfl (by kernel_rfl) (by go_simp) ?_
  refine hS2.mono ?_
  rintro e w2 ⟨rfl,hb2⟩
  refine⟨_,rfl,?_⟩
  refine wpAny_at (a':={ tmps:=#[Value.slice (some ⟨b,off,none⟩) len cap,undef,Value.bool false,Value.slice (some ⟨b,off,none⟩) len cap,Value.int .i64 (len:Int),Value.bool true,Value.bool true,Value.slice (some ⟨b,off,none⟩) len cap,Value.slice (some ⟨b,off,none⟩) len cap,Value.int .i64 (len:Int),Value.int .i64 (n:Int),Value.slice (some ⟨b,off+n,none⟩) 4 (cap-n),undef,Value.slice (some ⟨b,off,none⟩) len cap,Value.slice (some ⟨b,off,none⟩) len cap,Value.int .i64 (len:Int),Value.int .i64 (n:Int),Value.slice (some ⟨b,off,none⟩) n cap,Value.int .u32 (k:Int),undef,undef,undef,undef],defers:=[] }) (l':=#[true,true,true,true,true,true,true,true,true,false,true,true,true,true,true,true,false,false,false,false,false]) (by kernel_rfl) (by kernel_rfl) ?_
  refine wpAny_two (i:=9) (j:=16) (by kernel_rfl) ?_ ?_
  ·refine any_val (i:=9) (.string A) w2 rfl (by kernel_rfl) (by go_simp) ?_
   refine wpAny_at (a':={ tmps:=#[Value.slice (some ⟨b,off,none⟩) len cap,undef,Value.bool false,Value.slice (some ⟨b,off,none⟩) len cap,Value.int .i64 (len:Int),Value.bool true,Value.bool true,Value.slice (some ⟨b,off,none⟩) len cap,Value.slice (some ⟨b,off,none⟩) len cap,Value.int .i64 (len:Int),Value.int .i64 (n:Int),Value.slice (some ⟨b,off+n,none⟩) 4 (cap-n),Value.string A,Value.slice (some ⟨b,off,none⟩) len cap,Value.slice (some ⟨b,off,none⟩) len cap,Value.int .i64 (len:Int),Value.int .i64 (n:Int),Value.slice (some ⟨b,off,none⟩) n cap,Value.int .u32 (k:Int),undef,undef,undef,undef],defers:=[] }) (l':=#[true,true,true,true,true,true,true,true,true,true,true,true,true,true,true,true,false,false,false,false,false]) (by kernel_rfl) (by kernel_rfl) ?_
   refine wpAny_one (i:=16) (by kernel_rfl) ?_
   refine any_call (i:=16) 79 #[.int .u32 (k:Int)] rfl (by kernel_rfl) (by go_simp) ?_
   refine (hW w2 hb2).mono ?_
   rintro e w3 ⟨rfl,hb3,CU,hCU,hCUo⟩
   refine⟨_,rfl,?_⟩
   refine wpAny_at (a':={ tmps:=#[Value.slice (some ⟨b,off,none⟩) len cap,undef,Value.bool false,Value.slice (some ⟨b,off,none⟩) len cap,Value.int .i64 (len:Int),Value.bool true,Value.bool true,Value.slice (some ⟨b,off,none⟩) len cap,Value.slice (some ⟨b,off,none⟩) len cap,Value.int .i64 (len:Int),Value.int .i64 (n:Int),Value.slice (some ⟨b,off+n,none⟩) 4 (cap-n),Value.string A,Value.slice (some ⟨b,off,none⟩) len cap,Value.slice (some ⟨b,off,none⟩) len cap,Value.int .i64 (len:Int),Value.int .i64 (n:Int),Value.slice (some ⟨b,off,none⟩) n cap,Value.int .u32 (k:Int),Value.slice (some ⟨w2.heap.size,0,none⟩) 4 4,undef,undef,undef],defers:=[] }) (l':=#[true,true,true,true,true,true,true,true,true,true,true,true,true,true,true,true,true,false,false,false,false]) (by kernel_rfl) (by kernel_rfl) ?_
   refine wpAny_one (i:=17) (by kernel_rfl) ?_
   refine any_val (i:=17) (.string B) w3 rfl (by kernel_rfl) (by go_simp) ?_
   refine wpAny_at (a':={ tmps:=#[Value.slice (some ⟨b,off,none⟩) len cap,undef,Value.bool false,Value.slice (some ⟨b,off,none⟩) len cap,Value.int .i64 (len:Int),Value.bool true,Value.bool true,Value.slice (some ⟨b,off,none⟩) len cap,Value.slice (some ⟨b,off,none⟩) len cap,Value.int .i64 (len:Int),Value.int .i64 (n:Int),Value.slice (some ⟨b,off+n,none⟩) 4 (cap-n),Value.string A,Value.slice (some ⟨b,off,none⟩) len cap,Value.slice (some ⟨b,off,none⟩) len cap,Value.int .i64 (len:Int),Value.int .i64 (n:Int),Value.slice (some ⟨b,off,none⟩) n cap,Value.int .u32 (k:Int),Value.slice (some ⟨w2.heap.size,0,none⟩) 4 4,Value.string B,undef,undef],defers:=[] }) (l':=#[true,true,true,true,true,true,true,true,true,true,true,true,true,true,true,true,true,true,false,false,false]) (by kernel_rfl) (by kernel_rfl) ?_
   refine wpAny_take (i:=18) (v:=Value.bool (A.toList == B.toList)) rfl (by kernel_rfl) (by kernel_rfl) (by kernel_rfl) (fun _ _ _ h=>h) (Or.inl ⟨by kernel_rfl,fun w=>by go_simp⟩) ?_
   refine wpAny_take (i:=19) (v:=Value.bool (A.toList == B.toList)) rfl (by kernel_rfl) (by kernel_rfl) (by kernel_rfl) (fun _ _ _ h=>h) (Or.inl ⟨by kernel_rfl,fun w=>by go_simp⟩) ?_
   refine wpAny_take (i:=20) (v:=Value.bool (A.toList == B.toList)) rfl (by kernel_rfl) (by kernel_rfl) (by kernel_rfl) (fun _ _ _ h=>h) (Or.inl ⟨by kernel_rfl,fun w=>by go_simp⟩) ?_
   refine wpAny_done (by kernel_rfl) ?_ _
   go_wp2
   go_ret
   exact⟨rfl,hb3⟩
  ·refine any_call (i:=16) 79 #[.int .u32 (k:Int)] rfl (by kernel_rfl) (by go_simp) ?_
   refine (hW w2 hb2).mono ?_
   rintro e w3 ⟨rfl,hb3,CU,hCU,hCUo⟩
   refine⟨_,rfl,?_⟩
   refine wpAny_at (a':={ tmps:=#[Value.slice (some ⟨b,off,none⟩) len cap,undef,Value.bool false,Value.slice (some ⟨b,off,none⟩) len cap,Value.int .i64 (len:Int),Value.bool true,Value.bool true,Value.slice (some ⟨b,off,none⟩) len cap,Value.slice (some ⟨b,off,none⟩) len cap,Value.int .i64 (len:Int),Value.int .i64 (n:Int),Value.slice (some ⟨b,off+n,none⟩) 4 (cap-n),undef,Value.slice (some ⟨b,off,none⟩) len cap,Value.slice (some ⟨b,off,none⟩) len cap,Value.int .i64 (len:Int),Value.int .i64 (n:Int),Value.slice (some ⟨b,off,none⟩) n cap,Value.int .u32 (k:Int),Value.slice (some ⟨w2.heap.size,0,none⟩) 4 4,undef,undef,undef],defers:=[] }) (l':=#[true,true,true,true,true,true,true,true,true,false,true,true,true,true,true,true,true,false,false,false,false]) (by kernel_rfl) (by kernel_rfl) ?_
   refine wpAny_two (i:=9) (j:=17) (by kernel_rfl) ?_ ?_
   ·refine any_val (i:=9) (.string A) w3 rfl (by kernel_rfl) (by go_simp) ?_
    refine wpAny_at (a':={ tmps:=#[Value.slice (some ⟨b,off,none⟩) len cap,undef,Value.bool false,Value.slice (some ⟨b,off,none⟩) len cap,Value.int .i64 (len:Int),Value.bool true,Value.bool true,Value.slice (some ⟨b,off,none⟩) len cap,Value.slice (some ⟨b,off,none⟩) len cap,Value.int .i64 (len:Int),Value.int .i64 (n:Int),Value.slice (some ⟨b,off+n,none⟩) 4 (cap-n),Value.string A,Value.slice (some ⟨b,off,none⟩) len cap,Value.slice (some ⟨b,off,none⟩) len cap,Value.int .i64 (len:Int),Value.int .i64 (n:Int),Value.slice (some ⟨b,off,none⟩) n cap,Value.int .u32 (k:Int),Value.slice (some ⟨w2.heap.size,0,none⟩) 4 4,undef,undef,undef],defers:=[] }) (l':=#[true,true,true,true,true,true,true,true,true,true,true,true,true,true,true,true,true,false,false,false,false]) (by kernel_rfl) (by kernel_rfl) ?_
    refine wpAny_one (i:=17) (by kernel_rfl) ?_
    refine any_val (i:=17) (.string B) w3 rfl (by kernel_rfl) (by go_simp) ?_
    refine wpAny_at (a':={ tmps:=#[Value.slice (some ⟨b,off,none⟩) len cap,undef,Value.bool false,Value.slice (some ⟨b,off,none⟩) len cap,Value.int .i64 (len:Int),Value.bool true,Value.bool true,Value.slice (some ⟨b,off,none⟩) len cap,Value.slice (some ⟨b,off,none⟩) len cap,Value.int .i64 (len:Int),Value.int .i64 (n:Int),Value.slice (some ⟨b,off+n,none⟩) 4 (cap-n),Value.string A,Value.slice (some ⟨b,off,none⟩) len cap,Value.slice (some ⟨b,off,none⟩) len cap,Value.int .i64 (len:Int),Value.int .i64 (n:Int),Value.slice (some ⟨b,off,none⟩) n cap,Value.int .u32 (k:Int),Value.slice (some ⟨w2.heap.size,0,none⟩) 4 4,Value.string B,undef,undef],defers:=[] }) (l':=#[true,true,true,true,true,true,true,true,true,true,true,true,true,true,true,true,true,true,false,false,false]) (by kernel_rfl) (by kernel_rfl) ?_
    refine wpAny_take (i:=18) (v:=Value.bool (A.toList == B.toList)) rfl (by kernel_rfl) (by kernel_rfl) (by kernel_rfl) (fun _ _ _ h=>h) (Or.inl ⟨by kernel_rfl,fun w=>by go_simp⟩) ?_
    refine wpAny_take (i:=19) (v:=Value.bool (A.toList == B.toList)) rfl (by kernel_rfl) (by kernel_rfl) (by kernel_rfl) (fun _ _ _ h=>h) (Or.inl ⟨by kernel_rfl,fun w=>by go_simp⟩) ?_
    refine wpAny_take (i:=20) (v:=Value.bool (A.toList == B.toList)) rfl (by kernel_rfl) (by kernel_rfl) (by kernel_rfl) (fun _ _ _ h=>h) (Or.inl ⟨by kernel_rfl,fun w=>by go_simp⟩) ?_
    refine wpAny_done (by kernel_rfl) ?_ _
    go_wp2
    go_ret
    exact⟨rfl,hb3⟩
   ·refine any_val (i:=17) (.string B) w3 rfl (by kernel_rfl) (by go_simp) ?_
    refine wpAny_at (a':={ tmps:=#[Value.slice (some ⟨b,off,none⟩) len cap,undef,Value.bool false,Value.slice (some ⟨b,off,none⟩) len cap,Value.int .i64 (len:Int),Value.bool true,Value.bool true,Value.slice (some ⟨b,off,none⟩) len cap,Value.slice (some ⟨b,off,none⟩) len cap,Value.int .i64 (len:Int),Value.int .i64 (n:Int),Value.slice (some ⟨b,off+n,none⟩) 4 (cap-n),undef,Value.slice (some ⟨b,off,none⟩) len cap,Value.slice (some ⟨b,off,none⟩) len cap,Value.int .i64 (len:Int),Value.int .i64 (n:Int),Value.slice (some ⟨b,off,none⟩) n cap,Value.int .u32 (k:Int),Value.slice (some ⟨w2.heap.size,0,none⟩) 4 4,Value.string B,undef,undef],defers:=[] }) (l':=#[true,true,true,true,true,true,true,true,true,false,true,true,true,true,true,true,true,true,false,false,false]) (by kernel_rfl) (by kernel_rfl) ?_
    refine wpAny_one (i:=9) (by kernel_rfl) ?_
    refine any_val (i:=9) (.string A) w3 rfl (by kernel_rfl) (by go_simp) ?_
    refine wpAny_at (a':={ tmps:=#[Value.slice (some ⟨b,off,none⟩) len cap,undef,Value.bool false,Value.slice (some ⟨b,off,none⟩) len cap,Value.int .i64 (len:Int),Value.bool true,Value.bool true,Value.slice (some ⟨b,off,none⟩) len cap,Value.slice (some ⟨b,off,none⟩) len cap,Value.int .i64 (len:Int),Value.int .i64 (n:Int),Value.slice (some ⟨b,off+n,none⟩) 4 (cap-n),Value.string A,Value.slice (some ⟨b,off,none⟩) len cap,Value.slice (some ⟨b,off,none⟩) len cap,Value.int .i64 (len:Int),Value.int .i64 (n:Int),Value.slice (some ⟨b,off,none⟩) n cap,Value.int .u32 (k:Int),Value.slice (some ⟨w2.heap.size,0,none⟩) 4 4,Value.string B,undef,undef],defers:=[] }) (l':=#[true,true,true,true,true,true,true,true,true,true,true,true,true,true,true,true,true,true,false,false,false]) (by kernel_rfl) (by kernel_rfl) ?_
    refine wpAny_take (i:=18) (v:=Value.bool (A.toList == B.toList)) rfl (by kernel_rfl) (by kernel_rfl) (by kernel_rfl) (fun _ _ _ h=>h) (Or.inl ⟨by kernel_rfl,fun w=>by go_simp⟩) ?_
    refine wpAny_take (i:=19) (v:=Value.bool (A.toList == B.toList)) rfl (by kernel_rfl) (by kernel_rfl) (by kernel_rfl) (fun _ _ _ h=>h) (Or.inl ⟨by kernel_rfl,fun w=>by go_simp⟩) ?_
    refine wpAny_take (i:=20) (v:=Value.bool (A.toList == B.toList)) rfl (by kernel_rfl) (by kernel_rfl) (by kernel_rfl) (fun _ _ _ h=>h) (Or.inl ⟨by kernel_rfl,fun w=>by go_simp⟩) ?_
    refine wpAny_done (by kernel_rfl) ?_ _
    go_wp2
    go_ret
    exact⟨rfl,hb3⟩
theorem refValid_row (a:Option Addr) (len cap:Nat) (bs:Nat→Nat) (w:World) (hr:Row8 w a len cap bs) (hlen:len≤900000) :
  Calls Tryz.prog 91 #[.slice a len cap] w fun e w'=>e=.returned (.bool (decide (4≤len∧PM.R PM.g 32 (PM.V (PM.fb bs) (8*len))=0)))∧Below w.heap.size w w':=by
 by_cases h:4≤len
 ·obtain⟨b,off,rfl,_,_⟩:=hr.plain (by omega)
  have:=refValid_long b off len cap bs w h hr hlen
  simpa [h] using this
 ·refine (refValid_short a len cap w (by omega)).mono ?_
  rintro e w' ⟨rfl,m,rfl⟩
  exact⟨by simp[h],below_drewN (Below.refl _ _) m⟩
end Go.Proofs.YthbogkaoidbpgaaGreat
