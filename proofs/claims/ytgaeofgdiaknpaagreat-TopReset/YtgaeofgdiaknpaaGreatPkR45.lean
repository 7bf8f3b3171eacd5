/- Part 46: contracts that the proof rests on. -/
import Derived.Test.YtgaeofgdiaknpaaGreatPkR44
set_option maxHeartbeats 64000000
namespace Go.Proofs.YtgaeofgdiaknpaaGreat
set_option maxRecDepth 100000
open Go.RowKit
set_option linter.unusedVariables false
theorem dsay_byteY (P:Pm) (s:Sd) (k num fl len:Nat) (bs:Nat→Nat) (hb:∀ i,i<len→bs i<256):∀ i,i < (dsay P s k num fl len bs).1→(dsay P s k num fl len bs).2 i<256:=encF_byte _ _ _ _ _ _ _ hb
theorem encI_lenY (k c s n:Nat) (f:Int) (len:Nat) (bs:Nat→Nat):(encI k c s n f len bs).1≤27:=by
 unfold encI
 by_cases h:LW k c s n f len len=0
 ·rw[if_pos h]
  have:=(LW_zero h).2.2.2.1
  show 15+len+4≤27
  omega
 ·rw[if_neg h];show 0≤27;omega
theorem no_byteY {bs:Nat→Nat}:∀ i,i<0→bs i<256:=fun i hi=>absurd hi (Nat.not_lt_zero i)
theorem fm0_byteY:∀ i,i<fm0.1→fm0.2 i<256:=fun i hi=>absurd hi (Nat.not_lt_zero i)
theorem dbegin_byteY (P:Pm) (mx n:Nat) (s:Sd):∀ i,i < (dbegin P mx n s).f.1→(dbegin P mx n s).f.2 i<256:=by
 unfold dbegin
 split
 ·exact dsay_byteY _ _ _ _ _ _ _ no_byteY
 ·split
  ·exact fm0_byteY
  ·exact dsay_byteY _ _ _ _ _ _ _ (dsg_byte P)
theorem dwish_byteY (P:Pm) (mx n:Nat) (s:Sd):∀ i,i < (dwish P mx n s).f.1→(dwish P mx n s).f.2 i<256:=by
 unfold dwish
 split
 ·exact dsay_byteY _ _ _ _ _ _ _ (dsg_byte P)
 ·split
  ·exact dsay_byteY _ _ _ _ _ _ _ no_byteY
  ·exact dbegin_byteY P mx n _
theorem drefuse_byteY (P:Pm) (s:Sd) (e:Int):∀ i,i < (drefuse P s e).f.1→(drefuse P s e).f.2 i<256:=dsay_byteY _ _ _ _ _ _ _ no_byteY
theorem dtake_byteY (P:Pm) (mx n:Nat) (s:Sd) (hap:∀ i,i<P.i→s.ap i<256) (k ss num fl len:Nat) (bs:Nat→Nat):∀ i,i < (dtake P mx n s k ss num fl len bs).f.1→(dtake P mx n s k ss num fl len bs).f.2 i<256:=by
 unfold dtake
 split
 ·split
  ·exact dwish_byteY P mx n s
  ·exact drefuse_byteY P s _
 ·split
  ·split
   ·exact dsay_byteY _ _ _ _ _ _ _ no_byteY
   ·exact drefuse_byteY P s _
  ·split
   ·exact dsay_byteY _ _ _ _ _ _ _ no_byteY
   ·split
    ·exact dsay_byteY _ _ _ _ _ _ _ hap
    ·split
     ·exact dsay_byteY _ _ _ _ _ _ _ no_byteY
     ·exact drefuse_byteY P s _
theorem drecv_byteY (P:Pm) (mx n:Nat) (s:Sd) (hap:∀ i,i<P.i→s.ap i<256) (len:Nat) (bs:Nat→Nat):∀ i,i < (drecv P mx n s len bs).f.1→(drecv P mx n s len bs).f.2 i<256:=by
 have hh:∀ i,i < (dhear P mx n s len bs).f.1→(dhear P mx n s len bs).f.2 i<256:=by
  unfold dhear
  split
  ·exact fm0_byteY
  ·split
   ·exact fm0_byteY
   ·split
    ·exact fm0_byteY
    ·exact dtake_byteY P mx n s hap _ _ _ _ _ _
 unfold drecv
 split
 ·exact fm0_byteY
 ·split
  ·exact hh
  ·exact hh
theorem hnext_byteY (P:Pm) (s:Sh) (hap:∀ i,i<P.o→s.ap i<256):∀ i,i < (hnext P s).2.1→(hnext P s).2.2 i<256:=by
 unfold hnext
 split
 ·exact encF_byte _ _ _ _ _ _ _ (dsg_byte P)
 ·split
  ·exact encF_byte _ _ _ _ _ _ _ (dsg_byte P)
  ·split
   ·exact encF_byte _ _ _ _ _ _ _ no_byteY
   ·split
    ·exact encF_byte _ _ _ _ _ _ _ no_byteY
    ·exact encF_byte _ _ _ _ _ _ _ hap
theorem hmiss_apY (s:Sh):(hmiss s).ap=s.ap:=by
 unfold hmiss
 split
 ·rfl
 ·split
  ·rfl
  ·show (hgive _).ap=_
   unfold hgive
   split
   ·exact (hlatch_flds _ _).2.2.2.2.2.2.1
   ·rfl
theorem hsend_byteY (P:Pm) (s:Sh) (hap:∀ i,i<P.o→s.ap i<256):∀ i,i < (hsendF P s).1→(hsendF P s).2 i<256:=by
 unfold hsendF
 split
 ·exact fm0_byteY
 ·exact hnext_byteY P _ (by rw[hmiss_apY];exact hap)
theorem Ih.sentY {P:Pm} {s:Sh} (hP:Pok P) (h:Ih P s):s.st=4→s.sn+1<4294967296:=fun e=>by
 have:=(h.run e).1
 have:=hP.n
 omega
theorem htake_lenY (s:Sh) (k ss num fl:Nat) (bs:Nat→Nat):(htake s k ss num fl bs).L.length≤s.L.length+1:=by
 unfold htake
 split
 ·show s.L.length≤_;omega
 ·split
  ·show s.L.length≤_;omega
  ·split
   ·show s.L.length≤_;omega
   ·split
    ·show s.L.length≤_;omega
    ·split
     ·exact hexh_len (hon { s with nm:=num })
     ·show s.L.length≤_;omega
theorem hrecv_lenY (P:Pm) (s:Sh) (len:Nat) (bs:Nat→Nat):(hrecvS P s len bs).L.length≤s.L.length+1:=by
 unfold hrecvS
 split
 ·show (s.L ++ [_]).length≤_;simp
 ·exact htake_lenY _ _ _ _ _ _
theorem htick_lenY (P:Pm) (s:Sh) (k:Int):(htickS P s k).L.length≤s.L.length+1:=by
 unfold htickS
 split
 ·omega
 ·split
  ·exact hlatch_len { s with dc:=tk P.t s.dc k.toNat } 100
  ·show s.L.length≤_;omega
theorem hwrite_lenY (P:Pm) (s:Sh) (len:Nat) (bs:Nat→Nat) (o:Bool):(hwriteS P s len bs o).L.length≤s.L.length:=by
 unfold hwriteS
 split
 ·show s.L.length≤_;omega
 ·omega
theorem hsendF_lenY (P:Pm) (s:Sh):(hsendF P s).1≤27:=by
 have he:∀ k c s n f len bs,(encF k c s n f len bs).1≤27:=fun k c s n f len bs=>encI_lenY k c s n f len bs
 unfold hsendF hnext
 split
 ·show 0≤27;omega
 ·split
  ·exact he _ _ _ _ _ _ _
  ·split
   ·exact he _ _ _ _ _ _ _
   ·split
    ·exact he _ _ _ _ _ _ _
    ·split
     ·exact he _ _ _ _ _ _ _
     ·exact he _ _ _ _ _ _ _
theorem drecv_len27Y (P:Pm) (mx n:Nat) (s:Sd) (len:Nat) (bs:Nat→Nat):(drecv P mx n s len bs).f.1≤27:=by
 have he:∀ k c s n f len bs,(encF k c s n f len bs).1≤27:=fun k c s n f len bs=>encI_lenY k c s n f len bs
 have h0:fm0.1≤27:=by show 0≤27;omega
 have hb:∀ s,(dbegin P mx n s).f.1≤27:=fun s=>by
  unfold dbegin
  split
  ·exact he _ _ _ _ _ _ _
  ·split
   ·exact h0
   ·exact he _ _ _ _ _ _ _
 have ht:∀ k ss num fl len bs,(dtake P mx n s k ss num fl len bs).f.1≤27:=fun k ss num fl len bs=>by
  unfold dtake dwish drefuse
  repeat' split
  all_goals first | exact he _ _ _ _ _ _ _ | exact hb _
 have hh:(dhear P mx n s len bs).f.1≤27:=by
  unfold dhear
  repeat' split
  all_goals first | exact h0 | exact ht _ _ _ _ _ _
 unfold drecv
 split
 ·exact h0
 ·split <;> exact hh
open Go.RowKit Go.Maps
theorem wplayB (X:Nat) (m:Mv) (d:Option Addr) (c:Nat) (E:Int) (hE:(E != 0)=true) (w:World) (hRf:∀ w1,Below w.heap.size w w1→Calls Tryz.prog 24 #[.pointer (some ⟨X,0,none⟩),.agg #[.int .i64 m.k,.int .i64 m.c,.int .i64 m.s,.int .i64 m.f,.int .i64 m.a,.int .u32 (m.w:Nat),.int .i64 m.n,.bool m.h,.slice d m.l c]] w1 fun r w'=>r=.returned (.int .i64 E)∧Hid (Below w1.heap.size w1 w')):Calls Tryz.prog 12 #[.pointer (some ⟨X,0,none⟩),.agg #[.int .i64 m.k,.int .i64 m.c,.int .i64 m.s,.int .i64 m.f,.int .i64 m.a,.int .u32 (m.w:Nat),.int .i64 m.n,.bool m.h,.slice d m.l c]] w fun r w'=>r=.returned (.tuple #[.agg #[.int .i64 0,.int .i64 0,.int .i64 0,.int .i64 0,.int .i64 0,.int .u32 0,.int .i64 0,.bool false,.slice none 0 0,.int .i64 0,.int .i64 0,.int .i64 0,.int .u32 0,.int .u32 0,.int .u32 0,.int .i64 0,.int .i64 0,.bool false,.bool false,.slice none 0 0,.int .i64 0,.int .u32 0,.int .u32 0,.int .u32 0,.int .i64 0,.int .i64 0,.bool false,.bool false,.slice none 0 0],.int .i64 E])∧Below w.heap.size w w':=by
 have s1:=sz1 w (.cells #[.int .i64 m.k,.int .i64 m.c,.int .i64 m.s,.int .i64 m.f,.int .i64 m.a,.int .u32 (m.w:Nat),.int .i64 m.n,.bool m.h,.slice d m.l c] 38)
 have s2:=sz2 w (.cells #[.int .i64 m.k,.int .i64 m.c,.int .i64 m.s,.int .i64 m.f,.int .i64 m.a,.int .u32 (m.w:Nat),.int .i64 m.n,.bool m.h,.slice d m.l c] 38) (.cells #[.int .i64 0,.int .i64 0,.int .i64 0,.int .i64 0,.int .i64 0,.int .u32 0,.int .i64 0,.bool false,.slice none 0 0,.int .i64 0,.int .i64 0,.int .i64 0,.int .u32 0,.int .u32 0,.int .u32 0,.int .i64 0,.int .i64 0,.bool false,.bool false,.slice none 0 0,.int .i64 0,.int .u32 0,.int .u32 0,.int .u32 0,.int .i64 0,.int .i64 0,.bool false,.bool false,.slice none 0 0] 44)
 have bW:Below w.heap.size w ((w.alloc (.cells #[.int .i64 m.k,.int .i64 m.c,.int .i64 m.s,.int .i64 m.f,.int .i64 m.a,.int .u32 (m.w:Nat),.int .i64 m.n,.bool m.h,.slice d m.l c] 38)).alloc (.cells #[.int .i64 0,.int .i64 0,.int .i64 0,.int .i64 0,.int .i64 0,.int .u32 0,.int .i64 0,.bool false,.slice none 0 0,.int .i64 0,.int .i64 0,.int .i64 0,.int .u32 0,.int .u32 0,.int .u32 0,.int .i64 0,.int .i64 0,.bool false,.bool false,.slice none 0 0,.int .i64 0,.int .u32 0,.int .u32 0,.int .u32 0,.int .i64 0,.int .i64 0,.bool false,.bool false,.slice none 0 0] 44)):=belY (belY (Below.refl _ w) _) _
 have kp:((w.alloc (.cells #[.int .i64 m.k,.int .i64 m.c,.int .i64 m.s,.int .i64 m.f,.int .i64 m.a,.int .u32 (m.w:Nat),.int .i64 m.n,.bool m.h,.slice d m.l c] 38)).alloc (.cells #[.int .i64 0,.int .i64 0,.int .i64 0,.int .i64 0,.int .i64 0,.int .u32 0,.int .i64 0,.bool false,.slice none 0 0,.int .i64 0,.int .i64 0,.int .i64 0,.int .u32 0,.int .u32 0,.int .u32 0,.int .i64 0,.int .i64 0,.bool false,.bool false,.slice none 0 0,.int .i64 0,.int .u32 0,.int .u32 0,.int .u32 0,.int .i64 0,.int .i64 0,.bool false,.bool false,.slice none 0 0] 44)).heap[w.heap.size]?=some (.cells #[.int .i64 m.k,.int .i64 m.c,.int .i64 m.s,.int .i64 m.f,.int .i64 m.a,.int .u32 (m.w:Nat),.int .i64 m.n,.bool m.h,.slice d m.l c] 38 (0,0)):=(Below.heap_alloc _ _ _ (by omega)).trans (heap_alloc_new w _)
 have kr:=heap_alloc_new (w.alloc (.cells #[.int .i64 m.k,.int .i64 m.c,.int .i64 m.s,.int .i64 m.f,.int .i64 m.a,.int .u32 (m.w:Nat),.int .i64 m.n,.bool m.h,.slice d m.l c] 38)) (.cells #[.int .i64 0,.int .i64 0,.int .i64 0,.int .i64 0,.int .i64 0,.int .u32 0,.int .i64 0,.bool false,.slice none 0 0,.int .i64 0,.int .i64 0,.int .i64 0,.int .u32 0,.int .u32 0,.int .u32 0,.int .i64 0,.int .i64 0,.bool false,.bool false,.slice none 0 0,.int .i64 0,.int .u32 0,.int .u32 0,.int .u32 0,.int .i64 0,.int .i64 0,.bool false,.bool false,.slice none 0 0] 44)
 rw[s1]at kr
 obtain⟨wa,hwa⟩:∃ z,(w.alloc (.cells #[.int .i64 m.k,.int .i64 m.c,.int .i64 m.s,.int .i64 m.f,.int .i64 m.a,.int .u32 (m.w:Nat),.int .i64 m.n,.bool m.h,.slice d m.l c] 38)).alloc (.cells #[.int .i64 0,.int .i64 0,.int .i64 0,.int .i64 0,.int .i64 0,.int .u32 0,.int .i64 0,.bool false,.slice none 0 0,.int .i64 0,.int .i64 0,.int .i64 0,.int .u32 0,.int .u32 0,.int .u32 0,.int .i64 0,.int .i64 0,.bool false,.bool false,.slice none 0 0,.int .i64 0,.int .u32 0,.int .u32 0,.int .u32 0,.int .i64 0,.int .i64 0,.bool false,.bool false,.slice none 0 0] 44)=z:=⟨_,rfl⟩
 rw[hwa]at bW kp kr s2
 obtain⟨x,hx⟩:∃ z,w.heap.size=z:=⟨_,rfl⟩
 have HB:Hid (Below w.heap.size w wa):=bW
 rw[hx]at kp kr s2
 have p0:wa.cell? ⟨x,0,none⟩=some (.int .i64 m.k):=cell_of_row wa (x) 0 _ _ _ kp
 have p1:wa.cell? ⟨x,1,none⟩=some (.int .i64 m.c):=cell_of_row wa (x) 1 _ _ _ kp
 have p2:wa.cell? ⟨x,2,none⟩=some (.int .i64 m.s):=cell_of_row wa (x) 2 _ _ _ kp
 have p3:wa.cell? ⟨x,3,none⟩=some (.int .i64 m.f):=cell_of_row wa (x) 3 _ _ _ kp
 have p4:wa.cell? ⟨x,4,none⟩=some (.int .i64 m.a):=cell_of_row wa (x) 4 _ _ _ kp
 have p5:wa.cell? ⟨x,5,none⟩=some (.int .u32 (m.w:Nat)):=cell_of_row wa (x) 5 _ _ _ kp
 have p6:wa.cell? ⟨x,6,none⟩=some (.int .i64 m.n):=cell_of_row wa (x) 6 _ _ _ kp
 have p7:wa.cell? ⟨x,7,none⟩=some (.bool m.h):=cell_of_row wa (x) 7 _ _ _ kp
 have p8:wa.cell? ⟨x,8,none⟩=some (.slice d m.l c):=cell_of_row wa (x) 8 _ _ _ kp
 have hRc:=hRf wa bW
 clear hRf
 have HR:Hid (_):=kr
 have H2:Hid (wa.heap.size=x+2):=s2
 have HE:Hid (_=wa):=hwa
 have HS:Hid (w.heap.size=x):=hx
 clear s1 s2 bW kp kr hwa hx
 go_enter Tryz.func12,Tryz.ntmps12
 go_upto_region 1 with fail
 rw[HE.out,HS.out]
 go_wp2_with fail
 refine hRc.mono ?_
 rintro r w1 ⟨rfl,H1⟩
 have b1:=H1.out
 clear hRc H1
 have kr:=(b1.block (x+1) (by rw[H2.out];omega)).trans HR.out
 have hth:w1.there (x+1) 0 29:=there_row kr rfl
 have hrg:=World.rangeAt_setCells_same w1 (x+1) 0 #[.int .i64 0,.int .i64 0,.int .i64 0,.int .i64 0,.int .i64 0,.int .u32 0,.int .i64 0,.bool false,.slice none 0 0,.int .i64 0,.int .i64 0,.int .i64 0,.int .u32 0,.int .u32 0,.int .u32 0,.int .i64 0,.int .i64 0,.bool false,.bool false,.slice none 0 0,.int .i64 0,.int .u32 0,.int .u32 0,.int .u32 0,.int .i64 0,.int .i64 0,.bool false,.bool false,.slice none 0 0].toList hth
 have o1:=off_setCells w1 (x+1) 0 #[.int .i64 0,.int .i64 0,.int .i64 0,.int .i64 0,.int .i64 0,.int .u32 0,.int .i64 0,.bool false,.slice none 0 0,.int .i64 0,.int .i64 0,.int .i64 0,.int .u32 0,.int .u32 0,.int .u32 0,.int .i64 0,.int .i64 0,.bool false,.bool false,.slice none 0 0,.int .i64 0,.int .u32 0,.int .u32 0,.int .u32 0,.int .i64 0,.int .i64 0,.bool false,.bool false,.slice none 0 0].toList
 have hl:(loadVar 44 ⟨x+1,0,none⟩).run Tryz.prog (w1.setCells (x+1) 0 #[.int .i64 0,.int .i64 0,.int .i64 0,.int .i64 0,.int .i64 0,.int .u32 0,.int .i64 0,.bool false,.slice none 0 0,.int .i64 0,.int .i64 0,.int .i64 0,.int .u32 0,.int .u32 0,.int .u32 0,.int .i64 0,.int .i64 0,.bool false,.bool false,.slice none 0 0,.int .i64 0,.int .u32 0,.int .u32 0,.int .u32 0,.int .i64 0,.int .i64 0,.bool false,.bool false,.slice none 0 0].toList)=.ok (.agg #[.int .i64 0,.int .i64 0,.int .i64 0,.int .i64 0,.int .i64 0,.int .u32 0,.int .i64 0,.bool false,.slice none 0 0,.int .i64 0,.int .i64 0,.int .i64 0,.int .u32 0,.int .u32 0,.int .u32 0,.int .i64 0,.int .i64 0,.bool false,.bool false,.slice none 0 0,.int .i64 0,.int .u32 0,.int .u32 0,.int .u32 0,.int .i64 0,.int .i64 0,.bool false,.bool false,.slice none 0 0]) (w1.setCells (x+1) 0 #[.int .i64 0,.int .i64 0,.int .i64 0,.int .i64 0,.int .i64 0,.int .u32 0,.int .i64 0,.bool false,.slice none 0 0,.int .i64 0,.int .i64 0,.int .i64 0,.int .u32 0,.int .u32 0,.int .u32 0,.int .i64 0,.int .i64 0,.bool false,.bool false,.slice none 0 0,.int .i64 0,.int .u32 0,.int .u32 0,.int .u32 0,.int .i64 0,.int .i64 0,.bool false,.bool false,.slice none 0 0].toList):=run_loadVar_mid (P:=Tryz.prog) _ (x+1) 0 44 #[.int .i64 0,.int .i64 0,.int .i64 0,.int .i64 0,.int .i64 0,.int .u32 0,.int .i64 0,.bool false,.slice none 0 0,.int .i64 0,.int .i64 0,.int .i64 0,.int .u32 0,.int .u32 0,.int .u32 0,.int .i64 0,.int .i64 0,.bool false,.bool false,.slice none 0 0,.int .i64 0,.int .u32 0,.int .u32 0,.int .u32 0,.int .i64 0,.int .i64 0,.bool false,.bool false,.slice none 0 0].toList _ hrg Tryz.underlying44 rfl (by kernel_rfl)
 have HO:Hid (_):=And.intro o1 b1
 have HL:Hid (_):=hl
 have HT:Hid (_):=hth
 clear kr hrg o1 b1 hth hl
 go_upto_region 3 with fail
 apply wp_region_lit
 refine wpList_valY rfl (.agg #[.int .i64 0,.int .i64 0,.int .i64 0,.int .i64 0,.int .i64 0,.int .u32 0,.int .i64 0,.bool false,.slice none 0 0,.int .i64 0,.int .i64 0,.int .i64 0,.int .u32 0,.int .u32 0,.int .u32 0,.int .i64 0,.int .i64 0,.bool false,.bool false,.slice none 0 0,.int .i64 0,.int .u32 0,.int .u32 0,.int .u32 0,.int .i64 0,.int .i64 0,.bool false,.bool false,.slice none 0 0]) (by go_simp) ?_
 refine wpList_valY rfl (.int .i64 E) (by go_simp) ?_
 refine wpList_store_mid rfl 44 (.tmp 4) (.tmp 15) rfl (x+1) 0 #[.int .i64 0,.int .i64 0,.int .i64 0,.int .i64 0,.int .i64 0,.int .u32 0,.int .i64 0,.bool false,.slice none 0 0,.int .i64 0,.int .i64 0,.int .i64 0,.int .u32 0,.int .u32 0,.int .u32 0,.int .i64 0,.int .i64 0,.bool false,.bool false,.slice none 0 0,.int .i64 0,.int .u32 0,.int .u32 0,.int .u32 0,.int .i64 0,.int .i64 0,.bool false,.bool false,.slice none 0 0] (by kernel_rfl) (by kernel_rfl) HT.out (by kernel_rfl) (by kernel_rfl) ?_
 have HL2:=HL.out
 obtain⟨wz,hwz⟩:∃ z,w1.setCells (x+1) 0 #[.int .i64 0,.int .i64 0,.int .i64 0,.int .i64 0,.int .i64 0,.int .u32 0,.int .i64 0,.bool false,.slice none 0 0,.int .i64 0,.int .i64 0,.int .i64 0,.int .u32 0,.int .u32 0,.int .u32 0,.int .i64 0,.int .i64 0,.bool false,.bool false,.slice none 0 0,.int .i64 0,.int .u32 0,.int .u32 0,.int .u32 0,.int .i64 0,.int .i64 0,.bool false,.bool false,.slice none 0 0].toList=z:=⟨_,rfl⟩
 rw[hwz]at HL2 ⊢
 have HO2:=HO.out
 rw[hwz]at HO2
 have HO3:Hid (_):=HO2
 clear HO HO2 HL hwz
 refine wpList_valY rfl (.int .i64 E) (by go_simp) ?_
 go_wp2_with fail
 refine bodyPost_ret (v:=.tuple #[.agg #[.int .i64 0,.int .i64 0,.int .i64 0,.int .i64 0,.int .i64 0,.int .u32 0,.int .i64 0,.bool false,.slice none 0 0,.int .i64 0,.int .i64 0,.int .i64 0,.int .u32 0,.int .u32 0,.int .u32 0,.int .i64 0,.int .i64 0,.bool false,.bool false,.slice none 0 0,.int .i64 0,.int .u32 0,.int .u32 0,.int .u32 0,.int .i64 0,.int .i64 0,.bool false,.bool false,.slice none 0 0],.int .i64 E]) ((results_cell_tmp (t:=4) (u:=5) (ty:=44) rfl _ Tryz.prog wz (by kernel_rfl) HL2).trans (by kernel_rfl)) rfl ?_
 refine⟨rfl,?_⟩
 have hb:=HB.out
 have hb1:=HO3.out.2
 exact HO3.out.1.below (hb.trans (hb1.mono hb.size)) (by simp[HS.out]) (Nat.le_trans hb.size hb1.size)
structure Ws.Law (S:Ws) (m:Mv) (k:Nat):Prop where
 k1:1≤m.k
 k8:m.k≤8
 c:m.c=((k:Nat):Int)
 kn:k<S.n
 sd:m.k≠2→m.k≠8→m.s=1∨m.s=2
 fr:m.k=3∨m.k=4→0≤m.f∧m.f < ((S.bg.length:Nat):Int)
 gb:m.k=4→mkErr ((S.bg.getD m.f.toNat fm0).1:Nat) m.a m.w=0
 n5:m.k=5→0≤m.n∧m.n≤1048576
 n7:m.k=7→0≤m.n
theorem Ws.Law.of {S:Ws} {m:Mv} (h:S.bad m=0):S.up.Law m m.c.toNat:=by
 have o:=Ws.Ok.of h
 have h5:m.k=5→0≤m.n∧m.n≤1048576:=fun q=>by
  have hh:=h
  unfold Ws.bad at hh
  rw[if_neg (by have:=o.mv;omega),if_neg (by have:=o.k1;have:=o.k8;omega),if_neg (by have:=o.c0;have:=o.cn;omega),if_neg (fun z=>(o.sd z.1).elim z.2.1 z.2.2),if_neg (by omega),if_neg (by omega),if_pos q]at hh
  by_cases z:m.n<0∨1048576<m.n
  ·rw[if_pos z]at hh
   omega
  ·omega
 have h7:m.k=7→0≤m.n:=fun q=>by
  have hh:=h
  unfold Ws.bad at hh
  rw[if_neg (by have:=o.mv;omega),if_neg (by have:=o.k1;have:=o.k8;omega),if_neg (by have:=o.c0;have:=o.cn;omega),if_neg (fun z=>(o.sd z.1).elim z.2.1 z.2.2),if_neg (by omega),if_neg (by omega),if_neg (by omega),if_pos q]at hh
  by_cases z:m.n<0∨m.s=1∧0<m.n
  ·rw[if_pos z]at hh
   omega
  ·omega
 exact⟨o.k1,o.k8,by have:=o.c0;omega,by have:=o.c0;have:=o.cn;show m.c.toNat<S.n;omega,fun a b=>o.sd (by unfold sidedM;simp[a,b]),o.fr,o.gb,h5,h7⟩
structure Ws.Fit (S:Ws) (m:Mv) (k:Nat):Prop where
 fs:S.fs.length≤80000
 bg:S.bg.length<4096
 hms:(S.hs k).ms<4
 hst:1 ≤ (S.hs k).st∧(S.hs k).st≤5
 hsn:(S.hs k).st=4→(S.hs k).sn+1<4294967296
 hL:(S.hs k).L.length<700000
 hb:∀ j,j < (hsendF (S.PH k) (S.hs k)).1→(hsendF (S.PH k) (S.hs k)).2 j<256
 hf:(hsendF (S.PH k) (S.hs k)).1≤27
 dsn:(S.ds k).st=4→(S.ds k).sn+1<4294967296
 dod:(S.ds k).od<4
 dL:(S.ds k).L.length<800000
 dt:(S.ds k).ms.t<9223372036854774000
 db:∀ j,j < (drecv (S.PD k) S.mx 16 (S.ds k) (S.fr m).1 (S.fr m).2).f.1→(drecv (S.PD k) S.mx 16 (S.ds k) (S.fr m).1 (S.fr m).2).f.2 j<256
 df:(drecv (S.PD k) S.mx 16 (S.ds k) (S.fr m).1 (S.fr m).2).f.1≤27
theorem pactAny {e:Nat→Nat} {w0 w:World} {t:Nat→Thing} {L:Pw} {S:Ws} (k i:Nat) (m:Mv) (d:Option Addr) (c:Nat) (h:PWn e w0 t L w S) (F:Fre e t i) (ok:m.Ok) (l:S.Law m k) (f:S.Fit m k) (j:Nat) (hj:j<2*i+1) (hq:∀ q,j≠e q) (hr:t j=r8Y d m.l c m.b):Calls Tryz.prog 26 #[.pointer (some ⟨L.x,0,none⟩),.agg #[.int .i64 m.k,.int .i64 (k:Nat),.int .i64 m.s,.int .i64 m.f,.int .i64 m.a,.int .u32 (m.w:Nat),.int .i64 m.n,.bool m.h,.slice d m.l c]] w fun r w'=>r=.returned (.tuple #[.int .i64 (S.act m).e,.int .i64 (S.act m).i])∧Hid (PWn e w0 t L w' (S.act m).S):=by
 have hk:m.c.toNat=k:=by have:=l.c;omega
 have k1:=l.k1
 have k8:=l.k8
 unfold Ws.act
 rw[hk]
 dsimp only
 by_cases q1:m.k=1
 ·rw[if_pos q1]
  by_cases s1:m.s=1
  ·rw[if_pos s1]
   exact pact1H k i m d c h F l.kn s1 q1 j hj hq hr
  ·rw[if_neg s1]
   exact pact1D k i m d c h F l.kn ((l.sd (by omega) (by omega)).resolve_left s1) q1 j hj hq hr
 rw[if_neg q1]
 by_cases q2:m.k=2
 ·rw[if_pos q2]
  exact pact2 k i m d c h F q2 l.kn (by have:=f.fs;omega) f.bg f.hms f.hst f.hsn f.hL f.hb f.hf
 rw[if_neg q2]
 by_cases q3:m.k=3∨m.k=4
 ·rw[if_pos q3]
  have:=pact3 k i m d c h F q3 l.c l.kn f.fs f.bg (l.fr q3).1 (l.fr q3).2 ok.w l.gb (by have:=f.hL;omega) f.dsn f.dod f.dL f.dt f.db f.df
  unfold Ws.dlv at this
  exact this
 rw[if_neg q3]
 by_cases q5:m.k=5
 ·rw[if_pos q5]
  by_cases s1:m.s=1
  ·rw[if_pos s1]
   exact pact5H k i m d c h F l.kn s1 q5 (l.n5 q5) (by have:=f.fs;omega) (by have:=f.hL;omega)
  ·rw[if_neg s1]
   exact pact5D k i m d c h F l.kn ((l.sd (by omega) (by omega)).resolve_left s1) q5 (l.n5 q5) (by have:=f.fs;omega) f.dL
 rw[if_neg q5]
 by_cases q6:m.k=6
 ·rw[if_pos q6]
  by_cases s1:m.s=1
  ·rw[if_pos s1]
   exact pact6H k i m d c h F l.kn s1 q6 (by have:=f.fs;omega)
  ·rw[if_neg s1]
   exact pact6D k i m d c h F l.kn ((l.sd (by omega) (by omega)).resolve_left s1) q6 (by have:=f.fs;omega)
 rw[if_neg q6]
 by_cases q7:m.k=7
 ·rw[if_pos q7]
  by_cases s1:m.s=1
  ·rw[if_pos s1]
   exact pact7H k i m d c h F l.kn s1 q7 l.c (by have:=f.fs;omega)
  ·rw[if_neg s1]
   exact pact7D k i m d c h F l.kn ((l.sd (by omega) (by omega)).resolve_left s1) q7 l.c (by have:=f.fs;omega) ⟨l.n7 q7,ok.n.2⟩ f.dt
 rw[if_neg q7]
 exact pact8 k i m d c h F l.kn (by omega) ok.n.2
theorem act_n (S:Ws) (m:Mv):(S.act m).S.n=S.n:=by
 unfold Ws.act
 dsimp only
 split
 ·split <;> rfl
 ·split
  ·exact (put_n _ _ _ _).1
  ·split
   ·split
    ·unfold Ws.toH
     dsimp only
     split <;> rfl
    ·unfold Ws.toD
     dsimp only
     refine (put_n _ _ _ _).1.trans ?_
     unfold Ws.toD2
     split <;> rfl
   ·split
    ·split <;> rfl
    ·split
     ·split <;> rfl
     ·split
      ·split <;> rfl
      ·rfl
theorem pplayAny (e:Nat→Nat) (w0 w:World) (t:Nat→Thing) (L:Pw) (i:Nat) (m:Mv) (d:Option Addr) (c:Nat) (h:PW e w0 w t L) (F:Fre e t i) (ok:m.Ok) (hn:0<L.S.n) (R:Row8 w d m.l c m.b) (hdx:∀ y,d=some y→0<m.l→y.block≠L.x) (hl:m.l≤140737488351232) (hfit:L.S.bad m=0→L.S.up.Fit m m.c.toNat) (hfs:L.S.bad m=0→(L.S.up.act m).S.fs.length≤90000) :
  Calls Tryz.prog 12 #[.pointer (some ⟨L.x,0,none⟩),.agg #[.int .i64 m.k,.int .i64 m.c,.int .i64 m.s,.int .i64 m.f,.int .i64 m.a,.int .u32 (m.w:Nat),.int .i64 m.n,.bool m.h,.slice d m.l c]] w fun r w'=>
   (L.S.bad m≠0∧r=.returned (.tuple #[.agg #[.int .i64 0,.int .i64 0,.int .i64 0,.int .i64 0,.int .i64 0,.int .u32 0,.int .i64 0,.bool false,.slice none 0 0,.int .i64 0,.int .i64 0,.int .i64 0,.int .u32 0,.int .u32 0,.int .u32 0,.int .i64 0,.int .i64 0,.bool false,.bool false,.slice none 0 0,.int .i64 0,.int .u32 0,.int .u32 0,.int .u32 0,.int .i64 0,.int .i64 0,.bool false,.bool false,.slice none 0 0],.int .i64 (L.S.bad m)])∧Hid (PW e w0 w' t L∧Below w.heap.size w w')) ∨
   (L.S.bad m=0∧∃ a' c' ah ch ad cd,r=.returned (.tuple #[.agg #[Value.int .i64 m.k,Value.int .i64 m.c,Value.int .i64 m.s,Value.int .i64 m.f,Value.int .i64 m.a,Value.int .u32 (m.w:Nat),Value.int .i64 m.n,Value.bool m.h,Value.slice a' m.l c',Value.int .i64 (L.S.play m).e,Value.int .i64 (L.S.play m).i,Value.int .i64 (((L.S.play m).S.hs m.c.toNat).st:Nat),Value.int .u32 (((L.S.play m).S.hs m.c.toNat).ss:Nat),Value.int .u32 (((L.S.play m).S.hs m.c.toNat).nm:Nat),Value.int .u32 (((L.S.play m).S.hs m.c.toNat).sn:Nat),Value.int .i64 (((L.S.play m).S.hs m.c.toNat).dc:Nat),Value.int .i64 ((L.S.play m).S.hs m.c.toNat).v.lat,Value.bool (vreq ((L.S.play m).S.hs m.c.toNat).v),Value.bool (von ((L.S.play m).S.hs m.c.toNat).v),Value.slice ah ((L.S.play m).S.PH m.c.toNat).i ch,Value.int .i64 (((L.S.play m).S.ds m.c.toNat).st:Nat),Value.int .u32 (((L.S.play m).S.ds m.c.toNat).ss:Nat),Value.int .u32 (((L.S.play m).S.ds m.c.toNat).nm:Nat),Value.int .u32 (((L.S.play m).S.ds m.c.toNat).sn:Nat),Value.int .i64 (((L.S.play m).S.ds m.c.toNat).dc:Nat),Value.int .i64 ((L.S.play m).S.ds m.c.toNat).v.lat,Value.bool (vreq ((L.S.play m).S.ds m.c.toNat).v),Value.bool (von ((L.S.play m).S.ds m.c.toNat).v),Value.slice ad ((L.S.play m).S.PD m.c.toNat).o cd],.int .i64 0])∧Hid (PWn e w0 (rwT t i m (L.S.play m).S m.c.toNat a' c' ah ch ad cd) L w' (L.S.play m).S)):=by
 by_cases hb:L.S.bad m=0
 ·have l:=Ws.Law.of hb
  have ho:=Ws.Ok.of hb
  obtain⟨k,hk⟩:∃ k,m.c.toNat=k:=⟨_,rfl⟩
  rw[hk]at l
  have fit:=hfit hb
  rw[hk]at fit
  have hc:m.c=((k:Nat):Int):=l.c
  have hp:L.S.play m=⟨(L.S.up.act m).e,(L.S.up.act m).i,(L.S.up.act m).S.note [oH (L.S.up.act m).S k,oD (L.S.up.act m).S k]⟩:=by
   unfold Ws.play
   rw[if_neg (fun q=>q hb),hk]
   rfl
  have hRf:=prefAny e w0 w t L m d c h ok hn
  rw[hb,hc]at hRf
  have:=pplay e w0 w t L i k m d c (L.S.up.act m).e (L.S.up.act m).i (L.S.up.act m).S h F l.kn ho.mv R hdx hl (act_n _ _) (hfs hb) hRf
   (fun a' c' w1 t1 q F1 hr=>pactAny k (i+2) m a' c' q F1 ok l fit (2 * (i+1)+1) (by omega) (F (i+1) (by omega)).1 hr)
  rw[hp,hk,hc]
  refine this.mono ?_
  rintro r w' ⟨a',c',ah,ch,ad,cd,rfl,H⟩
  exact .inr ⟨hb,a',c',ah,ch,ad,cd,rfl,H⟩
 ·refine (wplayB L.x m d c (L.S.bad m) (by simpa using hb) w (prefAny e w0 w t L m d c h ok hn)).mono ?_
  rintro r w' ⟨rfl,b⟩
  exact .inl ⟨hb,rfl,h.below b,b⟩
structure Ws.Kn (S:Ws):Prop where
 ph:∀ k,k<S.n→Pok (S.PH k)
 pd:∀ k,k<S.n→Pok (S.PD k)
 ha:∀ k,k<S.n→∀ i,i < (S.PH k).o→(S.hs k).ap i<256
 da:∀ k,k<S.n→∀ i,i < (S.PD k).i→(S.ds k).ap i<256
 mo:∀ k,k<S.n→Mo S.mx 16 (S.ds k)
 fb:∀ f,f ∈ S.bg→f.1≤27∧∀ j,j<f.1→f.2 j<256
theorem PWn.kn {e:Nat→Nat} {w0 w:World} {t:Nat→Thing} {L:Pw} {S:Ws} (h:PWn e w0 t L w S):S.Kn:=by
 obtain⟨t1,L1,h1,hs,hx,he⟩:=h
 subst hs
 refine⟨fun k hk=>?_,fun k hk=>?_,fun k hk=>?_,fun k hk=>?_,fun k hk=>?_,(h1.2.bg h1.1).1.fl.small⟩
 ·obtain⟨B,y⟩:=h1.2.hv h1.1 hk
  exact y.pok
 ·obtain⟨B,y⟩:=h1.2.dv h1.1 hk
  exact y.pok
 ·obtain⟨B,y⟩:=h1.2.hv h1.1 hk
  exact y.apb
 ·obtain⟨B,y⟩:=h1.2.dv h1.1 hk
  exact y.apb
 ·exact Mo.of (h1.2.dv h1.1 hk)
structure Ws.In (S:Ws):Prop where
 ih:∀ k,k<S.n→Ih (S.PH k) (S.hs k)
 iv:∀ k,k<S.n→Iv (S.PD k) (S.ds k)
 hl:∀ k,k<S.n→(S.hs k).L.length≤3*S.mv
 dl:∀ k,k<S.n→(S.ds k).L.length≤3*S.mv∧(S.ds k).ms.t≤6*S.mv
 bg:S.bg.length≤S.mv
 fs:S.fs.length≤8*S.mv
theorem frB {S:Ws} (K:S.Kn) {m:Mv} (h:0≤m.f∧m.f < ((S.bg.length:Nat):Int)):∀ j,j < (S.fr m).1→(S.fr m).2 j<256:=by
 have hlt:m.f.toNat<S.bg.length:=by omega
 obtain⟨f,hf⟩:∃ y,S.bg.getD m.f.toNat fm0=y:=⟨_,rfl⟩
 have hg:S.bg[m.f.toNat]?=some f:=by
  rw[← hf,List.getD_eq_getElem?_getD,List.getElem?_eq_getElem hlt]
  rfl
 have hb:=K.fb f (List.mem_of_getElem? hg)
 unfold Ws.fr
 rw[hf]
 split
 ·intro j hj
  exact xr_lt (n:=f.1) hb.2 (fun i _=>gby_lt _ _ i) j hj
 ·exact hb.2
theorem Ws.In.fit {S:Ws} (I:S.In) (K:S.Kn) {m:Mv} (hv:S.mv<4096) {k:Nat} (hk:k<S.n):S.up.Fit m k:=by
 have h1:=I.ih k hk
 have h2:=I.iv k hk
 have h3:=I.hl k hk
 have h4:=I.dl k hk
 have h5:=I.bg
 have h6:=I.fs
 exact⟨by show S.fs.length≤80000;omega,by show S.bg.length<4096;omega,h1.ms,⟨h1.st1,h1.st5⟩,h1.sentY (K.ph k hk),by show (S.hs k).L.length<700000;omega,hsend_byteY _ _ (K.ha k hk),hsendF_lenY _ _,h2.sent (K.pd k hk),h2.od,by show (S.ds k).L.length<800000;omega,by show (S.ds k).ms.t<9223372036854774000;omega,drecv_byteY _ _ _ _ (K.da k hk) _ _,drecv_len27Y _ _ _ _ _ _⟩
structure Stp (S T:Ws) (k b c:Nat):Prop where
 n:T.n=S.n
 PH:T.PH=S.PH
 PD:T.PD=S.PD
 mx:T.mx=S.mx
 mv:T.mv=S.mv
 hs:∀ j,j≠k→T.hs j=S.hs j
 ds:∀ j,j≠k→T.ds j=S.ds j
 ih:Ih (S.PH k) (T.hs k)
 iv:Iv (S.PD k) (T.ds k)
 hl:(T.hs k).L.length ≤ (S.hs k).L.length+3
 dl:(T.ds k).L.length ≤ (S.ds k).L.length+3∧(T.ds k).ms.t ≤ (S.ds k).ms.t+6
 bg:T.bg.length≤S.bg.length+b
 fs:T.fs.length≤S.fs.length+c
section
variable {S T:Ws} {k b c:Nat}
theorem stpH (ih:Ih (S.PH k) (S.hs k)) (iv:Iv (S.PD k) (S.ds k)) {s:Sh} (h:Ih (S.PH k) s) (hl:s.L.length ≤ (S.hs k).L.length+3):Stp S (S.setH k s) k 0 0:=
 ⟨rfl,rfl,rfl,rfl,rfl,fun j hj=>putF_ne _ _ hj,fun _ _=>rfl,by show Ih (S.PH k) (putF S.hs k s k);rw[putF_same];exact h,iv,by show (putF S.hs k s k).L.length≤_;rw[putF_same];exact hl,⟨by show (S.ds k).L.length≤_;omega,by show (S.ds k).ms.t≤_;omega⟩,Nat.le_refl _,Nat.le_refl _⟩
theorem stpD (ih:Ih (S.PH k) (S.hs k)) (iv:Iv (S.PD k) (S.ds k)) {s:Sd} (h:Iv (S.PD k) s) (g:Gw (S.ds k) s):Stp S (S.setD k s) k 0 0:=
 ⟨rfl,rfl,rfl,rfl,rfl,fun _ _=>rfl,fun j hj=>putF_ne _ _ hj,ih,by show Iv (S.PD k) (putF S.ds k s k);rw[putF_same];exact h,by show (S.hs k).L.length≤_;omega,by show (putF S.ds k s k).L.length≤_∧(putF S.ds k s k).ms.t≤_;rw[putF_same];exact g,Nat.le_refl _,Nat.le_refl _⟩
theorem Stp.note (h:Stp S T k b c) (l:List Fa):Stp S (T.note l) k b (c+l.length):=
 ⟨h.n,h.PH,h.PD,h.mx,h.mv,h.hs,h.ds,h.ih,h.iv,h.hl,h.dl,h.bg,by show (T.fs ++ l).length≤_;rw[List.length_append];have:=h.fs;omega⟩
theorem Stp.more (h:Stp S T k b c) {b' c':Nat} (hb:b≤b') (hc:c≤c'):Stp S T k b' c':=
 ⟨h.n,h.PH,h.PD,h.mx,h.mv,h.hs,h.ds,h.ih,h.iv,h.hl,h.dl,by have:=h.bg;omega,by have:=h.fs;omega⟩
theorem Stp.put (h:Stp S T k b c) (k' s:Nat) (f:Fm):Stp S (T.put k' s f) k (b+1) (c+1):=by
 obtain⟨p1,p2,p3,p4,p5,p6,p7,p8⟩:=put_n T k' s f
 refine⟨p1.trans h.n,p5.trans h.PH,p4.trans h.PD,p6.trans h.mx,p7.trans h.mv,fun j hj=>by rw[p3];exact h.hs j hj,fun j hj=>by rw[p2];exact h.ds j hj,by rw[p3];exact h.ih,by rw[p2];exact h.iv,by rw[p3];exact h.hl,by rw[p2];exact h.dl,?_,by have:=h.fs;omega⟩
 have:=h.bg
 unfold Ws.put
 split
 ·omega
 ·show (T.bg ++ [f]).length≤_
  rw[List.length_append]
  simp
  omega
theorem iteLen {α:Type} {p:Prop} [Decidable p] (x:α):(if p then [x] else []).length≤1:=by split <;> simp
theorem stpAct (K:S.Kn) (ih:Ih (S.PH k) (S.hs k)) (iv:Iv (S.PD k) (S.ds k)) {m:Mv} (l:S.Law m k):Stp S (S.act m).S k 1 5:=by
 have hk:m.c.toNat=k:=by have:=l.c;omega
 have kn:=l.kn
 have M:=K.mo k kn
 have pH:=K.ph k kn
 have pD:=K.pd k kn
 unfold Ws.act
 rw[hk]
 dsimp only
 split
 ·split
  ·exact (stpH ih iv (ih.write _ _ _) (by have:=hwrite_lenY (S.PH k) (S.hs k) m.l m.b m.h;omega)).more (by omega) (by omega)
  ·exact (stpD ih iv (iv.write _ _ _) (gw_write _ _ _)).more (by omega) (by omega)
 ·split
  ·exact ((stpH ih iv (ih.send pH) (by have:=hsend_len (S.PH k) (S.hs k);omega)).put k 1 _).more (by omega) (by omega)
  ·split
   ·next q3=>
    have fb:=frB K (l.fr q3)
    split
    ·unfold Ws.toH
     dsimp only
     have h1:=stpH ih iv (ih.recv pH _ _ fb) (by have:=hrecv_lenY (S.PH k) (S.hs k) (S.fr m).1 (S.fr m).2;omega)
     split
     ·exact (h1.note _).more (by omega) (by have:=fFresh_len k 1 (S.fr m);omega)
     ·exact h1.more (by omega) (by omega)
    ·unfold Ws.toD
     dsimp only
     have h1:Stp S (S.toD1 k (S.fr m)) k 0 2:=by
      unfold Ws.toD1
      exact ((stpD ih iv (iv.recv pD M _ _) (gw_recv M _ _)).note _).more (by omega) (by have:=fChg_len k (S.ds k) (drecv (S.PD k) S.mx 16 (S.ds k) (S.fr m).1 (S.fr m).2).s;omega)
     have h2:Stp S (S.toD2 k (S.fr m)) k 0 4:=by
      unfold Ws.toD2
      split
      ·exact (h1.note _).more (by omega) (by have:=fFresh_len k 2 (S.fr m);omega)
      ·exact h1.more (by omega) (by omega)
     exact (h2.put k 2 _).more (by omega) (by omega)
   ·split
    ·split
     ·exact ((stpH ih iv (ih.tick _) (by have:=htick_lenY (S.PH k) (S.hs k) m.n;omega)).note _).more (by omega) (by have:=iteLen (p:=htickE m.n=0) (⟨5,k,1,0,m.n.toNat,false,0,fm0⟩:Fa);omega)
     ·exact ((stpD ih iv (iv.tick _) (gw_tick _)).note _).more (by omega) (by have:=iteLen (p:=dtickE (S.ds k) m.n=0) (⟨5,k,2,0,m.n.toNat,false,0,fm0⟩:Fa);omega)
    ·split
     ·split
      ·exact ((stpH ih iv ih.ack (Nat.le_add_right (S.hs k).L.length 3)).note _).more (by omega) (by have:=iteLen (p:=hackE (S.hs k)=0) (fOne 6 k 1);omega)
      ·exact ((stpD ih iv iv.ack gw_ack).note _).more (by omega) (by have:=iteLen (p:=dackE (S.ds k)=0) (fOne 6 k 2);omega)
     ·split
      ·split
       ·have h1:=(stpH ih iv (Ih.life (S.PH k) (S.hs k)) (Nat.le_add_right (S.hs k).L.length 3)).note [fOne 7 k 1]
        exact (show Stp S ((S.note [fOne 7 k 1]).setH k (hlife (S.hs k))) k 0 (0+1) from h1).more (by omega) (by omega)
       ·have h1:=(stpD ih iv (iv.reset (mx:=S.mx) (n:=16) m.n) (gw_reset M m.n)).note [fOne 7 k 2]
        exact (show Stp S ((S.note [fOne 7 k 2]).setD k (dresetS S.mx 16 (S.ds k) m.n)) k 0 (0+1) from h1).more (by omega) (by omega)
      ·exact (stpD ih iv (iv.arm _) (gw_arm _)).more (by omega) (by omega)
end
theorem Ws.In.play {S:Ws} (I:S.In) (K:S.Kn) {m:Mv}:(S.play m).S.In:=by
 by_cases hb:S.bad m=0
 ·have l:=Ws.Law.of hb
  obtain⟨k,hk⟩:∃ k,m.c.toNat=k:=⟨_,rfl⟩
  rw[hk]at l
  have K':S.up.Kn:=⟨K.ph,K.pd,K.ha,K.da,K.mo,K.fb⟩
  have h:=stpAct K' (I.ih k l.kn) (I.iv k l.kn) l
  have h2:=h.note [oH (S.up.act m).S k,oD (S.up.act m).S k]
  have hp:(S.play m).S=(S.up.act m).S.note [oH (S.up.act m).S k,oD (S.up.act m).S k]:=by
   unfold Ws.play
   rw[if_neg (fun q=>q hb),hk]
   rfl
  rw[hp]
  obtain⟨T,hT⟩:∃ T,(S.up.act m).S.note [oH (S.up.act m).S k,oD (S.up.act m).S k]=T:=⟨_,rfl⟩
  rw[hT]at h2 ⊢
  have e1:T.mv=S.mv+1:=h2.mv
  have e2:T.n=S.n:=h2.n
  refine⟨fun j hj=>?_,fun j hj=>?_,fun j hj=>?_,fun j hj=>?_,?_,?_⟩
  ·rw[show T.PH j=S.PH j from congrFun h2.PH j]
   by_cases z:j=k
   ·subst z;exact h2.ih
   ·rw[show T.hs j=S.hs j from h2.hs j z];exact I.ih j (by omega)
  ·rw[show T.PD j=S.PD j from congrFun h2.PD j]
   by_cases z:j=k
   ·subst z;exact h2.iv
   ·rw[show T.ds j=S.ds j from h2.ds j z];exact I.iv j (by omega)
  ·rw[e1]
   by_cases z:j=k
   ·subst z
    have:=I.hl j (by omega)
    have:(T.hs j).L.length ≤ (S.hs j).L.length+3:=h2.hl
    omega
   ·rw[show T.hs j=S.hs j from h2.hs j z]
    have:=I.hl j (by omega)
    omega
  ·rw[e1]
   by_cases z:j=k
   ·subst z
    have:=I.dl j (by omega)
    have q:(T.ds j).L.length ≤ (S.ds j).L.length+3∧(T.ds j).ms.t ≤ (S.ds j).ms.t+6:=h2.dl
    omega
   ·rw[show T.ds j=S.ds j from h2.ds j z]
    have:=I.dl j (by omega)
    omega
  ·rw[e1]
   have:=I.bg
   have q:T.bg.length≤S.bg.length+1:=h2.bg
   omega
  ·rw[e1]
   have:=I.fs
   have q:T.fs.length≤S.fs.length + (5+2):=h2.fs
   omega
 ·have hp:(S.play m).S=S:=by
   unfold Ws.play
   rw[if_pos hb]
  rw[hp]
  exact I
theorem Ws.In.room {S:Ws} (I:S.In) (K:S.Kn) {m:Mv} (hb:S.bad m=0):(S.up.act m).S.fs.length≤90000:=by
 have l:=Ws.Law.of hb
 have o:=Ws.Ok.of hb
 have K':S.up.Kn:=⟨K.ph,K.pd,K.ha,K.da,K.mo,K.fb⟩
 have h:=(stpAct K' (I.ih _ l.kn) (I.iv _ l.kn) l).fs
 have q:(S.up.act m).S.fs.length≤S.fs.length+5:=h
 have:=I.fs
 have:=o.mv
 omega
theorem pplayIn (e:Nat→Nat) (w0 w:World) (t:Nat→Thing) (L:Pw) (i:Nat) (m:Mv) (d:Option Addr) (c:Nat) (h:PW e w0 w t L) (F:Fre e t i) (I:L.S.In) (ok:m.Ok) (hn:0<L.S.n) (R:Row8 w d m.l c m.b) (hdx:∀ y,d=some y→0<m.l→y.block≠L.x) (hl:m.l≤140737488351232) :
  Calls Tryz.prog 12 #[.pointer (some ⟨L.x,0,none⟩),.agg #[.int .i64 m.k,.int .i64 m.c,.int .i64 m.s,.int .i64 m.f,.int .i64 m.a,.int .u32 (m.w:Nat),.int .i64 m.n,.bool m.h,.slice d m.l c]] w fun r w'=>
   (L.S.bad m≠0∧r=.returned (.tuple #[.agg #[.int .i64 0,.int .i64 0,.int .i64 0,.int .i64 0,.int .i64 0,.int .u32 0,.int .i64 0,.bool false,.slice none 0 0,.int .i64 0,.int .i64 0,.int .i64 0,.int .u32 0,.int .u32 0,.int .u32 0,.int .i64 0,.int .i64 0,.bool false,.bool false,.slice none 0 0,.int .i64 0,.int .u32 0,.int .u32 0,.int .u32 0,.int .i64 0,.int .i64 0,.bool false,.bool false,.slice none 0 0],.int .i64 (L.S.bad m)])∧Hid (PW e w0 w' t L∧Below w.heap.size w w')) ∨
   (L.S.bad m=0∧∃ a' c' ah ch ad cd,r=.returned (.tuple #[.agg #[Value.int .i64 m.k,Value.int .i64 m.c,Value.int .i64 m.s,Value.int .i64 m.f,Value.int .i64 m.a,Value.int .u32 (m.w:Nat),Value.int .i64 m.n,Value.bool m.h,Value.slice a' m.l c',Value.int .i64 (L.S.play m).e,Value.int .i64 (L.S.play m).i,Value.int .i64 (((L.S.play m).S.hs m.c.toNat).st:Nat),Value.int .u32 (((L.S.play m).S.hs m.c.toNat).ss:Nat),Value.int .u32 (((L.S.play m).S.hs m.c.toNat).nm:Nat),Value.int .u32 (((L.S.play m).S.hs m.c.toNat).sn:Nat),Value.int .i64 (((L.S.play m).S.hs m.c.toNat).dc:Nat),Value.int .i64 ((L.S.play m).S.hs m.c.toNat).v.lat,Value.bool (vreq ((L.S.play m).S.hs m.c.toNat).v),Value.bool (von ((L.S.play m).S.hs m.c.toNat).v),Value.slice ah ((L.S.play m).S.PH m.c.toNat).i ch,Value.int .i64 (((L.S.play m).S.ds m.c.toNat).st:Nat),Value.int .u32 (((L.S.play m).S.ds m.c.toNat).ss:Nat),Value.int .u32 (((L.S.play m).S.ds m.c.toNat).nm:Nat),Value.int .u32 (((L.S.play m).S.ds m.c.toNat).sn:Nat),Value.int .i64 (((L.S.play m).S.ds m.c.toNat).dc:Nat),Value.int .i64 ((L.S.play m).S.ds m.c.toNat).v.lat,Value.bool (vreq ((L.S.play m).S.ds m.c.toNat).v),Value.bool (von ((L.S.play m).S.ds m.c.toNat).v),Value.slice ad ((L.S.play m).S.PD m.c.toNat).o cd],.int .i64 0])∧Hid (PWn e w0 (rwT t i m (L.S.play m).S m.c.toNat a' c' ah ch ad cd) L w' (L.S.play m).S)):=
 pplayAny e w0 w t L i m d c h F ok hn R hdx hl (fun hb=>I.fit h.n.kn (Ws.Ok.of hb).mv (Ws.Law.of hb).kn) (fun hb=>I.room h.n.kn hb)
end Go.Proofs.YtgaeofgdiaknpaaGreat
namespace Go.Proofs.YtgaeofgdiaknpaaGreat
set_option maxRecDepth 100000
open Go.RowKit Go.Maps
set_option linter.unusedVariables false
def sN (n mx:Nat) (PH PD:Nat→Pm):Ws:=⟨n,PH,PD,fun _=>hnew,fun _=>dnew M0,mx,[],0,[]⟩
def Ng.pw (G:Ng):Pw:=⟨G.X,G.v0,G.v1,G.vc,.slice none 0 0,[],[],G.b,G.m,.slice none 0 0,[],none,G.h,G.hU,G.d,G.dm,G.g,G.dU,sN G.n G.mx G.PH G.PD⟩
theorem Ng.same (G:Ng) (hi:G.i=G.n) {j:Nat} (hj:2≤j):G.pw.t j=G.t (j+4):=by
 unfold Pw.t Ng.t
 rw[if_neg (by omega:¬ j=0),if_neg (by omega:¬ j=1),if_neg (by omega:¬ j+4=0),if_neg (by omega:¬ j+4=1),if_neg (by omega:¬ j+4=2),if_neg (by omega:¬ j+4=3),if_neg (by omega:¬ j+4=4),if_neg (by omega:¬ j+4=5)]
 rw[show j+4-6=j-2 by omega,hi]
 show (if j-2<2*G.n then _ else _)=_
 by_cases h:j-2<2*G.n
 ·rw[if_pos h,if_pos h]
  by_cases q:(j-2) % 2=0
  ·rw[if_pos q,if_pos (by omega:(j+4) % 2=0)]
   rfl
  ·rw[if_neg q,if_neg (by omega:¬ (j+4) % 2=0)]
   rfl
 ·rw[if_neg h,if_neg h]
theorem Ng.mem (G:Ng) (hi:G.i=G.n) (q k:Nat) (hk:k ∈ (evT G.pw q).U):(q=0∧∃ a,a≤3∧k ∈ (G.t a).U)∨(q=2∧k ∈ (G.t 4).U)∨(4≤q∧q % 2=0∧k ∈ (G.t (q / 2+4)).U):=by
 unfold evT at hk
 by_cases h2:q % 2=0
 ·rw[if_pos h2]at hk
  by_cases z0:q / 2=0
  ·rw[z0]at hk
   have hk:k ∈ G.pw.core.U:=hk
   simp only[Wc.U,Pw.core,Ng.pw,List.mem_cons,List.mem_append,Option.mem_toList,List.not_mem_nil,or_false]at hk
   refine .inl ⟨by omega,?_⟩
   rcases hk with hk | hk | hk | hk | hk
   ·exact⟨0,by omega,by show k ∈ [G.X];simp[hk]⟩
   ·exact⟨1,by omega,by show k ∈ G.v0.ownBlock.toList;simp[hk]⟩
   ·exact⟨2,by omega,by show k ∈ G.v1.ownBlock.toList;simp[hk]⟩
   ·exact⟨3,by omega,by show k ∈ G.vc.ownBlock.toList;simp[hk]⟩
   ·cases hk
  ·by_cases z1:q / 2=1
   ·rw[z1]at hk
    exact .inr (.inl ⟨by omega,hk⟩)
   ·rw[G.same hi (by omega)]at hk
    exact .inr (.inr ⟨by omega,h2,hk⟩)
 ·rw[if_neg h2]at hk
  simp[noT]at hk
theorem Ng.world {w0 w:World} {G:Ng} (A:Al w0 w G.t) (hi:G.i=G.n):PW ev w0 w (evT G.pw) G.pw:=by
 have wb:WB G.pw.core w:=by
  refine⟨A.get (i:=0) (x:=blT [(G.X,G.blk)]) rfl _ (List.mem_cons_self ..),A.get (i:=1) (x:=rowT 50 5 G.v0 G.n (flM G.n G.PH)) rfl,A.get (i:=2) (x:=rowT 50 5 G.v1 G.n (flM G.n G.PD)) rfl,?_,⟨rfl,.inl ⟨rfl,rfl⟩⟩,rfl,fun i f d hf=>by simp[Ng.pw,Pw.core,sN]at hf,fun k hk=>by simp[Ng.pw,Pw.core]at hk⟩
  have:=A.get (i:=3) (x:=rowT 73 3 G.vc G.i (cnL G.i G.h G.d G.dm)) rfl
  rw[hi]at this
  exact this
 refine⟨⟨A.bel,fun q=>?_,fun q k hk=>?_,fun p q hpq k hp hq=>?_⟩,evT_wat _⟩
 ·unfold evT
  by_cases h2:q % 2=0
  ·rw[if_pos h2]
   by_cases z0:q / 2=0
   ·rw[z0]
    exact wb
   ·by_cases z1:q / 2=1
    ·rw[z1]
     exact A.get (i:=4) (x:=bgT G.b G.m (.slice none 0 0) [] none []) rfl
    ·rw[G.same hi (by omega)]
     exact A.ok _
  ·rw[if_neg h2]
   trivial
 ·rcases G.mem hi q k hk with ⟨_,a,_,h⟩ | ⟨_,h⟩ | ⟨_,_,h⟩
  ·exact A.lt a k h
  ·exact A.lt 4 k h
  ·exact A.lt _ k h
 ·rcases G.mem hi p k hp with ⟨e1,a,ha,h1⟩ | ⟨e1,h1⟩ | ⟨e1,f1,h1⟩
  ·rcases G.mem hi q k hq with ⟨e2,b,hb,h2⟩ | ⟨e2,h2⟩ | ⟨e2,f2,h2⟩
   ·omega
   ·exact A.dis a 4 (by omega) k h1 h2
   ·exact A.dis a _ (by omega) k h1 h2
  ·rcases G.mem hi q k hq with ⟨e2,b,hb,h2⟩ | ⟨e2,h2⟩ | ⟨e2,f2,h2⟩
   ·exact A.dis 4 b (by omega) k h1 h2
   ·omega
   ·exact A.dis 4 _ (by omega) k h1 h2
  ·rcases G.mem hi q k hq with ⟨e2,b,hb,h2⟩ | ⟨e2,h2⟩ | ⟨e2,f2,h2⟩
   ·exact A.dis _ b (by omega) k h1 h2
   ·exact A.dis _ 4 (by omega) k h1 h2
   ·exact A.dis _ _ (by omega) k h1 h2
theorem sN_in (n mx:Nat) (PH PD:Nat→Pm):(sN n mx PH PD).In:=
 ⟨fun k hk=>Ih.new_ _,fun k hk=>Iv.new_ _,fun k hk=>Nat.le_refl _,fun k hk=>⟨Nat.le_refl _,by show (0:Int)≤6 * ((0:Nat):Int);decide⟩,Nat.le_refl _,Nat.le_refl _⟩
theorem Ng.mem0 (G:Ng) (hi:G.i=0) (hvc:G.vc=.slice none 0 0) (q k:Nat) (hk:k ∈ (G.t q).U):(q=0∧k=G.X)∨(q=1∧G.v0.ownBlock=some k)∨(q=2∧G.v1.ownBlock=some k)∨(q=4∧(k=G.b∨k=G.m))∨(q=5∧k=G.x):=by
 unfold Ng.t at hk
 by_cases q0:q=0
 ·rw[if_pos q0]at hk
  have hk:k ∈ [G.X]:=hk
  exact .inl ⟨q0,by simpa using hk⟩
 rw[if_neg q0]at hk
 by_cases q1:q=1
 ·rw[if_pos q1]at hk
  have hk:k ∈ G.v0.ownBlock.toList:=hk
  exact .inr (.inl ⟨q1,by simpa using hk⟩)
 rw[if_neg q1]at hk
 by_cases q2:q=2
 ·rw[if_pos q2]at hk
  have hk:k ∈ G.v1.ownBlock.toList:=hk
  exact .inr (.inr (.inl ⟨q2,by simpa using hk⟩))
 rw[if_neg q2]at hk
 by_cases q3:q=3
 ·rw[if_pos q3,hvc]at hk
  have hk:k ∈ (Value.slice none 0 0).ownBlock.toList:=hk
  simp[Value.ownBlock]at hk
 rw[if_neg q3]at hk
 by_cases q4:q=4
 ·rw[if_pos q4]at hk
  have hk:k ∈ bgU G.b G.m (.slice none 0 0) [] none:=hk
  simp[bgU,Value.ownBlock]at hk
  exact .inr (.inr (.inr (.inl ⟨q4,hk⟩)))
 rw[if_neg q4]at hk
 by_cases q5:q=5
 ·rw[if_pos q5]at hk
  have hk:k ∈ [G.x]:=hk
  exact .inr (.inr (.inr (.inr ⟨q5,by simpa using hk⟩)))
 rw[if_neg q5,if_neg (by omega)]at hk
 simp[noT]at hk
theorem Ng.start {w wx:World} {G:Ng} (hi:G.i=0) (hvc:G.vc=.slice none 0 0) (bel:Below w.heap.size w wx) (k0:wx.heap[G.X]?=some G.blk) (r0:wx.ownsRow 0 50 5 G.v0 G.n (flM G.n G.PH)) (r1:wx.ownsRow 0 50 5 G.v1 G.n (flM G.n G.PD)) (bg:Bg 0 wx G.b G.m (.slice none 0 0) [] none []) (kx:wx.heap[G.x]?=some G.ob)
  (lx:G.x=w.heap.size) (l0:∀ k,G.v0.ownBlock=some k→w.heap.size<k∧k<G.m) (l1:∀ k,G.v1.ownBlock=some k→w.heap.size<k∧k<G.m) (l01:∀ k,G.v0.ownBlock=some k→G.v1.ownBlock≠some k) (mb:G.b=G.m+1) (bX:G.X=G.m+2) (lm:w.heap.size<G.m):Al w wx G.t:=by
 have lX:=(Array.getElem?_eq_some_iff.1 k0).1
 refine⟨bel,fun q=>?_,fun q k hk=>?_,fun p q hpq k hp hq=>?_⟩
 ·unfold Ng.t
  by_cases q0:q=0
  ·rw[if_pos q0]
   intro p hp
   simp only[List.mem_cons,List.not_mem_nil,or_false]at hp
   subst hp
   exact k0
  rw[if_neg q0]
  by_cases q1:q=1
  ·rw[if_pos q1];exact r0
  rw[if_neg q1]
  by_cases q2:q=2
  ·rw[if_pos q2];exact r1
  rw[if_neg q2]
  by_cases q3:q=3
  ·rw[if_pos q3,hvc,hi]
   exact⟨rfl,.inl ⟨rfl,rfl⟩⟩
  rw[if_neg q3]
  by_cases q4:q=4
  ·rw[if_pos q4];exact⟨bg,rfl⟩
  rw[if_neg q4]
  by_cases q5:q=5
  ·rw[if_pos q5]
   intro p hp
   simp only[List.mem_cons,List.not_mem_nil,or_false]at hp
   subst hp
   exact kx
  rw[if_neg q5,if_neg (by omega)]
  trivial
 ·rcases G.mem0 hi hvc q k hk with ⟨_,e⟩ | ⟨_,e⟩ | ⟨_,e⟩ | ⟨_,e | e⟩ | ⟨_,e⟩
  ·omega
  ·have:=l0 k e;omega
  ·have:=l1 k e;omega
  ·omega
  ·omega
  ·omega
 ·rcases G.mem0 hi hvc p k hp with ⟨e1,hp⟩ | ⟨e1,hp⟩ | ⟨e1,hp⟩ | ⟨e1,hp | hp⟩ | ⟨e1,hp⟩
  all_goals rcases G.mem0 hi hvc q k hq with ⟨e2,hq⟩ | ⟨e2,hq⟩ | ⟨e2,hq⟩ | ⟨e2,hq | hq⟩ | ⟨e2,hq⟩
  all_goals first
   | exact hpq (by omega)
   | omega
   | (have:=l0 k hp;omega)
   | (have:=l1 k hp;omega)
   | (have:=l0 k hq;omega)
   | (have:=l1 k hq;omega)
   | exact l01 k hp hq
   | exact l01 k hq hp
end Go.Proofs.YtgaeofgdiaknpaaGreat
