/- Part 49 of the texts on which the proof rests: contracts of Go functions. -/
import Derived.Test.YtiopiheomoehbaaGreatPkF16
import Derived.Test.YtiopiheomoehbaaGreatPkF38
import Derived.Test.YtiopiheomoehbaaGreatPkF47
namespace Go.Proofs.YtiopiheomoehbaaGreat
set_option maxRecDepth 100000
open Go.RowKit
set_option linter.unusedVariables false
theorem dsay_byteY (P:Pm) (s:Sd) (k num fl len:Nat) (bs:Nat→Nat) (hb:∀ i,i<len→bs i<256):∀ i,i < (dsay P s k num fl len bs).1→(dsay P s k num fl len bs).2 i<256:=encF_byte _ _ _ _ _ _ _ hb
theorem encI_lenY (k c s n:Nat) (f:Int) (len:Nat) (bs:Nat→Nat):(encI k c s n f len bs).1≤27:=by
 unfold encI
 by_cases h:LW k c s n f len len=0
 ·rw[if_pos h]
  have:=(LW_zero h).2.2.2.1
  show 15+len+4≤27
  omega
 ·rw[if_neg h];show 0≤27;omega
theorem no_byteY {bs:Nat→Nat}:∀ i,i<0→bs i<256:=fun i hi=>absurd hi (Nat.not_lt_zero i)
theorem fm0_byteY:∀ i,i<fm0.1→fm0.2 i<256:=fun i hi=>absurd hi (Nat.not_lt_zero i)
theorem dbegin_byteY (P:Pm) (mx n:Nat) (s:Sd):∀ i,i < (dbegin P mx n s).f.1→(dbegin P mx n s).f.2 i<256:=by
 unfold dbegin
 split
 ·exact dsay_byteY _ _ _ _ _ _ _ no_byteY
 ·split
  ·exact fm0_byteY
  ·exact dsay_byteY _ _ _ _ _ _ _ (dsg_byte P)
theorem dwish_byteY (P:Pm) (mx n:Nat) (s:Sd):∀ i,i < (dwish P mx n s).f.1→(dwish P mx n s).f.2 i<256:=by
 unfold dwish
 split
 ·exact dsay_byteY _ _ _ _ _ _ _ (dsg_byte P)
 ·split
  ·exact dsay_byteY _ _ _ _ _ _ _ no_byteY
  ·exact dbegin_byteY P mx n _
theorem drefuse_byteY (P:Pm) (s:Sd) (e:Int):∀ i,i < (drefuse P s e).f.1→(drefuse P s e).f.2 i<256:=dsay_byteY _ _ _ _ _ _ _ no_byteY
theorem dtake_byteY (P:Pm) (mx n:Nat) (s:Sd) (hap:∀ i,i<P.i→s.ap i<256) (k ss num fl len:Nat) (bs:Nat→Nat):∀ i,i < (dtake P mx n s k ss num fl len bs).f.1→(dtake P mx n s k ss num fl len bs).f.2 i<256:=by
 unfold dtake
 split
 ·split
  ·exact dwish_byteY P mx n s
  ·exact drefuse_byteY P s _
 ·split
  ·split
   ·exact dsay_byteY _ _ _ _ _ _ _ no_byteY
   ·exact drefuse_byteY P s _
  ·split
   ·exact dsay_byteY _ _ _ _ _ _ _ no_byteY
   ·split
    ·exact dsay_byteY _ _ _ _ _ _ _ hap
    ·split
     ·exact dsay_byteY _ _ _ _ _ _ _ no_byteY
     ·exact drefuse_byteY P s _
theorem drecv_byteY (P:Pm) (mx n:Nat) (s:Sd) (hap:∀ i,i<P.i→s.ap i<256) (len:Nat) (bs:Nat→Nat):∀ i,i < (drecv P mx n s len bs).f.1→(drecv P mx n s len bs).f.2 i<256:=by
 have hh:∀ i,i < (dhear P mx n s len bs).f.1→(dhear P mx n s len bs).f.2 i<256:=by
  unfold dhear
  split
  ·exact fm0_byteY
  ·split
   ·exact fm0_byteY
   ·split
    ·exact fm0_byteY
    ·exact dtake_byteY P mx n s hap _ _ _ _ _ _
 unfold drecv
 split
 ·exact fm0_byteY
 ·split
  ·exact hh
  ·exact hh
theorem hnext_byteY (P:Pm) (s:Sh) (hap:∀ i,i<P.o→s.ap i<256):∀ i,i < (hnext P s).2.1→(hnext P s).2.2 i<256:=by
 unfold hnext
 split
 ·exact encF_byte _ _ _ _ _ _ _ (dsg_byte P)
 ·split
  ·exact encF_byte _ _ _ _ _ _ _ (dsg_byte P)
  ·split
   ·exact encF_byte _ _ _ _ _ _ _ no_byteY
   ·split
    ·exact encF_byte _ _ _ _ _ _ _ no_byteY
    ·exact encF_byte _ _ _ _ _ _ _ hap
theorem hmiss_apY (s:Sh):(hmiss s).ap=s.ap:=by
 unfold hmiss
 split
 ·rfl
 ·split
  ·rfl
  ·show (hgive _).ap=_
   unfold hgive
   split
   ·exact (hlatch_flds _ _).2.2.2.2.2.2.1
   ·rfl
theorem hsend_byteY (P:Pm) (s:Sh) (hap:∀ i,i<P.o→s.ap i<256):∀ i,i < (hsendF P s).1→(hsendF P s).2 i<256:=by
 unfold hsendF
 split
 ·exact fm0_byteY
 ·exact hnext_byteY P _ (by rw[hmiss_apY];exact hap)
theorem Ih.sentY {P:Pm} {s:Sh} (hP:Pok P) (h:Ih P s):s.st=4→s.sn+1<4294967296:=fun e=>by
 have:=(h.run e).1
 have:=hP.n
 omega
theorem htake_lenY (s:Sh) (k ss num fl:Nat) (bs:Nat→Nat):(htake s k ss num fl bs).L.length≤s.L.length+1:=by
 unfold htake
 split
 ·show s.L.length≤_;omega
 ·split
  ·show s.L.length≤_;omega
  ·split
   ·show s.L.length≤_;omega
   ·split
    ·show s.L.length≤_;omega
    ·split
     ·exact hexh_len (hon { s with nm:=num })
     ·show s.L.length≤_;omega
theorem hrecv_lenY (P:Pm) (s:Sh) (len:Nat) (bs:Nat→Nat):(hrecvS P s len bs).L.length≤s.L.length+1:=by
 unfold hrecvS
 split
 ·show (s.L ++ [_]).length≤_;simp
 ·exact htake_lenY _ _ _ _ _ _
theorem htick_lenY (P:Pm) (s:Sh) (k:Int):(htickS P s k).L.length≤s.L.length+1:=by
 unfold htickS
 split
 ·omega
 ·split
  ·exact hlatch_len { s with dc:=tk P.t s.dc k.toNat } 100
  ·show s.L.length≤_;omega
theorem hwrite_lenY (P:Pm) (s:Sh) (len:Nat) (bs:Nat→Nat) (o:Bool):(hwriteS P s len bs o).L.length≤s.L.length:=by
 unfold hwriteS
 split
 ·show s.L.length≤_;omega
 ·omega
theorem hsendF_lenY (P:Pm) (s:Sh):(hsendF P s).1≤27:=by
 have he:∀ k c s n f len bs,(encF k c s n f len bs).1≤27:=fun k c s n f len bs=>encI_lenY k c s n f len bs
 unfold hsendF hnext
 split
 ·show 0≤27;omega
 ·split
  ·exact he _ _ _ _ _ _ _
  ·split
   ·exact he _ _ _ _ _ _ _
   ·split
    ·exact he _ _ _ _ _ _ _
    ·split
     ·exact he _ _ _ _ _ _ _
     ·exact he _ _ _ _ _ _ _
theorem drecv_len27Y (P:Pm) (mx n:Nat) (s:Sd) (len:Nat) (bs:Nat→Nat):(drecv P mx n s len bs).f.1≤27:=by
 have he:∀ k c s n f len bs,(encF k c s n f len bs).1≤27:=fun k c s n f len bs=>encI_lenY k c s n f len bs
 have h0:fm0.1≤27:=by show 0≤27;omega
 have hb:∀ s,(dbegin P mx n s).f.1≤27:=fun s=>by
  unfold dbegin
  split
  ·exact he _ _ _ _ _ _ _
  ·split
   ·exact h0
   ·exact he _ _ _ _ _ _ _
 have ht:∀ k ss num fl len bs,(dtake P mx n s k ss num fl len bs).f.1≤27:=fun k ss num fl len bs=>by
  unfold dtake dwish drefuse
  repeat' split
  all_goals first | exact he _ _ _ _ _ _ _ | exact hb _
 have hh:(dhear P mx n s len bs).f.1≤27:=by
  unfold dhear
  repeat' split
  all_goals first | exact h0 | exact ht _ _ _ _ _ _
 unfold drecv
 split
 ·exact h0
 ·split <;> exact hh
end Go.Proofs.YtiopiheomoehbaaGreat
