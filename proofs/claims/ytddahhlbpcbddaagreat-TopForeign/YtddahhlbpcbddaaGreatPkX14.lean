/- Part 15: contracts that the proof rests on. -/
import Derived.Deep.RegionLaw
import Derived.Test.YtddahhlbpcbddaaGreatPkX11
set_option maxHeartbeats 64000000
set_option maxRecDepth 100000
namespace Go.Proofs.YtddahhlbpcbddaaGreat
open Tryz
open Go.RowKit
theorem tC (d m g n mx:Nat) (P:Pm) (U:List Nat) (s:Sd) (c ss num fl:Nat) (a:Option Addr) (len cap:Nat) (bs:Nat→Nat) (w:World) (h:DV w d m g n mx P U s) (hr:Row8 w a len cap bs) (ha:∀ x,a=some x→x.block<w.heap.size∧x.block ∉ U) (hfl:fl<16) (hsn:s.st=4→s.sn+1<4294967296) (hs:s.st≠6) (ho:s.od<4) (hL:s.L.length<800000) (ht:s.ms.t<9223372036854774000) :
  Calls prog 168 #[ac d 0,.agg #[.int .i64 (4:Nat),.int .u32 (c:Nat),.int .u32 (ss:Nat),.int .u32 (num:Nat),.int .i64 (fl:Nat),.slice a len cap]] w fun e w'=>∃ v,e=.returned (.tuple #[v,.int .i64 (aR P mx n s 4 ss num fl len bs).e])∧Hid (Out U w w' d m g n mx P (aR P mx n s 4 ss num fl len bs).s (aR P mx n s 4 ss num fl len bs).f v):=by
 have b0:Below w.heap.size w (w.alloc (.cells #[.int .i64 (4:Nat),.int .u32 (c:Nat),.int .u32 (ss:Nat),.int .u32 (num:Nat),.int .i64 (fl:Nat),.slice a len cap] 50)):=(Below.refl _ _).alloc (Nat.le_refl _) _
 have hD:len=P.o→s.st=4→∀ wx,Below w.heap.size w wx→Calls prog 201 #[ac d 0,.agg #[.int .i64 (4:Nat),.int .u32 (c:Nat),.int .u32 (ss:Nat),.int .u32 (num:Nat),.int .i64 (fl:Nat),.slice a len cap]] wx fun e w'=>∃ v,e=.returned v∧Hid (Out U w w' d m g n mx P (cW s num fl bs) (dI P (cW s num fl bs) 20 (s.sn+1) (iw (cW s num fl bs)) P.i s.ap) v):=by
  intro hl h4 wx hb
  subst hl
  refine (vO d m g n mx P U s 4 c ss num fl a cap bs wx (DV.below h hb) (hr.below hb) (fun x hx=>⟨Nat.lt_of_lt_of_le (ha x hx).1 hb.size,(ha x hx).2⟩) hfl (hsn h4)).mono ?_
  rintro e w' ⟨v,rfl,h5⟩
  exact⟨v,rfl,Out.pre (Gr.below hb) h5.out⟩
 have hR:∀ wx,Below w.heap.size w wx→Calls prog 203 #[ac d 0,.int .i64 130] wx fun e w'=>∃ v,e=.returned (.tuple #[v,.int .i64 130])∧Hid (Out U w w' d m g n mx P (bP s) (i7 P (bP s)) v):=by
  intro wx hb
  refine (ee d m g n mx P U s 130 wx (DV.below h hb) hs ho (by omega)).mono ?_
  rintro e w' ⟨v,rfl,h5⟩
  exact⟨v,rfl,Out.pre (Gr.below hb) h5.out⟩
 have HU:Hid (_):=And.intro hr (And.intro ha (And.intro hfl (And.intro hsn (And.intro ho (And.intro hL (And.intro ht hs))))))
 clear HU
 obtain⟨B,x⟩:=h
 have hdl:=x.dlt
 have hdn:¬ d=w.heap.size:=by omega
 have hdn':¬ w.heap.size=d:=fun e=>hdn e.symm
 have c4:=x.cells.2.2.2.2.1
 have c1:=x.cells.2.1
 have c11:=x.cells.2.2.2.2.2.2.2.2.2.2.2.1
 have c12:=x.cells.2.2.2.2.2.2.2.2.2.2.2.2.1
 have c13:=x.cells.2.2.2.2.2.2.2.2.2.2.2.2.2.1
 have HB:Hid (_):=b0
 clear hr ha x b0 ho hL ht hfl hsn
 unfold aR
 by_cases hown:ss=s.ss
 ·subst hown
  by_cases h4:s.st=4
  ·rw[h4]at c11
   by_cases hn:s.nm<num
   ·have hn1:(s.nm:Int) < (num:Int):=by omega
    by_cases hc:num<P.n
    ·have hc1:(num:Int) < (P.n:Int):=by omega
     by_cases hl:len=P.o
     ·rw[if_neg (by omega),if_neg (by omega),if_neg (by omega),if_pos (by omega)]
      replace hD:=hD hl h4
      subst hl
      go_enter func168,ntmps168
      go_wp2_with fail
      repeat (go_quiet (fail);go_wp2_with fail)
      refine (hD _ (by repeat (first | exact HB.out | refine below_drewN ?_ _ | refine Below.drew ?_))).mono ?_
      rintro e w5 ⟨v,rfl,h5⟩
      clear hD hR
      go_wp2_with fail
      go_ret2
      exact⟨v,rfl,h5⟩
     ·have el:((len:Int) == (P.o:Int))=false:=by simp;omega
      have el':((len:Int)=(P.o:Int))=False:=by simp;omega
      rw[if_neg (by omega),if_neg (by omega),if_neg (by omega),if_neg (by omega),if_neg (by omega)]
      go_enter func168,ntmps168
      go_wp2_with fail
      repeat (go_quiet (fail);go_wp2_with fail)
      refine (hR _ (by repeat (first | exact HB.out | refine below_drewN ?_ _ | refine Below.drew ?_))).mono ?_
      rintro e w5 ⟨v,rfl,h5⟩
      clear hD hR
      go_wp2_with fail
      go_ret2
      exact⟨v,rfl,h5⟩
    ·have hc1:¬ (num:Int) < (P.n:Int):=by omega
     rw[if_neg (by omega),if_neg (by omega),if_neg (by omega),if_neg (by omega),if_neg (by omega)]
     go_enter func168,ntmps168
     go_wp2_with fail
     repeat (go_quiet (fail);go_wp2_with fail)
     refine (hR _ (by repeat (first | exact HB.out | refine below_drewN ?_ _ | refine Below.drew ?_))).mono ?_
     rintro e w5 ⟨v,rfl,h5⟩
     clear hD hR
     go_wp2_with fail
     go_ret2
     exact⟨v,rfl,h5⟩
   ·have hn1:¬ (s.nm:Int) < (num:Int):=by omega
    rw[if_neg (by omega),if_neg (by omega),if_neg (by omega),if_neg (by omega),if_neg (by omega)]
    go_enter func168,ntmps168
    go_wp2_with fail
    repeat (go_quiet (fail);go_wp2_with fail)
    refine (hR _ (by repeat (first | exact HB.out | refine below_drewN ?_ _ | refine Below.drew ?_))).mono ?_
    rintro e w5 ⟨v,rfl,h5⟩
    clear hD hR
    go_wp2_with fail
    go_ret2
    exact⟨v,rfl,h5⟩
  ·have e4:((s.st:Int) == 4)=false:=by simp;omega
   have e4':((s.st:Int)=4)=False:=by simp;omega
   rw[if_neg (by omega),if_neg (by omega),if_neg (by omega),if_neg (by omega),if_neg (by omega)]
   go_enter func168,ntmps168
   go_wp2_with fail
   repeat (go_quiet (fail);go_wp2_with fail)
   refine (hR _ (by repeat (first | exact HB.out | refine below_drewN ?_ _ | refine Below.drew ?_))).mono ?_
   rintro e w5 ⟨v,rfl,h5⟩
   clear hD hR
   go_wp2_with fail
   go_ret2
   exact⟨v,rfl,h5⟩
 ·have e1:((ss:Int) == (s.ss:Int))=false:=by simp;omega
  have e1':((ss:Int)=(s.ss:Int))=False:=by simp;omega
  rw[if_neg (by omega),if_neg (by omega),if_neg (by omega),if_neg (by omega),if_neg (by omega)]
  go_enter func168,ntmps168
  go_wp2_with fail
  repeat (go_quiet (fail);go_wp2_with fail)
  refine (hR _ (by repeat (first | exact HB.out | refine below_drewN ?_ _ | refine Below.drew ?_))).mono ?_
  rintro e w5 ⟨v,rfl,h5⟩
  clear hD hR
  go_wp2_with fail
  go_ret2
  exact⟨v,rfl,h5⟩
theorem tf (d m g n mx:Nat) (P:Pm) (U:List Nat) (s:Sd) (c ss num fl:Nat) (a:Option Addr) (len cap:Nat) (bs:Nat→Nat) (w:World) (h:DV w d m g n mx P U s) (hr:Row8 w a len cap bs) (ha:∀ x,a=some x→x.block<w.heap.size∧x.block ∉ U) (hfl:fl<16) (hsn:s.st=4→s.sn+1<4294967296) (hs:s.st≠6) (ho:s.od<4) (hL:s.L.length<800000) (ht:s.ms.t<9223372036854774000) :
  Calls prog 168 #[ac d 0,.agg #[.int .i64 (5:Nat),.int .u32 (c:Nat),.int .u32 (ss:Nat),.int .u32 (num:Nat),.int .i64 (fl:Nat),.slice a len cap]] w fun e w'=>∃ v,e=.returned (.tuple #[v,.int .i64 (aR P mx n s 5 ss num fl len bs).e])∧Hid (Out U w w' d m g n mx P (aR P mx n s 5 ss num fl len bs).s (aR P mx n s 5 ss num fl len bs).f v):=by
 have b0:Below w.heap.size w (w.alloc (.cells #[.int .i64 (5:Nat),.int .u32 (c:Nat),.int .u32 (ss:Nat),.int .u32 (num:Nat),.int .i64 (fl:Nat),.slice a len cap] 50)):=(Below.refl _ _).alloc (Nat.le_refl _) _
 have hZ:∀ wx,Below w.heap.size w wx→Calls prog 202 #[ac d 0] wx fun e w'=>∃ v,e=.returned v∧Hid (Out U w w' d m g n mx P (ld (eO P s)) (dI P (eO P s) 21 P.n 0 0 (fun _=>0)) v):=by
  intro wx hb
  refine (ui d m g n mx P U s wx (DV.below h hb) hs hL).mono ?_
  rintro e w' ⟨v,rfl,h5⟩
  exact⟨v,rfl,Out.pre (Gr.below hb) h5.out⟩
 have hR:∀ wx,Below w.heap.size w wx→Calls prog 203 #[ac d 0,.int .i64 130] wx fun e w'=>∃ v,e=.returned (.tuple #[v,.int .i64 130])∧Hid (Out U w w' d m g n mx P (bP s) (i7 P (bP s)) v):=by
  intro wx hb
  refine (ee d m g n mx P U s 130 wx (DV.below h hb) hs ho (by omega)).mono ?_
  rintro e w' ⟨v,rfl,h5⟩
  exact⟨v,rfl,Out.pre (Gr.below hb) h5.out⟩
 have HU:Hid (_):=And.intro hr (And.intro ha (And.intro hfl (And.intro hsn (And.intro ho (And.intro hL (And.intro ht hs))))))
 clear HU
 obtain⟨B,x⟩:=h
 have hdl:=x.dlt
 have hdn:¬ d=w.heap.size:=by omega
 have hdn':¬ w.heap.size=d:=fun e=>hdn e.symm
 have c4:=x.cells.2.2.2.2.1
 have c1:=x.cells.2.1
 have c11:=x.cells.2.2.2.2.2.2.2.2.2.2.2.1
 have c12:=x.cells.2.2.2.2.2.2.2.2.2.2.2.2.1
 have c13:=x.cells.2.2.2.2.2.2.2.2.2.2.2.2.2.1
 have HB:Hid (_):=b0
 clear hr ha x b0 ho hL ht hfl hsn
 unfold aR
 by_cases hown:ss=s.ss
 ·subst hown
  by_cases h4:s.st=4
  ·rw[h4]at c11
   by_cases hn:s.nm<num
   ·have hn1:(s.nm:Int) < (num:Int):=by omega
    by_cases hc:num=P.n
    ·rw[if_neg (by omega),if_neg (by omega),if_neg (by omega),if_neg (by omega),if_pos (by omega)]
     subst hc
     go_enter func168,ntmps168
     go_wp2_with fail
     repeat (go_quiet (fail);go_wp2_with fail)
     refine (hZ _ (by repeat (first | exact HB.out | refine below_drewN ?_ _ | refine Below.drew ?_))).mono ?_
     rintro e w5 ⟨v,rfl,h5⟩
     clear hR hZ
     go_wp2_with fail
     go_ret2
     exact⟨v,rfl,h5⟩
    ·have ec:((num:Int) == (P.n:Int))=false:=by simp;omega
     have ec':((num:Int)=(P.n:Int))=False:=by simp;omega
     rw[if_neg (by omega),if_neg (by omega),if_neg (by omega),if_neg (by omega),if_neg (by omega)]
     go_enter func168,ntmps168
     go_wp2_with fail
     repeat (go_quiet (fail);go_wp2_with fail)
     refine (hR _ (by repeat (first | exact HB.out | refine below_drewN ?_ _ | refine Below.drew ?_))).mono ?_
     rintro e w5 ⟨v,rfl,h5⟩
     clear hR hZ
     go_wp2_with fail
     go_ret2
     exact⟨v,rfl,h5⟩
   ·have hn1:¬ (s.nm:Int) < (num:Int):=by omega
    rw[if_neg (by omega),if_neg (by omega),if_neg (by omega),if_neg (by omega),if_neg (by omega)]
    go_enter func168,ntmps168
    go_wp2_with fail
    repeat (go_quiet (fail);go_wp2_with fail)
    refine (hR _ (by repeat (first | exact HB.out | refine below_drewN ?_ _ | refine Below.drew ?_))).mono ?_
    rintro e w5 ⟨v,rfl,h5⟩
    clear hR hZ
    go_wp2_with fail
    go_ret2
    exact⟨v,rfl,h5⟩
  ·have e4:((s.st:Int) == 4)=false:=by simp;omega
   have e4':((s.st:Int)=4)=False:=by simp;omega
   rw[if_neg (by omega),if_neg (by omega),if_neg (by omega),if_neg (by omega),if_neg (by omega)]
   go_enter func168,ntmps168
   go_wp2_with fail
   repeat (go_quiet (fail);go_wp2_with fail)
   refine (hR _ (by repeat (first | exact HB.out | refine below_drewN ?_ _ | refine Below.drew ?_))).mono ?_
   rintro e w5 ⟨v,rfl,h5⟩
   clear hR hZ
   go_wp2_with fail
   go_ret2
   exact⟨v,rfl,h5⟩
 ·have e1:((ss:Int) == (s.ss:Int))=false:=by simp;omega
  have e1':((ss:Int)=(s.ss:Int))=False:=by simp;omega
  rw[if_neg (by omega),if_neg (by omega),if_neg (by omega),if_neg (by omega),if_neg (by omega)]
  go_enter func168,ntmps168
  go_wp2_with fail
  repeat (go_quiet (fail);go_wp2_with fail)
  refine (hR _ (by repeat (first | exact HB.out | refine below_drewN ?_ _ | refine Below.drew ?_))).mono ?_
  rintro e w5 ⟨v,rfl,h5⟩
  clear hR hZ
  go_wp2_with fail
  go_ret2
  exact⟨v,rfl,h5⟩
theorem gF (w:World) (wx:World) (hb:Below (w.alloc (.cells bL 50)).heap.size (w.alloc (.cells bL 50)) wx) :
  Box wx w.heap.size 0 0 0 0 0 (.slice none 0 0):=np w 0 0 0 0 0 _ wx hb
theorem ey (w:World) (o:Array Value) (i:Nat) (wx:World) (hb:Below (w.alloc (.cells o 50)).heap.size (w.alloc (.cells o 50)) wx):wx.frozen? ⟨w.heap.size,i,none⟩=false:=by
 rw[hb.frozen (p:=⟨w.heap.size,i,none⟩) (by simp)]
 simp
theorem eU {P:Program} {ops:Array Oper} {o:Oper} {a:Act} {w:World} {K:Act→World→Prop} {Q:Exit→Act→World→Prop} {E:Prop}
  (hg:o.guard=none) (t:Operand) (f:FuncId) (_:o.op=.call { callee:=.value (.func f),args:=#[t],argTypes:=#[37] }) (args:Array Value) (v:Value) (hc:Calls P f args w fun e w'=>e=.returned v∧∃ m,w'=w.drewN m) (hrun:(execOp a.eval o).run P w=.ok (.enter f args) w) (hK:∀ m,K (a.put o.dst v) (w.drewN m)) :
  if Region.wanted o (yielded ops a.tmps)=true then Oper.wp P o a w K Q else E:=by
 have hw:Region.wanted o (yielded ops a.tmps)=true:=by simp[Region.wanted,hg]
 rw[if_pos hw]
 unfold Oper.wp
 rw[hrun]
 refine hc.mono ?_
 rintro e w'' ⟨rfl,m,rfl⟩
 exact hK m
theorem ng {ops:Array Oper} {o:Oper} {a:Act} {w:World} {K:Act→World→Prop} {Q:Exit→Act→World→Prop} {E:Prop}
  (hg:o.guard=none) (s x:Operand) (hop:o.op=Op.call { callee:=Callee.builtin Builtin.append,args:=#[s,x],argTypes:=#[37,37] })
  (B:Nat) (w0:World) (hb:Below B w0 w) (hB0:B≤w0.heap.size) (hs:a.eval s=.slice none 0 0) (ad:Addr) (m c:Nat) (bs:Nat→Nat) (hx:a.eval x=.slice (some ad) m c) (hrow:Row8 w (some ad) m c bs) (hm:m≤1000000) (hby:∀ i,i<m→bs i<256)
  (hK:∀ a' c' w',Hid (w'.ownsRow B 5 1 (.slice a' m c') m (CB bs m))→Below B w0 w'→K (a.put o.dst (.slice a' m c')) w') :
  if Region.wanted o (yielded ops a.tmps)=true then Oper.wp prog o a w K Q else E:=by
 obtain⟨i0,hi,hz0,hz1,hz2⟩:=info_parts co
 have hw:Region.wanted o (yielded ops a.tmps)=true:=by simp[Region.wanted,hg]
 rw[if_pos hw]
 have hBw:B≤w.heap.size:=Nat.le_trans hB0 hb.size
 refine wp_append_own w s x _ hop B 5 i0 (.int .u8 0) 1 1 underlying37 hi hz0 hz1 hz2 rfl (by decide) _ 0 [] hs (World.ownsRow_nil _ _ _ _) ad m c (CB bs m) hx (by rw[aA,Nat.mul_one]) ?_ (j4 bs m) (by unfold maxLen;omega) (by omega) hBw ?_
 ·intro j u hj
  by_cases hlt:j<m
  ·rw[aX bs m j hlt]at hj
   cases hj
   exact hrow.src ad rfl j hlt
  ·rw[cu bs m j (by omega)]at hj;cases hj
 ·intro v' w' h1 h2 _
  rw[List.nil_append,Nat.zero_add]at h1
  obtain⟨a',c',rfl,_⟩:=bc h1 hby
  exact hK a' c' w' h1 (hb.grown h2 hBw (fun j hj=>by cases hj))
theorem qv (b off len cap x0 x1 x2 x3:Nat) (w:World) (hlen:(3:Int) < (len:Int)) (h0:x0<256) (h1:x1<256) (h2:x2<256) (h3:x3<256)
  (c0:w.cell? ⟨b,off,none⟩=some (.int .u8 x0)) (c1:w.cell? ⟨b,off+1,none⟩=some (.int .u8 x1)) (c2:w.cell? ⟨b,off+2,none⟩=some (.int .u8 x2)) (c3:w.cell? ⟨b,off+3,none⟩=some (.int .u8 x3)) :
  Calls prog 188 #[.slice (af b off) len cap] w fun e w'=>e=.returned (.int .u32 ((x0*16777216+x1*65536+x2*256+x3:Nat):Int))∧∃ m,w'=w.drewN m:=by
 have hn:=j9 x0 x1 x2 x3 h0 h1 h2 h3
 have l0:(0:Int) < (len:Int):=by omega
 have l1:(1:Int) < (len:Int):=by omega
 have l2:(2:Int) < (len:Int):=by omega
 generalize x0*16777216+x1*65536+x2*256+x3=y at *
 go_enter func188,ntmps188
 go_wp2_with fail
 go_quiet (fail)
 go_wp2
 go_ret
 exact⟨rfl,_,rfl⟩
theorem iu (b off len cap i L C:Nat) (bs:Nat→Nat) (w:World) (hr:Row8 w (af b off) len cap bs) (h:i+4≤len) (hL:4≤L) :
  Calls prog 188 #[.slice (af b (off+i)) L C] w fun e w'=>e=.returned (.int .u32 (aC bs i:Nat))∧∃ m,w'=w.drewN m:=by
 have s:=hr.src _ rfl
 have q:=hr.byte
 have t0:=s i (by omega);have t1:=s (i+1) (by omega);have t2:=s (i+2) (by omega);have t3:=s (i+3) (by omega)
 rw[Go.WideShapes.add_plain]at t0 t1 t2 t3
 exact qv b (off+i) L C _ _ _ _ w (by omega) (q i (by omega)) (q (i+1) (by omega)) (q (i+2) (by omega)) (q (i+3) (by omega)) t0 t1 t2 t3
theorem mT {w2:World} {B g m:Nat} {v:Value} {xs:List Value} (h:w2.ownsRow B 5 1 v m xs) (hlt:g<B) (v0 v1 v2 v3 v4 v5:Value) :
  ((((((w2.setCell ⟨g,0,none⟩ v0).setCell ⟨g,1,none⟩ v1).setCell ⟨g,2,none⟩ v2).setCell ⟨g,3,none⟩ v3).setCell ⟨g,4,none⟩ v4).setCell ⟨g,5,none⟩ v5).ownsRow B 5 1 v m xs:=
 ownsRow_setCell_below (ownsRow_setCell_below (ownsRow_setCell_below (ownsRow_setCell_below (ownsRow_setCell_below (ownsRow_setCell_below h (a:=⟨g,0,none⟩) hlt _) (a:=⟨g,1,none⟩) hlt _) (a:=⟨g,2,none⟩) hlt _) (a:=⟨g,3,none⟩) hlt _) (a:=⟨g,4,none⟩) hlt _) (a:=⟨g,5,none⟩) hlt _
theorem eR {w w2:World} {B g:Nat} (h:Below B w w2) (hle:B≤g) (v0 v1 v2 v3 v4 v5:Value) :
  Below B w ((((((w2.setCell ⟨g,0,none⟩ v0).setCell ⟨g,1,none⟩ v1).setCell ⟨g,2,none⟩ v2).setCell ⟨g,3,none⟩ v3).setCell ⟨g,4,none⟩ v4).setCell ⟨g,5,none⟩ v5):=
 (((((h.setCell (p:=⟨g,0,none⟩) hle _).setCell (p:=⟨g,1,none⟩) hle _).setCell (p:=⟨g,2,none⟩) hle _).setCell (p:=⟨g,3,none⟩) hle _).setCell (p:=⟨g,4,none⟩) hle _).setCell (p:=⟨g,5,none⟩) hle _
end Go.Proofs.YtddahhlbpcbddaaGreat
