/- Part 18: contracts that the proof rests on. -/
import Derived.Test.YtenilkloffnjlaaGreatPkM16
set_option maxHeartbeats 64000000
set_option maxRecDepth 100000
namespace Go.Proofs.YtenilkloffnjlaaGreat
open Tryz
open Go.RowKit
theorem mg (d:Nat) (P:Pm) (U:List Nat) (s:Sh) (k c ss num fl:Nat) (a:Option Addr) (len cap:Nat) (bs:Nat→Nat) (w:World) (h:HV w d P U s) (hr:Row8 w a len cap bs) :
  Calls prog 137 #[ac d 0,.agg #[.int .i64 (k:Nat),.int .u32 (c:Nat),.int .u32 (ss:Nat),.int .u32 (num:Nat),.int .i64 (fl:Nat),.slice a len cap]] w fun e w'=>e=.returned (.int .i64 (gG P s k c ss num len bs))∧Below w.heap.size w w':=by
 have hb:∀ ob,Below w.heap.size w (w.alloc ob):=fun ob=>(Below.refl _ _).alloc (Nat.le_refl _) _
 have hU:w.heap.size ∉ U:=fun hm=>by have:=HV.ult h _ hm;omega
 have hO:=fun wx (hx:Below w.heap.size w wx)=>pP d P U s k c ss num fl a len cap bs wx (HV.below h hx) (hr.below hx)
 have hW:=fun wx (hx:Below w.heap.size w wx)=>nv d P U s k c ss num fl a len cap wx (HV.below h hx)
 have hF:=fun wx=>fI (k:Int) wx
 obtain⟨B,x⟩:=h
 have hdn:¬ d=w.heap.size:=fun e=>hU (by rw[← e];exact x.kd.2)
 have hdn':¬ w.heap.size=d:=fun e=>hdn e.symm
 have c0:∀ ob,(w.alloc ob).cell? ⟨d,0,none⟩=some (.int .u32 (P.c:Nat)):=fun ob=>(x.newd (Off.of_below (hb ob))).c0
 have c8:∀ ob,(w.alloc ob).cell? ⟨d,8,none⟩=some (.int .i64 (s.st:Nat)):=fun ob=>(x.newd (Off.of_below (hb ob))).c8
 have c9:∀ ob,(w.alloc ob).cell? ⟨d,9,none⟩=some (.int .u32 (s.ss:Nat)):=fun ob=>(x.newd (Off.of_below (hb ob))).c9
 have HB:Hid (_):=hb
 have HO:Hid (_):=hO
 have HW:Hid (_):=hW
 clear hb x hU hr hO hW
 unfold gG
 by_cases hK:ia (k:Int)=false
 ·rw[if_pos hK]
  rw[hK]at hF
  go_enter func137,ntmps137
  go_wp2_with (go_at_call 165;refine (hF _).mono ?_;rintro e w' ⟨rfl,hw⟩;have hw:=hw.symm;subst hw)
  go_ret
  exact⟨rfl,HB.out _⟩
 ·rw[if_neg hK]
  have hK':ia (k:Int)=true:=by simpa using hK
  rw[hK']at hF
  clear hK hK'
  by_cases hC:c=P.c
  ·subst hC
   rw[if_neg (by omega)]
   by_cases h1:s.st=1
   ·rw[if_pos h1]
    rw[h1]at c8
    generalize jI P s k ss len bs=E at *
    clear h1
    go_enter func137,ntmps137
    go_wp2_with (go_at_call 165;refine (hF _).mono ?_;rintro e w' ⟨rfl,hw⟩;have hw:=hw.symm;subst hw)
    go_quiet (fail)
    go_wp2_with fail
    have HB2:Hid (∀ ob,Below w.heap.size w ((w.alloc ob).drewN nq)):=fun ob=>below_drewN (HB.out ob) nq
    refine (HO.out _ (HB2.out _)).mono ?_
    rintro e w3 ⟨rfl,b3⟩
    have H3:Hid (Below w.heap.size w w3):=(HB2.out _).trans (b3.mono (HB2.out _).size)
    clear b3 HB HB2 HO HW c0 c8 c9 hF
    go_wp2_with fail
    go_ret
    exact⟨rfl,H3.out⟩
   ·rw[if_neg h1]
    have n1:((s.st:Int) == 1)=false:=by simp;omega
    clear h1 HO
    by_cases hS:ss=s.ss
    ·subst hS
     cases hw:cz P s k num len
     all_goals
      first | rw[if_pos (.inr rfl)] | rw[if_neg (by simp)]
      rw[hw]at HW
      go_enter func137,ntmps137
      go_wp2_with (go_at_call 165;refine (hF _).mono ?_;rintro e w' ⟨rfl,hw⟩;have hw:=hw.symm;subst hw)
      go_quiet (fail)
      go_wp2_with fail
      have HB2:Hid (∀ ob,Below w.heap.size w (((w.alloc ob).drewN nq).drew)):=fun ob=>Below.drew (below_drewN (HB.out ob) nq)
      go_region_with (go_at_call 167;refine (HW.out _ (HB2.out _)).mono ?_;rintro e w3 ⟨rfl,b3⟩)
      all_goals
       have H3:Hid (Below w.heap.size w w3):=(HB2.out _).trans (b3.mono (HB2.out _).size)
       clear b3 HB HB2 HW c0 c8 c9 hF
       go_wp2_with fail
       go_ret
       exact⟨rfl,H3.out⟩
    ·rw[if_pos (.inl hS)]
     have j2:((ss:Int) != (s.ss:Int))=true:=by simp;omega
     clear HW
     go_enter func137,ntmps137
     go_wp2_with (go_at_call 165;refine (hF _).mono ?_;rintro e w' ⟨rfl,hw⟩;have hw:=hw.symm;subst hw)
     repeat (go_quiet (fail);go_wp2_with fail)
     go_ret
     refine⟨rfl,?_⟩
     repeat (first | with_reducible refine below_drewN ?_ _ | with_reducible refine Below.drew ?_ | exact HB.out _)
  ·rw[if_pos hC]
   have j1:((c:Int) != (P.c:Int))=true:=by simp;omega
   clear HO HW
   go_enter func137,ntmps137
   go_wp2_with (go_at_call 165;refine (hF _).mono ?_;rintro e w' ⟨rfl,hw⟩;have hw:=hw.symm;subst hw)
   go_quiet (fail)
   go_wp2_with fail
   go_ret
   refine⟨rfl,?_⟩
   repeat (first | with_reducible refine below_drewN ?_ _ | with_reducible refine Below.drew ?_ | exact HB.out _)
theorem nK (d:Nat) (P:Pm) (U:List Nat) (s:Sh) (c ss num fl:Nat) (a:Option Addr) (len cap:Nat) (bs:Nat→Nat) (w:World) (h:HV w d P U s) :
  Calls prog 139 #[ac d 0,.agg #[.int .i64 17,.int .u32 (c:Nat),.int .u32 (ss:Nat),.int .u32 (num:Nat),.int .i64 (fl:Nat),.slice a len cap]] w fun e w'=>e=.returned (.tuple #[])∧Hid (∃ U',Gr U w U' w'∧HV w' d P U' (cH s 17 ss num fl bs)):=by
 have hb0:Below w.heap.size w (w.alloc (.cells #[.int .i64 17,.int .u32 (c:Nat),.int .u32 (ss:Nat),.int .u32 (num:Nat),.int .i64 (fl:Nat),.slice a len cap] 50)):=(Below.refl _ _).alloc (Nat.le_refl _) _
 have hx0:=aA w (.cells #[.int .i64 17,.int .u32 (c:Nat),.int .u32 (ss:Nat),.int .u32 (num:Nat),.int .i64 (fl:Nat),.slice a len cap] 50)
 have hs0:w.heap.size < (w.alloc (.cells #[.int .i64 17,.int .u32 (c:Nat),.int .u32 (ss:Nat),.int .u32 (num:Nat),.int .i64 (fl:Nat),.slice a len cap] 50)).heap.size:=by rw[World.size_alloc];omega
 have hU:w.heap.size ∉ U:=fun hm=>by have:=HV.ult h _ hm;omega
 obtain⟨B,x0⟩:=HV.below h hb0
 have hdn:¬ d=w.heap.size:=fun e=>hU (by rw[← e];exact x0.kd.2)
 have hdn':¬ w.heap.size=d:=fun e=>hdn e.symm
 have xd:=x0.newd (Off.drew [] _)
 have o1:=(Off.setCell d 8 (w.alloc (.cells #[.int .i64 17,.int .u32 (c:Nat),.int .u32 (ss:Nat),.int .u32 (num:Nat),.int .i64 (fl:Nat),.slice a len cap] 50)).drew (.int .i64 2)).trans (Off.setCell d 9 _ (.int .u32 (ss:Nat)))
 have e1:((w.alloc (.cells #[.int .i64 17,.int .u32 (c:Nat),.int .u32 (ss:Nat),.int .u32 (num:Nat),.int .i64 (fl:Nat),.slice a len cap] 50)).drew.setCell ⟨d,8,none⟩ (.int .i64 2)).heap[d]?=some (.cells (iz P B.lb B.db B.vb { s with st:=2 } B.av) 141 (0,0)):=heap_setCell_same _ _ _ _ _ _ xd.dev
 have x1:=xd.own o1 (s':={ s with st:=2,ss:=ss }) (heap_setCell_same _ _ _ _ _ _ e1) rfl rfl rfl rfl
 have g1:=(Gr.same (U:=U) (Off.drew [] (w.alloc (.cells #[.int .i64 17,.int .u32 (c:Nat),.int .u32 (ss:Nat),.int .u32 (num:Nat),.int .i64 (fl:Nat),.slice a len cap] 50))) (by simp)).trans (Gr.same (U:=U) o1 (by simp[xd.kd.2]))
 have hO:=cL d P U _ _ ⟨B,x1⟩
 have c8:=x0.c8
 have c9:=x0.c9
 have z8:=x0.fz 8
 have z9:=x0.fz 9
 have H1:Hid (_):=And.intro ((Gr.below (U:=U) hb0).trans g1) (And.intro g1 (And.intro (And.intro hs0 hU) hx0))
 clear h hb0 hx0 hs0 hU x0 xd o1 e1 x1 g1
 go_enter func139,ntmps139
 go_wp2_with fail
 go_region_with fail
 all_goals
  go_wp2_with fail
  refine hO.mono ?_
  rintro e w3 ⟨rfl,h3⟩
  obtain⟨U3,g3,x3⟩:=h3.out
  obtain⟨g01,g1,far0,hx0⟩:=H1.out
  have e3:=((g1.trans g3).far far0).2.trans hx0
  have q0:w3.cell? ⟨w.heap.size,0,none⟩=some (.int .i64 17):=ae w3 _ 0 _ _ _ e3
  have H3:Hid (_):=And.intro (g01.trans g3) x3
  clear hO h3 g3 x3 g01 g1 far0 hx0 e3 H1 c8 c9 z8 z9
  go_wp2_with fail
  go_end0
  exact⟨rfl,U3,H3.out.1,H3.out.2⟩
theorem nL (d:Nat) (P:Pm) (U:List Nat) (s:Sh) (c ss num fl:Nat) (a:Option Addr) (len cap:Nat) (bs:Nat→Nat) (w:World) (h:HV w d P U s) :
  Calls prog 139 #[ac d 0,.agg #[.int .i64 18,.int .u32 (c:Nat),.int .u32 (ss:Nat),.int .u32 (num:Nat),.int .i64 (fl:Nat),.slice a len cap]] w fun e w'=>e=.returned (.tuple #[])∧Hid (∃ U',Gr U w U' w'∧HV w' d P U' (cH s 18 ss num fl bs)):=by
 have hb0:Below w.heap.size w (w.alloc (.cells #[.int .i64 18,.int .u32 (c:Nat),.int .u32 (ss:Nat),.int .u32 (num:Nat),.int .i64 (fl:Nat),.slice a len cap] 50)):=(Below.refl _ _).alloc (Nat.le_refl _) _
 have hx0:=aA w (.cells #[.int .i64 18,.int .u32 (c:Nat),.int .u32 (ss:Nat),.int .u32 (num:Nat),.int .i64 (fl:Nat),.slice a len cap] 50)
 have hs0:w.heap.size < (w.alloc (.cells #[.int .i64 18,.int .u32 (c:Nat),.int .u32 (ss:Nat),.int .u32 (num:Nat),.int .i64 (fl:Nat),.slice a len cap] 50)).heap.size:=by rw[World.size_alloc];omega
 have hU:w.heap.size ∉ U:=fun hm=>by have:=HV.ult h _ hm;omega
 obtain⟨B,x0⟩:=HV.below h hb0
 have hdn:¬ d=w.heap.size:=fun e=>hU (by rw[← e];exact x0.kd.2)
 have hdn':¬ w.heap.size=d:=fun e=>hdn e.symm
 have o1:=Off.setCell d 8 (w.alloc (.cells #[.int .i64 18,.int .u32 (c:Nat),.int .u32 (ss:Nat),.int .u32 (num:Nat),.int .i64 (fl:Nat),.slice a len cap] 50)) (.int .i64 3)
 have x1:=x0.own o1 (s':={ s with st:=3 }) (heap_setCell_same _ _ _ _ _ _ x0.dev) rfl rfl rfl rfl
 have g1:=Gr.same (U:=U) o1 (by simp[x0.kd.2])
 have c8:=x0.c8
 have z8:=x0.fz 8
 have hO:=cL d P U _ _ ⟨B,x1⟩
 have H1:Hid (_):=And.intro ((Gr.below (U:=U) hb0).trans g1) (And.intro g1 (And.intro (And.intro hs0 hU) hx0))
 clear h hb0 hx0 hs0 hU x0 x1 g1 o1
 go_enter func139,ntmps139
 go_wp2_with fail
 refine hO.mono ?_
 rintro e w3 ⟨rfl,h3⟩
 obtain⟨U3,g3,x3⟩:=h3.out
 obtain⟨g01,g1,far0,hx0⟩:=H1.out
 have e3:=((g1.trans g3).far far0).2.trans hx0
 have q0:w3.cell? ⟨w.heap.size,0,none⟩=some (.int .i64 18):=ae w3 _ 0 _ _ _ e3
 have H3:Hid (_):=And.intro (g01.trans g3) x3
 clear hO h3 g3 x3 g01 g1 far0 hx0 e3 H1 c8 z8
 go_wp2_with fail
 go_end0
 exact⟨rfl,U3,H3.out.1,H3.out.2⟩
theorem nP (d:Nat) (P:Pm) (U:List Nat) (s:Sh) (c ss num fl:Nat) (a:Option Addr) (len cap:Nat) (bs:Nat→Nat) (w:World) (h:HV w d P U s) :
  Calls prog 139 #[ac d 0,.agg #[.int .i64 22,.int .u32 (c:Nat),.int .u32 (ss:Nat),.int .u32 (num:Nat),.int .i64 (fl:Nat),.slice a len cap]] w fun e w'=>e=.returned (.tuple #[])∧Hid (∃ U',Gr U w U' w'∧HV w' d P U' (cH s 22 ss num fl bs)):=by
 have hb0:Below w.heap.size w (w.alloc (.cells #[.int .i64 22,.int .u32 (c:Nat),.int .u32 (ss:Nat),.int .u32 (num:Nat),.int .i64 (fl:Nat),.slice a len cap] 50)):=(Below.refl _ _).alloc (Nat.le_refl _) _
 have hx0:=aA w (.cells #[.int .i64 22,.int .u32 (c:Nat),.int .u32 (ss:Nat),.int .u32 (num:Nat),.int .i64 (fl:Nat),.slice a len cap] 50)
 have hs0:w.heap.size < (w.alloc (.cells #[.int .i64 22,.int .u32 (c:Nat),.int .u32 (ss:Nat),.int .u32 (num:Nat),.int .i64 (fl:Nat),.slice a len cap] 50)).heap.size:=by rw[World.size_alloc];omega
 have hU:w.heap.size ∉ U:=fun hm=>by have:=HV.ult h _ hm;omega
 obtain⟨B,x0⟩:=HV.below h hb0
 have hdn:¬ d=w.heap.size:=fun e=>hU (by rw[← e];exact x0.kd.2)
 have hdn':¬ w.heap.size=d:=fun e=>hdn e.symm
 have x1:=x0
 have g1:=Gr.refl U (w.alloc (.cells #[.int .i64 22,.int .u32 (c:Nat),.int .u32 (ss:Nat),.int .u32 (num:Nat),.int .i64 (fl:Nat),.slice a len cap] 50))
 have hO:=cL d P U _ _ ⟨B,x1⟩
 have H1:Hid (_):=And.intro ((Gr.below (U:=U) hb0).trans g1) (And.intro g1 (And.intro (And.intro hs0 hU) hx0))
 clear h hb0 hx0 hs0 hU x0 x1 g1
 go_enter func139,ntmps139
 go_wp2_with fail
 refine hO.mono ?_
 rintro e w3 ⟨rfl,h3⟩
 obtain⟨U3,g3,x3⟩:=h3.out
 obtain⟨g01,g1,far0,hx0⟩:=H1.out
 have e3:=((g1.trans g3).far far0).2.trans hx0
 have q0:w3.cell? ⟨w.heap.size,0,none⟩=some (.int .i64 22):=ae w3 _ 0 _ _ _ e3
 have H3:Hid (_):=And.intro (g01.trans g3) x3
 clear hO h3 g3 x3 g01 g1 far0 hx0 e3 H1
 go_wp2_with fail
 go_end0
 exact⟨rfl,U3,H3.out.1,H3.out.2⟩
theorem nM (d:Nat) (P:Pm) (U:List Nat) (s:Sh) (c ss num fl:Nat) (a:Option Addr) (len cap:Nat) (bs:Nat→Nat) (w:World) (h:HV w d P U s) :
  Calls prog 139 #[ac d 0,.agg #[.int .i64 19,.int .u32 (c:Nat),.int .u32 (ss:Nat),.int .u32 (num:Nat),.int .i64 (fl:Nat),.slice a len cap]] w fun e w'=>e=.returned (.tuple #[])∧Hid (∃ U',Gr U w U' w'∧HV w' d P U' (cH s 19 ss num fl bs)):=by
 have hb0:Below w.heap.size w (w.alloc (.cells #[.int .i64 19,.int .u32 (c:Nat),.int .u32 (ss:Nat),.int .u32 (num:Nat),.int .i64 (fl:Nat),.slice a len cap] 50)):=(Below.refl _ _).alloc (Nat.le_refl _) _
 have hx0:=aA w (.cells #[.int .i64 19,.int .u32 (c:Nat),.int .u32 (ss:Nat),.int .u32 (num:Nat),.int .i64 (fl:Nat),.slice a len cap] 50)
 have hs0:w.heap.size < (w.alloc (.cells #[.int .i64 19,.int .u32 (c:Nat),.int .u32 (ss:Nat),.int .u32 (num:Nat),.int .i64 (fl:Nat),.slice a len cap] 50)).heap.size:=by rw[World.size_alloc];omega
 have hU:w.heap.size ∉ U:=fun hm=>by have:=HV.ult h _ hm;omega
 obtain⟨B,x0⟩:=HV.below h hb0
 have hdn:¬ d=w.heap.size:=fun e=>hU (by rw[← e];exact x0.kd.2)
 have hdn':¬ w.heap.size=d:=fun e=>hdn e.symm
 have o1:=Off.setCell d 8 (w.alloc (.cells #[.int .i64 19,.int .u32 (c:Nat),.int .u32 (ss:Nat),.int .u32 (num:Nat),.int .i64 (fl:Nat),.slice a len cap] 50)) (.int .i64 4)
 have x1:=x0.own o1 (s':={ s with st:=4 }) (heap_setCell_same _ _ _ _ _ _ x0.dev) rfl rfl rfl rfl
 have g1:=Gr.same (U:=U) o1 (by simp[x0.kd.2])
 have c7:=x0.c7
 have c8:=x0.c8
 have z8:=x0.fz 8
 have hV:=fY _ _ _ _ _ true _ x1.val
 have H1:Hid (_):=And.intro ((Gr.below (U:=U) hb0).trans g1) (And.intro g1 (And.intro (And.intro hs0 hU) (And.intro hx0 x1)))
 clear h hb0 hx0 hs0 hU x0 x1 g1 o1
 go_enter func139,ntmps139
 go_wp2_with fail
 refine hV.mono ?_
 rintro e w2 ⟨rfl,h2⟩
 obtain⟨g01,g1,far0,hx0,x1⟩:=H1.out
 obtain⟨U2,B2,g2,x2⟩:=x1.vals h2.out.1 h2.out.2
 have hO:=cL d P U2 _ _ ⟨B2,x2⟩
 have H2:Hid (_):=And.intro (g01.trans g2) (And.intro (g1.trans g2) (And.intro far0 hx0))
 clear hV h2 g01 g1 far0 hx0 x1 g2 x2 H1 c7 c8 z8
 go_wp2_with fail
 refine hO.mono ?_
 rintro e w3 ⟨rfl,h3⟩
 obtain⟨U3,g3,x3⟩:=h3.out
 obtain⟨g01,g1,far0,hx0⟩:=H2.out
 have e3:=((g1.trans g3).far far0).2.trans hx0
 have q0:w3.cell? ⟨w.heap.size,0,none⟩=some (.int .i64 19):=ae w3 _ 0 _ _ _ e3
 have H3:Hid (_):=And.intro (g01.trans g3) x3
 clear hO h3 g3 x3 g01 g1 far0 hx0 e3 H2
 go_wp2_with fail
 go_end0
 exact⟨rfl,U3,H3.out.1,H3.out.2⟩
theorem nO (d:Nat) (P:Pm) (U:List Nat) (s:Sh) (c ss num fl:Nat) (a:Option Addr) (len cap:Nat) (bs:Nat→Nat) (w:World) (h:HV w d P U s) (hL:s.L.length<900000) :
  Calls prog 139 #[ac d 0,.agg #[.int .i64 21,.int .u32 (c:Nat),.int .u32 (ss:Nat),.int .u32 (num:Nat),.int .i64 (fl:Nat),.slice a len cap]] w fun e w'=>e=.returned (.tuple #[])∧Hid (∃ U',Gr U w U' w'∧HV w' d P U' (cH s 21 ss num fl bs)):=by
 have hb0:Below w.heap.size w (w.alloc (.cells #[.int .i64 21,.int .u32 (c:Nat),.int .u32 (ss:Nat),.int .u32 (num:Nat),.int .i64 (fl:Nat),.slice a len cap] 50)):=(Below.refl _ _).alloc (Nat.le_refl _) _
 have hx0:=aA w (.cells #[.int .i64 21,.int .u32 (c:Nat),.int .u32 (ss:Nat),.int .u32 (num:Nat),.int .i64 (fl:Nat),.slice a len cap] 50)
 have hs0:w.heap.size < (w.alloc (.cells #[.int .i64 21,.int .u32 (c:Nat),.int .u32 (ss:Nat),.int .u32 (num:Nat),.int .i64 (fl:Nat),.slice a len cap] 50)).heap.size:=by rw[World.size_alloc];omega
 have hU:w.heap.size ∉ U:=fun hm=>by have:=HV.ult h _ hm;omega
 obtain⟨B,x0⟩:=HV.below h hb0
 have hdn:¬ d=w.heap.size:=fun e=>hU (by rw[← e];exact x0.kd.2)
 have hdn':¬ w.heap.size=d:=fun e=>hdn e.symm
 have o1:=Off.setCell d 10 (w.alloc (.cells #[.int .i64 21,.int .u32 (c:Nat),.int .u32 (ss:Nat),.int .u32 (num:Nat),.int .i64 (fl:Nat),.slice a len cap] 50)) (.int .u32 (num:Nat))
 have x1:=x0.own o1 (s':={ s with nm:=num }) (heap_setCell_same _ _ _ _ _ _ x0.dev) rfl rfl rfl rfl
 have g1:=Gr.same (U:=U) o1 (by simp[x0.kd.2])
 have c10:=x0.c10
 have z10:=x0.fz 10
 have hO:=cL d P U _ _ ⟨B,x1⟩
 have H1:Hid (_):=And.intro ((Gr.below (U:=U) hb0).trans g1) (And.intro g1 (And.intro (And.intro hs0 hU) (And.intro hx0 hL)))
 clear h hb0 hx0 hs0 hU x0 x1 g1 o1 hL
 go_enter func139,ntmps139
 go_wp2_with fail
 refine hO.mono ?_
 rintro e w3 ⟨rfl,h3⟩
 obtain⟨U3,g3,x3⟩:=h3.out
 obtain⟨g01,g1,far0,hx0,hL⟩:=H1.out
 have e3:=((g1.trans g3).far far0).2.trans hx0
 have q0:w3.cell? ⟨w.heap.size,0,none⟩=some (.int .i64 21):=ae w3 _ 0 _ _ _ e3
 have hE:=nC d P U3 _ w3 x3 (by show s.L.length<_;omega)
 have H3:Hid (_):=g01.trans g3
 clear hO h3 g3 x3 g01 g1 far0 hx0 e3 H1 c10 z10 hL
 go_wp2_with fail
 refine hE.mono ?_
 rintro e w4 ⟨rfl,h4⟩
 obtain⟨U4,g4,x4⟩:=h4.out
 have H4:Hid (_):=And.intro (H3.out.trans g4) x4
 clear hE h4 g4 x4 H3 q0
 go_wp2_with fail
 go_end0
 exact⟨rfl,U4,H4.out.1,H4.out.2⟩
theorem nN (d:Nat) (P:Pm) (U:List Nat) (s:Sh) (c ss num fl:Nat) (a:Option Addr) (len cap:Nat) (bs:Nat→Nat) (w:World) (h:HV w d P U s) (hr:Row8 w a len cap bs) (ha:∀ x,a=some x→x.block<w.heap.size∧x.block ∉ U) (hfl:fl<16) (hlen:len=P.i) :
  Calls prog 139 #[ac d 0,.agg #[.int .i64 20,.int .u32 (c:Nat),.int .u32 (ss:Nat),.int .u32 (num:Nat),.int .i64 (fl:Nat),.slice a len cap]] w fun e w'=>e=.returned (.tuple #[])∧Hid (∃ U',Gr U w U' w'∧HV w' d P U' (cH s 20 ss num fl bs)):=by
 have hb0:Below w.heap.size w (w.alloc (.cells #[.int .i64 20,.int .u32 (c:Nat),.int .u32 (ss:Nat),.int .u32 (num:Nat),.int .i64 (fl:Nat),.slice a len cap] 50)):=(Below.refl _ _).alloc (Nat.le_refl _) _
 have hx0:=aA w (.cells #[.int .i64 20,.int .u32 (c:Nat),.int .u32 (ss:Nat),.int .u32 (num:Nat),.int .i64 (fl:Nat),.slice a len cap] 50)
 have hs0:w.heap.size < (w.alloc (.cells #[.int .i64 20,.int .u32 (c:Nat),.int .u32 (ss:Nat),.int .u32 (num:Nat),.int .i64 (fl:Nat),.slice a len cap] 50)).heap.size:=by rw[World.size_alloc];omega
 have hU:w.heap.size ∉ U:=fun hm=>by have:=HV.ult h _ hm;omega
 obtain⟨B,x0⟩:=HV.below h hb0
 have hdn:¬ d=w.heap.size:=fun e=>hU (by rw[← e];exact x0.kd.2)
 have hdn':¬ w.heap.size=d:=fun e=>hdn e.symm
 have o1:=Off.setCell d 10 (w.alloc (.cells #[.int .i64 20,.int .u32 (c:Nat),.int .u32 (ss:Nat),.int .u32 (num:Nat),.int .i64 (fl:Nat),.slice a len cap] 50)) (.int .u32 (num:Nat))
 have x1:=x0.own o1 (s':={ s with nm:=num }) (heap_setCell_same _ _ _ _ _ _ x0.dev) rfl rfl rfl rfl
 have g1:=Gr.same (U:=U) o1 (by simp[x0.kd.2])
 have c10:=x0.c10
 have z10:=x0.fz 10
 have hO:=cL d P U _ _ ⟨B,x1⟩
 have r0:=hr.below hb0
 have ra0:∀ x,a=some x→x.block < (w.alloc (.cells #[.int .i64 20,.int .u32 (c:Nat),.int .u32 (ss:Nat),.int .u32 (num:Nat),.int .i64 (fl:Nat),.slice a len cap] 50)).heap.size∧x.block ∉ U:=fun x hx=>⟨by have:=(ha x hx).1;omega,(ha x hx).2⟩
 have HB:=qH fl hfl
 have H1:Hid (_):=And.intro ((Gr.below (U:=U) hb0).trans g1) (And.intro g1 (And.intro (And.intro hs0 hU) (And.intro hx0 (And.intro r0 (And.intro ra0 (And.intro HB hlen))))))
 clear h hb0 hx0 hs0 hU x0 x1 g1 o1 hr ha hfl r0 ra0 HB hlen
 go_enter func139,ntmps139
 go_wp2_with fail
 refine hO.mono ?_
 rintro e w2 ⟨rfl,h2⟩
 obtain⟨U2,g2,B2,x2⟩:=h2.out
 obtain⟨g01,g1,far0,hx0,r0,ra0,HB,hlen⟩:=H1.out
 have G2:=g1.trans g2
 have far2:=G2.far far0
 have e2:=far2.2.trans hx0
 have q0:w2.cell? ⟨w.heap.size,0,none⟩=some (.int .i64 20):=ae w2 _ 0 _ _ _ e2
 have q4:w2.cell? ⟨w.heap.size,4,none⟩=some (.int .i64 (fl:Nat)):=ae w2 _ 4 _ _ _ e2
 have y7:=x2.c7
 have r2:Row8 w2 a len cap bs:=r0.off G2.off (fun x hx=>(ra0 x hx).2)
 have ra2:∀ x,a=some x→x.block<w2.heap.size∧x.block ∉ U2:=fun x hx=>(G2.far (ra0 x hx)).1
 have x2d:=x2.newd (Off.drew [] w2)
 have hV:=lI _ _ _ _ _ (bits .and .i64 (fl:Int) 8 != 0) _ x2d.val
 have H2:Hid (_):=And.intro (g01.trans g2) (And.intro x2d (And.intro far2.1 (And.intro e2 (And.intro r2 (And.intro ra2 (And.intro HB hlen))))))
 clear hO h2 g2 x2 g01 g1 far0 hx0 r0 ra0 G2 far2 e2 r2 ra2 x2d H1 c10 z10 HB hlen
 go_wp2_with fail
 go_region_with (go_at_call 171;refine hV.mono ?_;rintro e w3 ⟨rfl,h3⟩)
 all_goals
  obtain⟨g2,x2d,far2,e2,r2,ra2,HB,hlen⟩:=H2.out
  obtain⟨U3,B3,g3',x3⟩:=x2d.vals h3.out.1 h3.out.2
  have g3:Gr U2 w2 U3 w3:=Gr.trans (Gr.same (Off.drew [] w2) (by simp)) g3'
  have far3:=g3.far far2
  have e3:=far3.2.trans e2
  have q5:w3.cell? ⟨w.heap.size,5,none⟩=some (.slice a len cap):=ae w3 _ 5 _ _ _ e3
  have z7:=x3.c7
  have r3:Row8 w3 a len cap bs:=r2.off g3.off (fun x hx=>(ra2 x hx).2)
  have x3d:=x3.newd (Off.drew [] w3)
  have hT:=lJ _ _ _ _ _ a len cap bs _ x3d.val (r3.below (Below.drew (Below.refl _ _)))
  have H3:Hid (_):=And.intro (g2.trans g3) (And.intro x3d (And.intro HB hlen))
  clear hV H2 h3 g2 x2d far2 e2 r2 ra2 g3' x3 g3 far3 e3 r3 x3d q4 q0 y7 HB hlen
  go_wp2_with fail
  go_region_with (go_at_call 172;refine hT.mono ?_;rintro e w4 ⟨rfl,h4⟩)
  all_goals
   obtain⟨M4,o4,v4,hM4⟩:=h4.out
   obtain⟨g3,x3d,HB,hlen⟩:=H3.out
   rw[if_pos hlen]at v4
   have hlt4:∀ k,k ∈ M4→k<w4.heap.size:=fun k hk=>by
    rcases hM4 k hk with h | h
    ·exact Nat.lt_of_lt_of_le (x3d.ltU k (x3d.kM k h).2) o4.size
    ·exact h.2
   obtain⟨U4,B4,g4',x4⟩:=x3d.vald o4 v4 (fun k hk=>(hM4 k hk).imp id And.left) hlt4
   have g4:Gr U w U4 w4:=g3.trans (Gr.trans (Gr.same (Off.drew [] w3) (by simp)) g4')
   have x5:HX w4 d P U4 (cH s 20 ss num fl bs) B4:=by
    have hs:cH s 20 ss num fl bs={ ta { s with nm:=num } with v:=fu (it (fq s.v) (bits .and .i64 (fl:Int) 8 != 0)) bs }:=by
     rw[HB];rfl
    rw[hs];exact x4
   have H4:Hid (_):=And.intro g4 x5
   clear hT H3 h4 o4 v4 hM4 hlt4 g3 x3d g4' x4 g4 x5 HB hlen q5 z7
   go_wp2_with fail
   go_end0
   exact⟨rfl,U4,H4.out.1,B4,H4.out.2⟩
theorem sf (d:Nat) (P:Pm) (U:List Nat) (s:Sh) (k c ss num fl:Nat) (a:Option Addr) (len cap:Nat) (bs:Nat→Nat) (w:World) (h:HV w d P U s) (hr:Row8 w a len cap bs) (ha:∀ x,a=some x→x.block<w.heap.size∧x.block ∉ U) (hk:17≤k∧k≤22) (hfl:fl<16) (hlen:k=20→len=P.i) (hL:s.L.length<900000) :
  Calls prog 139 #[ac d 0,.agg #[.int .i64 (k:Nat),.int .u32 (c:Nat),.int .u32 (ss:Nat),.int .u32 (num:Nat),.int .i64 (fl:Nat),.slice a len cap]] w fun e w'=>e=.returned (.tuple #[])∧Hid (∃ U',Gr U w U' w'∧HV w' d P U' (cH s k ss num fl bs)):=by
 have:k=17∨k=18∨k=19∨k=20∨k=21∨k=22:=by omega
 rcases this with rfl | rfl | rfl | rfl | rfl | rfl
 ·exact nK d P U s c ss num fl a len cap bs w h
 ·exact nL d P U s c ss num fl a len cap bs w h
 ·exact nM d P U s c ss num fl a len cap bs w h
 ·exact nN d P U s c ss num fl a len cap bs w h hr ha hfl (hlen rfl)
 ·exact nO d P U s c ss num fl a len cap bs w h hL
 ·exact nP d P U s c ss num fl a len cap bs w h
theorem nF (P:Pm) (s:Sh) (k c ss num len:Nat) (bs:Nat→Nat):0≤gG P s k c ss num len bs∧gG P s k c ss num len bs≤200:=by
 unfold gG jI
 split
 ·omega
 ·split
  ·omega
  ·split
   ·split
    ·omega
    ·split <;> omega
   ·split <;> omega
theorem pS {P:Pm} {s:Sh} {k c ss num len:Nat} {bs:Nat→Nat} (h:gG P s k c ss num len bs=0):(17≤k∧k≤22)∧(k=20→len=P.i):=by
 unfold gG jI at h
 by_cases hK:ia (k:Int)=false
 ·rw[if_pos hK]at h;omega
 ·rw[if_neg hK]at h
  have hK':ia (k:Int)=true:=by simpa using hK
  have hk:17≤k∧k≤22:=by unfold ia at hK';simp at hK';omega
  refine⟨hk,fun e=>?_⟩
  by_cases hC:c=P.c
  ·rw[if_neg (by omega)]at h
   by_cases h1:s.st=1
   ·rw[if_pos h1,if_pos (.inl (by omega))]at h;omega
   ·rw[if_neg h1]at h
    by_cases hw:ss≠s.ss∨cz P s k num len=false
    ·rw[if_pos hw]at h;omega
    ·have hw':cz P s k num len=true:=by
      cases hq:cz P s k num len
      ·exact absurd (.inr hq) hw
      ·rfl
     unfold cz at hw'
     simp at hw'
     omega
  ·rw[if_pos hC]at h;omega
theorem mf (d:Nat) (P:Pm) (U:List Nat) (s:Sh) (a:Option Addr) (len cap:Nat) (bs:Nat→Nat) (w:World) (h:HV w d P U s) (hr:Row8 w a len cap bs) (hL:s.L.length<800000) :
  Calls prog 108 #[ac d 0,.slice a len cap] w fun e w'=>e=.returned (.int .i64 (eF P s len bs))∧Hid (∃ U',Gr U w U' w'∧HV w' d P U' (dk P s len bs)):=by
 have hNote:∀ (x:Int) (wx:World),x≠0→0≤x→x≤200→HV wx d P U s→Calls prog 138 #[ac d 0,.int .i64 x] wx fun e w'=>e=.returned (.tuple #[])∧Hid (∃ U',Gr U wx U' w'∧HV w' d P U' (eM s x)):=fun x wx h0 h1 h2 hx=>kX d P U s x wx hx h0 (oY x h1 h2) (by omega)
 unfold dk eF
 by_cases hE:DE bs len=0
 ·rw[if_neg (by omega)]
  have hD:=gm a len cap bs w hr hE
  obtain⟨_,_,_,hLW⟩:=jb hE
  obtain⟨_,_,_,_,hf1⟩:=gU hLW
  have hby:∀ i,i<len→bs i<256:=hr.byte
  have hRg:=nF P s (bs 0) (aS bs 1) (aS bs 5) (aS bs 9) (len-19) (fun i=>bs (15+i))
  have hZ:=pS (P:=P) (s:=s) (k:=bs 0) (c:=aS bs 1) (ss:=aS bs 5) (num:=aS bs 9) (len:=len-19) (bs:=fun i=>bs (15+i))
  have hRf:=fun (w2:World) (a2:Option Addr) (c2:Nat) (ho:w2.ownsRow w.heap.size 5 1 (.slice a2 (len-19) c2) (len-19) (CB (fun i=>bs (15+i)) (len-19))) (wx:World) (hx:Below w2.heap.size w2 wx) (hw:Below w.heap.size w w2)=>mg d P U s (bs 0) (aS bs 1) (aS bs 5) (aS bs 9) (bs 13) a2 (len-19) c2 (fun i=>bs (15+i)) wx (HV.below h (hw.trans (hx.mono hw.size))) ((gQ ho (fun i hi=>hby _ (by omega))).below hx)
  have HH:Hid (_):=And.intro h (And.intro hL (And.intro hby (And.intro hf1 (And.intro hRg hZ))))
  have HR:Hid (_):=hRf
  have HN:Hid (_):=hNote
  clear h hr hL hE hLW hf1 hby hRg hZ hRf hNote
  generalize gG P s (bs 0) (aS bs 1) (aS bs 5) (aS bs 9) (len-19) (fun i=>bs (15+i))=E at *
  by_cases hz:E=0
  ·subst hz
   rw[if_neg (by simp)]
   go_enter func108,ntmps108
   go_wp2_with fail
   refine hD.mono ?_
   rintro e w2 ⟨a2,c2,rfl,h2⟩
   have b3:Below w2.heap.size w2 (w2.alloc (.cells #[.int .i64 (bs 0:Nat),.int .u32 (aS bs 1:Nat),.int .u32 (aS bs 5:Nat),.int .u32 (aS bs 9:Nat),.int .i64 (bs 13:Nat),.slice a2 (len-19) c2] 50)):=(Below.refl _ _).alloc (Nat.le_refl _) _
   have x3:=aA w2 (.cells #[.int .i64 (bs 0:Nat),.int .u32 (aS bs 1:Nat),.int .u32 (aS bs 5:Nat),.int .u32 (aS bs 9:Nat),.int .i64 (bs 13:Nat),.slice a2 (len-19) c2] 50)
   have l3:w2.heap.size < (w2.alloc (.cells #[.int .i64 (bs 0:Nat),.int .u32 (aS bs 1:Nat),.int .u32 (aS bs 5:Nat),.int .u32 (aS bs 9:Nat),.int .i64 (bs 13:Nat),.slice a2 (len-19) c2] 50)).heap.size:=by rw[World.size_alloc];omega
   have hRf:=HR.out w2 a2 c2 h2.out.1 _ b3 h2.out.2
   have H3:Hid (_):=And.intro b3 (And.intro x3 (And.intro l3 h2.out))
   clear hD b3 x3 l3 h2 HR
   go_wp2_with fail
   refine hRf.mono ?_
   rintro e w4 ⟨rfl,b4⟩
   obtain⟨b3,x3,l3,o2,b2⟩:=H3.out
   have b24:=b3.trans (b4.mono b3.size)
   have b04:=b2.trans (b24.mono b2.size)
   have e4:=(b4.block w2.heap.size l3).trans x3
   have u0:w4.cell? ⟨w2.heap.size,0,none⟩=some (.int .i64 (bs 0:Nat)):=ae w4 _ 0 _ _ _ e4
   have u1:w4.cell? ⟨w2.heap.size,1,none⟩=some (.int .u32 (aS bs 1:Nat)):=ae w4 _ 1 _ _ _ e4
   have u2:w4.cell? ⟨w2.heap.size,2,none⟩=some (.int .u32 (aS bs 5:Nat)):=ae w4 _ 2 _ _ _ e4
   have u3:w4.cell? ⟨w2.heap.size,3,none⟩=some (.int .u32 (aS bs 9:Nat)):=ae w4 _ 3 _ _ _ e4
   have u4:w4.cell? ⟨w2.heap.size,4,none⟩=some (.int .i64 (bs 13:Nat)):=ae w4 _ 4 _ _ _ e4
   have u5:w4.cell? ⟨w2.heap.size,5,none⟩=some (.slice a2 (len-19) c2):=ae w4 _ 5 _ _ _ e4
   obtain⟨h,hL,hby,hf1,hRg,hZ⟩:=HH.out
   obtain⟨hk,hlen⟩:=hZ trivial
   have hT:=sf d P U s (bs 0) (aS bs 1) (aS bs 5) (aS bs 9) (bs 13) a2 (len-19) c2 (fun i=>bs (15+i)) w4 (HV.below h b04) ((gQ o2 (fun i hi=>hby _ (by omega))).below b24) (fun x hx=>⟨Nat.lt_of_lt_of_le (mu o2 x hx).2 b24.size,fun hm=>by have:=(mu o2 x hx).1;have:=HV.ult h _ hm;omega⟩) hk (by omega) hlen (by omega)
   have H4:Hid (_):=b04
   clear hRf b4 b3 x3 l3 o2 b2 b24 b04 e4 h hL hby hf1 hRg hZ hk hlen HH H3 HN
   go_wp2_with fail
   refine hT.mono ?_
   rintro e w5 ⟨rfl,h5⟩
   obtain⟨U5,g5,x5⟩:=h5.out
   have H5:Hid (_):=And.intro ((Gr.below (U:=U) H4.out).trans g5) x5
   clear hT h5 g5 x5 H4 u0 u1 u2 u3 u4 u5
   go_wp2_with fail
   go_ret
   exact⟨rfl,U5,H5.out.1,H5.out.2⟩
  ·rw[if_pos hz]
   have e1:(E != 0)=true:=by simpa using hz
   have HZ:Hid (_):=hz
   clear hz
   go_enter func108,ntmps108
   go_wp2_with fail
   refine hD.mono ?_
   rintro e w2 ⟨a2,c2,rfl,h2⟩
   have b3:Below w2.heap.size w2 (w2.alloc (.cells #[.int .i64 (bs 0:Nat),.int .u32 (aS bs 1:Nat),.int .u32 (aS bs 5:Nat),.int .u32 (aS bs 9:Nat),.int .i64 (bs 13:Nat),.slice a2 (len-19) c2] 50)):=(Below.refl _ _).alloc (Nat.le_refl _) _
   have x3:=aA w2 (.cells #[.int .i64 (bs 0:Nat),.int .u32 (aS bs 1:Nat),.int .u32 (aS bs 5:Nat),.int .u32 (aS bs 9:Nat),.int .i64 (bs 13:Nat),.slice a2 (len-19) c2] 50)
   have l3:w2.heap.size < (w2.alloc (.cells #[.int .i64 (bs 0:Nat),.int .u32 (aS bs 1:Nat),.int .u32 (aS bs 5:Nat),.int .u32 (aS bs 9:Nat),.int .i64 (bs 13:Nat),.slice a2 (len-19) c2] 50)).heap.size:=by rw[World.size_alloc];omega
   have hRf:=HR.out w2 a2 c2 h2.out.1 _ b3 h2.out.2
   have H3:Hid (_):=And.intro b3 (And.intro x3 (And.intro l3 h2.out))
   clear hD b3 x3 l3 h2 HR
   go_wp2_with fail
   refine hRf.mono ?_
   rintro e w4 ⟨rfl,b4⟩
   obtain⟨b3,x3,l3,o2,b2⟩:=H3.out
   have b24:=b3.trans (b4.mono b3.size)
   have b04:=b2.trans (b24.mono b2.size)
   have hN:=HN.out E _ HZ.out HH.out.2.2.2.2.1.1 HH.out.2.2.2.2.1.2 (HV.below HH.out.1 b04)
   have H4:Hid (_):=b04
   clear hRf b4 b3 x3 l3 o2 b2 b24 b04 HH H3 HN HZ
   go_wp2_with fail
   refine hN.mono ?_
   rintro e w5 ⟨rfl,h5⟩
   obtain⟨U5,g5,x5⟩:=h5.out
   have H5:Hid (_):=And.intro ((Gr.below (U:=U) H4.out).trans g5) x5
   clear hN h5 g5 x5 H4
   go_wp2_with fail
   go_ret
   exact⟨rfl,U5,H5.out.1,H5.out.2⟩
 ·rw[if_pos hE,if_pos hE]
  have hD:=gi a len cap bs w hr hE
  have hRg:=te bs len
  have e0:(DE bs len == 0)=false:=by simpa using hE
  have e1:(DE bs len != 0)=true:=by simpa using hE
  have HH:Hid (_):=And.intro h (And.intro hE hRg)
  have HN:Hid (_):=hNote
  clear h hr hL hE hRg hNote
  generalize DE bs len=E at *
  go_enter func108,ntmps108
  go_wp2_with fail
  refine hD.mono ?_
  rintro e w2 ⟨rfl,b2⟩
  have b3:Below w.heap.size w (w2.alloc (.cells cR 50)):=b2.alloc b2.size _
  have hN:=HN.out E _ HH.out.2.1 HH.out.2.2.1 (by have:=HH.out.2.2.2;omega) (HV.below HH.out.1 b3)
  have H3:Hid (_):=b3
  clear hD b2 b3 HN HH
  go_wp2_with fail
  refine hN.mono ?_
  rintro e w4 ⟨rfl,h4⟩
  obtain⟨U4,g4,x4⟩:=h4.out
  have H4:Hid (_):=And.intro ((Gr.below (U:=U) H3.out).trans g4) x4
  clear hN h4 g4 x4 H3
  go_wp2_with fail
  go_ret
  exact⟨rfl,U4,H4.out.1,H4.out.2⟩
theorem sg (d:Nat) (P:Pm) (U:List Nat) (s:Sh) (k:Int) (w:World) (h:HV w d P U s) (hk:k≤9223372036854775807) (hL:s.L.length<800000) :
  Calls prog 257 #[ac d 0,.int .i64 k] w fun e w'=>e=.returned (.int .i64 (dZ k))∧Hid (∃ U',Gr U w U' w'∧HV w' d P U' (d7 P s k)):=by
 obtain⟨B,x⟩:=id h
 have c6:=x.c6
 unfold dZ d7
 by_cases hn:k<0
 ·rw[if_pos hn,if_pos hn]
  have qT:=kj k B.db w hn
  have H:Hid (_):=h
  clear h x
  go_enter func257,ntmps257
  go_wp2_with (go_at_call 260;refine qT.mono ?_;rintro e w' ⟨rfl,hw⟩;have hw:=hw.symm;subst hw)
  go_ret
  exact⟨rfl,U,Gr.refl _ _,H.out⟩
 ·rw[if_neg hn,if_neg hn]
  obtain⟨j,rfl⟩:∃ j:Nat,k=(j:Int):=⟨k.toNat,by omega⟩
  rw[show (j:Int).toNat=j from rfl]
  have qT:=ki P.t s.dc j B.db w x.dog (by omega)
  have HX':Hid (_):=x
  have HL:Hid (_):=hL
  clear h x hn hk hL
  cases ht:kI P.t s.dc j
  ·rw[if_neg (by simp)]
   rw[ht]at qT
   go_enter func257,ntmps257
   go_wp2_with (go_at_call 260;refine qT.mono ?_;rintro e w2 ⟨rfl,o2,d2⟩;have H2:Hid (_):=And.intro (Gr.same (U:=U) o2 (by simp[HX'.out.kb.2])) (HX'.out.dogd o2 d2);clear o2 d2)
   go_ret
   exact⟨rfl,U,H2.out.1,B,H2.out.2⟩
  ·rw[if_pos rfl]
   rw[ht]at qT
   go_enter func257,ntmps257
   go_wp2_with (go_at_call 260;refine qT.mono ?_;rintro e w2 ⟨rfl,o2,d2⟩;have H2:Hid (_):=And.intro (Gr.same (U:=U) o2 (by simp[HX'.out.kb.2])) (HX'.out.dogd o2 d2);clear o2 d2)
   refine (gL d P U { s with dc:=tk P.t s.dc j } 100 w2 ⟨B,H2.out.2⟩ (by omega) (by decide) (by have:=HL.out;show s.L.length<900000;omega)).mono ?_
   rintro e w3 ⟨rfl,h3⟩
   clear qT
   go_wp2_with fail
   go_ret
   obtain⟨U3,g3,x3⟩:=h3.out
   exact⟨rfl,U3,H2.out.1.trans g3,x3⟩
theorem tM (d:Nat) (P:Pm) (U:List Nat) (s:Sh) (w:World) (h:HV w d P U s) :
  Calls prog 256 #[ac d 0] w fun e w'=>e=.returned (.int .i64 (fJ s))∧Hid (∃ U',Gr U w U' w'∧HV w' d P U' (iX s)):=by
 obtain⟨B,x⟩:=id h
 have c7:=x.c7
 unfold fJ iX
 have qA:=oP _ _ _ _ _ _ x.val
 have HX':Hid (_):=x
 clear h x
 go_enter func256,ntmps256
 go_wp2_with (go_at_call 259;refine qA.mono ?_;rintro e w2 ⟨rfl,h2⟩)
 go_ret
 obtain⟨U2,B2,g2,x2⟩:=HX'.out.vals h2.out.1 h2.out.2
 exact⟨rfl,U2,g2,B2,x2⟩
theorem HX.appd {w w1 w2:World} {d:Nat} {P:Pm} {U:List Nat} {s s':Sh} {B:Bh} (h:HX w d P U s B) {v:Value} {bs:Nat→Nat} (hb:Below w.heap.size w w1) (ho:w1.ownsRow w.heap.size 5 1 v P.o (CB bs P.o)) (hy:∀ i,i<P.o→bs i<256) (o:Off [d] w1 w2)
  (e:w2.heap[d]?=some (.cells (iz P B.lb B.db B.vb s' v) 141 (0,0))) (h2:s'.dc=s.dc) (h3:s'.v=s.v) (h4:s'.L=s.L) (h5:s'.ap=bs) :
  ∃ U' B',Gr U w U' w2∧HX w2 d P U' s' B':=by
 have x1:=h.newd (Off.of_below (l:=[]) hb)
 have hd:=h.dlt
 have hn:∀ k,B.col k≠0→k ∉ [d]:=fun k hk hm=>by simp at hm;rw[hm,h.kd.1]at hk;exact hk rfl
 have hge:∀ k,v.ownBlock=some k→w.heap.size≤k:=fun k hk=>Fr.ge (f:=(P.o,bs)) ho k hk
 have hlt:∀ k,v.ownBlock=some k→k<w1.heap.size:=fun k hk=>Fr.lt (f:=(P.o,bs)) ho k hk
 have hq:∀ k x,B.col k=x∧k ∈ U→(if k<w.heap.size then B.col k else 6)=x∧k ∈ v.ownBlock.toList ++ U:=fun k x hk=>⟨by rw[if_pos (h.ltU k hk.2)];exact hk.1,List.mem_append.2 (.inr hk.2)⟩
 refine⟨v.ownBlock.toList ++ U,{ B with av:=v,col:=fun k=>if k<w.heap.size then B.col k else 6 },⟨(Off.of_below hb).trans (o.more (by simp[h.kd.2])),fun k hk=>?_⟩,?_⟩
 ·rcases List.mem_append.1 hk with hk | hk
  ·exact .inr (hge k (by simpa using hk))
  ·exact .inl hk
 ·refine⟨e,?_,?_,?_,?_,h5 ▸ hy,?_,hq _ _ h.kd,hq _ _ h.kb,hq _ _ h.kv,hq _ _ h.kw,fun k hk=>hq _ _ (h.kM k hk),fun k hk=>hq _ _ (h.kl k hk),?_,h.pok⟩
  ·rw[h2];exact x1.dog.off o (hn _ (by rw[h.kb.1];omega))
  ·rw[h3];exact x1.val.off o (hn _ (by rw[h.kv.1];omega)) (hn _ (by rw[h.kw.1];omega)) (fun k hk hM=>by simp at hk;subst hk;have:=(h.kM _ hM).1;rw[h.kd.1]at this;omega)
  ·rw[h4];exact x1.log.off o (fun k hk=>hn _ (by rw[(h.kl k hk).1];omega))
  ·rw[h5];exact aH (aN ho (Nat.zero_le _)) o (fun k hk=>by have:=hge k hk;simp;omega)
  ·intro k hk
   rcases List.mem_append.1 hk with hk | hk
   ·exact Nat.lt_of_lt_of_le (hlt k (by simpa using hk)) o.size
   ·exact Nat.lt_of_lt_of_le (x1.ltU k hk) o.size
  ·intro k hk
   have:=hge k hk
   exact⟨by show (if k<w.heap.size then _ else 6)=6;rw[if_neg (by omega)],List.mem_append.2 (.inl (by simpa using hk))⟩
theorem pW (d:Nat) (P:Pm) (U:List Nat) (s:Sh) (a:Option Addr) (len cap:Nat) (bs:Nat→Nat) (o:Bool) (w:World) (h:HV w d P U s) (hr:Row8 w a len cap bs) :
  Calls prog 258 #[ac d 0,.slice a len cap,.bool o] w fun e w'=>e=.returned (.int .i64 (gt P len))∧Hid (∃ U',Gr U w U' w'∧HV w' d P U' (dE P s len bs o)):=by
 obtain⟨B,x⟩:=id h
 have c1:=x.c1
 unfold gt dE
 by_cases hl:len=P.o
 ·subst hl
  rw[if_pos rfl,if_pos rfl]
  obtain⟨i0,hi,hz0,hz1,hz2⟩:=info_parts bV
  have O0:w.ownsRow w.heap.size 5 1 (.slice none 0 0) 0 []:=World.ownsRow_nil w _ _ _
  have hi8:=x.pok.o8
  have hdl:=x.dlt
  have HX':Hid (_):=And.intro x hr.byte
  clear h x
  go_enter func258,ntmps258
  go_wp2_with (at_builtin;refine a9 rfl (.const (.slice none 0 0)) (.tmp 19) 37 rfl w.heap.size 5 i0 (.int .u8 0) underlying37 hi hz0 hz1 hz2 rfl _ 0 _ rfl O0 a P.o cap bs rfl hr (by unfold maxLen;omega) (by omega) (Nat.le_refl _) ?_)
  intro v2 w2 hown2 hgrow2
  have hbel2:Below w.heap.size w w2:=(Below.refl _ _).grown hgrow2 (Nat.le_refl _) (fun j hj=>by cases hj)
  obtain⟨a2,k2,rfl,_⟩:=aY hown2 HX'.out.2
  have x2:=HX'.out.1.newd (Off.of_below hbel2)
  have y14:=x2.c14
  have y15:=x2.c15
  have f14:=x2.fz 14
  have f15:=x2.fz 15
  have H2:Hid (_):=And.intro hown2 (And.intro hbel2 x2)
  clear hown2 hbel2 hgrow2 O0 hr x2 c1
  go_wp2_with fail
  go_ret
  obtain⟨h1,h2,x2⟩:=H2.out
  have e1:(w2.setCell ⟨d,14,none⟩ (.slice a2 P.o k2)).heap[d]?=some (.cells (iz P B.lb B.db B.vb s (.slice a2 P.o k2)) 141 (0,0)):=heap_setCell_same _ _ _ _ _ _ x2.dev
  have e2:((w2.setCell ⟨d,14,none⟩ (.slice a2 P.o k2)).setCell ⟨d,15,none⟩ (.bool o)).heap[d]?=some (.cells (iz P B.lb B.db B.vb { s with ap:=bs,hd:=o } (.slice a2 P.o k2)) 141 (0,0)):=heap_setCell_same _ _ _ _ _ _ e1
  obtain⟨U3,B3,g3,x3⟩:=HX'.out.1.appd (s':={ s with ap:=bs,hd:=o }) h2 h1 HX'.out.2 ((Off.setCell d 14 w2 (.slice a2 P.o k2)).trans (Off.setCell d 15 _ (.bool o))) e2 rfl rfl rfl rfl
  exact⟨rfl,U3,g3,B3,x3⟩
 ·rw[if_neg hl,if_neg hl]
  have el:((len:Int) != (P.o:Int))=true:=by simp;omega
  have H:Hid (_):=h
  clear h x hr hl
  go_enter func258,ntmps258
  go_wp2_with fail
  go_ret
  exact⟨rfl,U,Gr.refl _ _,H.out⟩
theorem HX.lived {w w1 w2:World} {d:Nat} {P:Pm} {U:List Nat} {s:Sh} {B:Bh} (h:HX w d P U s B) {db vb vg ga:Nat} (q:NL w w1 (sw P) db vb vg ga) (o:Off [d] w1 w2)
  (e:w2.heap[d]?=some (.cells (iz P B.lb db vb (ft s) (.slice (af ga 0) P.o P.o)) 141 (0,0))) :
  ∃ U' B',Gr U w U' w2∧HX w2 d P U' (ft s) B':=by
 obtain⟨q1,q2,q3,q4,q5,q6,q7,q8,q9,q10⟩:=q
 have hd:=h.dlt
 have hq:∀ k x,B.col k=x∧k ∈ U→(if k<w.heap.size then B.col k else if k=db then 3 else if k=vb∨k=vg then 4 else 6)=x∧k ∈ [db,vb,vg,ga] ++ U:=fun k x hk=>⟨by rw[if_pos (h.ltU k hk.2)];exact hk.1,List.mem_append.2 (.inr hk.2)⟩
 have hn:∀ k,B.col k≠0→k ∉ [d]:=fun k hk hm=>by simp at hm;rw[hm,h.kd.1]at hk;exact hk rfl
 have h1:=h.newd (Off.of_below (l:=[]) q4)
 refine⟨[db,vb,vg,ga] ++ U,{ B with db:=db,vb:=vb,vg:=vg,M:=[],av:=.slice (af ga 0) P.o P.o,col:=fun k=>if k<w.heap.size then B.col k else if k=db then 3 else if k=vb∨k=vg then 4 else 6 },⟨?_,?_⟩,?_⟩
 ·exact (Off.of_below q4).trans (o.more (by simp[h.kd.2]))
 ·intro k hk
  rcases List.mem_append.1 hk with hk | hk
  ·simp at hk;right;omega
  ·exact .inl hk
 ·refine⟨e,q1.off o (by simp;omega),q2.off o (by simp;omega) (by simp;omega) (by simp),h1.log.off o (fun k hk=>hn _ (by rw[(h.kl k hk).1];omega)),?_,fun _ _=>by show 0<256;omega,?_,hq _ _ h.kd,?_,?_,?_,fun k hk=>(by simp at hk),fun k hk=>hq _ _ (h.kl k hk),?_,h.pok⟩
  ·refine aH (aN q3 (Nat.zero_le _)) o (fun k hk=>?_)
   cases hk
   simp;omega
  ·intro k hk
   have so:=o.size
   rcases List.mem_append.1 hk with hk | hk
   ·simp at hk;omega
   ·exact Nat.lt_of_lt_of_le (h1.ltU k hk) so
  ·exact⟨by show (if db<w.heap.size then _ else if db=db then 3 else _)=3;rw[if_neg (by omega),if_pos rfl],by simp⟩
  ·exact⟨by show (if vb<w.heap.size then _ else if vb=db then 3 else if vb=vb∨vb=vg then 4 else 6)=4;rw[if_neg (by omega),if_neg (by omega),if_pos (.inl rfl)],by simp⟩
  ·exact⟨by show (if vg<w.heap.size then _ else if vg=db then 3 else if vg=vb∨vg=vg then 4 else 6)=4;rw[if_neg (by omega),if_neg (by omega),if_pos (.inr rfl)],by simp⟩
  ·intro k hk
   cases hk
   exact⟨by show (if ga<w.heap.size then _ else if ga=db then 3 else if ga=vb∨ga=vg then 4 else 6)=6;rw[if_neg (by omega),if_neg (by omega),if_neg (by omega)],by simp⟩
theorem aap (b:Nat) (w:World) (x0 x1 x2 x3 x4 x5 x6 x7 x8 x9:Value):Off [b] w ((((((((((w.setCell ⟨b,6,none⟩ x0).setCell ⟨b,7,none⟩ x1).setCell ⟨b,8,none⟩ x2).setCell ⟨b,9,none⟩ x3).setCell ⟨b,10,none⟩ x4).setCell ⟨b,11,none⟩ x5).setCell ⟨b,12,none⟩ x6).setCell ⟨b,13,none⟩ x7).setCell ⟨b,14,none⟩ x8).setCell ⟨b,15,none⟩ x9):=
 (((((((((Off.setCell b 6 w x0).trans (Off.setCell b 7 _ x1)).trans (Off.setCell b 8 _ x2)).trans (Off.setCell b 9 _ x3)).trans (Off.setCell b 10 _ x4)).trans (Off.setCell b 11 _ x5)).trans (Off.setCell b 12 _ x6)).trans (Off.setCell b 13 _ x7)).trans (Off.setCell b 14 _ x8)).trans (Off.setCell b 15 _ x9)
theorem xB {w:World} {d lb db vb db' vb':Nat} {P:Pm} {av av':Value} {s:Sh} (e:w.heap[d]?=some (.cells (iz P lb db vb s av) 141 (0,0))) :
  ((((((((((w.setCell ⟨d,6,none⟩ (ac db' 0)).setCell ⟨d,7,none⟩ (ac vb' 0)).setCell ⟨d,8,none⟩ (.int .i64 1)).setCell ⟨d,9,none⟩ (.int .u32 0)).setCell ⟨d,10,none⟩ (.int .u32 0)).setCell ⟨d,11,none⟩ (.int .u32 0)).setCell ⟨d,12,none⟩ (.bool false)).setCell ⟨d,13,none⟩ (.int .i64 0)).setCell ⟨d,14,none⟩ (av')).setCell ⟨d,15,none⟩ (.bool false)).heap[d]?=some (.cells (iz P lb db' vb' (ft s) av') 141 (0,0)):=by
 have e0:(w.setCell ⟨d,6,none⟩ (ac db' 0)).heap[d]?=some (.cells (iz P lb db' vb s av) 141 (0,0)):=heap_setCell_same _ _ _ _ _ _ e
 have e1:((w.setCell ⟨d,6,none⟩ (ac db' 0)).setCell ⟨d,7,none⟩ (ac vb' 0)).heap[d]?=some (.cells (iz P lb db' vb' s av) 141 (0,0)):=heap_setCell_same _ _ _ _ _ _ e0
 have e2:(((w.setCell ⟨d,6,none⟩ (ac db' 0)).setCell ⟨d,7,none⟩ (ac vb' 0)).setCell ⟨d,8,none⟩ (.int .i64 1)).heap[d]?=some (.cells (iz P lb db' vb' { s with st:=1 } av) 141 (0,0)):=heap_setCell_same _ _ _ _ _ _ e1
 have e3:((((w.setCell ⟨d,6,none⟩ (ac db' 0)).setCell ⟨d,7,none⟩ (ac vb' 0)).setCell ⟨d,8,none⟩ (.int .i64 1)).setCell ⟨d,9,none⟩ (.int .u32 0)).heap[d]?=some (.cells (iz P lb db' vb' { s with st:=1,ss:=0 } av) 141 (0,0)):=heap_setCell_same _ _ _ _ _ _ e2
 have e4:(((((w.setCell ⟨d,6,none⟩ (ac db' 0)).setCell ⟨d,7,none⟩ (ac vb' 0)).setCell ⟨d,8,none⟩ (.int .i64 1)).setCell ⟨d,9,none⟩ (.int .u32 0)).setCell ⟨d,10,none⟩ (.int .u32 0)).heap[d]?=some (.cells (iz P lb db' vb' { s with st:=1,ss:=0,nm:=0 } av) 141 (0,0)):=heap_setCell_same _ _ _ _ _ _ e3
 have e5:((((((w.setCell ⟨d,6,none⟩ (ac db' 0)).setCell ⟨d,7,none⟩ (ac vb' 0)).setCell ⟨d,8,none⟩ (.int .i64 1)).setCell ⟨d,9,none⟩ (.int .u32 0)).setCell ⟨d,10,none⟩ (.int .u32 0)).setCell ⟨d,11,none⟩ (.int .u32 0)).heap[d]?=some (.cells (iz P lb db' vb' { s with st:=1,ss:=0,nm:=0,sn:=0 } av) 141 (0,0)):=heap_setCell_same _ _ _ _ _ _ e4
 have e6:(((((((w.setCell ⟨d,6,none⟩ (ac db' 0)).setCell ⟨d,7,none⟩ (ac vb' 0)).setCell ⟨d,8,none⟩ (.int .i64 1)).setCell ⟨d,9,none⟩ (.int .u32 0)).setCell ⟨d,10,none⟩ (.int .u32 0)).setCell ⟨d,11,none⟩ (.int .u32 0)).setCell ⟨d,12,none⟩ (.bool false)).heap[d]?=some (.cells (iz P lb db' vb' { s with st:=1,ss:=0,nm:=0,sn:=0,wt:=false } av) 141 (0,0)):=heap_setCell_same _ _ _ _ _ _ e5
 have e7:((((((((w.setCell ⟨d,6,none⟩ (ac db' 0)).setCell ⟨d,7,none⟩ (ac vb' 0)).setCell ⟨d,8,none⟩ (.int .i64 1)).setCell ⟨d,9,none⟩ (.int .u32 0)).setCell ⟨d,10,none⟩ (.int .u32 0)).setCell ⟨d,11,none⟩ (.int .u32 0)).setCell ⟨d,12,none⟩ (.bool false)).setCell ⟨d,13,none⟩ (.int .i64 0)).heap[d]?=some (.cells (iz P lb db' vb' { s with st:=1,ss:=0,nm:=0,sn:=0,wt:=false,ms:=0 } av) 141 (0,0)):=heap_setCell_same _ _ _ _ _ _ e6
 have e8:(((((((((w.setCell ⟨d,6,none⟩ (ac db' 0)).setCell ⟨d,7,none⟩ (ac vb' 0)).setCell ⟨d,8,none⟩ (.int .i64 1)).setCell ⟨d,9,none⟩ (.int .u32 0)).setCell ⟨d,10,none⟩ (.int .u32 0)).setCell ⟨d,11,none⟩ (.int .u32 0)).setCell ⟨d,12,none⟩ (.bool false)).setCell ⟨d,13,none⟩ (.int .i64 0)).setCell ⟨d,14,none⟩ (av')).heap[d]?=some (.cells (iz P lb db' vb' { s with st:=1,ss:=0,nm:=0,sn:=0,wt:=false,ms:=0 } av') 141 (0,0)):=heap_setCell_same _ _ _ _ _ _ e7
 have e9:((((((((((w.setCell ⟨d,6,none⟩ (ac db' 0)).setCell ⟨d,7,none⟩ (ac vb' 0)).setCell ⟨d,8,none⟩ (.int .i64 1)).setCell ⟨d,9,none⟩ (.int .u32 0)).setCell ⟨d,10,none⟩ (.int .u32 0)).setCell ⟨d,11,none⟩ (.int .u32 0)).setCell ⟨d,12,none⟩ (.bool false)).setCell ⟨d,13,none⟩ (.int .i64 0)).setCell ⟨d,14,none⟩ (av')).setCell ⟨d,15,none⟩ (.bool false)).heap[d]?=some (.cells (iz P lb db' vb' (ft s) av') 141 (0,0)):=heap_setCell_same _ _ _ _ _ _ e8
 exact e9
theorem pT (d:Nat) (P:Pm) (U:List Nat) (s:Sh) (w:World) (h:HV w d P U s) :
  Calls prog 84 #[ac d 0] w fun e w'=>e=.returned (.int .i64 0)∧Hid (∃ U',Gr U w U' w'∧HV w' d P U' (ft s)):=by
 obtain⟨B,h⟩:=h
 have c0:=h.c0
 have c1:=h.c1
 have c2:=h.c2
 have c3:=h.c3
 have c4:=h.c4
 have hL:=ie P h.pok w
 have H:Hid (_):=h
 clear h
 go_enter func84,ntmps84
 go_wp2_with (go_at_call 75;refine hL.mono ?_;rintro e w1 ⟨db,vb,vg,ga,rfl,h1⟩;have x1:=H.out.newd (Off.of_below h1.out.bel);have y6:=x1.c6;have y7:=x1.c7;have y8:=x1.c8;have y9:=x1.c9;have y10:=x1.c10;have y11:=x1.c11;have y12:=x1.c12;have y13:=x1.c13;have y14:=x1.c14;have y15:=x1.c15;have f6:=x1.fz 6;have f7:=x1.fz 7;have f8:=x1.fz 8;have f9:=x1.fz 9;have f10:=x1.fz 10;have f11:=x1.fz 11;have f12:=x1.fz 12;have f13:=x1.fz 13;have f14:=x1.fz 14;have f15:=x1.fz 15;clear x1 hL c0 c1 c2 c3 c4)
 go_ret
 have e1:=(H.out.newd (Off.of_below h1.out.bel)).dev
 have o:=aap d w1 (ac db 0) (ac vb 0) (.int .i64 1) (.int .u32 0) (.int .u32 0) (.int .u32 0) (.bool false) (.int .i64 0) (.slice (af ga 0) P.o P.o) (.bool false)
 have e2:=xB (db':=db) (vb':=vb) (av':=.slice (af ga 0) P.o P.o) e1
 obtain⟨U',B',g2,x2⟩:=H.out.lived h1.out o e2
 exact⟨rfl,U',g2,B',x2⟩
end Go.Proofs.YtenilkloffnjlaaGreat
