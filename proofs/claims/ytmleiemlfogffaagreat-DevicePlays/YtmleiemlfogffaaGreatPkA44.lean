/- Part 45 of the texts on which the proofs of layer 13 rest: contracts of Go functions. -/
import Derived.Test.YtmleiemlfogffaaGreatPkA41
import Derived.Test.YtmleiemlfogffaaGreatPkA42
import Derived.Test.YtmleiemlfogffaaGreatPkA43
namespace Go.Proofs.YtmleiemlfogffaaGreat
set_option maxRecDepth 100000
open Go.RowKit
set_option maxRecDepth 100000 in
set_option maxHeartbeats 8000000 in
theorem dplays_short (c : Nat) (o i t : Int) (nC mx : Nat) (a1 : Option Addr) (len1 cap1 : Nat) (bs : Nat → Nat) (a3 : Option Addr) (len3 cap3 : Nat) (w : World) (R : Row8 w a1 len1 cap1 bs) (hL : 4096 < len1) (hs : len1 ≤ 140737488351232) :
    Calls Tryz.prog 3 #[.agg #[.int .u32 (c : Nat), .int .i64 o, .int .i64 i, .int .i64 t, .int .u32 (nC : Nat)], .slice a1 len1 cap1, .int .u32 (mx : Nat), .slice a3 len3 cap3] w fun e w' => e = .returned (.bool true) ∧ Below w.heap.size w w' := by
  obtain ⟨i0, hi, hz0, hz1, hz2⟩ := info_parts info_u8
  have hbd := build0D
  have hby := R.byte
  have bb : Below w.heap.size w (w.alloc (.cells #[.int .u32 (c : Nat), .int .i64 o, .int .i64 i, .int .i64 t, .int .u32 (nC : Nat)] 24)) := (Below.refl _ _).alloc (Nat.le_refl _) _
  have HB : Hid (_) := And.intro bb R
  clear bb R
  go_enter Tryz.func3, Tryz.ntmps3
  go_wp2_with fail
  refine (awake13 _).mono ?_
  rintro e w1 ⟨rfl, b1'⟩
  have b1 := HB.out.1.trans (b1'.mono HB.out.1.size)
  have RA := HB.out.2.below b1
  clear b1'
  have k1 := b1.size
  have hbelA : Below w1.heap.size w1 (w1.alloc (.cells #[] 5)) := (Below.refl _ _).alloc (Nat.le_refl _) _
  have R0 := RA.below hbelA
  have O0 := own0D w1.heap.size bs w1 (Nat.le_refl _)
  have hszA := hbelA.size
  have H1 : Hid (_) := b1
  clear HB RA b1
  go_wp2_with (at_builtin; refine wpList_append_row8 rfl (.tmp 19) (.tmp 20) 25 rfl w1.heap.size 5 i0 (.int .u8 0) Tryz.underlying25 hi hz0 hz1 hz2 rfl _ 0 _ rfl O0 a1 len1 cap1 bs rfl R0 (by unfold maxLen; omega) (by omega) hszA ?_)
  intro v3 w2 hown2 hgrow2
  have hbel2 : Below w1.heap.size w1 w2 := hbelA.grown hgrow2 hszA (fun j hj => (O0.lt j hj).1)
  rw [show CB bs 0 = [] from rfl, List.nil_append] at hown2
  obtain ⟨a4, c4, rfl, _⟩ := own_row8 (by simpa using hown2) hby
  have b2 : Below w.heap.size w w2 := H1.out.trans (hbel2.mono H1.out.size)
  have H2 : Hid (_) := b2
  have qa := load_no a4 len1 c4 w2 hL
  have qb := rload_no a1 len1 cap1 w2 hL
  clear hown2 hgrow2 O0 R0 hbelA hbel2 hszA b2 k1 H1
  go_wp2_with fail
  refine qa.mono ?_
  rintro e w' ⟨rfl, hw⟩
  rw [hw]
  clear hw qa
  go_wp2_with fail
  refine qb.mono ?_
  rintro e w' ⟨rfl, hw⟩
  rw [hw]
  clear hw qb
  go_wp2_with fail
  go_ret
  exact ⟨rfl, H2.out⟩
set_option maxRecDepth 100000 in
set_option maxHeartbeats 8000000 in
theorem dplays_go (c : Nat) (o i t : Int) (nC mx : Nat) (a1 : Option Addr) (len1 cap1 : Nat) (bs : Nat → Nat) (a3 : Option Addr) (len3 cap3 : Nat) (w : World) (hc : c < 4294967296) (hn : nC < 4294967296) (hmx : mx < 4294967296) (R : Row8 w a1 len1 cap1 bs) (hL : len1 ≤ 4096) (hO : OpRow w a3 len3) :
    Calls Tryz.prog 3 #[.agg #[.int .u32 (c : Nat), .int .i64 o, .int .i64 i, .int .i64 t, .int .u32 (nC : Nat)], .slice a1 len1 cap1, .int .u32 (mx : Nat), .slice a3 len3 cap3] w fun e w' => e = .returned (.bool true) ∧ Below w.heap.size w w' := by
  obtain ⟨i0, hi, hz0, hz1, hz2⟩ := info_parts info_u8
  have hbd := build0D
  have hby := R.byte
  have bb : Below w.heap.size w (w.alloc (.cells #[.int .u32 (c : Nat), .int .i64 o, .int .i64 i, .int .i64 t, .int .u32 (nC : Nat)] 24)) := (Below.refl _ _).alloc (Nat.le_refl _) _
  have hbx := heap_alloc_new w (.cells #[.int .u32 (c : Nat), .int .i64 o, .int .i64 i, .int .i64 t, .int .u32 (nC : Nat)] 24)
  have hlx : w.heap.size < (w.alloc (.cells #[.int .u32 (c : Nat), .int .i64 o, .int .i64 i, .int .i64 t, .int .u32 (nC : Nat)] 24)).heap.size := by rw [World.size_alloc]; omega
  have HB : Hid (_) := And.intro bb (And.intro R (And.intro hbx (And.intro hlx (And.intro hc (And.intro hn hmx)))))
  obtain ⟨hlen, h0⟩ := hO
  have HC : Hid (_) := h0
  clear bb R hbx hlx h0 hc hn hmx
  go_enter Tryz.func3, Tryz.ntmps3
  go_wp2_with fail
  refine (awake13 _).mono ?_
  rintro e w1 ⟨rfl, b1'⟩
  obtain ⟨hb0, R, hbx, hlx, _⟩ := HB.out
  have b1 := hb0.trans (b1'.mono hb0.size)
  have RA := R.below b1
  have e1 := (b1'.block w.heap.size hlx).trans hbx
  have l1 : w.heap.size < w1.heap.size := Nat.lt_of_lt_of_le hlx b1'.size
  have hbelA : Below w1.heap.size w1 (w1.alloc (.cells #[] 5)) := (Below.refl _ _).alloc (Nat.le_refl _) _
  have R0 := RA.below hbelA
  have O0 := own0D w1.heap.size bs w1 (Nat.le_refl _)
  have hszA := hbelA.size
  have H1 : Hid (_) := And.intro b1 (And.intro e1 l1)
  clear b1' hb0 R hbx hlx b1 RA e1 l1
  go_wp2_with (at_builtin; refine wpList_append_row8 rfl (.tmp 19) (.tmp 20) 25 rfl w1.heap.size 5 i0 (.int .u8 0) Tryz.underlying25 hi hz0 hz1 hz2 rfl _ 0 _ rfl O0 a1 len1 cap1 bs rfl R0 (by unfold maxLen; omega) (by omega) hszA ?_)
  intro v3 w2 hown2 hgrow2
  have hbel2 : Below w1.heap.size w1 w2 := hbelA.grown hgrow2 hszA (fun j hj => (O0.lt j hj).1)
  rw [show CB bs 0 = [] from rfl, List.nil_append] at hown2
  obtain ⟨a4, c4, rfl, R4⟩ := own_row8 (by simpa using hown2) hby
  have qa := load_ok a4 len1 c4 bs w2 (by simpa using R4) hL
  have H2 : Hid (_) := And.intro (H1.out.1.trans (hbel2.mono H1.out.1.size)) (And.intro ((hbel2.block w.heap.size H1.out.2.2).trans H1.out.2.1) (Nat.lt_of_lt_of_le H1.out.2.2 hbel2.size))
  clear hown2 hgrow2 O0 R0 hbelA hbel2 hszA H1 R4
  go_wp2_with fail
  refine qa.mono ?_
  rintro e w3 ⟨m, g, rfl, h3⟩
  obtain ⟨lm, lg, o3, M3⟩ := h3.out
  have b3 : Below w.heap.size w w3 := o3.below H2.out.1 (by simp) H2.out.1.size
  have qb := rload_ok a1 len1 cap1 bs w3 (HB.out.2.1.below b3) hL
  have s2 := H2.out.2.2
  have H3 : Hid (_) := And.intro b3 (And.intro ((o3.block w.heap.size H2.out.2.2 (by simp)).trans H2.out.2.1) (And.intro (Nat.lt_of_lt_of_le H2.out.2.2 o3.size) (And.intro M3 (And.intro (by omega : w.heap.size < m) (by omega : w.heap.size < g)))))
  clear qa h3 lm lg o3 M3 b3 H2 s2
  go_wp2_with fail
  refine qb.mono ?_
  rintro e w4 ⟨r, q, rfl, h4⟩
  obtain ⟨lr, lq, o4, R4⟩ := h4.out
  obtain ⟨b3, e3, l3, M3, lm, lg⟩ := H3.out
  have b4 : Below w.heap.size w w4 := o4.below b3 (by simp) b3.size
  have M4 := M3.off o4 (by simp) (by simp)
  have e4 := (o4.block w.heap.size l3 (by simp)).trans e3
  have l4 : w.heap.size < w4.heap.size := Nat.lt_of_lt_of_le l3 o4.size
  have m3 := M3.lt
  have g3 := M3.lg
  have p0 : w4.cell? ⟨w.heap.size, 0, none⟩ = some (.int .u32 (c : Nat)) := cell_of_row w4 _ 0 _ _ _ e4
  have p1 : w4.cell? ⟨w.heap.size, 1, none⟩ = some (.int .i64 o) := cell_of_row w4 _ 1 _ _ _ e4
  have p2 : w4.cell? ⟨w.heap.size, 2, none⟩ = some (.int .i64 i) := cell_of_row w4 _ 2 _ _ _ e4
  have p3 : w4.cell? ⟨w.heap.size, 3, none⟩ = some (.int .i64 t) := cell_of_row w4 _ 3 _ _ _ e4
  have p4 : w4.cell? ⟨w.heap.size, 4, none⟩ = some (.int .u32 (nC : Nat)) := cell_of_row w4 _ 4 _ _ _ e4
  have H4 : Hid (_) := And.intro b4 (And.intro e4 (And.intro l4 (And.intro M4 (And.intro R4 (And.intro lm (And.intro lg (And.intro (by omega : m ≠ r ∧ m ≠ q ∧ g ≠ r ∧ g ≠ q) (by omega : w.heap.size < r ∧ w.heap.size < q))))))))
  clear qb h4 lr lq o4 R4 b3 e3 l3 M3 lm lg b4 M4 e4 l4 m3 g3 H3
  by_cases hok : okP c o i t nC
  · obtain ⟨o', rfl⟩ : ∃ k : Nat, o = (k : Int) := ⟨o.toNat, by have := hok.2.1; omega⟩
    obtain ⟨i', rfl⟩ : ∃ k : Nat, i = (k : Int) := ⟨i.toNat, by have := hok.2.2.1; omega⟩
    obtain ⟨t', rfl⟩ : ∃ k : Nat, t = (k : Int) := ⟨t.toNat, by have := hok.2.2.2.1; omega⟩
    have hP : Pok ⟨c, o', i', t', nC⟩ := ⟨hok, HB.out.2.2.2.2.1, HB.out.2.2.2.2.2.1⟩
    have qN := newD_any m g len1 mx ⟨c, o', i', t', nC⟩ hP (S0 bs) w4 H4.out.2.2.2.1 HB.out.2.2.2.2.2.2 (by show (0 : Int) < _; omega)
    have HP : Hid (_) := hP
    clear hok hP
    go_wp2_with fail
    refine qN.mono ?_
    rintro e w5 ⟨pd, rfl, h5⟩
    obtain ⟨b4, e4, l4, M4, R4, lm, lg, hne, hrq⟩ := H4.out
    obtain ⟨o5, M5, D5, N5⟩ := h5.out
    have R5 := R4.off o5 (by simp; omega) (by simp; omega)
    have e5 := (o5.block w.heap.size l4 (by simp; omega)).trans e4
    have qR := rnew_any r q len1 mx ⟨c, o', i', t', nC⟩ HP.out (S0 bs) w5 R5 HB.out.2.2.2.2.2.2 (by show (0 : Int) < _; omega)
    have q0 : w5.cell? ⟨w.heap.size, 0, none⟩ = some (.int .u32 (c : Nat)) := cell_of_row w5 _ 0 _ _ _ e5
    have q1 : w5.cell? ⟨w.heap.size, 1, none⟩ = some (.int .i64 (o' : Nat)) := cell_of_row w5 _ 1 _ _ _ e5
    have q2 : w5.cell? ⟨w.heap.size, 2, none⟩ = some (.int .i64 (i' : Nat)) := cell_of_row w5 _ 2 _ _ _ e5
    have q3 : w5.cell? ⟨w.heap.size, 3, none⟩ = some (.int .i64 (t' : Nat)) := cell_of_row w5 _ 3 _ _ _ e5
    have q4 : w5.cell? ⟨w.heap.size, 4, none⟩ = some (.int .u32 (nC : Nat)) := cell_of_row w5 _ 4 _ _ _ e5
    have rl4 := R4.lt
    have ql4 := R4.lg
    have H5 : Hid (_) := And.intro b4 (And.intro o5 (And.intro D5 (And.intro N5 (And.intro hne (And.intro hrq (And.intro lm (And.intro lg (And.intro rl4 ql4))))))))
    obtain ⟨E, hE⟩ : ∃ x, opE mx len1 (S0 bs) = x := ⟨_, rfl⟩
    have HE : Hid (_) := hE
    rw [hE] at qR ⊢
    clear qN h5 b4 e4 l4 M4 R4 lm lg hne hrq o5 M5 D5 N5 R5 e5 rl4 ql4 H4 hE p0 p1 p2 p3 p4
    go_wp2_with fail
    refine qR.mono ?_
    rintro e w6 ⟨pr, rfl, h6⟩
    have H6 : Hid (_) := h6.out
    clear qR h6 q0 q1 q2 q3 q4
    by_cases he : E = 0
    · obtain ⟨b4, o5, D5, N5, hne, hrq, lm, lg, rl4, ql4⟩ := H5.out
      obtain ⟨o6, R6, D6, N6⟩ := H6.out
      obtain ⟨d, U, rfl, DD, hU⟩ := D5 (HE.out.trans he)
      obtain ⟨e', V, rfl, RR', hV⟩ := D6 he
      have T : Two w w6 ⟨d, m, g, e', r, q, len1, mx, ⟨c, o', i', t', nC⟩⟩ (dnew (opS mx len1 (S0 bs))) := two_made b4 o5 DD hU o6 RR' hV ⟨by show w.heap.size ≤ m; omega, by show w.heap.size ≤ g; omega, by show w.heap.size ≤ r; omega, by show w.heap.size ≤ q; omega⟩ hne ⟨rl4, ql4⟩
      have ht := opS_t mx len1 (S0 bs) (by show (0 : Int) ≤ 0; omega)
      have HT : Hid (_) := And.intro T (show (dnew (opS mx len1 (S0 bs))).ms.t ≤ 6 by have : (S0 bs).t = 0 := rfl; show (opS mx len1 (S0 bs)).t ≤ 6; omega)
      generalize hLL : (⟨d, m, g, e', r, q, len1, mx, ⟨c, o', i', t', nC⟩⟩ : Pl) = L at HT
      have HLd : d = L.d ∧ m = L.m ∧ e' = L.e := by rw [← hLL]; exact ⟨rfl, rfl, rfl⟩
      obtain ⟨rfl, rfl, rfl⟩ := HLd
      generalize hs0 : dnew (opS mx len1 (S0 bs)) = s0 at HT
      have hI : s0.L.length ≤ 0 ∧ Iv L.P s0 := by rw [← hs0]; exact ⟨Nat.le_refl _, Iv.new_ _⟩
      have HI : Hid (_) := hI
      clear b4 o5 D5 N5 hne hrq lm lg rl4 ql4 o6 R6 D6 N6 DD hU RR' hV T ht hLL hs0 hI H5 H6 HE HB HP he
      go_wp2_with fail
      go_loopw [15] (fun c wr => ∃ (k : Nat) (s : Sd), k ≤ 300 ∧ c = .int .i64 ((k : Nat) : Int) ∧ Hid (Two w wr L s ∧ Iv L.P s ∧ s.L.length ≤ 3 * k ∧ s.ms.t ≤ 6 + 6 * (k : Int))) (fun c _ => 300 - (intOf c).toNat)
      case atStart => exact ⟨0, s0, by omega, rfl, HT.out.1, HI.out.2, by have := HI.out.1; omega, by have := HT.out.2; omega⟩
      case round =>
        clear HT HI
        obtain ⟨k, s, hk, rfl, hR⟩ := hrel
        by_cases hlt : k < len3 ∧ k < 300
        · obtain ⟨bo, off, rfl, hbb, hcc⟩ := HC.out (by omega)
          obtain ⟨K, N, fl, od, ya, l, cc, ds, pp, zz, q0, q1, q2, q3, q4, q5, q6, Rd, hl, hN, hz, hlow⟩ := hcc k hlt.1
          have hk1 : (k : Int) < (len3 : Int) := by omega
          have hk2 : (k : Int) < 300 := by omega
          have HD : Hid (∀ w', Below w.heap.size w w' → w'.cell? ⟨bo, off + k * 7, none⟩ = some (.int .i64 K) ∧ w'.cell? ⟨bo, off + k * 7 + 1, none⟩ = some (.int .i64 N) ∧ w'.cell? ⟨bo, off + k * 7 + 2, none⟩ = some (.int .i64 fl) ∧ w'.cell? ⟨bo, off + k * 7 + 3, none⟩ = some (.bool od) ∧ w'.cell? ⟨bo, off + k * 7 + 4, none⟩ = some (.slice ya l cc) ∧ w'.cell? ⟨bo, off + k * 7 + 5, none⟩ = some (.int .i64 pp) ∧ w'.cell? ⟨bo, off + k * 7 + 6, none⟩ = some (.int .u32 (zz : Nat))) :=
            fun w' hw => ⟨(hw.cell (p := ⟨bo, off + k * 7, none⟩) hbb).trans q0, (hw.cell (p := ⟨bo, off + k * 7 + 1, none⟩) hbb).trans q1, (hw.cell (p := ⟨bo, off + k * 7 + 2, none⟩) hbb).trans q2, (hw.cell (p := ⟨bo, off + k * 7 + 3, none⟩) hbb).trans q3, (hw.cell (p := ⟨bo, off + k * 7 + 4, none⟩) hbb).trans q4, (hw.cell (p := ⟨bo, off + k * 7 + 5, none⟩) hbb).trans q5, (hw.cell (p := ⟨bo, off + k * 7 + 6, none⟩) hbb).trans q6⟩
          have hT := hR.out.1
          have qs := shows13_any w wr L s hT (by have := hR.out.2.2.1; omega)
          have KR : Hid (_) := And.intro Rd (And.intro hl (And.intro hN (And.intro hz hlow)))
          clear HC hcc q0 q1 q2 q3 q4 q5 q6 Rd hl hN hz hlow hT hlt
          go_wp2_with fail
          refine qs.mono ?_
          rintro e w7 ⟨rfl, b7⟩
          have T7 := hR.out.1.below b7
          obtain ⟨c0, c1, c2, c3, c4, c5, c6⟩ := HD.out w7 T7.mo.2.2.2
          have qS := step_op w w7 L s K N fl od ya l cc ds pp zz T7 (KR.out.1.below T7.mo.2.2.2) KR.out.2.2.2.2 KR.out.2.2.2.1 KR.out.2.1 KR.out.2.2.1 hR.out.2.1 (by have := hR.out.2.2.1; omega) (by have := hR.out.2.2.2; omega)
          clear qs b7 T7 HD KR
          go_wp2_with fail
          refine qS.mono ?_
          rintro e w8 ⟨rfl, h8⟩
          clear qS c0 c1 c2 c3 c4 c5 c6
          go_wp2_with fail
          go_roundw
          case rel =>
            obtain ⟨s', T8, I8, G8, _⟩ := h8.out
            exact ⟨k + 1, s', by omega, by go_num, T8, I8, by have := G8.1; have := hR.out.2.2.1; omega, by have := G8.2; have := hR.out.2.2.2; omega⟩
          case measure => simp [intOf] <;> omega
        · have qs := shows13_any w wr L s hR.out.1 (by have := hR.out.2.2.1; omega)
          by_cases h1 : k < len3
          · have hk1 : (k : Int) < (len3 : Int) := by omega
            have hk2 : ¬ (k : Int) < 300 := by omega
            clear hlt HC
            go_wp2_with fail
            refine qs.mono ?_
            rintro e w7 ⟨rfl, b7⟩
            have Hc : Hid (_) := (hR.out.1.below b7).mo.2.2.2
            clear qs b7 hR
            go_wp2_with fail
            go_ret
            exact ⟨rfl, Hc.out⟩
          · have hk1 : ¬ (k : Int) < (len3 : Int) := by omega
            clear hlt HC
            go_wp2_with fail
            refine qs.mono ?_
            rintro e w7 ⟨rfl, b7⟩
            have Hc : Hid (_) := (hR.out.1.below b7).mo.2.2.2
            clear qs b7 hR
            go_wp2_with fail
            go_ret
            exact ⟨rfl, Hc.out⟩
    · obtain ⟨b4, o5, D5, N5, hne, hrq, lm, lg, rl4, ql4⟩ := H5.out
      obtain ⟨o6, R6, D6, N6⟩ := H6.out
      obtain rfl := N5 (by rw [HE.out]; exact he)
      obtain rfl := N6 he
      have b5 : Below w.heap.size w w5 := o5.below b4 (by simp; omega) b4.size
      have HF : Hid (_) := o6.below b5 (by simp; omega) b5.size
      clear b4 o5 D5 N5 hne hrq lm lg rl4 ql4 o6 R6 D6 N6 b5 H5 H6 HE HB HP he HC
      go_wp2_with fail
      go_ret
      exact ⟨rfl, HF.out⟩
  · have qN := newD_bad c o i t nC (some ⟨m, 0, none⟩) (mx : Nat) w4 hok
    go_wp2_with fail
    refine qN.mono ?_
    rintro e w5 ⟨rfl, b5⟩
    have e5 := (b5.block w.heap.size H4.out.2.2.1).trans H4.out.2.1
    have qR := rnew_bad c o i t nC (some ⟨r, 0, none⟩) (mx : Nat) w5 hok
    have q0 : w5.cell? ⟨w.heap.size, 0, none⟩ = some (.int .u32 (c : Nat)) := cell_of_row w5 _ 0 _ _ _ e5
    have q1 : w5.cell? ⟨w.heap.size, 1, none⟩ = some (.int .i64 o) := cell_of_row w5 _ 1 _ _ _ e5
    have q2 : w5.cell? ⟨w.heap.size, 2, none⟩ = some (.int .i64 i) := cell_of_row w5 _ 2 _ _ _ e5
    have q3 : w5.cell? ⟨w.heap.size, 3, none⟩ = some (.int .i64 t) := cell_of_row w5 _ 3 _ _ _ e5
    have q4 : w5.cell? ⟨w.heap.size, 4, none⟩ = some (.int .u32 (nC : Nat)) := cell_of_row w5 _ 4 _ _ _ e5
    have H5 : Hid (_) := H4.out.1.trans (b5.mono H4.out.1.size)
    clear qN b5 e5 H4 p0 p1 p2 p3 p4 HC HB
    go_wp2_with fail
    refine qR.mono ?_
    rintro e w6 ⟨rfl, b6⟩
    have H6 : Hid (_) := H5.out.trans (b6.mono H5.out.size)
    clear qR b6 H5 q0 q1 q2 q3 q4 hok
    go_wp2_with fail
    go_ret
    exact ⟨rfl, H6.out⟩
theorem devicePlays_walk (a0_0 a0_1 a0_2 a0_3 a0_4 : Int) (a1 : Option Addr) (len1 cap1 : Nat) (z1 : List Int) (a2 : Int) (a3 : Option Addr) (len3 cap3 : Nat) (w : World) (w0_0 : (Lit.int .u32 a0_0).wf = true) (_w0_1 : (Lit.int .i64 a0_1).wf = true) (_w0_2 : (Lit.int .i64 a0_2).wf = true) (_w0_3 : (Lit.int .i64 a0_3).wf = true) (w0_4 : (Lit.int .u32 a0_4).wf = true) (w1 : BRow .u8 w a1 len1 cap1 z1) (w2 : (Lit.int .u32 a2).wf = true) (w3 : OpRow w a3 len3) (s1 : len1 ≤ 140737488351232) :
    Calls Tryz.prog 3 #[.agg #[.int .u32 a0_0, .int .i64 a0_1, .int .i64 a0_2, .int .i64 a0_3, .int .u32 a0_4], .slice a1 len1 cap1, .int .u32 a2, .slice a3 len3 cap3] w fun e w' => e = .returned (.bool true) ∧ Below w.heap.size w w' := by
  obtain ⟨c, rfl, hc⟩ := nat_u32 w0_0
  obtain ⟨n, rfl, hn⟩ := nat_u32 w0_4
  obtain ⟨mx, rfl, hmx⟩ := nat_u32 w2
  have R := w1.row8
  by_cases hL : len1 ≤ 4096
  · exact dplays_go c a0_1 a0_2 a0_3 n mx a1 len1 cap1 _ a3 len3 cap3 w hc hn hmx R hL w3
  · exact dplays_short c a0_1 a0_2 a0_3 n mx a1 len1 cap1 _ a3 len3 cap3 w R (by omega) s1
end Go.Proofs.YtmleiemlfogffaaGreat
