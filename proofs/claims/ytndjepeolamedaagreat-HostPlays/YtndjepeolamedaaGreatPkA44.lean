/- Part 45 of the texts on which the proofs of layer 13 rest: contracts of Go functions. -/
import Derived.Test.YtndjepeolamedaaGreatPkA41
import Derived.Test.YtndjepeolamedaaGreatPkA42
import Derived.Test.YtndjepeolamedaaGreatPkA43
namespace Go.Proofs.YtndjepeolamedaaGreat
set_option maxRecDepth 100000
open Go.RowKit
set_option maxRecDepth 100000 in
set_option maxHeartbeats 8000000 in
theorem hplays_go (c : Nat) (o i t : Int) (nC : Nat) (a1 : Option Addr) (len1 cap1 : Nat) (w : World) (hc : c < 4294967296) (hn : nC < 4294967296) (hO : OpRow w a1 len1) :
    Calls Tryz.prog 6 #[.agg #[.int .u32 (c : Nat), .int .i64 o, .int .i64 i, .int .i64 t, .int .u32 (nC : Nat)], .slice a1 len1 cap1] w fun e w' => e = .returned (.bool true) ∧ Below w.heap.size w w' := by
  have bb : Below w.heap.size w (w.alloc (.cells #[.int .u32 (c : Nat), .int .i64 o, .int .i64 i, .int .i64 t, .int .u32 (nC : Nat)] 36)) := (Below.refl _ _).alloc (Nat.le_refl _) _
  have hbx := heap_alloc_new w (.cells #[.int .u32 (c : Nat), .int .i64 o, .int .i64 i, .int .i64 t, .int .u32 (nC : Nat)] 36)
  have hlx : w.heap.size < (w.alloc (.cells #[.int .u32 (c : Nat), .int .i64 o, .int .i64 i, .int .i64 t, .int .u32 (nC : Nat)] 36)).heap.size := by rw [World.size_alloc]; omega
  have HB : Hid (_) := And.intro bb (And.intro hbx (And.intro hlx (And.intro hc hn)))
  obtain ⟨hlen, h0⟩ := hO
  have HC : Hid (_) := h0
  clear bb hbx hlx h0 hc hn
  go_enter Tryz.func6, Tryz.ntmps6
  go_wp2_with fail
  refine (awake14 _).mono ?_
  rintro e w4 ⟨rfl, b1'⟩
  obtain ⟨hb0, hbx, hlx, _⟩ := HB.out
  have b4 := hb0.trans (b1'.mono hb0.size)
  have e4 := (b1'.block w.heap.size hlx).trans hbx
  have l4 : w.heap.size < w4.heap.size := Nat.lt_of_lt_of_le hlx b1'.size
  have p0 : w4.cell? ⟨w.heap.size, 0, none⟩ = some (.int .u32 (c : Nat)) := cell_of_row w4 _ 0 _ _ _ e4
  have p1 : w4.cell? ⟨w.heap.size, 1, none⟩ = some (.int .i64 o) := cell_of_row w4 _ 1 _ _ _ e4
  have p2 : w4.cell? ⟨w.heap.size, 2, none⟩ = some (.int .i64 i) := cell_of_row w4 _ 2 _ _ _ e4
  have p3 : w4.cell? ⟨w.heap.size, 3, none⟩ = some (.int .i64 t) := cell_of_row w4 _ 3 _ _ _ e4
  have p4 : w4.cell? ⟨w.heap.size, 4, none⟩ = some (.int .u32 (nC : Nat)) := cell_of_row w4 _ 4 _ _ _ e4
  have H4 : Hid (_) := And.intro b4 (And.intro e4 l4)
  clear b1' hb0 hbx hlx b4 e4 l4
  by_cases hok : okP c o i t nC
  · obtain ⟨o', rfl⟩ : ∃ k : Nat, o = (k : Int) := ⟨o.toNat, by have := hok.2.1; omega⟩
    obtain ⟨i', rfl⟩ : ∃ k : Nat, i = (k : Int) := ⟨i.toNat, by have := hok.2.2.1; omega⟩
    obtain ⟨t', rfl⟩ : ∃ k : Nat, t = (k : Int) := ⟨t.toNat, by have := hok.2.2.2.1; omega⟩
    have hP : Pok ⟨c, o', i', t', nC⟩ := ⟨hok, HB.out.2.2.2.1, HB.out.2.2.2.2⟩
    have qN := newH_any ⟨c, o', i', t', nC⟩ hP w4
    have HP : Hid (_) := hP
    clear hok hP
    go_wp2_with fail
    refine qN.mono ?_
    rintro e w5 ⟨d, rfl, h5⟩
    obtain ⟨b4, e4, l4⟩ := H4.out
    obtain ⟨b5, U, D5, hU⟩ := h5.out
    have e5 := (b5.block w.heap.size l4).trans e4
    have qR := hrnew_any ⟨c, o', i', t', nC⟩ HP.out w5
    have q0 : w5.cell? ⟨w.heap.size, 0, none⟩ = some (.int .u32 (c : Nat)) := cell_of_row w5 _ 0 _ _ _ e5
    have q1 : w5.cell? ⟨w.heap.size, 1, none⟩ = some (.int .i64 (o' : Nat)) := cell_of_row w5 _ 1 _ _ _ e5
    have q2 : w5.cell? ⟨w.heap.size, 2, none⟩ = some (.int .i64 (i' : Nat)) := cell_of_row w5 _ 2 _ _ _ e5
    have q3 : w5.cell? ⟨w.heap.size, 3, none⟩ = some (.int .i64 (t' : Nat)) := cell_of_row w5 _ 3 _ _ _ e5
    have q4 : w5.cell? ⟨w.heap.size, 4, none⟩ = some (.int .u32 (nC : Nat)) := cell_of_row w5 _ 4 _ _ _ e5
    have H5 : Hid (_) := And.intro b4 (And.intro b5 (And.intro D5 hU))
    clear qN h5 b4 e4 l4 b5 D5 hU e5 H4 p0 p1 p2 p3 p4
    go_wp2_with fail
    refine qR.mono ?_
    rintro e w6 ⟨e', V, rfl, h6⟩
    obtain ⟨b4, b5, D5, hU⟩ := H5.out
    obtain ⟨b6, R6, hV⟩ := h6.out
    have T : Twh w w6 ⟨d, e', ⟨c, o', i', t', nC⟩, []⟩ hnew := twh_made b4 b5 D5 hU b6 R6 hV rfl
    have HT : Hid (_) := T
    generalize hLL : (⟨d, e', ⟨c, o', i', t', nC⟩, []⟩ : Plh) = L at HT
    have HLd : d = L.d ∧ e' = L.e := by rw [← hLL]; exact ⟨rfl, rfl⟩
    obtain ⟨rfl, rfl⟩ := HLd
    clear qR h6 q0 q1 q2 q3 q4 b4 b5 D5 hU b6 R6 hV T hLL H5 HB HP
    go_wp2_with fail
    go_loopw [9] (fun c wr => ∃ (k : Nat) (s : Sh), k ≤ 300 ∧ c = .int .i64 ((k : Nat) : Int) ∧ Hid (Twh w wr L s ∧ Ih L.P s ∧ s.L.length ≤ 2 * k)) (fun c _ => 300 - (intOf c).toNat)
    case atStart => exact ⟨0, hnew, by omega, rfl, HT.out, Ih.new_ _, Nat.le_refl _⟩
    case round =>
      clear HT
      obtain ⟨k, s, hk, rfl, hR⟩ := hrel
      by_cases hlt : k < len1 ∧ k < 300
      · obtain ⟨bo, off, rfl, hbb, hcc⟩ := HC.out (by omega)
        obtain ⟨K, N, fl, od, ya, l, cc, ds, pp, zz, q0, q1, q2, q3, q4, q5, q6, Rd, hl, hN, hz, hlow⟩ := hcc k hlt.1
        have hk1 : (k : Int) < (len1 : Int) := by omega
        have hk2 : (k : Int) < 300 := by omega
        have HD : Hid (∀ w', Below w.heap.size w w' → w'.cell? ⟨bo, off + k * 7, none⟩ = some (.int .i64 K) ∧ w'.cell? ⟨bo, off + k * 7 + 1, none⟩ = some (.int .i64 N) ∧ w'.cell? ⟨bo, off + k * 7 + 2, none⟩ = some (.int .i64 fl) ∧ w'.cell? ⟨bo, off + k * 7 + 3, none⟩ = some (.bool od) ∧ w'.cell? ⟨bo, off + k * 7 + 4, none⟩ = some (.slice ya l cc) ∧ w'.cell? ⟨bo, off + k * 7 + 5, none⟩ = some (.int .i64 pp) ∧ w'.cell? ⟨bo, off + k * 7 + 6, none⟩ = some (.int .u32 (zz : Nat))) :=
          fun w' hw => ⟨(hw.cell (p := ⟨bo, off + k * 7, none⟩) hbb).trans q0, (hw.cell (p := ⟨bo, off + k * 7 + 1, none⟩) hbb).trans q1, (hw.cell (p := ⟨bo, off + k * 7 + 2, none⟩) hbb).trans q2, (hw.cell (p := ⟨bo, off + k * 7 + 3, none⟩) hbb).trans q3, (hw.cell (p := ⟨bo, off + k * 7 + 4, none⟩) hbb).trans q4, (hw.cell (p := ⟨bo, off + k * 7 + 5, none⟩) hbb).trans q5, (hw.cell (p := ⟨bo, off + k * 7 + 6, none⟩) hbb).trans q6⟩
        have hT := hR.out.1
        have qs := shows14_any w wr L s hT (by have := hR.out.2.2; omega)
        have KR : Hid (_) := And.intro Rd (And.intro hl (And.intro hN (And.intro hz hlow)))
        clear HC hcc q0 q1 q2 q3 q4 q5 q6 Rd hl hN hz hlow hT hlt
        go_wp2_with fail
        refine qs.mono ?_
        rintro e w7 ⟨rfl, b7⟩
        have T7 := hR.out.1.below b7
        obtain ⟨c0, c1, c2, c3, c4, c5, c6⟩ := HD.out w7 T7.pok.2.2
        have qS := kstep_op w w7 L s K N fl od ya l cc ds pp zz T7 (KR.out.1.below T7.pok.2.2) KR.out.2.2.2.2 KR.out.2.2.2.1 KR.out.2.1 KR.out.2.2.1 hR.out.2.1 (by have := hR.out.2.2; omega)
        clear qs b7 T7 HD KR
        go_wp2_with fail
        refine qS.mono ?_
        rintro e w8 ⟨rfl, h8⟩
        clear qS c0 c1 c2 c3 c4 c5 c6
        go_wp2_with fail
        go_roundw
        case rel =>
          obtain ⟨s', T8, I8, G8, _⟩ := h8.out
          exact ⟨k + 1, s', by omega, by go_num, T8, I8, by have := hR.out.2.2; omega⟩
        case measure => simp [intOf] <;> omega
      · have qs := shows14_any w wr L s hR.out.1 (by have := hR.out.2.2; omega)
        by_cases h1 : k < len1
        · have hk1 : (k : Int) < (len1 : Int) := by omega
          have hk2 : ¬ (k : Int) < 300 := by omega
          clear hlt HC
          go_wp2_with fail
          refine qs.mono ?_
          rintro e w7 ⟨rfl, b7⟩
          have Hc : Hid (_) := (hR.out.1.below b7).pok.2.2
          clear qs b7 hR
          go_wp2_with fail
          go_ret
          exact ⟨rfl, Hc.out⟩
        · have hk1 : ¬ (k : Int) < (len1 : Int) := by omega
          clear hlt HC
          go_wp2_with fail
          refine qs.mono ?_
          rintro e w7 ⟨rfl, b7⟩
          have Hc : Hid (_) := (hR.out.1.below b7).pok.2.2
          clear qs b7 hR
          go_wp2_with fail
          go_ret
          exact ⟨rfl, Hc.out⟩
  · have qN := newH_bad c o i t nC w4 hok
    go_wp2_with fail
    refine qN.mono ?_
    rintro e w5 ⟨rfl, b5⟩
    have e5 := (b5.block w.heap.size H4.out.2.2).trans H4.out.2.1
    have qR := hrnew_bad c o i t nC w5 hok
    have q0 : w5.cell? ⟨w.heap.size, 0, none⟩ = some (.int .u32 (c : Nat)) := cell_of_row w5 _ 0 _ _ _ e5
    have q1 : w5.cell? ⟨w.heap.size, 1, none⟩ = some (.int .i64 o) := cell_of_row w5 _ 1 _ _ _ e5
    have q2 : w5.cell? ⟨w.heap.size, 2, none⟩ = some (.int .i64 i) := cell_of_row w5 _ 2 _ _ _ e5
    have q3 : w5.cell? ⟨w.heap.size, 3, none⟩ = some (.int .i64 t) := cell_of_row w5 _ 3 _ _ _ e5
    have q4 : w5.cell? ⟨w.heap.size, 4, none⟩ = some (.int .u32 (nC : Nat)) := cell_of_row w5 _ 4 _ _ _ e5
    have H5 : Hid (_) := H4.out.1.trans (b5.mono H4.out.1.size)
    clear qN b5 e5 H4 p0 p1 p2 p3 p4 HC HB
    go_wp2_with fail
    refine qR.mono ?_
    rintro e w6 ⟨rfl, b6⟩
    have H6 : Hid (_) := H5.out.trans (b6.mono H5.out.size)
    clear qR b6 H5 q0 q1 q2 q3 q4 hok
    go_wp2_with fail
    go_ret
    exact ⟨rfl, H6.out⟩
theorem hostPlays_walk (a0_0 a0_1 a0_2 a0_3 a0_4 : Int) (a1 : Option Addr) (len1 cap1 : Nat) (w : World) (w0_0 : (Lit.int .u32 a0_0).wf = true) (_w0_1 : (Lit.int .i64 a0_1).wf = true) (_w0_2 : (Lit.int .i64 a0_2).wf = true) (_w0_3 : (Lit.int .i64 a0_3).wf = true) (w0_4 : (Lit.int .u32 a0_4).wf = true) (w1 : OpRow w a1 len1) :
    Calls Tryz.prog 6 #[.agg #[.int .u32 a0_0, .int .i64 a0_1, .int .i64 a0_2, .int .i64 a0_3, .int .u32 a0_4], .slice a1 len1 cap1] w fun e w' => e = .returned (.bool true) ∧ Below w.heap.size w w' := by
  obtain ⟨c, rfl, hc⟩ := nat_u32 w0_0
  obtain ⟨n, rfl, hn⟩ := nat_u32 w0_4
  exact hplays_go c a0_1 a0_2 a0_3 n a1 len1 cap1 w hc hn w1
end Go.Proofs.YtndjepeolamedaaGreat
