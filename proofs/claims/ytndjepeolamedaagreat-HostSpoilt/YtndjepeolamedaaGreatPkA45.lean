/- Part 46 of the texts on which the proofs of layer 13 rest: contracts of Go functions. -/
import Derived.Test.YtndjepeolamedaaGreatPkA00
import Derived.Test.YtndjepeolamedaaGreatPkA12
import Derived.Test.YtndjepeolamedaaGreatPkA18
import Derived.Test.YtndjepeolamedaaGreatPkA38
import Derived.Test.YtndjepeolamedaaGreatPkA39
import Derived.Test.YtndjepeolamedaaGreatPkA41
import Derived.Test.YtndjepeolamedaaGreatPkA43
namespace Go.Proofs.YtndjepeolamedaaGreat
set_option maxRecDepth 100000
open Go.RowKit
set_option maxHeartbeats 1600000 in
theorem hframe_neg (k : Int) (c s n : Nat) (f : Int) (a : Option Addr) (len cap : Nat) (w : World) (hE : LW k c s n f len len ≠ 0) :
    Calls Tryz.prog 41 #[.agg #[.int .i64 k, .int .u32 (c : Nat), .int .u32 (s : Nat), .int .u32 (n : Nat), .int .i64 f, .slice a len cap]] w fun e w' => e = .returned (.slice none 0 0) ∧ Below w.heap.size w w' := by
  have b0 : Below w.heap.size w (w.alloc (.cells #[.int .i64 k, .int .u32 (c : Nat), .int .u32 (s : Nat), .int .u32 (n : Nat), .int .i64 f, .slice a len cap] 67)) := (Below.refl _ _).alloc (Nat.le_refl _) _
  have fin := refEncode_bad k c s n f a len cap (w.alloc (.cells #[.int .i64 k, .int .u32 (c : Nat), .int .u32 (s : Nat), .int .u32 (n : Nat), .int .i64 f, .slice a len cap] 67)) hE
  have HB : Hid (_) := b0
  clear b0 hE
  go_enter Tryz.func41, Tryz.ntmps41
  go_wp2_with fail
  refine fin.mono ?_
  rintro e w4 ⟨rfl, h4⟩
  clear fin
  have H4 : Hid (_) := HB.out.trans (h4.mono HB.out.size)
  clear h4 HB
  go_wp2_with fail
  go_ret
  exact ⟨rfl, H4.out⟩
theorem hframe_all (k : Int) (c s n : Nat) (f : Int) (a : Option Addr) (len cap : Nat) (bs : Nat → Nat) (w : World) (hr : Row8 w a len cap bs) (hc : c < 4294967296) (hs : s < 4294967296) (hn : n < 4294967296) :
    Calls Tryz.prog 41 #[.agg #[.int .i64 k, .int .u32 (c : Nat), .int .u32 (s : Nat), .int .u32 (n : Nat), .int .i64 f, .slice a len cap]] w fun e w' => ∃ (a' : Option Addr) (F : Fm) (cap' : Nat), e = .returned (.slice a' F.1 cap') ∧ Hid (Row8 w' a' F.1 cap' F.2 ∧ Below w.heap.size w w' ∧ F.1 ≤ 27 ∧ ∀ x d f7, x < 4294967296 → x ≠ 0 → PM.bl x ≤ 8 * F.1 → PM.V (PM.fb f7) (8 * F.1) = PM.V (PM.fb F.2) (8 * F.1) ^^^ PM.C x (2 ^ d) → DE f7 F.1 = 42) := by
  by_cases hk : 0 ≤ k
  · obtain ⟨K, rfl⟩ : ∃ K : Nat, k = (K : Int) := ⟨k.toNat, by omega⟩
    refine (hframe_any K c s n f a len cap bs w hr hc hs hn).mono ?_
    rintro e w' ⟨v, rfl, h⟩
    obtain ⟨a', cap', rfl, r⟩ := h.out.1.row (encI_byte _ _ _ _ _ _ _ hr.byte)
    exact ⟨a', encI K c s n f len bs, cap', rfl, r, h.out.2, encI_len _ _ _ _ _ _ _, fun x d f7 h1 h2 h3 h4 => spoilt_DE h1 h2 h3 h4⟩
  · have hE : LW k c s n f len len ≠ 0 := fun h => by have := (LW_zero h).1; omega
    refine (hframe_neg k c s n f a len cap w hE).mono ?_
    rintro e w' ⟨rfl, h⟩
    refine ⟨none, fm0, 0, rfl, row_nilX _ _, h, by show 0 ≤ 27; omega, fun x d f7 h1 h2 h3 h4 => ?_⟩
    exfalso
    have : PM.bl x ≤ 0 := h3
    rw [PM.bl_pos h2] at this
    omega
theorem hrecv_spoilt (P : Pm) (s : Sh) (len : Nat) (bs : Nat → Nat) (h : DE bs len = 42) : hrecvE P s len bs = 42 ∧ hrecvS P s len bs = hnote s 42 := by
  have hE : hrecvE P s len bs = 42 := by unfold hrecvE; rw [if_pos (by omega), h]
  refine ⟨hE, ?_⟩
  unfold hrecvS
  rw [hE, if_pos (by omega)]
set_option maxRecDepth 100000 in
set_option maxHeartbeats 8000000 in
theorem hspoilt_go (a0 : Option Addr) (len0 cap0 : Nat) (k : Int) (c ss n : Nat) (f : Int) (a : Option Addr) (len cap : Nat) (bs : Nat → Nat) (at_ : Int) (x : Nat) (w : World) (hO : OpRow w a0 len0) (hr : Row8 w a len cap bs) (hc : c < 4294967296) (hss : ss < 4294967296) (hn : n < 4294967296) (hx : x < 4294967296) :
    Calls Tryz.prog 9 #[.slice a0 len0 cap0, .agg #[.int .i64 k, .int .u32 (c : Nat), .int .u32 (ss : Nat), .int .u32 (n : Nat), .int .i64 f, .slice a len cap], .int .i64 at_, .int .u32 (x : Nat)] w fun e w' => e = .returned (.bool true) ∧ Below w.heap.size w w' := by
  have bb : Below w.heap.size w (w.alloc (.cells #[.int .i64 k, .int .u32 (c : Nat), .int .u32 (ss : Nat), .int .u32 (n : Nat), .int .i64 f, .slice a len cap] 67)) := (Below.refl _ _).alloc (Nat.le_refl _) _
  have hbx := heap_alloc_new w (.cells #[.int .i64 k, .int .u32 (c : Nat), .int .u32 (ss : Nat), .int .u32 (n : Nat), .int .i64 f, .slice a len cap] 67)
  have hlx : w.heap.size < (w.alloc (.cells #[.int .i64 k, .int .u32 (c : Nat), .int .u32 (ss : Nat), .int .u32 (n : Nat), .int .i64 f, .slice a len cap] 67)).heap.size := by rw [World.size_alloc]; omega
  have HB : Hid (_) := And.intro bb (And.intro hbx (And.intro hlx (And.intro hr (And.intro hc (And.intro hss (And.intro hn hx))))))
  obtain ⟨hlen, h0⟩ := hO
  have HC : Hid (_) := h0
  clear bb hbx hlx hr h0 hc hss hn hx
  go_enter Tryz.func9, Tryz.ntmps9
  go_wp2_with fail
  refine (awake14 _).mono ?_
  rintro e w1 ⟨rfl, b1'⟩
  obtain ⟨hb0, hbx, hlx, hr, hc, hss, hn, hx⟩ := HB.out
  have b1 := hb0.trans (b1'.mono hb0.size)
  have e1 := (b1'.block w.heap.size hlx).trans hbx
  have u0 : w1.cell? ⟨w.heap.size, 0, none⟩ = some (.int .i64 k) := cell_of_row w1 _ 0 _ _ _ e1
  have u1 : w1.cell? ⟨w.heap.size, 1, none⟩ = some (.int .u32 (c : Nat)) := cell_of_row w1 _ 1 _ _ _ e1
  have u2 : w1.cell? ⟨w.heap.size, 2, none⟩ = some (.int .u32 (ss : Nat)) := cell_of_row w1 _ 2 _ _ _ e1
  have u3 : w1.cell? ⟨w.heap.size, 3, none⟩ = some (.int .u32 (n : Nat)) := cell_of_row w1 _ 3 _ _ _ e1
  have u4 : w1.cell? ⟨w.heap.size, 4, none⟩ = some (.int .i64 f) := cell_of_row w1 _ 4 _ _ _ e1
  have u5 : w1.cell? ⟨w.heap.size, 5, none⟩ = some (.slice a len cap) := cell_of_row w1 _ 5 _ _ _ e1
  have qF := hframe_all k c ss n f a len cap bs w1 (hr.below b1) hc hss hn
  have H1 : Hid (_) := And.intro b1 hx
  clear b1' hb0 hbx hlx hr hc hss hn hx b1 e1 HB
  go_wp2_with fail
  refine qF.mono ?_
  rintro e w2 ⟨a2, F, c2, rfl, h2⟩
  obtain ⟨r2, b2', l2, hDE⟩ := h2.out
  have b2 := H1.out.1.trans (b2'.mono H1.out.1.size)
  by_cases hroom : x ≠ 0 ∧ PM.bl x ≤ 8 * F.1
  · have qB := burst_yes a2 F.1 c2 at_ x F.2 w2 r2 (by omega) H1.out.2 hroom.1 hroom.2
    have H2 : Hid (_) := And.intro b2 (And.intro hDE (And.intro H1.out.2 hroom))
    clear qF h2 r2 b2' l2 hDE b2 hroom H1 u0 u1 u2 u3 u4 u5
    go_wp2_with fail
    refine qB.mono ?_
    rintro e w3 ⟨vb, rfl, b3', f7, d7, o7, y7, V7⟩
    have hD : DE f7 F.1 = 42 := H2.out.2.1 x d7 f7 H2.out.2.2.1 H2.out.2.2.2.1 H2.out.2.2.2.2 V7
    obtain ⟨a3, c3, rfl, r3⟩ := own_row8 o7 y7
    have b3 := H2.out.1.trans (b3'.mono H2.out.1.size)
    have H3 : Hid (_) := And.intro b3 (And.intro r3 hD)
    clear qB b3' o7 y7 V7 hD r3 b3 H2
    go_wp2_with fail
    refine (small_any w3).mono ?_
    rintro e w6 ⟨rfl, b6⟩
    have qN := newH_any P0 P0_ok w6
    have H6 : Hid (_) := b6
    clear b6
    go_wp2_with fail
    refine qN.mono ?_
    rintro e w7 ⟨d, rfl, h7⟩
    have H7 : Hid (_) := h7.out
    clear qN h7
    go_wp2_with fail
    refine (small_any w7).mono ?_
    rintro e w8 ⟨rfl, b8⟩
    have qN := hrnew_any P0 P0_ok w8
    have H8 : Hid (_) := b8
    clear b8
    go_wp2_with fail
    refine qN.mono ?_
    rintro e w9 ⟨e', V, rfl, h9⟩
    obtain ⟨b9, R9, hV⟩ := h9.out
    obtain ⟨b7, U, D7, hU⟩ := H7.out
    have T : Twh w3 w9 ⟨d, e', P0, []⟩ hnew := twh_made H6.out (b7.trans (H8.out.mono b7.size)) (D7.below H8.out) hU b9 R9 hV rfl
    have HT : Hid (_) := T
    clear qN h9 b9 R9 hV b7 D7 hU T H6 H7 H8
    go_wp2_with fail
    go_loopw [15] (fun c wr => ∃ (j : Nat) (s : Sh), j ≤ 300 ∧ c = .int .i64 ((j : Nat) : Int) ∧ Hid (Twh w3 wr ⟨d, e', P0, []⟩ s ∧ Ih P0 s ∧ s.L.length ≤ 2 * j)) (fun c _ => 300 - (intOf c).toNat)
    case atStart => exact ⟨0, hnew, by omega, rfl, HT.out, Ih.new_ _, Nat.le_refl _⟩
    case round =>
      clear HT
      obtain ⟨j, s, hj, rfl, hR⟩ := hrel
      by_cases hlt : j < len0 ∧ j < 300
      · obtain ⟨bo, off, rfl, hbb, hcc⟩ := HC.out (by omega)
        obtain ⟨K, N, fl, od, ya, l, cc, ds, pp, zz, q0, q1, q2, q3, q4, q5, q6, Rd, hl, hN, hz, hlow⟩ := hcc j hlt.1
        have hk1 : (j : Int) < (len0 : Int) := by omega
        have hk2 : (j : Int) < 300 := by omega
        have bw : Below w.heap.size w wr := H3.out.1.trans (hR.out.1.pok.2.2.mono H3.out.1.size)
        have c0 := (bw.cell (p := ⟨bo, off + j * 7, none⟩) hbb).trans q0
        have c1 := (bw.cell (p := ⟨bo, off + j * 7 + 1, none⟩) hbb).trans q1
        have c2' := (bw.cell (p := ⟨bo, off + j * 7 + 2, none⟩) hbb).trans q2
        have c3' := (bw.cell (p := ⟨bo, off + j * 7 + 3, none⟩) hbb).trans q3
        have c4 := (bw.cell (p := ⟨bo, off + j * 7 + 4, none⟩) hbb).trans q4
        have c5 := (bw.cell (p := ⟨bo, off + j * 7 + 5, none⟩) hbb).trans q5
        have c6 := (bw.cell (p := ⟨bo, off + j * 7 + 6, none⟩) hbb).trans q6
        have sw := H3.out.1.size
        have qS := kstep_op w3 wr ⟨d, e', P0, []⟩ s K N fl od ya l cc ds pp zz hR.out.1 (Rd.below bw) (fun y hy h0 => Nat.lt_of_lt_of_le (hlow y hy h0) sw) hz hl hN hR.out.2.1 (by have := hR.out.2.2; omega)
        clear HC hcc q0 q1 q2 q3 q4 q5 q6 Rd hl hN hz hlow hlt bw sw
        go_wp2_with fail
        refine qS.mono ?_
        rintro e wn ⟨rfl, hn⟩
        clear qS c0 c1 c2' c3' c4 c5 c6
        go_wp2_with fail
        go_roundw
        case rel =>
          obtain ⟨s', T8, I8, G8, _⟩ := hn.out
          exact ⟨j + 1, s', by omega, by go_num, T8, I8, by have := hR.out.2.2; omega⟩
        case measure => simp [intOf] <;> omega
      · have HJ : Hid (_) := hj
        have fin : ∀ b1 b2 : Prop, b1 → b2 → True := fun _ _ _ _ => trivial
        clear fin
        have hc2 : (¬ (j : Int) < (len0 : Int)) ∨ ((j : Int) < (len0 : Int) ∧ ¬ (j : Int) < 300) := by omega
        clear hlt HC
        obtain ⟨U, V, T⟩ := hR.out.1
        have qS := hseeS_any d P0 U s wr T.dv
        have HR : Hid (_) := And.intro T (And.intro hR.out.2.1 hR.out.2.2)
        clear T hR
        rcases hc2 with hk1 | ⟨hk1, hk2⟩
        all_goals
          go_wp2_with fail
          refine qS.mono ?_
          rintro e v1 ⟨wa, wcp, rfl, h1⟩
          clear qS
          have bA : Below v1.heap.size v1 (v1.alloc (.cells #[.int .i64 (s.st : Nat), .int .u32 (s.ss : Nat), .int .u32 (s.nm : Nat), .int .u32 (s.sn : Nat), .int .i64 (s.dc : Nat), .int .i64 s.v.lat, .bool (vreq s.v), .bool (von s.v), .slice wa P0.i wcp] 57)) := (Below.refl _ _).alloc (Nat.le_refl _) _
          have T1 := HR.out.1.below h1.out.2.2
          have T2 := T1.more bA (Nat.le_refl _) (by simp)
          have ex := heap_alloc_new v1 (.cells #[.int .i64 (s.st : Nat), .int .u32 (s.ss : Nat), .int .u32 (s.nm : Nat), .int .u32 (s.sn : Nat), .int .i64 (s.dc : Nat), .int .i64 s.v.lat, .bool (vreq s.v), .bool (von s.v), .slice wa P0.i wcp] 57)
          have qL := hlog_any d P0 U s _ T2.dv (by have := HR.out.2.2; have := HJ.out; omega)
          have H1 : Hid (_) := And.intro T2 (And.intro ex (And.intro (h1.out.2.1.below bA) (fun y hy => (own_far h1.out.1 y hy).1)))
          clear h1 bA T1 T2 ex
          go_wp2_with fail
          refine qL.mono ?_
          rintro e v2 ⟨vl, rfl, h2⟩
          clear qL
          have T3 := H1.out.1.below h2.out.2
          have bw3 := T3.bel
          have hRb := H3.out.2.1.below bw3
          have qV := hreceive_any d P0 U s a3 F.1 c3 f7 v2 T3.dv hRb (by have := HR.out.2.2; have := HJ.out; omega)
          rw [(hrecv_spoilt P0 s F.1 f7 H3.out.2.2).1, (hrecv_spoilt P0 s F.1 f7 H3.out.2.2).2] at qV
          have H2 : Hid (_) := And.intro T3 (And.intro ((h2.out.2.block _ (H1.out.1.fr _ (by simp)).1).trans H1.out.2.1) (And.intro (H1.out.2.2.1.below h2.out.2) H1.out.2.2.2))
          clear h2 T3 bw3 hRb H1
          go_wp2_with fail
          refine qV.mono ?_
          rintro e v3 ⟨rfl, h3⟩
          clear qV
          obtain ⟨U3, g3, x3⟩ := h3.out
          obtain ⟨T3, ex, rw_, hfar⟩ := H2.out
          have T4 := T3.dev g3 x3
          have ex4 := (T3.kept g3 (k := v1.heap.size) (by simp)).trans ex
          have rw4 : Row8 v3 wa P0.i wcp (vout s.v) := rw_.off g3.off (fun y hy hm => by
            have h1 := hfar y hy
            have h2 := HR.out.1.dv.ult _ hm
            omega)
          have qL2 := hlog_any d P0 U3 (hnote s 42) v3 T4.dv (by
            have h1 := HR.out.2.2
            have h2 := HJ.out
            have : (hnote s 42).L.length = s.L.length + 1 := by simp [hnote]
            omega)
          rw [show (hnote s 42).L.length = s.L.length + 1 by simp [hnote]] at qL2
          have H4 : Hid (_) := And.intro T4 (And.intro ex4 rw4)
          clear h3 g3 x3 T3 ex rw_ hfar T4 ex4 rw4 H2
          go_wp2_with fail
          refine qL2.mono ?_
          rintro e v4 ⟨vl2, rfl, h4⟩
          clear qL2
          obtain ⟨T4, ex4, rw4⟩ := H4.out
          have T5 := T4.below h4.out.2
          have ex5 := (h4.out.2.block v1.heap.size (T4.fr _ (by simp)).1).trans ex4
          have bd : Below v4.heap.size v4 v4.drew := Below.drew (Below.refl _ _)
          have qS2 : Calls Tryz.prog 36 #[.pointer (some ⟨d, 0, none⟩)] v4.drew fun e w' => ∃ a cap, e = .returned (.agg #[.int .i64 (s.st : Nat), .int .u32 (s.ss : Nat), .int .u32 (s.nm : Nat), .int .u32 (s.sn : Nat), .int .i64 (s.dc : Nat), .int .i64 s.v.lat, .bool (vreq s.v), .bool (von s.v), .slice a P0.i cap]) ∧ Hid (Fr w' v4.drew.heap.size (.slice a P0.i cap) (P0.i, vout s.v) ∧ Row8 w' a P0.i cap (vout s.v) ∧ Below v4.drew.heap.size v4.drew w') := hseeS_any d P0 U3 (hnote s 42) v4.drew (T5.dv.below bd)
          have HSx : v4.drew.cell? ⟨v1.heap.size, 0, none⟩ = some (.int .i64 (s.st : Nat)) ∧ v4.drew.cell? ⟨v1.heap.size, 1, none⟩ = some (.int .u32 (s.ss : Nat)) ∧ v4.drew.cell? ⟨v1.heap.size, 2, none⟩ = some (.int .u32 (s.nm : Nat)) ∧ v4.drew.cell? ⟨v1.heap.size, 3, none⟩ = some (.int .u32 (s.sn : Nat)) ∧ v4.drew.cell? ⟨v1.heap.size, 4, none⟩ = some (.int .i64 (s.dc : Nat)) ∧ v4.drew.cell? ⟨v1.heap.size, 5, none⟩ = some (.int .i64 s.v.lat) ∧ v4.drew.cell? ⟨v1.heap.size, 6, none⟩ = some (.bool (vreq s.v)) ∧ v4.drew.cell? ⟨v1.heap.size, 7, none⟩ = some (.bool (von s.v)) ∧ v4.drew.cell? ⟨v1.heap.size, 8, none⟩ = some (.slice wa P0.i wcp) := ⟨cell_of_row v4.drew _ 0 _ _ _ ex5, cell_of_row v4.drew _ 1 _ _ _ ex5, cell_of_row v4.drew _ 2 _ _ _ ex5, cell_of_row v4.drew _ 3 _ _ _ ex5, cell_of_row v4.drew _ 4 _ _ _ ex5, cell_of_row v4.drew _ 5 _ _ _ ex5, cell_of_row v4.drew _ 6 _ _ _ ex5, cell_of_row v4.drew _ 7 _ _ _ ex5, cell_of_row v4.drew _ 8 _ _ _ ex5⟩
          have H5 : Hid (_) := And.intro T5 (And.intro ((rw4.below h4.out.2).below bd) (T5.fr _ (by simp : v1.heap.size ∈ [v1.heap.size])).1)
          clear T4 ex4 rw4 h4 T5 ex5 bd H4
          have ew : wrap64 ((s.L.length : Int) + 1) = (s.L.length : Int) + 1 := by have := HR.out.2.2; have := HJ.out; unfold wrap64; omega
          have ewI : IntKind.i64.wrap ((s.L.length : Int) + 1) = (s.L.length : Int) + 1 := by have := HR.out.2.2; have := HJ.out; rw [IntKind.wrap_i64]; omega
          have eM : ((s.L.length + 1 : Nat) : Int) = ((s.L.length : Nat) : Int) + 1 := by simp
          go_wp2_with fail
          refine wp_region_held_drew (S := fun w' => w'.cell? ⟨v1.heap.size, 0, none⟩ = some (.int .i64 (s.st : Nat)) ∧ w'.cell? ⟨v1.heap.size, 1, none⟩ = some (.int .u32 (s.ss : Nat)) ∧ w'.cell? ⟨v1.heap.size, 2, none⟩ = some (.int .u32 (s.nm : Nat)) ∧ w'.cell? ⟨v1.heap.size, 3, none⟩ = some (.int .u32 (s.sn : Nat)) ∧ w'.cell? ⟨v1.heap.size, 4, none⟩ = some (.int .i64 (s.dc : Nat)) ∧ w'.cell? ⟨v1.heap.size, 5, none⟩ = some (.int .i64 s.v.lat) ∧ w'.cell? ⟨v1.heap.size, 6, none⟩ = some (.bool (vreq s.v)) ∧ w'.cell? ⟨v1.heap.size, 7, none⟩ = some (.bool (von s.v)) ∧ w'.cell? ⟨v1.heap.size, 8, none⟩ = some (.slice wa P0.i wcp)) (by kernel_rfl) HSx (fun _ => ?_)
          refine wpAnyH_take (i := 0) (v := Value.int .i64 42) rfl (by kernel_rfl) (by kernel_rfl) (by kernel_rfl) (fun _ _ _ h => h) (Or.inl ⟨by kernel_rfl, fun w hSw => by go_simp⟩) (by assumption) ?_
          refine wpAnyH_take (i := 1) (v := Value.bool true) rfl (by kernel_rfl) (by kernel_rfl) (by kernel_rfl) (fun _ _ _ h => h) (Or.inl ⟨by kernel_rfl, fun w hSw => by go_simp⟩) (by assumption) ?_
          refine wpAnyH_take (i := 2) (v := Value.bool true) rfl (by kernel_rfl) (by kernel_rfl) (by kernel_rfl) (fun _ _ _ h => h) (Or.inl ⟨by kernel_rfl, fun w hSw => by go_simp⟩) (by assumption) ?_
          refine wpAnyH_take (i := 3) (v := Value.int .i64 ((s.L.length : Nat) + 1)) rfl (by kernel_rfl) (by kernel_rfl) (by kernel_rfl) (fun _ _ _ h => h) (Or.inl ⟨by kernel_rfl, fun w hSw => by go_simp⟩) (by assumption) ?_
          refine wpAnyH_take (i := 4) (v := Value.int .i64 (s.L.length : Nat)) rfl (by kernel_rfl) (by kernel_rfl) (by kernel_rfl) (fun _ _ _ h => h) (Or.inl ⟨by kernel_rfl, fun w hSw => by go_simp⟩) (by assumption) ?_
          refine wpAnyH_take (i := 5) (v := Value.int .i64 ((s.L.length : Nat) + 1)) rfl (by kernel_rfl) (by kernel_rfl) (by kernel_rfl) (fun _ _ _ h => h) (Or.inl ⟨by kernel_rfl, fun w hSw => by go_simp⟩) (by assumption) ?_
          refine wpAnyH_take (i := 6) (v := Value.bool true) rfl (by kernel_rfl) (by kernel_rfl) (by kernel_rfl) (fun _ _ _ h => h) (Or.inl ⟨by kernel_rfl, fun w hSw => by go_simp⟩) (by assumption) ?_
          refine wpAnyH_take (i := 7) (v := Value.bool true) rfl (by kernel_rfl) (by kernel_rfl) (by kernel_rfl) (fun _ _ _ h => h) (Or.inl ⟨by kernel_rfl, fun w hSw => by go_simp⟩) (by assumption) ?_
          refine wpAnyH_take (i := 8) (v := Value.bool true) rfl (by kernel_rfl) (by kernel_rfl) (by kernel_rfl) (fun _ _ _ h => h) (Or.inl ⟨by kernel_rfl, fun w hSw => by go_simp⟩) (by assumption) ?_
          refine wpAnyH_take (i := 9) (v := Value.agg #[Value.int .i64 (s.st : Nat), Value.int .u32 (s.ss : Nat), Value.int .u32 (s.nm : Nat), Value.int .u32 (s.sn : Nat), Value.int .i64 (s.dc : Nat), Value.int .i64 s.v.lat, Value.bool (vreq s.v), Value.bool (von s.v), Value.slice wa P0.i wcp]) rfl (by kernel_rfl) (by kernel_rfl) (by kernel_rfl) (fun _ _ _ h => h) (Or.inl ⟨by kernel_rfl, fun w hSw => by go_simp⟩) (by assumption) ?_
          refine wpAnyH_take (i := 10) (v := Value.pointer (some ⟨d, 0, none⟩)) rfl (by kernel_rfl) (by kernel_rfl) (by kernel_rfl) (fun _ _ _ h => h) (Or.inl ⟨by kernel_rfl, fun w hSw => by go_simp⟩) (by assumption) ?_
          refine held_call (i := 11) 36 #[Value.pointer (some ⟨d, 0, none⟩)] (by kernel_rfl) rfl (by kernel_rfl) (by go_simp) ?_
          refine qS2.mono ?_
          rintro e v5 ⟨xa, xc, rfl, h5⟩
          have HSy : v5.cell? ⟨v1.heap.size, 0, none⟩ = some (.int .i64 (s.st : Nat)) ∧ v5.cell? ⟨v1.heap.size, 1, none⟩ = some (.int .u32 (s.ss : Nat)) ∧ v5.cell? ⟨v1.heap.size, 2, none⟩ = some (.int .u32 (s.nm : Nat)) ∧ v5.cell? ⟨v1.heap.size, 3, none⟩ = some (.int .u32 (s.sn : Nat)) ∧ v5.cell? ⟨v1.heap.size, 4, none⟩ = some (.int .i64 (s.dc : Nat)) ∧ v5.cell? ⟨v1.heap.size, 5, none⟩ = some (.int .i64 s.v.lat) ∧ v5.cell? ⟨v1.heap.size, 6, none⟩ = some (.bool (vreq s.v)) ∧ v5.cell? ⟨v1.heap.size, 7, none⟩ = some (.bool (von s.v)) ∧ v5.cell? ⟨v1.heap.size, 8, none⟩ = some (.slice wa P0.i wcp) := (by have hb := fun i => World.cell?_of_block (a := ⟨v1.heap.size, i, none⟩) (h5.out.2.2.block v1.heap.size H5.out.2.2); exact ⟨(hb 0).trans HSx.1, (hb 1).trans HSx.2.1, (hb 2).trans HSx.2.2.1, (hb 3).trans HSx.2.2.2.1, (hb 4).trans HSx.2.2.2.2.1, (hb 5).trans HSx.2.2.2.2.2.1, (hb 6).trans HSx.2.2.2.2.2.2.1, (hb 7).trans HSx.2.2.2.2.2.2.2.1, (hb 8).trans HSx.2.2.2.2.2.2.2.2⟩)
          have qC := same13_any (s.st : Nat) (s.ss : Nat) (s.nm : Nat) (s.sn : Nat) (s.dc : Nat) s.v.lat (vreq s.v) (von s.v) wa xa P0.i P0.i wcp xc (vout s.v) (vout s.v) v5 (H5.out.2.1.below h5.out.2.2) h5.out.2.1 rfl
          have H6 : Hid (_) := h5.out.2.2
          clear qS2 h5
          refine ⟨_, rfl, HSy, ?_⟩
          refine held_call (i := 12) 28 #[Value.agg #[Value.int .i64 (s.st : Nat), Value.int .u32 (s.ss : Nat), Value.int .u32 (s.nm : Nat), Value.int .u32 (s.sn : Nat), Value.int .i64 (s.dc : Nat), Value.int .i64 s.v.lat, Value.bool (vreq s.v), Value.bool (von s.v), Value.slice wa P0.i wcp], Value.agg #[Value.int .i64 (s.st : Nat), Value.int .u32 (s.ss : Nat), Value.int .u32 (s.nm : Nat), Value.int .u32 (s.sn : Nat), Value.int .i64 (s.dc : Nat), Value.int .i64 s.v.lat, Value.bool (vreq s.v), Value.bool (von s.v), Value.slice xa P0.i xc]] (by kernel_rfl) rfl (by kernel_rfl) (by go_simp) ?_
          refine qC.mono ?_
          rintro e v6 ⟨rfl, h6⟩
          have HSz : v6.cell? ⟨v1.heap.size, 0, none⟩ = some (.int .i64 (s.st : Nat)) ∧ v6.cell? ⟨v1.heap.size, 1, none⟩ = some (.int .u32 (s.ss : Nat)) ∧ v6.cell? ⟨v1.heap.size, 2, none⟩ = some (.int .u32 (s.nm : Nat)) ∧ v6.cell? ⟨v1.heap.size, 3, none⟩ = some (.int .u32 (s.sn : Nat)) ∧ v6.cell? ⟨v1.heap.size, 4, none⟩ = some (.int .i64 (s.dc : Nat)) ∧ v6.cell? ⟨v1.heap.size, 5, none⟩ = some (.int .i64 s.v.lat) ∧ v6.cell? ⟨v1.heap.size, 6, none⟩ = some (.bool (vreq s.v)) ∧ v6.cell? ⟨v1.heap.size, 7, none⟩ = some (.bool (von s.v)) ∧ v6.cell? ⟨v1.heap.size, 8, none⟩ = some (.slice wa P0.i wcp) := (by have hb := fun i => World.cell?_of_block (a := ⟨v1.heap.size, i, none⟩) (h6.block v1.heap.size (Nat.lt_of_lt_of_le H5.out.2.2 H6.out.size)); exact ⟨(hb 0).trans HSy.1, (hb 1).trans HSy.2.1, (hb 2).trans HSy.2.2.1, (hb 3).trans HSy.2.2.2.1, (hb 4).trans HSy.2.2.2.2.1, (hb 5).trans HSy.2.2.2.2.2.1, (hb 6).trans HSy.2.2.2.2.2.2.1, (hb 7).trans HSy.2.2.2.2.2.2.2.1, (hb 8).trans HSy.2.2.2.2.2.2.2.2⟩)
          have H7 : Hid (_) := h6
          clear qC h6
          refine ⟨_, rfl, HSz, ?_⟩
          refine wpAnyH_take (i := 13) (v := Value.bool true) rfl (by kernel_rfl) (by kernel_rfl) (by kernel_rfl) (fun _ _ _ h => h) (Or.inl ⟨by kernel_rfl, fun w hSw => by go_simp⟩) (by assumption) ?_
          refine wpAnyH_take (i := 14) (v := Value.bool true) rfl (by kernel_rfl) (by kernel_rfl) (by kernel_rfl) (fun _ _ _ h => h) (Or.inl ⟨by kernel_rfl, fun w hSw => by go_simp⟩) (by assumption) ?_
          refine wpAnyH_done (by kernel_rfl) ?_ _
          have HF : Hid (_) := H3.out.1.trans ((H5.out.1.bel.trans (((Below.drew (Below.refl _ _)).trans (H6.out.trans (H7.out.mono H6.out.size))).mono H5.out.1.bel.size)).mono H3.out.1.size)
          clear HSx HSy HSz H5 H6 H7 H3 HR HJ
          go_wp2_with fail
          go_ret
          exact ⟨by kernel_rfl, HF.out⟩
  · have qB := burst_no a2 F.1 c2 at_ x w2 (by omega) H1.out.2 (by omega)
    have H2 : Hid (_) := b2
    clear qF h2 r2 b2' l2 hDE b2 hroom H1 u0 u1 u2 u3 u4 u5 HC
    go_wp2_with (go_at_call 40; refine qB.mono ?_; rintro e w' ⟨rfl, hw⟩; have hw := hw.symm; subst hw)
    go_ret
    exact ⟨rfl, H2.out⟩
theorem hostSpoilt_walk (a0 : Option Addr) (len0 cap0 : Nat) (a1_0 a1_1 a1_2 a1_3 a1_4 : Int) (a1_5 : Option Addr) (len1_5 cap1_5 : Nat) (z1_5 : List Int) (a2 a3 : Int) (w : World) (w0 : OpRow w a0 len0) (_w1_0 : (Lit.int .i64 a1_0).wf = true) (w1_1 : (Lit.int .u32 a1_1).wf = true) (w1_2 : (Lit.int .u32 a1_2).wf = true) (w1_3 : (Lit.int .u32 a1_3).wf = true) (_w1_4 : (Lit.int .i64 a1_4).wf = true) (w1_5 : BRow .u8 w a1_5 len1_5 cap1_5 z1_5) (_w2 : (Lit.int .i64 a2).wf = true) (w3 : (Lit.int .u32 a3).wf = true) :
    Calls Tryz.prog 9 #[.slice a0 len0 cap0, .agg #[.int .i64 a1_0, .int .u32 a1_1, .int .u32 a1_2, .int .u32 a1_3, .int .i64 a1_4, .slice a1_5 len1_5 cap1_5], .int .i64 a2, .int .u32 a3] w fun e w' => e = .returned (.bool true) ∧ Below w.heap.size w w' := by
  obtain ⟨c, rfl, hc⟩ := nat_u32 w1_1
  obtain ⟨ss, rfl, hs⟩ := nat_u32 w1_2
  obtain ⟨n, rfl, hn⟩ := nat_u32 w1_3
  obtain ⟨x, rfl, hx⟩ := nat_u32 w3
  exact hspoilt_go a0 len0 cap0 a1_0 c ss n a1_4 a1_5 len1_5 cap1_5 _ a2 x w w0 w1_5.row8 hc hs hn hx
end Go.Proofs.YtndjepeolamedaaGreat
