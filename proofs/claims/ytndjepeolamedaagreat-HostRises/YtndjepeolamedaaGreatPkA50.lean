/- Part 51 of the texts on which the proofs of layer 13 rest: contracts of Go functions. -/
import Derived.Test.YtndjepeolamedaaGreatPkA18
import Derived.Test.YtndjepeolamedaaGreatPkA38
import Derived.Test.YtndjepeolamedaaGreatPkA43
import Derived.Test.YtndjepeolamedaaGreatPkA49
namespace Go.Proofs.YtndjepeolamedaaGreat
set_option maxRecDepth 100000
open Go.RowKit
theorem BA_one_zero : BA (fun _ => 0) 1 = ⟨#[0]⟩ := by decide
set_option maxRecDepth 100000 in
set_option maxHeartbeats 16000000 in
theorem hrises_go (a0 : Option Addr) (len0 cap0 : Nat) (w : World) (hO : OpRow w a0 len0) :
    Calls Tryz.prog 7 #[.slice a0 len0 cap0] w fun e w' => e = .returned (.bool true) ∧ Below w.heap.size w w' := by
  obtain ⟨hlen, h0⟩ := hO
  have HC : Hid (_) := h0
  clear h0
  go_enter Tryz.func7, Tryz.ntmps7
  go_wp2_with fail
  refine (awake14 _).mono ?_
  rintro e w1 ⟨rfl, b1⟩
  have H1 : Hid (_) := b1
  clear b1
  go_wp2_with fail
  refine (small_any w1).mono ?_
  rintro e w2 ⟨rfl, b2'⟩
  have b2 := H1.out.trans (b2'.mono H1.out.size)
  have bX : Below w2.heap.size w2 (w2.alloc (.cells #[.int .u32 (P0.c : Nat), .int .i64 (P0.o : Nat), .int .i64 (P0.i : Nat), .int .i64 (P0.t : Nat), .int .u32 (P0.n : Nat)] 36)) := (Below.refl _ _).alloc (Nat.le_refl _) _
  have eX := heap_alloc_new w2 (.cells #[.int .u32 (P0.c : Nat), .int .i64 (P0.o : Nat), .int .i64 (P0.i : Nat), .int .i64 (P0.t : Nat), .int .u32 (P0.n : Nat)] 36)
  have lX : w2.heap.size < (w2.alloc (.cells #[.int .u32 (P0.c : Nat), .int .i64 (P0.o : Nat), .int .i64 (P0.i : Nat), .int .i64 (P0.t : Nat), .int .u32 (P0.n : Nat)] 36)).heap.size := by rw [World.size_alloc]; omega
  have qN := newH_any P0 P0_ok (w2.alloc (.cells #[.int .u32 (P0.c : Nat), .int .i64 (P0.o : Nat), .int .i64 (P0.i : Nat), .int .i64 (P0.t : Nat), .int .u32 (P0.n : Nat)] 36))
  have H2 : Hid (_) := And.intro (b2.trans (bX.mono b2.size)) (And.intro eX lX)
  clear b2' b2 bX eX lX H1
  go_wp2_with fail
  generalize w2.alloc (.cells #[.int .u32 (P0.c : Nat), .int .i64 (P0.o : Nat), .int .i64 (P0.i : Nat), .int .i64 (P0.t : Nat), .int .u32 (P0.n : Nat)] 36) = X at *
  refine qN.mono ?_
  rintro e w5 ⟨d, rfl, h5⟩
  obtain ⟨b5, U, D5, hU⟩ := h5.out
  have e5 := (b5.block w2.heap.size H2.out.2.2).trans H2.out.2.1
  have q0 := cell_of_row w5 w2.heap.size 0 _ _ _ e5
  have q1 := cell_of_row w5 w2.heap.size 1 _ _ _ e5
  have q2 := cell_of_row w5 w2.heap.size 2 _ _ _ e5
  have q3 := cell_of_row w5 w2.heap.size 3 _ _ _ e5
  have q4 := cell_of_row w5 w2.heap.size 4 _ _ _ e5
  have qR := hrnew_any P0 P0_ok w5
  have H5 : Hid (_) := And.intro b5 (And.intro D5 hU)
  clear qN h5 b5 D5 hU e5
  go_wp2_with fail
  refine qR.mono ?_
  rintro e w6 ⟨e', V, rfl, h6⟩
  obtain ⟨b5, D5, hU⟩ := H5.out
  obtain ⟨b6, R6, hV⟩ := h6.out
  have T : Twh X w6 ⟨d, e', P0, []⟩ hnew := twh_made (Below.refl _ _) b5 D5 hU b6 R6 hV rfl
  have HT : Hid (_) := T
  clear qR h6 q0 q1 q2 q3 q4 b5 D5 hU b6 R6 hV T H5
  go_wp2_with fail
  go_loopw [8, 9, 10, 11, 12, 13, 14, 15, 16] (fun ca cb ci _ _ _ _ _ _ wr => ∃ (j A Bn : Nat) (s : Sh), j ≤ 300 ∧ ci = .int .i64 ((j : Nat) : Int) ∧ ca = .int .u32 ((A : Nat) : Int) ∧ cb = .int .u32 ((Bn : Nat) : Int) ∧ Hid (Twh X wr ⟨d, e', P0, []⟩ s ∧ Ih P0 s ∧ s.L.length ≤ 2 * j ∧ True ∧ Lr s A Bn)) (fun _ _ ci _ _ _ _ _ _ _ => 300 - (intOf ci).toNat)
  case atStart => exact ⟨0, 0, 0, hnew, by omega, rfl, rfl, rfl, HT.out, Ih.new_ _, Nat.le_refl _, trivial, Lr.new_⟩
  case round =>
    clear HT
    obtain ⟨j, A, Bn, s, hj, rfl, rfl, rfl, hR⟩ := hrel
    by_cases hlt : j < len0 ∧ j < 300
    · obtain ⟨bo, off, rfl, hbb, hcc⟩ := HC.out (by omega)
      obtain ⟨K, N, fl, od, ya, l, cc, ds, pp, zz, q0, q1, q2, q3, q4, q5, q6, Rd, hl, hN, hz, hlow⟩ := hcc j hlt.1
      have hk1 : (j : Int) < (len0 : Int) := by omega
      have hk2 : (j : Int) < 300 := by omega
      have HJ : Hid (_) := And.intro (And.intro hj hlt) (And.intro q0 (And.intro q1 (And.intro q2 (And.intro q3 (And.intro q4 (And.intro q5 (And.intro q6 (And.intro Rd (And.intro hl (And.intro hN (And.intro hz (And.intro hlow hbb))))))))))))
      clear hcc q0 q1 q2 q3 q4 q5 q6 Rd hl hN hz hlow hbb hlt HC hj
      obtain ⟨⟨U, V, T⟩, hv, hLn, htn, hLh⟩ := hR.out
      have qS := hseeS_any d P0 U s wr T.dv
      have HT : Hid (_) := And.intro T (And.intro hv (And.intro hLn (And.intro htn hLh)))
      clear T hv hLn htn hLh hR
      go_wp2_with fail
      refine qS.mono ?_
      rintro e v1 ⟨wa, wcp, rfl, h1⟩
      clear qS
      obtain ⟨T, hv, hLn, htn, hLh⟩ := HT.out
      obtain ⟨⟨hj, hlt⟩, q0, q1, q2, q3, q4, q5, q6, Rd, hl, hN, hz, hlow, hbb⟩ := HJ.out
      obtain ⟨OB, hOB⟩ : ∃ o : Obj, o = .cells #[.int .i64 (s.st : Nat), .int .u32 (s.ss : Nat), .int .u32 (s.nm : Nat), .int .u32 (s.sn : Nat), .int .i64 (s.dc : Nat), .int .i64 s.v.lat, .bool (vreq s.v), .bool (von s.v), .slice wa P0.i wcp] 57 (0, 0) := ⟨_, rfl⟩
      have bA : Below v1.heap.size v1 (v1.alloc OB) := (Below.refl _ _).alloc (Nat.le_refl _) _
      have T2 := (T.below h1.out.2.2).below bA
      have e2 := heap_alloc_new v1 OB
      have l2 : v1.heap.size < (v1.alloc OB).heap.size := by rw [World.size_alloc]; omega
      have bw2 : Below w.heap.size w (v1.alloc OB) := H2.out.1.trans (T2.bel.mono H2.out.1.size)
      have c0 := (bw2.cell (p := ⟨bo, off + j * 7, none⟩) hbb).trans q0
      have c1 := (bw2.cell (p := ⟨bo, off + j * 7 + 1, none⟩) hbb).trans q1
      have c2 := (bw2.cell (p := ⟨bo, off + j * 7 + 2, none⟩) hbb).trans q2
      have c3 := (bw2.cell (p := ⟨bo, off + j * 7 + 3, none⟩) hbb).trans q3
      have c4 := (bw2.cell (p := ⟨bo, off + j * 7 + 4, none⟩) hbb).trans q4
      have c5 := (bw2.cell (p := ⟨bo, off + j * 7 + 5, none⟩) hbb).trans q5
      have c6 := (bw2.cell (p := ⟨bo, off + j * 7 + 6, none⟩) hbb).trans q6
      have sw2 := bw2.size
      have qF := hframe_all14 e' P0 V s K N fl od ya l cc ds pp zz (v1.alloc OB) T2.rw (Rd.below bw2) (fun y hy h0 => Nat.lt_of_lt_of_le (hlow y hy h0) sw2) hv.ss hz hl
      have hwf : ∀ y, wa = some y → wr.heap.size ≤ y.block ∧ y.block < v1.heap.size := fun y hy => own_far h1.out.1 y hy
      have H3 : Hid (_) := And.intro T2 (And.intro e2 (And.intro l2 (And.intro (h1.out.2.1.below bA) (And.intro hwf h1.out.2.2.size))))
      clear T hv hLn htn hLh hj hlt q0 q1 q2 q3 q4 q5 q6 Rd hl hN hz hlow hbb bA T2 e2 l2 bw2 sw2 hwf h1
      subst hOB
      go_wp2_with fail
      generalize hv2 : v1.alloc (.cells #[.int .i64 (s.st : Nat), .int .u32 (s.ss : Nat), .int .u32 (s.nm : Nat), .int .u32 (s.sn : Nat), .int .i64 (s.dc : Nat), .int .i64 s.v.lat, .bool (vreq s.v), .bool (von s.v), .slice wa P0.i wcp] 57) = v2 at *
      clear hv2
      refine qF.mono ?_
      rintro e v3 ⟨av, f, cv, ib, rfl, h3⟩
      clear qF c0 c1 c2 c3 c4 c5 c6
      obtain ⟨T2, e2, l2, rwa, hwf, s1⟩ := H3.out
      obtain ⟨hib, rf, b3, farf, fo, foN⟩ := h3.out
      obtain ⟨T, hv, hLn, htn, hLh⟩ := HT.out
      obtain ⟨⟨hj, hlt⟩, q0, q1, q2, q3, q4, q5, q6, Rd, hl, hN, hz, hlow, hbb⟩ := HJ.out
      have T3 := T2.below b3
      have ew3 := (b3.block _ l2).trans e2
      have bw3 : Below w.heap.size w v3 := H2.out.1.trans (T3.bel.mono H2.out.1.size)
      have c0 := (bw3.cell (p := ⟨bo, off + j * 7, none⟩) hbb).trans q0
      have c1 := (bw3.cell (p := ⟨bo, off + j * 7 + 1, none⟩) hbb).trans q1
      have c2 := (bw3.cell (p := ⟨bo, off + j * 7 + 2, none⟩) hbb).trans q2
      have c3 := (bw3.cell (p := ⟨bo, off + j * 7 + 3, none⟩) hbb).trans q3
      have c4 := (bw3.cell (p := ⟨bo, off + j * 7 + 4, none⟩) hbb).trans q4
      have c5 := (bw3.cell (p := ⟨bo, off + j * 7 + 5, none⟩) hbb).trans q5
      have c6 := (bw3.cell (p := ⟨bo, off + j * 7 + 6, none⟩) hbb).trans q6
      have sw := H2.out.1.size
      have sT := T2.bel.size
      obtain ⟨KL, hKL⟩ : ∃ k : List (Nat × Option Obj), k = (v1.heap.size, v3.heap[v1.heap.size]?) :: (av.toList.map (fun y => (y.block, v3.heap[y.block]?)) ++ wa.toList.map (fun y => (y.block, v3.heap[y.block]?))) := ⟨_, rfl⟩
      have hTell : ∀ x, x ∈ KL → (x.1 < v3.heap.size ∧ x.1 ∉ U ∧ x.1 ∉ V) ∧ v3.heap[x.1]? = x.2 := by
        intro x hx
        rw [hKL] at hx
        simp only [List.mem_cons, List.mem_append, List.mem_map, Option.mem_toList] at hx
        have s3 := b3.size
        rcases hx with rfl | ⟨y, hy, rfl⟩ | ⟨y, hy, rfl⟩
        · exact ⟨⟨by show v1.heap.size < _; omega, T.far (by show wr.heap.size ≤ v1.heap.size; omega)⟩, rfl⟩
        · have := farf y hy
          have hs2 : wr.heap.size ≤ v2.heap.size := by omega
          exact ⟨⟨by show y.block < _; omega, T.far (by show wr.heap.size ≤ y.block; omega)⟩, rfl⟩
        · have := hwf y hy
          exact ⟨⟨by show y.block < _; omega, T.far (by show wr.heap.size ≤ y.block; omega)⟩, rfl⟩
      have TT : Twh X v3 ⟨d, e', P0, KL⟩ s := ⟨U, V, T3.tell KL hTell⟩
      have qP := kstep_op X v3 ⟨d, e', P0, KL⟩ s K N fl od ya l cc ds pp zz TT (Rd.below bw3) (fun y hy h0 => Nat.lt_of_lt_of_le (hlow y hy h0) sw) hz hl hN hv (by omega)
      have H4 : Hid (_) := And.intro ew3 (And.intro rf (And.intro (rwa.below b3) (And.intro fo (And.intro foN (And.intro hKL hib)))))
      clear hib T2 e2 l2 rwa hwf s1 rf b3 farf fo foN T hv hLn htn hLh hj hlt q0 q1 q2 q3 q4 q5 q6 Rd hl hN hz hlow hbb T3 ew3 bw3 sw sT hTell TT H3 h3
      go_wp2_with fail
      refine qP.mono ?_
      rintro e v4 ⟨rfl, h4⟩
      clear qP c0 c1 c2 c3 c4 c5 c6
      obtain ⟨ew3, rf, rwa, fo, foN, hKL, hib⟩ := H4.out
      obtain ⟨s', ⟨U4, V4, T4⟩, I4, G4, O4⟩ := h4.out
      obtain ⟨T, hv, hLn, htn, hLh⟩ := HT.out
      have ew4 : v4.heap[v1.heap.size]? = _ := ((T4.kp (v1.heap.size, v3.heap[v1.heap.size]?) (by show _ ∈ KL; rw [hKL]; simp)).2).trans ew3
      have lw4 := (T4.kp (v1.heap.size, v3.heap[v1.heap.size]?) (by show _ ∈ KL; rw [hKL]; simp)).1.1
      have rf4 := rf.blkH (w' := v4) (fun y hy => (T4.kp (y.block, v3.heap[y.block]?) (by show _ ∈ KL; rw [hKL]; simp [hy])).2)
      have rw4 := rwa.blkH (w' := v4) (fun y hy => (T4.kp (y.block, v3.heap[y.block]?) (by show _ ∈ KL; rw [hKL]; simp [hy])).2)
      have hRS := hrise_step (P := P0) (f := f) hv (HV.vok T.rw) hLh O4 fo
      have T5 : Bth X v4 ⟨d, e', P0, []⟩ s' s' [] U4 V4 := T4.tell [] (fun x hx => by cases hx)
      have qS2 := hseeS_any d P0 U4 s' v4 T4.dv
      have g1 := G4
      have H5 : Hid (_) := And.intro ew4 (And.intro lw4 (And.intro rf4 (And.intro rw4 (And.intro hRS (And.intro T5 (And.intro I4 (And.intro (by omega : s'.L.length ≤ 2 * (j + 1)) (And.intro trivial foN))))))))
      have HJ2 : Hid (_) := HJ.out.1
      have HJK : Hid (_) := And.intro HJ.out.2.1 HJ.out.2.2.2.2.2.2.2.2.2.2.2.2.2
      have HIB : Hid (_) := hib
      clear hib ew3 rf rwa fo foN hKL T hv hLn htn hLh ew4 lw4 rf4 rw4 hRS T5 I4 G4 O4 g1 H4 h4 T4 HT HJ
      go_wp2_with fail
      refine qS2.mono ?_
      rintro e v5 ⟨na, nc, rfl, h5⟩
      clear qS2
      obtain ⟨ew4, lw4, rf4, rw4, hRS, T5, I4, hL5, ht5, foN⟩ := H5.out
      have b5 := h5.out.2.2
      obtain ⟨on', hon⟩ : ∃ b, von s'.v = b := ⟨_, rfl⟩
      have hONx := I4.on (HV.vok T5.rw)
      rw [hon] at hONx ⊢
      obtain ⟨ON, hOB⟩ : ∃ o : Obj, o = .cells #[.int .i64 (s'.st : Nat), .int .u32 (s'.ss : Nat), .int .u32 (s'.nm : Nat), .int .u32 (s'.sn : Nat), .int .i64 (s'.dc : Nat), .int .i64 s'.v.lat, .bool (vreq s'.v), .bool on', .slice na P0.i nc] 57 (0, 0) := ⟨_, rfl⟩
      have bB : Below v5.heap.size v5 (v5.alloc ON) := (Below.refl _ _).alloc (Nat.le_refl _) _
      have b6 := b5.trans (bB.mono b5.size)
      have en6 := heap_alloc_new v5 ON
      have ln6 : v5.heap.size < (v5.alloc ON).heap.size := by rw [World.size_alloc]; omega
      have ew6 := (b6.block _ lw4).trans ew4
      have lw6 := Nat.lt_of_lt_of_le lw4 b6.size
      have rf6 := rf4.below b6
      have rw6 := rw4.below b6
      have rn6 := h5.out.2.1.below bB
      have T6 := T5.below b6
      have qc6 := conv_any na P0.i nc (vout s'.v) (v5.alloc ON) rn6
      have c06 : ∀ ob, (v5.alloc ob).cell? ⟨bo, off + j * 7, none⟩ = some (.int .i64 K) := fun ob => ((H2.out.1.trans ((T5.bel.trans ((b5.trans (((Below.refl _ _).alloc (Nat.le_refl _) ob).mono b5.size)).mono T5.bel.size)).mono H2.out.1.size)).cell (p := ⟨bo, off + j * 7, none⟩) HJK.out.2).trans HJK.out.1
      subst hOB
      obtain ⟨XN, hXN⟩ : ∃ x, BA (vout s'.v) P0.i = x := ⟨_, rfl⟩
      rw [hXN] at qc6
      have hoff : on' = false → XN = ⟨#[0]⟩ := fun h => by
        rw [← hXN]
        have : vout s'.v = fun _ => 0 := by unfold vout; rw [hon, h]; rfl
        rw [this]; exact BA_one_zero
      obtain ⟨v6, hv6⟩ : ∃ x, v5.alloc (.cells #[.int .i64 (s'.st : Nat), .int .u32 (s'.ss : Nat), .int .u32 (s'.nm : Nat), .int .u32 (s'.sn : Nat), .int .i64 (s'.dc : Nat), .int .i64 s'.v.lat, .bool (vreq s'.v), .bool on', .slice na P0.i nc] 57) = x := ⟨_, rfl⟩
      rw [hv6] at bB b6 en6 ln6 ew6 lw6 rf6 rw6 rn6 T6
      have Hv6 : Hid (_) := hv6
      clear hv6
      have H6 : Hid (_) := And.intro (And.intro ew6 en6) (And.intro lw6 (And.intro ln6 (And.intro rf6 (And.intro rw6 (And.intro rn6 (And.intro T6 (And.intro hRS (And.intro I4 (And.intro hL5 (And.intro ht5 (And.intro foN (And.intro hXN hon))))))))))))
      clear ew4 lw4 rf4 rw4 hRS T5 I4 hL5 ht5 foN b5 bB b6 en6 ln6 ew6 lw6 rf6 rw6 rn6 T6 H5 h5 hXN
      by_cases hD : DE f.2 f.1 = 0
      · have hK : 1 ≤ K ∧ K ≤ 7 := Classical.byContradiction (fun h => H6.out.2.2.2.2.2.2.2.2.2.2.2.1 h hD)
        obtain rfl : ib = true := HIB.out.trans (decide_eq_true hK)
        have qD := refDec_ok av f.1 cv f.2 v6 H6.out.2.2.2.1 hD
        by_cases hSS : s'.ss = s.ss
        · by_cases hNM : ¬ s.nm < s'.nm
          · have hT : ¬ Tkh K s s' f := fun t => hNM t.2.2.2
            have eS : ((s'.ss : Int) == (s.ss : Int)) = true := by rw [hSS]; simp
            have eN : ¬ (s.nm : Int) < (s'.nm : Int) := by omega
            have eN' : ¬ s.nm < s'.nm := hNM
            have n11 : (K == 11) = false := by simp; omega
            have n11' : ¬ K = 11 := by omega
            have HK11 : Hid (_) := n11'
            have HH : Hid (_) := And.intro hT hon
            clear hT hD hK hSS hNM
            cases on'
            · as_aux_lemma =>
                have hz := hoff rfl
                rw [hz] at qc6
                go_wp2_with fail
                rw [Hv6.out]
                refine qD.mono ?_
                rintro e v7 ⟨a7, c7, rfl, h7⟩
                have b7 := h7.out.2
                have bc7 : ∀ ob, Below v6.heap.size v6 (v7.alloc ob) := fun ob => b7.alloc b7.size ob
                have W1 : ∀ ob, (v7.alloc ob).cell? ⟨v1.heap.size, 1, none⟩ = some (.int .u32 (s.ss : Nat)) := fun ob => ((bc7 ob).cell (p := ⟨v1.heap.size, 1, none⟩) H6.out.2.1).trans (cell_of_row v6 v1.heap.size 1 _ _ _ H6.out.1.1)
                have W2 : ∀ ob, (v7.alloc ob).cell? ⟨v1.heap.size, 2, none⟩ = some (.int .u32 (s.nm : Nat)) := fun ob => ((bc7 ob).cell (p := ⟨v1.heap.size, 2, none⟩) H6.out.2.1).trans (cell_of_row v6 v1.heap.size 2 _ _ _ H6.out.1.1)
                have Z1 : ∀ ob, (v7.alloc ob).cell? ⟨v5.heap.size, 1, none⟩ = some (.int .u32 (s'.ss : Nat)) := fun ob => ((bc7 ob).cell (p := ⟨v5.heap.size, 1, none⟩) H6.out.2.2.1).trans (cell_of_row v6 v5.heap.size 1 _ _ _ H6.out.1.2)
                have Z2 : ∀ ob, (v7.alloc ob).cell? ⟨v5.heap.size, 2, none⟩ = some (.int .u32 (s'.nm : Nat)) := fun ob => ((bc7 ob).cell (p := ⟨v5.heap.size, 2, none⟩) H6.out.2.2.1).trans (cell_of_row v6 v5.heap.size 2 _ _ _ H6.out.1.2)
                have Z7 : ∀ ob, (v7.alloc ob).cell? ⟨v5.heap.size, 7, none⟩ = some (.bool false) := fun ob => ((bc7 ob).cell (p := ⟨v5.heap.size, 7, none⟩) H6.out.2.2.1).trans (cell_of_row v6 v5.heap.size 7 _ _ _ H6.out.1.2)
                have Z8 : ∀ ob, (v7.alloc ob).cell? ⟨v5.heap.size, 8, none⟩ = some (.slice na P0.i nc) := fun ob => ((bc7 ob).cell (p := ⟨v5.heap.size, 8, none⟩) H6.out.2.2.1).trans (cell_of_row v6 v5.heap.size 8 _ _ _ H6.out.1.2)
                have HLh : Hid (_) := And.intro ((H6.out.2.2.2.2.2.2.2.1.2 HH.out.1).2.2 HK11.out) (fun ob => H6.out.2.2.2.2.2.2.1.below (bc7 ob))
                clear h7
                clear qD b7 bc7 qc6 hONx
                go_wp2_with fail
                go_roundw
                case rel => exact ⟨j + 1, A, Bn, s', by have := HJ2.out.2; omega, by go_num, rfl, rfl, ⟨_, _, HLh.out.2 _⟩, H6.out.2.2.2.2.2.2.2.2.1, H6.out.2.2.2.2.2.2.2.2.2.1, H6.out.2.2.2.2.2.2.2.2.2.2.1, HLh.out.1⟩
                case measure => have := HJ2.out.2; simp [intOf] <;> omega
            · as_aux_lemma =>
                obtain ⟨k4, kl⟩ := hONx rfl
                have e4 : ((s'.st : Int) != 4) = false := by rw [k4]; rfl
                have el : (s'.v.lat != 0) = false := by rw [kl]; rfl
                clear k4 kl hONx
                go_wp2_with fail
                rw [Hv6.out]
                refine qD.mono ?_
                rintro e v7 ⟨a7, c7, rfl, h7⟩
                have b7 := h7.out.2
                have bc7 : ∀ ob, Below v6.heap.size v6 (v7.alloc ob) := fun ob => b7.alloc b7.size ob
                have W1 : ∀ ob, (v7.alloc ob).cell? ⟨v1.heap.size, 1, none⟩ = some (.int .u32 (s.ss : Nat)) := fun ob => ((bc7 ob).cell (p := ⟨v1.heap.size, 1, none⟩) H6.out.2.1).trans (cell_of_row v6 v1.heap.size 1 _ _ _ H6.out.1.1)
                have W2 : ∀ ob, (v7.alloc ob).cell? ⟨v1.heap.size, 2, none⟩ = some (.int .u32 (s.nm : Nat)) := fun ob => ((bc7 ob).cell (p := ⟨v1.heap.size, 2, none⟩) H6.out.2.1).trans (cell_of_row v6 v1.heap.size 2 _ _ _ H6.out.1.1)
                have Z1 : ∀ ob, (v7.alloc ob).cell? ⟨v5.heap.size, 1, none⟩ = some (.int .u32 (s'.ss : Nat)) := fun ob => ((bc7 ob).cell (p := ⟨v5.heap.size, 1, none⟩) H6.out.2.2.1).trans (cell_of_row v6 v5.heap.size 1 _ _ _ H6.out.1.2)
                have Z2 : ∀ ob, (v7.alloc ob).cell? ⟨v5.heap.size, 2, none⟩ = some (.int .u32 (s'.nm : Nat)) := fun ob => ((bc7 ob).cell (p := ⟨v5.heap.size, 2, none⟩) H6.out.2.2.1).trans (cell_of_row v6 v5.heap.size 2 _ _ _ H6.out.1.2)
                have Z7 : ∀ ob, (v7.alloc ob).cell? ⟨v5.heap.size, 7, none⟩ = some (.bool true) := fun ob => ((bc7 ob).cell (p := ⟨v5.heap.size, 7, none⟩) H6.out.2.2.1).trans (cell_of_row v6 v5.heap.size 7 _ _ _ H6.out.1.2)
                have Z8 : ∀ ob, (v7.alloc ob).cell? ⟨v5.heap.size, 8, none⟩ = some (.slice na P0.i nc) := fun ob => ((bc7 ob).cell (p := ⟨v5.heap.size, 8, none⟩) H6.out.2.2.1).trans (cell_of_row v6 v5.heap.size 8 _ _ _ H6.out.1.2)
                obtain ⟨ak, _, lh'⟩ := H6.out.2.2.2.2.2.2.2.1.2 HH.out.1
                have lh := lh' HK11.out
                obtain ⟨ho1, ho2⟩ := ak HH.out.2
                have hsame : vout s.v = vout s'.v := by unfold vout; rw [HH.out.2, ho1, if_pos rfl, if_pos rfl, ho2]
                have qw : ∀ ob, (convert 22 9 (.slice wa P0.i wcp)).run Tryz.prog (v7.alloc ob) = .ok (.string XN) (v7.alloc ob) := fun ob => by
                  have h := conv_any wa P0.i wcp (vout s.v) (v7.alloc ob) (H6.out.2.2.2.2.1.below (bc7 ob))
                  rw [hsame, H6.out.2.2.2.2.2.2.2.2.2.2.2.2.1] at h
                  exact h
                have qn : ∀ ob, (convert 22 9 (.slice na P0.i nc)).run Tryz.prog (v7.alloc ob) = .ok (.string XN) (v7.alloc ob) := fun ob => by
                  have h := conv_any na P0.i nc (vout s'.v) (v7.alloc ob) (H6.out.2.2.2.2.2.1.below (bc7 ob))
                  rw [H6.out.2.2.2.2.2.2.2.2.2.2.2.2.1] at h
                  exact h
                have W7 : ∀ ob, (v7.alloc ob).cell? ⟨v1.heap.size, 7, none⟩ = some (.bool true) := fun ob => by rw [← ho1]; exact ((bc7 ob).cell (p := ⟨v1.heap.size, 7, none⟩) H6.out.2.1).trans (cell_of_row v6 v1.heap.size 7 _ _ _ H6.out.1.1)
                have W8 : ∀ ob, (v7.alloc ob).cell? ⟨v1.heap.size, 8, none⟩ = some (.slice wa P0.i wcp) := fun ob => ((bc7 ob).cell (p := ⟨v1.heap.size, 8, none⟩) H6.out.2.1).trans (cell_of_row v6 v1.heap.size 8 _ _ _ H6.out.1.1)
                have HLh : Hid (_) := And.intro lh (fun ob => H6.out.2.2.2.2.2.2.1.below (bc7 ob))
                clear ak lh lh' ho1 ho2 hsame
                clear h7
                clear qD b7 bc7 qc6
                go_wp2_with fail
                go_roundw
                case rel => exact ⟨j + 1, A, Bn, s', by have := HJ2.out.2; omega, by go_num, rfl, rfl, ⟨_, _, HLh.out.2 _⟩, H6.out.2.2.2.2.2.2.2.2.1, H6.out.2.2.2.2.2.2.2.2.2.1, H6.out.2.2.2.2.2.2.2.2.2.2.1, HLh.out.1⟩
                case measure => have := HJ2.out.2; simp [intOf] <;> omega
          · have hNM : s.nm < s'.nm := Classical.not_not.1 hNM
            have hT : Tkh K s s' f := ⟨hK, hD, hSS, hNM⟩
            have n11 : (K == 11) = false := by simp; omega
            have n11' : ¬ K = 11 := by omega
            have eS : ((s'.ss : Int) == (s.ss : Int)) = true := by rw [hSS]; simp
            have eN : (s.nm : Int) < (s'.nm : Int) := by omega
            have eN' : s.nm < s'.nm := hNM
            obtain ⟨t1, t2, t3, t4, t5⟩ := H6.out.2.2.2.2.2.2.2.1.1 hT
            rw [t2, t3] at qD
            have HH : Hid (_) := And.intro t1 (And.intro t4 (And.intro t5 hon))
            clear hT hD hK hSS hNM t2 t3 t4 t5
            cases on'
            · as_aux_lemma =>
                have hz := hoff rfl
                rw [hz] at qc6
                have i1 : ¬ (s'.ss : Int) < (A : Int) := by omega
                have i2 : (((s'.ss : Int) == (A : Int)) = true ∧ ¬ (s'.nm : Int) ≤ (Bn : Int)) ∨ ((s'.ss : Int) == (A : Int)) = false := by
                  rcases t1 with h | ⟨h, h'⟩
                  · right; simp; omega
                  · left; exact ⟨by rw [h]; simp, by omega⟩
                go_wp2_with fail
                rw [Hv6.out]
                refine qD.mono ?_
                rintro e v7 ⟨a7, c7, rfl, h7⟩
                have b7 := h7.out.2
                have bc7 : ∀ ob, Below v6.heap.size v6 (v7.alloc ob) := fun ob => b7.alloc b7.size ob
                have W1 : ∀ ob, (v7.alloc ob).cell? ⟨v1.heap.size, 1, none⟩ = some (.int .u32 (s.ss : Nat)) := fun ob => ((bc7 ob).cell (p := ⟨v1.heap.size, 1, none⟩) H6.out.2.1).trans (cell_of_row v6 v1.heap.size 1 _ _ _ H6.out.1.1)
                have W2 : ∀ ob, (v7.alloc ob).cell? ⟨v1.heap.size, 2, none⟩ = some (.int .u32 (s.nm : Nat)) := fun ob => ((bc7 ob).cell (p := ⟨v1.heap.size, 2, none⟩) H6.out.2.1).trans (cell_of_row v6 v1.heap.size 2 _ _ _ H6.out.1.1)
                have Z1 : ∀ ob, (v7.alloc ob).cell? ⟨v5.heap.size, 1, none⟩ = some (.int .u32 (s'.ss : Nat)) := fun ob => ((bc7 ob).cell (p := ⟨v5.heap.size, 1, none⟩) H6.out.2.2.1).trans (cell_of_row v6 v5.heap.size 1 _ _ _ H6.out.1.2)
                have Z2 : ∀ ob, (v7.alloc ob).cell? ⟨v5.heap.size, 2, none⟩ = some (.int .u32 (s'.nm : Nat)) := fun ob => ((bc7 ob).cell (p := ⟨v5.heap.size, 2, none⟩) H6.out.2.2.1).trans (cell_of_row v6 v5.heap.size 2 _ _ _ H6.out.1.2)
                have Z7 : ∀ ob, (v7.alloc ob).cell? ⟨v5.heap.size, 7, none⟩ = some (.bool false) := fun ob => ((bc7 ob).cell (p := ⟨v5.heap.size, 7, none⟩) H6.out.2.2.1).trans (cell_of_row v6 v5.heap.size 7 _ _ _ H6.out.1.2)
                have Z8 : ∀ ob, (v7.alloc ob).cell? ⟨v5.heap.size, 8, none⟩ = some (.slice na P0.i nc) := fun ob => ((bc7 ob).cell (p := ⟨v5.heap.size, 8, none⟩) H6.out.2.2.1).trans (cell_of_row v6 v5.heap.size 8 _ _ _ H6.out.1.2)
                have V1 : ∀ ob n, ((v7.alloc ob).drewN n).cell? ⟨v5.heap.size, 7, none⟩ = some (.bool false) := fun ob n => Z7 ob
                have V2 : ∀ ob n, ((v7.alloc ob).drewN n).cell? ⟨v5.heap.size, 8, none⟩ = some (.slice na P0.i nc) := fun ob n => Z8 ob
                have HLh : Hid (_) := And.intro HH.out.2.2.1 (fun ob n => H6.out.2.2.2.2.2.2.1.below (below_drewN (bc7 ob) n))
                clear qD b7 bc7 qc6 hONx h7
                rcases i2 with ⟨i3, i4⟩ | i3
                all_goals
                  go_wp2_with fail
                  go_quiet (fail)
                  go_wp2_with fail
                  go_roundw
                  case rel => exact ⟨j + 1, s'.ss, s'.nm, s', by have := HJ2.out.2; omega, by go_num, rfl, rfl, ⟨_, _, HLh.out.2 _ _⟩, H6.out.2.2.2.2.2.2.2.2.1, H6.out.2.2.2.2.2.2.2.2.2.1, H6.out.2.2.2.2.2.2.2.2.2.2.1, HLh.out.1⟩
                  case measure => have := HJ2.out.2; simp [intOf] <;> omega
            · as_aux_lemma =>
                obtain ⟨k4, kl⟩ := hONx rfl
                have e4 : ((s'.st : Int) != 4) = false := by rw [k4]; rfl
                have el : (s'.v.lat != 0) = false := by rw [kl]; rfl
                clear k4 kl hONx
                have i1 : ¬ (s'.ss : Int) < (A : Int) := by omega
                have i2 : (((s'.ss : Int) == (A : Int)) = true ∧ ¬ (s'.nm : Int) ≤ (Bn : Int)) ∨ ((s'.ss : Int) == (A : Int)) = false := by
                  rcases t1 with h | ⟨h, h'⟩
                  · right; simp; omega
                  · left; exact ⟨by rw [h]; simp, by omega⟩
                go_wp2_with fail
                rw [Hv6.out]
                refine qD.mono ?_
                rintro e v7 ⟨a7, c7, rfl, h7⟩
                have b7 := h7.out.2
                have bc7 : ∀ ob, Below v6.heap.size v6 (v7.alloc ob) := fun ob => b7.alloc b7.size ob
                have W1 : ∀ ob, (v7.alloc ob).cell? ⟨v1.heap.size, 1, none⟩ = some (.int .u32 (s.ss : Nat)) := fun ob => ((bc7 ob).cell (p := ⟨v1.heap.size, 1, none⟩) H6.out.2.1).trans (cell_of_row v6 v1.heap.size 1 _ _ _ H6.out.1.1)
                have W2 : ∀ ob, (v7.alloc ob).cell? ⟨v1.heap.size, 2, none⟩ = some (.int .u32 (s.nm : Nat)) := fun ob => ((bc7 ob).cell (p := ⟨v1.heap.size, 2, none⟩) H6.out.2.1).trans (cell_of_row v6 v1.heap.size 2 _ _ _ H6.out.1.1)
                have Z1 : ∀ ob, (v7.alloc ob).cell? ⟨v5.heap.size, 1, none⟩ = some (.int .u32 (s'.ss : Nat)) := fun ob => ((bc7 ob).cell (p := ⟨v5.heap.size, 1, none⟩) H6.out.2.2.1).trans (cell_of_row v6 v5.heap.size 1 _ _ _ H6.out.1.2)
                have Z2 : ∀ ob, (v7.alloc ob).cell? ⟨v5.heap.size, 2, none⟩ = some (.int .u32 (s'.nm : Nat)) := fun ob => ((bc7 ob).cell (p := ⟨v5.heap.size, 2, none⟩) H6.out.2.2.1).trans (cell_of_row v6 v5.heap.size 2 _ _ _ H6.out.1.2)
                have Z7 : ∀ ob, (v7.alloc ob).cell? ⟨v5.heap.size, 7, none⟩ = some (.bool true) := fun ob => ((bc7 ob).cell (p := ⟨v5.heap.size, 7, none⟩) H6.out.2.2.1).trans (cell_of_row v6 v5.heap.size 7 _ _ _ H6.out.1.2)
                have Z8 : ∀ ob, (v7.alloc ob).cell? ⟨v5.heap.size, 8, none⟩ = some (.slice na P0.i nc) := fun ob => ((bc7 ob).cell (p := ⟨v5.heap.size, 8, none⟩) H6.out.2.2.1).trans (cell_of_row v6 v5.heap.size 8 _ _ _ H6.out.1.2)
                have V1 : ∀ ob n, ((v7.alloc ob).drewN n).cell? ⟨v5.heap.size, 7, none⟩ = some (.bool true) := fun ob n => Z7 ob
                have V2 : ∀ ob n, ((v7.alloc ob).drewN n).cell? ⟨v5.heap.size, 8, none⟩ = some (.slice na P0.i nc) := fun ob n => Z8 ob
                obtain ⟨o1, o2⟩ := HH.out.2.1 HH.out.2.2.2
                have hvo : vout s'.v = fun i => f.2 (15 + i) := by unfold vout; rw [HH.out.2.2.2, if_pos rfl, o2]
                have r7 : Row8 v7 a7 (f.1 - 19) c7 (fun i => f.2 (15 + i)) := own_slice8 h7.out.1 (fun i hi => H6.out.2.2.2.1.byte _ (by omega))
                have qu : ∀ ob n, (convert 22 9 (.slice a7 (f.1 - 19) c7)).run Tryz.prog ((v7.alloc ob).drewN n) = .ok (.string XN) ((v7.alloc ob).drewN n) := fun ob n => by
                  have h := conv_any a7 (f.1 - 19) c7 (fun i => f.2 (15 + i)) ((v7.alloc ob).drewN n) (r7.below (below_drewN ((Below.refl _ _).alloc (Nat.le_refl _) _) n))
                  rw [← hvo, o1] at h
                  have hx := H6.out.2.2.2.2.2.2.2.2.2.2.2.2.1
                  rw [show BA (vout s'.v) P0.i = BA (vout s'.v) P0.i from rfl, hx] at h
                  rw [o1]
                  exact h
                have qn : ∀ ob n, (convert 22 9 (.slice na P0.i nc)).run Tryz.prog ((v7.alloc ob).drewN n) = .ok (.string XN) ((v7.alloc ob).drewN n) := fun ob n => by
                  have h := conv_any na P0.i nc (vout s'.v) ((v7.alloc ob).drewN n) (H6.out.2.2.2.2.2.1.below (below_drewN (bc7 ob) n))
                  rw [H6.out.2.2.2.2.2.2.2.2.2.2.2.2.1] at h
                  exact h
                clear o1 o2 hvo r7
                have HLh : Hid (_) := And.intro HH.out.2.2.1 (fun ob n => H6.out.2.2.2.2.2.2.1.below (below_drewN (bc7 ob) n))
                clear qD b7 bc7 qc6 h7
                rcases i2 with ⟨i3, i4⟩ | i3
                all_goals
                  go_wp2_with fail
                  go_quiet (fail)
                  go_wp2_with fail
                  go_roundw
                  case rel => exact ⟨j + 1, s'.ss, s'.nm, s', by have := HJ2.out.2; omega, by go_num, rfl, rfl, ⟨_, _, HLh.out.2 _ _⟩, H6.out.2.2.2.2.2.2.2.2.1, H6.out.2.2.2.2.2.2.2.2.2.1, H6.out.2.2.2.2.2.2.2.2.2.2.1, HLh.out.1⟩
                  case measure => have := HJ2.out.2; simp [intOf] <;> omega
        · have hT : ¬ Tkh K s s' f := fun t => hSS t.2.2.1
          have n11 : (K == 11) = false := by simp; omega
          have n11' : ¬ K = 11 := by omega
          have HK11 : Hid (_) := n11'
          have eS : ((s'.ss : Int) == (s.ss : Int)) = false := by simp; omega
          have HH : Hid (_) := And.intro hT hon
          clear hT hD hK hSS
          cases on'
          · as_aux_lemma =>
              have hz := hoff rfl
              rw [hz] at qc6
              go_wp2_with fail
              rw [Hv6.out]
              refine qD.mono ?_
              rintro e v7 ⟨a7, c7, rfl, h7⟩
              have b7 := h7.out.2
              have bc7 : ∀ ob, Below v6.heap.size v6 (v7.alloc ob) := fun ob => b7.alloc b7.size ob
              have W1 : ∀ ob, (v7.alloc ob).cell? ⟨v1.heap.size, 1, none⟩ = some (.int .u32 (s.ss : Nat)) := fun ob => ((bc7 ob).cell (p := ⟨v1.heap.size, 1, none⟩) H6.out.2.1).trans (cell_of_row v6 v1.heap.size 1 _ _ _ H6.out.1.1)
              have W2 : ∀ ob, (v7.alloc ob).cell? ⟨v1.heap.size, 2, none⟩ = some (.int .u32 (s.nm : Nat)) := fun ob => ((bc7 ob).cell (p := ⟨v1.heap.size, 2, none⟩) H6.out.2.1).trans (cell_of_row v6 v1.heap.size 2 _ _ _ H6.out.1.1)
              have Z1 : ∀ ob, (v7.alloc ob).cell? ⟨v5.heap.size, 1, none⟩ = some (.int .u32 (s'.ss : Nat)) := fun ob => ((bc7 ob).cell (p := ⟨v5.heap.size, 1, none⟩) H6.out.2.2.1).trans (cell_of_row v6 v5.heap.size 1 _ _ _ H6.out.1.2)
              have Z2 : ∀ ob, (v7.alloc ob).cell? ⟨v5.heap.size, 2, none⟩ = some (.int .u32 (s'.nm : Nat)) := fun ob => ((bc7 ob).cell (p := ⟨v5.heap.size, 2, none⟩) H6.out.2.2.1).trans (cell_of_row v6 v5.heap.size 2 _ _ _ H6.out.1.2)
              have Z7 : ∀ ob, (v7.alloc ob).cell? ⟨v5.heap.size, 7, none⟩ = some (.bool false) := fun ob => ((bc7 ob).cell (p := ⟨v5.heap.size, 7, none⟩) H6.out.2.2.1).trans (cell_of_row v6 v5.heap.size 7 _ _ _ H6.out.1.2)
              have Z8 : ∀ ob, (v7.alloc ob).cell? ⟨v5.heap.size, 8, none⟩ = some (.slice na P0.i nc) := fun ob => ((bc7 ob).cell (p := ⟨v5.heap.size, 8, none⟩) H6.out.2.2.1).trans (cell_of_row v6 v5.heap.size 8 _ _ _ H6.out.1.2)
              have HLh : Hid (_) := And.intro ((H6.out.2.2.2.2.2.2.2.1.2 HH.out.1).2.2 HK11.out) (fun ob => H6.out.2.2.2.2.2.2.1.below (bc7 ob))
              clear h7
              clear qD b7 bc7 qc6 hONx
              go_wp2_with fail
              go_roundw
              case rel => exact ⟨j + 1, A, Bn, s', by have := HJ2.out.2; omega, by go_num, rfl, rfl, ⟨_, _, HLh.out.2 _⟩, H6.out.2.2.2.2.2.2.2.2.1, H6.out.2.2.2.2.2.2.2.2.2.1, H6.out.2.2.2.2.2.2.2.2.2.2.1, HLh.out.1⟩
              case measure => have := HJ2.out.2; simp [intOf] <;> omega
          · as_aux_lemma =>
              obtain ⟨k4, kl⟩ := hONx rfl
              have e4 : ((s'.st : Int) != 4) = false := by rw [k4]; rfl
              have el : (s'.v.lat != 0) = false := by rw [kl]; rfl
              clear k4 kl hONx
              go_wp2_with fail
              rw [Hv6.out]
              refine qD.mono ?_
              rintro e v7 ⟨a7, c7, rfl, h7⟩
              have b7 := h7.out.2
              have bc7 : ∀ ob, Below v6.heap.size v6 (v7.alloc ob) := fun ob => b7.alloc b7.size ob
              have W1 : ∀ ob, (v7.alloc ob).cell? ⟨v1.heap.size, 1, none⟩ = some (.int .u32 (s.ss : Nat)) := fun ob => ((bc7 ob).cell (p := ⟨v1.heap.size, 1, none⟩) H6.out.2.1).trans (cell_of_row v6 v1.heap.size 1 _ _ _ H6.out.1.1)
              have W2 : ∀ ob, (v7.alloc ob).cell? ⟨v1.heap.size, 2, none⟩ = some (.int .u32 (s.nm : Nat)) := fun ob => ((bc7 ob).cell (p := ⟨v1.heap.size, 2, none⟩) H6.out.2.1).trans (cell_of_row v6 v1.heap.size 2 _ _ _ H6.out.1.1)
              have Z1 : ∀ ob, (v7.alloc ob).cell? ⟨v5.heap.size, 1, none⟩ = some (.int .u32 (s'.ss : Nat)) := fun ob => ((bc7 ob).cell (p := ⟨v5.heap.size, 1, none⟩) H6.out.2.2.1).trans (cell_of_row v6 v5.heap.size 1 _ _ _ H6.out.1.2)
              have Z2 : ∀ ob, (v7.alloc ob).cell? ⟨v5.heap.size, 2, none⟩ = some (.int .u32 (s'.nm : Nat)) := fun ob => ((bc7 ob).cell (p := ⟨v5.heap.size, 2, none⟩) H6.out.2.2.1).trans (cell_of_row v6 v5.heap.size 2 _ _ _ H6.out.1.2)
              have Z7 : ∀ ob, (v7.alloc ob).cell? ⟨v5.heap.size, 7, none⟩ = some (.bool true) := fun ob => ((bc7 ob).cell (p := ⟨v5.heap.size, 7, none⟩) H6.out.2.2.1).trans (cell_of_row v6 v5.heap.size 7 _ _ _ H6.out.1.2)
              have Z8 : ∀ ob, (v7.alloc ob).cell? ⟨v5.heap.size, 8, none⟩ = some (.slice na P0.i nc) := fun ob => ((bc7 ob).cell (p := ⟨v5.heap.size, 8, none⟩) H6.out.2.2.1).trans (cell_of_row v6 v5.heap.size 8 _ _ _ H6.out.1.2)
              obtain ⟨ak, _, lh'⟩ := H6.out.2.2.2.2.2.2.2.1.2 HH.out.1
              have lh := lh' HK11.out
              obtain ⟨ho1, ho2⟩ := ak HH.out.2
              have hsame : vout s.v = vout s'.v := by unfold vout; rw [HH.out.2, ho1, if_pos rfl, if_pos rfl, ho2]
              have qw : ∀ ob, (convert 22 9 (.slice wa P0.i wcp)).run Tryz.prog (v7.alloc ob) = .ok (.string XN) (v7.alloc ob) := fun ob => by
                have h := conv_any wa P0.i wcp (vout s.v) (v7.alloc ob) (H6.out.2.2.2.2.1.below (bc7 ob))
                rw [hsame, H6.out.2.2.2.2.2.2.2.2.2.2.2.2.1] at h
                exact h
              have qn : ∀ ob, (convert 22 9 (.slice na P0.i nc)).run Tryz.prog (v7.alloc ob) = .ok (.string XN) (v7.alloc ob) := fun ob => by
                have h := conv_any na P0.i nc (vout s'.v) (v7.alloc ob) (H6.out.2.2.2.2.2.1.below (bc7 ob))
                rw [H6.out.2.2.2.2.2.2.2.2.2.2.2.2.1] at h
                exact h
              have W7 : ∀ ob, (v7.alloc ob).cell? ⟨v1.heap.size, 7, none⟩ = some (.bool true) := fun ob => by rw [← ho1]; exact ((bc7 ob).cell (p := ⟨v1.heap.size, 7, none⟩) H6.out.2.1).trans (cell_of_row v6 v1.heap.size 7 _ _ _ H6.out.1.1)
              have W8 : ∀ ob, (v7.alloc ob).cell? ⟨v1.heap.size, 8, none⟩ = some (.slice wa P0.i wcp) := fun ob => ((bc7 ob).cell (p := ⟨v1.heap.size, 8, none⟩) H6.out.2.1).trans (cell_of_row v6 v1.heap.size 8 _ _ _ H6.out.1.1)
              have HLh : Hid (_) := And.intro lh (fun ob => H6.out.2.2.2.2.2.2.1.below (bc7 ob))
              clear ak lh lh' ho1 ho2 hsame
              clear h7
              clear qD b7 bc7 qc6
              go_wp2_with fail
              go_roundw
              case rel => exact ⟨j + 1, A, Bn, s', by have := HJ2.out.2; omega, by go_num, rfl, rfl, ⟨_, _, HLh.out.2 _⟩, H6.out.2.2.2.2.2.2.2.2.1, H6.out.2.2.2.2.2.2.2.2.2.1, H6.out.2.2.2.2.2.2.2.2.2.2.1, HLh.out.1⟩
              case measure => have := HJ2.out.2; simp [intOf] <;> omega
      · have hT : ¬ Tkh K s s' f := fun t => hD t.2.1
        have qD := refDec_no av f.1 cv f.2 v6 H6.out.2.2.2.1 hD
        have eD : (DE f.2 f.1 == 0) = false := by simpa using hD
        have HH : Hid (_) := And.intro hT hon
        clear hT hD
        by_cases h11 : K = 11
        · subst h11
          generalize DE f.2 f.1 = E at *
          obtain rfl : ib = false := HIB.out.trans (decide_eq_false (by omega))
          clear HIB
          all_goals
            cases on'
            · as_aux_lemma =>
                have hz := hoff rfl
                rw [hz] at qc6
                go_wp2_with fail
                rw [Hv6.out]
                refine qD.mono ?_
                rintro e v7 ⟨rfl, b7⟩
                have bc7 : ∀ ob, Below v6.heap.size v6 (v7.alloc ob) := fun ob => b7.alloc b7.size ob
                have W1 : ∀ ob, (v7.alloc ob).cell? ⟨v1.heap.size, 1, none⟩ = some (.int .u32 (s.ss : Nat)) := fun ob => ((bc7 ob).cell (p := ⟨v1.heap.size, 1, none⟩) H6.out.2.1).trans (cell_of_row v6 v1.heap.size 1 _ _ _ H6.out.1.1)
                have W2 : ∀ ob, (v7.alloc ob).cell? ⟨v1.heap.size, 2, none⟩ = some (.int .u32 (s.nm : Nat)) := fun ob => ((bc7 ob).cell (p := ⟨v1.heap.size, 2, none⟩) H6.out.2.1).trans (cell_of_row v6 v1.heap.size 2 _ _ _ H6.out.1.1)
                have Z1 : ∀ ob, (v7.alloc ob).cell? ⟨v5.heap.size, 1, none⟩ = some (.int .u32 (s'.ss : Nat)) := fun ob => ((bc7 ob).cell (p := ⟨v5.heap.size, 1, none⟩) H6.out.2.2.1).trans (cell_of_row v6 v5.heap.size 1 _ _ _ H6.out.1.2)
                have Z2 : ∀ ob, (v7.alloc ob).cell? ⟨v5.heap.size, 2, none⟩ = some (.int .u32 (s'.nm : Nat)) := fun ob => ((bc7 ob).cell (p := ⟨v5.heap.size, 2, none⟩) H6.out.2.2.1).trans (cell_of_row v6 v5.heap.size 2 _ _ _ H6.out.1.2)
                have Z7 : ∀ ob, (v7.alloc ob).cell? ⟨v5.heap.size, 7, none⟩ = some (.bool false) := fun ob => ((bc7 ob).cell (p := ⟨v5.heap.size, 7, none⟩) H6.out.2.2.1).trans (cell_of_row v6 v5.heap.size 7 _ _ _ H6.out.1.2)
                have Z8 : ∀ ob, (v7.alloc ob).cell? ⟨v5.heap.size, 8, none⟩ = some (.slice na P0.i nc) := fun ob => ((bc7 ob).cell (p := ⟨v5.heap.size, 8, none⟩) H6.out.2.2.1).trans (cell_of_row v6 v5.heap.size 8 _ _ _ H6.out.1.2)
                have HLh : Hid (_) := And.intro ((H6.out.2.2.2.2.2.2.2.1.2 HH.out.1).2.1 trivial) (fun ob => H6.out.2.2.2.2.2.2.1.below (bc7 ob))
                clear qD b7 bc7 qc6 hONx
                go_wp2_with fail
                go_roundw
                case rel => exact ⟨j + 1, 0, 0, s', by have := HJ2.out.2; omega, by go_num, rfl, rfl, ⟨_, _, HLh.out.2 _⟩, H6.out.2.2.2.2.2.2.2.2.1, H6.out.2.2.2.2.2.2.2.2.2.1, H6.out.2.2.2.2.2.2.2.2.2.2.1, HLh.out.1⟩
                case measure => have := HJ2.out.2; simp [intOf] <;> omega
            · as_aux_lemma =>
                obtain ⟨k4, kl⟩ := hONx rfl
                have e4 : ((s'.st : Int) != 4) = false := by rw [k4]; rfl
                have el : (s'.v.lat != 0) = false := by rw [kl]; rfl
                clear k4 kl hONx
                go_wp2_with fail
                rw [Hv6.out]
                refine qD.mono ?_
                rintro e v7 ⟨rfl, b7⟩
                have bc7 : ∀ ob, Below v6.heap.size v6 (v7.alloc ob) := fun ob => b7.alloc b7.size ob
                have W1 : ∀ ob, (v7.alloc ob).cell? ⟨v1.heap.size, 1, none⟩ = some (.int .u32 (s.ss : Nat)) := fun ob => ((bc7 ob).cell (p := ⟨v1.heap.size, 1, none⟩) H6.out.2.1).trans (cell_of_row v6 v1.heap.size 1 _ _ _ H6.out.1.1)
                have W2 : ∀ ob, (v7.alloc ob).cell? ⟨v1.heap.size, 2, none⟩ = some (.int .u32 (s.nm : Nat)) := fun ob => ((bc7 ob).cell (p := ⟨v1.heap.size, 2, none⟩) H6.out.2.1).trans (cell_of_row v6 v1.heap.size 2 _ _ _ H6.out.1.1)
                have Z1 : ∀ ob, (v7.alloc ob).cell? ⟨v5.heap.size, 1, none⟩ = some (.int .u32 (s'.ss : Nat)) := fun ob => ((bc7 ob).cell (p := ⟨v5.heap.size, 1, none⟩) H6.out.2.2.1).trans (cell_of_row v6 v5.heap.size 1 _ _ _ H6.out.1.2)
                have Z2 : ∀ ob, (v7.alloc ob).cell? ⟨v5.heap.size, 2, none⟩ = some (.int .u32 (s'.nm : Nat)) := fun ob => ((bc7 ob).cell (p := ⟨v5.heap.size, 2, none⟩) H6.out.2.2.1).trans (cell_of_row v6 v5.heap.size 2 _ _ _ H6.out.1.2)
                have Z7 : ∀ ob, (v7.alloc ob).cell? ⟨v5.heap.size, 7, none⟩ = some (.bool true) := fun ob => ((bc7 ob).cell (p := ⟨v5.heap.size, 7, none⟩) H6.out.2.2.1).trans (cell_of_row v6 v5.heap.size 7 _ _ _ H6.out.1.2)
                have Z8 : ∀ ob, (v7.alloc ob).cell? ⟨v5.heap.size, 8, none⟩ = some (.slice na P0.i nc) := fun ob => ((bc7 ob).cell (p := ⟨v5.heap.size, 8, none⟩) H6.out.2.2.1).trans (cell_of_row v6 v5.heap.size 8 _ _ _ H6.out.1.2)
                obtain ⟨ak, lh', _⟩ := H6.out.2.2.2.2.2.2.2.1.2 HH.out.1
                have lh := lh' trivial
                obtain ⟨ho1, ho2⟩ := ak HH.out.2
                have hsame : vout s.v = vout s'.v := by unfold vout; rw [HH.out.2, ho1, if_pos rfl, if_pos rfl, ho2]
                have qw : ∀ ob, (convert 22 9 (.slice wa P0.i wcp)).run Tryz.prog (v7.alloc ob) = .ok (.string XN) (v7.alloc ob) := fun ob => by
                  have h := conv_any wa P0.i wcp (vout s.v) (v7.alloc ob) (H6.out.2.2.2.2.1.below (bc7 ob))
                  rw [hsame, H6.out.2.2.2.2.2.2.2.2.2.2.2.2.1] at h
                  exact h
                have qn : ∀ ob, (convert 22 9 (.slice na P0.i nc)).run Tryz.prog (v7.alloc ob) = .ok (.string XN) (v7.alloc ob) := fun ob => by
                  have h := conv_any na P0.i nc (vout s'.v) (v7.alloc ob) (H6.out.2.2.2.2.2.1.below (bc7 ob))
                  rw [H6.out.2.2.2.2.2.2.2.2.2.2.2.2.1] at h
                  exact h
                have W7 : ∀ ob, (v7.alloc ob).cell? ⟨v1.heap.size, 7, none⟩ = some (.bool true) := fun ob => by rw [← ho1]; exact ((bc7 ob).cell (p := ⟨v1.heap.size, 7, none⟩) H6.out.2.1).trans (cell_of_row v6 v1.heap.size 7 _ _ _ H6.out.1.1)
                have W8 : ∀ ob, (v7.alloc ob).cell? ⟨v1.heap.size, 8, none⟩ = some (.slice wa P0.i wcp) := fun ob => ((bc7 ob).cell (p := ⟨v1.heap.size, 8, none⟩) H6.out.2.1).trans (cell_of_row v6 v1.heap.size 8 _ _ _ H6.out.1.1)
                have HLh : Hid (_) := And.intro lh (fun ob => H6.out.2.2.2.2.2.2.1.below (bc7 ob))
                clear ak lh lh' ho1 ho2 hsame
                clear qD b7 bc7 qc6
                go_wp2_with fail
                go_roundw
                case rel => exact ⟨j + 1, 0, 0, s', by have := HJ2.out.2; omega, by go_num, rfl, rfl, ⟨_, _, HLh.out.2 _⟩, H6.out.2.2.2.2.2.2.2.2.1, H6.out.2.2.2.2.2.2.2.2.2.1, H6.out.2.2.2.2.2.2.2.2.2.2.1, HLh.out.1⟩
                case measure => have := HJ2.out.2; simp [intOf] <;> omega
        · have n11 : (K == 11) = false := by simpa using h11
          have n11' : ¬ K = 11 := h11
          have HK11 : Hid (_) := n11'
          clear h11
          generalize DE f.2 f.1 = E at *
          clear HIB
          cases ib
          all_goals
            cases on'
            · as_aux_lemma =>
                have hz := hoff rfl
                rw [hz] at qc6
                go_wp2_with fail
                rw [Hv6.out]
                refine qD.mono ?_
                rintro e v7 ⟨rfl, b7⟩
                have bc7 : ∀ ob, Below v6.heap.size v6 (v7.alloc ob) := fun ob => b7.alloc b7.size ob
                have W1 : ∀ ob, (v7.alloc ob).cell? ⟨v1.heap.size, 1, none⟩ = some (.int .u32 (s.ss : Nat)) := fun ob => ((bc7 ob).cell (p := ⟨v1.heap.size, 1, none⟩) H6.out.2.1).trans (cell_of_row v6 v1.heap.size 1 _ _ _ H6.out.1.1)
                have W2 : ∀ ob, (v7.alloc ob).cell? ⟨v1.heap.size, 2, none⟩ = some (.int .u32 (s.nm : Nat)) := fun ob => ((bc7 ob).cell (p := ⟨v1.heap.size, 2, none⟩) H6.out.2.1).trans (cell_of_row v6 v1.heap.size 2 _ _ _ H6.out.1.1)
                have Z1 : ∀ ob, (v7.alloc ob).cell? ⟨v5.heap.size, 1, none⟩ = some (.int .u32 (s'.ss : Nat)) := fun ob => ((bc7 ob).cell (p := ⟨v5.heap.size, 1, none⟩) H6.out.2.2.1).trans (cell_of_row v6 v5.heap.size 1 _ _ _ H6.out.1.2)
                have Z2 : ∀ ob, (v7.alloc ob).cell? ⟨v5.heap.size, 2, none⟩ = some (.int .u32 (s'.nm : Nat)) := fun ob => ((bc7 ob).cell (p := ⟨v5.heap.size, 2, none⟩) H6.out.2.2.1).trans (cell_of_row v6 v5.heap.size 2 _ _ _ H6.out.1.2)
                have Z7 : ∀ ob, (v7.alloc ob).cell? ⟨v5.heap.size, 7, none⟩ = some (.bool false) := fun ob => ((bc7 ob).cell (p := ⟨v5.heap.size, 7, none⟩) H6.out.2.2.1).trans (cell_of_row v6 v5.heap.size 7 _ _ _ H6.out.1.2)
                have Z8 : ∀ ob, (v7.alloc ob).cell? ⟨v5.heap.size, 8, none⟩ = some (.slice na P0.i nc) := fun ob => ((bc7 ob).cell (p := ⟨v5.heap.size, 8, none⟩) H6.out.2.2.1).trans (cell_of_row v6 v5.heap.size 8 _ _ _ H6.out.1.2)
                have HLh : Hid (_) := And.intro ((H6.out.2.2.2.2.2.2.2.1.2 HH.out.1).2.2 HK11.out) (fun ob => H6.out.2.2.2.2.2.2.1.below (bc7 ob))
                clear qD b7 bc7 qc6 hONx
                go_wp2_with fail
                go_roundw
                case rel => exact ⟨j + 1, A, Bn, s', by have := HJ2.out.2; omega, by go_num, rfl, rfl, ⟨_, _, HLh.out.2 _⟩, H6.out.2.2.2.2.2.2.2.2.1, H6.out.2.2.2.2.2.2.2.2.2.1, H6.out.2.2.2.2.2.2.2.2.2.2.1, HLh.out.1⟩
                case measure => have := HJ2.out.2; simp [intOf] <;> omega
            · as_aux_lemma =>
                obtain ⟨k4, kl⟩ := hONx rfl
                have e4 : ((s'.st : Int) != 4) = false := by rw [k4]; rfl
                have el : (s'.v.lat != 0) = false := by rw [kl]; rfl
                clear k4 kl hONx
                go_wp2_with fail
                rw [Hv6.out]
                refine qD.mono ?_
                rintro e v7 ⟨rfl, b7⟩
                have bc7 : ∀ ob, Below v6.heap.size v6 (v7.alloc ob) := fun ob => b7.alloc b7.size ob
                have W1 : ∀ ob, (v7.alloc ob).cell? ⟨v1.heap.size, 1, none⟩ = some (.int .u32 (s.ss : Nat)) := fun ob => ((bc7 ob).cell (p := ⟨v1.heap.size, 1, none⟩) H6.out.2.1).trans (cell_of_row v6 v1.heap.size 1 _ _ _ H6.out.1.1)
                have W2 : ∀ ob, (v7.alloc ob).cell? ⟨v1.heap.size, 2, none⟩ = some (.int .u32 (s.nm : Nat)) := fun ob => ((bc7 ob).cell (p := ⟨v1.heap.size, 2, none⟩) H6.out.2.1).trans (cell_of_row v6 v1.heap.size 2 _ _ _ H6.out.1.1)
                have Z1 : ∀ ob, (v7.alloc ob).cell? ⟨v5.heap.size, 1, none⟩ = some (.int .u32 (s'.ss : Nat)) := fun ob => ((bc7 ob).cell (p := ⟨v5.heap.size, 1, none⟩) H6.out.2.2.1).trans (cell_of_row v6 v5.heap.size 1 _ _ _ H6.out.1.2)
                have Z2 : ∀ ob, (v7.alloc ob).cell? ⟨v5.heap.size, 2, none⟩ = some (.int .u32 (s'.nm : Nat)) := fun ob => ((bc7 ob).cell (p := ⟨v5.heap.size, 2, none⟩) H6.out.2.2.1).trans (cell_of_row v6 v5.heap.size 2 _ _ _ H6.out.1.2)
                have Z7 : ∀ ob, (v7.alloc ob).cell? ⟨v5.heap.size, 7, none⟩ = some (.bool true) := fun ob => ((bc7 ob).cell (p := ⟨v5.heap.size, 7, none⟩) H6.out.2.2.1).trans (cell_of_row v6 v5.heap.size 7 _ _ _ H6.out.1.2)
                have Z8 : ∀ ob, (v7.alloc ob).cell? ⟨v5.heap.size, 8, none⟩ = some (.slice na P0.i nc) := fun ob => ((bc7 ob).cell (p := ⟨v5.heap.size, 8, none⟩) H6.out.2.2.1).trans (cell_of_row v6 v5.heap.size 8 _ _ _ H6.out.1.2)
                obtain ⟨ak, _, lh'⟩ := H6.out.2.2.2.2.2.2.2.1.2 HH.out.1
                have lh := lh' HK11.out
                obtain ⟨ho1, ho2⟩ := ak HH.out.2
                have hsame : vout s.v = vout s'.v := by unfold vout; rw [HH.out.2, ho1, if_pos rfl, if_pos rfl, ho2]
                have qw : ∀ ob, (convert 22 9 (.slice wa P0.i wcp)).run Tryz.prog (v7.alloc ob) = .ok (.string XN) (v7.alloc ob) := fun ob => by
                  have h := conv_any wa P0.i wcp (vout s.v) (v7.alloc ob) (H6.out.2.2.2.2.1.below (bc7 ob))
                  rw [hsame, H6.out.2.2.2.2.2.2.2.2.2.2.2.2.1] at h
                  exact h
                have qn : ∀ ob, (convert 22 9 (.slice na P0.i nc)).run Tryz.prog (v7.alloc ob) = .ok (.string XN) (v7.alloc ob) := fun ob => by
                  have h := conv_any na P0.i nc (vout s'.v) (v7.alloc ob) (H6.out.2.2.2.2.2.1.below (bc7 ob))
                  rw [H6.out.2.2.2.2.2.2.2.2.2.2.2.2.1] at h
                  exact h
                have W7 : ∀ ob, (v7.alloc ob).cell? ⟨v1.heap.size, 7, none⟩ = some (.bool true) := fun ob => by rw [← ho1]; exact ((bc7 ob).cell (p := ⟨v1.heap.size, 7, none⟩) H6.out.2.1).trans (cell_of_row v6 v1.heap.size 7 _ _ _ H6.out.1.1)
                have W8 : ∀ ob, (v7.alloc ob).cell? ⟨v1.heap.size, 8, none⟩ = some (.slice wa P0.i wcp) := fun ob => ((bc7 ob).cell (p := ⟨v1.heap.size, 8, none⟩) H6.out.2.1).trans (cell_of_row v6 v1.heap.size 8 _ _ _ H6.out.1.1)
                have HLh : Hid (_) := And.intro lh (fun ob => H6.out.2.2.2.2.2.2.1.below (bc7 ob))
                clear ak lh lh' ho1 ho2 hsame
                clear qD b7 bc7 qc6
                go_wp2_with fail
                go_roundw
                case rel => exact ⟨j + 1, A, Bn, s', by have := HJ2.out.2; omega, by go_num, rfl, rfl, ⟨_, _, HLh.out.2 _⟩, H6.out.2.2.2.2.2.2.2.2.1, H6.out.2.2.2.2.2.2.2.2.2.1, H6.out.2.2.2.2.2.2.2.2.2.2.1, HLh.out.1⟩
                case measure => have := HJ2.out.2; simp [intOf] <;> omega
    · have hc2 : (¬ (j : Int) < (len0 : Int)) ∨ ((j : Int) < (len0 : Int) ∧ ¬ (j : Int) < 300) := by omega
      have HF : Hid (_) := H2.out.1.trans (hR.out.1.pok.2.2.mono H2.out.1.size)
      clear hlt HC hR hj
      rcases hc2 with hk1 | ⟨hk1, hk2⟩
      all_goals
        go_wp2_with fail
        go_ret
        exact ⟨rfl, HF.out⟩
theorem hostRises_walk (a0 : Option Addr) (len0 cap0 : Nat) (w : World) (w0 : OpRow w a0 len0) :
    Calls Tryz.prog 7 #[.slice a0 len0 cap0] w fun e w' => e = .returned (.bool true) ∧ Below w.heap.size w w' := hrises_go a0 len0 cap0 w w0
end Go.Proofs.YtndjepeolamedaaGreat
