/- Part 48 of the texts on which the proofs of layer 13 rest: contracts of Go functions. -/
import Derived.Test.YtndjepeolamedaaGreatPkA38
import Derived.Test.YtndjepeolamedaaGreatPkA43
import Derived.Test.YtndjepeolamedaaGreatPkA46
namespace Go.Proofs.YtndjepeolamedaaGreat
set_option maxRecDepth 100000
open Go.RowKit
theorem Nh.call {P : Pm} {s s' : Sh} {A B : Nat} {K N fl : Int} {odd : Bool} {len : Nat} {bs : Nat → Nat} {x : Nat} (h : Nh s A B) (o : Osh P s K N fl odd len bs x s') (h11 : K ≠ 11) (h12 : K ≠ 12) : Nh s' A B := by
  obtain ⟨o1, o8, o9, o10, _, _, oN⟩ := o
  by_cases h7 : 1 ≤ K ∧ K ≤ 7
  · obtain ⟨f, _, _, e⟩ := o1 h7
    rw [e]; exact h.recv _ _
  · by_cases h8 : K = 8
    · rw [o8 h8]; exact h.tick _
    · by_cases h9 : K = 9
      · rw [o9 h9]; exact h.write _ _ _
      · by_cases h10 : K = 10
        · rw [o10 h10]; exact h.same rfl rfl rfl
        · rw [oN (by omega)]; exact h
set_option maxRecDepth 100000 in
set_option maxHeartbeats 16000000 in
theorem hnumbers_go (a0 : Option Addr) (len0 cap0 : Nat) (w : World) (hO : OpRow w a0 len0) :
    Calls Tryz.prog 8 #[.slice a0 len0 cap0] w fun e w' => e = .returned (.bool true) ∧ Below w.heap.size w w' := by
  obtain ⟨hlen, h0⟩ := hO
  have HC : Hid (_) := h0
  clear h0
  go_enter Tryz.func8, Tryz.ntmps8
  go_wp2_with fail
  refine (awake14 _).mono ?_
  rintro e w1 ⟨rfl, b1⟩
  have H1 : Hid (_) := b1
  clear b1
  go_wp2_with fail
  refine (small_any w1).mono ?_
  rintro e w2 ⟨rfl, b2'⟩
  have b2 := H1.out.trans (b2'.mono H1.out.size)
  have bX : Below w2.heap.size w2 (w2.alloc (.cells #[.int .u32 (P0.c : Nat), .int .i64 (P0.o : Nat), .int .i64 (P0.i : Nat), .int .i64 (P0.t : Nat), .int .u32 (P0.n : Nat)] 36)) := (Below.refl _ _).alloc (Nat.le_refl _) _
  have eX := heap_alloc_new w2 (.cells #[.int .u32 (P0.c : Nat), .int .i64 (P0.o : Nat), .int .i64 (P0.i : Nat), .int .i64 (P0.t : Nat), .int .u32 (P0.n : Nat)] 36)
  have lX : w2.heap.size < (w2.alloc (.cells #[.int .u32 (P0.c : Nat), .int .i64 (P0.o : Nat), .int .i64 (P0.i : Nat), .int .i64 (P0.t : Nat), .int .u32 (P0.n : Nat)] 36)).heap.size := by rw [World.size_alloc]; omega
  have qN := newH_any P0 P0_ok (w2.alloc (.cells #[.int .u32 (P0.c : Nat), .int .i64 (P0.o : Nat), .int .i64 (P0.i : Nat), .int .i64 (P0.t : Nat), .int .u32 (P0.n : Nat)] 36))
  have H2 : Hid (_) := And.intro (b2.trans (bX.mono b2.size)) (And.intro eX lX)
  clear b2' b2 bX eX lX H1
  go_wp2_with fail
  generalize w2.alloc (.cells #[.int .u32 (P0.c : Nat), .int .i64 (P0.o : Nat), .int .i64 (P0.i : Nat), .int .i64 (P0.t : Nat), .int .u32 (P0.n : Nat)] 36) = X at *
  refine qN.mono ?_
  rintro e w5 ⟨d, rfl, h5⟩
  obtain ⟨b5, U, D5, hU⟩ := h5.out
  have e5 := (b5.block w2.heap.size H2.out.2.2).trans H2.out.2.1
  have q0 := cell_of_row w5 w2.heap.size 0 _ _ _ e5
  have q1 := cell_of_row w5 w2.heap.size 1 _ _ _ e5
  have q2 := cell_of_row w5 w2.heap.size 2 _ _ _ e5
  have q3 := cell_of_row w5 w2.heap.size 3 _ _ _ e5
  have q4 := cell_of_row w5 w2.heap.size 4 _ _ _ e5
  have qR := hrnew_any P0 P0_ok w5
  have H5 : Hid (_) := And.intro b5 (And.intro D5 hU)
  clear qN h5 b5 D5 hU e5
  go_wp2_with fail
  refine qR.mono ?_
  rintro e w6 ⟨e', V, rfl, h6⟩
  obtain ⟨b5, D5, hU⟩ := H5.out
  obtain ⟨b6, R6, hV⟩ := h6.out
  have T : Twh X w6 ⟨d, e', P0, []⟩ hnew := twh_made (Below.refl _ _) b5 D5 hU b6 R6 hV rfl
  have HT : Hid (_) := T
  clear qR h6 q0 q1 q2 q3 q4 b5 D5 hU b6 R6 hV T H5
  go_wp2_with fail
  go_loopw [8, 9, 10, 11, 12, 13, 14, 15] (fun ca cb ci _ _ _ _ _ wr => ∃ (j A Bn : Nat) (s : Sh), j ≤ 300 ∧ ci = .int .i64 ((j : Nat) : Int) ∧ ca = .int .u32 ((A : Nat) : Int) ∧ cb = .int .u32 ((Bn : Nat) : Int) ∧ Hid (Twh X wr ⟨d, e', P0, []⟩ s ∧ Ih P0 s ∧ s.L.length ≤ 2 * j ∧ Nh s A Bn)) (fun _ _ ci _ _ _ _ _ _ => 300 - (intOf ci).toNat)
  case atStart => exact ⟨0, 0, 0, hnew, by omega, rfl, rfl, rfl, HT.out, Ih.new_ _, Nat.le_refl _, Nh.new_⟩
  case round =>
    clear HT
    obtain ⟨j, A, Bn, s, hj, rfl, rfl, rfl, hR⟩ := hrel
    by_cases hlt : j < len0 ∧ j < 300
    · obtain ⟨bo, off, rfl, hbb, hcc⟩ := HC.out (by omega)
      obtain ⟨K, N, fl, od, ya, l, cc, ds, pp, zz, q0, q1, q2, q3, q4, q5, q6, Rd, hl, hN, hz, hlow⟩ := hcc j hlt.1
      have hk1 : (j : Int) < (len0 : Int) := by omega
      have hk2 : (j : Int) < 300 := by omega
      have bw : Below w.heap.size w wr := H2.out.1.trans (hR.out.1.pok.2.2.mono H2.out.1.size)
      have c0 := (bw.cell (p := ⟨bo, off + j * 7, none⟩) hbb).trans q0
      have HJ : Hid (_) := hlt.2
      by_cases hK : K = 12
      · subst hK
        have qA := ksend_any X wr ⟨d, e', P0, []⟩ s hR.out.1 hR.out.2.1 (by have := hR.out.2.2.1; omega)
        clear HC hcc q0 q1 q2 q3 q4 q5 q6 Rd hl hN hz hlow hlt bw hbb
        go_wp2_with fail
        refine qA.mono ?_
        rintro e v1 ⟨ax, cx, rfl, h1⟩
        clear qA c0
        obtain ⟨qB, I1, L1⟩ := h1.out
        unfold Snt at qB
        have H1 : Hid (_) := And.intro I1 L1
        clear h1 I1 L1
        go_wp2_with fail
        refine qB.mono ?_
        rintro e v2 ⟨vy, rfl, h2⟩
        clear qB
        by_cases h5 : s.st = 5
        · have eF : hsendF P0 s = fm0 := by unfold hsendF; rw [if_pos h5]
          have eE : hsendE s = 132 := by unfold hsendE; rw [if_pos h5]
          have eS : hsendS P0 s = s := by unfold hsendS; rw [if_pos h5]
          obtain ⟨T2, r2⟩ := h2.out
          have T2 : Twh X v2 ⟨d, e', P0, []⟩ (hsendS P0 s) := T2
          rw [eS] at T2
          have qD := refDec_short ax (hsendF P0 s).1 cx v2 (by rw [eF]; show 0 < 19; omega)
          have H3 : Hid (Twh X v2 ⟨d, e', P0, []⟩ s) := T2
          have HI : Hid (_) := And.intro hR.out (And.intro h5 (And.intro eF eE))
          have f0 : ((hsendF P0 s).1 : Int) = 0 := by rw [eF]; rfl
          have eE' : hsendE s = 132 := eE
          clear h2 T2 r2 eF eE eS h5 hR H1
          go_wp2_with fail
          refine qD.mono ?_
          rintro e v3 ⟨rfl, b3⟩
          clear qD
          have bA : ∀ ob, Below v3.heap.size v3 (v3.alloc ob) := fun ob => (Below.refl _ _).alloc (Nat.le_refl _) _
          have T3 : ∀ ob, Twh X (v3.alloc ob) ⟨d, e', P0, []⟩ s := fun ob => (H3.out.below b3).below (bA ob)
          have qS : ∀ ob, Calls Tryz.prog 36 #[.pointer (some ⟨d, 0, none⟩)] (v3.alloc ob) fun e w' => ∃ a cap, e = .returned (.agg #[.int .i64 (s.st : Nat), .int .u32 (s.ss : Nat), .int .u32 (s.nm : Nat), .int .u32 (s.sn : Nat), .int .i64 (s.dc : Nat), .int .i64 s.v.lat, .bool (vreq s.v), .bool (von s.v), .slice a P0.i cap]) ∧ Hid (Twh X w' ⟨d, e', P0, []⟩ s) := fun ob => by
            obtain ⟨U4, V4, T4⟩ := T3 ob
            refine (hseeS_any d P0 U4 s _ T4.dv).mono ?_
            rintro e w' ⟨a, cap, rfl, h⟩
            exact ⟨a, cap, rfl, (T3 ob).below h.out.2.2⟩
          have e5 : ((s.st : Int) != 5) = false := by rw [HI.out.2.1]; rfl
          clear b3 bA T3 H3
          go_wp2_with fail
          refine (qS _).mono ?_
          rintro e v4 ⟨na, nc, rfl, h4⟩
          clear qS
          have hfl : ∀ wx, (Instr.field 57 (.agg #[.int .i64 (s.st : Nat), .int .u32 (s.ss : Nat), .int .u32 (s.nm : Nat), .int .u32 (s.sn : Nat), .int .i64 (s.dc : Nat), .int .i64 s.v.lat, .bool (vreq s.v), .bool (von s.v), .slice na P0.i nc]) 0).run Tryz.prog wx = .ok (.int .i64 (s.st : Nat)) wx := fun wx => by kernel_rfl
          go_wp2_with fail
          go_roundw
          case rel => exact ⟨j + 1, A, Bn, s, by have := HJ.out; omega, by go_num, rfl, rfl, h4.out, HI.out.1.2.1, by have := HI.out.1.2.2.1; omega, HI.out.1.2.2.2⟩
          case measure => have := HJ.out; simp [intOf] <;> omega
        · obtain ⟨eE, hcs⟩ := hsend_cases P0_ok hR.out.2.1 h5
          obtain ⟨T2, r2⟩ := h2.out
          have T2 : Twh X v2 ⟨d, e', P0, []⟩ (hsendS P0 s) := T2
          have r2 : Row8 v2 ax (hsendF P0 s).1 cx (hsendF P0 s).2 := r2
          have HI : Hid (_) := And.intro hR.out.2.2.1 (And.intro hR.out.2.2.2 (And.intro (show Ih P0 (hsendS P0 s) from H1.out.1) (show (hsendS P0 s).L.length ≤ s.L.length + 2 from H1.out.2)))
          clear h2 h5 hR H1
          rw [eE]
          clear eE
          rcases hcs with ⟨k, S, hk, ⟨tl, tb, t⟩, c1, c2, c3⟩ | ⟨c1, c2, t, c3, c4, c5⟩ | ⟨c1, c2, ⟨tl, tb, t⟩, c3, c4, c5, c6⟩
          · obtain ⟨cd, hcd, t⟩ : ∃ c, c = 7 ∧ Told (hsendF P0 s) k c S 0 0 tl tb := ⟨7, rfl, t⟩
            have qD := refDec_ok ax (hsendF P0 s).1 cx (hsendF P0 s).2 v2 r2 t.de
            rw [t.k, t.c, t.s, t.n, t.f, t.ln] at qD
            have e7 : ((cd : Nat) : Int) = 7 := by rw [hcd]; rfl
            have n4 : ((k : Int) != 4) = true := by rcases hk with rfl | rfl | rfl <;> rfl
            have n5 : ((k : Int) != 5) = true := by rcases hk with rfl | rfl | rfl <;> rfl
            have hNh : Nh (hsendS P0 s) A Bn := by
              have h := HI.out.2.1
              refine ⟨by rw [c2]; exact h.le, fun h2 => ?_, fun h4 => ?_⟩
              · rw [c2]
                rcases c3 with c3 | c3
                · exact h.lt (by omega)
                · omega
              · rcases hk with rfl | rfl | rfl <;> omega
            have H3 : Hid (_) := And.intro T2 hNh
            clear T2 r2 t hk c1 c2 c3 hNh hcd
            go_wp2_with fail
            refine qD.mono ?_
            rintro e v3 ⟨a3, c3, rfl, h3⟩
            clear qD
            have T3 : Hid (∀ ob, Twh X (v3.alloc ob) ⟨d, e', P0, []⟩ (hsendS P0 s)) := fun ob => (H3.out.1.below h3.out.2).below ((Below.refl _ _).alloc (Nat.le_refl _) _)
            clear h3
            go_wp2_with fail
            go_roundw
            case rel => exact ⟨j + 1, A, Bn, hsendS P0 s, by have := HJ.out; omega, by go_num, rfl, rfl, T3.out _, HI.out.2.2.1, by have := HI.out.1; have := HI.out.2.2.2; omega, H3.out.2⟩
            case measure => have := HJ.out; simp [intOf] <;> omega
          · obtain ⟨kk, cd, hkk, hcd, t⟩ : ∃ k c, k = 4 ∧ c = 7 ∧ Told (hsendF P0 s) k c s.ss (s.sn + 1) (hflags s) P0.o s.ap := ⟨4, 7, rfl, rfl, t⟩
            have qD := refDec_ok ax (hsendF P0 s).1 cx (hsendF P0 s).2 v2 r2 t.de
            rw [t.k, t.c, t.s, t.n, t.f, t.ln] at qD
            obtain ⟨nn, hnn⟩ : ∃ n, n = s.sn + 1 := ⟨_, rfl⟩
            rw [← hnn] at qD
            have hNh : Nh (hsendS P0 s) s.ss nn := ⟨by rw [c4]; exact Nat.le_refl _, fun h2 => by omega, fun _ _ => by rw [c5, hnn]; exact Nat.le_refl _⟩
            have i1 : ¬ (s.ss : Int) < (A : Int) := by have := HI.out.2.1.le; omega
            have i1' : ¬ s.ss < A := by have := HI.out.2.1.le; omega
            have i2 : (((s.ss : Int) == (A : Int)) = true ∧ ¬ (nn : Int) ≤ (Bn : Int) ∧ ¬ nn ≤ Bn) ∨ ((s.ss : Int) == (A : Int)) = false := by
              by_cases hA : A = s.ss
              · have := HI.out.2.1.rn c1 hA
                exact .inl ⟨by rw [hA]; simp, by omega, by omega⟩
              · right; simp; omega
            have i3 : ¬ (P0.n : Int) < (nn : Int) := by omega
            have i3' : ¬ P0.n < nn := by omega
            have i4 : ((nn : Int) == (P0.n : Int)) = false := by simp; omega
            have e7 : ((cd : Nat) : Int) = 7 := by rw [hcd]; rfl
            have k5 : ((kk : Int) == 5) = false := by rw [hkk]; rfl
            have k5' : ((kk : Int) != 5) = true := by rw [hkk]; rfl
            have k4' : ((kk : Int) != 4) = false := by rw [hkk]; rfl
            obtain ⟨st', hst'⟩ : ∃ x : Nat, (hsendS P0 s).st = x := ⟨_, rfl⟩
            skip
            skip
            have H3 : Hid (_) := And.intro T2 hNh
            have HV5 : Hid (_) := trivial
            clear T2 r2 t c1 c2 c3 c4 c5  hNh hnn hkk hcd
            go_wp2_with fail
            refine qD.mono ?_
            rintro e v3 ⟨a3, c3, rfl, h3⟩
            clear qD
            have T3 : Hid (∀ ob, Twh X (v3.alloc ob) ⟨d, e', P0, []⟩ (hsendS P0 s)) := fun ob => (H3.out.1.below h3.out.2).below ((Below.refl _ _).alloc (Nat.le_refl _) _)
            have Zp : ∀ ob, (v3.alloc ob).cell? ⟨w2.heap.size, 4, none⟩ = some (.int .u32 (P0.n : Nat)) := fun ob => ((T3.out ob).pok.2.2.cell (p := ⟨w2.heap.size, 4, none⟩) H2.out.2.2).trans (cell_of_row X w2.heap.size 4 _ _ _ H2.out.2.1)
            have qS : ∀ (ob : Obj) m, Calls Tryz.prog 36 #[.pointer (some ⟨d, 0, none⟩)] ((v3.alloc ob).drewN m) fun e w' => ∃ a cap, e = .returned (.agg #[.int .i64 (st' : Nat), .int .u32 ((hsendS P0 s).ss : Nat), .int .u32 ((hsendS P0 s).nm : Nat), .int .u32 ((hsendS P0 s).sn : Nat), .int .i64 ((hsendS P0 s).dc : Nat), .int .i64 (hsendS P0 s).v.lat, .bool (vreq (hsendS P0 s).v), .bool (von (hsendS P0 s).v), .slice a P0.i cap]) ∧ Hid (Twh X w' ⟨d, e', P0, []⟩ (hsendS P0 s) ∧ w'.heap[v3.heap.size]? = some ob ∧ v3.heap.size < w'.heap.size) := fun ob m => by
              rw [← hst']
              have bm : Below (v3.alloc ob).heap.size (v3.alloc ob) ((v3.alloc ob).drewN m) := below_drewN (Below.refl _ _) m
              have T4 := (T3.out ob).below bm
              obtain ⟨U5, V5, T5⟩ := id T4
              refine (hseeS_any d P0 U5 _ _ T5.dv).mono ?_
              rintro e w' ⟨a, cap, rfl, h⟩
              have lt : v3.heap.size < (v3.alloc ob).heap.size := by rw [World.size_alloc]; omega
              exact ⟨a, cap, rfl, T4.below h.out.2.2, (h.out.2.2.block _ (Nat.lt_of_lt_of_le lt bm.size)).trans ((bm.block _ lt).trans (heap_alloc_new v3 _)), Nat.lt_of_lt_of_le (Nat.lt_of_lt_of_le lt bm.size) h.out.2.2.size⟩
            clear h3 hst'
            skip
            rcases i2 with ⟨i5, i6, i7⟩ | i5
            all_goals
              go_wp2_with fail
              go_quiet (fail)
              go_wp2_with fail
              refine (qS _ _).mono ?_
              rintro e v5 ⟨na, nc, rfl, h5⟩
              have Z0 : ∀ ob, (v5.alloc ob).cell? ⟨v3.heap.size, 0, none⟩ = some (.int .i64 (kk : Nat)) := fun ob => (((Below.refl v5.heap.size v5).alloc (Nat.le_refl _) ob).cell (p := ⟨v3.heap.size, 0, none⟩) h5.out.2.2).trans (cell_of_row v5 v3.heap.size 0 _ _ _ h5.out.2.1)
              have H5 : Hid (Twh X v5 ⟨d, e', P0, []⟩ (hsendS P0 s)) := h5.out.1
              clear qS h5 Zp T3
              go_wp2_with fail
              go_roundw
              case rel => exact ⟨j + 1, s.ss, nn, (hsendS P0 s), by have := HJ.out; omega, by go_num, rfl, rfl, H5.out.below ((Below.refl _ _).alloc (Nat.le_refl _) _), HI.out.2.2.1, by have := HI.out.1; have := HI.out.2.2.2; omega, H3.out.2⟩
              case measure => have := HJ.out; simp [intOf] <;> omega
          · obtain ⟨kk, cd, hkk, hcd, t⟩ : ∃ k c, k = 5 ∧ c = 7 ∧ Told (hsendF P0 s) k c s.ss (s.sn + 1) 0 tl tb := ⟨5, 7, rfl, rfl, t⟩
            have qD := refDec_ok ax (hsendF P0 s).1 cx (hsendF P0 s).2 v2 r2 t.de
            rw [t.k, t.c, t.s, t.n, t.f, t.ln] at qD
            obtain ⟨nn, hnn⟩ : ∃ n, n = s.sn + 1 := ⟨_, rfl⟩
            rw [← hnn] at qD
            have hNh : Nh (hsendS P0 s) s.ss nn := ⟨by rw [c4]; exact Nat.le_refl _, fun h2 => by omega, fun h4 => by omega⟩
            have i1 : ¬ (s.ss : Int) < (A : Int) := by have := HI.out.2.1.le; omega
            have i1' : ¬ s.ss < A := by have := HI.out.2.1.le; omega
            have i2 : (((s.ss : Int) == (A : Int)) = true ∧ ¬ (nn : Int) ≤ (Bn : Int) ∧ ¬ nn ≤ Bn) ∨ ((s.ss : Int) == (A : Int)) = false := by
              by_cases hA : A = s.ss
              · have := HI.out.2.1.rn c1 hA
                exact .inl ⟨by rw [hA]; simp, by omega, by omega⟩
              · right; simp; omega
            have i3 : ¬ (P0.n : Int) < (nn : Int) := by omega
            have i3' : ¬ P0.n < nn := by omega
            have i4 : ((nn : Int) == (P0.n : Int)) = true := by simp; omega
            have e7 : ((cd : Nat) : Int) = 7 := by rw [hcd]; rfl
            have k5 : ((kk : Int) == 5) = true := by rw [hkk]; rfl
            have k5' : ((kk : Int) != 5) = false := by rw [hkk]; rfl
            have k4' : ((kk : Int) != 4) = true := by rw [hkk]; rfl
            obtain ⟨st', hst'⟩ : ∃ x : Nat, (hsendS P0 s).st = x := ⟨_, rfl⟩
            have st5 : ((st' : Int) != 5) = false := by rw [← hst', c3]; rfl
            have lt0 : ((hsendS P0 s).v.lat == 0) = false := by simpa using c6
            have H3 : Hid (_) := And.intro T2 hNh
            have HV5 : Hid (_) := c5
            clear T2 r2 t c1 c2 c3 c4 c5 c6 hNh hnn hkk hcd
            go_wp2_with fail
            refine qD.mono ?_
            rintro e v3 ⟨a3, c3, rfl, h3⟩
            clear qD
            have T3 : Hid (∀ ob, Twh X (v3.alloc ob) ⟨d, e', P0, []⟩ (hsendS P0 s)) := fun ob => (H3.out.1.below h3.out.2).below ((Below.refl _ _).alloc (Nat.le_refl _) _)
            have Zp : ∀ ob, (v3.alloc ob).cell? ⟨w2.heap.size, 4, none⟩ = some (.int .u32 (P0.n : Nat)) := fun ob => ((T3.out ob).pok.2.2.cell (p := ⟨w2.heap.size, 4, none⟩) H2.out.2.2).trans (cell_of_row X w2.heap.size 4 _ _ _ H2.out.2.1)
            have qS : ∀ (ob : Obj) m, Calls Tryz.prog 36 #[.pointer (some ⟨d, 0, none⟩)] ((v3.alloc ob).drewN m) fun e w' => ∃ a cap, e = .returned (.agg #[.int .i64 (st' : Nat), .int .u32 ((hsendS P0 s).ss : Nat), .int .u32 ((hsendS P0 s).nm : Nat), .int .u32 ((hsendS P0 s).sn : Nat), .int .i64 ((hsendS P0 s).dc : Nat), .int .i64 (hsendS P0 s).v.lat, .bool (vreq (hsendS P0 s).v), .bool (von (hsendS P0 s).v), .slice a P0.i cap]) ∧ Hid (Twh X w' ⟨d, e', P0, []⟩ (hsendS P0 s) ∧ w'.heap[v3.heap.size]? = some ob ∧ v3.heap.size < w'.heap.size) := fun ob m => by
              rw [← hst']
              have bm : Below (v3.alloc ob).heap.size (v3.alloc ob) ((v3.alloc ob).drewN m) := below_drewN (Below.refl _ _) m
              have T4 := (T3.out ob).below bm
              obtain ⟨U5, V5, T5⟩ := id T4
              refine (hseeS_any d P0 U5 _ _ T5.dv).mono ?_
              rintro e w' ⟨a, cap, rfl, h⟩
              have lt : v3.heap.size < (v3.alloc ob).heap.size := by rw [World.size_alloc]; omega
              exact ⟨a, cap, rfl, T4.below h.out.2.2, (h.out.2.2.block _ (Nat.lt_of_lt_of_le lt bm.size)).trans ((bm.block _ lt).trans (heap_alloc_new v3 _)), Nat.lt_of_lt_of_le (Nat.lt_of_lt_of_le lt bm.size) h.out.2.2.size⟩
            clear h3 hst'
            rw [HV5.out] at qS
            rcases i2 with ⟨i5, i6, i7⟩ | i5
            all_goals
              go_wp2_with fail
              go_quiet (fail)
              go_wp2_with fail
              refine (qS _ _).mono ?_
              rintro e v5 ⟨na, nc, rfl, h5⟩
              have Z0 : ∀ ob, (v5.alloc ob).cell? ⟨v3.heap.size, 0, none⟩ = some (.int .i64 (kk : Nat)) := fun ob => (((Below.refl v5.heap.size v5).alloc (Nat.le_refl _) ob).cell (p := ⟨v3.heap.size, 0, none⟩) h5.out.2.2).trans (cell_of_row v5 v3.heap.size 0 _ _ _ h5.out.2.1)
              have H5 : Hid (Twh X v5 ⟨d, e', P0, []⟩ (hsendS P0 s)) := h5.out.1
              clear qS h5 Zp T3
              go_wp2_with fail
              go_roundw
              case rel => exact ⟨j + 1, s.ss, nn, (hsendS P0 s), by have := HJ.out; omega, by go_num, rfl, rfl, H5.out.below ((Below.refl _ _).alloc (Nat.le_refl _) _), HI.out.2.2.1, by have := HI.out.1; have := HI.out.2.2.2; omega, H3.out.2⟩
              case measure => have := HJ.out; simp [intOf] <;> omega
      · have n12 : (K != 12) = true := by simpa using hK
        have n12' : ¬ K = 12 := hK
        have qS := kstep_op X wr ⟨d, e', P0, []⟩ s K N fl od ya l cc ds pp zz hR.out.1 (Rd.below bw) (fun y hy h0 => Nat.lt_of_lt_of_le (hlow y hy h0) H2.out.1.size) hz hl hN hR.out.2.1 (by have := hR.out.2.2.1; omega)
        have c1 := (bw.cell (p := ⟨bo, off + j * 7 + 1, none⟩) hbb).trans q1
        have c2 := (bw.cell (p := ⟨bo, off + j * 7 + 2, none⟩) hbb).trans q2
        have c3 := (bw.cell (p := ⟨bo, off + j * 7 + 3, none⟩) hbb).trans q3
        have c4 := (bw.cell (p := ⟨bo, off + j * 7 + 4, none⟩) hbb).trans q4
        have c5 := (bw.cell (p := ⟨bo, off + j * 7 + 5, none⟩) hbb).trans q5
        have c6 := (bw.cell (p := ⟨bo, off + j * 7 + 6, none⟩) hbb).trans q6
        have HI : Hid (_) := And.intro hR.out.2.2.1 (And.intro hR.out.2.2.2 hK)
        clear HC hcc q0 q1 q2 q3 q4 q5 q6 Rd hl hN hz hlow hlt bw hbb hR hK
        by_cases h11 : K = 11
        · subst h11
          go_wp2_with fail
          refine qS.mono ?_
          rintro e v1 ⟨rfl, h1⟩
          clear qS c0 c1 c2 c3 c4 c5 c6
          go_wp2_with fail
          go_roundw
          case rel =>
            obtain ⟨s', T1, I1, L1, O1⟩ := h1.out
            exact ⟨j + 1, 0, 0, s', by have := HJ.out; omega, by go_num, rfl, rfl, T1, I1, by have := HI.out.1; omega, by rw [O1.2.2.2.2.1 rfl]; exact Nh.life s⟩
          case measure => have := HJ.out; simp [intOf] <;> omega
        · have n11 : (K == 11) = false := by simpa using h11
          have n11' : ¬ K = 11 := h11
          have HK : Hid (_) := h11
          clear h11
          go_wp2_with fail
          refine qS.mono ?_
          rintro e v1 ⟨rfl, h1⟩
          clear qS c0 c1 c2 c3 c4 c5 c6
          go_wp2_with fail
          go_roundw
          case rel =>
            obtain ⟨s', T1, I1, L1, O1⟩ := h1.out
            exact ⟨j + 1, A, Bn, s', by have := HJ.out; omega, by go_num, rfl, rfl, T1, I1, by have := HI.out.1; omega, Nh.call HI.out.2.1 O1 HK.out HI.out.2.2⟩
          case measure => have := HJ.out; simp [intOf] <;> omega
    · have hc2 : (¬ (j : Int) < (len0 : Int)) ∨ ((j : Int) < (len0 : Int) ∧ ¬ (j : Int) < 300) := by omega
      have HF : Hid (_) := H2.out.1.trans (hR.out.1.pok.2.2.mono H2.out.1.size)
      clear hlt HC hR hj
      rcases hc2 with hk1 | ⟨hk1, hk2⟩
      all_goals
        go_wp2_with fail
        go_ret
        exact ⟨rfl, HF.out⟩
theorem hostNumbers_walk (a0 : Option Addr) (len0 cap0 : Nat) (w : World) (w0 : OpRow w a0 len0) :
    Calls Tryz.prog 8 #[.slice a0 len0 cap0] w fun e w' => e = .returned (.bool true) ∧ Below w.heap.size w w' := hnumbers_go a0 len0 cap0 w w0
end Go.Proofs.YtndjepeolamedaaGreat
