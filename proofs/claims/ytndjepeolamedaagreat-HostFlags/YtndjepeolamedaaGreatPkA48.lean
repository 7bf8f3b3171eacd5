/- Part 49 of the texts on which the proofs of layer 13 rest: contracts of Go functions. -/
import Derived.Test.YtndjepeolamedaaGreatPkA38
import Derived.Test.YtndjepeolamedaaGreatPkA43
import Derived.Test.YtndjepeolamedaaGreatPkA46
namespace Go.Proofs.YtndjepeolamedaaGreat
set_option maxRecDepth 100000
open Go.RowKit
def P1 : Pm := ⟨7, 2, 1, 10, 200⟩
theorem P1_ok : Pok P1 := ⟨by unfold okP P1; decide, by decide, by decide⟩
theorem flag_bits (on rq lt hd : Bool) (ff : Nat) (h : ff = (if on = true then 0 else 1) + (if rq = true then 2 else 0) + (if lt = true then 4 else 0) + (if hd = true then 8 else 0)) : (bits BinOp.and IntKind.i64 (ff : Int) 1 != 0) = !on ∧ (bits BinOp.and IntKind.i64 (ff : Int) 2 != 0) = rq ∧ (bits BinOp.and IntKind.i64 (ff : Int) 4 != 0) = lt ∧ (bits BinOp.and IntKind.i64 (ff : Int) 8 != 0) = hd := by
  subst h
  cases on <;> cases rq <;> cases lt <;> cases hd <;> exact ⟨by kernel_rfl, by kernel_rfl, by kernel_rfl, by kernel_rfl⟩
theorem BA_zeros2 : BA (fun _ => 0) 2 = ⟨#[0, 0]⟩ := by decide
theorem HV.apbH {w : World} {d : Nat} {P : Pm} {U : List Nat} {s : Sh} (h : HV w d P U s) : ∀ i, i < P.o → s.ap i < 256 := by
  obtain ⟨B, x⟩ := h
  exact x.apb
theorem hrecv_ap (P : Pm) (s : Sh) (len : Nat) (bs : Nat → Nat) : (hrecvS P s len bs).ap = s.ap ∧ (hrecvS P s len bs).hd = s.hd := by
  rcases hrecv_cases P s len bs with ⟨_, e⟩ | ⟨_, _, ⟨_, _, _, e⟩ | ⟨_, _, _, e⟩ | ⟨_, _, _, e⟩ | ⟨_, _, _, _, _, _, e⟩ | ⟨_, _, _, _, _, e⟩⟩
  · rw [e]; exact ⟨rfl, rfl⟩
  · rw [e]; exact ⟨rfl, rfl⟩
  · rw [e]; exact ⟨rfl, rfl⟩
  · rw [e]; exact ⟨rfl, rfl⟩
  · rw [e]; exact ⟨rfl, rfl⟩
  · rw [e]
    obtain ⟨_, _, _, _, _, _, f7, f8, _⟩ := hlatch_flds (hon { s with nm := w4v bs 9 }) 80
    exact ⟨f7, f8⟩
theorem hnext_ap (P : Pm) (s : Sh) : (hnext P s).1.ap = s.ap ∧ (hnext P s).1.hd = s.hd := by
  unfold hnext
  split
  · exact ⟨rfl, rfl⟩
  · split
    · exact ⟨rfl, rfl⟩
    · split
      · exact ⟨rfl, rfl⟩
      · split
        · obtain ⟨_, _, _, _, _, _, f7, f8, _⟩ := hlatch_flds { s with sn := s.sn + 1 } 80
          exact ⟨f7, f8⟩
        · exact ⟨rfl, rfl⟩
theorem hmiss_hd (s : Sh) : (hmiss s).hd = s.hd := by
  unfold hmiss
  split
  · rfl
  · split
    · rfl
    · show (hgive _).hd = _
      unfold hgive
      split
      · exact (hlatch_flds _ _).2.2.2.2.2.2.2.1
      · rfl
theorem hsend_ap (P : Pm) (s : Sh) : (hsendS P s).ap = s.ap ∧ (hsendS P s).hd = s.hd := by
  unfold hsendS
  split
  · exact ⟨rfl, rfl⟩
  · exact ⟨(hnext_ap P _).1.trans (hmiss_ap s), (hnext_ap P _).2.trans (hmiss_hd s)⟩
theorem call_ap {P : Pm} {s s' : Sh} {K N fl : Int} {odd : Bool} {len : Nat} {bs : Nat → Nat} {x : Nat} (o : Osh P s K N fl odd len bs x s') (h9 : K ≠ 9) (h11 : K ≠ 11) (h12 : K ≠ 12) : s'.ap = s.ap ∧ s'.hd = s.hd := by
  obtain ⟨o1, o8, o9, o10, _, _, oN⟩ := o
  by_cases h7 : 1 ≤ K ∧ K ≤ 7
  · obtain ⟨f, _, _, e⟩ := o1 h7
    rw [e]; exact hrecv_ap _ _ _ _
  · by_cases h8 : K = 8
    · rw [o8 h8]
      unfold htickS
      split
      · exact ⟨rfl, rfl⟩
      · split
        · obtain ⟨_, _, _, _, _, _, f7, f8, _⟩ := hlatch_flds { s with dc := tk P.t s.dc N.toNat } 100
          exact ⟨f7, f8⟩
        · exact ⟨rfl, rfl⟩
    · by_cases h10 : K = 10
      · rw [o10 h10]; exact ⟨rfl, rfl⟩
      · rw [oN (by omega)]; exact ⟨rfl, rfl⟩
set_option maxRecDepth 100000 in
set_option maxHeartbeats 16000000 in
theorem hflags_go (a0 : Option Addr) (len0 cap0 : Nat) (w : World) (hO : OpRow w a0 len0) :
    Calls Tryz.prog 12 #[.slice a0 len0 cap0] w fun e w' => e = .returned (.bool true) ∧ Below w.heap.size w w' := by
  obtain ⟨hlen, h0⟩ := hO
  have HC : Hid (_) := h0
  clear h0
  go_enter Tryz.func12, Tryz.ntmps12
  go_wp2_with fail
  refine (awake14 _).mono ?_
  rintro e w1 ⟨rfl, b1⟩
  have H1 : Hid (_) := b1
  clear b1
  go_wp2_with fail
  refine (small_any w1).mono ?_
  rintro e w2 ⟨rfl, b2'⟩
  have b2 := H1.out.trans (b2'.mono H1.out.size)
  have bX : Below w2.heap.size w2 (w2.alloc (.cells #[.int .u32 (P0.c : Nat), .int .i64 (P0.o : Nat), .int .i64 (P0.i : Nat), .int .i64 (P0.t : Nat), .int .u32 200] 36)) := (Below.refl _ _).alloc (Nat.le_refl _) _
  have eX := heap_alloc_new w2 (.cells #[.int .u32 (P0.c : Nat), .int .i64 (P0.o : Nat), .int .i64 (P0.i : Nat), .int .i64 (P0.t : Nat), .int .u32 200] 36)
  have lX : w2.heap.size < (w2.alloc (.cells #[.int .u32 (P0.c : Nat), .int .i64 (P0.o : Nat), .int .i64 (P0.i : Nat), .int .i64 (P0.t : Nat), .int .u32 200] 36)).heap.size := by rw [World.size_alloc]; omega
  have qN : Calls Tryz.prog 32 #[.agg #[.int .u32 (P0.c : Nat), .int .i64 (P0.o : Nat), .int .i64 (P0.i : Nat), .int .i64 (P0.t : Nat), .int .u32 200]] (w2.alloc (.cells #[.int .u32 (P0.c : Nat), .int .i64 (P0.o : Nat), .int .i64 (P0.i : Nat), .int .i64 (P0.t : Nat), .int .u32 200] 36)) fun e w' => ∃ d, e = .returned (.tuple #[.pointer (some ⟨d, 0, none⟩), .int .i64 0]) ∧ Hid (Below (w2.alloc (.cells #[.int .u32 (P0.c : Nat), .int .i64 (P0.o : Nat), .int .i64 (P0.i : Nat), .int .i64 (P0.t : Nat), .int .u32 200] 36)).heap.size (w2.alloc (.cells #[.int .u32 (P0.c : Nat), .int .i64 (P0.o : Nat), .int .i64 (P0.i : Nat), .int .i64 (P0.t : Nat), .int .u32 200] 36)) w' ∧ ∃ U, HV w' d P1 U hnew ∧ ∀ k, k ∈ U → (w2.alloc (.cells #[.int .u32 (P0.c : Nat), .int .i64 (P0.o : Nat), .int .i64 (P0.i : Nat), .int .i64 (P0.t : Nat), .int .u32 200] 36)).heap.size ≤ k) := newH_any P1 P1_ok (w2.alloc (.cells #[.int .u32 (P0.c : Nat), .int .i64 (P0.o : Nat), .int .i64 (P0.i : Nat), .int .i64 (P0.t : Nat), .int .u32 200] 36))
  have H2 : Hid (_) := And.intro (b2.trans (bX.mono b2.size)) (And.intro eX lX)
  clear b2' b2 bX eX lX H1
  go_wp2_with fail
  generalize w2.alloc (.cells #[.int .u32 (P0.c : Nat), .int .i64 (P0.o : Nat), .int .i64 (P0.i : Nat), .int .i64 (P0.t : Nat), .int .u32 200] 36) = X at *
  refine qN.mono ?_
  rintro e w5 ⟨d, rfl, h5⟩
  obtain ⟨b5, U, D5, hU⟩ := h5.out
  have e5 := (b5.block w2.heap.size H2.out.2.2).trans H2.out.2.1
  have q0 := cell_of_row w5 w2.heap.size 0 _ _ _ e5
  have q1 := cell_of_row w5 w2.heap.size 1 _ _ _ e5
  have q2 := cell_of_row w5 w2.heap.size 2 _ _ _ e5
  have q3 := cell_of_row w5 w2.heap.size 3 _ _ _ e5
  have q4 := cell_of_row w5 w2.heap.size 4 _ _ _ e5
  have qR : Calls Tryz.prog 33 #[.agg #[.int .u32 (P0.c : Nat), .int .i64 (P0.o : Nat), .int .i64 (P0.i : Nat), .int .i64 (P0.t : Nat), .int .u32 200]] w5 fun e w' => ∃ d U, e = .returned (.tuple #[.pointer (some ⟨d, 0, none⟩), .int .i64 0]) ∧ Hid (Below w5.heap.size w5 w' ∧ RVh w' d P1 U hnew ∧ ∀ k, k ∈ U → w5.heap.size ≤ k) := hrnew_any P1 P1_ok w5
  have H5 : Hid (_) := And.intro b5 (And.intro D5 hU)
  clear qN h5 b5 D5 hU e5
  go_wp2_with fail
  refine qR.mono ?_
  rintro e w6 ⟨e', V, rfl, h6⟩
  obtain ⟨b5, D5, hU⟩ := H5.out
  obtain ⟨b6, R6, hV⟩ := h6.out
  have T : Twh X w6 ⟨d, e', P1, []⟩ hnew := twh_made (Below.refl _ _) b5 D5 hU b6 R6 hV rfl
  have HT : Hid (_) := T
  clear qR h6 q0 q1 q2 q3 q4 b5 D5 hU b6 R6 hV T H5
  go_wp2_with fail
  go_loopw [8, 9, 10, 11, 12, 13, 14, 15, 16] (fun cv ch ci _ _ _ _ _ _ wr => ∃ (j : Nat) (s : Sh) (VX : ByteArray) (hb : Bool), j ≤ 300 ∧ ci = .int .i64 ((j : Nat) : Int) ∧ cv = .string VX ∧ ch = .bool hb ∧ Hid (Twh X wr ⟨d, e', P1, []⟩ s ∧ Ih P1 s ∧ s.L.length ≤ 2 * j ∧ VX = BA s.ap 2 ∧ hb = s.hd)) (fun _ _ ci _ _ _ _ _ _ _ => 300 - (intOf ci).toNat)
  case atStart => exact ⟨0, hnew, ⟨#[0, 0]⟩, false, by omega, rfl, rfl, rfl, HT.out, Ih.new_ _, Nat.le_refl _, BA_zeros2.symm, rfl⟩
  case round =>
    clear HT
    obtain ⟨j, s, VX, hb, hj, rfl, rfl, rfl, hR⟩ := hrel
    by_cases hlt : j < len0 ∧ j < 300
    · obtain ⟨bo, off, rfl, hbb, hcc⟩ := HC.out (by omega)
      obtain ⟨K, N, fl, od, ya, l, cc, ds, pp, zz, q0, q1, q2, q3, q4, q5, q6, Rd, hl, hN, hz, hlow⟩ := hcc j hlt.1
      have hk1 : (j : Int) < (len0 : Int) := by omega
      have hk2 : (j : Int) < 300 := by omega
      have bw : Below w.heap.size w wr := H2.out.1.trans (hR.out.1.pok.2.2.mono H2.out.1.size)
      have c0 := (bw.cell (p := ⟨bo, off + j * 7, none⟩) hbb).trans q0
      have c1 := (bw.cell (p := ⟨bo, off + j * 7 + 1, none⟩) hbb).trans q1
      have c2 := (bw.cell (p := ⟨bo, off + j * 7 + 2, none⟩) hbb).trans q2
      have c3 := (bw.cell (p := ⟨bo, off + j * 7 + 3, none⟩) hbb).trans q3
      have c4 := (bw.cell (p := ⟨bo, off + j * 7 + 4, none⟩) hbb).trans q4
      have c5 := (bw.cell (p := ⟨bo, off + j * 7 + 5, none⟩) hbb).trans q5
      have c6 := (bw.cell (p := ⟨bo, off + j * 7 + 6, none⟩) hbb).trans q6
      have HJ : Hid (_) := hlt.2
      obtain ⟨U, V, T⟩ := hR.out.1
      have bO : Below wr.heap.size wr (wr.alloc (.cells #[.int .i64 K, .int .i64 N, .int .i64 fl, .bool od, .slice ya l cc, .int .i64 pp, .int .u32 (zz : Nat)] 80)) := (Below.refl _ _).alloc (Nat.le_refl _) _
      have qS := hseeS_any d P1 U s (wr.alloc (.cells #[.int .i64 K, .int .i64 N, .int .i64 fl, .bool od, .slice ya l cc, .int .i64 pp, .int .u32 (zz : Nat)] 80)) (T.dv.below bO)
      have HO : Hid (_) := And.intro T (And.intro hR.out.2 (And.intro Rd (And.intro hl (And.intro hN (And.intro hz (And.intro hlow bw))))))
      clear HC hcc q0 q1 q2 q3 q4 q5 q6 Rd hl hN hz hlow hlt bw hbb hR T bO
      go_wp2_with fail
      refine qS.mono ?_
      rintro e v1 ⟨wa, wcp, rfl, h1⟩
      clear qS c0 c1 c2 c3 c4 c5 c6
      obtain ⟨T, hRr, Rd, hl, hN, hz, hlow, bw⟩ := HO.out
      have bO : Below wr.heap.size wr (wr.alloc (.cells #[.int .i64 K, .int .i64 N, .int .i64 fl, .bool od, .slice ya l cc, .int .i64 pp, .int .u32 (zz : Nat)] 80)) := (Below.refl _ _).alloc (Nat.le_refl _) _
      have nO : (wr.alloc (.cells #[.int .i64 K, .int .i64 N, .int .i64 fl, .bool od, .slice ya l cc, .int .i64 pp, .int .u32 (zz : Nat)] 80)).heap.size = wr.heap.size + 1 := by simp
      have bE : Below v1.heap.size v1 (v1.alloc (.cells #[.int .i64 (s.st : Nat), .int .u32 (s.ss : Nat), .int .u32 (s.nm : Nat), .int .u32 (s.sn : Nat), .int .i64 (s.dc : Nat), .int .i64 s.v.lat, .bool (vreq s.v), .bool (von s.v), .slice wa P1.i wcp] 57)) := (Below.refl _ _).alloc (Nat.le_refl _) _
      have s1 := h1.out.2.2.size
      have eO : (v1.alloc (.cells #[.int .i64 (s.st : Nat), .int .u32 (s.ss : Nat), .int .u32 (s.nm : Nat), .int .u32 (s.sn : Nat), .int .i64 (s.dc : Nat), .int .i64 s.v.lat, .bool (vreq s.v), .bool (von s.v), .slice wa P1.i wcp] 57)).heap[wr.heap.size]? = some (.cells #[.int .i64 K, .int .i64 N, .int .i64 fl, .bool od, .slice ya l cc, .int .i64 pp, .int .u32 (zz : Nat)] 80 (0, 0)) := (bE.block wr.heap.size (by omega)).trans ((h1.out.2.2.block wr.heap.size (by omega)).trans (heap_alloc_new wr _))
      have eE : (v1.alloc (.cells #[.int .i64 (s.st : Nat), .int .u32 (s.ss : Nat), .int .u32 (s.nm : Nat), .int .u32 (s.sn : Nat), .int .i64 (s.dc : Nat), .int .i64 s.v.lat, .bool (vreq s.v), .bool (von s.v), .slice wa P1.i wcp] 57)).heap[v1.heap.size]? = some (.cells #[.int .i64 (s.st : Nat), .int .u32 (s.ss : Nat), .int .u32 (s.nm : Nat), .int .u32 (s.sn : Nat), .int .i64 (s.dc : Nat), .int .i64 s.v.lat, .bool (vreq s.v), .bool (von s.v), .slice wa P1.i wcp] 57 (0, 0)) := heap_alloc_new v1 _
      have nE : (v1.alloc (.cells #[.int .i64 (s.st : Nat), .int .u32 (s.ss : Nat), .int .u32 (s.nm : Nat), .int .u32 (s.sn : Nat), .int .i64 (s.dc : Nat), .int .i64 s.v.lat, .bool (vreq s.v), .bool (von s.v), .slice wa P1.i wcp] 57)).heap.size = v1.heap.size + 1 := by simp
      have TE : Twh X (v1.alloc (.cells #[.int .i64 (s.st : Nat), .int .u32 (s.ss : Nat), .int .u32 (s.nm : Nat), .int .u32 (s.sn : Nat), .int .i64 (s.dc : Nat), .int .i64 s.v.lat, .bool (vreq s.v), .bool (von s.v), .slice wa P1.i wcp] 57)) ⟨d, e', P1, [(wr.heap.size, some (.cells #[.int .i64 K, .int .i64 N, .int .i64 fl, .bool od, .slice ya l cc, .int .i64 pp, .int .u32 (zz : Nat)] 80 (0, 0))), (v1.heap.size, some (.cells #[.int .i64 (s.st : Nat), .int .u32 (s.ss : Nat), .int .u32 (s.nm : Nat), .int .u32 (s.sn : Nat), .int .i64 (s.dc : Nat), .int .i64 s.v.lat, .bool (vreq s.v), .bool (von s.v), .slice wa P1.i wcp] 57 (0, 0)))]⟩ s := by
        refine ⟨U, V, (((T.below bO).below h1.out.2.2).below bE).tell _ (fun x hx => ?_)⟩
        simp only [List.mem_cons, List.not_mem_nil, or_false] at hx
        rcases hx with rfl | rfl
        · exact ⟨⟨by show wr.heap.size < _; omega, T.far (Nat.le_refl _)⟩, eO⟩
        · exact ⟨⟨by show v1.heap.size < _; omega, T.far (by show wr.heap.size ≤ v1.heap.size; omega)⟩, eE⟩
      by_cases hK : K = 12
      · subst hK
        have c0 : (v1.alloc (.cells #[.int .i64 (s.st : Nat), .int .u32 (s.ss : Nat), .int .u32 (s.nm : Nat), .int .u32 (s.sn : Nat), .int .i64 (s.dc : Nat), .int .i64 s.v.lat, .bool (vreq s.v), .bool (von s.v), .slice wa P1.i wcp] 57)).cell? ⟨wr.heap.size, 0, none⟩ = some (.int .i64 12) := cell_of_row _ _ 0 _ _ _ eO
        have qA := ksend_any X (v1.alloc (.cells #[.int .i64 (s.st : Nat), .int .u32 (s.ss : Nat), .int .u32 (s.nm : Nat), .int .u32 (s.sn : Nat), .int .i64 (s.dc : Nat), .int .i64 s.v.lat, .bool (vreq s.v), .bool (von s.v), .slice wa P1.i wcp] 57)) ⟨d, e', P1, [(wr.heap.size, some (.cells #[.int .i64 12, .int .i64 N, .int .i64 fl, .bool od, .slice ya l cc, .int .i64 pp, .int .u32 (zz : Nat)] 80 (0, 0))), (v1.heap.size, some (.cells #[.int .i64 (s.st : Nat), .int .u32 (s.ss : Nat), .int .u32 (s.nm : Nat), .int .u32 (s.sn : Nat), .int .i64 (s.dc : Nat), .int .i64 s.v.lat, .bool (vreq s.v), .bool (von s.v), .slice wa P1.i wcp] 57 (0, 0)))]⟩ s TE hRr.1 (by have := hRr.2.1; omega)
        clear T hRr Rd hl hN hz hlow bw bO nO bE s1 eO eE nE TE h1
        go_wp2_with fail
        refine qA.mono ?_
        rintro e v2 ⟨ax, cx, rfl, h2⟩
        clear qA c0
        obtain ⟨qB, I1, L1⟩ := h2.out
        unfold Snt at qB
        have H1 : Hid (_) := And.intro I1 L1
        clear h2 I1 L1
        go_wp2_with fail
        refine qB.mono ?_
        rintro e v3 ⟨vy, rfl, h3⟩
        clear qB
        obtain ⟨T3, r3⟩ := h3.out
        obtain ⟨U3, V3, B3⟩ := id T3
        have eE3 : v3.heap[v1.heap.size]? = some (.cells #[.int .i64 (s.st : Nat), .int .u32 (s.ss : Nat), .int .u32 (s.nm : Nat), .int .u32 (s.sn : Nat), .int .i64 (s.dc : Nat), .int .i64 s.v.lat, .bool (vreq s.v), .bool (von s.v), .slice wa P1.i wcp] 57 (0, 0)) := (B3.kp (v1.heap.size, some (.cells #[.int .i64 (s.st : Nat), .int .u32 (s.ss : Nat), .int .u32 (s.nm : Nat), .int .u32 (s.sn : Nat), .int .i64 (s.dc : Nat), .int .i64 s.v.lat, .bool (vreq s.v), .bool (von s.v), .slice wa P1.i wcp] 57 (0, 0))) (by simp)).2
        have lE3 : v1.heap.size < v3.heap.size := (B3.kp (v1.heap.size, some (.cells #[.int .i64 (s.st : Nat), .int .u32 (s.ss : Nat), .int .u32 (s.nm : Nat), .int .u32 (s.sn : Nat), .int .i64 (s.dc : Nat), .int .i64 s.v.lat, .bool (vreq s.v), .bool (von s.v), .slice wa P1.i wcp] 57 (0, 0))) (by simp)).1.1
        have T3' : Twh X v3 ⟨d, e', P1, []⟩ (hsendS P1 s) := ⟨U3, V3, B3.tell [] (fun x hx => by cases hx)⟩
        have r3' : Row8 v3 ax (hsendF P1 s).1 cx (hsendF P1 s).2 := r3
        have HI : Hid (_) := And.intro HO.out.2.1 (And.intro (show Ih P1 (hsendS P1 s) from H1.out.1) (And.intro (show (hsendS P1 s).L.length ≤ s.L.length + 2 from H1.out.2) (hsend_ap P1 s)))
        have H3 : Hid (_) := And.intro T3' (And.intro eE3 lE3)
        clear h3 T3 r3 B3 eE3 lE3 T3' H1
        have relx : ∀ wz, Twh X wz ⟨d, e', P1, []⟩ (hsendS P1 s) → Hid (Twh X wz ⟨d, e', P1, []⟩ (hsendS P1 s) ∧ Ih P1 (hsendS P1 s) ∧ (hsendS P1 s).L.length ≤ 2 * (j + 1) ∧ VX = BA (hsendS P1 s).ap 2 ∧ hb = (hsendS P1 s).hd) := fun wz tz => ⟨tz, HI.out.2.1, by have := HI.out.1.2.1; have := HI.out.2.2.1; omega, by rw [HI.out.2.2.2.1]; exact HI.out.1.2.2.1, by rw [HI.out.2.2.2.2]; exact HI.out.1.2.2.2⟩
        have HRX : Hid (_) := relx
        clear relx
        by_cases h5 : s.st = 5
        · have eF : hsendF P1 s = fm0 := by unfold hsendF; rw [if_pos h5]
          have qD := refDec_short ax (hsendF P1 s).1 cx v3 (by rw [eF]; show 0 < 19; omega)
          clear h5 eF r3'
          go_wp2_with fail
          refine qD.mono ?_
          rintro e v4 ⟨rfl, b4⟩
          have T4 : Hid (∀ ob, Twh X (v4.alloc ob) ⟨d, e', P1, []⟩ (hsendS P1 s)) := fun ob => (H3.out.1.below b4).below ((Below.refl _ _).alloc (Nat.le_refl _) _)
          clear qD b4
          go_wp2_with fail
          go_roundw
          case rel => exact ⟨j + 1, hsendS P1 s, VX, hb, by have := HJ.out; omega, by go_num, rfl, rfl, HRX.out _ (T4.out _)⟩
          case measure => have := HJ.out; simp [intOf] <;> omega
        · obtain ⟨_, hcs⟩ := hsend_cases P1_ok HI.out.1.1 h5
          rcases hcs with ⟨k, S, hk, ⟨tl, tb, t⟩, _⟩ | ⟨c1, c2, t, c3, c4, c5⟩ | ⟨c1, c2, ⟨tl, tb, t⟩, _⟩
          · have qD := refDec_ok ax (hsendF P1 s).1 cx (hsendF P1 s).2 v3 r3' t.de
            rw [t.k, t.c, t.s, t.n, t.f, t.ln] at qD
            have n4 : ((k : Int) != 4) = true := by rcases hk with rfl | rfl | rfl <;> rfl
            clear t hk r3' h5
            go_wp2_with fail
            refine qD.mono ?_
            rintro e v4 ⟨a4, c4, rfl, h4⟩
            have T4 : Hid (∀ ob, Twh X (v4.alloc ob) ⟨d, e', P1, []⟩ (hsendS P1 s)) := fun ob => (H3.out.1.below h4.out.2).below ((Below.refl _ _).alloc (Nat.le_refl _) _)
            clear qD h4
            go_wp2_with fail
            go_roundw
            case rel => exact ⟨j + 1, hsendS P1 s, VX, hb, by have := HJ.out; omega, by go_num, rfl, rfl, HRX.out _ (T4.out _)⟩
            case measure => have := HJ.out; simp [intOf] <;> omega
          · obtain ⟨kk, hkk, t⟩ : ∃ k, k = 4 ∧ Told (hsendF P1 s) k P1.c s.ss (s.sn + 1) (hflags s) P1.o s.ap := ⟨4, rfl, t⟩
            have qD := refDec_ok ax (hsendF P1 s).1 cx (hsendF P1 s).2 v3 r3' t.de
            have hbs := t.bs
            rw [t.k, t.c, t.s, t.n, t.f, t.ln] at qD
            have hby : ∀ i, i < P1.o → (hsendF P1 s).2 (15 + i) < 256 := fun i hi => by rw [hbs i hi]; exact HO.out.1.dv.apbH i hi
            obtain ⟨nn, hnn⟩ : ∃ n, n = s.sn + 1 := ⟨_, rfl⟩
            rw [← hnn] at qD
            have k4 : ((kk : Int) != 4) = false := by rw [hkk]; rfl
            have e1 : IntKind.u32.wrap ((s.sn : Int) + 1) = (nn : Int) := by rw [IntKind.wrap_u32, hnn]; have : P1.n = 200 := rfl; omega
            have e2 : ((s.sn : Int) + 1) % 4294967296 = (nn : Int) := by rw [hnn]; have : P1.n = 200 := rfl; omega
            have hX2 : BA (fun i => (hsendF P1 s).2 (15 + i)) P1.o = VX := by rw [HI.out.1.2.2.1]; exact BA_congr _ _ 2 hbs
            have HX2 : Hid (_) := And.intro hX2 hby
            obtain ⟨ff, hff⟩ : ∃ f, f = hflags s := ⟨_, rfl⟩
            rw [← hff] at qD
            have HFF : Hid (_) := And.intro hff (HI.out.1.2.2.2 : hb = s.hd)
            clear t hkk r3' h5 hnn c1 c2 c3 c4 c5 hbs hX2 hby hff
            go_wp2_with fail
            refine qD.mono ?_
            rintro e v4 ⟨a4, c4, rfl, h4⟩
            have b4 := h4.out.2
            have T4 : Hid (∀ ob, Twh X (v4.alloc ob) ⟨d, e', P1, []⟩ (hsendS P1 s)) := fun ob => (H3.out.1.below b4).below ((Below.refl _ _).alloc (Nat.le_refl _) _)
            have eb : ∀ ob, (v4.alloc ob).heap[v1.heap.size]? = some (.cells #[.int .i64 (s.st : Nat), .int .u32 (s.ss : Nat), .int .u32 (s.nm : Nat), .int .u32 (s.sn : Nat), .int .i64 (s.dc : Nat), .int .i64 s.v.lat, .bool (vreq s.v), .bool (von s.v), .slice wa P1.i wcp] 57 (0, 0)) := fun ob => ((b4.alloc b4.size ob).block _ H3.out.2.2).trans H3.out.2.1
            have W3 : ∀ ob, (v4.alloc ob).cell? ⟨v1.heap.size, 3, none⟩ = some (.int .u32 (s.sn : Nat)) := fun ob => cell_of_row _ _ 3 _ _ _ (eb ob)
            have W5 : ∀ ob, (v4.alloc ob).cell? ⟨v1.heap.size, 5, none⟩ = some (.int .i64 s.v.lat) := fun ob => cell_of_row _ _ 5 _ _ _ (eb ob)
            have W6 : ∀ ob, (v4.alloc ob).cell? ⟨v1.heap.size, 6, none⟩ = some (.bool (vreq s.v)) := fun ob => cell_of_row _ _ 6 _ _ _ (eb ob)
            have W7 : ∀ ob, (v4.alloc ob).cell? ⟨v1.heap.size, 7, none⟩ = some (.bool (von s.v)) := fun ob => cell_of_row _ _ 7 _ _ _ (eb ob)
            have r4 : Row8 v4 a4 P1.o c4 (fun i => (hsendF P1 s).2 (15 + i)) := own_slice8 h4.out.1 HX2.out.2
            have qu : ∀ ob, (convert 22 9 (.slice a4 P1.o c4)).run Tryz.prog (v4.alloc ob) = .ok (.string VX) (v4.alloc ob) := fun ob => by
              have h := conv_any a4 P1.o c4 _ (v4.alloc ob) (r4.below ((Below.refl _ _).alloc (Nat.le_refl _) ob))
              rw [HX2.out.1] at h
              exact h
            clear qD h4 b4 eb r4
            obtain ⟨f1, f2, f3, f4⟩ := flag_bits (von s.v) (vreq s.v) (s.v.lat != 0) hb ff (by rw [HFF.out.1, HFF.out.2]; unfold hflags; by_cases hz : s.v.lat = 0 <;> simp [hz])
            generalize von s.v = on at *
            generalize vreq s.v = rq at *
            obtain ⟨lt, hlt⟩ : ∃ b, (s.v.lat != 0) = b := ⟨_, rfl⟩
            rw [hlt] at f3
            go_wp2_with fail
            go_roundw
            case rel => exact ⟨j + 1, hsendS P1 s, VX, hb, by have := HJ.out; omega, by go_num, rfl, rfl, HRX.out _ (T4.out _)⟩
            case measure => have := HJ.out; simp [intOf] <;> omega
          · have qD := refDec_ok ax (hsendF P1 s).1 cx (hsendF P1 s).2 v3 r3' t.de
            rw [t.k, t.c, t.s, t.n, t.f, t.ln] at qD
            clear t r3' h5 c1 c2
            go_wp2_with fail
            refine qD.mono ?_
            rintro e v4 ⟨a4, c4, rfl, h4⟩
            have T4 : Hid (∀ ob, Twh X (v4.alloc ob) ⟨d, e', P1, []⟩ (hsendS P1 s)) := fun ob => (H3.out.1.below h4.out.2).below ((Below.refl _ _).alloc (Nat.le_refl _) _)
            clear qD h4
            go_wp2_with fail
            go_roundw
            case rel => exact ⟨j + 1, hsendS P1 s, VX, hb, by have := HJ.out; omega, by go_num, rfl, rfl, HRX.out _ (T4.out _)⟩
            case measure => have := HJ.out; simp [intOf] <;> omega
      · have n12 : (K != 12) = true := by simpa using hK
        have n12' : ¬ K = 12 := hK
        have bwE : Below w.heap.size w (v1.alloc (.cells #[.int .i64 (s.st : Nat), .int .u32 (s.ss : Nat), .int .u32 (s.nm : Nat), .int .u32 (s.sn : Nat), .int .i64 (s.dc : Nat), .int .i64 s.v.lat, .bool (vreq s.v), .bool (von s.v), .slice wa P1.i wcp] 57)) := H2.out.1.trans (TE.pok.2.2.mono H2.out.1.size)
        have qP := kstep_op X (v1.alloc (.cells #[.int .i64 (s.st : Nat), .int .u32 (s.ss : Nat), .int .u32 (s.nm : Nat), .int .u32 (s.sn : Nat), .int .i64 (s.dc : Nat), .int .i64 s.v.lat, .bool (vreq s.v), .bool (von s.v), .slice wa P1.i wcp] 57)) ⟨d, e', P1, [(wr.heap.size, some (.cells #[.int .i64 K, .int .i64 N, .int .i64 fl, .bool od, .slice ya l cc, .int .i64 pp, .int .u32 (zz : Nat)] 80 (0, 0))), (v1.heap.size, some (.cells #[.int .i64 (s.st : Nat), .int .u32 (s.ss : Nat), .int .u32 (s.nm : Nat), .int .u32 (s.sn : Nat), .int .i64 (s.dc : Nat), .int .i64 s.v.lat, .bool (vreq s.v), .bool (von s.v), .slice wa P1.i wcp] 57 (0, 0)))]⟩ s K N fl od ya l cc ds pp zz TE (Rd.below bwE) (fun y hy h0 => Nat.lt_of_lt_of_le (hlow y hy h0) H2.out.1.size) hz hl hN hRr.1 (by have := hRr.2.1; omega)
        have c0 : (v1.alloc (.cells #[.int .i64 (s.st : Nat), .int .u32 (s.ss : Nat), .int .u32 (s.nm : Nat), .int .u32 (s.sn : Nat), .int .i64 (s.dc : Nat), .int .i64 s.v.lat, .bool (vreq s.v), .bool (von s.v), .slice wa P1.i wcp] 57)).cell? ⟨wr.heap.size, 0, none⟩ = some (.int .i64 K) := cell_of_row (v1.alloc (.cells #[.int .i64 (s.st : Nat), .int .u32 (s.ss : Nat), .int .u32 (s.nm : Nat), .int .u32 (s.sn : Nat), .int .i64 (s.dc : Nat), .int .i64 s.v.lat, .bool (vreq s.v), .bool (von s.v), .slice wa P1.i wcp] 57)) _ 0 _ _ _ eO
        have c1 : (v1.alloc (.cells #[.int .i64 (s.st : Nat), .int .u32 (s.ss : Nat), .int .u32 (s.nm : Nat), .int .u32 (s.sn : Nat), .int .i64 (s.dc : Nat), .int .i64 s.v.lat, .bool (vreq s.v), .bool (von s.v), .slice wa P1.i wcp] 57)).cell? ⟨wr.heap.size, 1, none⟩ = some (.int .i64 N) := cell_of_row (v1.alloc (.cells #[.int .i64 (s.st : Nat), .int .u32 (s.ss : Nat), .int .u32 (s.nm : Nat), .int .u32 (s.sn : Nat), .int .i64 (s.dc : Nat), .int .i64 s.v.lat, .bool (vreq s.v), .bool (von s.v), .slice wa P1.i wcp] 57)) _ 1 _ _ _ eO
        have c2 : (v1.alloc (.cells #[.int .i64 (s.st : Nat), .int .u32 (s.ss : Nat), .int .u32 (s.nm : Nat), .int .u32 (s.sn : Nat), .int .i64 (s.dc : Nat), .int .i64 s.v.lat, .bool (vreq s.v), .bool (von s.v), .slice wa P1.i wcp] 57)).cell? ⟨wr.heap.size, 2, none⟩ = some (.int .i64 fl) := cell_of_row (v1.alloc (.cells #[.int .i64 (s.st : Nat), .int .u32 (s.ss : Nat), .int .u32 (s.nm : Nat), .int .u32 (s.sn : Nat), .int .i64 (s.dc : Nat), .int .i64 s.v.lat, .bool (vreq s.v), .bool (von s.v), .slice wa P1.i wcp] 57)) _ 2 _ _ _ eO
        have c3 : (v1.alloc (.cells #[.int .i64 (s.st : Nat), .int .u32 (s.ss : Nat), .int .u32 (s.nm : Nat), .int .u32 (s.sn : Nat), .int .i64 (s.dc : Nat), .int .i64 s.v.lat, .bool (vreq s.v), .bool (von s.v), .slice wa P1.i wcp] 57)).cell? ⟨wr.heap.size, 3, none⟩ = some (.bool od) := cell_of_row (v1.alloc (.cells #[.int .i64 (s.st : Nat), .int .u32 (s.ss : Nat), .int .u32 (s.nm : Nat), .int .u32 (s.sn : Nat), .int .i64 (s.dc : Nat), .int .i64 s.v.lat, .bool (vreq s.v), .bool (von s.v), .slice wa P1.i wcp] 57)) _ 3 _ _ _ eO
        have c4 : (v1.alloc (.cells #[.int .i64 (s.st : Nat), .int .u32 (s.ss : Nat), .int .u32 (s.nm : Nat), .int .u32 (s.sn : Nat), .int .i64 (s.dc : Nat), .int .i64 s.v.lat, .bool (vreq s.v), .bool (von s.v), .slice wa P1.i wcp] 57)).cell? ⟨wr.heap.size, 4, none⟩ = some (.slice ya l cc) := cell_of_row (v1.alloc (.cells #[.int .i64 (s.st : Nat), .int .u32 (s.ss : Nat), .int .u32 (s.nm : Nat), .int .u32 (s.sn : Nat), .int .i64 (s.dc : Nat), .int .i64 s.v.lat, .bool (vreq s.v), .bool (von s.v), .slice wa P1.i wcp] 57)) _ 4 _ _ _ eO
        have c5 : (v1.alloc (.cells #[.int .i64 (s.st : Nat), .int .u32 (s.ss : Nat), .int .u32 (s.nm : Nat), .int .u32 (s.sn : Nat), .int .i64 (s.dc : Nat), .int .i64 s.v.lat, .bool (vreq s.v), .bool (von s.v), .slice wa P1.i wcp] 57)).cell? ⟨wr.heap.size, 5, none⟩ = some (.int .i64 pp) := cell_of_row (v1.alloc (.cells #[.int .i64 (s.st : Nat), .int .u32 (s.ss : Nat), .int .u32 (s.nm : Nat), .int .u32 (s.sn : Nat), .int .i64 (s.dc : Nat), .int .i64 s.v.lat, .bool (vreq s.v), .bool (von s.v), .slice wa P1.i wcp] 57)) _ 5 _ _ _ eO
        have c6 : (v1.alloc (.cells #[.int .i64 (s.st : Nat), .int .u32 (s.ss : Nat), .int .u32 (s.nm : Nat), .int .u32 (s.sn : Nat), .int .i64 (s.dc : Nat), .int .i64 s.v.lat, .bool (vreq s.v), .bool (von s.v), .slice wa P1.i wcp] 57)).cell? ⟨wr.heap.size, 6, none⟩ = some (.int .u32 (zz : Nat)) := cell_of_row (v1.alloc (.cells #[.int .i64 (s.st : Nat), .int .u32 (s.ss : Nat), .int .u32 (s.nm : Nat), .int .u32 (s.sn : Nat), .int .i64 (s.dc : Nat), .int .i64 s.v.lat, .bool (vreq s.v), .bool (von s.v), .slice wa P1.i wcp] 57)) _ 6 _ _ _ eO
        have HK12 : Hid (_) := hK
        clear T hRr Rd hl hN hz hlow bw bO nO bE s1 eO eE nE TE h1 hK bwE
        go_wp2_with fail
        refine qP.mono ?_
        rintro e v3 ⟨rfl, h3⟩
        clear qP c0 c1 c2 c3 c4 c5 c6
        obtain ⟨s', ⟨U3, V3, B3⟩, I3, L3, O3⟩ := h3.out
        have eO3 : v3.heap[wr.heap.size]? = some (.cells #[.int .i64 K, .int .i64 N, .int .i64 fl, .bool od, .slice ya l cc, .int .i64 pp, .int .u32 (zz : Nat)] 80 (0, 0)) := (B3.kp (wr.heap.size, some (.cells #[.int .i64 K, .int .i64 N, .int .i64 fl, .bool od, .slice ya l cc, .int .i64 pp, .int .u32 (zz : Nat)] 80 (0, 0))) (by simp)).2
        have T3 : Twh X v3 ⟨d, e', P1, []⟩ s' := ⟨U3, V3, B3.tell [] (fun x hx => by cases hx)⟩
        have z0 : v3.cell? ⟨wr.heap.size, 0, none⟩ = some (.int .i64 K) := cell_of_row v3 _ 0 _ _ _ eO3
        have z1 : v3.cell? ⟨wr.heap.size, 1, none⟩ = some (.int .i64 N) := cell_of_row v3 _ 1 _ _ _ eO3
        have z2 : v3.cell? ⟨wr.heap.size, 2, none⟩ = some (.int .i64 fl) := cell_of_row v3 _ 2 _ _ _ eO3
        have z3 : v3.cell? ⟨wr.heap.size, 3, none⟩ = some (.bool od) := cell_of_row v3 _ 3 _ _ _ eO3
        have z4 : v3.cell? ⟨wr.heap.size, 4, none⟩ = some (.slice ya l cc) := cell_of_row v3 _ 4 _ _ _ eO3
        have z5 : v3.cell? ⟨wr.heap.size, 5, none⟩ = some (.int .i64 pp) := cell_of_row v3 _ 5 _ _ _ eO3
        have z6 : v3.cell? ⟨wr.heap.size, 6, none⟩ = some (.int .u32 (zz : Nat)) := cell_of_row v3 _ 6 _ _ _ eO3
        have rd3 : Row8 v3 ya l cc ds := HO.out.2.2.1.below (H2.out.1.trans (T3.pok.2.2.mono H2.out.1.size))
        have HP : Hid (_) := And.intro T3 (And.intro I3 (And.intro (by have := HO.out.2.1.2.1; omega : s'.L.length ≤ 2 * (j + 1)) (And.intro O3 (And.intro HO.out.2.1.2.2.1 HO.out.2.1.2.2.2))))
        clear h3 B3 I3 L3 O3 eO3 T3
        by_cases h9 : K = 9
        · subst h9
          by_cases h2 : l = 2
          · have e2 : ((l : Int) == 2) = true := by rw [h2]; rfl
            have e2' : (l : Int) = 2 := by rw [h2]; rfl
            have qv : ∀ m, (convert 22 9 (.slice ya l cc)).run Tryz.prog (v3.drewN m) = .ok (.string (BA ds l)) (v3.drewN m) := fun m => conv_any ya l cc ds (v3.drewN m) (rd3.below (below_drewN (Below.refl _ _) m))
            have qv0 := conv_any ya l cc ds v3 rd3
            have qv1 := conv_any ya l cc ds v3.drew (rd3.below (Below.drew (Below.refl _ _)))
            have T5 : Hid (∀ m, Twh X (v3.drewN m) ⟨d, e', P1, []⟩ s') := fun m => HP.out.1.below (below_drewN (Below.refl _ _) m)
            have hs' : s'.ap = ds ∧ s'.hd = od := by rw [HP.out.2.2.2.1.2.2.1 rfl]; unfold hwriteS; rw [if_pos (by rw [h2]; rfl)]; exact ⟨rfl, rfl⟩
            have HS2 : Hid (_) := And.intro hs' h2
            clear rd3 hs' h2
            go_wp2_with fail
            go_quiet (fail)
            go_wp2_with fail
            go_roundw
            case rel => exact ⟨j + 1, s', BA ds l, od, by have := HJ.out; omega, by go_num, rfl, rfl, T5.out _, HP.out.2.1, HP.out.2.2.1, by rw [HS2.out.1.1, HS2.out.2], HS2.out.1.2.symm⟩
            case measure => have := HJ.out; simp [intOf] <;> omega
          · have e2 : ((l : Int) == 2) = false := by simp; omega
            have e2' : ¬ (l : Int) = 2 := by omega
            have e2'' : ¬ l = 2 := h2
            have hs' : s' = s := by rw [HP.out.2.2.2.1.2.2.1 rfl]; unfold hwriteS; rw [if_neg (by show ¬ l = 2; exact h2)]
            have HS2 : Hid (_) := hs'
            clear rd3 hs' h2
            go_wp2_with fail
            go_roundw
            case rel => exact ⟨j + 1, s', VX, hb, by have := HJ.out; omega, by go_num, rfl, rfl, HP.out.1, HP.out.2.1, HP.out.2.2.1, by rw [HS2.out]; exact HP.out.2.2.2.2.1, by rw [HS2.out]; exact HP.out.2.2.2.2.2⟩
            case measure => have := HJ.out; simp [intOf] <;> omega
        · by_cases h11 : K = 11
          · subst h11
            clear rd3
            go_wp2_with fail
            go_roundw
            case rel => exact ⟨j + 1, s', ⟨#[0, 0]⟩, false, by have := HJ.out; omega, by go_num, rfl, rfl, HP.out.1, HP.out.2.1, HP.out.2.2.1, by rw [HP.out.2.2.2.1.2.2.2.2.1 rfl]; exact BA_zeros2.symm, by rw [HP.out.2.2.2.1.2.2.2.2.1 rfl]; rfl⟩
            case measure => have := HJ.out; simp [intOf] <;> omega
          · have n9 : (K == 9) = false := by simpa using h9
            have n9' : ¬ K = 9 := h9
            have n11 : (K == 11) = false := by simpa using h11
            have n11' : ¬ K = 11 := h11
            have hs' := call_ap HP.out.2.2.2.1 h9 h11 HK12.out
            have HS2 : Hid (_) := hs'
            clear rd3 hs' h9 h11
            go_wp2_with fail
            go_roundw
            case rel => exact ⟨j + 1, s', VX, hb, by have := HJ.out; omega, by go_num, rfl, rfl, HP.out.1, HP.out.2.1, HP.out.2.2.1, by rw [HS2.out.1]; exact HP.out.2.2.2.2.1, by rw [HS2.out.2]; exact HP.out.2.2.2.2.2⟩
            case measure => have := HJ.out; simp [intOf] <;> omega
    · have hc2 : (¬ (j : Int) < (len0 : Int)) ∨ ((j : Int) < (len0 : Int) ∧ ¬ (j : Int) < 300) := by omega
      have HF : Hid (_) := H2.out.1.trans (hR.out.1.pok.2.2.mono H2.out.1.size)
      clear hlt HC hR hj
      rcases hc2 with hk1 | ⟨hk1, hk2⟩
      all_goals
        go_wp2_with fail
        go_ret
        exact ⟨rfl, HF.out⟩
theorem hostFlags_walk (a0 : Option Addr) (len0 cap0 : Nat) (w : World) (w0 : OpRow w a0 len0) :
    Calls Tryz.prog 12 #[.slice a0 len0 cap0] w fun e w' => e = .returned (.bool true) ∧ Below w.heap.size w w' := hflags_go a0 len0 cap0 w w0
end Go.Proofs.YtndjepeolamedaaGreat
