/- PassiveLatch: only an acknowledgement ends a latch. (genvlat.py) -/
import Derived.Test.YtjdedopijplblaaAw11
import Derived.Test.YtjdedopijplblaaOp11
namespace Go.Proofs.Ytjdedopijplblaa
open Go.RowKit

theorem own_slice {w : World} {B e n : Nat} {v : Value} {xs : List Value} (h : w.ownsRow B e 1 v n xs) : ∃ a cap, v = .slice a n cap := by
  rcases h.2 with ⟨rfl, rfl⟩ | ⟨g, cap, cur, hv, _⟩
  · exact ⟨_, _, rfl⟩
  · exact ⟨_, _, hv⟩
theorem off_latched {s : Vs} (h : Vok s) (hl : ¬ s.lat = 0) : von s = false := by
  have : s.sm = false := by
    cases e : s.sm
    · rfl
    · exact absurd (h.sm e) hl
  simp [von, this]
theorem zero_latched {s : Vs} (h : Vok s) (hl : ¬ s.lat = 0) : vout s = fun _ => 0 := by
  unfold vout
  rw [off_latched h hl]
  rfl
/-- What a call may do to the latch. -/
theorem latch_pure (s : Vs) (K p : Int) (o : Bool) (l : Nat) (ds : Nat → Nat) (f : Bool) (hf : s.fr = true → f = true) :
    (K = 1 ∧ ¬ p = 0 ∧ (vcall s 3 K p o l ds).fr = false ∧ ((s.lat = 0 ∧ (vcall s 3 K p o l ds).lat = p) ∨ (¬ s.lat = 0 ∧ (vcall s 3 K p o l ds).lat = s.lat))) ∨
    (K = 6 ∧ vcallE s 3 K l = 0 ∧ ¬ s.lat = 0 ∧ f = true ∧ (vcall s 3 K p o l ds).lat = 0 ∧ (vcall s 3 K p o l ds).fr = false) ∨
    ((vcall s 3 K p o l ds).lat = s.lat ∧ (K = 1 ∧ p = 0 ∧ ((vcall s 3 K p o l ds).fr = true → f = true) ∨ K = 6 ∧ vcallE s 3 K l = 110 ∧ ((vcall s 3 K p o l ds).fr = true → f = true) ∨ K = 3 ∧ ((vcall s 3 K p o l ds).fr = true → ¬ s.lat = 0) ∨ (¬ K = 1 ∧ ¬ K = 6 ∧ ¬ K = 3 ∧ ((vcall s 3 K p o l ds).fr = true → f = true)))) := by
  by_cases h1 : K = 1
  · subst h1
    have e : vcall s 3 1 p o l ds = vtrip s p := rfl
    rw [e]
    by_cases hp : p = 0
    · subst hp
      exact .inr (.inr ⟨rfl, .inl ⟨rfl, rfl, hf⟩⟩)
    · refine .inl ⟨rfl, hp, ?_, ?_⟩
      · unfold vtrip; rw [if_neg hp]
      · unfold vtrip; rw [if_neg hp]
        by_cases hl : s.lat = 0
        · exact .inl ⟨hl, if_pos hl⟩
        · exact .inr ⟨hl, if_neg hl⟩
  by_cases h6 : K = 6
  · subst h6
    have e : vcall s 3 6 p o l ds = vack s := rfl
    have e' : vcallE s 3 6 l = vackE s := rfl
    rw [e, e']
    unfold vack vackE
    by_cases hr : vreq s = true
    · rw [if_pos hr, if_pos hr]
      simp only [vreq, Bool.and_eq_true, bne_iff_ne, ne_eq] at hr
      exact .inr (.inl ⟨rfl, rfl, hr.2.1, hf hr.2.2, rfl, rfl⟩)
    · rw [if_neg hr, if_neg hr]
      exact .inr (.inr ⟨rfl, .inr (.inl ⟨rfl, rfl, hf⟩)⟩)
  by_cases h3 : K = 3
  · subst h3
    have e : vcall s 3 3 p o l ds = vfresh s := rfl
    rw [e]
    refine .inr (.inr ⟨rfl, .inr (.inr (.inl ⟨rfl, fun h => ?_⟩))⟩)
    simpa [vfresh] using h
  refine .inr (.inr ?_)
  have e : vcall s 3 K p o l ds = if K = 2 then vrun s o else if K = 4 then vhold s o else if K = 5 then (if l = 3 then vtake s ds else s) else s := by
    unfold vcall
    rw [if_neg h1, if_neg h3, if_neg h6]
  rw [e]
  have g : ∀ t : Vs, t.lat = s.lat → t.fr = s.fr → t.lat = s.lat ∧ (K = 1 ∧ p = 0 ∧ (t.fr = true → f = true) ∨ K = 6 ∧ vcallE s 3 K l = 110 ∧ (t.fr = true → f = true) ∨ K = 3 ∧ (t.fr = true → ¬ s.lat = 0) ∨ (¬ K = 1 ∧ ¬ K = 6 ∧ ¬ K = 3 ∧ (t.fr = true → f = true))) := fun t ht hr => ⟨ht, .inr (.inr (.inr ⟨h1, h6, h3, fun h => hf (hr ▸ h)⟩))⟩
  split
  · apply g <;> (unfold vrun; split <;> rfl)
  split
  · exact g _ rfl rfl
  split
  · split
    · apply g <;> (unfold vtake; split <;> rfl)
    · exact g _ rfl rfl
  · exact g _ rfl rfl
set_option maxRecDepth 100000 in
set_option maxHeartbeats 8000000 in
theorem passiveLatch_walk (a : Option Addr) (len cap : Nat) (w : World) (h : OpRow w a len) :
    Calls Try.prog 4 #[.slice a len cap] w fun e w' => e = .returned (.bool true) ∧ Below w.heap.size w w' := by
  obtain ⟨hlen, h0⟩ := h
  have HC : Hid (_) := h0
  clear h0
  go_enter Try.func4, Try.ntmps4
  go_wp2_with fail
  refine (awake11 w).mono ?_
  rintro e w1 ⟨rfl, b1⟩
  have B1 : Hid (_) := b1
  clear b1
  go_wp2_with fail
  refine (vnew_ok 3 w1 (by omega) (by omega)).mono ?_
  rintro e w2 ⟨b, g, rfl, H2⟩
  obtain ⟨hb, hg, o2, m2⟩ := H2.out
  have b1 := B1.out
  have hb0 : w.heap.size ≤ b := Nat.le_trans b1.size hb
  have hg0 : w.heap.size ≤ g := Nat.le_trans b1.size hg
  have b2 : Below w.heap.size w w2 := o2.below b1 (by simp) b1.size
  have HB0 : ∀ k, k ∈ [b, g] → w.heap.size ≤ k := by simpa using And.intro hb0 hg0
  have HB : Hid (_) := HB0
  generalize w2.heap.size = M at m2
  have H0 : Hid (_) := And.intro m2 b2
  clear H2 B1 b1 hb hg o2 m2 b2 HB0 hb0 hg0
  go_wp2_with fail
  go_loopw [2, 5, 6, 7, 8, 9, 10, 11, 12] (fun _ u1 u2 i _ _ _ _ _ wr => ∃ (k : Nat) (s : Vs) (f : Bool), k ≤ len ∧ i = .int .i64 ((k : Nat) : Int) ∧ u1 = .int .i64 s.lat ∧ u2 = .bool f ∧ VR wr b g M 3 s ∧ Vok s ∧ (s.fr = true → f = true) ∧ Below w.heap.size w wr) (fun _ _ _ i _ _ _ _ _ _ => len - (intOf i).toNat)
  case atStart => exact ⟨0, vnew, false, by omega, rfl, rfl, rfl, H0.out.1, Vok.new, (fun h => by cases h), H0.out.2⟩
  case round =>
    clear H0
    obtain ⟨k, s, f, hk, rfl, rfl, rfl, m, V, hf, bb⟩ := hrel
    by_cases hlt : k < len
    · obtain ⟨b', off, rfl, hbb, hcc⟩ := HC.out (by omega)
      obtain ⟨K, p, o, y, l, c, ds, q0, q1, q2, q3, Rd, hl⟩ := hcc k hlt
      have c0 : wr.cell? ⟨b', off + k * 4, none⟩ = some (.int .i64 K) := (bb.cell (p := ⟨b', off + k * 4, none⟩) hbb).trans q0
      have c1 := (bb.cell (p := ⟨b', off + k * 4 + 1, none⟩) hbb).trans q1
      have c2 := (bb.cell (p := ⟨b', off + k * 4 + 2, none⟩) hbb).trans q2
      have c3 := (bb.cell (p := ⟨b', off + k * 4 + 3, none⟩) hbb).trans q3
      have hx := latch_pure s K p o l ds f hf
      have V' := V.call 3 K p o l ds
      have oX : Off [] wr (wr.alloc (.cells #[.int .i64 K, .int .i64 p, .bool o, .slice y l c] 35)) := Off.alloc _ _ _
      have bX := oX.below bb (by simp) bb.size
      have q := call_any b g M 3 s K p o y l c ds _ (m.new_ oX) (Rd.below bX) hl
      have hlb : b < wr.heap.size := m.lt
      have hlg : g < wr.heap.size := Nat.lt_of_lt_of_le m.gM m.sz
      have HLT : Hid (_) := And.intro hlb hlg
      obtain ⟨s', hs'⟩ : ∃ s', vcall s 3 K p o l ds = s' := ⟨_, rfl⟩
      rw [hs'] at hx V' q
      have HV : Hid (_) := V'
      have BX : Hid (_) := bX
      clear HC hcc q0 q1 q2 q3 m bb Rd V V' hs' oX bX hf hlb hlg
      generalize s.lat = L at *
      generalize vcallE s 3 K l = E at *
      rcases hx with ⟨rfl, hp, hfr, ⟨rfl, hlat⟩ | ⟨hL, hlat⟩⟩ | ⟨rfl, rfl, hL, rfl, hlat, hfr⟩ | ⟨hlat, ⟨rfl, rfl, hF⟩ | ⟨rfl, rfl, hF⟩ | ⟨rfl, hF⟩ | ⟨n1, n6, n3, hF⟩⟩
      · have HF : Hid (s'.fr = true → false = true) := fun h => by rw [hfr] at h; cases h
        clear hfr
        go_wp2_with fail
        refine q.mono ?_
        rintro e w3 ⟨rfl, H⟩
        have e3 : w3.heap[wr.heap.size]? = some (.cells #[.int .i64 1, .int .i64 p, .bool o, .slice y l c] 35 (0, 0)) := (H.out.1.block _ (by rw [World.size_alloc]; omega) (by have := HLT.out; simp; omega)).trans (heap_alloc_new wr _)
        have d0 : w3.cell? ⟨wr.heap.size, 0, none⟩ = some (.int .i64 1) := cell_of_row w3 _ 0 _ _ _ e3
        have d1 : w3.cell? ⟨wr.heap.size, 1, none⟩ = some (.int .i64 p) := cell_of_row w3 _ 1 _ _ _ e3
        have q2 := vlat_any b g M 3 s' w3 H.out.2
        have q3 := vout_any b g M 3 s' w3 H.out.2
        rw [hlat] at q2
        clear q c0 c1 c2 c3 e3
        go_wp2_with (go_at_call 13; refine q2.mono ?_; rintro e w' ⟨rfl, hw⟩; have hw := hw.symm; subst hw)
        rw [off_latched HV.out (by rw [hlat]; assumption), zero_latched HV.out (by rw [hlat]; assumption)] at q3
        refine q3.mono ?_
        rintro e w4 ⟨v, rfl, H4⟩
        obtain ⟨a4, c4, rfl, R4⟩ := own_row8 H4.out.1 (fun _ _ => by show (0 : Nat) < 256; omega)
        have k4 := conv_any a4 3 c4 _ w4 R4
        rw [show BA (fun _ => 0) 3 = { data := #[0, 0, 0] } by decide] at k4
        clear R4
        have o4 : Off [] w3 w4 := Off.of_below H4.out.2
        have b4 := o4.below (H.out.1.below BX.out HB.out BX.out.size) (by simp) (H.out.1.below BX.out HB.out BX.out.size).size
        have K4 : Hid (_) := And.intro (H.out.2.new_ o4) b4
        clear q2 q3 d0 d1 o4 b4 H4
        go_wp2_with fail
        go_roundw
        case rel => exact ⟨k + 1, s', false, by omega, by go_num, by rw [hlat], rfl, K4.out.1, HV.out, HF.out, K4.out.2⟩
        case measure => simp [intOf] <;> omega
      · have HF : Hid (s'.fr = true → false = true) := fun h => by rw [hfr] at h; cases h
        clear hfr
        go_wp2_with fail
        refine q.mono ?_
        rintro e w3 ⟨rfl, H⟩
        have e3 : w3.heap[wr.heap.size]? = some (.cells #[.int .i64 1, .int .i64 p, .bool o, .slice y l c] 35 (0, 0)) := (H.out.1.block _ (by rw [World.size_alloc]; omega) (by have := HLT.out; simp; omega)).trans (heap_alloc_new wr _)
        have d0 : w3.cell? ⟨wr.heap.size, 0, none⟩ = some (.int .i64 1) := cell_of_row w3 _ 0 _ _ _ e3
        have d1 : w3.cell? ⟨wr.heap.size, 1, none⟩ = some (.int .i64 p) := cell_of_row w3 _ 1 _ _ _ e3
        have q2 := vlat_any b g M 3 s' w3 H.out.2
        have q3 := vout_any b g M 3 s' w3 H.out.2
        rw [hlat] at q2
        clear q c0 c1 c2 c3 e3
        go_wp2_with (go_at_call 13; refine q2.mono ?_; rintro e w' ⟨rfl, hw⟩; have hw := hw.symm; subst hw)
        rw [off_latched HV.out (by rw [hlat]; assumption), zero_latched HV.out (by rw [hlat]; assumption)] at q3
        refine q3.mono ?_
        rintro e w4 ⟨v, rfl, H4⟩
        obtain ⟨a4, c4, rfl, R4⟩ := own_row8 H4.out.1 (fun _ _ => by show (0 : Nat) < 256; omega)
        have k4 := conv_any a4 3 c4 _ w4 R4
        rw [show BA (fun _ => 0) 3 = { data := #[0, 0, 0] } by decide] at k4
        clear R4
        have o4 : Off [] w3 w4 := Off.of_below H4.out.2
        have b4 := o4.below (H.out.1.below BX.out HB.out BX.out.size) (by simp) (H.out.1.below BX.out HB.out BX.out.size).size
        have K4 : Hid (_) := And.intro (H.out.2.new_ o4) b4
        clear q2 q3 d0 d1 o4 b4 H4
        go_wp2_with fail
        go_roundw
        case rel => exact ⟨k + 1, s', false, by omega, by go_num, by rw [hlat], rfl, K4.out.1, HV.out, HF.out, K4.out.2⟩
        case measure => simp [intOf] <;> omega
      · have HF : Hid (s'.fr = true → false = true) := fun h => by rw [hfr] at h; cases h
        clear hfr
        go_wp2_with fail
        refine q.mono ?_
        rintro e w3 ⟨rfl, H⟩
        have e3 : w3.heap[wr.heap.size]? = some (.cells #[.int .i64 6, .int .i64 p, .bool o, .slice y l c] 35 (0, 0)) := (H.out.1.block _ (by rw [World.size_alloc]; omega) (by have := HLT.out; simp; omega)).trans (heap_alloc_new wr _)
        have d0 : w3.cell? ⟨wr.heap.size, 0, none⟩ = some (.int .i64 6) := cell_of_row w3 _ 0 _ _ _ e3
        have d1 : w3.cell? ⟨wr.heap.size, 1, none⟩ = some (.int .i64 p) := cell_of_row w3 _ 1 _ _ _ e3
        have q2 := vlat_any b g M 3 s' w3 H.out.2
        have q3 := vout_any b g M 3 s' w3 H.out.2
        rw [hlat] at q2
        clear q c0 c1 c2 c3 e3
        go_wp2_with (go_at_call 13; refine q2.mono ?_; rintro e w' ⟨rfl, hw⟩; have hw := hw.symm; subst hw)
        refine q3.mono ?_
        rintro e w4 ⟨v, rfl, H4⟩
        obtain ⟨a4, c4, rfl⟩ := own_slice H4.out.1
        generalize von s' = on
        have o4 : Off [] w3 w4 := Off.of_below H4.out.2
        have b4 := o4.below (H.out.1.below BX.out HB.out BX.out.size) (by simp) (H.out.1.below BX.out HB.out BX.out.size).size
        have K4 : Hid (_) := And.intro (H.out.2.new_ o4) b4
        clear q2 q3 d0 d1 o4 b4 H4
        go_wp2_with fail
        go_roundw
        case rel => exact ⟨k + 1, s', false, by omega, by go_num, by rw [hlat], rfl, K4.out.1, HV.out, HF.out, K4.out.2⟩
        case measure => simp [intOf] <;> omega
      · by_cases hL : L = 0
        · subst hL
          have HF : Hid (_) := hF
          clear hF
          go_wp2_with fail
          refine q.mono ?_
          rintro e w3 ⟨rfl, H⟩
          have e3 : w3.heap[wr.heap.size]? = some (.cells #[.int .i64 1, .int .i64 0, .bool o, .slice y l c] 35 (0, 0)) := (H.out.1.block _ (by rw [World.size_alloc]; omega) (by have := HLT.out; simp; omega)).trans (heap_alloc_new wr _)
          have d0 : w3.cell? ⟨wr.heap.size, 0, none⟩ = some (.int .i64 1) := cell_of_row w3 _ 0 _ _ _ e3
          have d1 : w3.cell? ⟨wr.heap.size, 1, none⟩ = some (.int .i64 0) := cell_of_row w3 _ 1 _ _ _ e3
          have q2 := vlat_any b g M 3 s' w3 H.out.2
          have q3 := vout_any b g M 3 s' w3 H.out.2
          rw [hlat] at q2
          clear q c0 c1 c2 c3 e3
          go_wp2_with (go_at_call 13; refine q2.mono ?_; rintro e w' ⟨rfl, hw⟩; have hw := hw.symm; subst hw)
          refine q3.mono ?_
          rintro e w4 ⟨v, rfl, H4⟩
          obtain ⟨a4, c4, rfl⟩ := own_slice H4.out.1
          generalize von s' = on
          have o4 : Off [] w3 w4 := Off.of_below H4.out.2
          have b4 := o4.below (H.out.1.below BX.out HB.out BX.out.size) (by simp) (H.out.1.below BX.out HB.out BX.out.size).size
          have K4 : Hid (_) := And.intro (H.out.2.new_ o4) b4
          clear q2 q3 d0 d1 o4 b4 H4
          go_wp2_with fail
          go_roundw
          case rel => exact ⟨k + 1, s', f, by omega, by go_num, by rw [hlat], rfl, K4.out.1, HV.out, HF.out, K4.out.2⟩
          case measure => simp [intOf] <;> omega
        · have HF : Hid (_) := hF
          clear hF
          go_wp2_with fail
          refine q.mono ?_
          rintro e w3 ⟨rfl, H⟩
          have e3 : w3.heap[wr.heap.size]? = some (.cells #[.int .i64 1, .int .i64 0, .bool o, .slice y l c] 35 (0, 0)) := (H.out.1.block _ (by rw [World.size_alloc]; omega) (by have := HLT.out; simp; omega)).trans (heap_alloc_new wr _)
          have d0 : w3.cell? ⟨wr.heap.size, 0, none⟩ = some (.int .i64 1) := cell_of_row w3 _ 0 _ _ _ e3
          have d1 : w3.cell? ⟨wr.heap.size, 1, none⟩ = some (.int .i64 0) := cell_of_row w3 _ 1 _ _ _ e3
          have q2 := vlat_any b g M 3 s' w3 H.out.2
          have q3 := vout_any b g M 3 s' w3 H.out.2
          rw [hlat] at q2
          clear q c0 c1 c2 c3 e3
          go_wp2_with (go_at_call 13; refine q2.mono ?_; rintro e w' ⟨rfl, hw⟩; have hw := hw.symm; subst hw)
          rw [off_latched HV.out (by rw [hlat]; assumption), zero_latched HV.out (by rw [hlat]; assumption)] at q3
          refine q3.mono ?_
          rintro e w4 ⟨v, rfl, H4⟩
          obtain ⟨a4, c4, rfl, R4⟩ := own_row8 H4.out.1 (fun _ _ => by show (0 : Nat) < 256; omega)
          have k4 := conv_any a4 3 c4 _ w4 R4
          rw [show BA (fun _ => 0) 3 = { data := #[0, 0, 0] } by decide] at k4
          clear R4
          have o4 : Off [] w3 w4 := Off.of_below H4.out.2
          have b4 := o4.below (H.out.1.below BX.out HB.out BX.out.size) (by simp) (H.out.1.below BX.out HB.out BX.out.size).size
          have K4 : Hid (_) := And.intro (H.out.2.new_ o4) b4
          clear q2 q3 d0 d1 o4 b4 H4
          go_wp2_with fail
          go_roundw
          case rel => exact ⟨k + 1, s', f, by omega, by go_num, by rw [hlat], rfl, K4.out.1, HV.out, HF.out, K4.out.2⟩
          case measure => simp [intOf] <;> omega
      · by_cases hL : L = 0
        · subst hL
          have HF : Hid (_) := hF
          clear hF
          go_wp2_with fail
          refine q.mono ?_
          rintro e w3 ⟨rfl, H⟩
          have e3 : w3.heap[wr.heap.size]? = some (.cells #[.int .i64 6, .int .i64 p, .bool o, .slice y l c] 35 (0, 0)) := (H.out.1.block _ (by rw [World.size_alloc]; omega) (by have := HLT.out; simp; omega)).trans (heap_alloc_new wr _)
          have d0 : w3.cell? ⟨wr.heap.size, 0, none⟩ = some (.int .i64 6) := cell_of_row w3 _ 0 _ _ _ e3
          have d1 : w3.cell? ⟨wr.heap.size, 1, none⟩ = some (.int .i64 p) := cell_of_row w3 _ 1 _ _ _ e3
          have q2 := vlat_any b g M 3 s' w3 H.out.2
          have q3 := vout_any b g M 3 s' w3 H.out.2
          rw [hlat] at q2
          clear q c0 c1 c2 c3 e3
          go_wp2_with (go_at_call 13; refine q2.mono ?_; rintro e w' ⟨rfl, hw⟩; have hw := hw.symm; subst hw)
          refine q3.mono ?_
          rintro e w4 ⟨v, rfl, H4⟩
          obtain ⟨a4, c4, rfl⟩ := own_slice H4.out.1
          generalize von s' = on
          have o4 : Off [] w3 w4 := Off.of_below H4.out.2
          have b4 := o4.below (H.out.1.below BX.out HB.out BX.out.size) (by simp) (H.out.1.below BX.out HB.out BX.out.size).size
          have K4 : Hid (_) := And.intro (H.out.2.new_ o4) b4
          clear q2 q3 d0 d1 o4 b4 H4
          go_wp2_with fail
          go_roundw
          case rel => exact ⟨k + 1, s', f, by omega, by go_num, by rw [hlat], rfl, K4.out.1, HV.out, HF.out, K4.out.2⟩
          case measure => simp [intOf] <;> omega
        · have HF : Hid (_) := hF
          clear hF
          go_wp2_with fail
          refine q.mono ?_
          rintro e w3 ⟨rfl, H⟩
          have e3 : w3.heap[wr.heap.size]? = some (.cells #[.int .i64 6, .int .i64 p, .bool o, .slice y l c] 35 (0, 0)) := (H.out.1.block _ (by rw [World.size_alloc]; omega) (by have := HLT.out; simp; omega)).trans (heap_alloc_new wr _)
          have d0 : w3.cell? ⟨wr.heap.size, 0, none⟩ = some (.int .i64 6) := cell_of_row w3 _ 0 _ _ _ e3
          have d1 : w3.cell? ⟨wr.heap.size, 1, none⟩ = some (.int .i64 p) := cell_of_row w3 _ 1 _ _ _ e3
          have q2 := vlat_any b g M 3 s' w3 H.out.2
          have q3 := vout_any b g M 3 s' w3 H.out.2
          rw [hlat] at q2
          clear q c0 c1 c2 c3 e3
          go_wp2_with (go_at_call 13; refine q2.mono ?_; rintro e w' ⟨rfl, hw⟩; have hw := hw.symm; subst hw)
          rw [off_latched HV.out (by rw [hlat]; assumption), zero_latched HV.out (by rw [hlat]; assumption)] at q3
          refine q3.mono ?_
          rintro e w4 ⟨v, rfl, H4⟩
          obtain ⟨a4, c4, rfl, R4⟩ := own_row8 H4.out.1 (fun _ _ => by show (0 : Nat) < 256; omega)
          have k4 := conv_any a4 3 c4 _ w4 R4
          rw [show BA (fun _ => 0) 3 = { data := #[0, 0, 0] } by decide] at k4
          clear R4
          have o4 : Off [] w3 w4 := Off.of_below H4.out.2
          have b4 := o4.below (H.out.1.below BX.out HB.out BX.out.size) (by simp) (H.out.1.below BX.out HB.out BX.out.size).size
          have K4 : Hid (_) := And.intro (H.out.2.new_ o4) b4
          clear q2 q3 d0 d1 o4 b4 H4
          go_wp2_with fail
          go_roundw
          case rel => exact ⟨k + 1, s', f, by omega, by go_num, by rw [hlat], rfl, K4.out.1, HV.out, HF.out, K4.out.2⟩
          case measure => simp [intOf] <;> omega
      · by_cases hL : L = 0
        · subst hL
          have HF : Hid (s'.fr = true → f = true) := fun h => absurd rfl (hF h)
          clear hF
          go_wp2_with fail
          refine q.mono ?_
          rintro e w3 ⟨rfl, H⟩
          have e3 : w3.heap[wr.heap.size]? = some (.cells #[.int .i64 3, .int .i64 p, .bool o, .slice y l c] 35 (0, 0)) := (H.out.1.block _ (by rw [World.size_alloc]; omega) (by have := HLT.out; simp; omega)).trans (heap_alloc_new wr _)
          have d0 : w3.cell? ⟨wr.heap.size, 0, none⟩ = some (.int .i64 3) := cell_of_row w3 _ 0 _ _ _ e3
          have d1 : w3.cell? ⟨wr.heap.size, 1, none⟩ = some (.int .i64 p) := cell_of_row w3 _ 1 _ _ _ e3
          have q2 := vlat_any b g M 3 s' w3 H.out.2
          have q3 := vout_any b g M 3 s' w3 H.out.2
          rw [hlat] at q2
          clear q c0 c1 c2 c3 e3
          go_wp2_with (go_at_call 13; refine q2.mono ?_; rintro e w' ⟨rfl, hw⟩; have hw := hw.symm; subst hw)
          refine q3.mono ?_
          rintro e w4 ⟨v, rfl, H4⟩
          obtain ⟨a4, c4, rfl⟩ := own_slice H4.out.1
          generalize von s' = on
          have o4 : Off [] w3 w4 := Off.of_below H4.out.2
          have b4 := o4.below (H.out.1.below BX.out HB.out BX.out.size) (by simp) (H.out.1.below BX.out HB.out BX.out.size).size
          have K4 : Hid (_) := And.intro (H.out.2.new_ o4) b4
          clear q2 q3 d0 d1 o4 b4 H4
          go_wp2_with fail
          go_roundw
          case rel => exact ⟨k + 1, s', f, by omega, by go_num, by rw [hlat], rfl, K4.out.1, HV.out, HF.out, K4.out.2⟩
          case measure => simp [intOf] <;> omega
        · clear hF
          go_wp2_with fail
          refine q.mono ?_
          rintro e w3 ⟨rfl, H⟩
          have e3 : w3.heap[wr.heap.size]? = some (.cells #[.int .i64 3, .int .i64 p, .bool o, .slice y l c] 35 (0, 0)) := (H.out.1.block _ (by rw [World.size_alloc]; omega) (by have := HLT.out; simp; omega)).trans (heap_alloc_new wr _)
          have d0 : w3.cell? ⟨wr.heap.size, 0, none⟩ = some (.int .i64 3) := cell_of_row w3 _ 0 _ _ _ e3
          have d1 : w3.cell? ⟨wr.heap.size, 1, none⟩ = some (.int .i64 p) := cell_of_row w3 _ 1 _ _ _ e3
          have q2 := vlat_any b g M 3 s' w3 H.out.2
          have q3 := vout_any b g M 3 s' w3 H.out.2
          rw [hlat] at q2
          clear q c0 c1 c2 c3 e3
          go_wp2_with (go_at_call 13; refine q2.mono ?_; rintro e w' ⟨rfl, hw⟩; have hw := hw.symm; subst hw)
          rw [off_latched HV.out (by rw [hlat]; assumption), zero_latched HV.out (by rw [hlat]; assumption)] at q3
          refine q3.mono ?_
          rintro e w4 ⟨v, rfl, H4⟩
          obtain ⟨a4, c4, rfl, R4⟩ := own_row8 H4.out.1 (fun _ _ => by show (0 : Nat) < 256; omega)
          have k4 := conv_any a4 3 c4 _ w4 R4
          rw [show BA (fun _ => 0) 3 = { data := #[0, 0, 0] } by decide] at k4
          clear R4
          have o4 : Off [] w3 w4 := Off.of_below H4.out.2
          have b4 := o4.below (H.out.1.below BX.out HB.out BX.out.size) (by simp) (H.out.1.below BX.out HB.out BX.out.size).size
          have K4 : Hid (_) := And.intro (H.out.2.new_ o4) b4
          clear q2 q3 d0 d1 o4 b4 H4
          go_wp2_with fail
          go_roundw
          case rel => exact ⟨k + 1, s', true, by omega, by go_num, by rw [hlat], rfl, K4.out.1, HV.out, fun _ => rfl, K4.out.2⟩
          case measure => simp [intOf] <;> omega
      · by_cases hL : L = 0
        · subst hL
          have HF : Hid (_) := hF
          clear hF
          go_wp2_with fail
          refine q.mono ?_
          rintro e w3 ⟨rfl, H⟩
          have e3 : w3.heap[wr.heap.size]? = some (.cells #[.int .i64 K, .int .i64 p, .bool o, .slice y l c] 35 (0, 0)) := (H.out.1.block _ (by rw [World.size_alloc]; omega) (by have := HLT.out; simp; omega)).trans (heap_alloc_new wr _)
          have d0 : w3.cell? ⟨wr.heap.size, 0, none⟩ = some (.int .i64 K) := cell_of_row w3 _ 0 _ _ _ e3
          have d1 : w3.cell? ⟨wr.heap.size, 1, none⟩ = some (.int .i64 p) := cell_of_row w3 _ 1 _ _ _ e3
          have q2 := vlat_any b g M 3 s' w3 H.out.2
          have q3 := vout_any b g M 3 s' w3 H.out.2
          rw [hlat] at q2
          clear q c0 c1 c2 c3 e3
          go_wp2_with (go_at_call 13; refine q2.mono ?_; rintro e w' ⟨rfl, hw⟩; have hw := hw.symm; subst hw)
          refine q3.mono ?_
          rintro e w4 ⟨v, rfl, H4⟩
          obtain ⟨a4, c4, rfl⟩ := own_slice H4.out.1
          generalize von s' = on
          have o4 : Off [] w3 w4 := Off.of_below H4.out.2
          have b4 := o4.below (H.out.1.below BX.out HB.out BX.out.size) (by simp) (H.out.1.below BX.out HB.out BX.out.size).size
          have K4 : Hid (_) := And.intro (H.out.2.new_ o4) b4
          clear q2 q3 d0 d1 o4 b4 H4
          go_wp2_with fail
          go_roundw
          case rel => exact ⟨k + 1, s', f, by omega, by go_num, by rw [hlat], rfl, K4.out.1, HV.out, HF.out, K4.out.2⟩
          case measure => simp [intOf] <;> omega
        · have HF : Hid (_) := hF
          clear hF
          go_wp2_with fail
          refine q.mono ?_
          rintro e w3 ⟨rfl, H⟩
          have e3 : w3.heap[wr.heap.size]? = some (.cells #[.int .i64 K, .int .i64 p, .bool o, .slice y l c] 35 (0, 0)) := (H.out.1.block _ (by rw [World.size_alloc]; omega) (by have := HLT.out; simp; omega)).trans (heap_alloc_new wr _)
          have d0 : w3.cell? ⟨wr.heap.size, 0, none⟩ = some (.int .i64 K) := cell_of_row w3 _ 0 _ _ _ e3
          have d1 : w3.cell? ⟨wr.heap.size, 1, none⟩ = some (.int .i64 p) := cell_of_row w3 _ 1 _ _ _ e3
          have q2 := vlat_any b g M 3 s' w3 H.out.2
          have q3 := vout_any b g M 3 s' w3 H.out.2
          rw [hlat] at q2
          clear q c0 c1 c2 c3 e3
          go_wp2_with (go_at_call 13; refine q2.mono ?_; rintro e w' ⟨rfl, hw⟩; have hw := hw.symm; subst hw)
          rw [off_latched HV.out (by rw [hlat]; assumption), zero_latched HV.out (by rw [hlat]; assumption)] at q3
          refine q3.mono ?_
          rintro e w4 ⟨v, rfl, H4⟩
          obtain ⟨a4, c4, rfl, R4⟩ := own_row8 H4.out.1 (fun _ _ => by show (0 : Nat) < 256; omega)
          have k4 := conv_any a4 3 c4 _ w4 R4
          rw [show BA (fun _ => 0) 3 = { data := #[0, 0, 0] } by decide] at k4
          clear R4
          have o4 : Off [] w3 w4 := Off.of_below H4.out.2
          have b4 := o4.below (H.out.1.below BX.out HB.out BX.out.size) (by simp) (H.out.1.below BX.out HB.out BX.out.size).size
          have K4 : Hid (_) := And.intro (H.out.2.new_ o4) b4
          clear q2 q3 d0 d1 o4 b4 H4
          go_wp2_with fail
          go_roundw
          case rel => exact ⟨k + 1, s', f, by omega, by go_num, by rw [hlat], rfl, K4.out.1, HV.out, HF.out, K4.out.2⟩
          case measure => simp [intOf] <;> omega
    · clear HC
      have Hb : Hid (_) := bb
      clear bb m
      go_wp2_with fail
      go_ret
      exact ⟨rfl, Hb.out⟩

end Go.Proofs.Ytjdedopijplblaa
