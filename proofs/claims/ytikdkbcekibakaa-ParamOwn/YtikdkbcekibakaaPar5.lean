/- The document's Lawful, Word and Decode (by genpar3.py). -/
import Derived.Test.YtikdkbcekibakaaPar3
namespace Go.Proofs.Ytikdkbcekibakaa
open Go.RowKit
set_option maxRecDepth 100000 in
set_option maxHeartbeats 4000000 in
theorem rlaw_any (c : Nat) (o i t : Int) (n : Nat) (w : World) (D : Bool) (hD : decide (okP c o i t n) = D) :
    Calls Try.prog 21 #[.agg #[.int .u32 c, .int .i64 o, .int .i64 i, .int .i64 t, .int .u32 n]] w fun e w' => e = .returned (.bool D) ∧ Below w.heap.size w w' := by
  have hb : Below w.heap.size w (w.alloc (.cells #[.int .u32 c, .int .i64 o, .int .i64 i, .int .i64 t, .int .u32 n] 24)) := (Below.refl _ _).alloc (Nat.le_refl _) _
  have HB : Hid (_) := hb
  have HD : Hid (_) := hD
  clear hD hb
  by_cases h0 : (0 : Int) < (c : Int)
  rotate_left
  · have q0 : decide ((0 : Int) < (c : Int)) = false := decide_eq_false h0
    have r0 : c = 0 := by omega
    subst r0
    have hD' : D = false := by rw [← HD.out]; exact decide_eq_false (fun h => by unfold okP at h; omega)
    subst hD'
    clear HD h0
    go_enter Try.func21, Try.ntmps21
    go_wp2_with fail
    go_ret
    exact ⟨rfl, HB.out⟩
  have q0 : decide ((0 : Int) < (c : Int)) = true := decide_eq_true h0
  have r0 : 0 < c := by omega
  by_cases h1 : 1 ≤ o
  rotate_left
  · have q1 : decide (1 ≤ o) = false := decide_eq_false h1
    have hD' : D = false := by rw [← HD.out]; exact decide_eq_false (fun h => by unfold okP at h; omega)
    subst hD'
    clear HD h0 h1
    go_enter Try.func21, Try.ntmps21
    go_wp2_with fail
    go_ret
    exact ⟨rfl, HB.out⟩
  have q1 : decide (1 ≤ o) = true := decide_eq_true h1
  by_cases h2 : o ≤ 8
  rotate_left
  · have q2 : decide (o ≤ 8) = false := decide_eq_false h2
    have hD' : D = false := by rw [← HD.out]; exact decide_eq_false (fun h => by unfold okP at h; omega)
    subst hD'
    clear HD h0 h1 h2
    go_enter Try.func21, Try.ntmps21
    go_wp2_with fail
    go_ret
    exact ⟨rfl, HB.out⟩
  have q2 : decide (o ≤ 8) = true := decide_eq_true h2
  by_cases h3 : 1 ≤ i
  rotate_left
  · have q3 : decide (1 ≤ i) = false := decide_eq_false h3
    have hD' : D = false := by rw [← HD.out]; exact decide_eq_false (fun h => by unfold okP at h; omega)
    subst hD'
    clear HD h0 h1 h2 h3
    go_enter Try.func21, Try.ntmps21
    go_wp2_with fail
    go_ret
    exact ⟨rfl, HB.out⟩
  have q3 : decide (1 ≤ i) = true := decide_eq_true h3
  by_cases h4 : i ≤ 8
  rotate_left
  · have q4 : decide (i ≤ 8) = false := decide_eq_false h4
    have hD' : D = false := by rw [← HD.out]; exact decide_eq_false (fun h => by unfold okP at h; omega)
    subst hD'
    clear HD h0 h1 h2 h3 h4
    go_enter Try.func21, Try.ntmps21
    go_wp2_with fail
    go_ret
    exact ⟨rfl, HB.out⟩
  have q4 : decide (i ≤ 8) = true := decide_eq_true h4
  by_cases h5 : 1 ≤ t
  rotate_left
  · have q5 : decide (1 ≤ t) = false := decide_eq_false h5
    have hD' : D = false := by rw [← HD.out]; exact decide_eq_false (fun h => by unfold okP at h; omega)
    subst hD'
    clear HD h0 h1 h2 h3 h4 h5
    go_enter Try.func21, Try.ntmps21
    go_wp2_with fail
    go_ret
    exact ⟨rfl, HB.out⟩
  have q5 : decide (1 ≤ t) = true := decide_eq_true h5
  by_cases h6 : t ≤ 1048576
  rotate_left
  · have q6 : decide (t ≤ 1048576) = false := decide_eq_false h6
    have hD' : D = false := by rw [← HD.out]; exact decide_eq_false (fun h => by unfold okP at h; omega)
    subst hD'
    clear HD h0 h1 h2 h3 h4 h5 h6
    go_enter Try.func21, Try.ntmps21
    go_wp2_with fail
    go_ret
    exact ⟨rfl, HB.out⟩
  have q6 : decide (t ≤ 1048576) = true := decide_eq_true h6
  by_cases h7 : (2 : Int) ≤ (n : Int)
  rotate_left
  · have q7 : decide ((2 : Int) ≤ (n : Int)) = false := decide_eq_false h7
    have hD' : D = false := by rw [← HD.out]; exact decide_eq_false (fun h => by unfold okP at h; omega)
    subst hD'
    clear HD h0 h1 h2 h3 h4 h5 h6 h7
    go_enter Try.func21, Try.ntmps21
    go_wp2_with fail
    go_ret
    exact ⟨rfl, HB.out⟩
  have q7 : decide ((2 : Int) ≤ (n : Int)) = true := decide_eq_true h7
  have hD' : D = true := by rw [← HD.out]; exact decide_eq_true (by unfold okP; omega)
  subst hD'
  clear HD h0 h1 h2 h3 h4 h5 h6 h7
  go_enter Try.func21, Try.ntmps21
  go_wp2_with fail
  go_ret
  exact ⟨rfl, HB.out⟩
set_option maxHeartbeats 1000000 in
theorem rword_any (b off len cap x0 x1 x2 x3 : Nat) (w : World) (hlen : (3 : Int) < (len : Int)) (h0 : x0 < 256) (h1 : x1 < 256) (h2 : x2 < 256) (h3 : x3 < 256)
    (c0 : w.cell? ⟨b, off, none⟩ = some (.int .u8 x0)) (c1 : w.cell? ⟨b, off + 1, none⟩ = some (.int .u8 x1)) (c2 : w.cell? ⟨b, off + 2, none⟩ = some (.int .u8 x2)) (c3 : w.cell? ⟨b, off + 3, none⟩ = some (.int .u8 x3)) :
    Calls Try.prog 28 #[.slice (some ⟨b, off, none⟩) len cap] w fun e w' => e = .returned (.int .u32 ((x0 * 16777216 + x1 * 65536 + x2 * 256 + x3 : Nat) : Int)) ∧ ∃ m, w' = w.drewN m := by
  have hn := wnumP x0 x1 x2 x3 h0 h1 h2 h3
  have l0 : (0 : Int) < (len : Int) := by omega
  have l1 : (1 : Int) < (len : Int) := by omega
  have l2 : (2 : Int) < (len : Int) := by omega
  generalize x0 * 16777216 + x1 * 65536 + x2 * 256 + x3 = y at *
  go_enter Try.func28, Try.ntmps28
  go_wp2_with fail
  go_quiet (fail)
  go_wp2
  go_ret
  exact ⟨rfl, _, rfl⟩
theorem rword_row (b off len cap i L C : Nat) (bs : Nat → Nat) (w : World) (hr : Row8 w (some ⟨b, off, none⟩) len cap bs) (h : i + 4 ≤ len) (hL : 4 ≤ L) :
    Calls Try.prog 28 #[.slice (some ⟨b, off + i, none⟩) L C] w fun e w' => e = .returned (.int .u32 (w4v bs i : Nat)) ∧ ∃ m, w' = w.drewN m := by
  have s := hr.src _ rfl
  have q := hr.byte
  have t0 := s i (by omega); have t1 := s (i + 1) (by omega); have t2 := s (i + 2) (by omega); have t3 := s (i + 3) (by omega)
  rw [Go.WideShapes.add_plain] at t0 t1 t2 t3
  exact rword_any b (off + i) L C _ _ _ _ w (by omega) (q i (by omega)) (q (i + 1) (by omega)) (q (i + 2) (by omega)) (q (i + 3) (by omega)) t0 t1 t2 t3
set_option maxRecDepth 100000 in
set_option maxHeartbeats 1000000 in
theorem rdecode_len (a : Option Addr) (len cap : Nat) (w : World) (h : len ≠ 14) :
    Calls Try.prog 17 #[.slice a len cap] w fun e w' => e = .returned (.tuple #[.agg #[.int .u32 0, .int .i64 0, .int .i64 0, .int .i64 0, .int .u32 0], .int .i64 45]) ∧ Below w.heap.size w w' := by
  have hA : Below w.heap.size w (w.alloc (.cells #[.int .u32 0, .int .i64 0, .int .i64 0, .int .i64 0, .int .u32 0] 24)) := (Below.refl _ _).alloc (Nat.le_refl _) _
  have q : ((len : Int) == 14) = false := by simp; omega
  clear h
  go_enter Try.func17, Try.ntmps17
  go_wp2_with fail
  refine bodyPost_ret (v := .tuple #[.agg #[.int .u32 0, .int .i64 0, .int .i64 0, .int .i64 0, .int .u32 0], .int .i64 45]) (by simp [results, Try.results17, go_sem]) rfl ⟨rfl, hA⟩
set_option maxRecDepth 100000 in
set_option maxHeartbeats 4000000 in
theorem rdecode_law (b off cap : Nat) (bs : Nat → Nat) (w : World) (hr : Row8 w (some ⟨b, off, none⟩) 14 cap bs) (D : Bool) (hD : decide (okP (w4v bs 0 : Nat) (bs 4 : Nat) (bs 5 : Nat) (w4v bs 6 : Nat) (w4v bs 10 : Nat)) = D) :
    Calls Try.prog 17 #[.slice (some ⟨b, off, none⟩) 14 cap] w fun e w' =>
      (D = false → e = .returned (.tuple #[.agg #[.int .u32 0, .int .i64 0, .int .i64 0, .int .i64 0, .int .u32 0], .int .i64 90]) ∧ Below w.heap.size w w') ∧
      (D = true → e = .returned (.tuple #[.agg #[.int .u32 (w4v bs 0 : Nat), .int .i64 (bs 4 : Nat), .int .i64 (bs 5 : Nat), .int .i64 (w4v bs 6 : Nat), .int .u32 (w4v bs 10 : Nat)], .int .i64 0]) ∧ Below w.heap.size w w') := by
  have hcap := hr.le
  have hbl : b < w.heap.size := by
    obtain ⟨b', off', e, hb', _⟩ := hr.plain (by omega)
    cases e
    exact hb'
  have hA : Below w.heap.size w (w.alloc (.cells #[.int .u32 0, .int .i64 0, .int .i64 0, .int .i64 0, .int .u32 0] 24)) := (Below.refl _ _).alloc (Nat.le_refl _) _
  have hAs : w.heap.size < (w.alloc (.cells #[.int .u32 0, .int .i64 0, .int .i64 0, .int .i64 0, .int .u32 0] 24)).heap.size := by simp
  have hY := bx_new w 0 0 0 0 0
  have hYf := fun i wx hb => par_frozen w #[.int .u32 0, .int .i64 0, .int .i64 0, .int .i64 0, .int .u32 0] i wx hb
  have hrA := hr.below hA
  have hw4 : IntKind.i64.wrap (bs 4 : Int) = (bs 4 : Int) := by have := hr.byte 4 (by omega); rw [IntKind.wrap_i64]; omega
  have hw5 : IntKind.i64.wrap (bs 5 : Int) = (bs 5 : Int) := by have := hr.byte 5 (by omega); rw [IntKind.wrap_i64]; omega
  have hwT : IntKind.i64.wrap (w4v bs 6 : Int) = (w4v bs 6 : Int) := by have := w4v_lt (bs := bs) (i := 6) (fun j hj => hr.byte _ (by omega)); rw [IntKind.wrap_i64]; omega
  clear hr
  go_enter Try.func17, Try.ntmps17
  go_upto_region 3 with fail
  generalize w.alloc (.cells #[.int .u32 0, .int .i64 0, .int .i64 0, .int .i64 0, .int .u32 0] 24) = wa at *
  have hne : ¬ b = wa.heap.size := by omega
  have hR : ∀ wx, Below wa.heap.size wa wx → Row8 wx (some ⟨b, off, none⟩) 14 cap bs := fun wx hb => hrA.below hb
  have hW0 := fun wx hb => rword_row b off 14 cap 0 4 cap bs wx (hR wx hb) (by omega) (by omega)
  have hW6 := fun wx hb => rword_row b off 14 cap 6 4 (cap - 6) bs wx (hR wx hb) (by omega) (by omega)
  have hW10 := fun wx hb => rword_row b off 14 cap 10 4 (cap - 10) bs wx (hR wx hb) (by omega) (by omega)
  have hc : ∀ wx, Below wa.heap.size wa wx → wx.cell? ⟨b, off + 4, none⟩ = some (.int .u8 (bs 4 : Nat)) ∧ wx.cell? ⟨b, off + 5, none⟩ = some (.int .u8 (bs 5 : Nat)) := fun wx hb => by
    have s := (hR wx hb).src _ rfl
    have t0 := s 4 (by omega); have t1 := s 5 (by omega)
    rw [Go.WideShapes.add_plain] at t0 t1
    exact ⟨t0, t1⟩
  have hZ : ∀ m wx, Below ((wa.drewN m).alloc (.cells #[.int .u32 0, .int .i64 0, .int .i64 0, .int .i64 0, .int .u32 0] 24)).heap.size ((wa.drewN m).alloc (.cells #[.int .u32 0, .int .i64 0, .int .i64 0, .int .i64 0, .int .u32 0] 24)) wx → Bx wx wa.heap.size 0 0 0 0 0 := fun m wx hb => bx_new (wa.drewN m) 0 0 0 0 0 wx hb
  have hZf : ∀ m i wx, Below ((wa.drewN m).alloc (.cells #[.int .u32 0, .int .i64 0, .int .i64 0, .int .i64 0, .int .u32 0] 24)).heap.size ((wa.drewN m).alloc (.cells #[.int .u32 0, .int .i64 0, .int .i64 0, .int .i64 0, .int .u32 0] 24)) wx → wx.frozen? ⟨wa.heap.size, i, none⟩ = false := fun m i wx hb => par_frozen (wa.drewN m) _ i wx hb
  have hZ0 : Bx (wa.drew.alloc (.cells #[.int .u32 0, .int .i64 0, .int .i64 0, .int .i64 0, .int .u32 0] 24)) wa.heap.size 0 0 0 0 0 := hZ 1 _ (Below.refl _ _)
  have hZ0f : ∀ i, (wa.drew.alloc (.cells #[.int .u32 0, .int .i64 0, .int .i64 0, .int .i64 0, .int .u32 0] 24)).frozen? ⟨wa.heap.size, i, none⟩ = false := fun i => hZf 1 i _ (Below.refl _ _)
  have z0 := fun m => (hZ m _ (Below.refl _ _)).c0
  have z1 := fun m => (hZ m _ (Below.refl _ _)).c1
  have z2 := fun m => (hZ m _ (Below.refl _ _)).c2
  have z3 := fun m => (hZ m _ (Below.refl _ _)).c3
  have z4 := fun m => (hZ m _ (Below.refl _ _)).c4
  have zf := fun m i => hZf m i _ (Below.refl _ _)
  obtain ⟨y0, y1, y2, y3, y4⟩ := hZ0
  obtain ⟨k4, k5⟩ := hc wa (Below.refl _ _)
  have n6 : ¬ cap = 6 := by omega
  have n10 : ¬ cap = 10 := by omega
  have n0 : ¬ cap = 0 := by omega
  have c14 : (14 : Int) ≤ (cap : Int) := by omega
  have c4 : (4 : Int) ≤ (cap : Int) := by omega
  have c10 : (10 : Int) ≤ (cap : Int) := by omega
  go_cut [4] (fun v wx => v = .pointer (some ⟨wa.heap.size, 0, none⟩) ∧ Hid (Bx wx wa.heap.size (w4v bs 0) (bs 4 : Nat) (bs 5 : Nat) (w4v bs 6 : Nat) (w4v bs 10) ∧ Below wa.heap.size wa wx ∧ wa.heap.size < wx.heap.size ∧ ∀ i, wx.frozen? ⟨wa.heap.size, i, none⟩ = false))
  case first =>
    go_region_held3 (fun w' => w'.cell? ⟨b, off + 4, none⟩ = some (.int .u8 (bs 4 : Int)) ∧ w'.cell? ⟨b, off + 5, none⟩ = some (.int .u8 (bs 5 : Int))) (first | (with_reducible refine ⟨fiveP_cell ?_ hne _ _ _ _ _, fiveP_cell ?_ hne _ _ _ _ _⟩ <;> first | exact (hc _ (by repeat (first | with_reducible assumption | with_reducible refine below_drewN ?_ _ | with_reducible refine Below.drew ?_ | with_reducible refine belowA ?_ _ | with_reducible exact Below.refl _ _))).1 | exact (hc _ (by repeat (first | with_reducible assumption | with_reducible refine below_drewN ?_ _ | with_reducible refine Below.drew ?_ | with_reducible refine belowA ?_ _ | with_reducible exact Below.refl _ _))).2) | exact hc _ (by repeat (first | with_reducible assumption | with_reducible refine below_drewN ?_ _ | with_reducible refine Below.drew ?_ | with_reducible refine belowA ?_ _ | with_reducible exact Below.refl _ _))) (first
    | (refine step_drawP rfl (.tmp 10) 28 rfl #[.slice (some ⟨b, off + 0, none⟩) 4 cap] _ (hW0 _ (by repeat (first | with_reducible assumption | with_reducible refine below_drewN ?_ _ | with_reducible refine Below.drew ?_ | with_reducible refine belowA ?_ _ | with_reducible exact Below.refl _ _))) (by kernel_rfl) ?_; intro m)
    | (refine step_drawP rfl (.tmp 21) 28 rfl #[.slice (some ⟨b, off + 6, none⟩) 4 (cap - 6)] _ (hW6 _ (by repeat (first | with_reducible assumption | with_reducible refine below_drewN ?_ _ | with_reducible refine Below.drew ?_ | with_reducible refine belowA ?_ _ | with_reducible exact Below.refl _ _))) (by kernel_rfl) ?_; intro m)
    | (refine step_drawP rfl (.tmp 25) 28 rfl #[.slice (some ⟨b, off + 10, none⟩) 4 (cap - 10)] _ (hW10 _ (by repeat (first | with_reducible assumption | with_reducible refine below_drewN ?_ _ | with_reducible refine Below.drew ?_ | with_reducible refine belowA ?_ _ | with_reducible exact Below.refl _ _))) (by kernel_rfl) ?_; intro m))
    all_goals
      go_wp2_with fail
      go_meet
      refine ⟨rfl, fiveP_box (c0 := 0) (o0 := 0) (i0 := 0) (t0 := 0) (n0 := 0) ?_ _ _ _ _ _, fiveP_below ?_ (Nat.le_refl _) _ _ _ _ _, ?_, ?_⟩
      · first | exact hZ _ _ (below_drewN (Below.refl _ _) _) | exact hZ _ _ (Below.refl _ _) | exact hZ 1 _ (below_drewN (Below.refl _ _) _) | exact hZ 1 _ (Below.refl _ _)
      · repeat (first | with_reducible assumption | with_reducible refine below_drewN ?_ _ | with_reducible refine Below.drew ?_ | with_reducible refine belowA ?_ _ | with_reducible exact Below.refl _ _)
      · simp
      · intro i
        simp only [World.frozen?_setCell]
        first | exact hZf _ i _ (below_drewN (Below.refl _ _) _) | exact hZf _ i _ (Below.refl _ _) | exact hZf 1 i _ (below_drewN (Below.refl _ _) _) | exact hZf 1 i _ (Below.refl _ _)
  case rest =>
    obtain ⟨rfl, H2⟩ := hcut
    obtain ⟨w2, rfl⟩ : ∃ x, x = wc := ⟨_, rfl⟩
    obtain ⟨X2, hb2, hs2, hf2⟩ := H2.out
    have h2s := hb2.size
    clear H2 hW0 hW6 hW10 hc hZ hZf hZ0f z0 z1 z2 z3 z4 zf y0 y1 y2 y3 y4 k4 k5 hw4 hw5 hwT n6 n10 n0 c14 c4 c10 hR hrA
    obtain ⟨x0, x1, x2, x3, x4⟩ := id X2
    have hgw : ¬ w.heap.size = wa.heap.size := by omega
    have hgw' : ¬ wa.heap.size = w.heap.size := by omega
    have hK := rlaw_any (w4v bs 0) (bs 4 : Nat) (bs 5 : Nat) (w4v bs 6 : Nat) (w4v bs 10) w2 D hD
    clear hD
    go_wp2_with fail
    refine hK.mono ?_
    rintro e w3 ⟨rfl, hb3'⟩
    have hb3 := below_all hb2 h2s hb3'
    have X3 := X2.below hs2 hb3'
    obtain ⟨u0, u1, u2, u3, u4⟩ := X3
    have yf := fun i => hYf i w3 hb3
    obtain ⟨y0, y1, y2, y3, y4⟩ := hY w3 hb3
    have HH : Hid (_) := hA.trans (hb3.mono (Nat.le_of_lt hAs))
    clear hK x0 x1 x2 x3 x4 X2 hb2 h2s hf2 hb3' hb3 hY hYf hs2 hAs hA hcap hbl
    clear hne
    generalize wa.heap.size = g at *
    cases D with
    | true =>
      go_wp2_with fail
      refine bodyPost_ret (v := .tuple #[.agg #[.int .u32 (w4v bs 0 : Nat), .int .i64 (bs 4 : Nat), .int .i64 (bs 5 : Nat), .int .i64 (w4v bs 6 : Nat), .int .u32 (w4v bs 10 : Nat)], .int .i64 0]) (by simp [results, Try.results17, go_sem, y0, y1, y2, y3, y4]) rfl ⟨rfl, ?_⟩
      exact fiveP_below HH.out (Nat.le_refl _) _ _ _ _ _
    | false =>
      go_wp2_with fail
      refine bodyPost_ret (v := .tuple #[.agg #[.int .u32 0, .int .i64 0, .int .i64 0, .int .i64 0, .int .u32 0], .int .i64 90]) (by simp [results, Try.results17, go_sem, y0, y1, y2, y3, y4]) rfl ⟨rfl, ?_⟩
      exact fiveP_below HH.out (Nat.le_refl _) _ _ _ _ _
theorem rdecode_good (a : Option Addr) (cap : Nat) (bs : Nat → Nat) (w : World) (hr : Row8 w a 14 cap bs) (h : okP (w4v bs 0 : Nat) (bs 4 : Nat) (bs 5 : Nat) (w4v bs 6 : Nat) (w4v bs 10 : Nat)) :
    Calls Try.prog 17 #[.slice a 14 cap] w fun e w' => e = .returned (.tuple #[.agg #[.int .u32 (w4v bs 0 : Nat), .int .i64 (bs 4 : Nat), .int .i64 (bs 5 : Nat), .int .i64 (w4v bs 6 : Nat), .int .u32 (w4v bs 10 : Nat)], .int .i64 0]) ∧ Below w.heap.size w w' := by
  obtain ⟨b, off, rfl, _, _⟩ := hr.plain (by omega)
  exact (rdecode_law b off cap bs w hr true (decide_eq_true h)).mono fun e w' q => q.2 rfl
theorem rdecode_bad (a : Option Addr) (cap : Nat) (bs : Nat → Nat) (w : World) (hr : Row8 w a 14 cap bs) (h : ¬ okP (w4v bs 0 : Nat) (bs 4 : Nat) (bs 5 : Nat) (w4v bs 6 : Nat) (w4v bs 10 : Nat)) :
    Calls Try.prog 17 #[.slice a 14 cap] w fun e w' => e = .returned (.tuple #[.agg #[.int .u32 0, .int .i64 0, .int .i64 0, .int .i64 0, .int .u32 0], .int .i64 90]) ∧ Below w.heap.size w w' := by
  obtain ⟨b, off, rfl, _, _⟩ := hr.plain (by omega)
  exact (rdecode_law b off cap bs w hr false (decide_eq_false h)).mono fun e w' q => q.1 rfl

end Go.Proofs.Ytikdkbcekibakaa
