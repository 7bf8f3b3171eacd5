/- Decode of the program. -/
import Derived.Test.YtmleiemlfogffaaGreatUFields
namespace Go.Proofs.YtmleiemlfogffaaGreat
set_option maxRecDepth 100000
open Go.RowKit
set_option maxRecDepth 100000 in
set_option maxHeartbeats 1000000 in
theorem decode_short (a : Option Addr) (len cap : Nat) (w : World) (h : len < 19) :
    Calls Tryz.prog 101 #[.slice a len cap] w fun e w' => e = .returned (.tuple #[.agg #[.int .i64 0, .int .u32 0, .int .u32 0, .int .u32 0, .int .i64 0, .slice none 0 0], .int .i64 40]) ∧ Below w.heap.size w w' := by
  have hA : Below w.heap.size w (w.alloc (.cells #[.int .i64 0, .int .u32 0, .int .u32 0, .int .u32 0, .int .i64 0, .slice none 0 0] 57)) := (Below.refl _ _).alloc (Nat.le_refl _) _
  have q : decide ((len : Int) < 19) = true := by simp; omega
  go_enter Tryz.func101, Tryz.ntmps101
  go_wp2_with fail
  refine bodyPost_ret (v := .tuple #[.agg #[.int .i64 0, .int .u32 0, .int .u32 0, .int .u32 0, .int .i64 0, .slice none 0 0], .int .i64 40]) (by simp [results, Tryz.results101, go_sem]) rfl ⟨rfl, hA⟩
set_option maxRecDepth 100000 in
set_option maxHeartbeats 1000000 in
theorem decode_big (a : Option Addr) (len cap : Nat) (w : World) (h : 27 < len) :
    Calls Tryz.prog 101 #[.slice a len cap] w fun e w' => e = .returned (.tuple #[.agg #[.int .i64 0, .int .u32 0, .int .u32 0, .int .u32 0, .int .i64 0, .slice none 0 0], .int .i64 41]) ∧ Below w.heap.size w w' := by
  have hA : Below w.heap.size w (w.alloc (.cells #[.int .i64 0, .int .u32 0, .int .u32 0, .int .u32 0, .int .i64 0, .slice none 0 0] 57)) := (Below.refl _ _).alloc (Nat.le_refl _) _
  have q : decide ((len : Int) < 19) = false := by simp; omega
  have q2 : decide ((27 : Int) < (len : Int)) = true := by simp; omega
  go_enter Tryz.func101, Tryz.ntmps101
  go_wp2_with fail
  refine bodyPost_ret (v := .tuple #[.agg #[.int .i64 0, .int .u32 0, .int .u32 0, .int .u32 0, .int .i64 0, .slice none 0 0], .int .i64 41]) (by simp [results, Tryz.results101, go_sem]) rfl ⟨rfl, hA⟩
set_option maxRecDepth 100000 in
set_option maxHeartbeats 1000000 in
theorem decode_check (a : Option Addr) (len cap : Nat) (bs : Nat → Nat) (w : World) (hr : Row8 w a len cap bs) (h1 : 19 ≤ len) (h2 : len ≤ 27) (hv : ¬ vld bs len) :
    Calls Tryz.prog 101 #[.slice a len cap] w fun e w' => e = .returned (.tuple #[.agg #[.int .i64 0, .int .u32 0, .int .u32 0, .int .u32 0, .int .i64 0, .slice none 0 0], .int .i64 42]) ∧ Below w.heap.size w w' := by
  have hA : Below w.heap.size w (w.alloc (.cells #[.int .i64 0, .int .u32 0, .int .u32 0, .int .u32 0, .int .i64 0, .slice none 0 0] 57)) := (Below.refl _ _).alloc (Nat.le_refl _) _
  have hV := valid_row a len cap bs (w.alloc (.cells #[.int .i64 0, .int .u32 0, .int .u32 0, .int .u32 0, .int .i64 0, .slice none 0 0] 57)) (hr.below hA) (by omega)
  have hd : decide (4 ≤ len ∧ PM.R PM.g 32 (PM.V (PM.fb bs) (8 * len)) = 0) = false := decide_eq_false (fun e => hv e.2)
  rw [hd] at hV
  clear hd
  have q : decide ((len : Int) < 19) = false := by simp; omega
  have q2 : decide ((27 : Int) < (len : Int)) = false := by simp; omega
  have Y := box_zero w _ (Below.refl _ _)
  have yf := fun i => unit_frozen w #[.int .i64 0, .int .u32 0, .int .u32 0, .int .u32 0, .int .i64 0, .slice none 0 0] i _ (Below.refl _ _)
  obtain ⟨y0, y1, y2, y3, y4, y5⟩ := Y
  clear hv hr
  go_enter Tryz.func101, Tryz.ntmps101
  go_wp2_with fail
  generalize w.alloc (.cells #[.int .i64 0, .int .u32 0, .int .u32 0, .int .u32 0, .int .i64 0, .slice none 0 0] 57) = wa at *
  refine hV.mono ?_
  rintro e w1 ⟨rfl, m, rfl⟩
  clear hV
  go_wp2_with fail
  refine bodyPost_ret (v := .tuple #[.agg #[.int .i64 0, .int .u32 0, .int .u32 0, .int .u32 0, .int .i64 0, .slice none 0 0], .int .i64 42]) (by simp [results, Tryz.results101, go_sem, y0, y1, y2, y3, y4, y5]) rfl ⟨rfl, six_below (below_drewN hA _) (Nat.le_refl _) _ _ _ _ _ _⟩
set_option maxRecDepth 100000 in
set_option maxHeartbeats 2000000 in
theorem decode_law (b off len cap : Nat) (bs : Nat → Nat) (w : World) (hr : Row8 w (some ⟨b, off, none⟩) len cap bs) (h1 : 19 ≤ len) (h2 : len ≤ 27) (hv : vld bs len) (E : Int) (hE : LW (bs 0) (w4v bs 1) (w4v bs 5) (w4v bs 9) (bs 13) ((len - 19 : Nat) : Int) (bs 14) = E) :
    Calls Tryz.prog 101 #[.slice (some ⟨b, off, none⟩) len cap] w fun e w' =>
      (E ≠ 0 → e = .returned (.tuple #[.agg #[.int .i64 0, .int .u32 0, .int .u32 0, .int .u32 0, .int .i64 0, .slice none 0 0], .int .i64 E]) ∧ Below w.heap.size w w') ∧
      (E = 0 → ∃ a' c', e = .returned (.tuple #[.agg #[.int .i64 (bs 0 : Nat), .int .u32 (w4v bs 1 : Nat), .int .u32 (w4v bs 5 : Nat), .int .u32 (w4v bs 9 : Nat), .int .i64 (bs 13 : Nat), .slice a' (len - 19) c'], .int .i64 0]) ∧
        Hid (w'.ownsRow w.heap.size 5 1 (.slice a' (len - 19) c') (len - 19) (CB (fun i => bs (15 + i)) (len - 19)) ∧ Below w.heap.size w w')) := by
  have hA : Below w.heap.size w (w.alloc (.cells #[.int .i64 0, .int .u32 0, .int .u32 0, .int .u32 0, .int .i64 0, .slice none 0 0] 57)) := (Below.refl _ _).alloc (Nat.le_refl _) _
  have hAs : w.heap.size < (w.alloc (.cells #[.int .i64 0, .int .u32 0, .int .u32 0, .int .u32 0, .int .i64 0, .slice none 0 0] 57)).heap.size := by simp
  have hY := box_zero w
  have hYf := fun i wx hb => unit_frozen w #[.int .i64 0, .int .u32 0, .int .u32 0, .int .u32 0, .int .i64 0, .slice none 0 0] i wx hb
  have hrA := hr.below hA
  have hV := valid_row _ len cap bs (w.alloc (.cells #[.int .i64 0, .int .u32 0, .int .u32 0, .int .u32 0, .int .i64 0, .slice none 0 0] 57)) hrA (by omega)
  have hd : decide (4 ≤ len ∧ PM.R PM.g 32 (PM.V (PM.fb bs) (8 * len)) = 0) = true := decide_eq_true ⟨by omega, hv⟩
  rw [hd] at hV
  clear hd
  have q : decide ((len : Int) < 19) = false := by simp; omega
  have q2 : decide ((27 : Int) < (len : Int)) = false := by simp; omega
  have h14 : (bs 14) < 256 := hr.byte 14 (by omega)
  have hw14 : IntKind.i64.wrap (bs 14 : Int) = (bs 14 : Int) := by rw [IntKind.wrap_i64]; omega
  have i14 : (14 : Int) < (len : Int) := by omega
  clear hv hr
  go_enter Tryz.func101, Tryz.ntmps101
  go_wp2_with fail
  generalize w.alloc (.cells #[.int .i64 0, .int .u32 0, .int .u32 0, .int .u32 0, .int .i64 0, .slice none 0 0] 57) = wa at *
  refine hV.mono ?_
  rintro e w1 ⟨rfl, m, rfl⟩
  have hM : Below wa.heap.size wa (wa.drewN m) := below_drewN (Below.refl _ _) m
  have hF := fields_any b off len cap bs (wa.drewN m) (hrA.below hM) h1 h2
  rw [show (wa.drewN m).heap.size = wa.heap.size by simp] at hF
  clear hV
  go_wp2_with fail
  refine hF.mono ?_
  rintro e w2 ⟨a2, c2, rfl, H2⟩
  have hb2 : Below wa.heap.size wa w2 := hM.trans H2.out.2
  have hs2 := hb2.size
  clear hF hM
  obtain ⟨n, hn⟩ : ∃ n, n = len - 19 := ⟨_, rfl⟩
  rw [← hn] at hE H2 ⊢
  have HN : Hid (n = len - 19) := hn
  have hX := box_new w2 (bs 0 : Nat) (w4v bs 1) (w4v bs 5) (w4v bs 9) (bs 13 : Nat) (.slice a2 n c2)
  have hC : Below wa.heap.size wa (w2.alloc (.cells #[.int .i64 (bs 0 : Nat), .int .u32 (w4v bs 1 : Nat), .int .u32 (w4v bs 5 : Nat), .int .u32 (w4v bs 9 : Nat), .int .i64 (bs 13 : Nat), .slice a2 n c2] 57)) := hb2.alloc hs2 _
  have hO := H2.out.1.alloc (.cells #[.int .i64 (bs 0 : Nat), .int .u32 (w4v bs 1 : Nat), .int .u32 (w4v bs 5 : Nat), .int .u32 (w4v bs 9 : Nat), .int .i64 (bs 13 : Nat), .slice a2 n c2] 57)
  have hCs : w2.heap.size < (w2.alloc (.cells #[.int .i64 (bs 0 : Nat), .int .u32 (w4v bs 1 : Nat), .int .u32 (w4v bs 5 : Nat), .int .u32 (w4v bs 9 : Nat), .int .i64 (bs 13 : Nat), .slice a2 n c2] 57)).heap.size := by simp
  clear hn H2
  go_upto_region 8 with fail
  generalize w2.alloc (.cells #[.int .i64 (bs 0 : Nat), .int .u32 (w4v bs 1 : Nat), .int .u32 (w4v bs 5 : Nat), .int .u32 (w4v bs 9 : Nat), .int .i64 (bs 13 : Nat), .slice a2 n c2] 57) = w3 at *
  have X3 := hX w3 (Below.refl _ _)
  obtain ⟨x0, x1, x2, x3, x4, x5⟩ := X3
  have k14 := (hrA.below hC).src _ rfl 14 (by omega)
  rw [Go.WideShapes.add_plain] at k14
  have hFt := fault_any (bs 0 : Nat) (w4v bs 1) (w4v bs 5) (w4v bs 9) (bs 13 : Nat) a2 n c2 (bs 14 : Nat) w3.drew
  rw [hE] at hFt
  go_cut [5] (fun v wx => v = .int .i64 E ∧ Hid (Below w3.heap.size w3 wx))
  case first =>
    go_region_with (go_at_call 132; refine hFt.mono ?_; rintro e w4 ⟨rfl, hb4⟩)
    all_goals (go_wp2_with fail; go_meet; exact ⟨rfl, (Below.refl _ _).drew.trans hb4⟩)
  case rest =>
    obtain ⟨rfl, H4⟩ := hcut
    obtain ⟨w4, rfl⟩ : ∃ x, x = wc := ⟨_, rfl⟩
    have hs3 := hC.size
    have hb4 : Below wa.heap.size wa w4 := below_all hC hs3 H4.out
    have Y4 := hY w4 hb4
    have yf := fun i => hYf i w4 hb4
    obtain ⟨y0, y1, y2, y3, y4, y5⟩ := Y4
    have X4 := hX w4 H4.out
    obtain ⟨z0, z1, z2, z3, z4, z5⟩ := X4
    have hO4 := own_below hO H4.out
    have HH : Hid (_) := And.intro hA (And.intro hAs (And.intro hb4 hO4))
    clear hFt hE hX hY hYf x0 x1 x2 x3 x4 x5 k14 hC hO hCs hb2 hs2 hrA H4 hb4 hO4 hA hAs hs3
    by_cases hE0 : E = 0
    · subst hE0
      go_wp2_with fail
      refine bodyPost_ret (v := .tuple #[.agg #[.int .i64 (bs 0 : Nat), .int .u32 (w4v bs 1 : Nat), .int .u32 (w4v bs 5 : Nat), .int .u32 (w4v bs 9 : Nat), .int .i64 (bs 13 : Nat), .slice a2 n c2], .int .i64 0]) (by simp [results, Tryz.results101, go_sem, y0, y1, y2, y3, y4, y5]) rfl ⟨a2, c2, by rw [← HN.out], ?_, ?_⟩
      · rw [← HN.out]
        exact own_base (six_own HH.out.2.2.2 HH.out.2.1 _ _ _ _ _ _) (Nat.le_of_lt HH.out.2.1)
      · exact six_below (HH.out.1.trans (HH.out.2.2.1.mono (Nat.le_of_lt HH.out.2.1))) (Nat.le_refl _) _ _ _ _ _ _
    · have qE : (E == 0) = false := by simpa using hE0
      go_wp2_with fail
      refine bodyPost_ret (v := .tuple #[.agg #[.int .i64 0, .int .u32 0, .int .u32 0, .int .u32 0, .int .i64 0, .slice none 0 0], .int .i64 E]) (by simp [results, Tryz.results101, go_sem, y0, y1, y2, y3, y4, y5]) rfl ⟨fun _ => ⟨rfl, ?_⟩, fun h => absurd h hE0⟩
      exact six_below (HH.out.1.trans (HH.out.2.2.1.mono (Nat.le_of_lt HH.out.2.1))) (Nat.le_refl _) _ _ _ _ _ _
theorem decode_ok (a : Option Addr) (len cap : Nat) (bs : Nat → Nat) (w : World) (hr : Row8 w a len cap bs) (h : DE bs len = 0) :
    Calls Tryz.prog 101 #[.slice a len cap] w fun e w' => ∃ a' c', e = .returned (.tuple #[.agg #[.int .i64 (bs 0 : Nat), .int .u32 (w4v bs 1 : Nat), .int .u32 (w4v bs 5 : Nat), .int .u32 (w4v bs 9 : Nat), .int .i64 (bs 13 : Nat), .slice a' (len - 19) c'], .int .i64 0]) ∧
        Hid (w'.ownsRow w.heap.size 5 1 (.slice a' (len - 19) c') (len - 19) (CB (fun i => bs (15 + i)) (len - 19)) ∧ Below w.heap.size w w') := by
  obtain ⟨h1, h2, h3, h4⟩ := DE_zero h
  obtain ⟨b, off, rfl, _, _⟩ := hr.plain (by omega)
  exact (decode_law b off len cap bs w hr h1 h2 h3 0 h4).mono fun e w' h => h.2 rfl
theorem decode_no (a : Option Addr) (len cap : Nat) (bs : Nat → Nat) (w : World) (hr : Row8 w a len cap bs) (h : DE bs len ≠ 0) :
    Calls Tryz.prog 101 #[.slice a len cap] w fun e w' => e = .returned (.tuple #[.agg #[.int .i64 0, .int .u32 0, .int .u32 0, .int .u32 0, .int .i64 0, .slice none 0 0], .int .i64 (DE bs len)]) ∧ Below w.heap.size w w' := by
  by_cases h1 : len < 19
  · rw [show DE bs len = 40 from if_pos h1]
    exact decode_short a len cap w h1
  · by_cases h2 : 27 < len
    · rw [show DE bs len = 41 by unfold DE; rw [if_neg h1, if_pos h2]]
      exact decode_big a len cap w h2
    · by_cases h3 : vld bs len
      · have hD : DE bs len = LW (bs 0) (w4v bs 1) (w4v bs 5) (w4v bs 9) (bs 13) ((len - 19 : Nat) : Int) (bs 14) := by unfold DE; rw [if_neg h1, if_neg h2, if_neg (fun e => e h3)]
        obtain ⟨b, off, rfl, _, _⟩ := hr.plain (by omega)
        exact (decode_law b off len cap bs w hr (by omega) (by omega) h3 _ hD.symm).mono fun e w' q => q.1 h
      · rw [DE_check (by omega) (by omega) h3]
        exact decode_check a len cap bs w hr (by omega) (by omega) h3

end Go.Proofs.YtmleiemlfogffaaGreat
