/- Encode of the program. -/
import Derived.Test.YtmleiemlfogffaaGreatPar
namespace Go.Proofs.YtmleiemlfogffaaGreat
set_option maxRecDepth 100000
open Go.RowKit
theorem hid {p : Prop} (h : p) : Hid p := h
set_option maxRecDepth 100000 in
set_option maxHeartbeats 2000000 in
theorem pencode_bad (c : Nat) (o i t : Int) (n : Nat) (w : World) (hE : ¬ okP c o i t n) :
    Calls Tryz.prog 212 #[.agg #[.int .u32 c, .int .i64 o, .int .i64 i, .int .i64 t, .int .u32 n]] w fun e w' => e = .returned (.tuple #[.slice none 0 0, .int .i64 90]) ∧ Below w.heap.size w w' := by
  have hb : Below w.heap.size w (w.alloc (.cells #[.int .u32 c, .int .i64 o, .int .i64 i, .int .i64 t, .int .u32 n] 24)) := (Below.refl _ _).alloc (Nat.le_refl _) _
  have hF := check_any c o i t n (w.alloc (.cells #[.int .u32 c, .int .i64 o, .int .i64 i, .int .i64 t, .int .u32 n] 24)) 90 (if_neg hE)
  clear hE
  go_enter Tryz.func212, Tryz.ntmps212
  go_wp2_with fail
  refine hF.mono ?_
  rintro e w1 ⟨rfl, hb1⟩
  have hb2 := below_all hb hb.size hb1
  clear hb hF hb1
  go_wp2_with fail
  go_ret2
  exact ⟨rfl, hb2⟩
set_option maxRecDepth 100000 in
set_option maxHeartbeats 4000000 in
theorem pencode_good (c O I T n : Nat) (w : World) (hc : c < 4294967296) (hn : n < 4294967296) (hE : okP c O I T n) :
    Calls Tryz.prog 212 #[.agg #[.int .u32 c, .int .i64 O, .int .i64 I, .int .i64 T, .int .u32 n]] w fun e w' => ∃ g, e = .returned (.tuple #[.slice (some ⟨g, 0, none⟩) 14 14, .int .i64 0]) ∧
      Hid (w.heap.size ≤ g ∧ w'.ownsRow w.heap.size 5 1 (.slice (some ⟨g, 0, none⟩) 14 14) 14 (CB (pe c O I T n) 14) ∧ Below w.heap.size w w') := by
  obtain ⟨i0, hi, hz0, hz1, hz2⟩ := info_parts info_u8
  obtain ⟨_, hO, hI, hT, _⟩ := id hE
  have hA : Below w.heap.size w (w.alloc (.cells #[.int .u32 c, .int .i64 O, .int .i64 I, .int .i64 T, .int .u32 n] 24)) := (Below.refl _ _).alloc (Nat.le_refl _) _
  have hAs : w.heap.size < (w.alloc (.cells #[.int .u32 c, .int .i64 O, .int .i64 I, .int .i64 T, .int .u32 n] 24)).heap.size := by simp
  have hF := check_any c O I T n (w.alloc (.cells #[.int .u32 c, .int .i64 O, .int .i64 I, .int .i64 T, .int .u32 n] 24)) 0 (if_pos hE)
  have hX := bx_new w c O I T n
  have hOm : (O : Int) % 256 = (O : Int) := by omega
  have hIm : (I : Int) % 256 = (I : Int) := by omega
  have hTm : (T : Int) % 4294967296 = (T : Int) := by omega
  have hT2 : T < 4294967296 := by omega
  have hwT : IntKind.u32.wrap (T : Int) = (T : Int) := by rw [IntKind.wrap_u32]; omega
  have hbT : ∀ wx, Calls Tryz.prog 196 #[.int .u32 (IntKind.u32.wrap (T : Int))] wx _ := fun wx => by rw [hwT]; exact bytes4_any T wx hT2
  clear hwT hTm
  clear hE hO hI hT
  go_enter Tryz.func212, Tryz.ntmps212
  go_wp2_with fail
  generalize w.alloc (.cells #[.int .u32 c, .int .i64 O, .int .i64 I, .int .i64 T, .int .u32 n] 24) = wa at *
  refine hF.mono ?_
  rintro e w1 ⟨rfl, hb1⟩
  have hs1 : wa.heap.size ≤ w1.heap.size := hb1.size
  clear hF
  go_wp2_with (at_make; refine wpList_make8 _ rfl (.const (.int .i64 14)) (.const (.int .i64 14)) 25 rfl wa.heap.size 5 i0 Tryz.underlying25 hi hz0 hz1 hz2 _ _ _ _ 14 14 rfl rfl rfl rfl (Nat.le_refl _) (by omega) hs1 ?_)
  intro w2 hown2 hbel2
  have hB2 : Below wa.heap.size wa w2 := hb1.trans hbel2
  generalize w1.heap.size = g at *
  clear hb1 hbel2
  have S2 := (hX w2 hB2).c0
  have hx2 : ∀ wx, Below w2.heap.size w2 wx → wx.cell? ⟨w.heap.size, 0, none⟩ = some (.int .u32 c) := fun wx h => (hX wx (below_all hB2 hB2.size h)).c0
  have ho2 := fun wx (h : Below w2.heap.size w2 wx) => own_below hown2 h
  have hb2 := fun wx (h : Below w2.heap.size w2 wx) => below_all hB2 hB2.size h
  go_wp2_with fail
  go_region_held3 (fun w' => w'.cell? ⟨w.heap.size, 0, none⟩ = some (.int .u32 c)) (first | assumption | exact (hX _ (by with_reducible assumption)).c0 | exact hx2 _ (by repeat (first | with_reducible assumption | with_reducible refine below_drewN ?_ _ | with_reducible refine Below.drew ?_ | with_reducible refine belowA ?_ _ | with_reducible exact Below.refl _ _))) (first
    | (refine step_call rfl 196 #[.tmp 15] #[22] rfl #[.int .u32 c] _ (by kernel_rfl) (bytes4_any c _ hc) ?_; rintro w3 rfl)
    | (refine step_copy8P rfl (.tmp 13) (.tmp 16) rfl wa.heap.size g 14 14 0 14 14 _ rfl (ho2 _ (by repeat (first | with_reducible assumption | with_reducible refine below_drewN ?_ _ | with_reducible refine Below.drew ?_ | with_reducible refine belowA ?_ _ | with_reducible exact Below.refl _ _))) _ 4 4 _ rfl (row4P _ c hc) (by omega) (by omega) wa (hb2 _ (by repeat (first | with_reducible assumption | with_reducible refine below_drewN ?_ _ | with_reducible refine Below.drew ?_ | with_reducible refine belowA ?_ _ | with_reducible exact Below.refl _ _))) ?_; intro w3 H3 hB3))
  clear S2 hx2 ho2 hb2 hown2
  clear hB2
  have hcx := H3.out.cellAt 4 (by omega)
  rw [CB_get _ _ _ (show 4 < 14 by omega)] at hcx
  have hfx := H3.out.frozenAt 4
  have hown4 := (H3.out.stored 4 (.int .u8 ((O : Nat) : Int))).1
  rw [CB_set] at hown4
  have hB4 := hB3.setCell (p := ⟨g, 4, none⟩) hs1 (.int .u8 ((O : Nat) : Int))
  have x4 := (hX w3 hB3).c1
  have H4 := hid hown4
  clear hown4 H3 hB3
  go_upto_region 7 with fail
  generalize w3.setCell ⟨g, 4, none⟩ (.int .u8 (O : Int)) = w4 at *
  clear hcx hfx x4
  have hcx := H4.out.cellAt 5 (by omega)
  rw [CB_get _ _ _ (show 5 < 14 by omega)] at hcx
  have hfx := H4.out.frozenAt 5
  have hown5 := (H4.out.stored 5 (.int .u8 ((I : Nat) : Int))).1
  rw [CB_set] at hown5
  have hB5 := hB4.setCell (p := ⟨g, 5, none⟩) hs1 (.int .u8 ((I : Nat) : Int))
  have x5 := (hX w4 hB4).c2
  have H5 := hid hown5
  clear hown5 H4 hB4
  go_upto_region 8 with fail
  generalize w4.setCell ⟨g, 5, none⟩ (.int .u8 (I : Int)) = w5 at *
  clear hcx hfx x5
  have S5 := (hX w5 hB5).c3
  have hx5 : ∀ wx, Below w5.heap.size w5 wx → wx.cell? ⟨w.heap.size, 3, none⟩ = some (.int .i64 T) := fun wx h => (hX wx (below_all hB5 hB5.size h)).c3
  have ho5 := fun wx (h : Below w5.heap.size w5 wx) => own_below H5.out h
  have hb5 := fun wx (h : Below w5.heap.size w5 wx) => below_all hB5 hB5.size h
  go_wp2_with fail
  go_region_held3 (fun w' => w'.cell? ⟨w.heap.size, 3, none⟩ = some (.int .i64 T)) (first | assumption | exact (hX _ (by with_reducible assumption)).c3 | exact hx5 _ (by repeat (first | with_reducible assumption | with_reducible refine below_drewN ?_ _ | with_reducible refine Below.drew ?_ | with_reducible refine belowA ?_ _ | with_reducible exact Below.refl _ _))) (first
    | (refine step_call rfl 196 #[.tmp 32] #[22] rfl #[.int .u32 (IntKind.u32.wrap (T : Int))] _ (by kernel_rfl) (hbT _) ?_; rintro w3 rfl)
    | (refine step_copy8P rfl (.tmp 29) (.tmp 33) rfl wa.heap.size g 14 14 6 8 8 _ rfl (ho5 _ (by repeat (first | with_reducible assumption | with_reducible refine below_drewN ?_ _ | with_reducible refine Below.drew ?_ | with_reducible refine belowA ?_ _ | with_reducible exact Below.refl _ _))) _ 4 4 _ rfl (row4P _ T hT2) (by omega) (by omega) wa (hb5 _ (by repeat (first | with_reducible assumption | with_reducible refine below_drewN ?_ _ | with_reducible refine Below.drew ?_ | with_reducible refine belowA ?_ _ | with_reducible exact Below.refl _ _))) ?_; intro w6 H6 hB6))
  clear S5 hx5 ho5 hb5 H5
  clear hB5
  have S6 := (hX w6 hB6).c4
  have hx6 : ∀ wx, Below w6.heap.size w6 wx → wx.cell? ⟨w.heap.size, 4, none⟩ = some (.int .u32 n) := fun wx h => (hX wx (below_all hB6 hB6.size h)).c4
  have ho6 := fun wx (h : Below w6.heap.size w6 wx) => own_below H6.out h
  have hb6 := fun wx (h : Below w6.heap.size w6 wx) => below_all hB6 hB6.size h
  go_wp2_with fail
  go_region_held3 (fun w' => w'.cell? ⟨w.heap.size, 4, none⟩ = some (.int .u32 n)) (first | assumption | exact (hX _ (by with_reducible assumption)).c4 | exact hx6 _ (by repeat (first | with_reducible assumption | with_reducible refine below_drewN ?_ _ | with_reducible refine Below.drew ?_ | with_reducible refine belowA ?_ _ | with_reducible exact Below.refl _ _))) (first
    | (refine step_call rfl 196 #[.tmp 38] #[22] rfl #[.int .u32 n] _ (by kernel_rfl) (bytes4_any n _ hn) ?_; rintro w3 rfl)
    | (refine step_copy8P rfl (.tmp 36) (.tmp 39) rfl wa.heap.size g 14 14 10 4 4 _ rfl (ho6 _ (by repeat (first | with_reducible assumption | with_reducible refine below_drewN ?_ _ | with_reducible refine Below.drew ?_ | with_reducible refine belowA ?_ _ | with_reducible exact Below.refl _ _))) _ 4 4 _ rfl (row4P _ n hn) (by omega) (by omega) wa (hb6 _ (by repeat (first | with_reducible assumption | with_reducible refine below_drewN ?_ _ | with_reducible refine Below.drew ?_ | with_reducible refine belowA ?_ _ | with_reducible exact Below.refl _ _))) ?_; intro w7 H7 hB7))
  clear S6 hx6 ho6 hb6 H6
  clear hB6
  have HB : Hid (_) := And.intro (H7.out) (hA.trans (hB7.mono (Nat.le_of_lt hAs)))
  clear hA hB7
  go_wp2_with fail
  go_ret2
  refine ⟨g, rfl, by omega, ?_, HB.out.2⟩
  have h := own_base HB.out.1 (Nat.le_of_lt hAs)
  rw [CB_congr _ (pe c O I T n) 14 ?_] at h
  · exact h
  · intro k hk
    unfold pe
    by_cases h1 : k < 4
    · rw [if_neg (by omega), if_neg (by omega), if_neg (by omega), if_neg (by omega), if_pos (by omega), if_pos h1, Nat.sub_zero]
    · rw [if_neg h1]
      by_cases h2 : k = 4
      · rw [if_neg (by omega), if_neg (by omega), if_neg (by omega), if_pos h2, if_pos h2]
      · rw [if_neg h2]
        by_cases h3 : k = 5
        · rw [if_neg (by omega), if_neg (by omega), if_pos h3, if_neg h2, if_pos h3]
        · rw [if_neg h3]
          by_cases h4 : k < 10
          · rw [if_neg (by omega), if_pos (by omega), if_neg h2, if_neg h3, if_pos h4]
          · rw [if_pos (by omega), if_neg h2, if_neg h3, if_neg h4]

end Go.Proofs.YtmleiemlfogffaaGreat
