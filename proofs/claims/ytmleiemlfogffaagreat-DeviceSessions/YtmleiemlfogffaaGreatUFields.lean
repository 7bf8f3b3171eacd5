/- The fields of a frame, as the program reads them. -/
import Derived.Test.YtmleiemlfogffaaGreatUWord
import Derived.Deep.RegionHeld3
namespace Go.Proofs.YtmleiemlfogffaaGreat
set_option maxRecDepth 100000
open Go.RowKit
theorem six_cell {w2 : World} {g b o : Nat} {x : Value} (h : w2.cell? ⟨b, o, none⟩ = some x) (hne : ¬ b = g) (v0 v1 v2 v3 v4 v5 : Value) :
    ((((((w2.setCell ⟨g, 0, none⟩ v0).setCell ⟨g, 1, none⟩ v1).setCell ⟨g, 2, none⟩ v2).setCell ⟨g, 3, none⟩ v3).setCell ⟨g, 4, none⟩ v4).setCell ⟨g, 5, none⟩ v5).cell? ⟨b, o, none⟩ = some x := by
  have hg : g ≠ b := fun e => hne e.symm
  rw [World.cell?_setCell_far _ _ _ _ hg, World.cell?_setCell_far _ _ _ _ hg, World.cell?_setCell_far _ _ _ _ hg, World.cell?_setCell_far _ _ _ _ hg, World.cell?_setCell_far _ _ _ _ hg, World.cell?_setCell_far _ _ _ _ hg]
  exact h
set_option maxRecDepth 100000 in
set_option maxHeartbeats 4000000 in
theorem fields_any (b off len cap : Nat) (bs : Nat → Nat) (w : World) (hr : Row8 w (some ⟨b, off, none⟩) len cap bs) (h1 : 19 ≤ len) (h2 : len ≤ 27) :
    Calls Tryz.prog 131 #[.slice (some ⟨b, off, none⟩) len cap] w fun e w' => ∃ a' c', e = .returned (.agg #[.int .i64 (bs 0 : Nat), .int .u32 (w4v bs 1 : Nat), .int .u32 (w4v bs 5 : Nat), .int .u32 (w4v bs 9 : Nat), .int .i64 (bs 13 : Nat), .slice a' (len - 19) c']) ∧
      Hid (w'.ownsRow w.heap.size 5 1 (.slice a' (len - 19) c') (len - 19) (CB (fun i => bs (15 + i)) (len - 19)) ∧ Below w.heap.size w w') := by
  have hcap := hr.le
  have hne : ¬ b = w.heap.size := by
    obtain ⟨b', off', e, hb', _⟩ := hr.plain (by omega)
    cases e
    omega
  have hY := box_zero w
  have hYf := fun i wx hb => unit_frozen w #[.int .i64 0, .int .u32 0, .int .u32 0, .int .u32 0, .int .i64 0, .slice none 0 0] i wx hb
  have hA : Below w.heap.size w (w.alloc (.cells #[.int .i64 0, .int .u32 0, .int .u32 0, .int .u32 0, .int .i64 0, .slice none 0 0] 57)) := (Below.refl _ _).alloc (Nat.le_refl _) _
  have hAs : w.heap.size < (w.alloc (.cells #[.int .i64 0, .int .u32 0, .int .u32 0, .int .u32 0, .int .i64 0, .slice none 0 0] 57)).heap.size := by simp
  have hAr := hr.below hA
  clear hr
  go_enter Tryz.func131, Tryz.ntmps131
  go_upto_region 1 with fail
  generalize w.alloc (.cells #[.int .i64 0, .int .u32 0, .int .u32 0, .int .u32 0, .int .i64 0, .slice none 0 0] 57) = wa at *
  have hR : ∀ wx, Below wa.heap.size wa wx → Row8 wx (some ⟨b, off, none⟩) len cap bs := fun wx hb => hAr.below hb
  have hW1 := fun wx hb => wordOf_row b off len cap 1 (len - 1) (cap - 1) bs wx (hR wx hb) (by omega) (by omega)
  have hW5 := fun wx hb => wordOf_row b off len cap 5 (len - 5) (cap - 5) bs wx (hR wx hb) (by omega) (by omega)
  have hW9 := fun wx hb => wordOf_row b off len cap 9 (len - 9) (cap - 9) bs wx (hR wx hb) (by omega) (by omega)
  obtain ⟨q, hq⟩ : ∃ q, q = len - 4 := ⟨_, rfl⟩
  have HQ : Hid (q - 15 = len - 19) := show q - 15 = len - 19 by omega
  have hqI : (len : Int) - 4 = (q : Int) := by omega
  have hqw : wrap64 ((len : Int) - 4) = (q : Int) := by unfold wrap64; omega
  have hqv : IntKind.i64.wrap ((len : Int) - 4) = (q : Int) := by rw [IntKind.wrap_i64]; omega
  have hqu : wrap64 (q : Int) = (q : Int) := by unfold wrap64; omega
  have hqt : IntKind.i64.wrap (q : Int) = (q : Int) := by rw [IntKind.wrap_i64]; omega
  have hD : ∀ wx, Below wa.heap.size wa wx → Row8 wx (some ⟨b, off + 15, none⟩) (q - 15) (cap - 15) (fun i => bs (15 + i)) := fun wx hb => by
    have R := ((hR wx hb).from_ 15 (by omega)).upto (q - 15) (by omega)
    exact R
  have hc : ∀ wx, Below wa.heap.size wa wx → wx.cell? ⟨b, off, none⟩ = some (.int .u8 (bs 0 : Nat)) ∧ wx.cell? ⟨b, off + 13, none⟩ = some (.int .u8 (bs 13 : Nat)) := fun wx hb => by
    have s := (hR wx hb).src _ rfl
    have t0 := s 0 (by omega); have t1 := s 13 (by omega)
    rw [Go.WideShapes.add_plain] at t0 t1
    exact ⟨t0, t1⟩
  have hby : ∀ i, i < q - 15 → bs (15 + i) < 256 := fun i hi => hAr.byte _ (by omega)
  obtain ⟨k0, k13⟩ := hc wa (Below.refl _ _)
  have hw0 : IntKind.i64.wrap (bs 0 : Int) = (bs 0 : Int) := by have := hAr.byte 0 (by omega); rw [IntKind.wrap_i64]; omega
  have hw13 : IntKind.i64.wrap (bs 13 : Int) = (bs 13 : Int) := by have := hAr.byte 13 (by omega); rw [IntKind.wrap_i64]; omega
  have n1 : ¬ cap = 1 := by omega
  have n5 : ¬ cap = 5 := by omega
  have n9 : ¬ cap = 9 := by omega
  have n15 : ¬ cap = 15 := by omega
  have i0 : (0 : Int) < (len : Int) := by omega
  have j0 : 0 < len := by omega
  have i1 : (1 : Int) ≤ (len : Int) := by omega
  have i5 : (5 : Int) ≤ (len : Int) := by omega
  have i9 : (9 : Int) ≤ (len : Int) := by omega
  have i13 : (13 : Int) < (len : Int) := by omega
  have iq : (15 : Int) ≤ (q : Int) := by omega
  have iq2 : (q : Int) ≤ (cap : Int) := by omega
  have iq0 : (0 : Int) ≤ (q : Int) := by omega
  have hmq : q - 15 ≤ 1000000 := by omega
  have HA : Hid (Below w.heap.size w wa ∧ w.heap.size < wa.heap.size) := ⟨hA, hAs⟩
  clear hq hAr h1 h2 hcap hA hAs hR
  go_region_held3 (fun w' => w'.cell? ⟨b, off, none⟩ = some (.int .u8 (bs 0 : Int)) ∧ w'.cell? ⟨b, off + 13, none⟩ = some (.int .u8 (bs 13 : Int))) (first | (with_reducible refine ⟨six_cell ?_ hne _ _ _ _ _ _, six_cell ?_ hne _ _ _ _ _ _⟩; exact (hc w2 hB2).1; exact (hc w2 hB2).2) | with_reducible exact hc w2 hB2 | exact hc _ (by repeat (first | with_reducible assumption | with_reducible refine below_drewN ?_ _ | with_reducible refine Below.drew ?_ | with_reducible exact Below.refl _ _))) (first
    | (refine step_draw rfl (.tmp 8) 158 rfl #[.slice (some ⟨b, off + 1, none⟩) (len - 1) (cap - 1)] _ (hW1 _ (by repeat (first | with_reducible assumption | with_reducible refine below_drewN ?_ _ | with_reducible refine Below.drew ?_ | with_reducible exact Below.refl _ _))) (by kernel_rfl) ?_; intro m)
    | (refine step_draw rfl (.tmp 11) 158 rfl #[.slice (some ⟨b, off + 5, none⟩) (len - 5) (cap - 5)] _ (hW5 _ (by repeat (first | with_reducible assumption | with_reducible refine below_drewN ?_ _ | with_reducible refine Below.drew ?_ | with_reducible exact Below.refl _ _))) (by kernel_rfl) ?_; intro m)
    | (refine step_draw rfl (.tmp 14) 158 rfl #[.slice (some ⟨b, off + 9, none⟩) (len - 9) (cap - 9)] _ (hW9 _ (by repeat (first | with_reducible assumption | with_reducible refine below_drewN ?_ _ | with_reducible refine Below.drew ?_ | with_reducible exact Below.refl _ _))) (by kernel_rfl) ?_; intro m)
    | (refine step_app_nil rfl (.const (.slice none 0 0)) (.tmp 24) rfl wa.heap.size wa (by repeat (first | with_reducible assumption | with_reducible refine below_drewN ?_ _ | with_reducible refine Below.drew ?_ | with_reducible exact Below.refl _ _)) (Nat.le_refl _) rfl ⟨b, off + 15, none⟩ (q - 15) (cap - 15) (fun i => bs (15 + i)) rfl (hD _ (by repeat (first | with_reducible assumption | with_reducible refine below_drewN ?_ _ | with_reducible refine Below.drew ?_ | with_reducible exact Below.refl _ _))) hmq hby ?_; intro a2 c2 w2 HO hB2; obtain ⟨y0, y1', y2, y3, y4, y5'⟩ := hY w2 hB2; have yf := fun i => hYf i w2 hB2; have HB : Hid (_) := hB2))
  all_goals
    go_wp2_with fail
    refine bodyPost_ret (v := .agg #[.int .i64 (bs 0 : Nat), .int .u32 (w4v bs 1 : Nat), .int .u32 (w4v bs 5 : Nat), .int .u32 (w4v bs 9 : Nat), .int .i64 (bs 13 : Nat), .slice a2 (q - 15) c2]) (by simp [results, Tryz.results131, go_sem, y0, y1', y2, y3, y4, y5']) rfl ⟨a2, c2, by rw [HQ.out], ?_, ?_⟩
    · rw [← HQ.out]
      exact own_base (six_own HO.out HA.out.2 _ _ _ _ _ _) (Nat.le_of_lt HA.out.2)
    · exact six_below (HA.out.1.trans (HB.out.mono (Nat.le_of_lt HA.out.2))) (Nat.le_refl _) _ _ _ _ _ _

end Go.Proofs.YtmleiemlfogffaaGreat
