/- Part 12 of the texts on which the proofs of layer 13 rest: contracts of Go functions. -/
import Derived.Deep.RegionLaw
import Derived.Deep.RegionHeld3
import Derived.Sort.WalkA
import Derived.Test.YtndjepeolamedaaGreatPkA00
import Derived.Test.YtndjepeolamedaaGreatPkA06
import Derived.Test.YtndjepeolamedaaGreatPkA07
import Derived.Test.YtndjepeolamedaaGreatPkA08
import Derived.Test.YtndjepeolamedaaGreatPkA10
namespace Go.Proofs.YtndjepeolamedaaGreat
set_option maxRecDepth 100000
open Go.RowKit
end Go.Proofs.YtndjepeolamedaaGreat
namespace Go.Proofs.YtndjepeolamedaaGreat
set_option maxRecDepth 100000
open Go.RowKit
end Go.Proofs.YtndjepeolamedaaGreat
namespace Go.Proofs.YtndjepeolamedaaGreat
set_option maxRecDepth 100000
open Go.RowKit
end Go.Proofs.YtndjepeolamedaaGreat
namespace Go.Proofs.YtndjepeolamedaaGreat
set_option maxRecDepth 100000
open Go.RowKit
end Go.Proofs.YtndjepeolamedaaGreat
namespace Go.Proofs.YtndjepeolamedaaGreat
set_option maxRecDepth 100000
open Go.RowKit
end Go.Proofs.YtndjepeolamedaaGreat
namespace Go.Proofs.YtndjepeolamedaaGreat
set_option maxRecDepth 100000
open Go.RowKit
theorem box_zero (w : World) (wx : World) (hb : Below (w.alloc (.cells #[.int .i64 0, .int .u32 0, .int .u32 0, .int .u32 0, .int .i64 0, .slice none 0 0] 67)).heap.size (w.alloc (.cells #[.int .i64 0, .int .u32 0, .int .u32 0, .int .u32 0, .int .i64 0, .slice none 0 0] 67)) wx) :
    Box wx w.heap.size 0 0 0 0 0 (.slice none 0 0) := box_new w 0 0 0 0 0 _ wx hb
theorem unit_frozen (w : World) (o : Array Value) (i : Nat) (wx : World) (hb : Below (w.alloc (.cells o 67)).heap.size (w.alloc (.cells o 67)) wx) : wx.frozen? ⟨w.heap.size, i, none⟩ = false := by
  rw [hb.frozen (p := ⟨w.heap.size, i, none⟩) (by simp)]
  simp
end Go.Proofs.YtndjepeolamedaaGreat
namespace Go.Proofs.YtndjepeolamedaaGreat
set_option maxRecDepth 100000
open Go.RowKit
theorem step_draw {P : Program} {ops : Array Oper} {o : Oper} {a : Act} {w : World} {K : Act → World → Prop} {Q : Exit → Act → World → Prop} {E : Prop}
    (hg : o.guard = none) (t : Operand) (f : FuncId) (_ : o.op = .call { callee := .value (.func f), args := #[t], argTypes := #[22] }) (args : Array Value) (v : Value) (hc : Calls P f args w fun e w' => e = .returned v ∧ ∃ m, w' = w.drewN m) (hrun : (execOp a.eval o).run P w = .ok (.enter f args) w) (hK : ∀ m, K (a.put o.dst v) (w.drewN m)) :
    if Region.wanted o (yielded ops a.tmps) = true then Oper.wp P o a w K Q else E := by
  have hw : Region.wanted o (yielded ops a.tmps) = true := by simp [Region.wanted, hg]
  rw [if_pos hw]
  unfold Oper.wp
  rw [hrun]
  refine hc.mono ?_
  rintro e w'' ⟨rfl, m, rfl⟩
  exact hK m
theorem step_app_nil {ops : Array Oper} {o : Oper} {a : Act} {w : World} {K : Act → World → Prop} {Q : Exit → Act → World → Prop} {E : Prop}
    (hg : o.guard = none) (s x : Operand) (hop : o.op = Op.call { callee := Callee.builtin Builtin.append, args := #[s, x], argTypes := #[22, 22] })
    (B : Nat) (w0 : World) (hb : Below B w0 w) (hB0 : B ≤ w0.heap.size) (hs : a.eval s = .slice none 0 0) (ad : Addr) (m c : Nat) (bs : Nat → Nat) (hx : a.eval x = .slice (some ad) m c) (hrow : Row8 w (some ad) m c bs) (hm : m ≤ 1000000) (hby : ∀ i, i < m → bs i < 256)
    (hK : ∀ a' c' w', Hid (w'.ownsRow B 5 1 (.slice a' m c') m (CB bs m)) → Below B w0 w' → K (a.put o.dst (.slice a' m c')) w') :
    if Region.wanted o (yielded ops a.tmps) = true then Oper.wp Tryz.prog o a w K Q else E := by
  obtain ⟨i0, hi, hz0, hz1, hz2⟩ := info_parts info_u8
  have hw : Region.wanted o (yielded ops a.tmps) = true := by simp [Region.wanted, hg]
  rw [if_pos hw]
  have hBw : B ≤ w.heap.size := Nat.le_trans hB0 hb.size
  refine wp_append_own w s x _ hop B 5 i0 (.int .u8 0) 1 1 Tryz.underlying22 hi hz0 hz1 hz2 rfl (by decide) _ 0 [] hs (World.ownsRow_nil _ _ _ _) ad m c (CB bs m) hx (by rw [CB_length, Nat.mul_one]) ?_ (CB_one bs m) (by unfold maxLen; omega) (by omega) hBw ?_
  · intro j u hj
    by_cases hlt : j < m
    · rw [CB_get bs m j hlt] at hj
      cases hj
      exact hrow.src ad rfl j hlt
    · rw [CB_none bs m j (by omega)] at hj; cases hj
  · intro v' w' h1 h2 _
    rw [List.nil_append, Nat.zero_add] at h1
    obtain ⟨a', c', rfl, _⟩ := own_row8 h1 hby
    exact hK a' c' w' h1 (hb.grown h2 hBw (fun j hj => by cases hj))
set_option maxHeartbeats 1000000 in
theorem wordOf_any (b off len cap x0 x1 x2 x3 : Nat) (w : World) (hlen : (3 : Int) < (len : Int)) (h0 : x0 < 256) (h1 : x1 < 256) (h2 : x2 < 256) (h3 : x3 < 256)
    (c0 : w.cell? ⟨b, off, none⟩ = some (.int .u8 x0)) (c1 : w.cell? ⟨b, off + 1, none⟩ = some (.int .u8 x1)) (c2 : w.cell? ⟨b, off + 2, none⟩ = some (.int .u8 x2)) (c3 : w.cell? ⟨b, off + 3, none⟩ = some (.int .u8 x3)) :
    Calls Tryz.prog 202 #[.slice (some ⟨b, off, none⟩) len cap] w fun e w' => e = .returned (.int .u32 ((x0 * 16777216 + x1 * 65536 + x2 * 256 + x3 : Nat) : Int)) ∧ ∃ m, w' = w.drewN m := by
  have hn := word_num x0 x1 x2 x3 h0 h1 h2 h3
  have l0 : (0 : Int) < (len : Int) := by omega
  have l1 : (1 : Int) < (len : Int) := by omega
  have l2 : (2 : Int) < (len : Int) := by omega
  generalize x0 * 16777216 + x1 * 65536 + x2 * 256 + x3 = y at *
  go_enter Tryz.func202, Tryz.ntmps202
  go_wp2_with fail
  go_quiet (fail)
  go_wp2
  go_ret
  exact ⟨rfl, _, rfl⟩
theorem wordOf_row (b off len cap i L C : Nat) (bs : Nat → Nat) (w : World) (hr : Row8 w (some ⟨b, off, none⟩) len cap bs) (h : i + 4 ≤ len) (hL : 4 ≤ L) :
    Calls Tryz.prog 202 #[.slice (some ⟨b, off + i, none⟩) L C] w fun e w' => e = .returned (.int .u32 (w4v bs i : Nat)) ∧ ∃ m, w' = w.drewN m := by
  have s := hr.src _ rfl
  have q := hr.byte
  have t0 := s i (by omega); have t1 := s (i + 1) (by omega); have t2 := s (i + 2) (by omega); have t3 := s (i + 3) (by omega)
  rw [Go.WideShapes.add_plain] at t0 t1 t2 t3
  exact wordOf_any b (off + i) L C _ _ _ _ w (by omega) (q i (by omega)) (q (i + 1) (by omega)) (q (i + 2) (by omega)) (q (i + 3) (by omega)) t0 t1 t2 t3
theorem six_own {w2 : World} {B g m : Nat} {v : Value} {xs : List Value} (h : w2.ownsRow B 5 1 v m xs) (hlt : g < B) (v0 v1 v2 v3 v4 v5 : Value) :
    ((((((w2.setCell ⟨g, 0, none⟩ v0).setCell ⟨g, 1, none⟩ v1).setCell ⟨g, 2, none⟩ v2).setCell ⟨g, 3, none⟩ v3).setCell ⟨g, 4, none⟩ v4).setCell ⟨g, 5, none⟩ v5).ownsRow B 5 1 v m xs :=
  ownsRow_setCell_below (ownsRow_setCell_below (ownsRow_setCell_below (ownsRow_setCell_below (ownsRow_setCell_below (ownsRow_setCell_below h (a := ⟨g, 0, none⟩) hlt _) (a := ⟨g, 1, none⟩) hlt _) (a := ⟨g, 2, none⟩) hlt _) (a := ⟨g, 3, none⟩) hlt _) (a := ⟨g, 4, none⟩) hlt _) (a := ⟨g, 5, none⟩) hlt _
theorem six_below {w w2 : World} {B g : Nat} (h : Below B w w2) (hle : B ≤ g) (v0 v1 v2 v3 v4 v5 : Value) :
    Below B w ((((((w2.setCell ⟨g, 0, none⟩ v0).setCell ⟨g, 1, none⟩ v1).setCell ⟨g, 2, none⟩ v2).setCell ⟨g, 3, none⟩ v3).setCell ⟨g, 4, none⟩ v4).setCell ⟨g, 5, none⟩ v5) :=
  (((((h.setCell (p := ⟨g, 0, none⟩) hle _).setCell (p := ⟨g, 1, none⟩) hle _).setCell (p := ⟨g, 2, none⟩) hle _).setCell (p := ⟨g, 3, none⟩) hle _).setCell (p := ⟨g, 4, none⟩) hle _).setCell (p := ⟨g, 5, none⟩) hle _
end Go.Proofs.YtndjepeolamedaaGreat
namespace Go.Proofs.YtndjepeolamedaaGreat
set_option maxRecDepth 100000
open Go.RowKit
theorem six_cell {w2 : World} {g b o : Nat} {x : Value} (h : w2.cell? ⟨b, o, none⟩ = some x) (hne : ¬ b = g) (v0 v1 v2 v3 v4 v5 : Value) :
    ((((((w2.setCell ⟨g, 0, none⟩ v0).setCell ⟨g, 1, none⟩ v1).setCell ⟨g, 2, none⟩ v2).setCell ⟨g, 3, none⟩ v3).setCell ⟨g, 4, none⟩ v4).setCell ⟨g, 5, none⟩ v5).cell? ⟨b, o, none⟩ = some x := by
  have hg : g ≠ b := fun e => hne e.symm
  rw [World.cell?_setCell_far _ _ _ _ hg, World.cell?_setCell_far _ _ _ _ hg, World.cell?_setCell_far _ _ _ _ hg, World.cell?_setCell_far _ _ _ _ hg, World.cell?_setCell_far _ _ _ _ hg, World.cell?_setCell_far _ _ _ _ hg]
  exact h
set_option maxRecDepth 100000 in
set_option maxHeartbeats 4000000 in
theorem fields_any (b off len cap : Nat) (bs : Nat → Nat) (w : World) (hr : Row8 w (some ⟨b, off, none⟩) len cap bs) (h1 : 19 ≤ len) (h2 : len ≤ 27) :
    Calls Tryz.prog 157 #[.slice (some ⟨b, off, none⟩) len cap] w fun e w' => ∃ a' c', e = .returned (.agg #[.int .i64 (bs 0 : Nat), .int .u32 (w4v bs 1 : Nat), .int .u32 (w4v bs 5 : Nat), .int .u32 (w4v bs 9 : Nat), .int .i64 (bs 13 : Nat), .slice a' (len - 19) c']) ∧
      Hid (w'.ownsRow w.heap.size 5 1 (.slice a' (len - 19) c') (len - 19) (CB (fun i => bs (15 + i)) (len - 19)) ∧ Below w.heap.size w w') := by
  have hcap := hr.le
  have hne : ¬ b = w.heap.size := by
    obtain ⟨b', off', e, hb', _⟩ := hr.plain (by omega)
    cases e
    omega
  have hY := box_zero w
  have hYf := fun i wx hb => unit_frozen w #[.int .i64 0, .int .u32 0, .int .u32 0, .int .u32 0, .int .i64 0, .slice none 0 0] i wx hb
  have hA : Below w.heap.size w (w.alloc (.cells #[.int .i64 0, .int .u32 0, .int .u32 0, .int .u32 0, .int .i64 0, .slice none 0 0] 67)) := (Below.refl _ _).alloc (Nat.le_refl _) _
  have hAs : w.heap.size < (w.alloc (.cells #[.int .i64 0, .int .u32 0, .int .u32 0, .int .u32 0, .int .i64 0, .slice none 0 0] 67)).heap.size := by simp
  have hAr := hr.below hA
  clear hr
  go_enter Tryz.func157, Tryz.ntmps157
  go_upto_region 1 with fail
  generalize w.alloc (.cells #[.int .i64 0, .int .u32 0, .int .u32 0, .int .u32 0, .int .i64 0, .slice none 0 0] 67) = wa at *
  have hR : ∀ wx, Below wa.heap.size wa wx → Row8 wx (some ⟨b, off, none⟩) len cap bs := fun wx hb => hAr.below hb
  have hW1 := fun wx hb => wordOf_row b off len cap 1 (len - 1) (cap - 1) bs wx (hR wx hb) (by omega) (by omega)
  have hW5 := fun wx hb => wordOf_row b off len cap 5 (len - 5) (cap - 5) bs wx (hR wx hb) (by omega) (by omega)
  have hW9 := fun wx hb => wordOf_row b off len cap 9 (len - 9) (cap - 9) bs wx (hR wx hb) (by omega) (by omega)
  obtain ⟨q, hq⟩ : ∃ q, q = len - 4 := ⟨_, rfl⟩
  have HQ : Hid (q - 15 = len - 19) := show q - 15 = len - 19 by omega
  have hqI : (len : Int) - 4 = (q : Int) := by omega
  have hqw : wrap64 ((len : Int) - 4) = (q : Int) := by unfold wrap64; omega
  have hqv : IntKind.i64.wrap ((len : Int) - 4) = (q : Int) := by rw [IntKind.wrap_i64]; omega
  have hqu : wrap64 (q : Int) = (q : Int) := by unfold wrap64; omega
  have hqt : IntKind.i64.wrap (q : Int) = (q : Int) := by rw [IntKind.wrap_i64]; omega
  have hD : ∀ wx, Below wa.heap.size wa wx → Row8 wx (some ⟨b, off + 15, none⟩) (q - 15) (cap - 15) (fun i => bs (15 + i)) := fun wx hb => by
    have R := ((hR wx hb).from_ 15 (by omega)).upto (q - 15) (by omega)
    exact R
  have hc : ∀ wx, Below wa.heap.size wa wx → wx.cell? ⟨b, off, none⟩ = some (.int .u8 (bs 0 : Nat)) ∧ wx.cell? ⟨b, off + 13, none⟩ = some (.int .u8 (bs 13 : Nat)) := fun wx hb => by
    have s := (hR wx hb).src _ rfl
    have t0 := s 0 (by omega); have t1 := s 13 (by omega)
    rw [Go.WideShapes.add_plain] at t0 t1
    exact ⟨t0, t1⟩
  have hby : ∀ i, i < q - 15 → bs (15 + i) < 256 := fun i hi => hAr.byte _ (by omega)
  obtain ⟨k0, k13⟩ := hc wa (Below.refl _ _)
  have hw0 : IntKind.i64.wrap (bs 0 : Int) = (bs 0 : Int) := by have := hAr.byte 0 (by omega); rw [IntKind.wrap_i64]; omega
  have hw13 : IntKind.i64.wrap (bs 13 : Int) = (bs 13 : Int) := by have := hAr.byte 13 (by omega); rw [IntKind.wrap_i64]; omega
  have n1 : ¬ cap = 1 := by omega
  have n5 : ¬ cap = 5 := by omega
  have n9 : ¬ cap = 9 := by omega
  have n15 : ¬ cap = 15 := by omega
  have i0 : (0 : Int) < (len : Int) := by omega
  have j0 : 0 < len := by omega
  have i1 : (1 : Int) ≤ (len : Int) := by omega
  have i5 : (5 : Int) ≤ (len : Int) := by omega
  have i9 : (9 : Int) ≤ (len : Int) := by omega
  have i13 : (13 : Int) < (len : Int) := by omega
  have iq : (15 : Int) ≤ (q : Int) := by omega
  have iq2 : (q : Int) ≤ (cap : Int) := by omega
  have iq0 : (0 : Int) ≤ (q : Int) := by omega
  have hmq : q - 15 ≤ 1000000 := by omega
  have HA : Hid (Below w.heap.size w wa ∧ w.heap.size < wa.heap.size) := ⟨hA, hAs⟩
  clear hq hAr h1 h2 hcap hA hAs hR
  go_region_held3 (fun w' => w'.cell? ⟨b, off, none⟩ = some (.int .u8 (bs 0 : Int)) ∧ w'.cell? ⟨b, off + 13, none⟩ = some (.int .u8 (bs 13 : Int))) (first | (with_reducible refine ⟨six_cell ?_ hne _ _ _ _ _ _, six_cell ?_ hne _ _ _ _ _ _⟩; exact (hc w2 hB2).1; exact (hc w2 hB2).2) | with_reducible exact hc w2 hB2 | exact hc _ (by repeat (first | with_reducible assumption | with_reducible refine below_drewN ?_ _ | with_reducible refine Below.drew ?_ | with_reducible exact Below.refl _ _))) (first
    | (refine step_draw rfl (.tmp 8) 202 rfl #[.slice (some ⟨b, off + 1, none⟩) (len - 1) (cap - 1)] _ (hW1 _ (by repeat (first | with_reducible assumption | with_reducible refine below_drewN ?_ _ | with_reducible refine Below.drew ?_ | with_reducible exact Below.refl _ _))) (by kernel_rfl) ?_; intro m)
    | (refine step_draw rfl (.tmp 11) 202 rfl #[.slice (some ⟨b, off + 5, none⟩) (len - 5) (cap - 5)] _ (hW5 _ (by repeat (first | with_reducible assumption | with_reducible refine below_drewN ?_ _ | with_reducible refine Below.drew ?_ | with_reducible exact Below.refl _ _))) (by kernel_rfl) ?_; intro m)
    | (refine step_draw rfl (.tmp 14) 202 rfl #[.slice (some ⟨b, off + 9, none⟩) (len - 9) (cap - 9)] _ (hW9 _ (by repeat (first | with_reducible assumption | with_reducible refine below_drewN ?_ _ | with_reducible refine Below.drew ?_ | with_reducible exact Below.refl _ _))) (by kernel_rfl) ?_; intro m)
    | (refine step_app_nil rfl (.const (.slice none 0 0)) (.tmp 24) rfl wa.heap.size wa (by repeat (first | with_reducible assumption | with_reducible refine below_drewN ?_ _ | with_reducible refine Below.drew ?_ | with_reducible exact Below.refl _ _)) (Nat.le_refl _) rfl ⟨b, off + 15, none⟩ (q - 15) (cap - 15) (fun i => bs (15 + i)) rfl (hD _ (by repeat (first | with_reducible assumption | with_reducible refine below_drewN ?_ _ | with_reducible refine Below.drew ?_ | with_reducible exact Below.refl _ _))) hmq hby ?_; intro a2 c2 w2 HO hB2; obtain ⟨y0, y1', y2, y3, y4, y5'⟩ := hY w2 hB2; have yf := fun i => hYf i w2 hB2; have HB : Hid (_) := hB2))
  all_goals
    go_wp2_with fail
    refine bodyPost_ret (v := .agg #[.int .i64 (bs 0 : Nat), .int .u32 (w4v bs 1 : Nat), .int .u32 (w4v bs 5 : Nat), .int .u32 (w4v bs 9 : Nat), .int .i64 (bs 13 : Nat), .slice a2 (q - 15) c2]) (by simp [results, Tryz.results157, go_sem, y0, y1', y2, y3, y4, y5']) rfl ⟨a2, c2, by rw [HQ.out], ?_, ?_⟩
    · rw [← HQ.out]
      exact own_base (six_own HO.out HA.out.2 _ _ _ _ _ _) (Nat.le_of_lt HA.out.2)
    · exact six_below (HA.out.1.trans (HB.out.mono (Nat.le_of_lt HA.out.2))) (Nat.le_refl _) _ _ _ _ _ _
end Go.Proofs.YtndjepeolamedaaGreat
namespace Go.Proofs.YtndjepeolamedaaGreat
set_option maxRecDepth 100000
open Go.RowKit
set_option maxRecDepth 100000 in
set_option maxHeartbeats 1000000 in
theorem decode_short (a : Option Addr) (len cap : Nat) (w : World) (h : len < 19) :
    Calls Tryz.prog 99 #[.slice a len cap] w fun e w' => e = .returned (.tuple #[.agg #[.int .i64 0, .int .u32 0, .int .u32 0, .int .u32 0, .int .i64 0, .slice none 0 0], .int .i64 40]) ∧ Below w.heap.size w w' := by
  have hA : Below w.heap.size w (w.alloc (.cells #[.int .i64 0, .int .u32 0, .int .u32 0, .int .u32 0, .int .i64 0, .slice none 0 0] 67)) := (Below.refl _ _).alloc (Nat.le_refl _) _
  have q : decide ((len : Int) < 19) = true := by simp; omega
  go_enter Tryz.func99, Tryz.ntmps99
  go_wp2_with fail
  refine bodyPost_ret (v := .tuple #[.agg #[.int .i64 0, .int .u32 0, .int .u32 0, .int .u32 0, .int .i64 0, .slice none 0 0], .int .i64 40]) (by simp [results, Tryz.results99, go_sem]) rfl ⟨rfl, hA⟩
set_option maxRecDepth 100000 in
set_option maxHeartbeats 1000000 in
theorem decode_big (a : Option Addr) (len cap : Nat) (w : World) (h : 27 < len) :
    Calls Tryz.prog 99 #[.slice a len cap] w fun e w' => e = .returned (.tuple #[.agg #[.int .i64 0, .int .u32 0, .int .u32 0, .int .u32 0, .int .i64 0, .slice none 0 0], .int .i64 41]) ∧ Below w.heap.size w w' := by
  have hA : Below w.heap.size w (w.alloc (.cells #[.int .i64 0, .int .u32 0, .int .u32 0, .int .u32 0, .int .i64 0, .slice none 0 0] 67)) := (Below.refl _ _).alloc (Nat.le_refl _) _
  have q : decide ((len : Int) < 19) = false := by simp; omega
  have q2 : decide ((27 : Int) < (len : Int)) = true := by simp; omega
  go_enter Tryz.func99, Tryz.ntmps99
  go_wp2_with fail
  refine bodyPost_ret (v := .tuple #[.agg #[.int .i64 0, .int .u32 0, .int .u32 0, .int .u32 0, .int .i64 0, .slice none 0 0], .int .i64 41]) (by simp [results, Tryz.results99, go_sem]) rfl ⟨rfl, hA⟩
set_option maxRecDepth 100000 in
set_option maxHeartbeats 1000000 in
theorem decode_check (a : Option Addr) (len cap : Nat) (bs : Nat → Nat) (w : World) (hr : Row8 w a len cap bs) (h1 : 19 ≤ len) (h2 : len ≤ 27) (hv : ¬ vld bs len) :
    Calls Tryz.prog 99 #[.slice a len cap] w fun e w' => e = .returned (.tuple #[.agg #[.int .i64 0, .int .u32 0, .int .u32 0, .int .u32 0, .int .i64 0, .slice none 0 0], .int .i64 42]) ∧ Below w.heap.size w w' := by
  have hA : Below w.heap.size w (w.alloc (.cells #[.int .i64 0, .int .u32 0, .int .u32 0, .int .u32 0, .int .i64 0, .slice none 0 0] 67)) := (Below.refl _ _).alloc (Nat.le_refl _) _
  have hV := valid_row a len cap bs (w.alloc (.cells #[.int .i64 0, .int .u32 0, .int .u32 0, .int .u32 0, .int .i64 0, .slice none 0 0] 67)) (hr.below hA) (by omega)
  have hd : decide (4 ≤ len ∧ PM.R PM.g 32 (PM.V (PM.fb bs) (8 * len)) = 0) = false := decide_eq_false (fun e => hv e.2)
  rw [hd] at hV
  clear hd
  have q : decide ((len : Int) < 19) = false := by simp; omega
  have q2 : decide ((27 : Int) < (len : Int)) = false := by simp; omega
  have Y := box_zero w _ (Below.refl _ _)
  have yf := fun i => unit_frozen w #[.int .i64 0, .int .u32 0, .int .u32 0, .int .u32 0, .int .i64 0, .slice none 0 0] i _ (Below.refl _ _)
  obtain ⟨y0, y1, y2, y3, y4, y5⟩ := Y
  clear hv hr
  go_enter Tryz.func99, Tryz.ntmps99
  go_wp2_with fail
  generalize w.alloc (.cells #[.int .i64 0, .int .u32 0, .int .u32 0, .int .u32 0, .int .i64 0, .slice none 0 0] 67) = wa at *
  refine hV.mono ?_
  rintro e w1 ⟨rfl, m, rfl⟩
  clear hV
  go_wp2_with fail
  refine bodyPost_ret (v := .tuple #[.agg #[.int .i64 0, .int .u32 0, .int .u32 0, .int .u32 0, .int .i64 0, .slice none 0 0], .int .i64 42]) (by simp [results, Tryz.results99, go_sem, y0, y1, y2, y3, y4, y5]) rfl ⟨rfl, six_below (below_drewN hA _) (Nat.le_refl _) _ _ _ _ _ _⟩
set_option maxRecDepth 100000 in
set_option maxHeartbeats 2000000 in
theorem decode_law (b off len cap : Nat) (bs : Nat → Nat) (w : World) (hr : Row8 w (some ⟨b, off, none⟩) len cap bs) (h1 : 19 ≤ len) (h2 : len ≤ 27) (hv : vld bs len) (E : Int) (hE : LW (bs 0) (w4v bs 1) (w4v bs 5) (w4v bs 9) (bs 13) ((len - 19 : Nat) : Int) (bs 14) = E) :
    Calls Tryz.prog 99 #[.slice (some ⟨b, off, none⟩) len cap] w fun e w' =>
      (E ≠ 0 → e = .returned (.tuple #[.agg #[.int .i64 0, .int .u32 0, .int .u32 0, .int .u32 0, .int .i64 0, .slice none 0 0], .int .i64 E]) ∧ Below w.heap.size w w') ∧
      (E = 0 → ∃ a' c', e = .returned (.tuple #[.agg #[.int .i64 (bs 0 : Nat), .int .u32 (w4v bs 1 : Nat), .int .u32 (w4v bs 5 : Nat), .int .u32 (w4v bs 9 : Nat), .int .i64 (bs 13 : Nat), .slice a' (len - 19) c'], .int .i64 0]) ∧
        Hid (w'.ownsRow w.heap.size 5 1 (.slice a' (len - 19) c') (len - 19) (CB (fun i => bs (15 + i)) (len - 19)) ∧ Below w.heap.size w w')) := by
  have hA : Below w.heap.size w (w.alloc (.cells #[.int .i64 0, .int .u32 0, .int .u32 0, .int .u32 0, .int .i64 0, .slice none 0 0] 67)) := (Below.refl _ _).alloc (Nat.le_refl _) _
  have hAs : w.heap.size < (w.alloc (.cells #[.int .i64 0, .int .u32 0, .int .u32 0, .int .u32 0, .int .i64 0, .slice none 0 0] 67)).heap.size := by simp
  have hY := box_zero w
  have hYf := fun i wx hb => unit_frozen w #[.int .i64 0, .int .u32 0, .int .u32 0, .int .u32 0, .int .i64 0, .slice none 0 0] i wx hb
  have hrA := hr.below hA
  have hV := valid_row _ len cap bs (w.alloc (.cells #[.int .i64 0, .int .u32 0, .int .u32 0, .int .u32 0, .int .i64 0, .slice none 0 0] 67)) hrA (by omega)
  have hd : decide (4 ≤ len ∧ PM.R PM.g 32 (PM.V (PM.fb bs) (8 * len)) = 0) = true := decide_eq_true ⟨by omega, hv⟩
  rw [hd] at hV
  clear hd
  have q : decide ((len : Int) < 19) = false := by simp; omega
  have q2 : decide ((27 : Int) < (len : Int)) = false := by simp; omega
  have h14 : (bs 14) < 256 := hr.byte 14 (by omega)
  have hw14 : IntKind.i64.wrap (bs 14 : Int) = (bs 14 : Int) := by rw [IntKind.wrap_i64]; omega
  have i14 : (14 : Int) < (len : Int) := by omega
  clear hv hr
  go_enter Tryz.func99, Tryz.ntmps99
  go_wp2_with fail
  generalize w.alloc (.cells #[.int .i64 0, .int .u32 0, .int .u32 0, .int .u32 0, .int .i64 0, .slice none 0 0] 67) = wa at *
  refine hV.mono ?_
  rintro e w1 ⟨rfl, m, rfl⟩
  have hM : Below wa.heap.size wa (wa.drewN m) := below_drewN (Below.refl _ _) m
  have hF := fields_any b off len cap bs (wa.drewN m) (hrA.below hM) h1 h2
  rw [show (wa.drewN m).heap.size = wa.heap.size by simp] at hF
  clear hV
  go_wp2_with fail
  refine hF.mono ?_
  rintro e w2 ⟨a2, c2, rfl, H2⟩
  have hb2 : Below wa.heap.size wa w2 := hM.trans H2.out.2
  have hs2 := hb2.size
  clear hF hM
  obtain ⟨n, hn⟩ : ∃ n, n = len - 19 := ⟨_, rfl⟩
  rw [← hn] at hE H2 ⊢
  have HN : Hid (n = len - 19) := hn
  have hX := box_new w2 (bs 0 : Nat) (w4v bs 1) (w4v bs 5) (w4v bs 9) (bs 13 : Nat) (.slice a2 n c2)
  have hC : Below wa.heap.size wa (w2.alloc (.cells #[.int .i64 (bs 0 : Nat), .int .u32 (w4v bs 1 : Nat), .int .u32 (w4v bs 5 : Nat), .int .u32 (w4v bs 9 : Nat), .int .i64 (bs 13 : Nat), .slice a2 n c2] 67)) := hb2.alloc hs2 _
  have hO := H2.out.1.alloc (.cells #[.int .i64 (bs 0 : Nat), .int .u32 (w4v bs 1 : Nat), .int .u32 (w4v bs 5 : Nat), .int .u32 (w4v bs 9 : Nat), .int .i64 (bs 13 : Nat), .slice a2 n c2] 67)
  have hCs : w2.heap.size < (w2.alloc (.cells #[.int .i64 (bs 0 : Nat), .int .u32 (w4v bs 1 : Nat), .int .u32 (w4v bs 5 : Nat), .int .u32 (w4v bs 9 : Nat), .int .i64 (bs 13 : Nat), .slice a2 n c2] 67)).heap.size := by simp
  clear hn H2
  go_upto_region 8 with fail
  generalize w2.alloc (.cells #[.int .i64 (bs 0 : Nat), .int .u32 (w4v bs 1 : Nat), .int .u32 (w4v bs 5 : Nat), .int .u32 (w4v bs 9 : Nat), .int .i64 (bs 13 : Nat), .slice a2 n c2] 67) = w3 at *
  have X3 := hX w3 (Below.refl _ _)
  obtain ⟨x0, x1, x2, x3, x4, x5⟩ := X3
  have k14 := (hrA.below hC).src _ rfl 14 (by omega)
  rw [Go.WideShapes.add_plain] at k14
  have hFt := fault_any (bs 0 : Nat) (w4v bs 1) (w4v bs 5) (w4v bs 9) (bs 13 : Nat) a2 n c2 (bs 14 : Nat) w3.drew
  rw [hE] at hFt
  go_cut [5] (fun v wx => v = .int .i64 E ∧ Hid (Below w3.heap.size w3 wx))
  case first =>
    go_region_with (go_at_call 158; refine hFt.mono ?_; rintro e w4 ⟨rfl, hb4⟩)
    all_goals (go_wp2_with fail; go_meet; exact ⟨rfl, (Below.refl _ _).drew.trans hb4⟩)
  case rest =>
    obtain ⟨rfl, H4⟩ := hcut
    obtain ⟨w4, rfl⟩ : ∃ x, x = wc := ⟨_, rfl⟩
    have hs3 := hC.size
    have hb4 : Below wa.heap.size wa w4 := below_all hC hs3 H4.out
    have Y4 := hY w4 hb4
    have yf := fun i => hYf i w4 hb4
    obtain ⟨y0, y1, y2, y3, y4, y5⟩ := Y4
    have X4 := hX w4 H4.out
    obtain ⟨z0, z1, z2, z3, z4, z5⟩ := X4
    have hO4 := own_below hO H4.out
    have HH : Hid (_) := And.intro hA (And.intro hAs (And.intro hb4 hO4))
    clear hFt hE hX hY hYf x0 x1 x2 x3 x4 x5 k14 hC hO hCs hb2 hs2 hrA H4 hb4 hO4 hA hAs hs3
    by_cases hE0 : E = 0
    · subst hE0
      go_wp2_with fail
      refine bodyPost_ret (v := .tuple #[.agg #[.int .i64 (bs 0 : Nat), .int .u32 (w4v bs 1 : Nat), .int .u32 (w4v bs 5 : Nat), .int .u32 (w4v bs 9 : Nat), .int .i64 (bs 13 : Nat), .slice a2 n c2], .int .i64 0]) (by simp [results, Tryz.results99, go_sem, y0, y1, y2, y3, y4, y5]) rfl ⟨a2, c2, by rw [← HN.out], ?_, ?_⟩
      · rw [← HN.out]
        exact own_base (six_own HH.out.2.2.2 HH.out.2.1 _ _ _ _ _ _) (Nat.le_of_lt HH.out.2.1)
      · exact six_below (HH.out.1.trans (HH.out.2.2.1.mono (Nat.le_of_lt HH.out.2.1))) (Nat.le_refl _) _ _ _ _ _ _
    · have qE : (E == 0) = false := by simpa using hE0
      go_wp2_with fail
      refine bodyPost_ret (v := .tuple #[.agg #[.int .i64 0, .int .u32 0, .int .u32 0, .int .u32 0, .int .i64 0, .slice none 0 0], .int .i64 E]) (by simp [results, Tryz.results99, go_sem, y0, y1, y2, y3, y4, y5]) rfl ⟨fun _ => ⟨rfl, ?_⟩, fun h => absurd h hE0⟩
      exact six_below (HH.out.1.trans (HH.out.2.2.1.mono (Nat.le_of_lt HH.out.2.1))) (Nat.le_refl _) _ _ _ _ _ _
theorem decode_ok (a : Option Addr) (len cap : Nat) (bs : Nat → Nat) (w : World) (hr : Row8 w a len cap bs) (h : DE bs len = 0) :
    Calls Tryz.prog 99 #[.slice a len cap] w fun e w' => ∃ a' c', e = .returned (.tuple #[.agg #[.int .i64 (bs 0 : Nat), .int .u32 (w4v bs 1 : Nat), .int .u32 (w4v bs 5 : Nat), .int .u32 (w4v bs 9 : Nat), .int .i64 (bs 13 : Nat), .slice a' (len - 19) c'], .int .i64 0]) ∧
        Hid (w'.ownsRow w.heap.size 5 1 (.slice a' (len - 19) c') (len - 19) (CB (fun i => bs (15 + i)) (len - 19)) ∧ Below w.heap.size w w') := by
  obtain ⟨h1, h2, h3, h4⟩ := DE_zero h
  obtain ⟨b, off, rfl, _, _⟩ := hr.plain (by omega)
  exact (decode_law b off len cap bs w hr h1 h2 h3 0 h4).mono fun e w' h => h.2 rfl
theorem decode_no (a : Option Addr) (len cap : Nat) (bs : Nat → Nat) (w : World) (hr : Row8 w a len cap bs) (h : DE bs len ≠ 0) :
    Calls Tryz.prog 99 #[.slice a len cap] w fun e w' => e = .returned (.tuple #[.agg #[.int .i64 0, .int .u32 0, .int .u32 0, .int .u32 0, .int .i64 0, .slice none 0 0], .int .i64 (DE bs len)]) ∧ Below w.heap.size w w' := by
  by_cases h1 : len < 19
  · rw [show DE bs len = 40 from if_pos h1]
    exact decode_short a len cap w h1
  · by_cases h2 : 27 < len
    · rw [show DE bs len = 41 by unfold DE; rw [if_neg h1, if_pos h2]]
      exact decode_big a len cap w h2
    · by_cases h3 : vld bs len
      · have hD : DE bs len = LW (bs 0) (w4v bs 1) (w4v bs 5) (w4v bs 9) (bs 13) ((len - 19 : Nat) : Int) (bs 14) := by unfold DE; rw [if_neg h1, if_neg h2, if_neg (fun e => e h3)]
        obtain ⟨b, off, rfl, _, _⟩ := hr.plain (by omega)
        exact (decode_law b off len cap bs w hr (by omega) (by omega) h3 _ hD.symm).mono fun e w' q => q.1 h
      · rw [DE_check (by omega) (by omega) h3]
        exact decode_check a len cap bs w hr (by omega) (by omega) h3
end Go.Proofs.YtndjepeolamedaaGreat
namespace Go.Proofs.YtndjepeolamedaaGreat
set_option maxRecDepth 100000
open Go.RowKit
theorem Row8.grown {w w' : World} {b n c : Nat} {f : Nat → Nat} {row : Option Nat} (h : Row8 w (some ⟨b, 0, none⟩) n c f) (hg : w.grownBy w' row) (hne : some b ≠ row) : Row8 w' (some ⟨b, 0, none⟩) n c f :=
  ⟨h.byte, h.nil, fun x hx i hi => by
    cases hx
    have h1 := h.src _ rfl i hi
    rw [Go.WideShapes.add_plain] at h1 ⊢
    exact hg.cell h1 hne, h.le⟩
theorem own_slice8 {w : World} {B e n cap : Nat} {a : Option Addr} {bs : Nat → Nat} (h : w.ownsRow B e 1 (.slice a n cap) n (CB bs n)) (hb : ∀ i, i < n → bs i < 256) : Row8 w a n cap bs := by
  obtain ⟨a1, c1, e1, R1⟩ := own_row8 h hb
  simp only [Value.slice.injEq, true_and] at e1
  obtain ⟨rfl, rfl⟩ := e1
  exact R1
end Go.Proofs.YtndjepeolamedaaGreat
namespace Go.Proofs.YtndjepeolamedaaGreat
set_option maxRecDepth 100000
open Go.RowKit
theorem wf_small (x : Int) (h0 : 0 ≤ x) (h1 : x ≤ 200) : (Lit.int .i64 x).wf = true := by
  have e1 : IntKind.i64.min = -9223372036854775808 := by decide
  have e2 : IntKind.i64.max = 9223372036854775807 := by decide
  simp [Lit.wf, e1, e2]
  omega
theorem own_far {w : World} {M e n m cap : Nat} {a : Option Addr} {xs : List Value} (h : w.ownsRow M e 1 (.slice a m cap) n xs) (x : Addr) (hx : a = some x) : M ≤ x.block ∧ x.block < w.heap.size := by
  rcases h.2 with hn | ⟨g', cap', cur', he, hg', hh, _⟩
  · have := hn.1; rw [hx] at this; cases this
  · rw [hx] at he; cases he; exact ⟨hg', (Array.getElem?_eq_some_iff.1 hh).1⟩
end Go.Proofs.YtndjepeolamedaaGreat
namespace Go.Proofs.YtndjepeolamedaaGreat
set_option maxRecDepth 100000
open Go.RowKit
theorem DX.appd {w w1 w2 : World} {d m g n mx : Nat} {P : Pm} {U : List Nat} {s s' : Sd} {B : Bk} {A A' : Prop} (h : DX w d m g n mx P U s B A) {v : Value} {bs : Nat → Nat} (hb : Below w.heap.size w w1) (ho : w1.ownsRow w.heap.size 5 1 v P.i (CB bs P.i)) (hy : ∀ i, i < P.i → bs i < 256) (o : Off [d] w1 w2)
    (e : w2.heap[d]? = some (.cells (DVC P m mx B.cp B.lb B.db B.vb s' v) 116 (0, 0))) (h1 : s'.ms = s.ms) (h2 : s'.dc = s.dc) (h3 : s'.v = s.v) (h4 : s'.L = s.L) (h5 : s'.ap = bs) (h6 : A' → A) :
    ∃ U' B', Gr U w U' w2 ∧ DX w2 d m g n mx P U' s' B' A' := by
  have x1 := h.newd (Off.of_below (l := []) hb)
  have hd := h.dlt
  have hn : ∀ k, B.col k ≠ 0 → k ∉ [d] := fun k hk hm => by simp at hm; rw [hm, h.kd.1] at hk; exact hk rfl
  have hge : ∀ k, v.ownBlock = some k → w.heap.size ≤ k := fun k hk => Fr.ge (f := (P.i, bs)) ho k hk
  have hlt : ∀ k, v.ownBlock = some k → k < w1.heap.size := fun k hk => Fr.lt (f := (P.i, bs)) ho k hk
  have hq : ∀ k x, B.col k = x ∧ k ∈ U → (if k < w.heap.size then B.col k else 6) = x ∧ k ∈ v.ownBlock.toList ++ U := fun k x hk => ⟨by rw [if_pos (h.ltU k hk.2)]; exact hk.1, List.mem_append.2 (.inr hk.2)⟩
  refine ⟨v.ownBlock.toList ++ U, { B with av := v, col := fun k => if k < w.heap.size then B.col k else 6 }, ⟨(Off.of_below hb).trans (o.more (by simp [h.kd.2])), fun k hk => ?_⟩, ?_⟩
  · rcases List.mem_append.1 hk with hk | hk
    · exact .inr (hge k (by simpa using hk))
    · exact .inl hk
  · refine ⟨e, ?_, ?_, ?_, ?_, ?_, ?_, h5 ▸ hy, ?_, hq _ _ h.kd, hq _ _ h.km, hq _ _ h.kg, hq _ _ h.kc, hq _ _ h.kb, hq _ _ h.kv, hq _ _ h.kw, fun k hk => hq _ _ (h.kM k hk), fun k hk => hq _ _ (h.kl k hk), ?_, h.pok, h.n10, h.mx0, h.mxl⟩
    · rw [h1]; exact x1.mem.off o (hn _ (by rw [h.km.1]; omega)) (hn _ (by rw [h.kg.1]; omega))
    · intro hs
      obtain ⟨c1, c2, c3⟩ := x1.cel (h6 hs)
      rw [h1]
      exact ⟨c1, c2.off o (hn _ (by rw [h.kc.1]; omega)), c3⟩
    · rw [h2]; exact x1.dog.off o (hn _ (by rw [h.kb.1]; omega))
    · rw [h3]; exact x1.val.off o (hn _ (by rw [h.kv.1]; omega)) (hn _ (by rw [h.kw.1]; omega)) (fun k hk hM => by simp at hk; subst hk; have := (h.kM _ hM).1; rw [h.kd.1] at this; omega)
    · rw [h4]; exact x1.log.off o (fun k hk => hn _ (by rw [(h.kl k hk).1]; omega))
    · rw [h5]; exact own_offk (own_base ho (Nat.zero_le _)) o (fun k hk => by have := hge k hk; simp; omega)
    · intro k hk
      rcases List.mem_append.1 hk with hk | hk
      · exact Nat.lt_of_lt_of_le (hlt k (by simpa using hk)) o.size
      · exact Nat.lt_of_lt_of_le (x1.ltU k hk) o.size
    · intro k hk
      have := hge k hk
      exact ⟨by show (if k < w.heap.size then _ else 6) = 6; rw [if_neg (by omega)], List.mem_append.2 (.inl (by simpa using hk))⟩
end Go.Proofs.YtndjepeolamedaaGreat
namespace Go.Proofs.YtndjepeolamedaaGreat
set_option maxRecDepth 100000
open Go.RowKit Go.Maps
theorem cells4 {w : World} {c : Nat} {a b d e : Value} {t : TypeId} (h : w.heap[c]? = some (.cells #[a, b, d, e] t (0, 0))) :
    w.cell? ⟨c, 0, none⟩ = some a ∧ w.cell? ⟨c, 1, none⟩ = some b ∧ w.cell? ⟨c, 2, none⟩ = some d ∧ w.cell? ⟨c, 3, none⟩ = some e ∧ ∀ n, w.frozen? ⟨c, n, none⟩ = false :=
  ⟨cell_of_row w c 0 _ _ _ h, cell_of_row w c 1 _ _ _ h, cell_of_row w c 2 _ _ _ h, cell_of_row w c 3 _ _ _ h, fun n => frozen_of_row w c n _ _ h⟩
end Go.Proofs.YtndjepeolamedaaGreat
namespace Go.Proofs.YtndjepeolamedaaGreat
set_option maxRecDepth 100000
open Go.RowKit Go.Maps
theorem info_rec : (Tryz.prog.info? 173).map (fun i => (i.zero, i.size, i.bytes)) = some (some (.agg #[.int .i64 0, .int .i64 0, .int .u32 0, .int .u32 0]), 4, 24) := by kernel_rfl
theorem rv_one (x : R4) : ∀ u ∈ rv x, u.oneCell' = true := by intro u hu; simp [rv] at hu; rcases hu with rfl | rfl | rfl | rfl <;> rfl
theorem rvs_one' (L : List R4) : ∀ u ∈ rvs L, u.oneCell' = true := by
  intro u hu
  obtain ⟨x, _, hx⟩ := List.mem_flatMap.1 hu
  exact rv_one x u hx
theorem app_rec (B n g : Nat) (L : List R4) (x : R4) (v : Value) (w w0 : World) (hown : w.ownsRow B 173 4 v n (rvs L)) (hg : w.heap[g]? = some (.cells #[.int .i64 x.1, .int .i64 x.2.1, .int .u32 x.2.2.1, .int .u32 x.2.2.2] 173 (0, 0))) (hn : n < 1000000) (hB0 : B ≤ w0.heap.size) (hb : Below B w0 w) :
    ∃ v' w', (Builtin.append_ #[88, 88] 88 #[v, .slice (some ⟨g, 0, none⟩) 1 1]).run Tryz.prog w = .ok v' w' ∧ Hid (w'.ownsRow B 173 4 v' (n + 1) (rvs (L ++ [x])) ∧ Below B w0 w' ∧ w.grownBy w' v.ownBlock) := by
  obtain ⟨i, hi, h0, h1, h2⟩ := info_parts info_rec
  have hBw : B ≤ w.heap.size := Nat.le_trans hB0 hb.size
  obtain ⟨c0, c1, c2, c3, _⟩ := cells4 hg
  obtain ⟨v', w', hrun, h3, h4, _⟩ := run_append_own w B 88 88 173 i _ 4 24 Tryz.underlying88 hi h0 h1 h2 rfl (by decide) v n (rvs L) hown ⟨g, 0, none⟩ 1 1 (rv x) rfl (by
    intro j u hu
    have hj : j < 4 := by
      by_cases hj : j < 4
      · exact hj
      · rw [List.getElem?_eq_none (by rw [rv_len]; omega)] at hu; cases hu
    have c : j = 0 ∨ j = 1 ∨ j = 2 ∨ j = 3 := by omega
    rcases c with rfl | rfl | rfl | rfl
    · simp [rv] at hu; subst hu; simpa [Addr.add] using c0
    · simp [rv] at hu; subst hu; simpa [Addr.add] using c1
    · simp [rv] at hu; subst hu; simpa [Addr.add] using c2
    · simp [rv] at hu; subst hu; simpa [Addr.add] using c3) (rv_one x) (by unfold maxLen; omega) (by omega) hBw
  rw [rvs_append, rvs_one]
  exact ⟨v', w', hrun, h3, hb.grown h4 hBw (fun j hj => (hown.lt j hj).1), h4⟩
theorem belowAR {B : Nat} {w0 w : World} (h : Below B w0 w) (hs : B ≤ w0.heap.size) (o : Obj) : Below B w0 (w.alloc o) := h.alloc (Nat.le_trans hs h.size) o
theorem below_drewNR {B : Nat} {w0 w : World} (h : Below B w0 w) (n : Nat) : Below B w0 (w.drewN n) := ⟨h.os, h.tape, h.output, h.size, h.block⟩
theorem step_callR {P : Program} {ops : Array Oper} {o : Oper} {a : Act} {w : World} {K : Act → World → Prop} {Q : Exit → Act → World → Prop} {E : Prop} {R : World → Prop}
    (hg : o.guard = none) (f : FuncId) (ts : Array Operand) (ty : Array TypeId) (_ : o.op = .call { callee := .value (.func f), args := ts, argTypes := ty }) (args : Array Value) (v : Value) (hrun : (execOp a.eval o).run P w = .ok (.enter f args) w) (hc : Calls P f args w fun e w' => e = .returned v ∧ R w') (hK : ∀ w', R w' → K (a.put o.dst v) w') :
    if Region.wanted o (yielded ops a.tmps) = true then Oper.wp P o a w K Q else E := by
  have hw : Region.wanted o (yielded ops a.tmps) = true := by simp [Region.wanted, hg]
  rw [if_pos hw]
  unfold Oper.wp
  rw [hrun]
  refine hc.mono ?_
  rintro e w'' ⟨rfl, hr⟩
  exact hK _ hr
theorem step_appR {ops : Array Oper} {o : Oper} {a : Act} {w : World} {K : Act → World → Prop} {Q : Exit → Act → World → Prop} {E : Prop}
    (hg : o.guard = none) (s x : Operand) (hop : o.op = Op.call { callee := Callee.builtin Builtin.append, args := #[s, x], argTypes := #[88, 88] }) (hty : o.type = 88)
    (B n g : Nat) (L : List R4) (xr : R4) (v : Value) (hs : a.eval s = v) (hown : w.ownsRow B 173 4 v n (rvs L)) (hx : a.eval x = .slice (some ⟨g, 0, none⟩) 1 1)
    (hgc : w.heap[g]? = some (.cells #[.int .i64 xr.1, .int .i64 xr.2.1, .int .u32 xr.2.2.1, .int .u32 xr.2.2.2] 173 (0, 0))) (hn : n < 1000000) (w0 : World) (hB0 : B ≤ w0.heap.size) (hb : Below B w0 w)
    (hK : ∀ v' w', Hid (w'.ownsRow B 173 4 v' (n + 1) (rvs (L ++ [xr])) ∧ w.grownBy w' v.ownBlock) → Below B w0 w' → K (a.put o.dst v') w') :
    if Region.wanted o (yielded ops a.tmps) = true then Oper.wp Tryz.prog o a w K Q else E := by
  have hw : Region.wanted o (yielded ops a.tmps) = true := by simp [Region.wanted, hg]
  rw [if_pos hw]
  obtain ⟨v', w', hrun, hO⟩ := app_rec B n g L xr v w w0 hown hgc hn hB0 hb
  unfold Oper.wp execOp
  simp only [hop, hty, resolve, invoke, builtin, Sem.run_bind, Sem.run_pure, Result.andThen_ok, List.map_toArray, List.map_cons, List.map_nil, hs, hx, hrun]
  exact hK v' w' ⟨hO.out.1, hO.out.2.2⟩ hO.out.2.1
set_option maxHeartbeats 4000000 in
set_option maxRecDepth 100000 in
theorem records_any (b : Nat) (U : List Nat) (L : List R4) (w : World) (h : DG w b U L) (hn : L.length < 1000000) :
    Calls Tryz.prog 97 #[.pointer (some ⟨b, 0, none⟩)] w fun e w' => ∃ v, e = .returned v ∧ Hid (w'.ownsRow w.heap.size 173 4 v (lst L).length (rvs (lst L)) ∧ Below w.heap.size w w') := by
  have ht := dtotal_any b U L w h hn
  have HL : Hid (DG w b U L) := h
  have hN : Hid (∃ n s, n = L.length ∧ s = n - 16) := ⟨_, _, rfl, rfl⟩
  obtain ⟨n, s, hl, hs⟩ := hN.out
  rw [← hl] at ht hn
  have hE : Hid (n = L.length ∧ s = n - 16) := ⟨hl, hs⟩
  have hmx : max (1 : Int) ((n : Int) - 16 + 1) = ((s + 1 : Nat) : Int) := by omega
  clear h hl hs hN
  have w1 : IntKind.i64.wrap ((n : Int) - 16) = (n : Int) - 16 := by rw [IntKind.wrap_i64]; omega
  have w2 : IntKind.i64.wrap ((n : Int) - 16 + 1) = (n : Int) - 16 + 1 := by rw [IntKind.wrap_i64]; omega
  go_enter Tryz.func97, Tryz.ntmps97
  go_wp2_with fail
  refine ht.mono ?_
  rintro e w' ⟨rfl, hw⟩
  have hw := hw.symm
  subst hw
  go_wp2_with fail
  clear ht w1 w2
  go_loopw [4, 5] (fun v c wr => ∃ a, s ≤ a ∧ a ≤ n ∧ c = .int .i64 ((a + 1 : Nat) : Int) ∧ wr.ownsRow w.heap.size 173 4 v (a - s) (rvs ((L.drop s).take (a - s))) ∧ Below w.heap.size w wr) (fun _ c _ => n + 1 - (intOf c).toNat)
  case atStart => exact ⟨s, by omega, by have := hE.out; omega, by first | rfl | (rw [hmx]), by rw [Nat.sub_self]; exact World.ownsRow_nil _ _ _ _, Below.refl _ _⟩
  case round =>
    clear hmx
    obtain ⟨a, hsa, han, rfl, hown, hbel⟩ := hrel
    by_cases hlt : a < n
    · have hD : DG wr b U L := HL.out.below hbel
      have haL : a < L.length := by rw [← hE.out.1]; exact hlt
      obtain ⟨mA, mb, nn, D, mt, h2⟩ := hD
      obtain ⟨r0, r1, r2, r3⟩ := h2.blk.rec a haL (by have := hE.out; omega)
      clear h2
      have hpl := fun w => placeOf_any a (a % 16) w rfl (by omega)
      have p16 : ((a % 16 : Nat) : Int) < 16 := by omega
      generalize a % 16 = p at *
      have HT : Hid ((L.drop s).take (a + 1 - s) = (L.drop s).take (a - s) ++ [L[a]]) := by
        show _ = _
        rw [show a + 1 - s = a - s + 1 from by omega, List.take_succ_eq_append_getElem (by simp; omega)]
        simp [show s + (a - s) = a from by omega]
      generalize L[a] = x at *
      obtain ⟨x0, x1, x2, x3⟩ := x
      simp only at r0 r1 r2 r3
      have hb0 : ∀ wx, Below w.heap.size w wx → wx.cell? ⟨b, 2 + p * 4, none⟩ = some (.int .i64 x0) ∧ wx.cell? ⟨b, 2 + p * 4 + 1, none⟩ = some (.int .i64 x1) ∧ wx.cell? ⟨b, 2 + p * 4 + 2, none⟩ = some (.int .u32 x2) ∧ wx.cell? ⟨b, 2 + p * 4 + 3, none⟩ = some (.int .u32 x3) := by
        intro wx hx
        have hbw : b < w.heap.size := by obtain ⟨_, _, _, _, _, h2⟩ := HL.out; exact h2.blk.lt
        have e : wx.heap[b]? = wr.heap[b]? := (hx.block b hbw).trans (hbel.block b hbw).symm
        exact ⟨(World.cell?_of_block e).trans r0, (World.cell?_of_block e).trans r1, (World.cell?_of_block e).trans r2, (World.cell?_of_block e).trans r3⟩
      have ho : Hid (∀ wx, Below wr.heap.size wr wx → wx.ownsRow w.heap.size 173 4 _ (a - s) (rvs ((L.drop s).take (a - s)))) := fun wx hx => own_below hown hx
      clear hown
      go_wp2_with fail
      go_region_held3 (fun w' => w'.cell? ⟨b, 2 + p * 4, none⟩ = some (.int .i64 x0) ∧ w'.cell? ⟨b, 2 + p * 4 + 1, none⟩ = some (.int .i64 x1) ∧ w'.cell? ⟨b, 2 + p * 4 + 2, none⟩ = some (.int .u32 x2) ∧ w'.cell? ⟨b, 2 + p * 4 + 3, none⟩ = some (.int .u32 x3)) (first | assumption | exact hb0 _ (by repeat (first | with_reducible assumption | with_reducible refine below_drewNR ?_ _ | with_reducible refine Below.drew ?_ | with_reducible refine belowAR ?_ (Nat.le_refl _) _ | with_reducible exact Below.refl _ _))) (first
        | (refine step_callR rfl 154 #[.tmp 19] #[3] rfl #[.int .i64 ((a + 1 : Nat) : Int)] _ (by kernel_rfl) (hpl _) ?_; rintro w3 rfl)
        | (refine step_appR rfl (.tmp 17) (.tmp 25) rfl rfl w.heap.size (a - s) wr.heap.size _ (x0, x1, x2, x3) _ rfl (ho.out _ (by repeat (first | with_reducible assumption | with_reducible refine below_drewNR ?_ _ | with_reducible refine Below.drew ?_ | with_reducible refine belowAR ?_ (Nat.le_refl _) _ | with_reducible exact Below.refl _ _))) rfl (heap_alloc_new wr _) (by omega) w (Nat.le_refl _) (by repeat (first | with_reducible assumption | with_reducible refine below_drewNR ?_ _ | with_reducible refine Below.drew ?_ | with_reducible refine belowAR ?_ (Nat.le_refl _) _ | with_reducible exact Below.refl _ _)) ?_; intro v3 w3 H3 hB3))
      clear ho hb0 r0 r1 r2 r3 hbel
      go_wp2_with fail
      go_roundw
      case rel =>
        refine ⟨a + 1, by omega, by omega, by go_num, ?_, hB3⟩
        rw [HT.out, show a + 1 - s = a - s + 1 from by omega]
        exact H3.out.1
      case measure => simp [intOf] <;> omega
    · obtain rfl : a = n := by omega
      have HO : Hid (_) := And.intro hown hbel
      clear hown hbel
      go_wp2_with fail
      go_ret
      refine ⟨_, rfl, ?_⟩
      have e : (L.drop s).take (a - s) = lst L := by
        rw [List.take_of_length_le (by have := hE.out; simp; omega), lst, ← hE.out.1, ← hE.out.2]
      have e2 : a - s = (lst L).length := by rw [← e]; simp; have := hE.out; omega
      have HO2 := HO.out
      rw [e, e2] at HO2
      exact HO2
end Go.Proofs.YtndjepeolamedaaGreat
