/- The fields of a frame, as the program reads them. -/
import Derived.Test.YtmleiemlfogffaaGreatUCopy
import Derived.Deep.RegionLaw
namespace Go.Proofs.YtmleiemlfogffaaGreat
set_option maxRecDepth 100000
open Go.RowKit

/-- A call that only draws, and 'append(nil, xs...)', each as one step of a region that draws. -/
theorem step_draw {P : Program} {ops : Array Oper} {o : Oper} {a : Act} {w : World} {K : Act → World → Prop} {Q : Exit → Act → World → Prop} {E : Prop}
    (hg : o.guard = none) (t : Operand) (f : FuncId) (_ : o.op = .call { callee := .value (.func f), args := #[t], argTypes := #[25] }) (args : Array Value) (v : Value) (hc : Calls P f args w fun e w' => e = .returned v ∧ ∃ m, w' = w.drewN m) (hrun : (execOp a.eval o).run P w = .ok (.enter f args) w) (hK : ∀ m, K (a.put o.dst v) (w.drewN m)) :
    if Region.wanted o (yielded ops a.tmps) = true then Oper.wp P o a w K Q else E := by
  have hw : Region.wanted o (yielded ops a.tmps) = true := by simp [Region.wanted, hg]
  rw [if_pos hw]
  unfold Oper.wp
  rw [hrun]
  refine hc.mono ?_
  rintro e w'' ⟨rfl, m, rfl⟩
  exact hK m
theorem step_app_nil {ops : Array Oper} {o : Oper} {a : Act} {w : World} {K : Act → World → Prop} {Q : Exit → Act → World → Prop} {E : Prop}
    (hg : o.guard = none) (s x : Operand) (hop : o.op = Op.call { callee := Callee.builtin Builtin.append, args := #[s, x], argTypes := #[25, 25] })
    (B : Nat) (w0 : World) (hb : Below B w0 w) (hB0 : B ≤ w0.heap.size) (hs : a.eval s = .slice none 0 0) (ad : Addr) (m c : Nat) (bs : Nat → Nat) (hx : a.eval x = .slice (some ad) m c) (hrow : Row8 w (some ad) m c bs) (hm : m ≤ 1000000) (hby : ∀ i, i < m → bs i < 256)
    (hK : ∀ a' c' w', Hid (w'.ownsRow B 5 1 (.slice a' m c') m (CB bs m)) → Below B w0 w' → K (a.put o.dst (.slice a' m c')) w') :
    if Region.wanted o (yielded ops a.tmps) = true then Oper.wp Tryz.prog o a w K Q else E := by
  obtain ⟨i0, hi, hz0, hz1, hz2⟩ := info_parts info_u8
  have hw : Region.wanted o (yielded ops a.tmps) = true := by simp [Region.wanted, hg]
  rw [if_pos hw]
  have hBw : B ≤ w.heap.size := Nat.le_trans hB0 hb.size
  refine wp_append_own w s x _ hop B 5 i0 (.int .u8 0) 1 1 Tryz.underlying25 hi hz0 hz1 hz2 rfl (by decide) _ 0 [] hs (World.ownsRow_nil _ _ _ _) ad m c (CB bs m) hx (by rw [CB_length, Nat.mul_one]) ?_ (CB_one bs m) (by unfold maxLen; omega) (by omega) hBw ?_
  · intro j u hj
    by_cases hlt : j < m
    · rw [CB_get bs m j hlt] at hj
      cases hj
      exact hrow.src ad rfl j hlt
    · rw [CB_none bs m j (by omega)] at hj; cases hj
  · intro v' w' h1 h2 _
    rw [List.nil_append, Nat.zero_add] at h1
    obtain ⟨a', c', rfl, _⟩ := own_row8 h1 hby
    exact hK a' c' w' h1 (hb.grown h2 hBw (fun j hj => by cases hj))
set_option maxHeartbeats 1000000 in
theorem wordOf_any (b off len cap x0 x1 x2 x3 : Nat) (w : World) (hlen : (3 : Int) < (len : Int)) (h0 : x0 < 256) (h1 : x1 < 256) (h2 : x2 < 256) (h3 : x3 < 256)
    (c0 : w.cell? ⟨b, off, none⟩ = some (.int .u8 x0)) (c1 : w.cell? ⟨b, off + 1, none⟩ = some (.int .u8 x1)) (c2 : w.cell? ⟨b, off + 2, none⟩ = some (.int .u8 x2)) (c3 : w.cell? ⟨b, off + 3, none⟩ = some (.int .u8 x3)) :
    Calls Tryz.prog 158 #[.slice (some ⟨b, off, none⟩) len cap] w fun e w' => e = .returned (.int .u32 ((x0 * 16777216 + x1 * 65536 + x2 * 256 + x3 : Nat) : Int)) ∧ ∃ m, w' = w.drewN m := by
  have hn := word_num x0 x1 x2 x3 h0 h1 h2 h3
  have l0 : (0 : Int) < (len : Int) := by omega
  have l1 : (1 : Int) < (len : Int) := by omega
  have l2 : (2 : Int) < (len : Int) := by omega
  generalize x0 * 16777216 + x1 * 65536 + x2 * 256 + x3 = y at *
  go_enter Tryz.func158, Tryz.ntmps158
  go_wp2_with fail
  go_quiet (fail)
  go_wp2
  go_ret
  exact ⟨rfl, _, rfl⟩
theorem wordOf_row (b off len cap i L C : Nat) (bs : Nat → Nat) (w : World) (hr : Row8 w (some ⟨b, off, none⟩) len cap bs) (h : i + 4 ≤ len) (hL : 4 ≤ L) :
    Calls Tryz.prog 158 #[.slice (some ⟨b, off + i, none⟩) L C] w fun e w' => e = .returned (.int .u32 (w4v bs i : Nat)) ∧ ∃ m, w' = w.drewN m := by
  have s := hr.src _ rfl
  have q := hr.byte
  have t0 := s i (by omega); have t1 := s (i + 1) (by omega); have t2 := s (i + 2) (by omega); have t3 := s (i + 3) (by omega)
  rw [Go.WideShapes.add_plain] at t0 t1 t2 t3
  exact wordOf_any b (off + i) L C _ _ _ _ w (by omega) (q i (by omega)) (q (i + 1) (by omega)) (q (i + 2) (by omega)) (q (i + 3) (by omega)) t0 t1 t2 t3
theorem six_own {w2 : World} {B g m : Nat} {v : Value} {xs : List Value} (h : w2.ownsRow B 5 1 v m xs) (hlt : g < B) (v0 v1 v2 v3 v4 v5 : Value) :
    ((((((w2.setCell ⟨g, 0, none⟩ v0).setCell ⟨g, 1, none⟩ v1).setCell ⟨g, 2, none⟩ v2).setCell ⟨g, 3, none⟩ v3).setCell ⟨g, 4, none⟩ v4).setCell ⟨g, 5, none⟩ v5).ownsRow B 5 1 v m xs :=
  ownsRow_setCell_below (ownsRow_setCell_below (ownsRow_setCell_below (ownsRow_setCell_below (ownsRow_setCell_below (ownsRow_setCell_below h (a := ⟨g, 0, none⟩) hlt _) (a := ⟨g, 1, none⟩) hlt _) (a := ⟨g, 2, none⟩) hlt _) (a := ⟨g, 3, none⟩) hlt _) (a := ⟨g, 4, none⟩) hlt _) (a := ⟨g, 5, none⟩) hlt _
theorem six_below {w w2 : World} {B g : Nat} (h : Below B w w2) (hle : B ≤ g) (v0 v1 v2 v3 v4 v5 : Value) :
    Below B w ((((((w2.setCell ⟨g, 0, none⟩ v0).setCell ⟨g, 1, none⟩ v1).setCell ⟨g, 2, none⟩ v2).setCell ⟨g, 3, none⟩ v3).setCell ⟨g, 4, none⟩ v4).setCell ⟨g, 5, none⟩ v5) :=
  (((((h.setCell (p := ⟨g, 0, none⟩) hle _).setCell (p := ⟨g, 1, none⟩) hle _).setCell (p := ⟨g, 2, none⟩) hle _).setCell (p := ⟨g, 3, none⟩) hle _).setCell (p := ⟨g, 4, none⟩) hle _).setCell (p := ⟨g, 5, none⟩) hle _

end Go.Proofs.YtmleiemlfogffaaGreat
