/- 'append' to a row of one's own as one step of a region that draws. -/
import Derived.Test.YtmleiemlfogffaaGreatPar6
namespace Go.Proofs.YtmleiemlfogffaaGreat
set_option maxRecDepth 100000
open Go.RowKit
theorem step_append8 {ops : Array Oper} {o : Oper} {a : Act} {w : World} {K : Act → World → Prop} {Q : Exit → Act → World → Prop} {E : Prop}
    (hg : o.guard = none) (s x : Operand) (hop : o.op = Op.call { callee := Callee.builtin Builtin.append, args := #[s, x], argTypes := #[25, 25] })
    (B n N : Nat) (v : Value) (f : Nat → Nat) (hf : ∀ i, i < n → f i < 256) (hs : a.eval s = v) (hown : w.ownsRow B 5 1 v n (CB f n))
    (ao : Option Addr) (m c : Nat) (bs : Nat → Nat) (hx : a.eval x = .slice ao m c) (hrow : Row8 w ao m c bs) (hm : n + m ≤ 1000000) (hN : n + m = N)
    (w0 : World) (hb : Below B w0 w) (hB0 : B ≤ w0.heap.size)
    (hK : ∀ a' c' w', Hid (w'.ownsRow B 5 1 (.slice a' N c') N (CB (PM.ct f bs n) N)) → Hid (w.grownBy w' v.ownBlock) → Below B w0 w' → K (a.put o.dst (.slice a' N c')) w') :
    if Region.wanted o (yielded ops a.tmps) = true then Oper.wp Tryz.prog o a w K Q else E := by
  subst hN
  obtain ⟨i0, hi, hz0, hz1, hz2⟩ := info_parts info_u8
  have hw : Region.wanted o (yielded ops a.tmps) = true := by simp [Region.wanted, hg]
  rw [if_pos hw]
  have hBw : B ≤ w.heap.size := Nat.le_trans hB0 hb.size
  have fin : ∀ v' w', w'.ownsRow B 5 1 v' (n + m) (CB f n ++ CB bs m) → w.grownBy w' v.ownBlock → K (a.put o.dst v') w' := by
    intro v' w' h1 h2
    have h3 := hb.grown h2 hBw (fun j hj => (hown.lt j hj).1)
    rw [CB_append] at h1
    obtain ⟨a', c', rfl, _⟩ := own_row8 h1 (PM.ct_lt hf hrow.byte)
    exact hK a' c' w' h1 h2 h3
  cases ao with
  | none =>
    obtain ⟨rfl, rfl⟩ := hrow.nil rfl
    have hrun := run_append_owned_none (P := Tryz.prog) (w := w) B 25 o.type 5 i0 1 Tryz.underlying25 hi v n (CB f n) hown
    have he : CB f n ++ CB bs 0 = CB f n := by simp [CB]
    have hk := fin v w (by rw [he]; exact hown) ⟨rfl, rfl, rfl, Nat.le_refl _, fun _ _ _ => rfl⟩
    unfold Oper.wp
    simp [execOp, hop, resolve, invoke, builtin, hs, hx, hrun, Result.andThen]
    exact hk
  | some ad =>
    refine wp_append_own w s x _ hop B 5 i0 (.int .u8 0) 1 1 Tryz.underlying25 hi hz0 hz1 hz2 rfl (by decide) v n (CB f n) hs hown ad m c (CB bs m) hx (by rw [CB_length, Nat.mul_one]) ?_ (CB_one bs m) (by unfold maxLen; omega) (by omega) hBw (fun v' w' h1 h2 _ => fin v' w' h1 h2)
    intro j u hj
    by_cases hlt : j < m
    · rw [CB_get bs m j hlt] at hj
      cases hj
      exact hrow.src ad rfl j hlt
    · rw [CB_none bs m j (by omega)] at hj; cases hj
theorem own0P (B : Nat) (w : World) (h : B ≤ w.heap.size) : (w.alloc (.cells #[] 5)).ownsRow B 5 1 (.slice (some ⟨w.heap.size, 0, none⟩) 0 0) 0 (CB (fun _ => 0) 0) := World.ownsRow_made w #[] 0 h (Nat.zero_le _) rfl
theorem row1P (w : World) : Row8 (w.alloc (.cells #[.int .u8 0] 5)) (some ⟨w.heap.size, 0, none⟩) 1 1 (fun _ => 0) :=
  row8_new w _ _ _ 1 (fun _ _ => by omega) (fun i hi => by
    have h0 : i = 0 := by omega
    rw [h0]
    rfl)
theorem Row8.grown {w w' : World} {b n c : Nat} {f : Nat → Nat} {row : Option Nat} (h : Row8 w (some ⟨b, 0, none⟩) n c f) (hg : w.grownBy w' row) (hne : some b ≠ row) : Row8 w' (some ⟨b, 0, none⟩) n c f :=
  ⟨h.byte, h.nil, fun x hx i hi => by
    cases hx
    have h1 := h.src _ rfl i hi
    rw [Go.WideShapes.add_plain] at h1 ⊢
    exact hg.cell h1 hne, h.le⟩
theorem own_slice8 {w : World} {B e n cap : Nat} {a : Option Addr} {bs : Nat → Nat} (h : w.ownsRow B e 1 (.slice a n cap) n (CB bs n)) (hb : ∀ i, i < n → bs i < 256) : Row8 w a n cap bs := by
  obtain ⟨a1, c1, e1, R1⟩ := own_row8 h hb
  simp only [Value.slice.injEq, true_and] at e1
  obtain ⟨rfl, rfl⟩ := e1
  exact R1
/-- A call that stands behind a guard, as one step of a region that draws. -/
theorem step_callG {P : Program} {ops : Array Oper} {o : Oper} {a : Act} {w : World} {K : Act → World → Prop} {Q : Exit → Act → World → Prop} {E : Prop} {R : World → Prop}
    (f : FuncId) (ts : Array Operand) (ty : Array TypeId) (_ : o.op = .call { callee := .value (.func f), args := ts, argTypes := ty }) (hw : Region.wanted o (yielded ops a.tmps) = true) (args : Array Value) (v : Value) (hrun : (execOp a.eval o).run P w = .ok (.enter f args) w) (hc : Calls P f args w fun e w' => e = .returned v ∧ R w') (hK : ∀ w', R w' → K (a.put o.dst v) w') :
    if Region.wanted o (yielded ops a.tmps) = true then Oper.wp P o a w K Q else E := by
  rw [if_pos hw]
  unfold Oper.wp
  rw [hrun]
  refine hc.mono ?_
  rintro e w'' ⟨rfl, hr⟩
  exact hK _ hr
end Go.Proofs.YtmleiemlfogffaaGreat
