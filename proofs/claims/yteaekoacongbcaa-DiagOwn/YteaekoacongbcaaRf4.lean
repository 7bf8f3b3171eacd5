/- The document's log: the codes, rising. -/
import Derived.Test.YteaekoacongbcaaRf3
namespace Go.Proofs.Yteaekoacongbcaa
open Go.RowKit Go.Maps

theorem info_err : (Try.prog.info? 29).map (fun i => (i.zero, i.size, i.bytes)) = some (some (.int .i64 0), 1, 8) := by kernel_rfl
theorem alloc_at {W : World} {o : Obj} {g : Nat} (h : g = W.heap.size) : (W.alloc o).heap[g]? = some o := by subst h; exact heap_alloc_new _ _
theorem own_empty {W : World} {B g : Nat} (h : W.heap[g]? = some (.cells #[] 29 (0, 0))) (hg : B ≤ g) : W.ownsRow B 29 1 (.slice (some ⟨g, 0, none⟩) 0 0) 0 (([] : List Int).map encZ) :=
  ⟨rfl, .inr ⟨g, 0, #[], rfl, hg, h, Nat.le_refl _, Nat.zero_le _, rfl, rfl⟩⟩
/-- Codes behind codes, as one step of a region that draws its order. -/
theorem step_appE {ops : Array Oper} {o : Oper} {a : Act} {w : World} {K : Act → World → Prop} {Q : Exit → Act → World → Prop} {E : Prop}
    (hg : o.guard = none) (s x : Operand) (hop : o.op = Op.call { callee := Callee.builtin Builtin.append, args := #[s, x], argTypes := #[42, 42] }) (hty : o.type = 42)
    (B n m c : Nat) (xs ys : List Int) (v : Value) (hs : a.eval s = v) (hown : w.ownsRow B 29 1 v n (xs.map encZ)) (ad : Option Addr) (hx : a.eval x = .slice ad m c) (hy : ys.length = m) (h0 : ad = none → m = 0 ∧ c = 0)
    (hc : ∀ b, ad = some b → ∀ j u, (ys.map encZ)[j]? = some u → w.cell? (b.add j) = some u) (hn : n + m < 1000000) (w0 : World) (hB0 : B ≤ w0.heap.size) (hb : Below B w0 w)
    (hK : ∀ v' w', Hid (w'.ownsRow B 29 1 v' (n + m) ((xs ++ ys).map encZ) ∧ w.grownBy w' v.ownBlock) → Below B w0 w' → K (a.put o.dst v') w') :
    if Region.wanted o (yielded ops a.tmps) = true then Oper.wp Try.prog o a w K Q else E := by
  have hw : Region.wanted o (yielded ops a.tmps) = true := by simp [Region.wanted, hg]
  rw [if_pos hw]
  obtain ⟨i, hi, hz0, hz1, hz2⟩ := info_parts info_err
  have hBw : B ≤ w.heap.size := Nat.le_trans hB0 hb.size
  unfold Oper.wp execOp
  cases ad with
  | none =>
    obtain ⟨rfl, rfl⟩ := h0 rfl
    have hrun := run_append_owned_none (P := Try.prog) (w := w) B 42 42 29 i 1 Try.underlying42 hi v n (xs.map encZ) hown
    simp only [hop, hty, resolve, invoke, builtin, Sem.run_bind, Sem.run_pure, Result.andThen_ok, List.map_toArray, List.map_cons, List.map_nil, hs, hx, hrun]
    obtain rfl : ys = [] := List.eq_nil_of_length_eq_zero hy
    rw [List.append_nil] at hK
    exact hK v w ⟨hown, World.grownBy.refl _ _⟩ hb
  | some b =>
    obtain ⟨v', w', hrun, h3, h4, _⟩ := run_append_own w B 42 42 29 i _ 1 8 Try.underlying42 hi hz0 hz1 hz2 rfl (by decide) v n (xs.map encZ) hown b m c (ys.map encZ) (by simp [hy]) (hc b rfl) (by intro u hu; obtain ⟨y, _, rfl⟩ := List.mem_map.1 hu; rfl) (by unfold maxLen; omega) (by omega) hBw
    simp only [hop, hty, resolve, invoke, builtin, Sem.run_bind, Sem.run_pure, Result.andThen_ok, List.map_toArray, List.map_cons, List.map_nil, hs, hx, hrun]
    refine hK v' w' ⟨?_, h4⟩ (hb.grown h4 hBw (fun j hj => (hown.lt j hj).1))
    rw [List.map_append]; exact h3
end Go.Proofs.Yteaekoacongbcaa
