/- Decode of the program and of the document (by genpar3.py). -/
import Derived.Test.YtmleiemlfogffaaGreatPar2
namespace Go.Proofs.YtmleiemlfogffaaGreat
set_option maxRecDepth 100000
open Go.RowKit

theorem orP_add (x y : Nat) (k : Nat) (hx : x % 2 ^ k = 0) (hy : y < 2 ^ k) (h1 : x < 4294967296) (h2 : y < 4294967296) : bits .or .u32 (x : Int) (y : Int) = ((x + y : Nat) : Int) := by
  rw [u32_or_nat x y h1 h2, nat_join k x y hx hy]
theorem wnumP (x0 x1 x2 x3 : Nat) (h0 : x0 < 256) (h1 : x1 < 256) (h2 : x2 < 256) (h3 : x3 < 256) :
    bits .or .u32 (bits .or .u32 (bits .or .u32 ((x0 : Int) * 16777216) ((x1 : Int) * 65536)) ((x2 : Int) * 256)) (x3 : Int) = ((x0 * 16777216 + x1 * 65536 + x2 * 256 + x3 : Nat) : Int) := by
  have e0 : (x0 : Int) * 16777216 = ((x0 * 16777216 : Nat) : Int) := by omega
  have e1 : (x1 : Int) * 65536 = ((x1 * 65536 : Nat) : Int) := by omega
  have e2 : (x2 : Int) * 256 = ((x2 * 256 : Nat) : Int) := by omega
  rw [e0, e1, e2, orP_add _ _ 24 (by omega) (by omega) (by omega) (by omega), orP_add _ _ 16 (by omega) (by omega) (by omega) (by omega), orP_add _ _ 8 (by omega) (by omega) (by omega) (by omega)]
/-- A call that only draws, as one step of a region that draws. -/
theorem step_drawP {P : Program} {ops : Array Oper} {o : Oper} {a : Act} {w : World} {K : Act → World → Prop} {Q : Exit → Act → World → Prop} {E : Prop}
    (hg : o.guard = none) (t : Operand) (f : FuncId) (_ : o.op = .call { callee := .value (.func f), args := #[t], argTypes := #[25] }) (args : Array Value) (v : Value) (hc : Calls P f args w fun e w' => e = .returned v ∧ ∃ m, w' = w.drewN m) (hrun : (execOp a.eval o).run P w = .ok (.enter f args) w) (hK : ∀ m, K (a.put o.dst v) (w.drewN m)) :
    if Region.wanted o (yielded ops a.tmps) = true then Oper.wp P o a w K Q else E := by
  have hw : Region.wanted o (yielded ops a.tmps) = true := by simp [Region.wanted, hg]
  rw [if_pos hw]
  unfold Oper.wp
  rw [hrun]
  refine hc.mono ?_
  rintro e w'' ⟨rfl, m, rfl⟩
  exact hK m
theorem fiveP_cell {w2 : World} {g b o : Nat} {x : Value} (h : w2.cell? ⟨b, o, none⟩ = some x) (hne : ¬ b = g) (v0 v1 v2 v3 v4 : Value) :
    (((((w2.setCell ⟨g, 0, none⟩ v0).setCell ⟨g, 1, none⟩ v1).setCell ⟨g, 2, none⟩ v2).setCell ⟨g, 3, none⟩ v3).setCell ⟨g, 4, none⟩ v4).cell? ⟨b, o, none⟩ = some x := by
  have hg : g ≠ b := fun e => hne e.symm
  rw [World.cell?_setCell_far _ _ _ _ hg, World.cell?_setCell_far _ _ _ _ hg, World.cell?_setCell_far _ _ _ _ hg, World.cell?_setCell_far _ _ _ _ hg, World.cell?_setCell_far _ _ _ _ hg]
  exact h
theorem fiveP_below {w w2 : World} {B g : Nat} (h : Below B w w2) (hle : B ≤ g) (v0 v1 v2 v3 v4 : Value) :
    Below B w (((((w2.setCell ⟨g, 0, none⟩ v0).setCell ⟨g, 1, none⟩ v1).setCell ⟨g, 2, none⟩ v2).setCell ⟨g, 3, none⟩ v3).setCell ⟨g, 4, none⟩ v4) :=
  ((((h.setCell (p := ⟨g, 0, none⟩) hle _).setCell (p := ⟨g, 1, none⟩) hle _).setCell (p := ⟨g, 2, none⟩) hle _).setCell (p := ⟨g, 3, none⟩) hle _).setCell (p := ⟨g, 4, none⟩) hle _
theorem fiveP_box {w2 : World} {g : Nat} {c0 : Nat} {o0 i0 t0 : Int} {n0 : Nat} (h : Bx w2 g c0 o0 i0 t0 n0) (c : Nat) (o i t : Int) (n : Nat) :
    Bx (((((w2.setCell ⟨g, 0, none⟩ (.int .u32 c)).setCell ⟨g, 1, none⟩ (.int .i64 o)).setCell ⟨g, 2, none⟩ (.int .i64 i)).setCell ⟨g, 3, none⟩ (.int .i64 t)).setCell ⟨g, 4, none⟩ (.int .u32 n)) g c o i t n := by
  obtain ⟨h0, h1, h2, h3, h4⟩ := h
  have ne : ∀ i j : Nat, i ≠ j → (⟨g, i, none⟩ : Addr) ≠ ⟨g, j, none⟩ := fun i j hij e => hij (congrArg Addr.off e)
  have st : ∀ (wx : World) (k : Nat) (u v : Value), wx.cell? ⟨g, k, none⟩ = some u → (wx.setCell ⟨g, k, none⟩ v).cell? ⟨g, k, none⟩ = some v := fun wx k u v hu => World.cell?_setCell_same _ _ _ hu
  have ot : ∀ (wx : World) (j k : Nat) (u v : Value), j ≠ k → wx.cell? ⟨g, k, none⟩ = some u → (wx.setCell ⟨g, j, none⟩ v).cell? ⟨g, k, none⟩ = some u := fun wx j k u v hjk hu => (World.cell?_setCell_other _ _ _ _ (ne j k hjk)).trans hu
  refine ⟨?_, ?_, ?_, ?_, ?_⟩
  · exact ot _ _ _ _ _ (by omega) (ot _ _ _ _ _ (by omega) (ot _ _ _ _ _ (by omega) (ot _ _ _ _ _ (by omega) (st _ _ _ _ h0))))
  · exact ot _ _ _ _ _ (by omega) (ot _ _ _ _ _ (by omega) (ot _ _ _ _ _ (by omega) (st _ _ _ _ (ot _ _ _ _ _ (by omega) h1))))
  · exact ot _ _ _ _ _ (by omega) (ot _ _ _ _ _ (by omega) (st _ _ _ _ (ot _ _ _ _ _ (by omega) (ot _ _ _ _ _ (by omega) h2))))
  · exact ot _ _ _ _ _ (by omega) (st _ _ _ _ (ot _ _ _ _ _ (by omega) (ot _ _ _ _ _ (by omega) (ot _ _ _ _ _ (by omega) h3))))
  · exact st _ _ _ _ (ot _ _ _ _ _ (by omega) (ot _ _ _ _ _ (by omega) (ot _ _ _ _ _ (by omega) (ot _ _ _ _ _ (by omega) h4))))

end Go.Proofs.YtmleiemlfogffaaGreat
