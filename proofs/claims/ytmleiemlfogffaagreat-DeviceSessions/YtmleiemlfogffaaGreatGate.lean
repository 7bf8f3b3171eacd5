/- The gate: its block, and what its calls do to it. -/
import Derived.Test.YtmleiemlfogffaaGreatLock
import Derived.Test.YtmleiemlfogffaaGreatOffs
namespace Go.Proofs.YtmleiemlfogffaaGreat
set_option maxRecDepth 100000
open Go.RowKit

/-- A variable of its own. -/
structure Vr (w : World) (p : Nat) (v : Value) (ty : TypeId) : Prop where
  at_ : w.heap[p]? = some (.cells #[v] ty (0, 0))
theorem Vr.lt {w : World} {p : Nat} {v : Value} {ty : TypeId} (h : Vr w p v ty) : p < w.heap.size := (Array.getElem?_eq_some_iff.1 h.at_).1
theorem Vr.c {w : World} {p : Nat} {v : Value} {ty : TypeId} (h : Vr w p v ty) : w.cell? ⟨p, 0, none⟩ = some v := cell_of_row w p 0 _ _ _ h.at_
theorem Vr.fz {w : World} {p : Nat} {v : Value} {ty : TypeId} (h : Vr w p v ty) : w.frozen? ⟨p, 0, none⟩ = false := frozen_of_row w p 0 _ _ h.at_
theorem Vr.off {l : List Nat} {w w' : World} {p : Nat} {v : Value} {ty : TypeId} (h : Vr w p v ty) (k : Off l w w') (hb : p ∉ l) : Vr w' p v ty := ⟨(k.block p h.lt hb).trans h.at_⟩
theorem Vr.new (w : World) (v : Value) (ty : TypeId) : Vr (w.alloc (.cells #[v] ty)) w.heap.size v ty := ⟨heap_alloc_new w _⟩
theorem Vr.set {w : World} {p : Nat} {v : Value} {ty : TypeId} (h : Vr w p v ty) (v' : Value) : Vr (w.setCell ⟨p, 0, none⟩ v') p v' ty := ⟨heap_setCell_same _ _ _ _ _ _ h.at_⟩

/-- The block of a gate: its lock, the Once and its lock, the code, the count. -/
def GC (k d m c t : Int) : Array Value := #[.int .i32 k, .int .u32 0, .int .u32 d, .int .i32 m, .int .u32 0, .int .i64 c, .int .i64 t]
structure GR (w : World) (b : Nat) (k d m c t : Int) : Prop where
  at_ : w.heap[b]? = some (.cells (GC k d m c t) 217 (0, 0))
section
variable {w w' : World} {b : Nat} {k d m c t : Int}
theorem GR.lt (h : GR w b k d m c t) : b < w.heap.size := (Array.getElem?_eq_some_iff.1 h.at_).1
theorem GR.c0 (h : GR w b k d m c t) : w.cell? ⟨b, 0, none⟩ = some (.int .i32 k) := cell_of_row w b 0 _ _ _ h.at_
theorem GR.c1 (h : GR w b k d m c t) : w.cell? ⟨b, 1, none⟩ = some (.int .u32 0) := cell_of_row w b 1 _ _ _ h.at_
theorem GR.c2 (h : GR w b k d m c t) : w.cell? ⟨b, 2, none⟩ = some (.int .u32 d) := cell_of_row w b 2 _ _ _ h.at_
theorem GR.c3 (h : GR w b k d m c t) : w.cell? ⟨b, 3, none⟩ = some (.int .i32 m) := cell_of_row w b 3 _ _ _ h.at_
theorem GR.c4 (h : GR w b k d m c t) : w.cell? ⟨b, 4, none⟩ = some (.int .u32 0) := cell_of_row w b 4 _ _ _ h.at_
theorem GR.c5 (h : GR w b k d m c t) : w.cell? ⟨b, 5, none⟩ = some (.int .i64 c) := cell_of_row w b 5 _ _ _ h.at_
theorem GR.c6 (h : GR w b k d m c t) : w.cell? ⟨b, 6, none⟩ = some (.int .i64 t) := cell_of_row w b 6 _ _ _ h.at_
theorem GR.fz (h : GR w b k d m c t) (j : Nat) : w.frozen? ⟨b, j, none⟩ = false := frozen_of_row w b j _ _ h.at_
theorem GR.off {l : List Nat} (h : GR w b k d m c t) (q : Off l w w') (hb : b ∉ l) : GR w' b k d m c t := ⟨(q.block b h.lt hb).trans h.at_⟩
theorem GR.s0 (h : GR w b k d m c t) (x : Int) : GR (w.setCell ⟨b, 0, none⟩ (.int .i32 x)) b x d m c t := ⟨heap_setCell_same _ _ _ _ _ _ h.at_⟩
theorem GR.s2 (h : GR w b k d m c t) (x : Int) : GR (w.setCell ⟨b, 2, none⟩ (.int .u32 x)) b k x m c t := ⟨heap_setCell_same _ _ _ _ _ _ h.at_⟩
theorem GR.s3 (h : GR w b k d m c t) (x : Int) : GR (w.setCell ⟨b, 3, none⟩ (.int .i32 x)) b k d x c t := ⟨heap_setCell_same _ _ _ _ _ _ h.at_⟩
theorem GR.s4 (h : GR w b k d m c t) : GR (w.setCell ⟨b, 4, none⟩ (.int .u32 0)) b k d m c t := ⟨heap_setCell_same _ _ _ _ _ _ h.at_⟩
theorem GR.s5 (h : GR w b k d m c t) (x : Int) : GR (w.setCell ⟨b, 5, none⟩ (.int .i64 x)) b k d m x t := ⟨heap_setCell_same _ _ _ _ _ _ h.at_⟩
theorem GR.s6 (h : GR w b k d m c t) (x : Int) : GR (w.setCell ⟨b, 6, none⟩ (.int .i64 x)) b k d m c x := ⟨heap_setCell_same _ _ _ _ _ _ h.at_⟩
theorem GR.drew (h : GR w b k d m c t) : GR w.drew b k d m c t := ⟨h.at_⟩
end

theorem gnew_any (w : World) :
    Calls Tryz.prog 115 #[] w fun e w' => e = .returned (.pointer (some ⟨w.heap.size, 0, none⟩)) ∧ (Off [] w w' ∧ GR w' w.heap.size 0 0 0 0 0) := by
  go_enter Tryz.func115, Tryz.ntmps115
  go_wp2
  go_ret
  exact ⟨rfl, Off.alloc _ _ _, ⟨heap_alloc_new w _⟩⟩
theorem setCell_back (w : World) (b i : Nat) (cs : Array Value) (ty : TypeId) (x v : Value) (hg : w.heap[b]? = some (.cells cs ty (0, 0))) (hv : cs[i]? = some v) : (w.setCell ⟨b, i, none⟩ x).setCell ⟨b, i, none⟩ v = w := by
  have h : ((w.setCell ⟨b, i, none⟩ x).setCell ⟨b, i, none⟩ v).heap = w.heap := by
    apply Array.ext_getElem?
    intro k
    by_cases hk : k = b
    · subst hk
      rw [heap_setCell_same _ _ _ _ _ _ (heap_setCell_same _ _ _ _ _ _ hg), hg, Array.setIfInBounds_setIfInBounds]
      congr 2
      apply Array.ext_getElem?
      intro j
      rw [Array.getElem?_setIfInBounds]
      split
      · subst_vars
        split
        · exact hv.symm
        · rw [Array.getElem?_eq_none (by omega)]
      · rfl
    · rw [heap_setCell_other _ _ _ _ hk, heap_setCell_other _ _ _ _ hk]
  cases w
  simp only [World.setCell] at h ⊢
  rw [h]
theorem code_same (b : Nat) (d c t : Int) (w : World) (h : GR w b 0 d 0 c t) :
    Calls Tryz.prog 94 #[.pointer (some ⟨b, 0, none⟩)] w fun e w' => e = .returned (.int .i64 c) ∧ w' = w := by
  have h0 := h.c0
  have hz := h.fz 0
  go_enter_defers Tryz.func94, Tryz.ntmps94
  go_wp2_with fail
  refine (lock_free ⟨b, 0, none⟩ _ h0 hz).mono ?_
  rintro e w2 ⟨rfl, hw⟩
  have g2 : GR w2 b 1 d 0 c t := hw ▸ h.s0 1
  have hh : Hid (_) := hw
  clear h0 hz hw
  have h5 := g2.c5
  go_wp2_with fail
  refine leaves_cons (f := 128) (args := #[.pointer (some ⟨b, 0, none⟩)]) (by simp) (by simp [go_sem]) ?_
  refine (unlock_deferred ⟨b, 0, none⟩ .returning _ g2.c0 (g2.fz 0)).mono ?_
  rintro e u' w'' ⟨rfl, rfl, hw'⟩
  refine ⟨_, results_tmp rfl _ _ _, rfl, ?_⟩
  rw [hw', hh.out]
  exact setCell_back w b 0 _ _ _ _ h.at_ rfl
theorem code_any (b : Nat) (d c t : Int) (w : World) (h : GR w b 0 d 0 c t) :
    Calls Tryz.prog 94 #[.pointer (some ⟨b, 0, none⟩)] w fun e w' => e = .returned (.int .i64 c) ∧ (Off [b] w w' ∧ GR w' b 0 d 0 c t) :=
  (code_same b d c t w h).mono (fun _ _ ⟨he, hw⟩ => ⟨he, hw ▸ Off.refl _ _, hw ▸ h⟩)
theorem code_nil (w : World) :
    Calls Tryz.prog 94 #[.pointer none] w fun e w' => e = .returned (.int .i64 0) ∧ w' = w := by
  go_enter_defers Tryz.func94, Tryz.ntmps94
  go_wp2_with fail
  exact ⟨_, results_tmp rfl _ _ _, rfl, rfl⟩
theorem lift_any (b : Nat) (d c t : Int) (w : World) (h : GR w b 0 d 0 c t) :
    Calls Tryz.prog 109 #[.pointer (some ⟨b, 0, none⟩)] w fun e w' => e = .returned (.int .i64 c) ∧ (Off [b] w w' ∧ GR w' b 0 0 0 0 0) := by
  have h0 := h.c0
  have hz := h.fz 0
  go_enter_defers Tryz.func109, Tryz.ntmps109
  go_wp2_with fail
  refine (lock_free ⟨b, 0, none⟩ _ h0 hz).mono ?_
  rintro e w2 ⟨rfl, hw⟩
  have g2 : GR w2 b 1 d 0 c t := hw ▸ h.s0 1
  have o2 : Off [b] w w2 := hw ▸ Off.setCell b 0 w _
  clear hw h h0 hz
  have h2 := g2.c2
  have h3 := g2.c3
  have h4 := g2.c4
  have h5 := g2.c5
  have h6 := g2.c6
  have z2 := g2.fz 2
  have z3 := g2.fz 3
  have z4 := g2.fz 4
  have z5 := g2.fz 5
  have z6 := g2.fz 6
  go_wp2_with fail
  refine leaves_cons (f := 128) (args := #[.pointer (some ⟨b, 0, none⟩)]) (by simp) (by simp [go_sem]) ?_
  have g3 := ((((g2.s2 0).s3 0).s4).s5 0).s6 0
  refine (unlock_deferred ⟨b, 0, none⟩ .returning _ g3.c0 (g3.fz 0)).mono ?_
  rintro e u' w'' ⟨rfl, rfl, hw⟩
  have g4 : GR w'' b 0 0 0 0 0 := hw ▸ g3.s0 0
  have o3 : Off [b] w2 w'' := hw ▸ ((((((Off.setCell b 2 w2 _).trans (Off.setCell b 3 _ _)).trans (Off.setCell b 4 _ _)).trans (Off.setCell b 5 _ _)).trans (Off.setCell b 6 _ _)).trans (Off.setCell b 0 _ _))
  exact ⟨_, results_tmp rfl _ _ _, rfl, o2.trans o3, g4⟩
theorem lift_nil (w : World) :
    Calls Tryz.prog 109 #[.pointer none] w fun e w' => e = .returned (.int .i64 0) ∧ w' = w := by
  go_enter_defers Tryz.func109, Tryz.ntmps109
  go_wp2_with fail
  exact ⟨_, results_tmp rfl _ _ _, rfl, rfl⟩

end Go.Proofs.YtmleiemlfogffaaGreat
