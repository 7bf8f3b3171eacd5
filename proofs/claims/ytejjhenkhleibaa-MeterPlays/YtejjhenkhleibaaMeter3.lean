/- The meter: Note and Last; the fixed fact. -/
import Derived.Test.YtejjhenkhleibaaMeter2
namespace Go.Proofs.Ytejjhenkhleibaa
open Go.RowKit

/-- A record's cells. -/
def RV (x : Int × Int × Int × Int) : Array Value := #[.int .i64 x.1, .int .i64 x.2.1, .int .u32 x.2.2.1, .int .u32 x.2.2.2]
def Z4 : Int × Int × Int × Int := (0, 0, 0, 0)
/-- The last record behind its pointer: in a block from M on. -/
inductive Rc (M : Nat) (w : World) : Option Addr → Option (Int × Int × Int × Int) → Prop where
  | none : Rc M w none none
  | some (c : Nat) (x : Int × Int × Int × Int) (h : M ≤ c) (hc : w.heap[c]? = some (.cells (RV x) 31 (0, 0))) : Rc M w (some ⟨c, 0, Option.none⟩) (some x)
theorem Rc.off {M : Nat} {l : List Nat} {w w' : World} {p : Option Addr} {q : Option (Int × Int × Int × Int)} (h : Rc M w p q) (k : Off l w w') (hl : ∀ x, x ∈ l → x < M) : Rc M w' p q := by
  cases h with
  | none => exact .none
  | some c v h hc => exact .some c v h ((k.block c (Array.getElem?_eq_some_iff.1 hc).1 (fun hm => by have := hl c hm; omega)).trans hc)
theorem cvr_none (w : World) : (convert 65 71 (.pointer none)).run Try.prog w = .ok (.pointer none) w := by kernel_rfl
theorem cvr_from (c : Nat) (x : Int × Int × Int × Int) (w : World) (hc : w.heap[c]? = some (.cells (RV x) 31 (0, 0))) : (convert 65 71 (.pointer (some ⟨c, 0, none⟩))).run Try.prog w = .ok (.pointer (some ⟨c, 0, none⟩)) w :=
  Lib.run_from_unsafe (u := 31) (j := (Try.prog.info? 31).get!) w ⟨c, 0, none⟩ (by kernel_rfl) (by kernel_rfl) (by kernel_rfl) (shape_of_row w c _ _ _ hc) (by kernel_rfl)
theorem cvr_to (c : Nat) (x : Int × Int × Int × Int) (w : World) (hc : w.heap[c]? = some (.cells (RV x) 31 (0, 0))) : (convert 71 65 (.pointer (some ⟨c, 0, none⟩))).run Try.prog w = .ok (.pointer (some ⟨c, 0, none⟩)) w :=
  run_convert_to_unsafe (t := 31) (by kernel_rfl) (by kernel_rfl) (by kernel_rfl) (cell_of_row w c 0 _ _ _ hc)
theorem Rc.from_ {M : Nat} {w : World} {p : Option Addr} {q : Option (Int × Int × Int × Int)} (h : Rc M w p q) : (convert 65 71 (.pointer p)).run Try.prog w = .ok (.pointer p) w := by
  cases h with
  | none => exact cvr_none w
  | some c v h hc => exact cvr_from c _ w hc
/-- The zero record's block. -/
abbrev ZR : Obj := .cells #[.int .i64 0, .int .i64 0, .int .u32 0, .int .u32 0] 31
theorem four_below {B g : Nat} {w0 w : World} (h : Below B w0 w) (hg : B ≤ g) (a b c d : Value) : Below B w0 ((((w.setCell ⟨g, 0, none⟩ a).setCell ⟨g, 1, none⟩ b).setCell ⟨g, 2, none⟩ c).setCell ⟨g, 3, none⟩ d) :=
  (((h.setCell hg a).setCell hg b).setCell hg c).setCell hg d
theorem four_cells {w : World} {c : Nat} {i j k l : Int} (h : w.heap[c]? = some (.cells #[.int .i64 i, .int .i64 j, .int .u32 k, .int .u32 l] 31 (0, 0))) :
    w.cell? ⟨c, 0, none⟩ = some (.int .i64 i) ∧ w.cell? ⟨c, 1, none⟩ = some (.int .i64 j) ∧ w.cell? ⟨c, 2, none⟩ = some (.int .u32 k) ∧ w.cell? ⟨c, 3, none⟩ = some (.int .u32 l) ∧ ∀ n, w.frozen? ⟨c, n, none⟩ = false :=
  ⟨cell_of_row w c 0 _ _ _ h, cell_of_row w c 1 _ _ _ h, cell_of_row w c 2 _ _ _ h, cell_of_row w c 3 _ _ _ h, fun n => frozen_of_row w c n _ _ h⟩
theorem valueAtR_none (w : World) : Calls Try.prog 37 #[.pointer none] w fun e w' => e = .returned (.tuple #[.agg #[.int .i64 0, .int .i64 0, .int .u32 0, .int .u32 0], .bool false]) ∧ Below w.heap.size w w' := by
  go_enter Try.func37, Try.ntmps37
  go_wp2_with fail
  refine bodyPost_ret (v := .tuple #[.agg #[.int .i64 0, .int .i64 0, .int .u32 0, .int .u32 0], .bool false]) (by simp [results, Try.results37, go_sem]) rfl ⟨rfl, ?_⟩
  exact ((Below.refl _ _).alloc (Nat.le_refl _) _).alloc (by simp) _
theorem valueAtR_some (c : Nat) (i j k l : Int) (w : World) (hc : w.heap[c]? = some (.cells #[.int .i64 i, .int .i64 j, .int .u32 k, .int .u32 l] 31 (0, 0))) :
    Calls Try.prog 37 #[.pointer (some ⟨c, 0, none⟩)] w fun e w' => e = .returned (.tuple #[.agg #[.int .i64 i, .int .i64 j, .int .u32 k, .int .u32 l], .bool true]) ∧ Below w.heap.size w w' := by
  have hlt := (Array.getElem?_eq_some_iff.1 hc).1
  obtain ⟨c0, c1, c2, c3, _⟩ := four_cells ((heap_alloc_old w ZR hlt).trans hc)
  clear hc hlt
  go_enter Try.func37, Try.ntmps37
  go_wp2_with fail
  refine bodyPost_ret (v := .tuple #[.agg #[.int .i64 i, .int .i64 j, .int .u32 k, .int .u32 l], .bool true]) (by simp [results, Try.results37, go_sem]) rfl ⟨rfl, ?_⟩
  exact (Below.refl _ _).alloc (Nat.le_refl _) _
theorem Rc.value {M : Nat} {w : World} {p : Option Addr} {q : Option (Int × Int × Int × Int)} (h : Rc M w p q) :
    Calls Try.prog 37 #[.pointer p] w fun e w' => e = .returned (.tuple #[.agg (RV (q.getD Z4)), .bool q.isSome]) ∧ Below w.heap.size w w' := by
  cases h with
  | none => exact valueAtR_none w
  | some c v h hc => exact valueAtR_some c v.1 v.2.1 v.2.2.1 v.2.2.2 w hc
theorem last_any (M : Nat) (t : Int) (b : Nat) (p r : Option Addr) (q : Option (Int × Int × Int × Int)) (f o : Int) (w : World) (h : Met w b t p f o r) (hr : Rc M w r q) :
    Calls Try.prog 20 #[.pointer (some ⟨b, 0, none⟩)] w fun e w' => e = .returned (.tuple #[.agg (RV (q.getD Z4)), .bool q.isSome]) ∧ Below w.heap.size w w' := by
  have h1 : Met (w.alloc ZR) b t p f o r := h.off (Off.alloc [] w _) (by simp)
  have hr1 : Rc M (w.alloc ZR) r q := hr.off (Off.alloc [] w _) (by simp)
  have hl := ptrr_load _ _ _ h1.c4 hr1.from_
  have hv := hr1.value
  generalize q.getD Z4 = x at *
  generalize q.isSome = y at *
  obtain ⟨i, j, k, l⟩ := x
  simp only [RV] at hv ⊢
  clear h1 hr1 h hr
  go_enter Try.func20, Try.ntmps20
  go_wp2_with (go_at_call 38; refine hl.mono ?_; rintro e w' ⟨rfl, rfl⟩)
  refine hv.mono ?_
  rintro e w2 ⟨rfl, hb⟩
  obtain ⟨c0, c1, c2, c3, hz⟩ := four_cells ((hb.block w.heap.size (by simp)).trans (heap_alloc_new w ZR))
  go_wp2_with fail
  refine bodyPost_ret (v := .tuple #[.agg #[.int .i64 i, .int .i64 j, .int .u32 k, .int .u32 l], .bool y]) (by simp [results, Try.results20, go_sem, c0, c1, c2, c3]) rfl ⟨rfl, ?_⟩
  exact four_below (((Below.refl _ _).alloc (Nat.le_refl _) _).trans (hb.mono (by simp))) (Nat.le_refl _) _ _ _ _
theorem last_nil (w : World) : Calls Try.prog 20 #[.pointer none] w fun e w' => e = .returned (.tuple #[.agg #[.int .i64 0, .int .i64 0, .int .u32 0, .int .u32 0], .bool false]) ∧ Below w.heap.size w w' := by
  go_enter Try.func20, Try.ntmps20
  go_wp2_with fail
  refine bodyPost_ret (v := .tuple #[.agg #[.int .i64 0, .int .i64 0, .int .u32 0, .int .u32 0], .bool false]) (by simp [results, Try.results20, go_sem]) rfl ⟨rfl, ?_⟩
  exact ((Below.refl _ _).alloc (Nat.le_refl _) _)
theorem note_nil (i j k l : Int) (w : World) : Calls Try.prog 21 #[.pointer none, .agg #[.int .i64 i, .int .i64 j, .int .u32 k, .int .u32 l]] w fun e w' => e = .returned (.tuple #[.agg #[.int .i64 0, .int .i64 0, .int .u32 0, .int .u32 0], .bool false]) ∧ Below w.heap.size w w' := by
  go_enter Try.func21, Try.ntmps21
  go_wp2_with fail
  refine bodyPost_ret (v := .tuple #[.agg #[.int .i64 0, .int .i64 0, .int .u32 0, .int .u32 0], .bool false]) (by simp [results, Try.results21, go_sem]) rfl ⟨rfl, ?_⟩
  exact ((Below.refl _ _).alloc (Nat.le_refl _) _).alloc (by simp) _
theorem Off.setNew {l : List Nat} {w w' : World} {g : Nat} (h : Off l w w') (hg : w.heap.size ≤ g) (i : Nat) (v : Value) : Off l w (w'.setCell ⟨g, i, none⟩ v) :=
  ⟨h.os, h.tape, h.output, by have := h.size; simp [World.setCell]; omega, fun k hk hb => (heap_setCell_other w' _ k v (by simp; omega)).trans (h.block k hk hb)⟩
theorem four_other (w : World) {g k : Nat} (h : k ≠ g) (a b c d : Value) : ((((w.setCell ⟨g, 0, none⟩ a).setCell ⟨g, 1, none⟩ b).setCell ⟨g, 2, none⟩ c).setCell ⟨g, 3, none⟩ d).heap[k]? = w.heap[k]? := by
  rw [heap_setCell_other _ _ _ _ h, heap_setCell_other _ _ _ _ h, heap_setCell_other _ _ _ _ h, heap_setCell_other _ _ _ _ h]
theorem note_any (M : Nat) (t : Int) (b : Nat) (p r : Option Addr) (q : Option (Int × Int × Int × Int)) (f o i j k l : Int) (w : World) (h : Met w b t p f o r) (hr : Rc M w r q) (hM : M ≤ w.heap.size) (hb : b < M) :
    Calls Try.prog 21 #[.pointer (some ⟨b, 0, none⟩), .agg #[.int .i64 i, .int .i64 j, .int .u32 k, .int .u32 l]] w fun e w' => e = .returned (.tuple #[.agg (RV (q.getD Z4)), .bool q.isSome]) ∧ Off [b] w w' ∧
      ∃ r', Met w' b t p f o r' ∧ Rc M w' r' (some (i, j, k, l)) := by
  have hn0 : ((w.alloc (.cells #[.int .i64 i, .int .i64 j, .int .u32 k, .int .u32 l] 31)).alloc ZR).heap[w.heap.size]? = some (.cells #[.int .i64 i, .int .i64 j, .int .u32 k, .int .u32 l] 31 (0, 0)) :=
    (heap_alloc_old _ ZR (by simp)).trans (heap_alloc_new w _)
  have hn1 : ((w.alloc (.cells #[.int .i64 i, .int .i64 j, .int .u32 k, .int .u32 l] 31)).alloc ZR).heap[w.heap.size + 1]? = some ZR := by
    have := heap_alloc_new (w.alloc (.cells #[.int .i64 i, .int .i64 j, .int .u32 k, .int .u32 l] 31)) ZR
    simpa using this
  have hO1 : Off [b] w ((w.alloc (.cells #[.int .i64 i, .int .i64 j, .int .u32 k, .int .u32 l] 31)).alloc ZR) := (Off.alloc [b] w _).trans (Off.alloc [b] _ _)
  have hO0 : Off [] w ((w.alloc (.cells #[.int .i64 i, .int .i64 j, .int .u32 k, .int .u32 l] 31)).alloc ZR) := (Off.alloc [] w _).trans (Off.alloc [] _ _)
  have h1 := h.off hO0 (by simp)
  have hr1 := hr.off hO0 (by simp)
  have hblt := h.lt
  have hsz : ((w.alloc (.cells #[.int .i64 i, .int .i64 j, .int .u32 k, .int .u32 l] 31)).alloc ZR).heap.size = w.heap.size + 2 := by simp
  have hO2 := hO1.trans (Off.setCell b 4 _ (.pointer (some ⟨w.heap.size, 0, none⟩)))
  have h2 := h1.s4 (some ⟨w.heap.size, 0, none⟩)
  have hr2 := hr1.off (Off.setCell b 4 _ (.pointer (some ⟨w.heap.size, 0, none⟩))) (by simpa using hb)
  have hm0 := (heap_setCell_other ((w.alloc (.cells #[.int .i64 i, .int .i64 j, .int .u32 k, .int .u32 l] 31)).alloc ZR) ⟨b, 4, none⟩ w.heap.size (.pointer (some ⟨w.heap.size, 0, none⟩)) (by simp; omega)).trans hn0
  have hm1 := (heap_setCell_other ((w.alloc (.cells #[.int .i64 i, .int .i64 j, .int .u32 k, .int .u32 l] 31)).alloc ZR) ⟨b, 4, none⟩ (w.heap.size + 1) (.pointer (some ⟨w.heap.size, 0, none⟩)) (by simp; omega)).trans hn1
  have hl := ptrr_swap _ _ (some ⟨w.heap.size, 0, none⟩) _ h1.c4 (h1.fz 4) (cvr_to w.heap.size (i, j, k, l) _ hn0) hr2.from_
  have hv := hr2.value
  clear hr1 h1 hO1 hO0 hn0 hn1 hr2
  generalize q.getD Z4 = x at *
  generalize q.isSome = y at *
  obtain ⟨i1, j1, k1, l1⟩ := x
  simp only [RV] at hv ⊢
  go_enter Try.func21, Try.ntmps21
  go_wp2_with fail
  refine hl.mono ?_
  rintro e w2 ⟨rfl, hw2⟩
  rw [← hw2] at hv h2 hO2 hm0 hm1
  clear hw2 hl
  go_wp2_with fail
  refine hv.mono ?_
  rintro e w3 ⟨rfl, hb3⟩
  have hlt0 := (Array.getElem?_eq_some_iff.1 hm0).1
  have hlt1 := (Array.getElem?_eq_some_iff.1 hm1).1
  have hm0' := (hb3.block _ hlt0).trans hm0
  have hm1' := (hb3.block _ hlt1).trans hm1
  have hb2 := h2.lt
  have h3 : w3.heap[b]? = _ := (hb3.block _ hb2).trans h2.at_
  have hO3 := hO2.trans (Off.of_below hb3)
  obtain ⟨c0, c1, c2, c3, hz⟩ := four_cells hm1'
  clear hv hm0 hm1 h2 hO2 hb3 h hr hm1'
  have H3 : Hid (_) := h3
  have HO : Hid (_) := hO3
  have H0 : Hid (_) := hm0'
  clear h3 hO3 hm0'
  go_wp2_with fail
  refine bodyPost_ret (v := .tuple #[.agg #[.int .i64 i1, .int .i64 j1, .int .u32 k1, .int .u32 l1], .bool y]) (by simp [results, Try.results21, go_sem, c0, c1, c2, c3]) rfl ⟨rfl, ?_, _, ⟨(four_other w3 (by omega) _ _ _ _).trans H3.out⟩, .some w.heap.size (i, j, k, l) hM ((four_other w3 (by omega) _ _ _ _).trans H0.out)⟩
  exact (((HO.out.setNew (by omega) _ _).setNew (by omega) _ _).setNew (by omega) _ _).setNew (by omega) _ _
theorem awake5 (w : World) : Calls Try.prog 8 #[] w fun e w' => e = .returned (.bool true) ∧ Below w.heap.size w w' := by
  have hb1 : Below w.heap.size w (w.alloc (.cells (MC 0 none 0 0 none) 76)) := (Below.refl _ _).alloc (Nat.le_refl _) _
  have m1 := new_met w
  have hs1 : w.heap.size < (w.alloc (.cells (MC 0 none 0 0 none) 76)).heap.size := by simp
  have hnw := new_any w
  go_enter Try.func8, Try.ntmps8
  go_wp2_with (go_at_call 9; refine hnw.mono ?_; rintro e w' ⟨rfl, rfl⟩)
  generalize w.alloc (.cells (MC 0 none 0 0 none) 76) = w1 at *
  refine (add_any 0 5 w.heap.size none none 0 0 w1 (by omega) (by omega) m1).mono ?_
  rintro e w' ⟨rfl, rfl⟩
  have e5 : (sat 0 5 : Nat) = 5 := by decide
  rw [e5]
  have m2 := m1.s0 5
  have hb2 := hb1.setCell (p := ⟨w.heap.size, 0, none⟩) (Nat.le_refl _) (.int .u64 5)
  have hs2 : w.heap.size < (w1.setCell ⟨w.heap.size, 0, none⟩ (.int .u64 5)).heap.size := by simpa using hs1
  simp only [Int.cast_ofNat_Int] 
  generalize w1.setCell ⟨w.heap.size, 0, none⟩ (.int .u64 5) = w2 at *
  clear m1 hb1 hs1 hnw
  have ht := total_any _ _ _ _ _ _ w2 m2
  go_wp2_with (go_at_call 13; refine ht.mono ?_; rintro e w2' ⟨rfl, hw⟩; rw [hw]; clear hw)
  refine (raise_any (w.heap.size + 1) _ _ _ _ none _ _ (-4) w2 m2 .none (by omega)).mono ?_
  rintro e w3 ⟨rfl, ho, p', m3, hp3⟩
  have hs3 := ho.size
  have hb3 := ho.below hb2 (by simp) (by omega)
  clear ht m2 ho
  go_wp2_with fail
  refine (raise_any (w.heap.size + 1) _ _ _ _ (some (-4)) _ _ (-9) w3 m3 hp3 (by omega)).mono ?_
  rintro e w4 ⟨rfl, ho, p4, m4, hp4⟩
  have hb4 := ho.below hb3 (by simp) (by omega)
  clear hp3 hp4 m3 m4 ho hb3 hb2
  go_wp2_with fail
  go_ret
  exact ⟨by simp, hb4⟩

end Go.Proofs.Ytejjhenkhleibaa
