/- Layer 20: the document's Head. (gensw6.py) -/
import Derived.Test.YtnmnjcjfgbpkaaaDoorJSw3
import Derived.Deep.CutBlock
namespace Go.Proofs.YtnmnjcjfgbpkaaaDoor
set_option maxRecDepth 100000
open Go.RowKit Go.Maps
set_option maxRecDepth 100000
set_option linter.unusedVariables false
/-- The numbers read so far. -/
def vA (R : Nat → List UInt8) : Nat → Array Value
  | 0 => #[.int .i64 0, .int .i64 0, .int .i64 0, .int .i64 0, .int .i64 0, .int .i64 0]
  | j + 1 => (vA R j).setIfInBounds (j + 1) (.int .i64 ((vlV (R j) : Nat) : Int))
theorem vA_size (R : Nat → List UInt8) : ∀ j, (vA R j).size = 6
  | 0 => rfl
  | j + 1 => by rw [vA, Array.size_setIfInBounds, vA_size R j]
theorem allV_no {R : Nat → List UInt8} : ∀ (n i : Nat), i < n → vlO (R i) = false → allV R n = false
  | n + 1, i, h, hw => by
    unfold allV
    by_cases e : i = n
    · subst e
      rw [hw, Bool.and_false]
    · rw [allV_no n i (by omega) hw, Bool.false_and]
/-- What the document's Head leaves. -/
def HrP (Z : Nt) (is : Bool) (e : Int) (w : World) (r : Ending) (w' : World) : Prop := ∃ a0 c0 a1 c1, r = .returned (.tuple #[.agg #[.slice a0 Z.l0 c0, .slice a1 Z.l1 c1, .int .u32 (Z.ms : Nat)], .bool is, .int .i64 e]) ∧ Hid (PRow w' a0 Z.l0 Z.P0 ∧ PRow w' a1 Z.l1 Z.P1 ∧ (a0 = none → Z.l0 = 0 ∧ c0 = 0) ∧ (a1 = none → Z.l1 = 0 ∧ c1 = 0) ∧ Below w.heap.size w w')
theorem own_none {w : World} {B n c : Nat} {a : Option Addr} {xs : List Value} (h : w.ownsRow B 50 5 (.slice a n c) n xs) : a = none → n = 0 ∧ c = 0 := fun e => by
  subst e
  rcases h.2 with ⟨q, r⟩ | ⟨g, cap, cur, q, _⟩
  · cases q
    exact ⟨rfl, rfl⟩
  · cases q
theorem ownE {w : World} {B q : Nat} (h : w.heap[q]? = some (.cells #[] 50 (0, 0))) (hB : B ≤ q) : w.ownsRow B 50 5 (.slice (some ⟨q, 0, none⟩) 0 0) 0 [] := ⟨rfl, .inr ⟨q, 0, #[], rfl, hB, h, Nat.le_refl _, by unfold maxLen; omega, rfl, rfl⟩⟩
theorem at_new (w : World) (o : Obj) : (w.alloc o).heap[w.heap.size]? = some o := heap_alloc_new w o
theorem at_new2 (w : World) (o o2 : Obj) : ((w.alloc o).alloc o2).heap[w.heap.size]? = some o := ((belA (Below.refl _ (w.alloc o)) o2).block w.heap.size (by simp)).trans (heap_alloc_new w o)
theorem at_new3 (w : World) (o o2 : Obj) : ((w.alloc o).alloc o2).heap[w.heap.size + 1]? = some o2 := by
  have := heap_alloc_new (w.alloc o) o2
  rw [World.size_alloc] at this
  exact this
theorem make6 (w : World) : (Instr.makeSlice 83 (.int .i64 6) (.int .i64 6)).run Tryd.prog w = .ok (.slice (some ⟨w.heap.size, 0, none⟩) 6 6) (w.alloc (.cells #[.int .i64 0, .int .i64 0, .int .i64 0, .int .i64 0, .int .i64 0, .int .i64 0] 3)) := by kernel_rfl
/-- The answer is written: nothing else turns. -/
theorem hr_end {w w6 : World} {Z : Nt} {is : Bool} {e : Int} {a0 a1 : Option Addr} {c0 c1 : Nat} (q : Below w.heap.size w w6) (h0 : PRow w a0 Z.l0 Z.P0 ∨ w6.ownsRow (w.heap.size + 2) 50 5 (.slice a0 Z.l0 c0) Z.l0 (flP Z.l0 Z.P0)) (h1 : PRow w a1 Z.l1 Z.P1 ∨ w6.ownsRow (w.heap.size + 2) 50 5 (.slice a1 Z.l1 c1) Z.l1 (flP Z.l1 Z.P1)) (n0 : a0 = none → Z.l0 = 0 ∧ c0 = 0) (n1 : a1 = none → Z.l1 = 0 ∧ c1 = 0) : HrP Z is e w (.returned (.tuple #[.agg #[.slice a0 Z.l0 c0, .slice a1 Z.l1 c1, .int .u32 (Z.ms : Nat)], .bool is, .int .i64 e])) (((w6.setCell ⟨w.heap.size + 1, 0, none⟩ (.slice a0 Z.l0 c0)).setCell ⟨w.heap.size + 1, 1, none⟩ (.slice a1 Z.l1 c1)).setCell ⟨w.heap.size + 1, 2, none⟩ (.int .u32 (Z.ms : Nat))) := by
  have os : Off [w.heap.size + 1] w6 (((w6.setCell ⟨w.heap.size + 1, 0, none⟩ (.slice a0 Z.l0 c0)).setCell ⟨w.heap.size + 1, 1, none⟩ (.slice a1 Z.l1 c1)).setCell ⟨w.heap.size + 1, 2, none⟩ (.int .u32 (Z.ms : Nat))) := Off.trans (Off.trans (Off.setCell _ 0 _ _) (Off.setCell _ 1 _ _)) (Off.setCell _ 2 _ _)
  obtain ⟨wf, hwf⟩ : ∃ y, (((w6.setCell ⟨w.heap.size + 1, 0, none⟩ (.slice a0 Z.l0 c0)).setCell ⟨w.heap.size + 1, 1, none⟩ (.slice a1 Z.l1 c1)).setCell ⟨w.heap.size + 1, 2, none⟩ (.int .u32 (Z.ms : Nat))) = y := ⟨_, rfl⟩
  rw [hwf] at os ⊢
  have bb := os.below q (by simp) q.size
  have r0 : PRow wf a0 Z.l0 Z.P0 := by
    rcases h0 with h | h
    · exact h.below bb
    · exact PRow.of_own (own_off h os (fun k hk hm => by have := (h.lt k hk).1; simp at hm; omega))
  have r1 : PRow wf a1 Z.l1 Z.P1 := by
    rcases h1 with h | h
    · exact h.below bb
    · exact PRow.of_own (own_off h os (fun k hk hm => by have := (h.lt k hk).1; simp at hm; omega))
  exact ⟨a0, c0, a1, c1, rfl, r0, r1, n0, n1, bb⟩
set_option maxHeartbeats 1000000 in
theorem rhead_no (Z : Nt) (a0 a1 : Option Addr) (c0 c1 : Nat) (n0 : a0 = none → Z.l0 = 0 ∧ c0 = 0) (n1 : a1 = none → Z.l1 = 0 ∧ c1 = 0) (aw : Option Addr) (N C : Nat) (L : Nat → List UInt8) (w : World) (h0 : PRow w a0 Z.l0 Z.P0) (h1 : PRow w a1 Z.l1 Z.P1) (h : WsRow w aw N L) (hh : hdIs N L = false) : Calls Tryd.prog 24 #[.agg #[.slice a0 Z.l0 c0, .slice a1 Z.l1 c1, .int .u32 (Z.ms : Nat)], .slice aw N C] w (HrP Z false 0 w) := by
  obtain ⟨W, hW⟩ : ∃ y, (w.alloc (.cells #[.slice a0 Z.l0 c0, .slice a1 Z.l1 c1, .int .u32 (Z.ms : Nat)] 26)).alloc (.cells #[.slice none 0 0, .slice none 0 0, .int .u32 0] 26) = y := ⟨_, rfl⟩
  have bW : Below w.heap.size w W := by rw [← hW]; exact belA (belA (Below.refl _ _) _) _
  have kb : Bk W w.heap.size #[.slice a0 Z.l0 c0, .slice a1 Z.l1 c1, .int .u32 (Z.ms : Nat)] 26 := by rw [← hW]; exact (Bk.new w _ _).off (l := []) (Off.alloc _ _ _) (by simp)
  have kz : Bk W (w.heap.size + 1) #[.slice none 0 0, .slice none 0 0, .int .u32 0] 26 := by
    rw [← hW]
    have := Bk.new (w.alloc (.cells #[.slice a0 Z.l0 c0, .slice a1 Z.l1 c1, .int .u32 (Z.ms : Nat)] 26)) #[.slice none 0 0, .slice none 0 0, .int .u32 0] 26
    rw [World.size_alloc] at this
    exact this
  have m0 : W.cell? ⟨w.heap.size, 0, none⟩ = some (.slice a0 Z.l0 c0) := kb.cell 0
  have m1 : W.cell? ⟨w.heap.size, 1, none⟩ = some (.slice a1 Z.l1 c1) := kb.cell 1
  have m2 : W.cell? ⟨w.heap.size, 2, none⟩ = some (.int .u32 (Z.ms : Nat)) := kb.cell 2
  have z0 : W.cell? ⟨w.heap.size + 1, 0, none⟩ = some (.slice none 0 0) := kz.cell 0
  have z1 : W.cell? ⟨w.heap.size + 1, 1, none⟩ = some (.slice none 0 0) := kz.cell 1
  have z2 : W.cell? ⟨w.heap.size + 1, 2, none⟩ = some (.int .u32 0) := kz.cell 2
  have fz := kz.fz
  have HE : Hid (_) := hr_end (is := false) (e := 0) bW (.inl h0) (.inl h1) n0 n1
  by_cases hN : N = 0
  · subst hN
    clear kb kz bW h0 h1 n0 n1 h hh
    go_enter Tryd.func24, Tryd.ntmps24
    go_upto_region 1 with fail
    try rw [hW]
    clear hW
    go_wp2_with fail
    refine bodyPost_ret (v := .tuple #[.agg #[.slice a0 Z.l0 c0, .slice a1 Z.l1 c1, .int .u32 (Z.ms : Nat)], .bool false, .int .i64 0]) (by simp [results, Tryd.results24, go_sem, z0, z1, z2]) rfl ?_
    exact HE.out
  · obtain ⟨g, o, rfl, cw0⟩ := h 0 (by omega)
    rw [Nat.add_zero] at cw0
    have cw := cellB cw0 bW
    have hw : hdW (L 0) = false := by
      unfold hdIs at hh
      simp only [Bool.and_eq_false_iff, decide_eq_false_iff_not] at hh
      rcases hh with q | q
      · omega
      · exact q
    unfold hdW at hw
    simp only [Bool.or_eq_false_iff] at hw
    have x1 : ((tx (L 0)).toList == [110, 101, 116]) = false := by rw [tx_list]; exact hw.1.1
    have x2 : ((tx (L 0)).toList == [104, 111, 115, 116]) = false := by rw [tx_list]; exact hw.1.2
    have x3 : ((tx (L 0)).toList == [100, 101, 118, 105, 99, 101]) = false := by rw [tx_list]; exact hw.2
    have qN : (((N : Nat) : Int) == 0) = false := beq_eq_false_iff_ne.2 (by omega)
    have qN0 : (0 : Int) < ((N : Nat) : Int) := by omega
    obtain ⟨X0, hX0⟩ : ∃ y, tx (L 0) = y := ⟨_, rfl⟩
    rw [hX0] at cw x1 x2 x3
    clear kb kz bW h0 h1 n0 n1 h hh hw cw0 hX0 hN
    go_enter Tryd.func24, Tryd.ntmps24
    go_upto_region 1 with fail
    try rw [hW]
    clear hW
    go_wp2_with fail
    refine bodyPost_ret (v := .tuple #[.agg #[.slice a0 Z.l0 c0, .slice a1 Z.l1 c1, .int .u32 (Z.ms : Nat)], .bool false, .int .i64 0]) (by simp [results, Tryd.results24, go_sem, z0, z1, z2]) rfl ?_
    exact HE.out
set_option maxHeartbeats 4000000 in
theorem rhead_net (Z : Nt) (a0 a1 : Option Addr) (c0 c1 : Nat) (n0 : a0 = none → Z.l0 = 0 ∧ c0 = 0) (n1 : a1 = none → Z.l1 = 0 ∧ c1 = 0) (g o N n C : Nat) (hN1 : N = n + 1) (L : Nat → List UInt8) (hL0 : L 0 = [110, 101, 116]) (w : World) (h0 : PRow w a0 Z.l0 Z.P0) (h1 : PRow w a1 Z.l1 Z.P1) (h : ∀ i, i < N → w.cell? ⟨g, o + i, none⟩ = some (.string (tx (L i)))) : Calls Tryd.prog 24 #[.agg #[.slice a0 Z.l0 c0, .slice a1 Z.l1 c1, .int .u32 (Z.ms : Nat)], .slice (some ⟨g, o, none⟩) N C] w (HrP (Z.put n L) true (hdE n L) w) := by
  obtain ⟨W, hW⟩ : ∃ y, (w.alloc (.cells #[.slice a0 Z.l0 c0, .slice a1 Z.l1 c1, .int .u32 (Z.ms : Nat)] 26)).alloc (.cells #[.slice none 0 0, .slice none 0 0, .int .u32 0] 26) = y := ⟨_, rfl⟩
  have bW : Below w.heap.size w W := by rw [← hW]; exact belA (belA (Below.refl _ _) _) _
  have kb : Bk W w.heap.size #[.slice a0 Z.l0 c0, .slice a1 Z.l1 c1, .int .u32 (Z.ms : Nat)] 26 := by rw [← hW]; exact (Bk.new w _ _).off (l := []) (Off.alloc _ _ _) (by simp)
  have kz : Bk W (w.heap.size + 1) #[.slice none 0 0, .slice none 0 0, .int .u32 0] 26 := by
    rw [← hW]
    have := Bk.new (w.alloc (.cells #[.slice a0 Z.l0 c0, .slice a1 Z.l1 c1, .int .u32 (Z.ms : Nat)] 26)) #[.slice none 0 0, .slice none 0 0, .int .u32 0] 26
    rw [World.size_alloc] at this
    exact this
  have hA : hdA (L 0) = 1 := by rw [hL0]; rfl
  have eE : hdE n L = if n < 1 then 202 else if 1 < n then 201 else if allV (fun i => L (i + 1)) n = true then 0 else 203 := by unfold hdE; rw [hA]
  have cw0 := h 0 (by omega)
  rw [Nat.add_zero] at cw0
  have cw := cellB cw0 bW
  have x1 : ((tx (L 0)).toList == [110, 101, 116]) = true := by rw [tx_list, hL0]; rfl
  have x2 : ((tx (L 0)).toList == [104, 111, 115, 116]) = false := by rw [tx_list, hL0]; rfl
  have x3 : ((tx (L 0)).toList == [100, 101, 118, 105, 99, 101]) = false := by rw [tx_list, hL0]; rfl
  have qN : (((N : Nat) : Int) == 0) = false := beq_eq_false_iff_ne.2 (by omega)
  have qN0 : (0 : Int) < ((N : Nat) : Int) := by omega
  obtain ⟨X0, hX0⟩ : ∃ y, tx (L 0) = y := ⟨_, rfl⟩
  rw [hX0] at cw0 cw x1 x2 x3
  clear hX0 hA
  by_cases hb : n < 1 ∨ 1 < n
  · obtain ⟨e1, he1⟩ : ∃ e1 : Int, hdE n L = e1 ∧ ((n < 1 ∧ e1 = 202) ∨ (¬ n < 1 ∧ 1 < n ∧ e1 = 201)) := by
      refine ⟨_, rfl, ?_⟩
      rw [eE]
      by_cases q : n < 1
      · rw [if_pos q]; exact .inl ⟨q, rfl⟩
      · rw [if_neg q, if_pos (by omega)]; exact .inr ⟨q, by omega, rfl⟩
    have hp : Z.put n L = Z := by
      unfold Nt.put
      rw [if_neg (by rw [he1.1]; omega)]
    rw [he1.1, hp]
    have m0 : W.cell? ⟨w.heap.size, 0, none⟩ = some (.slice a0 Z.l0 c0) := kb.cell 0
    have m1 : W.cell? ⟨w.heap.size, 1, none⟩ = some (.slice a1 Z.l1 c1) := kb.cell 1
    have m2 : W.cell? ⟨w.heap.size, 2, none⟩ = some (.int .u32 (Z.ms : Nat)) := kb.cell 2
    have z0 : W.cell? ⟨w.heap.size + 1, 0, none⟩ = some (.slice none 0 0) := kz.cell 0
    have z1 : W.cell? ⟨w.heap.size + 1, 1, none⟩ = some (.slice none 0 0) := kz.cell 1
    have z2 : W.cell? ⟨w.heap.size + 1, 2, none⟩ = some (.int .u32 0) := kz.cell 2
    have fz := kz.fz
    rcases he1.2 with ⟨q1, rfl⟩ | ⟨q1, q2, rfl⟩
    · have HE : Hid (_) := hr_end (is := true) (e := 202) bW (.inl h0) (.inl h1) n0 n1
      have t1 : ((N : Nat) : Int) < 2 := by omega
      clear kb kz bW h0 h1 n0 n1 h he1 hp eE hb hN1 cw0 hL0
      go_enter Tryd.func24, Tryd.ntmps24
      go_upto_region 1 with fail
      try rw [hW]
      clear hW
      go_wp2_with fail
      refine bodyPost_ret (v := .tuple #[.agg #[.slice a0 Z.l0 c0, .slice a1 Z.l1 c1, .int .u32 (Z.ms : Nat)], .bool true, .int .i64 202]) (by simp [results, Tryd.results24, go_sem, z0, z1, z2]) rfl ?_
      exact HE.out
    · have HE : Hid (_) := hr_end (is := true) (e := 201) bW (.inl h0) (.inl h1) n0 n1
      have t1 : ¬ ((N : Nat) : Int) < 2 := by omega
      have t2 : (2 : Int) < ((N : Nat) : Int) := by omega
      clear kb kz bW h0 h1 n0 n1 h he1 hp eE hb hN1 cw0 hL0 q1 q2
      go_enter Tryd.func24, Tryd.ntmps24
      go_upto_region 1 with fail
      try rw [hW]
      clear hW
      go_wp2_with fail
      refine bodyPost_ret (v := .tuple #[.agg #[.slice a0 Z.l0 c0, .slice a1 Z.l1 c1, .int .u32 (Z.ms : Nat)], .bool true, .int .i64 201]) (by simp [results, Tryd.results24, go_sem, z0, z1, z2]) rfl ?_
      exact HE.out
  obtain rfl : n = 1 := by omega
  obtain rfl : N = 2 := by omega
  rw [if_neg (by omega), if_neg (by omega)] at eE
  obtain ⟨R, hR⟩ : ∃ y, (fun i => L (i + 1)) = y := ⟨_, rfl⟩
  have hRw : ∀ i, 1 ≤ i → i < 2 → w.cell? ⟨g, o + i, none⟩ = some (.string (tx (R (i - 1)))) := fun i h1 hi => by
    rw [← hR]
    have := h i hi
    simp only [Nat.sub_add_cancel h1]
    exact this
  rw [hR] at eE
  have bad : allV R 1 = false → ∀ w6, Below w.heap.size w w6 → HrP (Z.put 1 L) true (hdE 1 L) w (.returned (.tuple #[.agg #[.slice a0 Z.l0 c0, .slice a1 Z.l1 c1, .int .u32 (Z.ms : Nat)], .bool true, .int .i64 203])) (((w6.setCell ⟨w.heap.size + 1, 0, none⟩ (.slice a0 Z.l0 c0)).setCell ⟨w.heap.size + 1, 1, none⟩ (.slice a1 Z.l1 c1)).setCell ⟨w.heap.size + 1, 2, none⟩ (.int .u32 (Z.ms : Nat))) := fun q w6 q6 => by
    rw [q] at eE
    have hp : Z.put 1 L = Z := by unfold Nt.put; rw [if_neg (by rw [eE]; simp)]
    rw [hp, eE]
    exact hr_end q6 (.inl h0) (.inl h1) n0 n1
  have good : allV R 1 = true → ∀ w6, Below w.heap.size w w6 → HrP (Z.put 1 L) true (hdE 1 L) w (.returned (.tuple #[.agg #[.slice a0 Z.l0 c0, .slice a1 Z.l1 c1, .int .u32 ((vlV (R 0) : Nat) : Int)], .bool true, .int .i64 0])) (((w6.setCell ⟨w.heap.size + 1, 0, none⟩ (.slice a0 Z.l0 c0)).setCell ⟨w.heap.size + 1, 1, none⟩ (.slice a1 Z.l1 c1)).setCell ⟨w.heap.size + 1, 2, none⟩ (.int .u32 ((vlV (R 0) : Nat) : Int))) := fun q w6 q6 => by
    rw [q] at eE
    have hp : Z.put 1 L = { Z with ms := vlV (R 0) } := by
      unfold Nt.put
      rw [if_pos (by rw [eE]; rfl), if_pos hL0, ← hR]
    rw [hp, eE]
    exact hr_end (Z := { Z with ms := vlV (R 0) }) q6 (.inl h0) (.inl h1) n0 n1
  have HP : Hid (_) := And.intro bad (And.intro good (And.intro hRw (And.intro bW (And.intro kb kz))))
  have HRw : Hid (PRow w a0 Z.l0 Z.P0 ∧ PRow w a1 Z.l1 Z.P1 ∧ (a0 = none → Z.l0 = 0 ∧ c0 = 0) ∧ (a1 = none → Z.l1 = 0 ∧ c1 = 0)) := ⟨h0, h1, n0, n1⟩
  have hV := fun i wx => rvalue (R i) wx
  have eG : Hid (∀ i, 1 ≤ i → i ≤ 1 → ((i : Nat) : Int) < 2) := fun i h1 h2 => by omega
  obtain ⟨ZZ, hZZ⟩ : ∃ y, Z.put 1 L = y := ⟨_, rfl⟩
  obtain ⟨EE, hEE⟩ : ∃ y, hdE 1 L = y := ⟨_, rfl⟩
  rw [hZZ, hEE] at HP ⊢
  have HCW : Hid (_) := cw0
  clear hZZ hEE bad good hRw bW kb kz h0 h1 h n0 n1 eE hb hR cw0 hL0 hN1
  go_enter Tryd.func24, Tryd.ntmps24
  go_upto_region 1 with fail
  try rw [hW]
  clear hW
  go_upto_region 10 with fail
  clear cw qN qN0
  have hmk := make6 W
  have kv : Bk (W.alloc (.cells #[.int .i64 0, .int .i64 0, .int .i64 0, .int .i64 0, .int .i64 0, .int .i64 0] 3)) W.heap.size (vA R 0) 3 := Bk.new _ _ _
  have b1 := belA (Below.refl _ W) (.cells #[.int .i64 0, .int .i64 0, .int .i64 0, .int .i64 0, .int .i64 0, .int .i64 0] 3)
  obtain ⟨W1, hW1⟩ : ∃ y, W.alloc (.cells #[.int .i64 0, .int .i64 0, .int .i64 0, .int .i64 0, .int .i64 0, .int .i64 0] 3) = y := ⟨_, rfl⟩
  rw [hW1] at hmk kv b1
  have HV1 : Hid (_) := And.intro kv b1
  clear hW1 kv b1
  go_wp2_with fail
  clear hmk
  have hbl : ∀ wr, Off [W.heap.size] W1 wr → Below w.heap.size w wr ∧ Below W.heap.size W wr := fun wr q => by
    have t1 : Below W.heap.size W wr := q.below HV1.out.2 (by simp) HV1.out.2.size
    exact ⟨HP.out.2.2.2.1.trans (t1.mono HP.out.2.2.2.1.size), t1⟩
  have HBL : Hid (_) := hbl
  clear hbl
  go_loopw [9, 10, 11, 50, 51, 52, 53, 54, 55, 56, 57, 58, 59, 60, 61, 62, 63, 64, 65, 66, 67, 68, 69] (fun c _ _ _ _ _ _ _ _ _ _ _ _ _ _ _ _ _ _ _ _ _ _ wr => ∃ i : Nat, 1 ≤ i ∧ i ≤ 2 ∧ c = .int .i64 ((i : Nat) : Int) ∧ Hid (∃ A, A = vA R (i - 1) ∧ Bk wr W.heap.size A 3 ∧ Off [W.heap.size] W1 wr ∧ allV R (i - 1) = true)) (fun c _ _ _ _ _ _ _ _ _ _ _ _ _ _ _ _ _ _ _ _ _ _ _ => 2 - natV c)
  case atStart => exact ⟨1, by omega, by omega, rfl, _, rfl, HV1.out.1, Off.refl _ _, rfl⟩
  case round =>
    obtain ⟨i, hi1, hi, rfl, HI⟩ := hrel
    obtain ⟨A, eA, kA, oA, okA⟩ := HI.out
    obtain ⟨bwr, bWr⟩ := HBL.out wr oA
    have kb := HP.out.2.2.2.2.1.off (Off.of_below (l := []) bWr) (by simp)
    have kz := HP.out.2.2.2.2.2.off (Off.of_below (l := []) bWr) (by simp)
    by_cases hlt : i < 2
    · have hlt' : ((i : Nat) : Int) < 2 := by omega
      have hl6 : ((i : Nat) : Int) < 6 := by omega
      obtain ⟨j, hj⟩ : ∃ y, i - 1 = y := ⟨_, rfl⟩
      obtain ⟨i1, hi1'⟩ : ∃ y, i + 1 = y := ⟨_, rfl⟩
      have hadd : IntKind.i64.wrap (((i : Nat) : Int) + 1) = ((i1 : Nat) : Int) := by rw [IntKind.wrap_i64]; omega
      have cW := cellB (HP.out.2.2.1 i hi1 hlt) bwr
      rw [hj] at cW eA okA
      have hV' := hV j wr
      have sz : A.size = 6 := by rw [eA]; exact vA_size R j
      obtain ⟨x, hx⟩ : ∃ x, A[i]? = some x := ⟨_, Array.getElem?_eq_getElem (by omega)⟩
      have cA : wr.cell? ⟨W.heap.size, i, none⟩ = some x := (kA.cell i).trans hx
      have fA := kA.fz
      have nx : ∀ v, v = Value.int .i64 ((vlV (R j) : Nat) : Int) → vlO (R j) = true → ∃ A', A' = vA R (j + 1) ∧ Bk (wr.setCell ⟨W.heap.size, i, none⟩ v) W.heap.size A' 3 ∧ Off [W.heap.size] W1 (wr.setCell ⟨W.heap.size, i, none⟩ v) ∧ allV R (j + 1) = true := fun v ev q => by
        refine ⟨_, rfl, ?_, oA.trans (Off.setCell _ _ _ _), ?_⟩
        · have := kA.set i v
          rw [eA, ev, show i = j + 1 by omega] at this
          rw [ev, show i = j + 1 by omega]
          exact this
        · unfold allV
          rw [okA, q]
          rfl
      have no : vlO (R j) = false → allV R 1 = false := allV_no 1 j (by omega)
      obtain ⟨X, hX⟩ : ∃ y, tx (R j) = y := ⟨_, rfl⟩
      rw [hX] at hV' cW
      obtain ⟨V, hVe⟩ : ∃ y, vlV (R j) = y := ⟨_, rfl⟩
      obtain ⟨O, hOe⟩ : ∃ y, vlO (R j) = y := ⟨_, rfl⟩
      rw [hVe, hOe] at hV'
      rw [hVe, hOe] at nx
      rw [hOe] at no
      have m0 : wr.cell? ⟨w.heap.size, 0, none⟩ = some (.slice a0 Z.l0 c0) := kb.cell 0
      have m1 : wr.cell? ⟨w.heap.size, 1, none⟩ = some (.slice a1 Z.l1 c1) := kb.cell 1
      have m2 : wr.cell? ⟨w.heap.size, 2, none⟩ = some (.int .u32 (Z.ms : Nat)) := kb.cell 2
      have z0 : wr.cell? ⟨w.heap.size + 1, 0, none⟩ = some (.slice none 0 0) := kz.cell 0
      have z1 : wr.cell? ⟨w.heap.size + 1, 1, none⟩ = some (.slice none 0 0) := kz.cell 1
      have z2 : wr.cell? ⟨w.heap.size + 1, 2, none⟩ = some (.int .u32 0) := kz.cell 2
      have fz := kz.fz
      have HJ : Hid (_) := And.intro nx (And.intro no (And.intro bwr (And.intro hj (And.intro hi1' hi1))))
      clear nx no bwr bWr hj hi1' hi1 hX hVe hOe kb kz kA oA okA eA sz hx HI hi hV
      go_wp2_with fail
      refine hV'.mono ?_
      rintro r w' ⟨rfl, hw⟩
      rw [hw]
      clear hw hV'
      cases O with
      | false =>
        go_wp2_with fail
        refine bodyPost_ret (v := .tuple #[.agg #[.slice a0 Z.l0 c0, .slice a1 Z.l1 c1, .int .u32 (Z.ms : Nat)], .bool true, .int .i64 203]) (by simp [results, Tryd.results24, go_sem, z0, z1, z2]) rfl ?_
        exact HP.out.1 (HJ.out.2.1 trivial) _ HJ.out.2.2.1
      | true =>
        go_wp2_with fail
        go_roundw
        case rel =>
          have e1 := HJ.out.2.2.2.1
          have e2 := HJ.out.2.2.2.2.1
          have e4 := HJ.out.2.2.2.2.2
          have e3 : i1 - 1 = j + 1 := by omega
          refine ⟨i1, by omega, by omega, rfl, ?_⟩
          rw [e3]
          exact HJ.out.1 _ rfl trivial
        case measure =>
          have e2 := HJ.out.2.2.2.2.1
          simp [natV]
          omega
    · obtain rfl : i = 2 := by omega
      rw [show 2 - 1 = 1 from rfl] at eA okA
      clear hlt hV hi hi1 HI
      have kA' : Bk wr W.heap.size #[.int .i64 0, .int .i64 ((vlV (R 0) : Nat) : Int), .int .i64 0, .int .i64 0, .int .i64 0, .int .i64 0] 3 := by
        have e : vA R 1 = #[.int .i64 0, .int .i64 ((vlV (R 0) : Nat) : Int), .int .i64 0, .int .i64 0, .int .i64 0, .int .i64 0] := rfl
        rw [← e, ← eA]
        exact kA
      have v0 := vlV_lt (R 0)
      obtain ⟨V0, hV0⟩ : ∃ y, vlV (R 0) = y := ⟨_, rfl⟩
      rw [hV0] at kA'
      rw [hV0] at v0
      have wu0 : IntKind.u32.wrap ((V0 : Nat) : Int) = ((V0 : Nat) : Int) := by rw [IntKind.wrap_u32]; omega
      have HVs : Hid (_) := hV0
      clear hV0
      have m0 : wr.cell? ⟨w.heap.size, 0, none⟩ = some (.slice a0 Z.l0 c0) := kb.cell 0
      have m1 : wr.cell? ⟨w.heap.size, 1, none⟩ = some (.slice a1 Z.l1 c1) := kb.cell 1
      have m2 : wr.cell? ⟨w.heap.size, 2, none⟩ = some (.int .u32 (Z.ms : Nat)) := kb.cell 2
      have z0 : wr.cell? ⟨w.heap.size + 1, 0, none⟩ = some (.slice none 0 0) := kz.cell 0
      have z1 : wr.cell? ⟨w.heap.size + 1, 1, none⟩ = some (.slice none 0 0) := kz.cell 1
      have z2 : wr.cell? ⟨w.heap.size + 1, 2, none⟩ = some (.int .u32 0) := kz.cell 2
      have fz := kz.fz
      have s1 : wr.cell? ⟨W.heap.size, 1, none⟩ = some (.int .i64 ((V0 : Nat) : Int)) := kA'.cell 1
      have sA1 : ∀ ob, (wr.alloc ob).cell? ⟨W.heap.size, 1, none⟩ = some (.int .i64 ((V0 : Nat) : Int)) := fun ob => cellB s1 (belA (Below.refl _ _) _)
      have s2 : wr.cell? ⟨W.heap.size, 2, none⟩ = some (.int .i64 0) := kA'.cell 2
      have sA2 : ∀ ob, (wr.alloc ob).cell? ⟨W.heap.size, 2, none⟩ = some (.int .i64 0) := fun ob => cellB s2 (belA (Below.refl _ _) _)
      have s3 : wr.cell? ⟨W.heap.size, 3, none⟩ = some (.int .i64 0) := kA'.cell 3
      have sA3 : ∀ ob, (wr.alloc ob).cell? ⟨W.heap.size, 3, none⟩ = some (.int .i64 0) := fun ob => cellB s3 (belA (Below.refl _ _) _)
      have s4 : wr.cell? ⟨W.heap.size, 4, none⟩ = some (.int .i64 0) := kA'.cell 4
      have sA4 : ∀ ob, (wr.alloc ob).cell? ⟨W.heap.size, 4, none⟩ = some (.int .i64 0) := fun ob => cellB s4 (belA (Below.refl _ _) _)
      have s5 : wr.cell? ⟨W.heap.size, 5, none⟩ = some (.int .i64 0) := kA'.cell 5
      have sA5 : ∀ ob, (wr.alloc ob).cell? ⟨W.heap.size, 5, none⟩ = some (.int .i64 0) := fun ob => cellB s5 (belA (Below.refl _ _) _)
      have HS1 : Hid (_) := s1
      have HQ : Hid (_) := And.intro okA (And.intro bwr (And.intro bWr (And.intro kb kz)))
      have lW : w.heap.size + 2 ≤ W.heap.size := HP.out.2.2.2.2.2.lt
      have HL : Hid (w.heap.size + 2 ≤ W.heap.size) := lW
      clear kA kA' eA oA okA bwr bWr kb kz lW
      have cW0 : wr.cell? ⟨g, o, none⟩ = some (.string X0) := cellB HCW.out HQ.out.2.1
      go_upto_region 18 with fail
      go_cut [12, 70, 71, 72, 73, 74, 75, 76, 77, 78, 79, 80, 81, 82, 83, 84, 85, 86, 87] (fun x _ _ _ _ _ _ _ _ _ _ _ _ _ _ _ _ _ _ wx => x = .pointer (some ⟨wr.heap.size, 0, none⟩) ∧ Hid (Below wr.heap.size wr wx ∧ Bk wx wr.heap.size #[.int .u32 ((V0 : Nat) : Int), .int .i64 0, .int .i64 0, .int .i64 0, .int .u32 0] 50))
      case first =>
        go_region
        all_goals ((try go_wp2_with fail); go_meet; exact ⟨rfl, Below.drew (belA (Below.refl _ _) _), heap_alloc_new _ _⟩)
      case rest =>
        obtain ⟨rfl, HC⟩ := hcut
        have cW1 := cellB cW0 HC.out.1
        have bwc : Below w.heap.size w wc := HQ.out.2.1.trans (HC.out.1.mono HQ.out.2.1.size)
        have kb := HQ.out.2.2.2.1.off (Off.of_below (l := []) HC.out.1) (by simp)
        have kz := HQ.out.2.2.2.2.off (Off.of_below (l := []) HC.out.1) (by simp)
        clear cW0 m0 m1 m2 z0 z1 z2 fz s1 sA1 s2 sA2 s3 sA3 s4 sA4 s5 sA5
        have q1 : wc.cell? ⟨W.heap.size, 1, none⟩ = some (.int .i64 ((V0 : Nat) : Int)) := cellB HS1.out HC.out.1
        have k2 := kb.cell 2
        have kf := kb.fz
        have k2' : wc.cell? ⟨w.heap.size, 2, none⟩ = some (.int .u32 (Z.ms : Nat)) := kb.cell 2
        obtain ⟨w9, hw9⟩ : ∃ y, wc.setCell ⟨w.heap.size, 2, none⟩ (.int .u32 ((V0 : Nat) : Int)) = y := ⟨_, rfl⟩
        have os := Off.setCell w.heap.size 2 wc (.int .u32 ((V0 : Nat) : Int))
        have kb9 := kb.set 2 (.int .u32 ((V0 : Nat) : Int))
        have kz9 := kz.off os (by simp)
        have b9 := os.below bwc (by simp) bwc.size
        rw [hw9] at os kb9 kz9 b9
        go_upto_region 25 with fail
        try rw [hw9]
        clear hw9
        have m0 : w9.cell? ⟨w.heap.size, 0, none⟩ = some (.slice a0 Z.l0 c0) := kb9.cell 0
        have m1 : w9.cell? ⟨w.heap.size, 1, none⟩ = some (.slice a1 Z.l1 c1) := kb9.cell 1
        have m2 : w9.cell? ⟨w.heap.size, 2, none⟩ = some (.int .u32 ((V0 : Nat) : Int)) := kb9.cell 2
        have z0 : w9.cell? ⟨w.heap.size + 1, 0, none⟩ = some (.slice none 0 0) := kz9.cell 0
        have z1 : w9.cell? ⟨w.heap.size + 1, 1, none⟩ = some (.slice none 0 0) := kz9.cell 1
        have z2 : w9.cell? ⟨w.heap.size + 1, 2, none⟩ = some (.int .u32 0) := kz9.cell 2
        have fz := kz9.fz
        have HF : Hid (_) := HP.out.2.1 HQ.out.1 w9 b9
        rw [HVs.out] at HF
        clear kb9 kz9 os b9 kb kz bwc k2 kf k2' q1 cW1
        go_wp2_with fail
        refine bodyPost_ret (v := .tuple #[.agg #[.slice a0 Z.l0 c0, .slice a1 Z.l1 c1, .int .u32 ((V0 : Nat) : Int)], .bool true, .int .i64 0]) (by simp [results, Tryd.results24, go_sem, z0, z1, z2]) rfl ?_
        exact HF.out
end Go.Proofs.YtnmnjcjfgbpkaaaDoor
