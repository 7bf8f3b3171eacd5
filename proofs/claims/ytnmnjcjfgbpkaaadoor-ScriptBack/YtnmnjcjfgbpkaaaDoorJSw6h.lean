/- Layer 20: the document's Head: a line of a host. (gensw6.py) -/
import Derived.Test.YtnmnjcjfgbpkaaaDoorJSw6
namespace Go.Proofs.YtnmnjcjfgbpkaaaDoor
set_option maxRecDepth 100000
open Go.RowKit Go.Maps
set_option maxRecDepth 100000
set_option linter.unusedVariables false
set_option maxHeartbeats 4000000 in
theorem rhead_host (Z : Nt) (hz : Z.l0 ≤ 1000000) (a0 a1 : Option Addr) (c0 c1 : Nat) (n0 : a0 = none → Z.l0 = 0 ∧ c0 = 0) (n1 : a1 = none → Z.l1 = 0 ∧ c1 = 0) (g o N n C : Nat) (hN1 : N = n + 1) (L : Nat → List UInt8) (hL0 : L 0 = [104, 111, 115, 116]) (w : World) (h0 : PRow w a0 Z.l0 Z.P0) (h1 : PRow w a1 Z.l1 Z.P1) (h : ∀ i, i < N → w.cell? ⟨g, o + i, none⟩ = some (.string (tx (L i)))) : Calls Tryd.prog 24 #[.agg #[.slice a0 Z.l0 c0, .slice a1 Z.l1 c1, .int .u32 (Z.ms : Nat)], .slice (some ⟨g, o, none⟩) N C] w (HrP (Z.put n L) true (hdE n L) w) := by
  obtain ⟨W, hW⟩ : ∃ y, (w.alloc (.cells #[.slice a0 Z.l0 c0, .slice a1 Z.l1 c1, .int .u32 (Z.ms : Nat)] 26)).alloc (.cells #[.slice none 0 0, .slice none 0 0, .int .u32 0] 26) = y := ⟨_, rfl⟩
  have bW : Below w.heap.size w W := by rw [← hW]; exact belA (belA (Below.refl _ _) _) _
  have kb : Bk W w.heap.size #[.slice a0 Z.l0 c0, .slice a1 Z.l1 c1, .int .u32 (Z.ms : Nat)] 26 := by rw [← hW]; exact (Bk.new w _ _).off (l := []) (Off.alloc _ _ _) (by simp)
  have kz : Bk W (w.heap.size + 1) #[.slice none 0 0, .slice none 0 0, .int .u32 0] 26 := by
    rw [← hW]
    have := Bk.new (w.alloc (.cells #[.slice a0 Z.l0 c0, .slice a1 Z.l1 c1, .int .u32 (Z.ms : Nat)] 26)) #[.slice none 0 0, .slice none 0 0, .int .u32 0] 26
    rw [World.size_alloc] at this
    exact this
  have hA : hdA (L 0) = 5 := by rw [hL0]; rfl
  have eE : hdE n L = if n < 5 then 202 else if 5 < n then 201 else if allV (fun i => L (i + 1)) n = true then 0 else 203 := by unfold hdE; rw [hA]
  have cw0 := h 0 (by omega)
  rw [Nat.add_zero] at cw0
  have cw := cellB cw0 bW
  have x1 : ((tx (L 0)).toList == [110, 101, 116]) = false := by rw [tx_list, hL0]; rfl
  have x2 : ((tx (L 0)).toList == [104, 111, 115, 116]) = true := by rw [tx_list, hL0]; rfl
  have x3 : ((tx (L 0)).toList == [100, 101, 118, 105, 99, 101]) = false := by rw [tx_list, hL0]; rfl
  have qN : (((N : Nat) : Int) == 0) = false := beq_eq_false_iff_ne.2 (by omega)
  have qN0 : (0 : Int) < ((N : Nat) : Int) := by omega
  obtain ⟨X0, hX0⟩ : ∃ y, tx (L 0) = y := ⟨_, rfl⟩
  rw [hX0] at cw0 cw x1 x2 x3
  clear hX0 hA
  by_cases hb : n < 5 ∨ 5 < n
  · obtain ⟨e1, he1⟩ : ∃ e1 : Int, hdE n L = e1 ∧ ((n < 5 ∧ e1 = 202) ∨ (¬ n < 5 ∧ 5 < n ∧ e1 = 201)) := by
      refine ⟨_, rfl, ?_⟩
      rw [eE]
      by_cases q : n < 5
      · rw [if_pos q]; exact .inl ⟨q, rfl⟩
      · rw [if_neg q, if_pos (by omega)]; exact .inr ⟨q, by omega, rfl⟩
    have hp : Z.put n L = Z := by
      unfold Nt.put
      rw [if_neg (by rw [he1.1]; omega)]
    rw [he1.1, hp]
    have m0 : W.cell? ⟨w.heap.size, 0, none⟩ = some (.slice a0 Z.l0 c0) := kb.cell 0
    have m1 : W.cell? ⟨w.heap.size, 1, none⟩ = some (.slice a1 Z.l1 c1) := kb.cell 1
    have m2 : W.cell? ⟨w.heap.size, 2, none⟩ = some (.int .u32 (Z.ms : Nat)) := kb.cell 2
    have z0 : W.cell? ⟨w.heap.size + 1, 0, none⟩ = some (.slice none 0 0) := kz.cell 0
    have z1 : W.cell? ⟨w.heap.size + 1, 1, none⟩ = some (.slice none 0 0) := kz.cell 1
    have z2 : W.cell? ⟨w.heap.size + 1, 2, none⟩ = some (.int .u32 0) := kz.cell 2
    have fz := kz.fz
    rcases he1.2 with ⟨q1, rfl⟩ | ⟨q1, q2, rfl⟩
    · have HE : Hid (_) := hr_end (is := true) (e := 202) bW (.inl h0) (.inl h1) n0 n1
      have t1 : ((N : Nat) : Int) < 6 := by omega
      clear kb kz bW h0 h1 n0 n1 h he1 hp eE hb hN1 cw0 hL0
      go_enter Tryd.func24, Tryd.ntmps24
      go_upto_region 1 with fail
      try rw [hW]
      clear hW
      go_wp2_with fail
      refine bodyPost_ret (v := .tuple #[.agg #[.slice a0 Z.l0 c0, .slice a1 Z.l1 c1, .int .u32 (Z.ms : Nat)], .bool true, .int .i64 202]) (by simp [results, Tryd.results24, go_sem, z0, z1, z2]) rfl ?_
      exact HE.out
    · have HE : Hid (_) := hr_end (is := true) (e := 201) bW (.inl h0) (.inl h1) n0 n1
      have t1 : ¬ ((N : Nat) : Int) < 6 := by omega
      have t2 : (6 : Int) < ((N : Nat) : Int) := by omega
      clear kb kz bW h0 h1 n0 n1 h he1 hp eE hb hN1 cw0 hL0 q1 q2
      go_enter Tryd.func24, Tryd.ntmps24
      go_upto_region 1 with fail
      try rw [hW]
      clear hW
      go_wp2_with fail
      refine bodyPost_ret (v := .tuple #[.agg #[.slice a0 Z.l0 c0, .slice a1 Z.l1 c1, .int .u32 (Z.ms : Nat)], .bool true, .int .i64 201]) (by simp [results, Tryd.results24, go_sem, z0, z1, z2]) rfl ?_
      exact HE.out
  obtain rfl : n = 5 := by omega
  obtain rfl : N = 6 := by omega
  rw [if_neg (by omega), if_neg (by omega)] at eE
  obtain ⟨R, hR⟩ : ∃ y, (fun i => L (i + 1)) = y := ⟨_, rfl⟩
  have hRw : ∀ i, 1 ≤ i → i < 6 → w.cell? ⟨g, o + i, none⟩ = some (.string (tx (R (i - 1)))) := fun i h1 hi => by
    rw [← hR]
    have := h i hi
    simp only [Nat.sub_add_cancel h1]
    exact this
  rw [hR] at eE
  have bad : allV R 5 = false → ∀ w6, Below w.heap.size w w6 → HrP (Z.put 5 L) true (hdE 5 L) w (.returned (.tuple #[.agg #[.slice a0 Z.l0 c0, .slice a1 Z.l1 c1, .int .u32 (Z.ms : Nat)], .bool true, .int .i64 203])) (((w6.setCell ⟨w.heap.size + 1, 0, none⟩ (.slice a0 Z.l0 c0)).setCell ⟨w.heap.size + 1, 1, none⟩ (.slice a1 Z.l1 c1)).setCell ⟨w.heap.size + 1, 2, none⟩ (.int .u32 (Z.ms : Nat))) := fun q w6 q6 => by
    rw [q] at eE
    have hp : Z.put 5 L = Z := by unfold Nt.put; rw [if_neg (by rw [eE]; simp)]
    rw [hp, eE]
    exact hr_end q6 (.inl h0) (.inl h1) n0 n1
  have good : allV R 5 = true → ∀ w6 y k, Below w.heap.size w w6 → w6.ownsRow (w.heap.size + 2) 50 5 (.slice y (Z.l0 + 1) k) (Z.l0 + 1) (flP (Z.l0 + 1) (fun i => if i = Z.l0 then stP R else Z.P0 i)) → HrP (Z.put 5 L) true (hdE 5 L) w (.returned (.tuple #[.agg #[.slice y (Z.l0 + 1) k, .slice a1 Z.l1 c1, .int .u32 (Z.ms : Nat)], .bool true, .int .i64 0])) (((w6.setCell ⟨w.heap.size + 1, 0, none⟩ (.slice y (Z.l0 + 1) k)).setCell ⟨w.heap.size + 1, 1, none⟩ (.slice a1 Z.l1 c1)).setCell ⟨w.heap.size + 1, 2, none⟩ (.int .u32 (Z.ms : Nat))) := fun q w6 y k q6 ow => by
    rw [q] at eE
    have hp : Z.put 5 L = { Z with l0 := Z.l0 + 1, P0 := fun i => if i = Z.l0 then stP R else Z.P0 i } := by
      unfold Nt.put
      rw [if_pos (by rw [eE]; rfl), if_neg (by rw [hL0]; decide), if_pos hL0, ← hR]
    rw [hp, eE]
    exact hr_end (Z := { Z with l0 := Z.l0 + 1, P0 := fun i => if i = Z.l0 then stP R else Z.P0 i }) q6 (.inr ow) (.inl h1) (own_none ow) n1
  have HP : Hid (_) := And.intro bad (And.intro good (And.intro hRw (And.intro bW (And.intro kb kz))))
  have HRw : Hid (PRow w a0 Z.l0 Z.P0 ∧ PRow w a1 Z.l1 Z.P1 ∧ (a0 = none → Z.l0 = 0 ∧ c0 = 0) ∧ (a1 = none → Z.l1 = 0 ∧ c1 = 0)) := ⟨h0, h1, n0, n1⟩
  have hV := fun i wx => rvalue (R i) wx
  have eG : Hid (∀ i, 1 ≤ i → i ≤ 5 → ((i : Nat) : Int) < 6) := fun i h1 h2 => by omega
  obtain ⟨ZZ, hZZ⟩ : ∃ y, Z.put 5 L = y := ⟨_, rfl⟩
  obtain ⟨EE, hEE⟩ : ∃ y, hdE 5 L = y := ⟨_, rfl⟩
  rw [hZZ, hEE] at HP ⊢
  have HCW : Hid (_) := cw0
  clear hZZ hEE bad good hRw bW kb kz h0 h1 h n0 n1 eE hb hR cw0 hL0 hN1
  go_enter Tryd.func24, Tryd.ntmps24
  go_upto_region 1 with fail
  try rw [hW]
  clear hW
  go_upto_region 10 with fail
  clear cw qN qN0
  have hmk := make6 W
  have kv : Bk (W.alloc (.cells #[.int .i64 0, .int .i64 0, .int .i64 0, .int .i64 0, .int .i64 0, .int .i64 0] 3)) W.heap.size (vA R 0) 3 := Bk.new _ _ _
  have b1 := belA (Below.refl _ W) (.cells #[.int .i64 0, .int .i64 0, .int .i64 0, .int .i64 0, .int .i64 0, .int .i64 0] 3)
  obtain ⟨W1, hW1⟩ : ∃ y, W.alloc (.cells #[.int .i64 0, .int .i64 0, .int .i64 0, .int .i64 0, .int .i64 0, .int .i64 0] 3) = y := ⟨_, rfl⟩
  rw [hW1] at hmk kv b1
  have HV1 : Hid (_) := And.intro kv b1
  clear hW1 kv b1
  go_wp2_with fail
  clear hmk
  have hbl : ∀ wr, Off [W.heap.size] W1 wr → Below w.heap.size w wr ∧ Below W.heap.size W wr := fun wr q => by
    have t1 : Below W.heap.size W wr := q.below HV1.out.2 (by simp) HV1.out.2.size
    exact ⟨HP.out.2.2.2.1.trans (t1.mono HP.out.2.2.2.1.size), t1⟩
  have HBL : Hid (_) := hbl
  clear hbl
  go_loopw [9, 10, 11, 50, 51, 52, 53, 54, 55, 56, 57, 58, 59, 60, 61, 62, 63, 64, 65, 66, 67, 68, 69] (fun c _ _ _ _ _ _ _ _ _ _ _ _ _ _ _ _ _ _ _ _ _ _ wr => ∃ i : Nat, 1 ≤ i ∧ i ≤ 6 ∧ c = .int .i64 ((i : Nat) : Int) ∧ Hid (∃ A, A = vA R (i - 1) ∧ Bk wr W.heap.size A 3 ∧ Off [W.heap.size] W1 wr ∧ allV R (i - 1) = true)) (fun c _ _ _ _ _ _ _ _ _ _ _ _ _ _ _ _ _ _ _ _ _ _ _ => 6 - natV c)
  case atStart => exact ⟨1, by omega, by omega, rfl, _, rfl, HV1.out.1, Off.refl _ _, rfl⟩
  case round =>
    obtain ⟨i, hi1, hi, rfl, HI⟩ := hrel
    obtain ⟨A, eA, kA, oA, okA⟩ := HI.out
    obtain ⟨bwr, bWr⟩ := HBL.out wr oA
    have kb := HP.out.2.2.2.2.1.off (Off.of_below (l := []) bWr) (by simp)
    have kz := HP.out.2.2.2.2.2.off (Off.of_below (l := []) bWr) (by simp)
    by_cases hlt : i < 6
    · have hlt' : ((i : Nat) : Int) < 6 := by omega
      have hl6 : ((i : Nat) : Int) < 6 := by omega
      obtain ⟨j, hj⟩ : ∃ y, i - 1 = y := ⟨_, rfl⟩
      obtain ⟨i1, hi1'⟩ : ∃ y, i + 1 = y := ⟨_, rfl⟩
      have hadd : IntKind.i64.wrap (((i : Nat) : Int) + 1) = ((i1 : Nat) : Int) := by rw [IntKind.wrap_i64]; omega
      have cW := cellB (HP.out.2.2.1 i hi1 hlt) bwr
      rw [hj] at cW eA okA
      have hV' := hV j wr
      have sz : A.size = 6 := by rw [eA]; exact vA_size R j
      obtain ⟨x, hx⟩ : ∃ x, A[i]? = some x := ⟨_, Array.getElem?_eq_getElem (by omega)⟩
      have cA : wr.cell? ⟨W.heap.size, i, none⟩ = some x := (kA.cell i).trans hx
      have fA := kA.fz
      have nx : ∀ v, v = Value.int .i64 ((vlV (R j) : Nat) : Int) → vlO (R j) = true → ∃ A', A' = vA R (j + 1) ∧ Bk (wr.setCell ⟨W.heap.size, i, none⟩ v) W.heap.size A' 3 ∧ Off [W.heap.size] W1 (wr.setCell ⟨W.heap.size, i, none⟩ v) ∧ allV R (j + 1) = true := fun v ev q => by
        refine ⟨_, rfl, ?_, oA.trans (Off.setCell _ _ _ _), ?_⟩
        · have := kA.set i v
          rw [eA, ev, show i = j + 1 by omega] at this
          rw [ev, show i = j + 1 by omega]
          exact this
        · unfold allV
          rw [okA, q]
          rfl
      have no : vlO (R j) = false → allV R 5 = false := allV_no 5 j (by omega)
      obtain ⟨X, hX⟩ : ∃ y, tx (R j) = y := ⟨_, rfl⟩
      rw [hX] at hV' cW
      obtain ⟨V, hVe⟩ : ∃ y, vlV (R j) = y := ⟨_, rfl⟩
      obtain ⟨O, hOe⟩ : ∃ y, vlO (R j) = y := ⟨_, rfl⟩
      rw [hVe, hOe] at hV'
      rw [hVe, hOe] at nx
      rw [hOe] at no
      have m0 : wr.cell? ⟨w.heap.size, 0, none⟩ = some (.slice a0 Z.l0 c0) := kb.cell 0
      have m1 : wr.cell? ⟨w.heap.size, 1, none⟩ = some (.slice a1 Z.l1 c1) := kb.cell 1
      have m2 : wr.cell? ⟨w.heap.size, 2, none⟩ = some (.int .u32 (Z.ms : Nat)) := kb.cell 2
      have z0 : wr.cell? ⟨w.heap.size + 1, 0, none⟩ = some (.slice none 0 0) := kz.cell 0
      have z1 : wr.cell? ⟨w.heap.size + 1, 1, none⟩ = some (.slice none 0 0) := kz.cell 1
      have z2 : wr.cell? ⟨w.heap.size + 1, 2, none⟩ = some (.int .u32 0) := kz.cell 2
      have fz := kz.fz
      have HJ : Hid (_) := And.intro nx (And.intro no (And.intro bwr (And.intro hj (And.intro hi1' hi1))))
      clear nx no bwr bWr hj hi1' hi1 hX hVe hOe kb kz kA oA okA eA sz hx HI hi hV
      go_wp2_with fail
      refine hV'.mono ?_
      rintro r w' ⟨rfl, hw⟩
      rw [hw]
      clear hw hV'
      cases O with
      | false =>
        go_wp2_with fail
        refine bodyPost_ret (v := .tuple #[.agg #[.slice a0 Z.l0 c0, .slice a1 Z.l1 c1, .int .u32 (Z.ms : Nat)], .bool true, .int .i64 203]) (by simp [results, Tryd.results24, go_sem, z0, z1, z2]) rfl ?_
        exact HP.out.1 (HJ.out.2.1 trivial) _ HJ.out.2.2.1
      | true =>
        go_wp2_with fail
        go_roundw
        case rel =>
          have e1 := HJ.out.2.2.2.1
          have e2 := HJ.out.2.2.2.2.1
          have e4 := HJ.out.2.2.2.2.2
          have e3 : i1 - 1 = j + 1 := by omega
          refine ⟨i1, by omega, by omega, rfl, ?_⟩
          rw [e3]
          exact HJ.out.1 _ rfl trivial
        case measure =>
          have e2 := HJ.out.2.2.2.2.1
          simp [natV]
          omega
    · obtain rfl : i = 6 := by omega
      rw [show 6 - 1 = 5 from rfl] at eA okA
      clear hlt hV hi hi1 HI
      have kA' : Bk wr W.heap.size #[.int .i64 0, .int .i64 ((vlV (R 0) : Nat) : Int), .int .i64 ((vlV (R 1) : Nat) : Int), .int .i64 ((vlV (R 2) : Nat) : Int), .int .i64 ((vlV (R 3) : Nat) : Int), .int .i64 ((vlV (R 4) : Nat) : Int)] 3 := by
        have e : vA R 5 = #[.int .i64 0, .int .i64 ((vlV (R 0) : Nat) : Int), .int .i64 ((vlV (R 1) : Nat) : Int), .int .i64 ((vlV (R 2) : Nat) : Int), .int .i64 ((vlV (R 3) : Nat) : Int), .int .i64 ((vlV (R 4) : Nat) : Int)] := rfl
        rw [← e, ← eA]
        exact kA
      have v0 := vlV_lt (R 0)
      have v1 := vlV_lt (R 1)
      have v2 := vlV_lt (R 2)
      have v3 := vlV_lt (R 3)
      have v4 := vlV_lt (R 4)
      obtain ⟨V0, hV0⟩ : ∃ y, vlV (R 0) = y := ⟨_, rfl⟩
      obtain ⟨V1, hV1⟩ : ∃ y, vlV (R 1) = y := ⟨_, rfl⟩
      obtain ⟨V2, hV2⟩ : ∃ y, vlV (R 2) = y := ⟨_, rfl⟩
      obtain ⟨V3, hV3⟩ : ∃ y, vlV (R 3) = y := ⟨_, rfl⟩
      obtain ⟨V4, hV4⟩ : ∃ y, vlV (R 4) = y := ⟨_, rfl⟩
      rw [hV0, hV1, hV2, hV3, hV4] at kA'
      rw [hV0] at v0
      rw [hV1] at v1
      rw [hV2] at v2
      rw [hV3] at v3
      rw [hV4] at v4
      have wu0 : IntKind.u32.wrap ((V0 : Nat) : Int) = ((V0 : Nat) : Int) := by rw [IntKind.wrap_u32]; omega
      have wu4 : IntKind.u32.wrap ((V4 : Nat) : Int) = ((V4 : Nat) : Int) := by rw [IntKind.wrap_u32]; omega
      have HVs : Hid (_) := And.intro hV0 (And.intro hV1 (And.intro hV2 (And.intro hV3 (hV4))))
      clear hV0 hV1 hV2 hV3 hV4
      have m0 : wr.cell? ⟨w.heap.size, 0, none⟩ = some (.slice a0 Z.l0 c0) := kb.cell 0
      have m1 : wr.cell? ⟨w.heap.size, 1, none⟩ = some (.slice a1 Z.l1 c1) := kb.cell 1
      have m2 : wr.cell? ⟨w.heap.size, 2, none⟩ = some (.int .u32 (Z.ms : Nat)) := kb.cell 2
      have z0 : wr.cell? ⟨w.heap.size + 1, 0, none⟩ = some (.slice none 0 0) := kz.cell 0
      have z1 : wr.cell? ⟨w.heap.size + 1, 1, none⟩ = some (.slice none 0 0) := kz.cell 1
      have z2 : wr.cell? ⟨w.heap.size + 1, 2, none⟩ = some (.int .u32 0) := kz.cell 2
      have fz := kz.fz
      have s1 : wr.cell? ⟨W.heap.size, 1, none⟩ = some (.int .i64 ((V0 : Nat) : Int)) := kA'.cell 1
      have sA1 : ∀ ob, (wr.alloc ob).cell? ⟨W.heap.size, 1, none⟩ = some (.int .i64 ((V0 : Nat) : Int)) := fun ob => cellB s1 (belA (Below.refl _ _) _)
      have s2 : wr.cell? ⟨W.heap.size, 2, none⟩ = some (.int .i64 ((V1 : Nat) : Int)) := kA'.cell 2
      have sA2 : ∀ ob, (wr.alloc ob).cell? ⟨W.heap.size, 2, none⟩ = some (.int .i64 ((V1 : Nat) : Int)) := fun ob => cellB s2 (belA (Below.refl _ _) _)
      have s3 : wr.cell? ⟨W.heap.size, 3, none⟩ = some (.int .i64 ((V2 : Nat) : Int)) := kA'.cell 3
      have sA3 : ∀ ob, (wr.alloc ob).cell? ⟨W.heap.size, 3, none⟩ = some (.int .i64 ((V2 : Nat) : Int)) := fun ob => cellB s3 (belA (Below.refl _ _) _)
      have s4 : wr.cell? ⟨W.heap.size, 4, none⟩ = some (.int .i64 ((V3 : Nat) : Int)) := kA'.cell 4
      have sA4 : ∀ ob, (wr.alloc ob).cell? ⟨W.heap.size, 4, none⟩ = some (.int .i64 ((V3 : Nat) : Int)) := fun ob => cellB s4 (belA (Below.refl _ _) _)
      have s5 : wr.cell? ⟨W.heap.size, 5, none⟩ = some (.int .i64 ((V4 : Nat) : Int)) := kA'.cell 5
      have sA5 : ∀ ob, (wr.alloc ob).cell? ⟨W.heap.size, 5, none⟩ = some (.int .i64 ((V4 : Nat) : Int)) := fun ob => cellB s5 (belA (Below.refl _ _) _)
      have HS1 : Hid (_) := s1
      have HQ : Hid (_) := And.intro okA (And.intro bwr (And.intro bWr (And.intro kb kz)))
      have lW : w.heap.size + 2 ≤ W.heap.size := HP.out.2.2.2.2.2.lt
      have HL : Hid (w.heap.size + 2 ≤ W.heap.size) := lW
      clear kA kA' eA oA okA bwr bWr kb kz lW
      have cW0 : wr.cell? ⟨g, o, none⟩ = some (.string X0) := cellB HCW.out HQ.out.2.1
      go_upto_region 18 with fail
      go_cut [12, 70, 71, 72, 73, 74, 75, 76, 77, 78, 79, 80, 81, 82, 83, 84, 85, 86, 87] (fun x _ _ _ _ _ _ _ _ _ _ _ _ _ _ _ _ _ _ wx => x = .pointer (some ⟨wr.heap.size, 0, none⟩) ∧ Hid (Below wr.heap.size wr wx ∧ Bk wx wr.heap.size #[.int .u32 ((V0 : Nat) : Int), .int .i64 ((V1 : Nat) : Int), .int .i64 ((V2 : Nat) : Int), .int .i64 ((V3 : Nat) : Int), .int .u32 ((V4 : Nat) : Int)] 50))
      case first =>
        go_region
        all_goals ((try go_wp2_with fail); go_meet; exact ⟨rfl, Below.drew (belA (Below.refl _ _) _), heap_alloc_new _ _⟩)
      case rest =>
        obtain ⟨rfl, HC⟩ := hcut
        have cW1 := cellB cW0 HC.out.1
        have bwc : Below w.heap.size w wc := HQ.out.2.1.trans (HC.out.1.mono HQ.out.2.1.size)
        have kb := HQ.out.2.2.2.1.off (Off.of_below (l := []) HC.out.1) (by simp)
        have kz := HQ.out.2.2.2.2.off (Off.of_below (l := []) HC.out.1) (by simp)
        clear cW0 m0 m1 m2 z0 z1 z2 fz s1 sA1 s2 sA2 s3 sA3 s4 sA4 s5 sA5
        obtain ⟨p, hp⟩ : ∃ p : Pg, (⟨V0, ((V1 : Nat) : Int), ((V2 : Nat) : Int), ((V3 : Nat) : Int), V4⟩ : Pg) = p := ⟨_, rfl⟩
        have ePV : #[.int .u32 ((V0 : Nat) : Int), .int .i64 ((V1 : Nat) : Int), .int .i64 ((V2 : Nat) : Int), .int .i64 ((V3 : Nat) : Int), .int .u32 ((V4 : Nat) : Int)] = (pgL p).toArray := by rw [← hp]; rfl
        rw [ePV] at HC
        have eST : stP R = p := by
          rw [← hp]
          unfold stP
          rw [HVs.out.1, HVs.out.2.1, HVs.out.2.2.1, HVs.out.2.2.2.1, HVs.out.2.2.2.2]
        have HST : Hid (_) := eST
        have HZ : Hid (w.heap.size + 2 ≤ wc.heap.size ∧ wr.heap.size < wc.heap.size) := ⟨by have := kz.lt; omega, HC.out.2.lt⟩
        clear ePV eST hp wu0 wu4 v0 v1 v2 v3 v4
        have p0 : wc.cell? ⟨wr.heap.size, 0, none⟩ = some (.int .u32 (p.c : Nat)) := HC.out.2.cell 0
        have p1 : wc.cell? ⟨wr.heap.size, 1, none⟩ = some (.int .i64 p.o) := HC.out.2.cell 1
        have p2 : wc.cell? ⟨wr.heap.size, 2, none⟩ = some (.int .i64 p.i) := HC.out.2.cell 2
        have p3 : wc.cell? ⟨wr.heap.size, 3, none⟩ = some (.int .i64 p.t) := HC.out.2.cell 3
        have p4 : wc.cell? ⟨wr.heap.size, 4, none⟩ = some (.int .u32 (p.n : Nat)) := HC.out.2.cell 4
        have cb : wc.cell? ⟨w.heap.size, 0, none⟩ = some (.slice a0 Z.l0 c0) := kb.cell 0
        have pA0 : ∀ ob, (wc.alloc ob).cell? ⟨wr.heap.size, 0, none⟩ = some (.int .u32 (p.c : Nat)) := fun ob => cellB p0 (belA (Below.refl _ _) _)
        have pA1 : ∀ ob, (wc.alloc ob).cell? ⟨wr.heap.size, 1, none⟩ = some (.int .i64 p.o) := fun ob => cellB p1 (belA (Below.refl _ _) _)
        have pA2 : ∀ ob, (wc.alloc ob).cell? ⟨wr.heap.size, 2, none⟩ = some (.int .i64 p.i) := fun ob => cellB p2 (belA (Below.refl _ _) _)
        have pA3 : ∀ ob, (wc.alloc ob).cell? ⟨wr.heap.size, 3, none⟩ = some (.int .i64 p.t) := fun ob => cellB p3 (belA (Below.refl _ _) _)
        have pA4 : ∀ ob, (wc.alloc ob).cell? ⟨wr.heap.size, 4, none⟩ = some (.int .u32 (p.n : Nat)) := fun ob => cellB p4 (belA (Below.refl _ _) _)
        have cbA : ∀ ob, (wc.alloc ob).cell? ⟨w.heap.size, 0, none⟩ = some (.slice a0 Z.l0 c0) := fun ob => cellB cb (belA (Below.refl _ _) _)
        have cbB : ∀ ob ob2, ((wc.alloc ob).alloc ob2).cell? ⟨w.heap.size, 0, none⟩ = some (.slice a0 Z.l0 c0) := fun ob ob2 => cellB cb (belA (belA (Below.refl _ _) _) _)
        go_upto_block 2 with fail
        go_cut [91, 92, 93, 94, 95, 96, 97, 98, 99, 100, 101, 102, 103, 104, 105, 106, 107, 108, 109, 110, 111, 112, 113, 114, 115] (fun _ _ _ _ _ _ _ _ _ _ _ _ _ _ _ _ _ _ _ _ _ _ _ _ _ wx => ∃ y k, Hid (Bk wx w.heap.size #[.slice y (Z.l0 + 1) k, .slice a1 Z.l1 c1, .int .u32 (Z.ms : Nat)] 26 ∧ Bk wx (w.heap.size + 1) #[.slice none 0 0, .slice none 0 0, .int .u32 0] 26 ∧ Below w.heap.size w wx ∧ wx.ownsRow (w.heap.size + 2) 50 5 (.slice y (Z.l0 + 1) k) (Z.l0 + 1) (flP (Z.l0 + 1) (fun i => if i = Z.l0 then p else Z.P0 i))))
        case first =>
          go_upto_region 24 with fail
          clear cW1
          go_region_law (first
            | (refine step_appN rfl (.tmp 108) (.tmp 110) rfl rfl (w.heap.size + 2) (.slice (some ⟨wc.heap.size, 0, none⟩) 0 0) rfl (ownE (by first | exact at_new wc _ | exact at_new2 wc _ _ | exact at_new3 wc _ _) (by have := HZ.out; omega)) a0 Z.l0 c0 Z.P0 rfl ((HRw.out.1.below bwc).below (by repeat (first | with_reducible exact Below.refl _ _ | with_reducible refine Below.drew ?_ | with_reducible refine belA ?_ _))) ⟨by omega, HRw.out.2.2.1⟩ (by simp) ?_; intro a' c' w7 h7; have kq7 : Bk w7 wr.heap.size (pgL p).toArray 50 := (h7.out.2.1.block wr.heap.size (by have := HC.out.2.lt; simp; omega) (by have := HC.out.2.lt; simp [Value.ownBlock]; omega)).trans (HC.out.2.off (Off.of_below (l := []) (by repeat (first | with_reducible exact Below.refl _ _ | with_reducible refine Below.drew ?_ | with_reducible refine belA ?_ _))) (by simp)); have kb7 : Bk w7 w.heap.size #[.slice a0 Z.l0 c0, .slice a1 Z.l1 c1, .int .u32 (Z.ms : Nat)] 26 := (h7.out.2.1.block w.heap.size (by have := kb.lt; simp; omega) (by have := kb.lt; simp [Value.ownBlock]; omega)).trans (kb.off (Off.of_below (l := []) (by repeat (first | with_reducible exact Below.refl _ _ | with_reducible refine Below.drew ?_ | with_reducible refine belA ?_ _))) (by simp)); have kz7 : Bk w7 (w.heap.size + 1) #[.slice none 0 0, .slice none 0 0, .int .u32 0] 26 := (h7.out.2.1.block (w.heap.size + 1) (by have := kz.lt; simp; omega) (by have := kz.lt; simp [Value.ownBlock]; omega)).trans (kz.off (Off.of_below (l := []) (by repeat (first | with_reducible exact Below.refl _ _ | with_reducible refine Below.drew ?_ | with_reducible refine belA ?_ _))) (by simp)); have b7 : Below w.heap.size w w7 := (bwc.trans (Below.mono (B := wc.heap.size) (by repeat (first | with_reducible exact Below.refl _ _ | with_reducible refine Below.drew ?_ | with_reducible refine belA ?_ _)) bwc.size)).grown h7.out.2.1 (by have := bwc.size; simp; omega) (fun k hk => by have := HZ.out; simp [Value.ownBlock] at hk; omega); have r0 : w7.cell? ⟨wr.heap.size, 0, none⟩ = some (.int .u32 (p.c : Nat)) := kq7.cell 0; have r1 : w7.cell? ⟨wr.heap.size, 1, none⟩ = some (.int .i64 p.o) := kq7.cell 1; have r2 : w7.cell? ⟨wr.heap.size, 2, none⟩ = some (.int .i64 p.i) := kq7.cell 2; have r3 : w7.cell? ⟨wr.heap.size, 3, none⟩ = some (.int .i64 p.t) := kq7.cell 3; have r4 : w7.cell? ⟨wr.heap.size, 4, none⟩ = some (.int .u32 (p.n : Nat)) := kq7.cell 4; have s7 := h7.out.2.1.size)
            | (refine step_appN rfl (.tmp 108) (.tmp 110) rfl rfl (w.heap.size + 2) (.slice (some ⟨wc.heap.size + 1, 0, none⟩) 0 0) rfl (ownE (by first | exact at_new wc _ | exact at_new2 wc _ _ | exact at_new3 wc _ _) (by have := HZ.out; omega)) a0 Z.l0 c0 Z.P0 rfl ((HRw.out.1.below bwc).below (by repeat (first | with_reducible exact Below.refl _ _ | with_reducible refine Below.drew ?_ | with_reducible refine belA ?_ _))) ⟨by omega, HRw.out.2.2.1⟩ (by simp) ?_; intro a' c' w7 h7; have kq7 : Bk w7 wr.heap.size (pgL p).toArray 50 := (h7.out.2.1.block wr.heap.size (by have := HC.out.2.lt; simp; omega) (by have := HC.out.2.lt; simp [Value.ownBlock]; omega)).trans (HC.out.2.off (Off.of_below (l := []) (by repeat (first | with_reducible exact Below.refl _ _ | with_reducible refine Below.drew ?_ | with_reducible refine belA ?_ _))) (by simp)); have kb7 : Bk w7 w.heap.size #[.slice a0 Z.l0 c0, .slice a1 Z.l1 c1, .int .u32 (Z.ms : Nat)] 26 := (h7.out.2.1.block w.heap.size (by have := kb.lt; simp; omega) (by have := kb.lt; simp [Value.ownBlock]; omega)).trans (kb.off (Off.of_below (l := []) (by repeat (first | with_reducible exact Below.refl _ _ | with_reducible refine Below.drew ?_ | with_reducible refine belA ?_ _))) (by simp)); have kz7 : Bk w7 (w.heap.size + 1) #[.slice none 0 0, .slice none 0 0, .int .u32 0] 26 := (h7.out.2.1.block (w.heap.size + 1) (by have := kz.lt; simp; omega) (by have := kz.lt; simp [Value.ownBlock]; omega)).trans (kz.off (Off.of_below (l := []) (by repeat (first | with_reducible exact Below.refl _ _ | with_reducible refine Below.drew ?_ | with_reducible refine belA ?_ _))) (by simp)); have b7 : Below w.heap.size w w7 := (bwc.trans (Below.mono (B := wc.heap.size) (by repeat (first | with_reducible exact Below.refl _ _ | with_reducible refine Below.drew ?_ | with_reducible refine belA ?_ _)) bwc.size)).grown h7.out.2.1 (by have := bwc.size; simp; omega) (fun k hk => by have := HZ.out; simp [Value.ownBlock] at hk; omega); have r0 : w7.cell? ⟨wr.heap.size, 0, none⟩ = some (.int .u32 (p.c : Nat)) := kq7.cell 0; have r1 : w7.cell? ⟨wr.heap.size, 1, none⟩ = some (.int .i64 p.o) := kq7.cell 1; have r2 : w7.cell? ⟨wr.heap.size, 2, none⟩ = some (.int .i64 p.i) := kq7.cell 2; have r3 : w7.cell? ⟨wr.heap.size, 3, none⟩ = some (.int .i64 p.t) := kq7.cell 3; have r4 : w7.cell? ⟨wr.heap.size, 4, none⟩ = some (.int .u32 (p.n : Nat)) := kq7.cell 4; have s7 := h7.out.2.1.size)
            | (have NB := own_ty (by decide) kb7 h7.out.1; have NZ := own_ty (by decide) kz7 h7.out.1; refine step_app1P rfl (.tmp 111) (.tmp 113) rfl rfl (w.heap.size + 2) (.slice a' Z.l0 c') Z.l0 Z.P0 p rfl (ownB h7.out.1 (belA (Below.refl _ _) _)) (w7.heap.size) rfl (at_new w7 _) hz (by have := HZ.out; simp at s7 ⊢; omega) ?_; intro y k w8 h8; have kb8 : Bk w8 w.heap.size #[.slice a0 Z.l0 c0, .slice a1 Z.l1 c1, .int .u32 (Z.ms : Nat)] 26 := (h8.out.2.1.block w.heap.size (by have := kb7.lt; simp; omega) (fun e => NB e.symm)).trans (kb7.off (Off.of_below (l := []) (by repeat (first | with_reducible exact Below.refl _ _ | with_reducible refine Below.drew ?_ | with_reducible refine belA ?_ _))) (by simp)); have kz8 : Bk w8 (w.heap.size + 1) #[.slice none 0 0, .slice none 0 0, .int .u32 0] 26 := (h8.out.2.1.block (w.heap.size + 1) (by have := kz7.lt; simp; omega) (fun e => NZ e.symm)).trans (kz7.off (Off.of_below (l := []) (by repeat (first | with_reducible exact Below.refl _ _ | with_reducible refine Below.drew ?_ | with_reducible refine belA ?_ _))) (by simp)); have b8 : Below w.heap.size w w8 := (b7.trans (Below.mono (B := w7.heap.size) (by repeat (first | with_reducible exact Below.refl _ _ | with_reducible refine Below.drew ?_ | with_reducible refine belA ?_ _)) b7.size)).grown h8.out.2.1 (by have := b7.size; simp; omega) (fun k hk => by have := (h7.out.1.lt k hk).1; omega); have c8 : w8.cell? ⟨w.heap.size, 0, none⟩ = some (.slice a0 Z.l0 c0) := kb8.cell 0; have f8 := kb8.fz)
            | (have NB := own_ty (by decide) kb7 h7.out.1; have NZ := own_ty (by decide) kz7 h7.out.1; refine step_app1P rfl (.tmp 111) (.tmp 113) rfl rfl (w.heap.size + 2) (.slice a' Z.l0 c') Z.l0 Z.P0 p rfl h7.out.1 (wc.heap.size + 1) rfl ((h7.out.2.1.block (wc.heap.size + 1) (by simp) (by simp [Value.ownBlock])).trans (at_new3 wc _ _)) hz (by have := HZ.out; simp at s7 ⊢; omega) ?_; intro y k w8 h8; have kb8 : Bk w8 w.heap.size #[.slice a0 Z.l0 c0, .slice a1 Z.l1 c1, .int .u32 (Z.ms : Nat)] 26 := (h8.out.2.1.block w.heap.size (by have := kb7.lt; simp; omega) (fun e => NB e.symm)).trans (kb7.off (Off.of_below (l := []) (by repeat (first | with_reducible exact Below.refl _ _ | with_reducible refine Below.drew ?_ | with_reducible refine belA ?_ _))) (by simp)); have kz8 : Bk w8 (w.heap.size + 1) #[.slice none 0 0, .slice none 0 0, .int .u32 0] 26 := (h8.out.2.1.block (w.heap.size + 1) (by have := kz7.lt; simp; omega) (fun e => NZ e.symm)).trans (kz7.off (Off.of_below (l := []) (by repeat (first | with_reducible exact Below.refl _ _ | with_reducible refine Below.drew ?_ | with_reducible refine belA ?_ _))) (by simp)); have b8 : Below w.heap.size w w8 := (b7.trans (Below.mono (B := w7.heap.size) (by repeat (first | with_reducible exact Below.refl _ _ | with_reducible refine Below.drew ?_ | with_reducible refine belA ?_ _)) b7.size)).grown h8.out.2.1 (by have := b7.size; simp; omega) (fun k hk => by have := (h7.out.1.lt k hk).1; omega); have c8 : w8.cell? ⟨w.heap.size, 0, none⟩ = some (.slice a0 Z.l0 c0) := kb8.cell 0; have f8 := kb8.fz)
            | (have NB := own_ty (by decide) kb7 h7.out.1; have NZ := own_ty (by decide) kz7 h7.out.1; refine step_app1P rfl (.tmp 111) (.tmp 113) rfl rfl (w.heap.size + 2) (.slice a' Z.l0 c') Z.l0 Z.P0 p rfl h7.out.1 (wc.heap.size) rfl ((h7.out.2.1.block wc.heap.size (by simp; omega) (by simp [Value.ownBlock])).trans (at_new2 wc _ _)) hz (by have := HZ.out; simp at s7 ⊢; omega) ?_; intro y k w8 h8; have kb8 : Bk w8 w.heap.size #[.slice a0 Z.l0 c0, .slice a1 Z.l1 c1, .int .u32 (Z.ms : Nat)] 26 := (h8.out.2.1.block w.heap.size (by have := kb7.lt; simp; omega) (fun e => NB e.symm)).trans (kb7.off (Off.of_below (l := []) (by repeat (first | with_reducible exact Below.refl _ _ | with_reducible refine Below.drew ?_ | with_reducible refine belA ?_ _))) (by simp)); have kz8 : Bk w8 (w.heap.size + 1) #[.slice none 0 0, .slice none 0 0, .int .u32 0] 26 := (h8.out.2.1.block (w.heap.size + 1) (by have := kz7.lt; simp; omega) (fun e => NZ e.symm)).trans (kz7.off (Off.of_below (l := []) (by repeat (first | with_reducible exact Below.refl _ _ | with_reducible refine Below.drew ?_ | with_reducible refine belA ?_ _))) (by simp)); have b8 : Below w.heap.size w w8 := (b7.trans (Below.mono (B := w7.heap.size) (by repeat (first | with_reducible exact Below.refl _ _ | with_reducible refine Below.drew ?_ | with_reducible refine belA ?_ _)) b7.size)).grown h8.out.2.1 (by have := b7.size; simp; omega) (fun k hk => by have := (h7.out.1.lt k hk).1; omega); have c8 : w8.cell? ⟨w.heap.size, 0, none⟩ = some (.slice a0 Z.l0 c0) := kb8.cell 0; have f8 := kb8.fz)
            | fail)
          all_goals
            have os := Off.setCell w.heap.size 0 w8 (.slice y (Z.l0 + 1) k)
            have HF : Hid (_) := And.intro (kb8.set 0 (.slice y (Z.l0 + 1) k)) (And.intro (kz8.off os (by simp)) (And.intro (os.below b8 (by simp) b8.size) (own_off h8.out.1 os (fun k hk hm => by have := (h8.out.1.lt k hk).1; simp at hm; omega))))
            clear os kb8 kz8 b8 h8 kb7 kz7 kq7 r0 r1 r2 r3 r4 b7 h7
            (try go_wp2_with fail)
            go_meet
            exact ⟨y, k, HF.out⟩
        case rest =>
          obtain ⟨y, k, HF0⟩ := hcut
          obtain ⟨kb9, kz9, b9, o9⟩ := HF0.out
          have m0 : wc.cell? ⟨w.heap.size, 0, none⟩ = some (.slice y (Z.l0 + 1) k) := kb9.cell 0
          have m1 : wc.cell? ⟨w.heap.size, 1, none⟩ = some (.slice a1 Z.l1 c1) := kb9.cell 1
          have m2 : wc.cell? ⟨w.heap.size, 2, none⟩ = some (.int .u32 (Z.ms : Nat)) := kb9.cell 2
          have z0 : wc.cell? ⟨w.heap.size + 1, 0, none⟩ = some (.slice none 0 0) := kz9.cell 0
          have z1 : wc.cell? ⟨w.heap.size + 1, 1, none⟩ = some (.slice none 0 0) := kz9.cell 1
          have z2 : wc.cell? ⟨w.heap.size + 1, 2, none⟩ = some (.int .u32 0) := kz9.cell 2
          have fz := kz9.fz
          have HF : Hid (_) := HP.out.2.1 HQ.out.1 wc y k b9 (by rw [HST.out]; exact o9)
          clear kb9 kz9 b9 o9 HF0
          go_wp2_with fail
          refine bodyPost_ret (v := .tuple #[.agg #[.slice y (Z.l0 + 1) k, .slice a1 Z.l1 c1, .int .u32 (Z.ms : Nat)], .bool true, .int .i64 0]) (by simp [results, Tryd.results24, go_sem, z0, z1, z2]) rfl ?_
          exact HF.out
end Go.Proofs.YtnmnjcjfgbpkaaaDoor
