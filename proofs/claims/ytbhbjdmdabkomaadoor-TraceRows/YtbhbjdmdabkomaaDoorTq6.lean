/- Layer 21: the chapter's examples. (gentq6.py) -/
import Derived.Test.YtbhbjdmdabkomaaDoorTq5
namespace Go.Proofs.YtbhbjdmdabkomaaDoor
set_option maxRecDepth 100000
open Go.RowKit Go.Maps
set_option maxRecDepth 100000
def xA : Ed := ⟨4, 3, 9, 9, 2, 0, false, true, 2, fun i => if i = 0 then 171 else 12⟩
theorem xA_ok : xA.Ok := ⟨by decide, by decide, by decide, by decide, by decide, by decide⟩
theorem it_small {n : Nat} (h : n < 10) : Lib.itoa ((n : Nat) : Int) = [UInt8.ofNat (48 + n)] := by rw [itoa_nat, dig_small h]
theorem xA_line : xA.line = [114, 117, 110, 110, 105, 110, 103, 44, 51, 44, 57, 44, 57, 44, 50, 44, 48, 44, 111, 110, 58, 97, 98, 48, 99] := by
  have e1 : Lib.itoa ((xA.se : Nat) : Int) = [51] := it_small (n := 3) (by decide)
  have e2 : Lib.itoa ((xA.nu : Nat) : Int) = [57] := it_small (n := 9) (by decide)
  have e3 : Lib.itoa ((xA.sn : Nat) : Int) = [57] := it_small (n := 9) (by decide)
  have e4 : Lib.itoa xA.si = [50] := it_small (n := 2) (by decide)
  have e5 : Lib.itoa xA.la = [48] := it_small (n := 0) (by decide)
  rw [xA.line_eq]
  unfold Ed.j2 Ed.j1
  rw [e1, e2, e3, e4, e5]
  decide
def fA : Fk := ⟨5, 1, 2, 0, 5, false, 0, 0, fun _ => 0⟩
theorem fA_ok : fA.Ok := ⟨by decide, by decide, by decide, by decide⟩
theorem fA_line : fA.line = [116, 105, 99, 107, 32, 49, 32, 100, 32, 53] := by
  have e1 : Lib.itoa fA.c = [49] := it_small (n := 1) (by decide)
  have e2 : fA.tw = [[53]] := by
    have h5 : Lib.itoa ((fA.nn : Nat) : Int) = [53] := it_small (n := 5) (by decide)
    have : fA.tw = [Lib.itoa ((fA.nn : Nat) : Int)] := rfl
    rw [this, h5]
  rw [fA.line_eq, e2]
  unfold Fk.j2 Fk.j1
  rw [e1]
  decide
theorem tx_list (l : List UInt8) : (tx l).toList = l := by
  rw [show (tx l).toList = (tx l).data.toList from ByteArray.toList_eq _]
  simp [tx]
theorem rowB (w : World) : Row8 (w.alloc (.cells #[.int .u8 171, .int .u8 12] 5)) (some ⟨w.heap.size, 0, none⟩) xA.l 2 xA.b := by
  refine ⟨fun i hi => ?_, (fun h => by cases h), fun x hx i hi => ?_, Nat.le_refl _⟩
  · show (if i = 0 then 171 else 12) < 256
    split <;> decide
  · cases hx
    have e : (⟨w.heap.size, 0, none⟩ : Addr).add i = ⟨w.heap.size, i, none⟩ := by unfold Addr.add; simp; omega
    rw [e, cell_of_row _ _ i _ _ _ (heap_alloc_new w (.cells #[.int .u8 171, .int .u8 12] 5))]
    have h2 : i < 2 := hi
    have : i = 0 ∨ i = 1 := by omega
    rcases this with rfl | rfl <;> rfl
theorem row0 (w : World) : Row8 w none fA.l 0 fA.b := ⟨(fun i hi => absurd hi (Nat.not_lt_zero i)), (fun _ => ⟨rfl, rfl⟩), (fun x hx => by cases hx), Nat.le_refl _⟩
set_option maxHeartbeats 2000000 in
theorem awake21 (w : World) (L : Lt w) : Calls Tryd.prog 39 #[] w fun r w' => r = .returned (.bool true) ∧ Below w.heap.size w w' := by
  have bA := belA (Below.refl _ w) (.cells #[.int .u8 171, .int .u8 12] 5)
  have hM := tend xA xA_ok (some ⟨w.heap.size, 0, none⟩) 2 _ (rowB w) (by decide) (L.below bA)
  rw [xA_line] at hM
  obtain ⟨X, hX⟩ : ∃ x, tx [114, 117, 110, 110, 105, 110, 103, 44, 51, 44, 57, 44, 57, 44, 50, 44, 48, 44, 111, 110, 58, 97, 98, 48, 99] = x := ⟨_, rfl⟩
  rw [hX] at hM
  have eX : (X.toList == [114, 117, 110, 110, 105, 110, 103, 44, 51, 44, 57, 44, 57, 44, 50, 44, 48, 44, 111, 110, 58, 97, 98, 48, 99]) = true := by rw [← hX, tx_list]; decide
  obtain ⟨wa, hwa⟩ : ∃ x, w.alloc (.cells #[.int .u8 171, .int .u8 12] 5) = x := ⟨_, rfl⟩
  rw [hwa] at bA hM
  have HA : Hid (_) := And.intro bA (L.below bA)
  obtain ⟨Y, hY⟩ : ∃ x, tx [116, 105, 99, 107, 32, 49, 32, 100, 32, 53] = x := ⟨_, rfl⟩
  have eY : (Y.toList == [116, 105, 99, 107, 32, 49, 32, 100, 32, 53]) = true := by rw [← hY, tx_list]; decide
  have HY : Hid (_) := hY
  clear hX bA L hY
  go_enter Tryd.func39, Tryd.ntmps39
  go_wp2_with fail
  try rw [hwa]
  clear hwa
  refine Calls.mono hM ?_
  rintro r w1 ⟨rfl, b1⟩
  have hF := tfact fA fA_ok none 0 w1 (row0 w1) (by decide) (HA.out.2.below b1)
  rw [fA_line, HY.out] at hF
  have H1 : Hid (Below w.heap.size w w1) := HA.out.1.trans (b1.mono HA.out.1.size)
  clear hM b1
  go_wp2_with fail
  refine Calls.mono hF ?_
  rintro r w2 ⟨rfl, b2⟩
  have H2 : Hid (Below w.heap.size w w2) := H1.out.trans (b2.mono H1.out.size)
  clear hF b2
  go_wp2_with fail
  go_ret
  exact ⟨rfl, H2.out⟩
end Go.Proofs.YtbhbjdmdabkomaaDoor
