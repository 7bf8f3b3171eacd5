/- Layer 20: the chapter's examples. (gensaw.py) -/
import Derived.Test.YtiikebaehoobnaaDoorSre
namespace Go.Proofs.YtiikebaehoobnaaDoor
set_option maxRecDepth 100000
open Go.RowKit Go.Maps
set_option maxRecDepth 100000
/-- The example's move. -/
def mA : Mv := ⟨1, 1, 2, 0, 0, 0, 0, true, 2, fun i => if i = 0 then 171 else 0⟩
theorem mA_ok : mA.Ok := ⟨by decide, by decide, by decide, by decide, by decide, by decide, by decide⟩
theorem mA_err : mA.err = 0 := by decide
theorem mA_line : mA.line = [119, 114, 105, 116, 101, 32, 49, 32, 100, 32, 120, 97, 98, 48, 48, 32, 104, 111, 108, 100] := by
  have e : mA.ws = [[119, 114, 105, 116, 101], [49], [100], [120, 97, 98, 48, 48], [104, 111, 108, 100]] := by
    unfold Mv.ws Mv.w1 Mv.w2 Mv.w3 Mv.w4
    rw [show mA.ns = [] from rfl, show Lib.itoa mA.c = [49] by simp [mA, Lib.itoa, Lib.decDigits]]
    decide
  unfold Mv.line
  rw [e]
  simp [Lib.join, List.intercalate]
theorem rowA (w : World) : Row8 (w.alloc (.cells #[.int .u8 171, .int .u8 0] 5)) (some ⟨w.heap.size, 0, none⟩) mA.l 2 mA.b := by
  refine ⟨fun i hi => ?_, (fun h => by cases h), fun x hx i hi => ?_, Nat.le_refl _⟩
  · show (if i = 0 then 171 else 0) < 256
    split <;> decide
  · cases hx
    have e : (⟨w.heap.size, 0, none⟩ : Addr).add i = ⟨w.heap.size, i, none⟩ := by unfold Addr.add; simp; omega
    rw [e, cell_of_row _ _ i _ _ _ (heap_alloc_new w (.cells #[.int .u8 171, .int .u8 0] 5))]
    have h2 : i < 2 := hi
    have : i = 0 ∨ i = 1 := by omega
    rcases this with rfl | rfl <;> rfl
set_option maxHeartbeats 2000000 in
theorem awake20 (w : World) (L : Lw w) : Calls Tryd.prog 10 #[] w fun r w' => r = .returned (.bool true) ∧ Below w.heap.size w w' := by
  have bA := belA (Below.refl _ w) (.cells #[.int .u8 171, .int .u8 0] 5)
  have hM := pmove mA mA_ok (some ⟨w.heap.size, 0, none⟩) 2 _ (rowA w) (by decide) (L.below bA)
  rw [if_pos mA_err, mA_err, mA_line] at hM
  obtain ⟨X, hX⟩ : ∃ x, tx [119, 114, 105, 116, 101, 32, 49, 32, 100, 32, 120, 97, 98, 48, 48, 32, 104, 111, 108, 100] = x := ⟨_, rfl⟩
  rw [hX] at hM
  have eX : (X.toList == [119, 114, 105, 116, 101, 32, 49, 32, 100, 32, 120, 97, 98, 48, 48, 32, 104, 111, 108, 100]) = true := by rw [← hX, tx_list]; decide
  obtain ⟨wa, hwa⟩ : ∃ x, w.alloc (.cells #[.int .u8 171, .int .u8 0] 5) = x := ⟨_, rfl⟩
  rw [hwa] at bA hM
  have HA : Hid (_) := And.intro bA (And.intro (L.below bA) L)
  clear hX bA L
  go_enter Tryd.func10, Tryd.ntmps10
  go_wp2_with fail
  try rw [hwa]
  clear hwa
  refine Calls.mono hM ?_
  rintro r w1 ⟨rfl, b1⟩
  have hR := pread5 w1.heap.size (w1.alloc (.cells #[.string (ByteArray.mk #[116, 105, 99, 107]), .string (ByteArray.mk #[48]), .string (ByteArray.mk #[104]), .string (ByteArray.mk #[53])] 9)) ((HA.out.2.1.below b1).below (belA (Below.refl _ _) _)) (Bk.new _ _ _)
  have H1 : Hid (Below w.heap.size w (w1.alloc (.cells #[.string (ByteArray.mk #[116, 105, 99, 107]), .string (ByteArray.mk #[48]), .string (ByteArray.mk #[104]), .string (ByteArray.mk #[53])] 9))) := belA (HA.out.1.trans (b1.mono HA.out.1.size)) _
  clear hM b1
  obtain ⟨w2, hw2⟩ : ∃ x, w1.alloc (.cells #[.string (ByteArray.mk #[116, 105, 99, 107]), .string (ByteArray.mk #[48]), .string (ByteArray.mk #[104]), .string (ByteArray.mk #[53])] 9) = x := ⟨_, rfl⟩
  rw [hw2] at hR H1
  go_wp2_with fail
  try rw [hw2]
  clear hw2
  refine hR.mono ?_
  rintro r w3 ⟨rfl, b3⟩
  have H3 : Hid (Below w.heap.size w w3) := H1.out.trans (b3.mono H1.out.size)
  clear b3 hR
  go_wp2_with fail
  go_ret
  exact ⟨rfl, belA H3.out _⟩
end Go.Proofs.YtiikebaehoobnaaDoor
