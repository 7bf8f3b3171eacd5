/- Layer 4's Awake; the walk of the statement UnitKinds. -/
import Derived.Test.YthddomhlkljlkabUDec
import Derived.Lib.SlBytesConst
namespace Go.Proofs.Ythddomhlkljlkab
open Go.RowKit
def lit2 (i : Nat) : Nat := if i = 0 then 171 else 205
def l21 : List Nat := [4, 0, 0, 0, 7, 0, 0, 0, 3, 0, 0, 0, 9, 8, 2, 171, 205, 112, 112, 138, 13]
def l19 : List Nat := [22, 0, 0, 0, 7, 0, 0, 0, 0, 0, 0, 0, 0, 0, 0, 206, 117, 214, 194]
def lit21 (i : Nat) : Nat := l21.getD i 0
def lit19 (i : Nat) : Nat := l19.getD i 0
theorem lit19_lt (i : Nat) (h : i < 19) : lit19 i < 256 := by
  have : ∀ z : Fin 19, lit19 z.val < 256 := by decide
  exact this ⟨i, h⟩
theorem fr21_lt (i : Nat) (h : i < 17) : fr 4 7 3 9 8 2 lit2 i < 256 := by
  have : ∀ z : Fin 17, fr 4 7 3 9 8 2 lit2 z.val < 256 := by decide
  exact this ⟨i, h⟩
theorem K21 : PM.K (fr 4 7 3 9 8 2 lit2) 17 = 1886423565 := by
  rw [PM.K_Kr _ 17 fr21_lt]
  decide +kernel
theorem K19 : PM.K lit19 15 = 3463829186 := by
  rw [PM.K_Kr lit19 15 (fun i h => lit19_lt i (by omega))]
  decide +kernel
theorem sl21 (i : Nat) (h : i < 21) : PM.sl (fr 4 7 3 9 8 2 lit2) 17 i = lit21 i := by
  unfold PM.sl PM.ct
  rw [K21]
  have : ∀ z : Fin 21, (if z.val < 17 then fr 4 7 3 9 8 2 lit2 z.val else PM.w4 1886423565 (z.val - 17)) = lit21 z.val := by decide
  exact this ⟨i, h⟩
theorem vld19 : vld lit19 19 := by
  refine (PM.valid_iff lit19 15 lit19_lt).1 ?_
  rw [K19]
  decide
theorem DE19 : DE lit19 19 = 0 := by
  unfold DE
  rw [if_neg (by omega), if_neg (by omega), if_neg (fun e => e vld19)]
  decide
theorem BA21 : BA (PM.sl (fr 4 7 3 9 8 2 lit2) 17) 21 = ⟨#[4, 0, 0, 0, 7, 0, 0, 0, 3, 0, 0, 0, 9, 8, 2, 171, 205, 112, 112, 138, 13]⟩ := by
  have h : BA (PM.sl (fr 4 7 3 9 8 2 lit2) 17) 21 = BA lit21 21 := by
    have hl : ∀ i, i < 21 → lit21 i < 256 := fun i hi => by
      have : ∀ z : Fin 21, lit21 z.val < 256 := by decide
      exact this ⟨i, hi⟩
    exact (BA_eq _ _ 21 (fun i hi => by rw [sl21 i hi]; exact hl i hi) hl).2 sl21
  rw [h]
  rfl
theorem row19 (w : World) : Row8 (w.alloc (.cells #[.int .u8 22, .int .u8 0, .int .u8 0, .int .u8 0, .int .u8 7, .int .u8 0, .int .u8 0, .int .u8 0, .int .u8 0, .int .u8 0, .int .u8 0, .int .u8 0, .int .u8 0, .int .u8 0, .int .u8 0, .int .u8 206, .int .u8 117, .int .u8 214, .int .u8 194] 5 (19, 20))) (some ⟨w.heap.size, 0, none⟩) 19 19 lit19 := by
  refine row8_newF w _ _ _ lit19 19 lit19_lt (fun i hi => ?_)
  rcases (show i = 0 ∨ i = 1 ∨ i = 2 ∨ i = 3 ∨ i = 4 ∨ i = 5 ∨ i = 6 ∨ i = 7 ∨ i = 8 ∨ i = 9 ∨ i = 10 ∨ i = 11 ∨ i = 12 ∨ i = 13 ∨ i = 14 ∨ i = 15 ∨ i = 16 ∨ i = 17 ∨ i = 18 by omega) with rfl | rfl | rfl | rfl | rfl | rfl | rfl | rfl | rfl | rfl | rfl | rfl | rfl | rfl | rfl | rfl | rfl | rfl | rfl <;> rfl
set_option maxRecDepth 100000 in
set_option maxHeartbeats 400000 in
theorem awake4 (w : World) :
    Calls Try.prog 4 #[] w fun e w' => e = .returned (.bool true) ∧ Below w.heap.size w w' := by
  have hcv := fun (w : World) (C : Array Value) (n c : Nat) => Lib.run_convert_bytes_const (P := Try.prog) w 24 5 C n c Try.underlying24 Try.underlying5
  have hbA : Below w.heap.size w (w.alloc (.cells #[.int .u8 171, .int .u8 205] 5)) := (Below.refl _ _).alloc (Nat.le_refl _) _
  have R2 : Row8 (w.alloc (.cells #[.int .u8 171, .int .u8 205] 5)) (some ⟨w.heap.size, 0, none⟩) 2 2 lit2 := by
    refine row8_new w _ _ lit2 2 (fun i _ => ?_) (fun i hi => ?_)
    · unfold lit2
      by_cases h : i = 0
      · rw [if_pos h]; omega
      · rw [if_neg h]; omega
    · rcases (show i = 0 ∨ i = 1 by omega) with rfl | rfl <;> rfl
  have hE := encode_good 4 7 3 9 8 _ 2 2 lit2 _ R2 (by decide)
  go_enter Try.func4, Try.ntmps4
  go_wp2_with fail
  generalize w.alloc (.cells #[.int .u8 171, .int .u8 205] 5) = wa at *
  refine hE.mono ?_
  rintro e w1 ⟨v1, rfl, H1⟩
  obtain ⟨a1, c1, rfl, R1⟩ := own_row8 H1.out.1 (fun i hi => by
    rw [sl21 i hi]
    have : ∀ z : Fin 21, lit21 z.val < 256 := by decide
    exact this ⟨i, hi⟩)
  have hb1 : Below w.heap.size w w1 := below_all hbA hbA.size H1.out.2
  clear hE R2 H1
  have R19 := row19 w1
  have hb2 : Below w1.heap.size w1 (w1.alloc (.cells #[.int .u8 22, .int .u8 0, .int .u8 0, .int .u8 0, .int .u8 7, .int .u8 0, .int .u8 0, .int .u8 0, .int .u8 0, .int .u8 0, .int .u8 0, .int .u8 0, .int .u8 0, .int .u8 0, .int .u8 0, .int .u8 206, .int .u8 117, .int .u8 214, .int .u8 194] 5 (19, 20))) := (Below.refl _ _).alloc (Nat.le_refl _) _
  go_wp2_with fail
  generalize w1.alloc (.cells #[.int .u8 22, .int .u8 0, .int .u8 0, .int .u8 0, .int .u8 7, .int .u8 0, .int .u8 0, .int .u8 0, .int .u8 0, .int .u8 0, .int .u8 0, .int .u8 0, .int .u8 0, .int .u8 0, .int .u8 0, .int .u8 206, .int .u8 117, .int .u8 214, .int .u8 194] 5 (19, 20)) = w2 at *
  have hD := decode_ok _ 19 19 lit19 w2 R19 DE19
  rw [show lit19 0 = 22 from rfl, show w4v lit19 1 = 7 from rfl, show w4v lit19 5 = 0 from rfl, show w4v lit19 9 = 0 from rfl, show lit19 13 = 0 from rfl, show 19 - 19 = 0 from rfl] at hD
  refine hD.mono ?_
  rintro e w3 ⟨a3, c3, rfl, H3⟩
  have hs2 := hb2.size
  have hb3 : Below w1.heap.size w1 w3 := below_all hb2 hs2 H3.out.2
  have hs3 := hb3.size
  have hs1 := hb1.size
  have hb4 : Below w1.heap.size w1 (w3.alloc (.cells #[.int .i64 22, .int .u32 7, .int .u32 0, .int .u32 0, .int .i64 0, .slice a3 0 c3] 26)) := hb3.alloc hs3 _
  have hcn := conv_any a1 21 c1 _ _ (R1.below hb4)
  rw [show 15 + 2 = 17 from rfl, BA21] at hcn
  have hb5 := below_all hb1 hs1 hb4
  have HB : Hid (_) := hb5
  clear hD H3 hb1 hb2 hb3 hb4 R1 R19 hcv hb5
  go_wp2_with fail
  go_ret
  exact ⟨rfl, HB.out⟩

end Go.Proofs.Ythddomhlkljlkab
