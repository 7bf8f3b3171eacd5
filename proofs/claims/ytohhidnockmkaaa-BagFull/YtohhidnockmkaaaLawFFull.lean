/- BagFull: at the limit. -/
import Derived.Test.YtohhidnockmkaaaAw15
namespace Go.Proofs.Ytohhidnockmkaaa
open Go.RowKit Go.Maps

def fl1 (n : Nat) : List Bfm := (List.range n).map fun j => (1, fun _ => j % 256)
theorem fl1_len (n : Nat) : (fl1 n).length = n := by simp [fl1]
theorem fl1_succ (n : Nat) : fl1 (n + 1) = fl1 n ++ [(1, fun _ => n % 256)] := by simp [fl1, List.range_succ]
theorem fl1_get (n i : Nat) (h : i < n) : (fl1 n)[i]? = some (1, fun _ => i % 256) := by simp [fl1, h]
theorem wrap8 (i : Nat) : IntKind.u8.wrap ((i : Nat) : Int) = ((i % 256 : Nat) : Int) := by rw [IntKind.wrap_u8]; omega
set_option maxRecDepth 100000 in
set_option maxHeartbeats 4000000 in
theorem bagFull_any (n : Int) (w : World) :
    Calls Try.prog 5 #[.int .i64 n] w fun e w' => e = .returned (.bool true) ∧ Below w.heap.size w w' := by
  go_enter Try.func5, Try.ntmps5
  go_wp2_with fail
  refine (awake15 _).mono ?_
  rintro e w1 ⟨rfl, b1⟩
  have B1 : Hid (_) := b1
  clear b1
  go_wp2_with fail
  refine (bnew_any w1).mono ?_
  rintro e w2 ⟨rfl, H2⟩
  obtain ⟨b, eb⟩ : ∃ b, b = w1.heap.size + 1 := ⟨_, rfl⟩
  obtain ⟨m, em⟩ : ∃ m, m = w1.heap.size := ⟨_, rfl⟩
  rw [← eb]
  have K2 : Hid (Below w.heap.size w w2 ∧ Bg m w2 b m (.slice none 0 0) [] none [] ∧ w.heap.size ≤ m ∧ m ≤ w2.heap.size) := by
    obtain ⟨c1, c2, c3⟩ := H2.out
    refine ⟨B1.out.trans (c1.mono B1.out.size), by rw [eb, em]; exact c2, by rw [em]; exact B1.out.size, by rw [em]; exact c1.size⟩
  clear H2 B1 eb em
  go_wp2_with fail
  go_loopw [4, 5, 6] (fun c _ _ wr => ∃ i v vs p, i ≤ 4096 ∧ c = .int .i64 ((i : Nat) : Int) ∧ Below w.heap.size w wr ∧ Bg m wr b m v vs p (fl1 i) ∧ w.heap.size ≤ m ∧ m ≤ wr.heap.size) (fun c _ _ _ => 4096 - (intOf c).toNat)
  case atStart => exact ⟨0, _, _, _, by omega, rfl, K2.out.1, K2.out.2.1, K2.out.2.2.1, K2.out.2.2.2⟩
  case round =>
    clear K2
    obtain ⟨i, v, vs, p, hi, rfl, hb, G, h1, h2⟩ := hrel
    by_cases hlt : i < 4096
    · have bA : Below wr.heap.size wr (wr.alloc (.cells #[.int .u8 ((i % 256 : Nat) : Int)] 5)) := (Below.refl _ _).alloc (Nat.le_refl _) _
      have R1 : Row8 (wr.alloc (.cells #[.int .u8 ((i % 256 : Nat) : Int)] 5)) (some ⟨wr.heap.size, 0, none⟩) 1 1 (fun _ => i % 256) := row8_new wr _ _ _ 1 (fun _ _ => Nat.mod_lt _ (by omega)) (fun j hj => by
        obtain rfl : j = 0 := by omega
        rfl)
      have mlt := G.met.lt
      have hP := bput_any m b m v vs p (fl1 i) _ 1 1 (fun _ => i % 256) _ (G.below bA) R1 (fun x hx => by cases hx; show wr.heap.size ≠ m; omega) (by omega) (by rw [fl1_len]; exact hlt) (by rw [World.size_alloc]; omega)
      rw [fl1_len] at hP
      have hw8 := wrap8 i
      have HH : Hid (Below w.heap.size w wr ∧ Below wr.heap.size wr (wr.alloc (.cells #[.int .u8 ((i % 256 : Nat) : Int)] 5)) ∧ Bg m (wr.alloc (.cells #[.int .u8 ((i % 256 : Nat) : Int)] 5)) b m v vs p (fl1 i) ∧ w.heap.size ≤ m ∧ m ≤ wr.heap.size) := ⟨hb, bA, G.below bA, h1, h2⟩
      clear hb bA G h1 h2 R1 mlt hi
      go_wp2_with fail
      refine hP.mono ?_
      rintro e w3 ⟨rfl, H3⟩
      have hK : Hid (∃ v vs p, Below w.heap.size w w3 ∧ Bg m w3 b m v vs p (fl1 (i + 1)) ∧ w.heap.size ≤ m ∧ m ≤ w3.heap.size) := by
        obtain ⟨g, cap', x, p', o3, G3, _⟩ := H3.out
        obtain ⟨c1, c2, c3, c4, c5⟩ := HH.out
        have b0 : Below w.heap.size w (wr.alloc (.cells #[.int .u8 ((i % 256 : Nat) : Int)] 5)) := c1.trans (c2.mono c1.size)
        have b3 : Below m (wr.alloc (.cells #[.int .u8 ((i % 256 : Nat) : Int)] 5)) w3 := c3.after o3 (Below.refl _ _) (by rw [World.size_alloc]; omega)
        refine ⟨_, _, _, b0.trans (b3.mono c4), by rw [fl1_succ]; exact G3, c4, ?_⟩
        have := b3.size
        rw [World.size_alloc] at this
        omega
      clear hP H3 HH
      go_wp2_with fail
      go_roundw
      case rel =>
        obtain ⟨v, vs, p, q1, q2, q3, q4⟩ := hK.out
        exact ⟨i + 1, v, vs, p, by omega, by go_num, q1, q2, q3, q4⟩
      case measure => simp [intOf] <;> omega
    · have hE : Hid (i = 4096) := by show i = 4096; omega
      have hJ : ¬ ((i : Int) < 4096) := by omega
      have hP := bput_full m b m v vs p (fl1 i) none 0 0 wr G (by omega) ((fl1_len _).trans hE.out)
      obtain ⟨U, hU⟩ : ∃ U : Nat, IntKind.u64.wrap n = (U : Int) := ⟨(n % 18446744073709551616).toNat, by rw [IntKind.wrap_u64]; omega⟩
      have ht : U % 4096 < 4096 := Nat.mod_lt _ (by omega)
      have hr : Int.tmod (U : Int) 4096 = ((U % 4096 : Nat) : Int) := by rw [Int.tmod_eq_emod_of_nonneg (by omega)]; omega
      generalize U % 4096 = t at *
      have hw2 : IntKind.i64.wrap ((t : Nat) : Int) = ((t : Nat) : Int) := by rw [IntKind.wrap_i64]; omega
      have hw8 := wrap8 t
      have hG := bget_any m b m v vs p (fl1 i) t (1, fun _ => t % 256) wr G (fl1_get i t (by omega))
      have HH : Hid (Below w.heap.size w wr ∧ Bg m wr b m v vs p (fl1 i)) := ⟨hb, G⟩
      clear hb G h1 h2 hi hlt
      go_wp2_with fail
      refine hP.mono ?_
      rintro e w3 ⟨rfl, hw⟩
      rw [hw]
      clear hP hw
      go_wp2_with fail
      refine hG.mono ?_
      rintro e w4 ⟨a4, c4, rfl, H4⟩
      obtain ⟨b4, o4⟩ := H4.out
      have G4 := HH.out.2.below b4
      have hL := blen_any _ _ _ _ _ _ _ w4 G4
      rw [fl1_len] at hL
      have hI4 : ((i : Int) == 4096) = true := by rw [hE.out]; rfl
      obtain ⟨a5, c5, e5, R5⟩ := own_row8 o4 (fun _ _ => Nat.mod_lt _ (by omega))
      simp only [Value.slice.injEq, true_and] at e5
      obtain ⟨rfl, rfl⟩ := e5
      have hc := conv_any _ _ _ _ w4 R5
      have R6 : Row8 (w4.alloc (.cells #[.int .u8 ((t % 256 : Nat) : Int)] 5)) (some ⟨w4.heap.size, 0, none⟩) 1 1 (fun _ => t % 256) := row8_new w4 _ _ _ 1 (fun _ _ => Nat.mod_lt _ (by omega)) (fun j hj => by
        obtain rfl : j = 0 := by omega
        rfl)
      have hc2 := conv_any _ _ _ _ _ R6
      have HB : Hid (Below w.heap.size w (w4.alloc (.cells #[.int .u8 ((t % 256 : Nat) : Int)] 5))) := (HH.out.1.trans (b4.mono HH.out.1.size)).alloc (Nat.le_trans HH.out.1.size b4.size) _
      clear hG H4 o4 b4 G4 R5 R6 HH
      generalize BA (fun _ => t % 256) 1 = X at *
      rw [show ((t % 256 : Nat) : Int) = (t : Int) % 256 by omega] at hc2 HB
      go_wp2_with (go_at_call 16; refine hL.mono ?_; rintro e w' ⟨rfl, hw⟩; rw [hw]; clear hw)
      go_ret
      exact ⟨rfl, HB.out⟩
theorem bagFull_walk (a0 : Int) (_w0 : (Lit.int .i64 a0).wf = true) (w : World) :
    Calls Try.prog 5 #[.int .i64 a0] w fun e w' => e = .returned (.bool true) ∧ Below w.heap.size w w' :=
  bagFull_any a0 w
end Go.Proofs.Ytohhidnockmkaaa
