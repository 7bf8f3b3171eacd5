/- Layer 20: the document's Hex. (genshx.py) -/
import Derived.Test.YtbhbjdmdabkomaaDoorSh
namespace Go.Proofs.YtbhbjdmdabkomaaDoor
set_option maxRecDepth 100000
open Go.RowKit Go.Maps
set_option maxRecDepth 100000
theorem build0S (w : World) : (Instr.buildSlice 27 0 #[]).run Tryd.prog w = .ok (.slice (some ⟨w.heap.size, 0, none⟩) 0 0) (w.alloc (.cells #[] 5)) := by kernel_rfl
theorem own0S (w : World) : (w.alloc (.cells #[] 5)).ownsRow w.heap.size 5 1 (.slice (some ⟨w.heap.size, 0, none⟩) 0 0) 0 (vb []) := World.ownsRow_made w #[] 0 (Nat.le_refl _) (Nat.zero_le _) rfl
set_option maxHeartbeats 1000000 in
theorem rhex (d : Option Addr) (n cap : Nat) (b : Nat → Nat) (w : World) (hr : Row8 w d n cap b) (hn : n ≤ 100000) : Calls Tryd.prog 61 #[.slice d n cap] w fun r w' => r = .returned (.string (tx (hx n b))) ∧ Below w.heap.size w w' := by
  have HR : Hid (_) := hr
  clear hr
  have H0 : Hid (Tb (w.alloc (.cells #[] 5)) w.heap.size (.slice (some ⟨w.heap.size, 0, none⟩) 0 0) (hx 0 b) ∧ Below w.heap.size w (w.alloc (.cells #[] 5))) := by
    refine ⟨.inl ?_, belA (Below.refl _ _) _⟩
    exact own0S w
  have b0 := build0S
  go_enter Tryd.func61, Tryd.ntmps61
  go_wp2_with fail
  go_loopw [4, 5, 7, 8, 9, 10, 11, 12, 13, 14, 15, 16, 17, 18, 19, 20, 21, 22, 23, 24, 25, 26, 27, 28, 29] (fun v c _ _ _ _ _ _ _ _ _ _ _ _ _ _ _ _ _ _ _ _ _ _ _ wr => ∃ i : Nat, i ≤ n ∧ c = .int .i64 ((i : Nat) : Int) ∧ Hid (Tb wr w.heap.size v (hx i b) ∧ Below w.heap.size w wr)) (fun _ c _ _ _ _ _ _ _ _ _ _ _ _ _ _ _ _ _ _ _ _ _ _ _ _ => n - natV c)
  case atStart => exact ⟨0, by omega, rfl, H0⟩
  case round =>
    obtain ⟨i, hi, rfl, HI⟩ := hrel
    clear H0
    by_cases hlt : i < n
    · have hlt' : ((i : Nat) : Int) < ((n : Nat) : Int) := by omega
      obtain ⟨x, hx'⟩ : ∃ x, b i = x := ⟨_, rfl⟩
      have R := HR.out.below HI.out.2
      have hb : x < 256 := by rw [← hx']; exact R.byte i hlt
      cases d with
      | none =>
        have := (R.nil rfl).1
        omega
      | some ad =>
        have c0 := R.src ad rfl i hlt
        rw [hx'] at c0
        obtain ⟨D1, hD1⟩ : ∃ y, (dg (x / 16)).toNat = y := ⟨_, rfl⟩
        obtain ⟨D2, hD2⟩ : ∃ y, (dg (x % 16)).toNat = y := ⟨_, rfl⟩
        have i1 := dig_idx (x / 16) (by omega)
        have i2 := dig_idx (x % 16) (by omega)
        rw [hD1, show (((x / 16 : Nat)) : Int) = ((x : Nat) : Int) / 16 by omega] at i1
        rw [hD2, show (((x % 16 : Nat)) : Int) = ((x : Nat) : Int) % 16 by omega] at i2
        have hw1 : IntKind.i64.wrap (((i : Nat) : Int) + 1) = ((i + 1 : Nat) : Int) := by rw [IntKind.wrap_i64]; omega
        have q1 : IntKind.u8.wrap (((x : Nat) : Int) / 16) = ((x : Nat) : Int) / 16 := by rw [IntKind.wrap_u8]; omega
        have q2 : Int.tmod ((x : Nat) : Int) 16 = ((x : Nat) : Int) % 16 := Int.tmod_eq_emod_of_nonneg (by omega)
        have T := HI.out.1.below (belA (Below.refl _ wr) (.cells #[.int .u8 ((D1 : Nat) : Int), .int .u8 ((D2 : Nat) : Int)] 5))
        have Bl := belA HI.out.2 (.cells #[.int .u8 ((D1 : Nat) : Int), .int .u8 ((D2 : Nat) : Int)] 5)
        have Ln : (hx i b).length = 2 * i := hx_len i b
        have src : ∀ j u, (vb [dg (x / 16), dg (x % 16)])[j]? = some u → (wr.alloc (.cells #[.int .u8 ((D1 : Nat) : Int), .int .u8 ((D2 : Nat) : Int)] 5)).cell? ⟨wr.heap.size, j, none⟩ = some u := fun j u hu => by
          rw [cell_of_row _ wr.heap.size j _ _ _ (heap_alloc_new wr (.cells #[.int .u8 ((D1 : Nat) : Int), .int .u8 ((D2 : Nat) : Int)] 5)), ← hu, ← hD1, ← hD2]
          have hj : j < 2 := (List.getElem?_eq_some_iff.1 hu).1
          have : j = 0 ∨ j = 1 := by omega
          rcases this with rfl | rfl <;> rfl
        have He : Hid (hx (i + 1) b = hx i b ++ [dg (x / 16), dg (x % 16)]) := by
          show hx (i + 1) b = _
          rw [hx_succ, hx']
        have HT : Hid (_) := And.intro T (And.intro Bl src)
        have q3 : ¬ ((x : Nat) : Int) % 16 < 0 := by omega
        clear R hx' T Bl src hD1 hD2
        go_wp2_with fail
        go_region_law (first
          | (refine step_appT rfl (.tmp 13) (.tmp 28) rfl rfl w.heap.size wr.heap.size u4 (hx i b) [dg (x / 16), dg (x % 16)] rfl rfl (Tb.below HT.out.1 (by first | exact Below.refl _ _ | exact Below.drew (Below.refl _ _))) HT.out.2.2 (by simp) (by rw [Ln]; simp; omega) (by exact Nat.le_trans (Below.size HT.out.2.1) (Nat.le_refl _)) w (by first | exact HT.out.2.1 | exact Below.drew HT.out.2.1) ?_; intro v7 w7 h7 b7)
          | fail)
        all_goals
          have HF : Hid (Tb w7 w.heap.size v7 (hx (i + 1) b) ∧ Below w.heap.size w w7) := by
            refine ⟨?_, b7⟩
            rw [He.out]
            exact h7.out
          clear HT h7 b7 HI i1 i2 c0
          go_wp2_with fail
          go_roundw
          case rel => exact ⟨i + 1, by omega, by first | rfl | go_num, HF⟩
          case measure => simp [natV] <;> omega
    · obtain rfl : i = n := by omega
      have hlt' : ¬ ((i : Nat) : Int) < ((i : Nat) : Int) := by omega
      have cv := HI.out.1.conv
      have HB : Hid (_) := HI.out.2
      clear HI
      go_wp2_with fail
      go_ret
      exact ⟨rfl, HB.out⟩
end Go.Proofs.YtbhbjdmdabkomaaDoor
