/- Layer 21: bytes in base sixteen, by a builder. -/
import Derived.Test.YtbhbjdmdabkomaaDoorTq1
import Derived.Test.YtbhbjdmdabkomaaDoorBu
namespace Go.Proofs.YtbhbjdmdabkomaaDoor
set_option maxRecDepth 100000
open Go.RowKit Go.Maps
set_option maxRecDepth 100000
set_option maxHeartbeats 1000000 in
theorem tsixteen (d : Option Addr) (n cap : Nat) (b : Nat → Nat) (w : World) (hr : Row8 w d n cap b) (hn : n ≤ 100000) : Calls Tryd.prog 103 #[.slice d n cap] w fun r w' => r = .returned (.string (tx (hx n b))) ∧ Below w.heap.size w w' := by
  have HR : Hid (_) := hr
  clear hr
  have H0 : Hid (Bl 108 [] w.heap.size w.heap.size (Lib.byteCells (hx 0 b)) (w.alloc (.cells #[.pointer none, .slice none 0 0] 108)) ∧ Below w.heap.size w (w.alloc (.cells #[.pointer none, .slice none 0 0] 108))) := by
    refine ⟨.inl ⟨Nat.le_refl _, _, heap_alloc_new _ _, ⟨rfl, .inl ⟨rfl, rfl⟩⟩, by simp [Value.ownBlock]⟩, belA (Below.refl _ _) _⟩
  go_enter Tryd.func103, Tryd.ntmps103
  go_wp2_with fail
  go_loopw [5, 8, 9, 10, 11, 12, 13, 14, 15, 16, 17, 18, 19, 20] (fun _ c _ _ _ _ _ _ _ _ _ _ _ _ wr => ∃ i : Nat, i ≤ n ∧ c = .int .i64 ((i : Nat) : Int) ∧ Hid (Bl 108 [] w.heap.size w.heap.size (Lib.byteCells (hx i b)) wr ∧ Below w.heap.size w wr)) (fun _ c _ _ _ _ _ _ _ _ _ _ _ _ _ => n - natV c)
  case atStart => exact ⟨0, by omega, rfl, H0⟩
  case round =>
    obtain ⟨i, hi, rfl, HI⟩ := hrel
    clear H0
    by_cases hlt : i < n
    · have hlt' : ((i : Nat) : Int) < ((n : Nat) : Int) := by omega
      obtain ⟨x, hx'⟩ : ∃ x, b i = x := ⟨_, rfl⟩
      have R := HR.out.below HI.out.2
      have hb : x < 256 := by rw [← hx']; exact R.byte i hlt
      cases d with
      | none =>
        have := (R.nil rfl).1
        omega
      | some ad =>
        have c0 := R.src ad rfl i hlt
        rw [hx'] at c0
        obtain ⟨D1, hD1⟩ : ∃ y, (dg (x / 16)).toNat = y := ⟨_, rfl⟩
        obtain ⟨D2, hD2⟩ : ∃ y, (dg (x % 16)).toNat = y := ⟨_, rfl⟩
        have i1 := dig_idx (x / 16) (by omega)
        have i2 := dig_idx (x % 16) (by omega)
        rw [hD1, show (((x / 16 : Nat)) : Int) = ((x : Nat) : Int) / 16 by omega] at i1
        rw [hD2, show (((x % 16 : Nat)) : Int) = ((x : Nat) : Int) % 16 by omega] at i2
        have hw1 : IntKind.i64.wrap (((i : Nat) : Int) + 1) = ((i + 1 : Nat) : Int) := by rw [IntKind.wrap_i64]; omega
        have h15 := and15 hb
        have hlen : (Lib.byteCells (hx i b)).length = 2 * i := by rw [Lib.byteCells_length, hx_len]
        have He : Hid (Lib.byteCells (hx (i + 1) b) = Lib.byteCells (hx i b) ++ [.int .u8 ((D1 : Nat) : Int)] ++ [.int .u8 ((D2 : Nat) : Int)]) := by
          show Lib.byteCells (hx (i + 1) b) = _
          rw [hx_succ, hx', ← hD1, ← hD2]
          simp [Lib.byteCells]
        have q1 := bbyte ((D1 : Nat) : Int) wr blt0 HI.out.1 (by omega) HI.out.2.size
        have HB : Hid (_) := HI.out.2
        have HL : Hid (_) := hlen
        clear R hx' hD1 hD2 HI hlen
        go_wp2_with fail
        refine q1.mono ?_
        rintro r w1 ⟨rfl, k1, b1⟩
        have B1 : Below w.heap.size w w1 := HB.out.trans b1
        have q2 := bbyte ((D2 : Nat) : Int) w1 blt0 (.inr k1) (by have := HL.out; simp; omega) B1.size
        have HB1 : Hid (_) := B1
        clear q1 k1 b1 B1 HB c0
        go_wp2_with fail
        refine q2.mono ?_
        rintro r w2 ⟨rfl, k2, b2⟩
        have HF : Hid (Bl 108 [] w.heap.size w.heap.size (Lib.byteCells (hx (i + 1) b)) w2 ∧ Below w.heap.size w w2) := by
          refine ⟨.inr ?_, HB1.out.trans b2⟩
          rw [He.out]
          exact k2
        clear q2 k2 b2 HB1 He HL i1 i2 h15
        go_wp2_with fail
        go_roundw
        case rel => exact ⟨i + 1, by omega, by first | rfl | go_num, HF⟩
        case measure => simp [natV] <;> omega
    · obtain rfl : i = n := by omega
      have hlt' : ¬ ((i : Nat) : Int) < ((i : Nat) : Int) := by omega
      have q := Tryd.Builder_String_any w.heap.size w.heap.size (hx i b) wr HI.out.1.is HI.out.2.size
      have HB : Hid (_) := HI.out.2
      clear HI
      go_wp2_with fail
      refine q.mono ?_
      rintro r w3 ⟨rfl, b3⟩
      have HB3 : Hid (_) := b3
      clear q b3
      go_wp2_with fail
      go_ret
      exact ⟨rfl, HB.out.trans HB3.out⟩
theorem tdata (d : Option Addr) (n cap : Nat) (b : Nat → Nat) (w : World) (hr : Row8 w d n cap b) (hn : n ≤ 100000) : Calls Tryd.prog 105 #[.slice d n cap] w fun r w' => r = .returned (.string (tx (120 :: hx n b))) ∧ Below w.heap.size w w' := by
  have hS := tsixteen d n cap b w hr hn
  obtain ⟨X, hX⟩ : ∃ X, tx (hx n b) = X := ⟨_, rfl⟩
  have hs : ¬ 9223372036854775807 < (ByteArray.mk #[120]).size + X.size := by
    rw [← hX, tx_size, hx_len]
    show ¬ 9223372036854775807 < 1 + _
    omega
  have HX : Hid (ByteArray.mk #[120] ++ X = tx (120 :: hx n b)) := by
    rw [← hX]
    exact tx_app [120] _
  rw [hX] at hS
  clear hX hr
  go_enter Tryd.func105, Tryd.ntmps105
  go_wp2_with fail
  refine hS.mono ?_
  rintro r w2 ⟨rfl, b2⟩
  have HB : Hid (_) := b2
  clear hS b2
  go_wp2_with fail
  go_ret
  exact ⟨by rw [← HX.out]; rfl, HB.out⟩
end Go.Proofs.YtbhbjdmdabkomaaDoor
