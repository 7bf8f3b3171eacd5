/- Layer 21: the document's Text. (gentq9.py) -/
import Derived.Test.YtbhbjdmdabkomaaDoorTq9
namespace Go.Proofs.YtbhbjdmdabkomaaDoor
set_option maxRecDepth 100000
open Go.RowKit Go.Maps
set_option maxRecDepth 100000
set_option maxHeartbeats 4000000 in
theorem rtext (a : Option Addr) (len cap : Nat) (R : Nat → Rx) (D : Nat → Rd) (w : World) (hr : RxRow w a len R D) (ok : ∀ i, i < len → (R i).Ok ∧ (R i).Sh) (hlen : len ≤ 1000) : Calls Tryd.prog 47 #[.slice a len cap] w fun q w' => q = .returned (tV R len) ∧ Below w.heap.size w w' := by
  have HW : Hid (_) := And.intro hr ok
  clear hr ok
  obtain ⟨i0, hi0, hz0, hz1, hz2⟩ := info_parts info_u8
  have H0 : Hid ((w.alloc (.cells #[] 5)).ownsRow w.heap.size 5 1 (.slice (some ⟨w.heap.size, 0, none⟩) 0 0) (tT R 0).length (vb (tT R 0)) ∧ Below w.heap.size w (w.alloc (.cells #[] 5))) := ⟨own0S w, belA (Below.refl _ _) _⟩
  have b0 := build0S
  go_enter Tryd.func47, Tryd.ntmps47
  go_wp2_with fail
  go_loopw [2, 3, 4, 5, 6, 7, 8, 10, 11, 12, 13, 14, 15, 16, 17, 18, 19, 20, 21, 22, 23, 24, 25, 26, 27, 28, 29, 30, 31] (fun _ _ _ v c _ _ _ _ _ _ _ _ _ _ _ _ _ _ _ _ _ _ _ _ _ _ _ _ wr => ∃ i : Nat, i ≤ len ∧ c = .int .i64 ((i : Nat) : Int) ∧ Hid (bad R i = none ∧ wr.ownsRow w.heap.size 5 1 v (tT R i).length (vb (tT R i)) ∧ Below w.heap.size w wr)) (fun _ _ _ _ c _ _ _ _ _ _ _ _ _ _ _ _ _ _ _ _ _ _ _ _ _ _ _ _ _ => len - natV c)
  case atStart => exact ⟨0, by omega, rfl, rfl, H0⟩
  case round =>
    obtain ⟨i, hi, rfl, HI⟩ := hrel
    clear H0 b0
    by_cases hlt : i < len
    rotate_left
    · obtain rfl : i = len := by omega
      have hlt' : ¬ ((i : Nat) : Int) < ((i : Nat) : Int) := by omega
      have cv := conv_vb (tT R i) _ rfl HI.out.2.1
      have HV : Hid (tV R i = .tuple #[.string (tx (tT R i)), .int .i64 0, .int .i64 0]) := by
        show tV R i = _
        unfold tV
        rw [HI.out.1]
      have HB : Hid (_) := HI.out.2.2
      clear HI
      go_wp2_with fail
      go_ret3
      exact ⟨by rw [HV.out] <;> rfl, HB.out⟩
    have hlt' : ((i : Nat) : Int) < ((len : Nat) : Int) := by omega
    have hw1 : IntKind.i64.wrap (((i : Nat) : Int) + 1) = ((i + 1 : Nat) : Int) := by rw [IntKind.wrap_i64]; omega
    obtain ⟨q, off, ea, cc, RR⟩ := (HW.out.1.below HI.out.2.2) i hlt
    subst ea
    obtain ⟨r, hR⟩ : ∃ y, R i = y := ⟨_, rfl⟩
    obtain ⟨x, hD⟩ : ∃ y, D i = y := ⟨_, rfl⟩
    rw [hR, hD] at cc RR
    have hok := HW.out.2 i hlt
    rw [hR] at hok
    have HR : Hid (_) := And.intro hok hR
    have hL := rlineA r hok.1 hok.2 x wr RR
    obtain ⟨A, hA⟩ : ∃ y, r.A x = y := ⟨_, rfl⟩
    rw [hA] at hL
    have cA : wr.rangeAt q (off + i * 29) A.toList := by rw [← hA, r.A_list]; exact cc
    have iA : (Tryd.prog.info? 78).map (·.size) = some A.size := by rw [← hA]; exact size_row
    clear RR hok cc hR hD hA
    obtain ⟨E, hE⟩ : ∃ y, r.m.err = y := ⟨_, rfl⟩
    rw [hE] at hL
    obtain ⟨X, hX⟩ : ∃ y, tx r.line = y := ⟨_, rfl⟩
    rw [hX] at hL
    have HX : Hid (_) := And.intro hE hX
    clear hE hX
    go_wp2_with (refine wpList_loadA rfl 78 (.tmp 19) rfl q (off + i * 29) rfl A _ cA Tryd.underlying78 rfl iA ?_)
    refine hL.mono ?_
    rintro z w2 ⟨rfl, b2⟩
    have HB2 : Hid (Below wr.heap.size wr w2) := b2
    clear hL b2 cA iA
    by_cases e0 : E = 0
    rotate_left
    · have g0 : (E == 0) = false := by simpa using e0
      have HV : Hid (tV R len = .tuple #[.string (ByteArray.mk #[]), .int .i64 ((i : Nat) : Int), .int .i64 E]) := by
        show tV R len = _
        rw [bad_at HI.out.1 (by rw [HR.out.2, HX.out.1]; exact e0) hlt, HR.out.2, HX.out.1]
      clear e0
      go_wp2_with fail
      go_ret3
      exact ⟨by rw [HV.out] <;> rfl, HI.out.2.2.trans (HB2.out.mono HI.out.2.2.size)⟩
    have HN : Hid (bad R (i + 1) = none ∧ X = tx (R i).full) := by
      refine ⟨bad_good HI.out.1 (by rw [HR.out.2, HX.out.1]; exact e0), ?_⟩
      rw [← HX.out.2, HR.out.2]
      unfold Rx.line
      rw [if_pos (by rw [HX.out.1]; exact e0)]
    subst e0
    have hT := tT_len3 (n := i) (by omega) (fun j hj => HW.out.2 j (by omega))
    have hF := Rx.full_len (HW.out.2 i hlt).1 (HW.out.2 i hlt).2
    have lX : X.size ≤ 2003000 := by rw [HN.out.2, tx_size]; exact hF
    obtain ⟨Y, p1, t1, z1⟩ := catS HN.out.2.symm (show tx [10] = ByteArray.mk #[10] from rfl)
    rw [show (ByteArray.mk #[10]).size = 1 from rfl] at z1
    have s1 : ¬ 9223372036854775807 < X.size + 1 := by omega
    have B2 : Below w.heap.size w w2 := HI.out.2.2.trans (HB2.out.mono HI.out.2.2.size)
    have own2 := ownB HI.out.2.1 HB2.out
    have k1 : (tT R i).length + Y.size ≤ maxLen := by unfold maxLen; omega
    have k2 : (tT R i).length + Y.size ≤ 140737488355328 := by omega
    have HBw : Hid (_) := And.intro B2 t1
    have hB2 := B2.size
    clear hT hF lX B2 t1 z1
    go_wp2_with (at_builtin; refine Lib.wpList_append_own_string _ rfl _ _ 27 9 rfl w.heap.size 5 i0 Tryd.underlying27 Tryd.underlying9 hi0 hz0 hz1 hz2 _ _ _ rfl own2 Y rfl k1 k2 hB2 ?_)
    intro v7 w7 O7 G7 _
    have HF : Hid (bad R (i + 1) = none ∧ w7.ownsRow w.heap.size 5 1 v7 (tT R (i + 1)).length (vb (tT R (i + 1))) ∧ Below w.heap.size w w7) := by
      refine ⟨HN.out.1, ?_, HBw.out.1.grown G7 HBw.out.1.size (fun k hk => (own2.lt k hk).1)⟩
      have e : vb (tT R (i + 1)) = vb (tT R i) ++ Lib.strCells Y := by
        rw [← HBw.out.2, str_cells]
        show vb (tT R i ++ (R i).full ++ [10]) = _
        rw [List.append_assoc, vb_app]
        rfl
      have e2 : (tT R (i + 1)).length = (tT R i).length + Y.size := by
        rw [← HBw.out.2, tx_size]
        show (tT R i ++ (R i).full ++ [10]).length = _
        rw [List.append_assoc, List.length_append]
      rw [e, e2]
      exact O7
    clear O7 G7 own2 k1 k2 hB2 HBw HN p1 s1
    go_wp2_with fail
    go_roundw
    case rel => exact ⟨i + 1, by omega, by first | rfl | go_num, HF⟩
    case measure => simp [natV] <;> omega
end Go.Proofs.YtbhbjdmdabkomaaDoor
