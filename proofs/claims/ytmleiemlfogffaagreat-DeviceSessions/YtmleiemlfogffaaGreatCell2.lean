/- The cell of layer 8: readWord, read, clear, mend, Open, Value, target, Next. -/
import Derived.Test.YtmleiemlfogffaaGreatCell
namespace Go.Proofs.YtmleiemlfogffaaGreat
set_option maxRecDepth 100000
open Go.RowKit

/-- A word's first bytes. -/
def pw (z : Nat → Nat) (k : Nat) : Nat → Nat
  | 0 => 0
  | i + 1 => pw z k i * 256 + z (5 * k + 1 + i)
theorem pw_four (z : Nat → Nat) (k : Nat) : pw z k 4 = wz z k := by
  show (((0 * 256 + z (5 * k + 1)) * 256 + z (5 * k + 2)) * 256 + z (5 * k + 3)) * 256 + z (5 * k + 4) = wz z k
  unfold wz
  omega
theorem pw_lt {z : Nat → Nat} (hz : Bz z) (k : Nat) (hk : k < 2) (i : Nat) (hi : i ≤ 4) : pw z k i < 256 ^ i := by
  induction i with
  | zero => simp [pw]
  | succ i ih =>
    have := ih (by omega)
    have := hz (5 * k + 1 + i) (by omega)
    rw [pw, Nat.pow_succ]
    omega
set_option maxRecDepth 100000 in
set_option maxHeartbeats 2000000 in
theorem readWord_any (c m g n mx : Nat) (mk wd : Nat → Nat) (cut : Bool) (s : Ms) (k : Nat) (w : World) (hM : MR w m g n s) (hC : CX w c m mx mk wd cut) (hk : k < 2) (hn : 10 ≤ n) (ho : s.off = false) :
    Calls Tryz.prog 111 #[.pointer (some ⟨c, 0, none⟩), .int .i64 (k : Nat)] w fun e w' => e = .returned (.tuple #[.int .u32 (wz s.bs k : Nat), .int .i64 0]) ∧ w' = w := by
  have c0 := hC.mem
  have hz : Bz s.bs := fun i hi => hM.byte i (by omega)
  have hf := fun i (hi : i ≤ 4) => pw_lt hz k hk i hi
  rw [← pw_four]
  obtain ⟨X, hX⟩ : ∃ X, pw s.bs k 4 = X := ⟨_, rfl⟩
  rw [hX]
  have HX : Hid (_) := hX
  clear hX
  have HZ : Hid (Bz s.bs) := hz
  clear hC hz
  go_enter Tryz.func111, Tryz.ntmps111
  go_wp2_with fail
  go_loopw [4, 5, 6, 7, 8, 9, 10] (fun _ _ x _ _ _ ci wr => ∃ i : Nat, i ≤ 4 ∧ ci = .int .i64 ((i : Nat) : Int) ∧ x = .int .u32 (pw s.bs k i : Nat) ∧ wr = w) (fun _ _ _ _ _ _ ci _ => 4 - (intOf ci).toNat)
  case atStart => exact ⟨0, by omega, rfl, rfl, rfl⟩
  case round =>
    obtain ⟨i, hi, rfl, rfl, rfl⟩ := hrel
    by_cases hlt : i < 4
    · have hr := rch_ok (s := s) (n := n) (p := 5 * k + 1 + i) (by omega) ho
      have hb := HZ.out (5 * k + 1 + i) (by omega)
      have hl := hf i (by omega)
      have e1 : pw s.bs k (i + 1) = pw s.bs k i * 256 + s.bs (5 * k + 1 + i) := rfl
      have e2 : rdB s n ((5 * k + 1 + i : Nat) : Int) = s.bs (5 * k + 1 + i) := by
        unfold rdB
        rw [hr, if_neg (by simp), Int.toNat_natCast]
      generalize s.bs (5 * k + 1 + i) = b at *
      obtain ⟨y, hy⟩ : ∃ y, pw s.bs k (i + 1) = y := ⟨_, rfl⟩
      rw [hy] at e1
      have HY : Hid (_) := hy
      clear hy
      generalize pw s.bs k i = x at *
      have HH : Hid (_) := And.intro hr e2
      have hor : bits .or .u32 ((x : Int) * 256 % 4294967296) (b : Int) = ((y : Nat) : Int) := by
        have h3 : x < 256 ^ 3 := Nat.lt_of_lt_of_le hl (Nat.pow_le_pow_right (by omega) (by omega))
        rw [show (x : Int) * 256 % 4294967296 = ((x * 256 : Nat) : Int) by omega, u32_or_nat _ _ (by omega) (by omega), nat_join 8 (x * 256) b (by omega) (by omega), e1]
      clear hf HZ hr e2 HX
      go_wp2_with fail
      refine (read_any m g n s _ wr hM).mono ?_
      rintro e w' ⟨rfl, hw⟩
      rw [hw, show (k : Int) * 5 + 1 + (i : Int) = ((5 * k + 1 + i : Nat) : Int) by omega, HH.out.1, HH.out.2]
      clear hw
      go_wp2_with fail
      exact ⟨⟨i + 1, by omega, by go_num, by rw [HY.out, e1]; simp, trivial⟩, by simp [intOf] <;> omega⟩
    · obtain rfl : i = 4 := by omega
      rw [HX.out]
      clear hf HZ HX
      go_wp2_with fail
      go_ret2
      exact ⟨rfl, rfl⟩
set_option maxRecDepth 100000 in
set_option maxHeartbeats 2000000 in
theorem cread_any (c m g n mx : Nat) (mk wd : Nat → Nat) (cut : Bool) (s : Ms) (w : World) (hM : MR w m g n s) (hC : CX w c m mx mk wd cut) (hcm : c ≠ m) (hcg : c ≠ g) (hn : 10 ≤ n) (ho : s.off = false) :
    Calls Tryz.prog 74 #[.pointer (some ⟨c, 0, none⟩)] w fun e w' => e = .returned (.int .i64 0) ∧ (Off [c] w w' ∧ MR w' m g n s ∧ CX w' c m mx (fun k => s.bs (5 * k)) (wz s.bs) cut) := by
  go_enter Tryz.func74, Tryz.ntmps74
  go_wp2_with fail
  go_loopw [2, 3, 4, 5, 6, 7] (fun _ _ _ _ _ ci wr => ∃ (i : Nat) (mk wd : Nat → Nat), i ≤ 2 ∧ ci = .int .i64 ((i : Nat) : Int) ∧ (∀ j, j < i → mk j = s.bs (5 * j) ∧ wd j = wz s.bs j) ∧ Off [c] w wr ∧ MR wr m g n s ∧ CX wr c m mx mk wd cut) (fun _ _ _ _ _ ci _ => 2 - (intOf ci).toNat)
  case atStart => exact ⟨0, mk, wd, by omega, rfl, fun j hj => by omega, Off.refl _ _, hM, hC⟩
  case round =>
    clear hM hC mk wd
    obtain ⟨i, mk, wd, hi, rfl, hj, O, hM, hC⟩ := hrel
    by_cases hlt : i < 2
    · have hr := rch_ok (s := s) (n := n) (p := 5 * i) (by omega) ho
      have e2 : rdB s n ((5 * i : Nat) : Int) = s.bs (5 * i) := by
        unfold rdB
        rw [hr, if_neg (by simp), Int.toNat_natCast]
      have c0 := hC.mem
      have q := readWord_any c m g n mx mk wd cut s i wr hM hC hlt hn ho
      have z1 := hC.hmk i hlt
      have f1 := hC.fz (2 + i)
      have C3 := hC.setMk i (s.bs (5 * i)) hlt
      have wk := C3.hwd i hlt
      have gk := C3.fz (4 + i)
      have wj := hC.hwd i hlt
      have gj := hC.fz (4 + i)
      have nk : ¬ 2 + i = 4 + i := by omega
      have nj : ¬ 4 + i = 2 + i := by omega
      have H : Hid (_) := And.intro hj (And.intro O (And.intro hM hC))
      obtain ⟨a, ha⟩ : ∃ a, s.bs (5 * i) = a := ⟨_, rfl⟩
      obtain ⟨x, hx⟩ : ∃ x, wz s.bs i = x := ⟨_, rfl⟩
      rw [ha] at e2 C3 wk gk
      rw [hx] at q
      have HA : Hid (_) := And.intro (And.intro ha hx) (And.intro hr e2)
      clear O hC C3 ha hx hr e2 hj
      go_wp2_with fail
      refine (read_any m g n s _ wr hM).mono ?_
      rintro e w' ⟨rfl, hw⟩
      rw [hw, show (i : Int) * 5 = ((5 * i : Nat) : Int) by omega, HA.out.2.1, HA.out.2.2]
      clear hw hM
      go_wp2_with (go_at_call 111; refine q.mono ?_; rintro e w' ⟨rfl, hw⟩; rw [hw]; clear hw)
      go_region
      go_wp2_with fail
      obtain ⟨hj, O, hM, hC⟩ := H.out
      obtain ⟨⟨ha, hx⟩, _⟩ := HA.out
      have q1 : Off [c] wr ((wr.setCell ⟨c, 2 + i, none⟩ (.int .u8 (a : Nat))).setCell ⟨c, 4 + i, none⟩ (.int .u32 (x : Nat))).drew := ((Off.setCell c (2 + i) _ _).trans (Off.setCell c (4 + i) _ _)).trans (Off.drew _ _)
      refine ⟨⟨i + 1, upd mk i a, upd wd i x, by omega, by go_num, fun j hjj => ?_, O.trans q1, hM.off q1 (by simp; omega) (by simp; omega), ((hC.setMk i a hlt).setWd i x hlt).off (Off.drew [] _) (by simp)⟩, by simp [intOf] <;> omega⟩
      unfold upd
      by_cases e : j = i
      · rw [if_pos e, if_pos e, e]
        exact ⟨ha.symm, hx.symm⟩
      · rw [if_neg e, if_neg e]
        exact hj j (by omega)
    · obtain rfl : i = 2 := by omega
      have H : Hid (_) := And.intro O (And.intro hM (hC.as (mk' := fun k => s.bs (5 * k)) (wd' := wz s.bs) (hj 0 (by omega)).1 (hj 1 (by omega)).1 (hj 0 (by omega)).2 (hj 1 (by omega)).2))
      clear O hM hC hj
      go_wp2_with fail
      go_ret
      exact ⟨rfl, H.out⟩
theorem cread_off (c m g n mx : Nat) (mk wd : Nat → Nat) (cut : Bool) (s : Ms) (w : World) (hM : MR w m g n s) (hC : CX w c m mx mk wd cut) (ho : s.off = true) :
    Calls Tryz.prog 74 #[.pointer (some ⟨c, 0, none⟩)] w fun e w' => e = .returned (.int .i64 70) ∧ w' = w := by
  have c0 := hC.mem
  have q := read_any m g n s 0 w hM
  rw [show rch s n 0 = 70 by unfold rch; rw [ho, if_pos rfl]] at q
  clear hM hC
  generalize rdB s n 0 = x at *
  go_enter Tryz.func74, Tryz.ntmps74
  go_wp2_with fail
  go_loopw [2, 3, 4, 5, 6, 7] (fun _ _ _ _ _ ci wr => ∃ i : Nat, i = 0 ∧ ci = .int .i64 ((i : Nat) : Int) ∧ wr = w) (fun _ _ _ _ _ ci _ => 2 - (intOf ci).toNat)
  case atStart => exact ⟨0, rfl, rfl, rfl⟩
  case round =>
    obtain ⟨i, rfl, rfl, rfl⟩ := hrel
    go_wp2_with (go_at_call 110; refine q.mono ?_; rintro e w' ⟨rfl, hw⟩; rw [hw]; clear hw)
    go_ret
    exact ⟨rfl, rfl⟩

end Go.Proofs.YtmleiemlfogffaaGreat
