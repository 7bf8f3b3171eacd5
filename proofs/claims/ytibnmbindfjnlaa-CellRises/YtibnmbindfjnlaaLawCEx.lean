/- Layer 8: at the greatest number nothing is written any more. -/
import Derived.Test.YtibnmbindfjnlaaCell6
import Derived.OpenShut
namespace Go.Proofs.Ytibnmbindfjnlaa
open Go.RowKit

theorem vz_mended (z : Nat → Nat) (hz : Bz z) : vz (lays (mend z) z) = vz z := by
  have h := vz_mend z 6 hz
  rwa [List.take_of_length_le (mend_len z)] at h
theorem byOff {l : List Nat} {B : Nat} {w0 w w' : World} (hb : Below B w0 w) (h : Off l w w') (hB : ∀ k, k ∈ l → B ≤ k) (hs : B ≤ w0.heap.size) : Below B w0 w' := h.below hb hB (Nat.le_trans hs hb.size)
set_option maxRecDepth 100000 in
set_option maxHeartbeats 4000000 in
theorem exhausts_any (N : Nat) (w : World) (hN : N < 4294967296) :
    Calls Try.prog 6 #[.int .u32 (N : Nat)] w fun e w' => e = .returned (.bool true) ∧ Below w.heap.size w w' := by
  obtain ⟨M, hM⟩ : ∃ M, N % 30 + 1 = M := ⟨_, rfl⟩
  have hM0 : 0 < M := by omega
  have hM1 : M ≤ 30 := by omega
  have hMI : (N : Int) % 30 + 1 = (M : Int) := by omega
  go_enter Try.func6, Try.ntmps6
  go_wp2_with fail
  refine (awake8 w).mono ?_
  rintro e w0 ⟨rfl, b0⟩
  go_wp2_with fail
  refine (new_ok 10 w0 (by omega)).mono ?_
  rintro e w1 ⟨b, g, rfl, H1⟩
  obtain ⟨hb, hg, o1, m1⟩ := H1.out
  have b1 : Below w.heap.size w w1 := o1.below b0 (by simp) b0.size
  have s0 := b0.size
  have lb := m1.lt
  have lg := m1.lg
  have HB : Hid (_) := And.intro (show w.heap.size ≤ b by omega) (show w.heap.size ≤ g by omega)
  clear H1 o1 hb hg b0 s0
  go_wp2_with fail
  clear hMI hM
  refine (open_free b g 10 M (fun _ => 0) 0 0 w1 m1 (by omega) (by omega) (by omega)).mono ?_
  rintro e w2 ⟨rfl, o2, m2, c2⟩
  have b2 : Below w.heap.size w w2 := byOff b1 o2 (by have := HB.out; simp; omega) (Nat.le_refl _)
  have hc : w.heap.size ≤ w1.heap.size := b1.size
  rw [show lays (mend fun _ => 0) (fun _ => 0) = (fun _ => 0) from rfl, show (0 : Int) + ((mend fun _ => 0).length : Nat) = 0 from rfl] at m2
  rw [show lays (mend fun _ => 0) (fun _ => 0) = (fun _ => 0) from rfl] at c2
  clear o2 m1 b1
  obtain ⟨c, hcd⟩ : ∃ c, w1.heap.size = c := ⟨_, rfl⟩
  rw [hcd] at lb lg c2 hc ⊢
  clear hcd w1
  go_wp2_with fail
  go_loopw [2, 6, 7] (fun _ ce ci wr => ∃ (i : Nat) (z : Nat → Nat), i ≤ M ∧ ci = .int .u32 ((i : Nat) : Int) ∧ ce = .int .i64 0 ∧ vz z = i ∧ MR wr b g 10 ⟨z, false, false, 0, 6 * (i : Int)⟩ ∧ CS wr c b M z false ∧ Below w.heap.size w wr) (fun _ _ ci _ => M - (intOf ci).toNat)
  case atStart => exact ⟨0, _, by omega, rfl, rfl, rfl, m2, c2, b2⟩
  case round =>
    clear m2 c2 b2
    obtain ⟨i, z, hi, rfl, rfl, hv, m1, c1, b1⟩ := hrel
    by_cases hlt : i < M
    · have q := next_free c b g 10 M z 0 _ wr m1 c1 (by omega) (by omega) (by omega) (by omega) (by omega) (by omega)
      rw [hv] at q
      have hz : Bz z := fun j hj => m1.byte j hj
      have hv2 : vz (lays (six (tg z) (i + 1)) z) = i + 1 := vz_next z (i + 1) (by omega) (by omega)
      have HV : Hid (_) := hv2
      clear m1 c1 hv hv2 hz
      go_wp2_with fail
      refine q.mono ?_
      rintro e w3 ⟨rfl, o3, m3, c3⟩
      have b3 : Below w.heap.size w w3 := byOff b1 o3 (by have := HB.out; simp; omega) (Nat.le_refl _)
      have H : Hid (_) := And.intro m3 (And.intro c3 b3)
      clear m3 c3 b3 o3 q b1
      go_wp2_with fail
      go_roundw
      case rel => exact ⟨i + 1, _, by omega, by go_num, rfl, HV.out, by rw [show 6 * ((i + 1 : Nat) : Int) = 6 * (i : Int) + 6 by omega]; exact H.out.1, H.out.2⟩
      case measure => simp [intOf] <;> omega
    · have hiM : i = M := by omega
      have q1 := writes_any b g 10 _ wr m1
      have hz : Bz z := fun j hj => m1.byte j hj
      have q2 := next_full c b g 10 M z _ wr m1 c1 hz rfl (by omega)
      have q3 := value_z c b M z false wr c1 hz
      have q4 := open_free b g 10 M z 0 _ wr m1 (by omega) (by omega) (by omega)
      have hv3 := vz_mended z hz
      have hl := mend_len z
      have lm := m1.lt
      have lg1 := m1.lg
      have hcl := c1.lt
      rw [hv, hiM] at q3
      rw [hiM] at q1 q4
      have HV : Hid (_) := hv3.trans (hv.trans hiM)
      have HC : Hid (_) := c1
      simp only at q1
      have HZ : Hid (_) := And.intro hz hv
      clear m1 c1 hv hz hv3
      subst hiM
      go_wp2_with fail
      refine q1.mono ?_
      rintro e w' ⟨rfl, hw⟩
      rw [hw]
      clear hw q1
      go_wp2_with fail
      refine q2.mono ?_
      rintro e w' ⟨rfl, hw⟩
      rw [hw]
      clear hw q2
      go_wp2_with fail
      refine q4.mono ?_
      rintro e w4 ⟨rfl, o4, m4, c4⟩
      have b4 : Below w.heap.size w w4 := byOff b1 o4 (by have := HB.out; simp; omega) (Nat.le_refl _)
      have hz4 : Bz (lays (mend z) z) := fun j hj => m4.byte j hj
      have q5 := value_z _ b i _ false w4 c4 hz4
      rw [HV.out] at q5
      have q6 := value_z c b i z false w4 (HC.out.off o4 (by simp; omega)) HZ.out.1
      rw [HZ.out.2] at q6
      have q7 := writes_any b g 10 _ w4 m4
      simp only at q7
      have HB4 : Hid (_) := b4
      generalize (mend z).length = L at *
      clear b4 m4 c4 o4 q4 hz4 HC HV HZ b1 q3
      go_wp2_with fail
      refine q6.mono ?_
      rintro e w' ⟨rfl, hw⟩
      rw [hw]
      clear hw q6
      go_wp2_with fail
      refine q5.mono ?_
      rintro e w' ⟨rfl, hw⟩
      rw [hw]
      clear hw q5
      go_wp2_with fail
      refine q7.mono ?_
      rintro e w' ⟨rfl, hw⟩
      rw [hw]
      clear hw q7
      go_wp2_with fail
      go_ret
      exact ⟨rfl, HB4.out⟩
theorem cellExhausts_walk (a0 : Int) (w0 : (Lit.int .u32 a0).wf = true) (w : World) :
    Calls Try.prog 6 #[.int .u32 a0] w fun e w' => e = .returned (.bool true) ∧ Below w.heap.size w w' := by
  have hr := bounds_u32 w0
  obtain ⟨N, rfl⟩ := Int.eq_ofNat_of_zero_le hr.1
  exact exhausts_any N w (by omega)

end Go.Proofs.Ytibnmbindfjnlaa
