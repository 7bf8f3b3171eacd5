/- Layer 8: the fixed fact; a nil cell, a nil memory. -/
import Derived.Test.YtibnmbindfjnlaaCell5
import Derived.Test.YtibnmbindfjnlaaMm3
import Derived.Test.YtibnmbindfjnlaaStrs
namespace Go.Proofs.Ytibnmbindfjnlaa
open Go.RowKit

/-- Writes in a row into a memory that isn't armed. -/
theorem sq_free {n : Nat} {l : List (Nat × Nat)} {s : Ms} (hin : ∀ x, x ∈ l → x.1 < n ∧ x.2 < 256) (ho : s.off = false) (ha : s.ar = false) (hl : 0 ≤ s.l) :
    sqE n l s = 0 ∧ sqS n l s = ⟨lays l s.bs, false, false, s.l, s.t + l.length⟩ := by
  rcases sq_all n l s (fun x hx => (hin x hx).1) ho hl with ⟨h1, h2, _⟩ | ⟨_, _, h3, _⟩
  · rw [ha] at h2
    exact ⟨h1, by rw [h2]; simp⟩
  · rw [ha] at h3
    simp at h3
theorem next_free (c m g n mx : Nat) (z : Nat → Nat) (l t : Int) (w : World) (hM : MR w m g n ⟨z, false, false, l, t⟩) (hC : CS w c m mx z false) (hcm : c ≠ m) (hcg : c ≠ g) (hn : 10 ≤ n) (hx : mx < 4294967296) (h : vz z < mx) (ht : t < 9223372036854775000) :
    Calls Try.prog 17 #[.pointer (some ⟨c, 0, none⟩)] w fun e w' => e = .returned (.tuple #[.int .u32 ((vz z + 1 : Nat) : Int), .int .i64 0]) ∧
      (Off [m, g, c] w w' ∧ MR w' m g n ⟨lays (six (tg z) (vz z + 1)) z, false, false, l, t + 6⟩ ∧ CS w' c m mx (lays (six (tg z) (vz z + 1)) z) false) := by
  have q := next_go c m g n mx _ w hM hC hcm hcg hn hx rfl h ht
  obtain ⟨hE, hS⟩ := sq_free (six_in (tg z) (vz z + 1) n (tg_lt z) hn) (s := ⟨z, false, false, l, t⟩) rfl rfl hM.l0
  simp only at hE hS q
  rw [hE, hS, if_pos rfl] at q
  refine q.mono ?_
  rintro e w' ⟨rfl, o, M, C, _⟩
  exact ⟨rfl, o, M, C rfl⟩
theorem open_free (m g n mx : Nat) (z : Nat → Nat) (l t : Int) (w : World) (hM : MR w m g n ⟨z, false, false, l, t⟩) (hn : 10 ≤ n) (h0 : mx ≠ 0) (ht : t < 9223372036854775000) :
    Calls Try.prog 11 #[.pointer (some ⟨m, 0, none⟩), .int .u32 (mx : Nat)] w fun e w' =>
      e = .returned (.tuple #[.pointer (some ⟨w.heap.size, 0, none⟩), .int .i64 0]) ∧ (Off [m, g] w w' ∧ MR w' m g n ⟨lays (mend z) z, false, false, l, t + (mend z).length⟩ ∧ CS w' w.heap.size m mx (lays (mend z) z) false) := by
  have q := open_go m g n mx _ w hM hn h0 rfl ht
  obtain ⟨hE, hS⟩ := sq_free (mend_in z n hn) (s := ⟨z, false, false, l, t⟩) rfl rfl hM.l0
  simp only at hE hS q
  rw [hE, hS] at q
  refine q.mono ?_
  rintro e w' ⟨p, rfl, H⟩
  obtain ⟨o, M, C, _⟩ := H.out
  obtain ⟨rfl, C2⟩ := C rfl
  exact ⟨rfl, o, M, C2⟩
/-- Value of a cell that goes by z. -/
theorem value_z (c m mx : Nat) (z : Nat → Nat) (cut : Bool) (w : World) (hC : CS w c m mx z cut) (hz : Bz z) :
    Calls Try.prog 16 #[.pointer (some ⟨c, 0, none⟩)] w fun e w' => e = .returned (.int .u32 (vz z : Nat)) ∧ w' = w := by
  have q := value_any c m mx _ _ cut w hC (fun j hj => wz_lt hz j hj)
  rwa [vp_vz] at q
def Z1 : Nat → Nat := lays (six 0 1) (fun _ => 0)
def Z2 : Nat → Nat := lays (six 1 2) Z1
set_option maxRecDepth 100000 in
set_option maxHeartbeats 2000000 in
theorem awake8 (w : World) :
    Calls Try.prog 8 #[] w fun e w' => e = .returned (.bool true) ∧ Below w.heap.size w w' := by
  go_enter Try.func8, Try.ntmps8
  go_wp2_with fail
  refine (new_ok 10 w (by omega)).mono ?_
  rintro e w1 ⟨b, g, rfl, H1⟩
  obtain ⟨hb, hg, o1, m1⟩ := H1.out
  have b1 : Below w.heap.size w w1 := o1.below (Below.refl _ _) (by simp) (Nat.le_refl _)
  have HB : Hid (_) := And.intro hb hg
  have lb := m1.lt
  have lg := m1.lg
  clear H1 o1 hb hg
  go_wp2_with fail
  refine (open_free b g 10 3 (fun _ => 0) 0 0 w1 m1 (by omega) (by omega) (by omega)).mono ?_
  rintro e w2 ⟨rfl, o2, m2, c2⟩
  have b2 : Below w.heap.size w w2 := o2.below b1 (by have := HB.out; simp; omega) b1.size
  have hc : w.heap.size ≤ w1.heap.size := b1.size
  rw [show lays (mend fun _ => 0) (fun _ => 0) = (fun _ => 0) from rfl, show (0 : Int) + ((mend fun _ => 0).length : Nat) = 0 from rfl] at m2
  rw [show lays (mend fun _ => 0) (fun _ => 0) = (fun _ => 0) from rfl] at c2
  clear o2 m1 b1
  generalize w1.heap.size = c at *
  go_wp2_with fail
  refine (next_free c b g 10 3 _ 0 0 w2 m2 c2 (by omega) (by omega) (by omega) (by omega) (by decide) (by omega)).mono ?_
  rintro e w3 ⟨rfl, o3, m3, c3⟩
  have b3 : Below w.heap.size w w3 := o3.below b2 (by have := HB.out; simp; omega) b2.size
  rw [show vz (fun _ => 0) + 1 = 1 from rfl] at m3 c3 ⊢
  rw [show lays (six (tg fun _ => 0) 1) (fun _ => 0) = Z1 from rfl] at m3 c3
  clear o3 m2 c2 b2
  go_wp2_with fail
  refine (next_free c b g 10 3 _ 0 _ w3 m3 c3 (by omega) (by omega) (by omega) (by omega) (by decide) (by omega)).mono ?_
  rintro e w4 ⟨rfl, o4, m4, c4⟩
  have b4 : Below w.heap.size w w4 := o4.below b3 (by have := HB.out; simp; omega) b3.size
  rw [show vz Z1 + 1 = 2 from rfl] at m4 c4 ⊢
  rw [show lays (six (tg Z1) 2) Z1 = Z2 from rfl] at m4 c4
  clear o4 m3 c3 b3
  have qv := value_z c b 3 Z2 false w4 c4 (fun i hi => m4.byte i hi)
  rw [show vz Z2 = 2 from rfl] at qv
  go_wp2_with (go_at_call 16; refine qv.mono ?_; rintro e w' ⟨rfl, hw⟩; rw [hw]; clear hw)
  refine (bytes_any b g 10 _ w4 m4).mono ?_
  rintro e w5 ⟨v, rfl, H5⟩
  obtain ⟨a, cap, rfl, R⟩ := own_row8 H5.out.1 (fun i hi => m4.byte i hi)
  have hcv := conv_any a 10 cap _ w5 R
  have hB : BA Z2 10 = { data := #[165, 0, 0, 0, 1, 165, 0, 0, 0, 2] } := by decide
  rw [hB] at hcv
  have b5 : Below w.heap.size w w5 := b4.trans (H5.out.2.mono b4.size)
  clear R H5 b4 m4 qv hB c4
  go_wp2_with fail
  go_ret
  exact ⟨rfl, b5⟩
set_option maxRecDepth 100000 in
set_option maxHeartbeats 2000000 in
theorem cellNil_walk (a0 : Int) (_w0 : (Lit.int .u32 a0).wf = true) (w : World) :
    Calls Try.prog 7 #[.int .u32 a0] w fun e w' => e = .returned (.bool true) ∧ Below w.heap.size w w' := by
  go_enter Try.func7, Try.ntmps7
  go_wp2_with fail
  refine (awake8 w).mono ?_
  rintro e w1 ⟨rfl, b1⟩
  have q1 := next_nil w1
  have q2 := open_nil a0 w1
  have q3 := value_nil w1
  go_wp2_with (first | (go_at_call 17; refine q1.mono ?_; rintro e w' ⟨rfl, hw⟩; rw [hw]; clear hw) | (go_at_call 11; refine q2.mono ?_; rintro e w' ⟨rfl, hw⟩; rw [hw]; clear hw) | (go_at_call 16; refine q3.mono ?_; rintro e w' ⟨rfl, hw⟩; rw [hw]; clear hw))
  go_ret
  exact ⟨rfl, b1⟩

end Go.Proofs.Ytibnmbindfjnlaa
