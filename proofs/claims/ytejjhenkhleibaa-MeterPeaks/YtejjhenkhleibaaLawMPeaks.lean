/- Layer 5: the peak is the greatest; it was raised by just those that were above all ahead of them. -/
import Derived.Test.YtejjhenkhleibaaLawMSums
namespace Go.Proofs.Ytejjhenkhleibaa
open Go.RowKit

/-- Is v above the first n? -/
def fr (z : Nat → Int) (v : Int) : Nat → Bool
  | 0 => true
  | n + 1 => fr z v n && decide (z n < v)
/-- The peak behind n of them. -/
def pkm (z : Nat → Int) : Nat → Option Int
  | 0 => none
  | n + 1 => if fr z (z n) n then some (z n) else pkm z n
theorem pk_fr (z : Nat → Int) (n : Nat) : ∀ v, (pkm z n).all (fun x => decide (x < v)) = fr z v n := by
  induction n with
  | zero => intro v; rfl
  | succ n ih =>
    intro v
    show (if fr z (z n) n then some (z n) else pkm z n).all (fun x => decide (x < v)) = (fr z v n && decide (z n < v))
    by_cases hf : fr z (z n) n = true
    · rw [if_pos hf]
      by_cases hv : z n < v
      · have h1 := ih (z n)
        rw [hf] at h1
        have h2 := ih v
        cases hp : pkm z n with
        | none => rw [hp] at h2; rw [← h2]; simp [hv]
        | some x =>
          rw [hp] at h1 h2
          simp at h1
          rw [← h2]
          simp [hv]; omega
      · simp [hv]
    · rw [if_neg hf]
      have h1 := ih (z n)
      have h2 := ih v
      cases hp : pkm z n with
      | none => rw [hp] at h1; exact absurd h1.symm hf
      | some x =>
        rw [hp] at h1 h2
        have hx : ¬ x < z n := fun h => hf (by rw [← h1]; simpa using h)
        rw [← h2]
        simp
        intro h; omega
theorem pkm_some (z : Nat → Int) (n : Nat) : ∃ m, pkm z (n + 1) = some m ∧ z n ≤ m ∧ (fr z (z n) n = true → m = z n) := by
  show ∃ m, (if fr z (z n) n then some (z n) else pkm z n) = some m ∧ _
  by_cases hf : fr z (z n) n = true
  · exact ⟨z n, by rw [if_pos hf], by omega, fun _ => rfl⟩
  · rw [if_neg hf]
    have h1 := pk_fr z n (z n)
    cases hp : pkm z n with
    | none => rw [hp] at h1; exact absurd h1.symm hf
    | some x =>
      rw [hp] at h1
      refine ⟨x, rfl, ?_, fun h => absurd h hf⟩
      have hx : ¬ x < z n := fun h => hf (by rw [← h1]; simpa using h)
      omega
theorem peaks_none (a : Option Addr) (cap : Nat) (w : World) :
    Calls Try.prog 5 #[.slice a 0 cap] w fun e w' => e = .returned (.bool true) ∧ Below w.heap.size w w' := by
  have haw := awake5 w
  go_enter Try.func5, Try.ntmps5
  go_wp2_with fail
  refine haw.mono ?_
  rintro e w0 ⟨rfl, hb0⟩
  go_wp2_with fail
  refine (new_any w0).mono ?_
  rintro e w1 ⟨rfl, hw1⟩
  have hb1 := hb0.alloc hb0.size (.cells (MC 0 none 0 0 none) 76)
  rw [← hw1] at hb1
  clear hw1 haw hb0
  generalize w0.heap.size = g at *
  go_wp2_with fail
  refine wp_loop_once ?_
  go_wp2_with fail
  go_ret
  exact ⟨rfl, hb1⟩
set_option maxHeartbeats 2000000 in
theorem peaks_some (b off len cap : Nat) (z : Nat → Int) (w : World) (hlen : len ≤ 9223372036854775807) (hb : b < w.heap.size)
    (hc : ∀ i, i < len → w.cell? ⟨b, off + i, none⟩ = some (.int .i64 (z i))) :
    Calls Try.prog 5 #[.slice (some ⟨b, off, none⟩) len cap] w fun e w' => e = .returned (.bool true) ∧ Below w.heap.size w w' := by
  have haw := awake5 w
  go_enter Try.func5, Try.ntmps5
  go_wp2_with fail
  refine haw.mono ?_
  rintro e w0 ⟨rfl, hb0⟩
  go_wp2_with fail
  refine (new_any w0).mono ?_
  rintro e w1 ⟨rfl, hw1⟩
  have hle := hb0.size
  have m1 := new_met w0
  have hb1 := hb0.alloc hb0.size (.cells (MC 0 none 0 0 none) 76)
  rw [← hw1] at hb1 m1
  clear hw1 haw hb0
  generalize w0.heap.size = g at *
  go_wp2_with fail
  go_loopw [2, 4, 5, 6, 7, 8] (fun _ i _ _ _ _ wr => ∃ k p, k ≤ len ∧ i = .int .i64 ((k : Nat) : Int) ∧ Met wr g 0 p 0 0 none ∧ Pk (g + 1) wr p (pkm z k) ∧ Below w.heap.size w wr) (fun _ i _ _ _ _ _ => len - (intOf i).toNat)
  case atStart => exact ⟨0, none, by omega, rfl, m1, .none, hb1⟩
  case round =>
    clear m1 hb1
    obtain ⟨k, p, hk, rfl, M, PK, B⟩ := hrel
    by_cases hlt : k < len
    · have hcell : ∀ j, j ≤ k → wr.cell? ⟨b, off + j, none⟩ = some (.int .i64 (z j)) := fun j hj => (B.cell (p := ⟨b, off + j, none⟩) hb).trans (hc j (by omega))
      have hck := hcell k (Nat.le_refl _)
      have H0 : Hid (_) := And.intro M (And.intro PK B)
      have hc' : Hid (_) := hc
      clear M PK B hc
      have hc := hc'
      clear hc'
      go_wp2_with fail
      go_loopw [5, 6] (fun f c wx => ∃ j m, j ≤ k ∧ c = .int .i64 ((j : Nat) : Int) ∧ f = .bool (fr z (z k) j) ∧ wx = wr.drewN m) (fun _ c _ => k - (intOf c).toNat)
      case atStart => exact ⟨0, 0, by omega, rfl, rfl, rfl⟩
      case round =>
        obtain ⟨j, m, hj, rfl, rfl, rfl⟩ := hrel
        by_cases hjk : j < k
        · have hcj := hcell j (by omega)
          have hjl : j < len := by omega
          clear hcell
          have hfs : Hid (fr z (z k) (j + 1) = (fr z (z k) j && decide (z j < z k))) := rfl
          generalize z j = x at *
          generalize z k = v at *
          generalize fr z v j = F at *
          cases F with
          | true =>
            go_wp2_with fail
            go_quiet (fail)
            go_wp2_with fail
            go_roundw
            case rel => exact ⟨j + 1, m + nq, by omega, by go_num, by rw [hfs.out]; simp, by simp⟩
            case measure => simp [intOf] <;> omega
          | false =>
            go_wp2_with fail
            go_region
            go_wp2_with fail
            go_roundw
            case rel => exact ⟨j + 1, _, by omega, by go_num, by rw [hfs.out]; simp, rfl⟩
            case measure => simp [intOf] <;> omega
        · have hjk' : j = k := by omega
          subst hjk'
          have M' := H0.out.1.off (Off.drewN [] wr m) (by simp)
          have PK' := H0.out.2.1.off (Off.drewN [] wr m) (by simp)
          have B' : Below w.heap.size w (wr.drewN m) := (Off.drewN [] wr m).below H0.out.2.2 (by simp) H0.out.2.2.size
          have hg := M'.lt
          have hR := raise_any (g + 1) 0 g p none (pkm z j) 0 0 (z j) (wr.drewN m) M' PK' (by omega)
          rw [pk_fr] at hR
          have hnx : (if fr z (z j) j = true then some (z j) else pkm z j) = pkm z (j + 1) := rfl
          rw [hnx] at hR
          clear hnx
          obtain ⟨mx, hmx0, hge, heq⟩ := pkm_some z j
          rw [hmx0] at hR
          have hmx : Hid (_) := hmx0
          have HB : Hid (_) := B'
          clear hmx0 M' PK' B' H0 hcell
          generalize fr z (z j) j = F at *
          go_wp2_with fail
          refine hR.mono ?_
          rintro e w2 ⟨rfl, O2, p2, M2, PK2⟩
          have B2 := O2.below HB.out (by simpa using hle) HB.out.size
          have hP := peak_any (g + 1) _ _ _ _ _ _ _ w2 M2 PK2
          simp only [Option.getD_some, Option.isSome_some] at hP
          have hck2 : w2.cell? ⟨b, off + j, none⟩ = some (.int .i64 (z j)) := (B2.cell (p := ⟨b, off + j, none⟩) hb).trans (hc.out j hlt)
          have H2 : Hid (_) := And.intro M2 (And.intro PK2 B2)
          clear M2 PK2 B2 O2 HB hR hck
          generalize z j = v at *
          cases F with
          | true =>
            obtain rfl := heq rfl
            clear heq
            go_wp2_with fail
            refine hP.mono ?_
            rintro e w3 ⟨rfl, hw3⟩
            rw [hw3]
            clear hw3 hP
            by_cases h40 : 40 < j
            · go_wp2_with fail
              go_ret
              exact ⟨rfl, H2.out.2.2⟩
            · go_wp2_with fail
              go_roundw
              case rel => exact ⟨j + 1, p2, by omega, by go_num, H2.out.1, by rw [hmx.out]; exact H2.out.2.1, H2.out.2.2⟩
              case measure => simp [intOf] <;> omega
          | false =>
            have hge' : ¬ mx < v := by omega
            go_wp2_with fail
            refine hP.mono ?_
            rintro e w3 ⟨rfl, hw3⟩
            rw [hw3]
            clear hw3 hP
            by_cases h40 : 40 < j
            · go_wp2_with fail
              go_ret
              exact ⟨rfl, H2.out.2.2⟩
            · go_wp2_with fail
              go_roundw
              case rel => exact ⟨j + 1, p2, by omega, by go_num, H2.out.1, by rw [hmx.out]; exact H2.out.2.1, H2.out.2.2⟩
              case measure => simp [intOf] <;> omega
    · go_wp2_with fail
      go_ret
      exact ⟨rfl, B⟩
theorem meterPeaks_walk (a0 : Option Addr) (len0 cap0 : Nat) (z0 : List Int) (w : World) (w0 : BRow .i64 w a0 len0 cap0 z0) :
    Calls Try.prog 5 #[.slice a0 len0 cap0] w fun e w' => e = .returned (.bool true) ∧ Below w.heap.size w w' := by
  by_cases hp : 0 < len0
  · obtain ⟨b, off, rfl, hb, h⟩ := w0.nums hp
    exact peaks_some b off len0 cap0 (fun i => z0.getD i 0) w w0.len_le hb (fun i hi => (h i hi).1)
  · obtain rfl : len0 = 0 := by omega
    exact peaks_none a0 cap0 w

end Go.Proofs.Ytejjhenkhleibaa
