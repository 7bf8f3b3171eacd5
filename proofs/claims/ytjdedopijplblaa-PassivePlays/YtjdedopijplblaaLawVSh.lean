/- Layer 11: do both valves show the same? -/
import Derived.Test.YtjdedopijplblaaAw11
namespace Go.Proofs.Ytjdedopijplblaa
open Go.RowKit

theorem VV.outB {w : World} {M n : Nat} {s : Vs} {v : Value} (h : VV w M n s v) : ∀ i, i < n → vout s i < 256 := by
  intro i hi
  unfold vout
  split
  · rename_i ho
    rcases h with ⟨e, _⟩ | ⟨_, _, hb⟩
    · simp [von, e] at ho
    · exact hb i hi
  · show (0 : Nat) < 256
    omega
set_option maxRecDepth 100000 in
set_option maxHeartbeats 4000000 in
theorem vshows_any (b g b' M n : Nat) (s : Vs) (w : World) (V : VR w b g M n s) (R : RVR w b' M n s) :
    Calls Try.prog 10 #[.pointer (some ⟨b, 0, none⟩), .pointer (some ⟨b', 0, none⟩)] w fun e w' => e = .returned (.bool true) ∧ Off [] w w' := by
  obtain ⟨v, t, _, _, VV0⟩ := V.ex
  have hby := VV0.outB
  clear VV0
  go_enter Try.func10, Try.ntmps10
  go_wp2_with fail
  refine (vout_any b g M n s w V).mono ?_
  rintro e w1 ⟨v1, rfl, H1⟩
  have o1 : Off [] w w1 := Off.of_below H1.out.2
  obtain ⟨a1, c1, rfl, R1⟩ := own_row8 H1.out.1 hby
  have K1 : Hid (_) := And.intro (V.new_ o1) (And.intro (R.new_ o1) (And.intro o1 R1))
  clear V R o1 R1 H1
  go_wp2_with fail
  refine (rout_any b' M n s w1 K1.out.2.1).mono ?_
  rintro e w2 ⟨v2, rfl, H2⟩
  have o2 : Off [] w1 w2 := Off.of_below H2.out.2
  obtain ⟨a2, c2, rfl, R2⟩ := own_row8 H2.out.1 hby
  have V2 := K1.out.1.new_ o2
  have S2 := K1.out.2.1.new_ o2
  have q1 := fun j => vlat_any b g M n s (w2.drewN j) (V2.new_ (Off.drewN _ _ j))
  have q2 := fun j => vreq_any b g M n s (w2.drewN j) (V2.new_ (Off.drewN _ _ j))
  have q3 := fun j => rreq_any b' M n s (w2.drewN j) (S2.new_ (Off.drewN _ _ j))
  have k1 : ∀ j, (convert 29 9 (.slice a1 n c1)).run Try.prog (w2.drewN j) = .ok (.string (BA (vout s) n)) (w2.drewN j) := fun j => conv_any a1 n c1 _ _ ((K1.out.2.2.2.below H2.out.2).drewN j)
  have k2 : ∀ j, (convert 29 9 (.slice a2 n c2)).run Try.prog (w2.drewN j) = .ok (.string (BA (vout s) n)) (w2.drewN j) := fun j => conv_any a2 n c2 _ _ (R2.drewN j)
  obtain ⟨_, _, _, _, _, c4, _⟩ := S2.cells
  have O2 : Hid (_) := K1.out.2.2.1.trans o2
  generalize BA (vout s) n = X at *
  clear K1 o2 V2 S2 R2 H2
  go_wp2_with fail
  go_quiet (first | (go_at_call 13; exact Calls.quiet_of_same (q1 _)) | (go_at_call 18; exact Calls.quiet_of_same (q2 _)) | (go_at_call 27; exact Calls.quiet_of_same (q3 _)))
  go_wp2_with fail
  go_ret
  exact ⟨by simp, O2.out.trans (Off.drewN _ _ _)⟩

end Go.Proofs.Ytjdedopijplblaa
