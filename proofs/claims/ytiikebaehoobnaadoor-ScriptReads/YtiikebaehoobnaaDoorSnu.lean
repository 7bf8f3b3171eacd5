/- Layer 20: numberOf of any word. -/
import Derived.Test.YtiikebaehoobnaaDoorSfu
import Derived.Lib.ParseIntBCases
namespace Go.Proofs.YtiikebaehoobnaaDoor
set_option maxRecDepth 100000
open Go.RowKit Go.Maps
set_option maxRecDepth 100000
/-- What a word writes, and whether it writes a number. -/
def nmV (l : List UInt8) : Nat := match Lib.parseUintB 32 l with | .ok u => u | .«syntax» => 0 | .range => 4294967295
def nmO (l : List UInt8) : Bool := match Lib.parseUintB 32 l with | .ok u => Lib.decDigits u == l | .«syntax» => false | .range => false
theorem nmV_lt (l : List UInt8) : nmV l < 4294967296 := by
  unfold nmV
  cases h : Lib.parseUintB 32 l with
  | ok u =>
    have := Lib.parseUintB_le h
    show u < _
    omega
  | «syntax» => decide
  | range => decide
set_option maxHeartbeats 1000000 in
theorem pnumOf (l : List UInt8) (hl : l.length ≤ 281474976710656) (w : World) (L : Lw w) : Calls Tryd.prog 73 #[.string (tx l)] w fun r w' => r = .returned (.tuple #[.int .u32 ((nmV l : Nat) : Int), .bool (nmO l)]) ∧ Below w.heap.size w w' := by
  have ht : (tx l).data.toList = l := by simp [tx]
  have hs : (tx l).size ≤ 281474976710656 := by rw [tx_size]; exact hl
  obtain ⟨V, hV⟩ : ∃ x, nmV l = x := ⟨_, rfl⟩
  obtain ⟨O, hO⟩ : ∃ x, nmO l = x := ⟨_, rfl⟩
  have hv := nmV_lt l
  rw [hV] at hv
  rw [hV, hO]
  have q : IntKind.u32.wrap ((V : Nat) : Int) = ((V : Nat) : Int) := by rw [IntKind.wrap_u32]; omega
  cases h : Lib.parseUintB 32 l with
  | ok u =>
    have eV : u = V := by rw [← hV]; unfold nmV; rw [h]
    subst eV
    have hP := Tryd.strconv_ParseUint_10_at32_ok (tx l) (by omega) u (by rw [ht]; exact h) w
    have hF := fun wx (b : Below w.heap.size w wx) => pfmt u (by omega) wx (L.below b)
    have eO : ((tx (Lib.decDigits u)).toList == (tx l).toList) = O := by rw [tx_list, tx_list, ← hO]; unfold nmO; rw [h]
    obtain ⟨D, hD⟩ : ∃ x, tx (Lib.decDigits u) = x := ⟨_, rfl⟩
    obtain ⟨X, hX⟩ : ∃ x, tx l = x := ⟨_, rfl⟩
    rw [hD, hX] at eO
    rw [hX] at hP ⊢
    rw [hD] at hF
    clear hX hD ht hs hV hO h hl
    go_enter Tryd.func73, Tryd.ntmps73
    go_wp2_with fail
    refine hP.mono ?_
    rintro r w' ⟨rfl, hw⟩
    have bw : Below w.heap.size w w' := by
      rcases hw with rfl | rfl
      · exact Below.refl _ _
      · exact Joins.below_bytesWorld _ _ _ _ (Nat.le_refl _)
    have hF' := hF w' bw
    have HB : Hid (_) := bw
    clear hw hP bw hF
    go_wp2_with fail
    refine hF'.mono ?_
    rintro r w2 ⟨rfl, b2⟩
    have H2 : Hid (_) := b2
    clear hF' b2
    go_wp2_with fail
    go_ret2
    exact ⟨rfl, belTS H2.out HB.out⟩
  | «syntax» =>
    have eV : V = 0 := by rw [← hV]; unfold nmV; rw [h]
    have eO : O = false := by rw [← hO]; unfold nmO; rw [h]
    subst eV
    subst eO
    obtain ⟨tp, p, hvar⟩ := L.es
    have hP := Tryd.strconv_ParseUint_10_at32_syntax_var (tx l) hs (by rw [ht]; exact h) tp p w hvar
    obtain ⟨X, hX⟩ : ∃ x, tx l = x := ⟨_, rfl⟩
    rw [hX] at hP ⊢
    clear hX ht hs hV hO h hl L hvar
    go_enter Tryd.func73, Tryd.ntmps73
    go_wp2_with fail
    refine hP.mono ?_
    rintro r w' ⟨N, rfl, _, _, bw⟩
    have HB : Hid (_) := bw
    clear hP bw
    go_wp2_with fail
    go_ret2
    exact ⟨rfl, HB.out⟩
  | range =>
    have eV : V = 4294967295 := by rw [← hV]; unfold nmV; rw [h]
    have eO : O = false := by rw [← hO]; unfold nmO; rw [h]
    subst eV
    subst eO
    obtain ⟨tp, p, hvar⟩ := L.er
    have hP := Tryd.strconv_ParseUint_10_at32_range_var (tx l) hs (by rw [ht]; exact h) tp p w hvar
    obtain ⟨X, hX⟩ : ∃ x, tx l = x := ⟨_, rfl⟩
    rw [hX] at hP ⊢
    clear hX ht hs hV hO h hl L hvar
    go_enter Tryd.func73, Tryd.ntmps73
    go_wp2_with fail
    refine hP.mono ?_
    rintro r w' ⟨N, rfl, _, _, bw⟩
    have HB : Hid (_) := bw
    clear hP bw
    go_wp2_with fail
    go_ret2
    exact ⟨rfl, HB.out⟩
end Go.Proofs.YtiikebaehoobnaaDoor
