/- Layer 20: the reader's number of any word; places of any kind. -/
import Derived.Test.YtiikebaehoobnaaDoorSnu
namespace Go.Proofs.YtiikebaehoobnaaDoor
set_option maxRecDepth 100000
open Go.RowKit Go.Maps
set_option maxRecDepth 100000
set_option linter.unusedVariables false
set_option maxHeartbeats 1000000 in
theorem pnumG (b g o n c : Nat) (x : Bool) (l : List UInt8) (hl : l.length ≤ 281474976710656) (w : World) (L : Lw w) (hb : b ∉ [2, 0, 3, 4]) (hLo : ∀ wx, Off [b] w wx → Lw wx) (h : RB w b (.slice (some ⟨g, o, none⟩) (n + 1) (c + 1)) x) (hw : w.cell? ⟨g, o, none⟩ = some (.string (tx l))) (hc : n ≤ c) (hc2 : c ≤ 9223372036854775807) : Calls Tryd.prog 59 #[.pointer (some ⟨b, 0, none⟩)] w fun r w' => r = .returned (.int .u32 ((nmV l : Nat) : Int)) ∧ RB w' b (.slice (some ⟨g, adv o c, none⟩) n c) (x || !nmO l) ∧ Off [b] w w' := by
  have h1 := pnext b g o n c x (tx l) w h hw hc hc2
  have h2 := fun wx (ho : Off [b] w wx) => pnumOf l hl wx (hLo wx ho)
  obtain ⟨X, hX⟩ : ∃ y, tx l = y := ⟨_, rfl⟩
  obtain ⟨V, hV⟩ : ∃ y, nmV l = y := ⟨_, rfl⟩
  obtain ⟨O, hO⟩ : ∃ y, nmO l = y := ⟨_, rfl⟩
  rw [hX] at h1 h2
  rw [hV, hO] at h2 ⊢
  clear hX hV hO h hw
  go_enter Tryd.func59, Tryd.ntmps59
  go_wp2_with fail
  refine h1.mono ?_
  rintro r w1 ⟨rfl, r1, o1⟩
  have h2' := h2 w1 o1
  have H1 : Hid (_) := And.intro r1 o1
  clear h1 r1 o1 h2
  go_wp2_with fail
  refine h2'.mono ?_
  rintro r w2 ⟨rfl, b2⟩
  have h3 := pexpect b _ x O w2 (RB.below H1.out.1 b2)
  have H2 : Hid (Off [b] w w2) := H1.out.2.trans (Off.of_below b2)
  clear h2' b2
  go_wp2_with fail
  refine h3.mono ?_
  rintro r w3 ⟨rfl, r3, o3⟩
  have H3 : Hid (_) := And.intro r3 (H2.out.trans o3)
  clear h3 r3 o3
  go_wp2_with fail
  go_ret
  exact ⟨rfl, H3.out.1, H3.out.2⟩
/-- How many words stand behind the first one, at least and at most. -/
def plL (k : Nat) : Nat := [0, 3, 1, 3, 5, 3, 2, 3, 2].getD k 0
def plM (k : Nat) : Nat := [0, 4, 1, 3, 5, 3, 2, 3, 2].getD k 0
theorem pplace1 (w : World) : Calls Tryd.prog 34 #[.int .i64 1] w fun r w' => r = .returned (.tuple #[.int .i64 3, .int .i64 4]) ∧ Below w.heap.size w w' := by
  have h1 := plast (m0 1) ⟨by decide, by decide, by decide, by decide, by decide, by decide, by decide⟩ none 0 w
  rw [show (m0 1).ns = [] from rfl] at h1
  have h2 := puses 1
  rw [show sided 1 = true from rfl] at h2
  go_enter Tryd.func34, Tryd.ntmps34
  go_wp2_with fail
  refine Calls.mono h1 ?_
  rintro r w1 ⟨a, c, rfl, q⟩
  have H1 : Hid (_) := q.out.2
  clear h1 q
  go_wp2_with fail
  refine (h2 _).mono ?_
  rintro r w2 ⟨rfl, hw2⟩
  rw [hw2]
  clear hw2 h2
  go_wp2_with fail
  go_ret2
  exact ⟨rfl, H1.out⟩
theorem pplace2 (w : World) : Calls Tryd.prog 34 #[.int .i64 2] w fun r w' => r = .returned (.tuple #[.int .i64 1, .int .i64 1]) ∧ Below w.heap.size w w' := by
  have h1 := plast (m0 2) ⟨by decide, by decide, by decide, by decide, by decide, by decide, by decide⟩ none 0 w
  rw [show (m0 2).ns = [] from rfl] at h1
  have h2 := puses 2
  rw [show sided 2 = false from rfl] at h2
  go_enter Tryd.func34, Tryd.ntmps34
  go_wp2_with fail
  refine Calls.mono h1 ?_
  rintro r w1 ⟨a, c, rfl, q⟩
  have H1 : Hid (_) := q.out.2
  clear h1 q
  go_wp2_with fail
  refine (h2 _).mono ?_
  rintro r w2 ⟨rfl, hw2⟩
  rw [hw2]
  clear hw2 h2
  go_wp2_with fail
  go_ret2
  exact ⟨rfl, H1.out⟩
theorem pplace3 (w : World) : Calls Tryd.prog 34 #[.int .i64 3] w fun r w' => r = .returned (.tuple #[.int .i64 3, .int .i64 3]) ∧ Below w.heap.size w w' := by
  have h1 := plast (m0 3) ⟨by decide, by decide, by decide, by decide, by decide, by decide, by decide⟩ none 0 w
  rw [show (m0 3).ns = [0] from rfl] at h1
  have h2 := puses 3
  rw [show sided 3 = true from rfl] at h2
  go_enter Tryd.func34, Tryd.ntmps34
  go_wp2_with fail
  refine Calls.mono h1 ?_
  rintro r w1 ⟨a, c, rfl, q⟩
  have H1 : Hid (_) := q.out.2
  clear h1 q
  go_wp2_with fail
  refine (h2 _).mono ?_
  rintro r w2 ⟨rfl, hw2⟩
  rw [hw2]
  clear hw2 h2
  go_wp2_with fail
  go_ret2
  exact ⟨rfl, H1.out⟩
theorem pplace4 (w : World) : Calls Tryd.prog 34 #[.int .i64 4] w fun r w' => r = .returned (.tuple #[.int .i64 5, .int .i64 5]) ∧ Below w.heap.size w w' := by
  have h1 := plast (m0 4) ⟨by decide, by decide, by decide, by decide, by decide, by decide, by decide⟩ none 0 w
  rw [show (m0 4).ns = [0, 0, 0] from rfl] at h1
  have h2 := puses 4
  rw [show sided 4 = true from rfl] at h2
  go_enter Tryd.func34, Tryd.ntmps34
  go_wp2_with fail
  refine Calls.mono h1 ?_
  rintro r w1 ⟨a, c, rfl, q⟩
  have H1 : Hid (_) := q.out.2
  clear h1 q
  go_wp2_with fail
  refine (h2 _).mono ?_
  rintro r w2 ⟨rfl, hw2⟩
  rw [hw2]
  clear hw2 h2
  go_wp2_with fail
  go_ret2
  exact ⟨rfl, H1.out⟩
theorem pplace5 (w : World) : Calls Tryd.prog 34 #[.int .i64 5] w fun r w' => r = .returned (.tuple #[.int .i64 3, .int .i64 3]) ∧ Below w.heap.size w w' := by
  have h1 := plast (m0 5) ⟨by decide, by decide, by decide, by decide, by decide, by decide, by decide⟩ none 0 w
  rw [show (m0 5).ns = [0] from rfl] at h1
  have h2 := puses 5
  rw [show sided 5 = true from rfl] at h2
  go_enter Tryd.func34, Tryd.ntmps34
  go_wp2_with fail
  refine Calls.mono h1 ?_
  rintro r w1 ⟨a, c, rfl, q⟩
  have H1 : Hid (_) := q.out.2
  clear h1 q
  go_wp2_with fail
  refine (h2 _).mono ?_
  rintro r w2 ⟨rfl, hw2⟩
  rw [hw2]
  clear hw2 h2
  go_wp2_with fail
  go_ret2
  exact ⟨rfl, H1.out⟩
theorem pplace6 (w : World) : Calls Tryd.prog 34 #[.int .i64 6] w fun r w' => r = .returned (.tuple #[.int .i64 2, .int .i64 2]) ∧ Below w.heap.size w w' := by
  have h1 := plast (m0 6) ⟨by decide, by decide, by decide, by decide, by decide, by decide, by decide⟩ none 0 w
  rw [show (m0 6).ns = [] from rfl] at h1
  have h2 := puses 6
  rw [show sided 6 = true from rfl] at h2
  go_enter Tryd.func34, Tryd.ntmps34
  go_wp2_with fail
  refine Calls.mono h1 ?_
  rintro r w1 ⟨a, c, rfl, q⟩
  have H1 : Hid (_) := q.out.2
  clear h1 q
  go_wp2_with fail
  refine (h2 _).mono ?_
  rintro r w2 ⟨rfl, hw2⟩
  rw [hw2]
  clear hw2 h2
  go_wp2_with fail
  go_ret2
  exact ⟨rfl, H1.out⟩
theorem pplace7 (w : World) : Calls Tryd.prog 34 #[.int .i64 7] w fun r w' => r = .returned (.tuple #[.int .i64 3, .int .i64 3]) ∧ Below w.heap.size w w' := by
  have h1 := plast (m0 7) ⟨by decide, by decide, by decide, by decide, by decide, by decide, by decide⟩ none 0 w
  rw [show (m0 7).ns = [0] from rfl] at h1
  have h2 := puses 7
  rw [show sided 7 = true from rfl] at h2
  go_enter Tryd.func34, Tryd.ntmps34
  go_wp2_with fail
  refine Calls.mono h1 ?_
  rintro r w1 ⟨a, c, rfl, q⟩
  have H1 : Hid (_) := q.out.2
  clear h1 q
  go_wp2_with fail
  refine (h2 _).mono ?_
  rintro r w2 ⟨rfl, hw2⟩
  rw [hw2]
  clear hw2 h2
  go_wp2_with fail
  go_ret2
  exact ⟨rfl, H1.out⟩
theorem pplace8 (w : World) : Calls Tryd.prog 34 #[.int .i64 8] w fun r w' => r = .returned (.tuple #[.int .i64 2, .int .i64 2]) ∧ Below w.heap.size w w' := by
  have h1 := plast (m0 8) ⟨by decide, by decide, by decide, by decide, by decide, by decide, by decide⟩ none 0 w
  rw [show (m0 8).ns = [0] from rfl] at h1
  have h2 := puses 8
  rw [show sided 8 = false from rfl] at h2
  go_enter Tryd.func34, Tryd.ntmps34
  go_wp2_with fail
  refine Calls.mono h1 ?_
  rintro r w1 ⟨a, c, rfl, q⟩
  have H1 : Hid (_) := q.out.2
  clear h1 q
  go_wp2_with fail
  refine (h2 _).mono ?_
  rintro r w2 ⟨rfl, hw2⟩
  rw [hw2]
  clear hw2 h2
  go_wp2_with fail
  go_ret2
  exact ⟨rfl, H1.out⟩
theorem pplaces (k : Nat) (hk : 1 ≤ k ∧ k ≤ 8) (w : World) : Calls Tryd.prog 34 #[.int .i64 ((k : Nat) : Int)] w fun r w' => r = .returned (.tuple #[.int .i64 ((plL k : Nat) : Int), .int .i64 ((plM k : Nat) : Int)]) ∧ Below w.heap.size w w' := by
  have h : k = 1 ∨ k = 2 ∨ k = 3 ∨ k = 4 ∨ k = 5 ∨ k = 6 ∨ k = 7 ∨ k = 8 := by omega
  rcases h with rfl | rfl | rfl | rfl | rfl | rfl | rfl | rfl
  · exact pplace1 w
  · exact pplace2 w
  · exact pplace3 w
  · exact pplace4 w
  · exact pplace5 w
  · exact pplace6 w
  · exact pplace7 w
  · exact pplace8 w
end Go.Proofs.YtiikebaehoobnaaDoor
