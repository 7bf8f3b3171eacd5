/- Layer 20: a move; which numbers it uses, and why it has no line. -/
import Derived.Test.YtiikebaehoobnaaDoorSd
namespace Go.Proofs.YtiikebaehoobnaaDoor
set_option maxRecDepth 100000
open Go.RowKit Go.Maps
set_option maxRecDepth 100000
/-- A move. -/
structure Mv where
  k : Int
  c : Int
  s : Int
  f : Int
  a : Int
  w : Nat
  n : Int
  h : Bool
  l : Nat
  b : Nat → Nat
/-- Its cells, its data at d. -/
def Mv.cs (m : Mv) (d : Option Addr) (e : Nat) : Array Value := #[.int .i64 m.k, .int .i64 m.c, .int .i64 m.s, .int .i64 m.f, .int .i64 m.a, .int .u32 (m.w : Nat), .int .i64 m.n, .bool m.h, .slice d m.l e]
structure Mv.Ok (m : Mv) : Prop where
  k : -9223372036854775808 ≤ m.k ∧ m.k ≤ 9223372036854775807
  c : -9223372036854775808 ≤ m.c ∧ m.c ≤ 9223372036854775807
  s : -9223372036854775808 ≤ m.s ∧ m.s ≤ 9223372036854775807
  f : -9223372036854775808 ≤ m.f ∧ m.f ≤ 9223372036854775807
  a : -9223372036854775808 ≤ m.a ∧ m.a ≤ 9223372036854775807
  w : m.w < 4294967296
  n : -9223372036854775808 ≤ m.n ∧ m.n ≤ 9223372036854775807
/-- The numbers behind the connection and the side. -/
def Mv.ns (m : Mv) : List Int := if m.k = 3 then [m.f] else if m.k = 4 then [m.f, m.a, ((m.w : Nat) : Int)] else if m.k = 5 ∨ m.k = 7 ∨ m.k = 8 then [m.n] else []
def fitI (z : Int) : Bool := decide (0 ≤ z) && decide (z < 4294967296)
def sided (k : Int) : Bool := (k != 2) && (k != 8)
/-- Why it has no line; 0. -/
def Mv.err (m : Mv) : Int := if fitI m.c = false ∨ m.ns.all fitI = false then 2 else if sided m.k = true ∧ m.s ≠ 1 ∧ m.s ≠ 2 then 172 else if m.k = 1 ∧ 8 < m.l then 45 else if m.k < 1 ∨ 8 < m.k then 170 else 0
theorem Mv.ns_ok {m : Mv} (h : m.Ok) : ∀ z ∈ m.ns, -9223372036854775808 ≤ z ∧ z ≤ 9223372036854775807 := by
  intro z hz
  have hw := h.w
  unfold Mv.ns at hz
  repeat' split at hz
  all_goals simp at hz
  · subst hz; exact h.f
  · rcases hz with rfl | rfl | rfl
    · exact h.f
    · exact h.a
    · omega
  · subst hz; exact h.n
theorem Mv.ns_len (m : Mv) : m.ns.length ≤ 3 := by
  unfold Mv.ns
  repeat' split
  all_goals simp
/-- Numbers of a list as a function. -/
def zf (l : List Int) (i : Nat) : Int := l.getD i 0
theorem puses (k : Int) (w : World) : Calls Tryd.prog 52 #[.int .i64 k] w fun r w' => r = .returned (.bool (sided k)) ∧ w' = w := by
  unfold sided
  by_cases h2 : k = 2
  · subst h2
    go_enter Tryd.func52, Tryd.ntmps52
    go_wp2_with fail
    go_ret
    exact ⟨rfl, rfl⟩
  · have g2 : (k != 2) = true := by simpa using h2
    have g2' : ¬ k = 2 := h2
    rw [g2]
    go_enter Tryd.func52, Tryd.ntmps52
    go_wp2_with fail
    go_ret
    exact ⟨rfl, rfl⟩
theorem pside (s : Int) (w : World) : Calls Tryd.prog 53 #[.int .i64 s] w fun r w' => r = .returned (.string (tx (if s = 1 then [104] else [100]))) ∧ w' = w := by
  by_cases h : s = 1
  · subst h
    go_enter Tryd.func53, Tryd.ntmps53
    go_wp2_with fail
    go_ret
    exact ⟨rfl, rfl⟩
  · rw [if_neg h]
    have g : (s == 1) = false := by simpa using h
    go_enter Tryd.func53, Tryd.ntmps53
    go_wp2_with fail
    go_ret
    exact ⟨rfl, rfl⟩
theorem pfit (l : List Int) (a : Option Addr) (cap : Nat) (w : World) (hr : NRow w a l.length (zf l)) (hl : l.length ≤ 100) : Calls Tryd.prog 70 #[.slice a l.length cap] w fun r w' => r = .returned (.bool (l.all fitI)) ∧ w' = w := by
  obtain ⟨n, hn⟩ : ∃ n, l.length = n := ⟨_, rfl⟩
  rw [hn] at hr ⊢
  have HN : Hid (l.length = n) := hn
  have hn100 : n ≤ 100 := by omega
  clear hn hl
  go_enter Tryd.func70, Tryd.ntmps70
  go_wp2_with fail
  go_loop [2, 4, 7, 8, 9, 10, 11, 12, 13, 14, 15, 16, 17] (fun _ _ c _ _ _ _ _ _ _ _ _ _ => ∃ i : Nat, i ≤ n ∧ c = .int .i64 ((i : Nat) : Int) ∧ Hid (∀ j, j < i → fitI (zf l j) = true)) (fun _ _ c _ _ _ _ _ _ _ _ _ _ => n - natV c)
  case atStart => exact ⟨0, by omega, rfl, fun j hj => by omega⟩
  case round =>
    obtain ⟨i, hi, rfl, HI⟩ := hrel
    by_cases hlt : i < n
    · have hlt' : ((i : Nat) : Int) < ((n : Nat) : Int) := by omega
      obtain ⟨q, off, ea, c0⟩ := hr i hlt
      subst ea
      obtain ⟨z, hz⟩ : ∃ z, zf l i = z := ⟨_, rfl⟩
      rw [hz] at c0
      have hw1 : IntKind.i64.wrap (((i : Nat) : Int) + 1) = ((i + 1 : Nat) : Int) := by rw [IntKind.wrap_i64]; omega
      have bad : fitI z = false → Hid (l.all fitI = false) := fun h => by
        refine Bool.eq_false_iff.2 (fun q => ?_)
        have hm : z ∈ l := by
          rw [← hz]
          unfold zf
          rw [List.getD_eq_getElem?_getD, List.getElem?_eq_getElem (by have := HN.out; omega)]
          exact List.getElem_mem _
        have := List.all_eq_true.1 q z hm
        rw [h] at this
        cases this
      have good : fitI z = true → Hid (∀ j, j < i + 1 → fitI (zf l j) = true) := fun h j hj => by
        by_cases e : j = i
        · subst e; rw [hz]; exact h
        · exact HI.out j (by omega)
      clear hz
      by_cases h0 : z < 0
      · have HB := bad (by unfold fitI; rw [decide_eq_false (by omega)]; rfl)
        clear bad good
        go_wp2_with fail
        go_ret
        exact ⟨by rw [HB.out]; rfl, rfl⟩
      · by_cases h4 : 4294967296 ≤ z
        · have HB := bad (by unfold fitI; rw [decide_eq_false (p := z < 4294967296) (by omega), Bool.and_false])
          have h4' : z ≥ 4294967296 := h4
          clear bad good
          go_wp2_with fail
          go_ret
          exact ⟨by rw [HB.out]; rfl, rfl⟩
        · have HG := good (by unfold fitI; rw [decide_eq_true (p := 0 ≤ z) (by omega), decide_eq_true (p := z < 4294967296) (by omega)]; rfl)
          have h4' : ¬ z ≥ 4294967296 := h4
          clear bad good
          go_wp2_with fail
          refine ⟨⟨i + 1, by omega, by first | rfl | go_num, HG⟩, ?_⟩
          simp [natV] <;> omega
    · obtain rfl : i = n := by omega
      have hlt' : ¬ ((i : Nat) : Int) < ((i : Nat) : Int) := by omega
      have e : Hid (l.all fitI = true) := by
        refine List.all_eq_true.2 (fun z hz => ?_)
        obtain ⟨j, hj, he⟩ := List.getElem_of_mem hz
        have := HI.out j (by have := HN.out; omega)
        unfold zf at this
        rw [List.getD_eq_getElem?_getD, List.getElem?_eq_getElem hj] at this
        rw [← he]
        exact this
      clear HI
      go_wp2_with fail
      go_ret
      exact ⟨by rw [e.out]; rfl, rfl⟩
end Go.Proofs.YtiikebaehoobnaaDoor
