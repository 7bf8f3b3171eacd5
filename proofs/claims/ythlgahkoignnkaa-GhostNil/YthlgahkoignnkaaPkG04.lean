/- Part 5 of the texts on which the proof rests: contracts of Go functions. -/
import Derived.Test.YthlgahkoignnkaaPkG03
namespace Go.Proofs.Ythlgahkoignnkaa
open Go.RowKit
def natG : Value → Nat
  | .int _ x => x.toNat
  | _ => 0
structure Co where
  h : En
  d : En
  s : Nat
structure CoW (w : World) (g p : Nat) (c : Co) : Prop where
  h : EnW w g p c.h
  d : EnW w g (p + 9) c.d
  s : w.cell? ⟨g, p + 18, none⟩ = some (.int .u32 (c.s : Nat))
def Co.at_ (c : Co) (s : Int) : En := if s = 1 then c.h else c.d
def atP (p : Nat) (s : Int) : Nat := if s = 1 then p else p + 9
def Co.put (c : Co) (s : Int) (e : En) : Co := if s = 1 then { c with h := e } else { c with d := e }
theorem CoW.at_ {w : World} {g p : Nat} {c : Co} (h : CoW w g p c) (s : Int) : EnW w g (atP p s) (c.at_ s) := by
  unfold atP Co.at_
  split
  · exact h.h
  · exact h.d
theorem CoW.lt {w : World} {g p : Nat} {c : Co} (h : CoW w g p c) : g < w.heap.size := h.h.lt
theorem CoW.keep {w w' : World} {g p p' q' : Nat} {c : Co} (h : CoW w g p c) (t : Tn w w' g p' q') (hp : p + 19 ≤ p' ∨ q' ≤ p) : CoW w' g p c :=
  ⟨h.h.keep t (by omega), h.d.keep t (by omega), (t.oth _ (by omega)).trans h.s⟩
theorem CoW.below {w w' : World} {g p : Nat} {c : Co} (h : CoW w g p c) (b : Below w.heap.size w w') : CoW w' g p c := h.keep (Tn.of_below 0 0 b h.lt) (.inr (by omega))
theorem CoW.put {w w' : World} {g p : Nat} {c : Co} (h : CoW w g p c) (s : Int) {e : En} (t : Tn w w' g (atP p s) (atP p s + 9)) (he : EnW w' g (atP p s) e) : CoW w' g p (c.put s e) ∧ Tn w w' g p (p + 19) := by
  unfold atP at *
  unfold Co.put
  split
  · rename_i hs
    rw [if_pos hs] at t he
    exact ⟨⟨he, h.d.keep t (by omega), (t.oth _ (by omega)).trans h.s⟩, t.wide (by omega) (by omega)⟩
  · rename_i hs
    rw [if_neg hs] at t he
    exact ⟨⟨h.h.keep t (by omega), he, (t.oth _ (by omega)).trans h.s⟩, t.wide (by omega) (by omega)⟩
section
variable (g p : Nat) (c : Co) (w : World)
theorem creset (s : Int) (h : CoW w g p c) :
    Calls Try.prog 33 #[.pointer (some ⟨g, p, none⟩), .int .i64 s] w fun r w' => r = .returned (.tuple #[]) ∧ Hid (Tn w w' g (atP p s) (atP p s + 9) ∧ EnW w' g (atP p s) ((c.at_ s).rst s)) := by
  have hA := cat g p w s
  have hE := h.at_ s
  have HE : Hid (_) := hE
  obtain ⟨c0, c1, c2, c3, c4, c5, c6, c7, c8, fz⟩ := hE
  clear h
  unfold En.rst
  rw [show (if s = 1 then p else p + 9) = atP p s from rfl] at hA
  generalize atP p s = q at *
  generalize c.at_ s = e at *
  by_cases hs : s = 1
  · rw [if_pos hs]
    subst hs
    go_enter Try.func33, Try.ntmps33
    go_wp2_with (go_at_call 27; refine hA.mono ?_; rintro r w' ⟨rfl, hw⟩; have hw := hw.symm; subst hw)
    go_end0
    exact ⟨rfl, ((Tn.set _ g _ _ _ _ (by omega) (by omega)).trans ((Tn.set _ g _ _ _ _ (by omega) (by omega)).trans ((Tn.set _ g _ _ _ _ (by omega) (by omega)).trans ((Tn.set _ g _ _ _ _ (by omega) (by omega)).trans ((Tn.set _ g _ _ _ _ (by omega) (by omega)).trans ((Tn.set _ g _ _ _ _ (by omega) (by omega)).trans ((Tn.set _ g _ _ _ _ (by omega) (by omega)).trans (Tn.set _ g _ _ _ _ (by omega) (by omega))))))))), (((((((HE.out.s4 _).s5 0).s6 0).s7 false).s8 false).s1 false).s2 0).s3 0⟩
  · rw [if_neg hs]
    have hsb : (s == 1) = false := by simpa using hs
    go_enter Try.func33, Try.ntmps33
    go_wp2_with (go_at_call 27; refine hA.mono ?_; rintro r w' ⟨rfl, hw⟩; have hw := hw.symm; subst hw)
    go_end0
    exact ⟨rfl, ((Tn.set _ g _ _ _ _ (by omega) (by omega)).trans ((Tn.set _ g _ _ _ _ (by omega) (by omega)).trans ((Tn.set _ g _ _ _ _ (by omega) (by omega)).trans ((Tn.set _ g _ _ _ _ (by omega) (by omega)).trans (Tn.set _ g _ _ _ _ (by omega) (by omega)))))), ((((HE.out.s4 _).s5 0).s6 0).s7 false).s8 false⟩
end
def sfe (n : Nat) (b : Nat → Nat) : Bool := decide (∀ i, i < n → b i = 0)
theorem gsafe (a : Option Addr) (n cap : Nat) (b : Nat → Nat) (w : World) (hr : Row8 w a n cap b) (hn : n ≤ 140737488351232) :
    Calls Try.prog 43 #[.slice a n cap] w fun r w' => r = .returned (.bool (sfe n b)) ∧ w' = w := by
  go_enter Try.func43, Try.ntmps43
  go_wp2_with fail
  go_loopw [4, 7, 8, 9, 10, 11, 12, 13] (fun _ c _ _ _ _ _ _ wr => ∃ i : Nat, i ≤ n ∧ c = .int .i64 ((i : Nat) : Int) ∧ wr = w ∧ ∀ j, j < i → b j = 0) (fun _ c _ _ _ _ _ _ _ => n - natG c)
  case atStart => exact ⟨0, by omega, rfl, rfl, by intro j hj; omega⟩
  case round =>
    obtain ⟨i, hi, rfl, rfl, hz⟩ := hrel
    by_cases hlt : i < n
    · have hlt' : (i : Int) < (n : Int) := by omega
      cases a with
      | none => have := (hr.nil rfl).1; omega
      | some x =>
        have hc := hr.src x rfl i hlt
        by_cases h0 : b i = 0
        · have hc : wr.cell? (x.add i) = some (.int .u8 0) := by rw [hc, h0]; rfl
          go_wp2_with fail
          go_roundw
          case rel => exact ⟨i + 1, by omega, by go_num, by first | rfl | trivial, fun j hj => by rcases Nat.lt_succ_iff_lt_or_eq.1 hj with h | h; exact hz j h; rw [h]; exact h0⟩
          case measure => simp [natG] <;> omega
        · have h0' : (((b i : Nat) : Int) != 0) = true := by simp; omega
          go_wp2_with fail
          go_ret
          exact ⟨by unfold sfe; simp; exact ⟨i, hlt, h0⟩, rfl⟩
    · obtain rfl : i = n := by omega
      have hlt' : ¬ (i : Int) < (i : Int) := by omega
      go_wp2_with fail
      go_ret
      exact ⟨by unfold sfe; simp; exact hz, rfl⟩
end Go.Proofs.Ythlgahkoignnkaa
namespace Go.Proofs.Ythlgahkoignnkaa
open Go.RowKit
def faB (f : Fa) (a : Option Addr) (cap : Nat) : Obj := .cells #[.int .i64 f.k, .int .i64 f.c, .int .i64 f.s, .int .u32 (f.ss : Nat), .int .u32 (f.nn : Nat), .bool f.on, .int .i64 f.cd, .slice a f.n cap] 43
def Co.may (c : Co) (f : Fa) : Bool := if (c.at_ f.s).v.toList.isEmpty = true ∨ f.x.toList ≠ (c.at_ f.s).v.toList then false else decide (f.s = 1) || decide ((c.at_ f.s).ls = c.s)
section
variable (g p : Nat) (c : Co) (w : World)
set_option maxHeartbeats 4000000 in
theorem cmay (f : Fa) (a : Option Addr) (cap : Nat) (h : CoW w g p c) (hr : Row8 w a f.n cap f.b) :
    Calls Try.prog 42 #[.pointer (some ⟨g, p, none⟩), .agg (faC f a cap)] w fun r w' => r = .returned (.bool (c.may f)) ∧ Below w.heap.size w w' := by
  unfold faC
  have b1 : Below w.heap.size w (w.alloc (.cells #[.int .i64 f.k, .int .i64 f.c, .int .i64 f.s, .int .u32 (f.ss : Nat), .int .u32 (f.nn : Nat), .bool f.on, .int .i64 f.cd, .slice a f.n cap] 43)) := (Below.refl _ _).alloc (Nat.le_refl _) _
  have hk : (w.alloc (.cells #[.int .i64 f.k, .int .i64 f.c, .int .i64 f.s, .int .u32 (f.ss : Nat), .int .u32 (f.nn : Nat), .bool f.on, .int .i64 f.cd, .slice a f.n cap] 43)).heap[w.heap.size]? = _ := heap_alloc_new w _
  have hA := fun wx => cat g p wx f.s
  rw [show (if f.s = 1 then p else p + 9) = atP p f.s from rfl] at hA
  have h1 := h.below b1
  have hE := h1.at_ f.s
  have hS := h1.s
  obtain ⟨c0, c1, c2, c3, c4, c5, c6, c7, c8, fz⟩ := hE
  have hq := fun n => conv_any a f.n cap f.b _ (hr.below (belowN b1 n))
  rw [show BA f.b f.n = f.x from rfl] at hq
  unfold Co.may
  have HB : Hid (_) := b1
  clear h h1 hr b1
  generalize c.at_ f.s = e at *
  generalize f.x = X at *
  generalize atP p f.s = q at *
  clear hk
  cases h1 : e.v.toList.isEmpty
  · by_cases h2 : X.toList = e.v.toList
    · rw [if_neg (by simp [h2])]
      by_cases h3 : f.s = 1
      · have h3b : (f.s == 1) = true := by simp [h3]
        have H3 : Hid (f.s = 1) := h3
        clear h3
        go_enter Try.func42, Try.ntmps42
        go_wp2_with (go_at_call 27; refine (hA _).mono ?_; rintro r w' ⟨rfl, hw⟩; have hw := hw.symm; subst hw)
        go_quiet (fail)
        go_wp2_with fail
        go_quiet (fail)
        go_wp2_with fail
        go_ret
        exact ⟨by simp [H3.out], belowN (belowN HB.out _) _⟩
      · have h3b : (f.s == 1) = false := by simp [h3]
        have h4 : ((e.ls : Int) == (c.s : Int)) = decide (e.ls = c.s) := by
          by_cases h : e.ls = c.s
          · simp [h]
          · simp [h]; omega
        go_enter Try.func42, Try.ntmps42
        go_wp2_with (go_at_call 27; refine (hA _).mono ?_; rintro r w' ⟨rfl, hw⟩; have hw := hw.symm; subst hw)
        go_quiet (fail)
        go_wp2_with fail
        go_quiet (fail)
        go_wp2_with fail
        go_ret
        exact ⟨by simp [h3], belowN (belowN HB.out _) _⟩
    · rw [if_pos (.inr h2)]
      have h2' : (X.toList == e.v.toList) = false := by simp [h2]
      go_enter Try.func42, Try.ntmps42
      go_wp2_with (go_at_call 27; refine (hA _).mono ?_; rintro r w' ⟨rfl, hw⟩; have hw := hw.symm; subst hw)
      go_quiet (fail)
      go_wp2_with fail
      go_ret
      exact ⟨rfl, belowN HB.out _⟩
  · rw [if_pos (.inl rfl)]
    go_enter Try.func42, Try.ntmps42
    go_wp2_with (go_at_call 27; refine (hA _).mono ?_; rintro r w' ⟨rfl, hw⟩; have hw := hw.symm; subst hw)
    go_quiet (fail)
    go_wp2_with fail
    go_ret
    exact ⟨rfl, belowN HB.out _⟩
end
end Go.Proofs.Ythlgahkoignnkaa
