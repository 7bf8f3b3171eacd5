/- Layer 20: sets in a list; lawful. -/
import Derived.Test.YtiikebaehoobnaaDoorSil
import Derived.Test.YtiikebaehoobnaaDoorMid
import Derived.Test.YtiikebaehoobnaaDoorPck
namespace Go.Proofs.YtiikebaehoobnaaDoor
set_option maxRecDepth 100000
open Go.RowKit Go.Maps
set_option maxRecDepth 100000
/-- A set's cells; is it lawful? -/
def Ps.cs (p : Ps) : List Value := [.int .u32 (p.c : Nat), .int .i64 p.o, .int .i64 p.i, .int .i64 p.t, .int .u32 (p.n : Nat)]
def Ps.law (p : Ps) : Bool := decide (okP p.c p.o p.i p.t p.n)
/-- Sets in a list. -/
def PsRow (w : World) (a : Option Addr) (len : Nat) (P : Nat → Ps) : Prop := ∀ i, i < len → ∃ b off, a = some ⟨b, off, none⟩ ∧ w.rangeAt b (off + i * 5) (P i).cs
theorem PsRow.below {w w' : World} {a : Option Addr} {len : Nat} {P : Nat → Ps} (h : PsRow w a len P) (b : Below w.heap.size w w') : PsRow w' a len P := fun i hi => by
  obtain ⟨q, off, e, c⟩ := h i hi
  exact ⟨q, off, e, rangeB c b⟩
def allLaw (P : Nat → Ps) : Nat → Bool
  | 0 => true
  | n + 1 => allLaw P n && (P n).law
theorem allLaw_less {P : Nat → Ps} {n m : Nat} (h : allLaw P n = false) (hm : n ≤ m) : allLaw P m = false := by
  induction m with
  | zero =>
    obtain rfl : n = 0 := by omega
    exact h
  | succ m ih =>
    by_cases e : n = m + 1
    · subst e; exact h
    · simp [allLaw, ih (by omega)]
theorem allLaw_all {P : Nat → Ps} : ∀ {n : Nat}, allLaw P n = true → ∀ i, i < n → (P i).law = true
  | 0, _, i, hi => by omega
  | n + 1, h, i, hi => by
    simp only [allLaw, Bool.and_eq_true] at h
    by_cases e : i = n
    · subst e; exact h.2
    · exact allLaw_all h.1 i (by omega)
theorem size_par : (Tryd.prog.info? 63).map (·.size) = some 5 := by kernel_rfl
theorem pcheck (p : Ps) (w : World) : Calls Tryd.prog 67 #[.agg #[.int .u32 (p.c : Nat), .int .i64 p.o, .int .i64 p.i, .int .i64 p.t, .int .u32 (p.n : Nat)]] w fun e w' => e = .returned (.int .i64 (if p.law then 0 else 90)) ∧ Below w.heap.size w w' := by
  refine check_any p.c p.o p.i p.t p.n w _ ?_
  unfold Ps.law
  by_cases h : okP p.c p.o p.i p.t p.n
  · simp [h]
  · simp [h]
set_option maxHeartbeats 1000000 in
theorem plawful (a : Option Addr) (len cap : Nat) (P : Nat → Ps) (w : World) (hr : PsRow w a len P) (hlen : len ≤ 1000) : Calls Tryd.prog 45 #[.slice a len cap] w fun r w' => r = .returned (.bool (allLaw P len)) ∧ Below w.heap.size w w' := by
  have HW : Hid (PsRow w a len P) := hr
  clear hr
  go_enter Tryd.func45, Tryd.ntmps45
  go_wp2_with fail
  go_loopw [2, 4, 7, 8, 9, 10, 11, 12, 13, 14] (fun _ _ c _ _ _ _ _ _ _ wr => ∃ i : Nat, i ≤ len ∧ c = .int .i64 ((i : Nat) : Int) ∧ Hid (allLaw P i = true ∧ Below w.heap.size w wr)) (fun _ _ c _ _ _ _ _ _ _ _ => len - natV c)
  case atStart => exact ⟨0, by omega, rfl, rfl, Below.refl _ _⟩
  case round =>
    obtain ⟨i, hi, rfl, HI⟩ := hrel
    by_cases hlt : i < len
    rotate_left
    · obtain rfl : i = len := by omega
      have hlt' : ¬ ((i : Nat) : Int) < ((i : Nat) : Int) := by omega
      go_wp2_with fail
      go_ret
      exact ⟨by rw [HI.out.1] <;> rfl, HI.out.2⟩
    have hlt' : ((i : Nat) : Int) < ((len : Nat) : Int) := by omega
    have hw1 : IntKind.i64.wrap (((i : Nat) : Int) + 1) = ((i + 1 : Nat) : Int) := by rw [IntKind.wrap_i64]; omega
    obtain ⟨q, off, ea, cc⟩ := (PsRow.below HW.out HI.out.2) i hlt
    subst ea
    obtain ⟨p, hP⟩ : ∃ y, P i = y := ⟨_, rfl⟩
    rw [hP] at cc
    have c0 : wr.cell? ⟨q, off + i * 5, none⟩ = some (.int .u32 (p.c : Nat)) := cc 0 _ rfl
    have c1 : wr.cell? ⟨q, off + i * 5 + 1, none⟩ = some (.int .i64 p.o) := cc 1 _ rfl
    have c2 : wr.cell? ⟨q, off + i * 5 + 2, none⟩ = some (.int .i64 p.i) := cc 2 _ rfl
    have c3 : wr.cell? ⟨q, off + i * 5 + 3, none⟩ = some (.int .i64 p.t) := cc 3 _ rfl
    have c4 : wr.cell? ⟨q, off + i * 5 + 4, none⟩ = some (.int .u32 (p.n : Nat)) := cc 4 _ rfl
    have HP : Hid (_) := hP
    clear cc hP
    have hC := pcheck p (wr.alloc (.cells #[.int .u32 (p.c : Nat), .int .i64 p.o, .int .i64 p.i, .int .i64 p.t, .int .u32 (p.n : Nat)] 63))
    have bA := belA HI.out.2 (.cells #[.int .u32 (p.c : Nat), .int .i64 p.o, .int .i64 p.i, .int .i64 p.t, .int .u32 (p.n : Nat)] 63)
    have HB : Hid (_) := bA
    clear bA
    cases hl : p.law with
    | true =>
      rw [hl] at hC
      have HN : Hid (allLaw P (i + 1) = true) := by
        show allLaw P (i + 1) = true
        simp [allLaw, HI.out.1, HP.out, hl]
      simp only [if_true] at hC
      clear hl
      go_wp2_with fail
      refine hC.mono ?_
      rintro r w2 ⟨rfl, b2⟩
      have HF : Hid (allLaw P (i + 1) = true ∧ Below w.heap.size w w2) := ⟨HN.out, HB.out.trans (b2.mono HB.out.size)⟩
      clear hC b2 c0 c1 c2 c3 c4
      go_wp2_with fail
      go_roundw
      case rel => exact ⟨i + 1, by omega, by first | rfl | go_num, HF⟩
      case measure => simp [natV] <;> omega
    | false =>
      rw [hl] at hC
      have HN : Hid (allLaw P len = false) := allLaw_less (n := i + 1) (by simp [allLaw, HP.out, hl]) (by omega)
      simp only [Bool.false_eq_true, if_false] at hC
      clear hl
      go_wp2_with fail
      refine hC.mono ?_
      rintro r w2 ⟨rfl, b2⟩
      have HF : Hid (Below w.heap.size w w2) := HB.out.trans (b2.mono HB.out.size)
      clear hC b2 c0 c1 c2 c3 c4
      go_wp2_with fail
      go_ret
      exact ⟨by rw [HN.out] <;> rfl, HF.out⟩
end Go.Proofs.YtiikebaehoobnaaDoor
