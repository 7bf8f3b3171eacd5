/- Layer 20: what words read as. (gensw1.py) -/
import Derived.Test.YtiikebaehoobnaaDoorSv10
namespace Go.Proofs.YtiikebaehoobnaaDoor
set_option maxRecDepth 100000
open Go.RowKit Go.Maps
set_option maxRecDepth 100000
set_option linter.unusedVariables false
/-- The move of nothing. -/
def Mv.z (k : Int) : Mv := ⟨k, 0, 0, 0, 0, 0, 0, false, 0, fun _ => 0⟩
/-- Is the word what a letter asks for? -/
def lwO (c : Nat) (l : List UInt8) : Bool := if c = 115 then (l == [104]) || (l == [100]) else if c = 120 then dtO l else if c = 104 then l == [104, 111, 108, 100] else vlO l
/-- A move with a word put in its letter's place. -/
def Mv.put (m : Mv) (c : Nat) (l : List UInt8) : Mv := if c = 99 then { m with c := ((vlV l : Nat) : Int) } else if c = 102 then { m with f := ((vlV l : Nat) : Int) } else if c = 97 then { m with a := ((vlV l : Nat) : Int) } else if c = 119 then { m with w := vlV l } else if c = 110 then { m with n := ((vlV l : Nat) : Int) } else if c = 115 then { m with s := if l = [100] then 2 else 1 } else if c = 120 then { m with l := dtN l, b := dtB l } else if c = 104 then { m with h := true } else m
def ltr (F : List UInt8) (i : Nat) : Nat := (F.getD i 0).toNat
def mvF (F : List UInt8) (L : Nat → List UInt8) (m : Mv) : Nat → Mv
  | 0 => m
  | i + 1 => (mvF F L m i).put (ltr F i) (L i)
def okF (F : List UInt8) (L : Nat → List UInt8) : Nat → Bool
  | 0 => true
  | i + 1 => okF F L i && lwO (ltr F i) (L i)
theorem okF_no {F : List UInt8} {L : Nat → List UInt8} : ∀ (n i : Nat), i < n → lwO (ltr F i) (L i) = false → okF F L n = false
  | n + 1, i, h, hw => by
    unfold okF
    by_cases e : i = n
    · subst e
      rw [hw, Bool.and_false]
    · rw [okF_no n i (by omega) hw, Bool.false_and]
/-- Why words are no move; 0. -/
def rdEr (n : Nat) (L : Nat → List UInt8) : Int := if n = 0 then 202 else if fmK (L 0) = 0 then 200 else if n - 1 < plL (fmK (L 0)) then 202 else if plM (fmK (L 0)) < n - 1 then 201 else if okF (fmF (fmK (L 0))) (fun i => L (i + 1)) (n - 1) = true then 0 else 203
/-- The move that they write. -/
def rdM (n : Nat) (L : Nat → List UInt8) : Mv := if rdEr n L = 0 then mvF (fmF (fmK (L 0))) (fun i => L (i + 1)) (Mv.z ((fmK (L 0) : Nat) : Int)) (n - 1) else Mv.z 0
theorem vlV_lt (l : List UInt8) : vlV l < 4294967296 := by
  unfold vlV
  split
  · rename_i h
    unfold vlO at h
    simp only [Bool.and_eq_true, decide_eq_true_eq] at h
    omega
  · omega
theorem fmF_len (k : Nat) (hk : k ≤ 8) : (fmF k).length = plM k := by
  have : ∀ k : Fin 9, (fmF k.val).length = plM k.val := by decide +kernel
  exact this ⟨k, by omega⟩
theorem fmF_ltr (k j : Nat) (hk : k ≤ 8) (hj : j < (fmF k).length) : ltr (fmF k) j = 99 ∨ ltr (fmF k) j = 102 ∨ ltr (fmF k) j = 97 ∨ ltr (fmF k) j = 119 ∨ ltr (fmF k) j = 110 ∨ ltr (fmF k) j = 115 ∨ ltr (fmF k) j = 120 ∨ ltr (fmF k) j = 104 := by
  have q : ∀ k : Fin 9, ∀ j : Fin 6, j.val < (fmF k.val).length → (ltr (fmF k.val) j.val = 99 ∨ ltr (fmF k.val) j.val = 102 ∨ ltr (fmF k.val) j.val = 97 ∨ ltr (fmF k.val) j.val = 119 ∨ ltr (fmF k.val) j.val = 110 ∨ ltr (fmF k.val) j.val = 115 ∨ ltr (fmF k.val) j.val = 120 ∨ ltr (fmF k.val) j.val = 104) := by decide +kernel
  have h5 : ∀ k : Fin 9, (fmF k.val).length ≤ 5 := by decide +kernel
  have := h5 ⟨k, by omega⟩
  simp only at this
  exact q ⟨k, by omega⟩ ⟨j, by omega⟩ hj
/-- What Read leaves. -/
def RdP (m : Mv) (e : Int) (w : World) (r : Ending) (w' : World) : Prop := ∃ a cc, r = .returned (.tuple #[.agg #[.int .i64 m.k, .int .i64 m.c, .int .i64 m.s, .int .i64 m.f, .int .i64 m.a, .int .u32 (m.w : Nat), .int .i64 m.n, .bool m.h, .slice a m.l cc], .int .i64 e]) ∧ Hid (Row8 w' a m.l cc m.b ∧ Below w.heap.size w w')
theorem row8_0 (w : World) : Row8 w none 0 0 (fun _ => 0) := ⟨(fun i hi => by simp at hi), (fun _ => ⟨rfl, rfl⟩), (fun x hx => by cases hx), Nat.le_refl _⟩
theorem RdP.nil0 {e : Int} {w w' : World} (b : Below w.heap.size w w') : RdP (Mv.z 0) e w (.returned (.tuple #[.agg #[.int .i64 0, .int .i64 0, .int .i64 0, .int .i64 0, .int .i64 0, .int .u32 0, .int .i64 0, .bool false, .slice none 0 0], .int .i64 e])) w' := ⟨.none, 0, rfl, row8_0 w', b⟩
end Go.Proofs.YtiikebaehoobnaaDoor
