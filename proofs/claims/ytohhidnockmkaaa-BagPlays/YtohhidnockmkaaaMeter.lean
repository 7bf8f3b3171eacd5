/- The meter: its block, and what its calls do to it. -/
import Derived.Test.YtohhidnockmkaaaAtom
import Derived.Test.YtohhidnockmkaaaOffs
namespace Go.Proofs.Ytohhidnockmkaaa
open Go.RowKit

/-- The block of a meter. -/
def MtC (t : Int) (p : Option Addr) (f : Int) (o : Int) (r : Option Addr) : Array Value := #[.int .u64 t, .pointer p, .int .u32 f, .int .u32 o, .pointer r]
structure Met (w : World) (b : Nat) (t : Int) (p : Option Addr) (f : Int) (o : Int) (r : Option Addr) : Prop where
  at_ : w.heap[b]? = some (.cells (MtC t p f o r) 91 (0, 0))
theorem Met.lt {w : World} {b : Nat} {t f o : Int} {p r : Option Addr} (h : Met w b t p f o r) : b < w.heap.size := (Array.getElem?_eq_some_iff.1 h.at_).1
theorem Met.c0 {w : World} {b : Nat} {t f o : Int} {p r : Option Addr} (h : Met w b t p f o r) : w.cell? ⟨b, 0, none⟩ = some (.int .u64 t) := cell_of_row w b 0 _ _ _ h.at_
theorem Met.c1 {w : World} {b : Nat} {t f o : Int} {p r : Option Addr} (h : Met w b t p f o r) : w.cell? ⟨b, 1, none⟩ = some (.pointer p) := cell_of_row w b 1 _ _ _ h.at_
theorem Met.c2 {w : World} {b : Nat} {t f o : Int} {p r : Option Addr} (h : Met w b t p f o r) : w.cell? ⟨b, 2, none⟩ = some (.int .u32 f) := cell_of_row w b 2 _ _ _ h.at_
theorem Met.c3 {w : World} {b : Nat} {t f o : Int} {p r : Option Addr} (h : Met w b t p f o r) : w.cell? ⟨b, 3, none⟩ = some (.int .u32 o) := cell_of_row w b 3 _ _ _ h.at_
theorem Met.c4 {w : World} {b : Nat} {t f o : Int} {p r : Option Addr} (h : Met w b t p f o r) : w.cell? ⟨b, 4, none⟩ = some (.pointer r) := cell_of_row w b 4 _ _ _ h.at_
theorem Met.fz {w : World} {b : Nat} {t f o : Int} {p r : Option Addr} (h : Met w b t p f o r) (j : Nat) : w.frozen? ⟨b, j, none⟩ = false := frozen_of_row w b j _ _ h.at_
theorem Met.off {l : List Nat} {w w' : World} {b : Nat} {t f o : Int} {p r : Option Addr} (h : Met w b t p f o r) (k : Off l w w') (hb : b ∉ l) : Met w' b t p f o r := ⟨(k.block b h.lt hb).trans h.at_⟩
theorem Met.s0 {w : World} {b : Nat} {t f o : Int} {p r : Option Addr} (h : Met w b t p f o r) (t' : Int) : Met (w.setCell ⟨b, 0, none⟩ (.int .u64 t')) b t' p f o r := ⟨heap_setCell_same _ _ _ _ _ _ h.at_⟩
theorem Met.s1 {w : World} {b : Nat} {t f o : Int} {p r : Option Addr} (h : Met w b t p f o r) (p' : Option Addr) : Met (w.setCell ⟨b, 1, none⟩ (.pointer p')) b t p' f o r := ⟨heap_setCell_same _ _ _ _ _ _ h.at_⟩
theorem Met.s2 {w : World} {b : Nat} {t f o : Int} {p r : Option Addr} (h : Met w b t p f o r) (f' : Int) : Met (w.setCell ⟨b, 2, none⟩ (.int .u32 f')) b t p f' o r := ⟨heap_setCell_same _ _ _ _ _ _ h.at_⟩
theorem Met.s3 {w : World} {b : Nat} {t f o : Int} {p r : Option Addr} (h : Met w b t p f o r) (o' : Int) : Met (w.setCell ⟨b, 3, none⟩ (.int .u32 o')) b t p f o' r := ⟨heap_setCell_same _ _ _ _ _ _ h.at_⟩
theorem Met.s4 {w : World} {b : Nat} {t f o : Int} {p r : Option Addr} (h : Met w b t p f o r) (r' : Option Addr) : Met (w.setCell ⟨b, 4, none⟩ (.pointer r')) b t p f o r' := ⟨heap_setCell_same _ _ _ _ _ _ h.at_⟩

/-- The peak behind its pointer: in a block from M on. -/
inductive Pk (M : Nat) (w : World) : Option Addr → Option Int → Prop where
  | none : Pk M w none none
  | some (c : Nat) (v : Int) (h : M ≤ c) (hc : w.heap[c]? = some (.cells #[.int .i64 v] 2 (0, 0))) : Pk M w (some ⟨c, 0, Option.none⟩) (some v)
theorem Pk.off {M : Nat} {l : List Nat} {w w' : World} {p : Option Addr} {q : Option Int} (h : Pk M w p q) (k : Off l w w') (hl : ∀ x, x ∈ l → x < M) : Pk M w' p q := by
  cases h with
  | none => exact .none
  | some c v h hc => exact .some c v h ((k.block c (Array.getElem?_eq_some_iff.1 hc).1 (fun hm => by have := hl c hm; omega)).trans hc)

def sat (a b : Nat) : Nat := if 18446744073709551615 - a < b then 18446744073709551615 else a + b
theorem sat_lt (a b : Nat) (ha : a < 18446744073709551616) : sat a b < 18446744073709551616 := by unfold sat; split <;> omega

theorem new_any (w : World) :
    Calls Try.prog 24 #[] w fun e w' => e = .returned (.pointer (some ⟨w.heap.size, 0, none⟩)) ∧ w' = w.alloc (.cells (MtC 0 none 0 0 none) 91) := by
  go_enter Try.func24, Try.ntmps24
  go_wp2
  go_ret
  exact ⟨rfl, rfl⟩
theorem new_met (w : World) : Met (w.alloc (.cells (MtC 0 none 0 0 none) 91)) w.heap.size 0 none 0 0 none := ⟨heap_alloc_new w _⟩
theorem sumOf_any (a b : Nat) (w : World) (ha : a < 18446744073709551616) (hb : b < 18446744073709551616) :
    Calls Try.prog 38 #[.int .u64 a, .int .u64 b] w fun e w' => e = .returned (.int .u64 (sat a b : Nat)) ∧ w' = w := by
  have h1 : IntKind.u64.wrap (18446744073709551615 - (a : Int)) = ((18446744073709551615 - a : Nat) : Int) := by rw [IntKind.wrap_u64]; omega
  by_cases hc : 18446744073709551615 - a < b
  · have e : sat a b = 18446744073709551615 := by unfold sat; rw [if_pos hc]
    rw [e]
    go_enter Try.func38, Try.ntmps38
    go_wp2
    go_ret
    exact ⟨rfl, rfl⟩
  · have e : sat a b = a + b := by unfold sat; rw [if_neg hc]
    rw [e]
    have h2 : IntKind.u64.wrap ((a : Int) + (b : Int)) = ((a + b : Nat) : Int) := by rw [IntKind.wrap_u64]; omega
    go_enter Try.func38, Try.ntmps38
    go_wp2
    go_ret
    refine ⟨?_, rfl⟩
    first | rfl | (rw [h2]) | simp_all
theorem add_any (t n b : Nat) (p r : Option Addr) (f o : Int) (w : World) (ht : t < 18446744073709551616) (hn : n < 18446744073709551616) (h : Met w b t p f o r) :
    Calls Try.prog 25 #[.pointer (some ⟨b, 0, none⟩), .int .u64 n] w fun e w' => e = .returned (.tuple #[.int .u64 (sat t n : Nat), .int .i64 0]) ∧ w' = w.setCell ⟨b, 0, none⟩ (.int .u64 (sat t n : Nat)) := by
  have h0 := h.c0
  have hz := h.fz 0
  have hl := u64_load _ _ w h0
  have hs := sumOf_any t n w ht hn
  have hc := u64_cas ⟨b, 0, none⟩ t (sat t n : Nat) w h0 hz
  generalize sat t n = s at *
  go_enter Try.func25, Try.ntmps25
  go_wp2_with fail
  refine wp_loop_once ?_
  go_wp2_with (first | (go_at_call 37; refine hl.mono ?_; rintro e w' ⟨rfl, rfl⟩) | (go_at_call 38; refine hs.mono ?_; rintro e w' ⟨rfl, rfl⟩) | (go_at_call 39; refine hc.mono ?_; rintro e w' ⟨rfl, rfl⟩))
  go_ret2
  exact ⟨rfl, rfl⟩
theorem add_nil (n : Int) (w : World) :
    Calls Try.prog 25 #[.pointer none, .int .u64 n] w fun e w' => e = .returned (.tuple #[.int .u64 0, .int .i64 1]) ∧ w' = w := by
  go_enter Try.func25, Try.ntmps25
  go_wp2_with fail
  go_ret2
  exact ⟨rfl, rfl⟩
theorem total_any (t : Int) (b : Nat) (p r : Option Addr) (f o : Int) (w : World) (h : Met w b t p f o r) :
    Calls Try.prog 33 #[.pointer (some ⟨b, 0, none⟩)] w fun e w' => e = .returned (.int .u64 t) ∧ w' = w := by
  have hl := u64_load _ _ w h.c0
  go_enter Try.func33, Try.ntmps33
  go_wp2_with (go_at_call 37; refine hl.mono ?_; rintro e w' ⟨rfl, rfl⟩)
  go_ret
  exact ⟨rfl, rfl⟩
theorem total_nil (w : World) : Calls Try.prog 33 #[.pointer none] w fun e w' => e = .returned (.int .u64 0) ∧ w' = w := by
  go_enter Try.func33, Try.ntmps33
  go_wp2_with fail
  go_ret
  exact ⟨rfl, rfl⟩

end Go.Proofs.Ytohhidnockmkaaa
