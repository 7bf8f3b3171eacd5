/- The document's meter: its block, Add and Raise; both meters that say the same. -/
import Derived.Test.YtejjhenkhleibaaLawMNil
namespace Go.Proofs.Ytejjhenkhleibaa
open Go.RowKit

structure RM (w : World) (v : Nat) (t : Int) (q : Option Int) (f : Int) (on : Bool) (c : Option (Int × Int × Int × Int)) : Prop where
  at_ : w.heap[v]? = some (.cells #[.int .u64 t, .int .i64 (q.getD 0), .bool q.isSome, .int .u32 f, .bool on, .int .i64 (c.getD Z4).1, .int .i64 (c.getD Z4).2.1, .int .u32 (c.getD Z4).2.2.1, .int .u32 (c.getD Z4).2.2.2, .bool c.isSome] 33 (0, 0))
theorem RM.lt {w : World} {v : Nat} {t f : Int} {q : Option Int} {on : Bool} {c : Option (Int × Int × Int × Int)} (h : RM w v t q f on c) : v < w.heap.size := (Array.getElem?_eq_some_iff.1 h.at_).1
theorem RM.off {l : List Nat} {w w' : World} {v : Nat} {t f : Int} {q : Option Int} {on : Bool} {c : Option (Int × Int × Int × Int)} (h : RM w v t q f on c) (o : Off l w w') (hv : v ∉ l) : RM w' v t q f on c := ⟨(o.block v h.lt hv).trans h.at_⟩
theorem RM.fz {w : World} {v : Nat} {t f : Int} {q : Option Int} {on : Bool} {c : Option (Int × Int × Int × Int)} (h : RM w v t q f on c) (j : Nat) : w.frozen? ⟨v, j, none⟩ = false := frozen_of_row w v j _ _ h.at_
theorem RM.c0 {w : World} {v : Nat} {t f : Int} {q : Option Int} {on : Bool} {c : Option (Int × Int × Int × Int)} (h : RM w v t q f on c) : w.cell? ⟨v, 0, none⟩ = some (.int .u64 t) := cell_of_row w v 0 _ _ _ h.at_
theorem RM.c1 {w : World} {v : Nat} {t f : Int} {q : Option Int} {on : Bool} {c : Option (Int × Int × Int × Int)} (h : RM w v t q f on c) : w.cell? ⟨v, 1, none⟩ = some (.int .i64 (q.getD 0)) := cell_of_row w v 1 _ _ _ h.at_
theorem RM.c2 {w : World} {v : Nat} {t f : Int} {q : Option Int} {on : Bool} {c : Option (Int × Int × Int × Int)} (h : RM w v t q f on c) : w.cell? ⟨v, 2, none⟩ = some (.bool q.isSome) := cell_of_row w v 2 _ _ _ h.at_
theorem RM.c3 {w : World} {v : Nat} {t f : Int} {q : Option Int} {on : Bool} {c : Option (Int × Int × Int × Int)} (h : RM w v t q f on c) : w.cell? ⟨v, 3, none⟩ = some (.int .u32 f) := cell_of_row w v 3 _ _ _ h.at_
theorem RM.c4 {w : World} {v : Nat} {t f : Int} {q : Option Int} {on : Bool} {c : Option (Int × Int × Int × Int)} (h : RM w v t q f on c) : w.cell? ⟨v, 4, none⟩ = some (.bool on) := cell_of_row w v 4 _ _ _ h.at_
theorem RM.c5 {w : World} {v : Nat} {t f : Int} {q : Option Int} {on : Bool} {c : Option (Int × Int × Int × Int)} (h : RM w v t q f on c) : w.cell? ⟨v, 5, none⟩ = some (.int .i64 (c.getD Z4).1) ∧ w.cell? ⟨v, 6, none⟩ = some (.int .i64 (c.getD Z4).2.1) ∧ w.cell? ⟨v, 7, none⟩ = some (.int .u32 (c.getD Z4).2.2.1) ∧ w.cell? ⟨v, 8, none⟩ = some (.int .u32 (c.getD Z4).2.2.2) :=
  ⟨cell_of_row w v 5 _ _ _ h.at_, cell_of_row w v 6 _ _ _ h.at_, cell_of_row w v 7 _ _ _ h.at_, cell_of_row w v 8 _ _ _ h.at_⟩
theorem RM.c9 {w : World} {v : Nat} {t f : Int} {q : Option Int} {on : Bool} {c : Option (Int × Int × Int × Int)} (h : RM w v t q f on c) : w.cell? ⟨v, 9, none⟩ = some (.bool c.isSome) := cell_of_row w v 9 _ _ _ h.at_
theorem RM.s0 {w : World} {v : Nat} {t f : Int} {q : Option Int} {on : Bool} {c : Option (Int × Int × Int × Int)} (h : RM w v t q f on c) (t' : Int) : RM (w.setCell ⟨v, 0, none⟩ (.int .u64 t')) v t' q f on c := ⟨heap_setCell_same _ _ _ _ _ _ h.at_⟩
theorem RM.s3 {w : World} {v : Nat} {t f : Int} {q : Option Int} {on : Bool} {c : Option (Int × Int × Int × Int)} (h : RM w v t q f on c) (f' : Int) : RM (w.setCell ⟨v, 3, none⟩ (.int .u32 f')) v t q f' on c := ⟨heap_setCell_same _ _ _ _ _ _ h.at_⟩
theorem RM.s4 {w : World} {v : Nat} {t f : Int} {q : Option Int} {on : Bool} {c : Option (Int × Int × Int × Int)} (h : RM w v t q f on c) (on' : Bool) : RM (w.setCell ⟨v, 4, none⟩ (.bool on')) v t q f on' c := ⟨heap_setCell_same _ _ _ _ _ _ h.at_⟩
theorem RM.s12 {w : World} {v : Nat} {t f : Int} {q : Option Int} {on : Bool} {c : Option (Int × Int × Int × Int)} (h : RM w v t q f on c) (x : Int) : RM ((w.setCell ⟨v, 2, none⟩ (.bool true)).setCell ⟨v, 1, none⟩ (.int .i64 x)) v t (some x) f on c :=
  ⟨heap_setCell_same _ _ _ _ _ _ (heap_setCell_same _ _ _ _ _ _ h.at_)⟩
theorem RM.s59 {w : World} {v : Nat} {t f : Int} {q : Option Int} {on : Bool} {c : Option (Int × Int × Int × Int)} (h : RM w v t q f on c) (i j s n : Int) :
    RM (((((w.setCell ⟨v, 5, none⟩ (.int .i64 i)).setCell ⟨v, 6, none⟩ (.int .i64 j)).setCell ⟨v, 7, none⟩ (.int .u32 s)).setCell ⟨v, 8, none⟩ (.int .u32 n)).setCell ⟨v, 9, none⟩ (.bool true)) v t q f on (some (i, j, s, n)) :=
  ⟨heap_setCell_same _ _ _ _ _ _ (heap_setCell_same _ _ _ _ _ _ (heap_setCell_same _ _ _ _ _ _ (heap_setCell_same _ _ _ _ _ _ (heap_setCell_same _ _ _ _ _ _ h.at_))))⟩
theorem radd_any (t n v : Nat) (q : Option Int) (f : Int) (on : Bool) (c : Option (Int × Int × Int × Int)) (w : World) (ht : t < 18446744073709551616) (hn : n < 18446744073709551616) (h : RM w v t q f on c) :
    Calls Try.prog 25 #[.pointer (some ⟨v, 0, none⟩), .int .u64 n] w fun e w' => e = .returned (.int .u64 (sat t n : Nat)) ∧ w' = w.setCell ⟨v, 0, none⟩ (.int .u64 (sat t n : Nat)) := by
  have c0 := h.c0
  have z0 := h.fz 0
  have h1 : IntKind.u64.wrap (18446744073709551615 - (t : Int)) = ((18446744073709551615 - t : Nat) : Int) := by rw [IntKind.wrap_u64]; omega
  by_cases hc : 18446744073709551615 - t < n
  · have e : sat t n = 18446744073709551615 := by unfold sat; rw [if_pos hc]
    rw [e]
    clear h
    go_enter Try.func25, Try.ntmps25
    go_wp2
    go_ret
    exact ⟨rfl, rfl⟩
  · have e : sat t n = t + n := by unfold sat; rw [if_neg hc]
    rw [e]
    have h2 : IntKind.u64.wrap ((t : Int) + (n : Int)) = ((t + n : Nat) : Int) := by rw [IntKind.wrap_u64]; omega
    clear h e
    generalize t + n = s at *
    go_enter Try.func25, Try.ntmps25
    go_wp2
    go_ret
    exact ⟨rfl, rfl⟩
theorem rraise_up (t v : Nat) (q : Option Int) (f x : Int) (on : Bool) (c : Option (Int × Int × Int × Int)) (w : World) (h : RM w v t q f on c) (hq : q.all (fun y => decide (y < x)) = true) :
    Calls Try.prog 26 #[.pointer (some ⟨v, 0, none⟩), .int .i64 x] w fun e w' => e = .returned (.bool true) ∧ w' = (w.setCell ⟨v, 2, none⟩ (.bool true)).setCell ⟨v, 1, none⟩ (.int .i64 x) := by
  have c1 := h.c1
  have c2 := h.c2
  have z1 := h.fz 1
  have z2 := h.fz 2
  clear h
  cases q with
  | none =>
    simp only [Option.getD_none, Option.isSome_none] at c1 c2
    go_enter Try.func26, Try.ntmps26
    go_wp2
    go_ret
    exact ⟨rfl, rfl⟩
  | some y =>
    simp only [Option.getD_some, Option.isSome_some] at c1 c2
    have hlt : ¬ x ≤ y := by simp at hq; omega
    clear hq
    go_enter Try.func26, Try.ntmps26
    go_wp2
    go_ret
    exact ⟨rfl, rfl⟩
theorem rraise_no (t v : Nat) (q : Option Int) (f x : Int) (on : Bool) (c : Option (Int × Int × Int × Int)) (w : World) (h : RM w v t q f on c) (hq : q.all (fun y => decide (y < x)) = false) :
    Calls Try.prog 26 #[.pointer (some ⟨v, 0, none⟩), .int .i64 x] w fun e w' => e = .returned (.bool false) ∧ w' = w := by
  have c1 := h.c1
  have c2 := h.c2
  clear h
  cases q with
  | none => simp at hq
  | some y =>
    simp only [Option.getD_some, Option.isSome_some] at c1 c2
    have hle : x ≤ y := by simp at hq; omega
    clear hq
    go_enter Try.func26, Try.ntmps26
    go_wp2
    go_ret
    exact ⟨rfl, rfl⟩
/-- Both say the same: the meter at b, the document's at v; what stands behind pointers lies from M on. -/
structure Sy (M : Nat) (w : World) (b v : Nat) (t : Nat) (p r : Option Addr) (q : Option Int) (f o : Int) (c : Option (Int × Int × Int × Int)) : Prop where
  met : Met w b t p f o r
  pk : Pk M w p q
  rc : Rc M w r c
  rm : RM w v t q f (o != 0) c
  tlt : t < 18446744073709551616
  bM : b < M
  vM : v < M
  ne : b ≠ v
  le : M ≤ w.heap.size
def SyE (M : Nat) (w : World) (b v : Nat) : Prop := ∃ t p r q f o c, Sy M w b v t p r q f o c
theorem Sy.off {M : Nat} {l : List Nat} {w w' : World} {b v t : Nat} {p r : Option Addr} {q : Option Int} {f o : Int} {c : Option (Int × Int × Int × Int)} (h : Sy M w b v t p r q f o c) (k : Off l w w') (hb : b ∉ l) (hv : v ∉ l) (hl : ∀ x, x ∈ l → x < M) : Sy M w' b v t p r q f o c :=
  ⟨h.met.off k hb, h.pk.off k hl, h.rc.off k hl, h.rm.off k hv, h.tlt, h.bM, h.vM, h.ne, Nat.le_trans h.le k.size⟩
theorem SyE.off {M : Nat} {l : List Nat} {w w' : World} {b v : Nat} (h : SyE M w b v) (k : Off l w w') (hb : b ∉ l) (hv : v ∉ l) (hl : ∀ x, x ∈ l → x < M) : SyE M w' b v := by
  obtain ⟨t, p, r, q, f, o, c, h⟩ := h
  exact ⟨t, p, r, q, f, o, c, h.off k hb hv hl⟩

end Go.Proofs.Ytejjhenkhleibaa
