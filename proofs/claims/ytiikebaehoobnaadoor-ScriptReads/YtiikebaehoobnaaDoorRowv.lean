/- Slices of bytes that came in, seen as a row of numbers; append from such a slice. -/
import Derived.Test.YtiikebaehoobnaaDoorProg
import Derived.WalkKit
import Derived.WalkSpells
import Derived.OpenShut
import Derived.Laws.AppendOwnNone
namespace Go.Proofs.YtiikebaehoobnaaDoor
set_option maxRecDepth 100000
open Go.RowKit

/-- A slice of integers that came in: nil, or a row of cells. -/
def BRow (k : IntKind) (w : World) (a : Option Addr) (len cap : Nat) (zs : List Int) : Prop :=
  (a = none ∧ len = 0 ∧ cap = 0 ∧ zs = []) ∨
  ∃ x, a = some x ∧ len ≤ cap ∧ cap ≤ maxLen ∧ zs.length = cap ∧ (∀ i, i < zs.length → w.cell? (x.add i) = some (.int k (zs.getD i 0))) ∧ ∀ n ∈ zs, (Lit.int k n).wf = true

/-- The same, said by the bytes. -/
structure Row8 (w : World) (a : Option Addr) (len cap : Nat) (bs : Nat → Nat) : Prop where
  byte : ∀ i, i < len → bs i < 256
  nil : a = none → len = 0 ∧ cap = 0
  src : ∀ x, a = some x → ∀ i, i < len → w.cell? (x.add i) = some (.int .u8 (bs i))
  le : len ≤ cap

theorem BRow.row8 {w : World} {a : Option Addr} {len cap : Nat} {zs : List Int} (h : BRow .u8 w a len cap zs) : Row8 w a len cap (fun i => (zs.getD i 0).toNat) := by
  rcases h with ⟨rfl, rfl, rfl, rfl⟩ | ⟨x, rfl, hl, _, hz, hc, hw⟩
  · exact ⟨fun i hi => by omega, fun _ => ⟨rfl, rfl⟩, (fun x hx => by cases hx), Nat.le_refl _⟩
  · have hb : ∀ i, i < len → 0 ≤ zs.getD i 0 ∧ zs.getD i 0 ≤ 255 := fun i hi => by
      have := bounds_u8 (hw (zs.getD i 0) (by
        rw [List.getD_eq_getElem?_getD, List.getElem?_eq_getElem (by omega)]
        exact List.getElem_mem _))
      exact this
    refine ⟨fun i hi => ?_, (fun hx => by cases hx), fun y hy i hi => ?_, hl⟩
    · have := hb i hi; omega
    · cases hy
      have h1 := hc i (by omega)
      have h2 := hb i hi
      rw [h1, Int.toNat_of_nonneg h2.1]

theorem BRow.len_le {k : IntKind} {w : World} {a : Option Addr} {len cap : Nat} {zs : List Int} (h : BRow k w a len cap zs) : len ≤ 9223372036854775807 := by
  rcases h with ⟨_, rfl, _, _⟩ | ⟨x, _, hl, hm, _⟩
  · omega
  · unfold maxLen at hm; omega

theorem Row8.plain {w : World} {a : Option Addr} {len cap : Nat} {bs : Nat → Nat} (h : Row8 w a len cap bs) (hp : 0 < len) :
    ∃ b off, a = some ⟨b, off, none⟩ ∧ b < w.heap.size ∧ ∀ i, i < len → bs i < 256 ∧ w.cell? ⟨b, off + i, none⟩ = some (.int .u8 (bs i)) := by
  cases a with
  | none => have := (h.nil rfl).1; omega
  | some x =>
    obtain ⟨b, off, spot⟩ := x
    have h0 := h.src _ rfl 0 hp
    have hspot : spot = none := by simpa [Addr.add] using World.cell?_spot h0
    subst hspot
    refine ⟨b, off, rfl, ?_, fun i hi => ⟨h.byte i hi, ?_⟩⟩
    · simpa [Addr.add] using World.block_lt_of_cell? w _ h0
    · rw [← Go.WideShapes.add_plain]; exact h.src _ rfl i hi

theorem Row8.below {w w' : World} {a : Option Addr} {len cap : Nat} {bs : Nat → Nat} (h : Row8 w a len cap bs) (hb : Below w.heap.size w w') : Row8 w' a len cap bs :=
  ⟨h.byte, h.nil, fun x hx i hi => by
    have h1 := h.src x hx i hi
    exact (hb.cell (World.block_lt_of_cell? w _ h1)).trans h1, h.le⟩

/-- The cells of the first n bytes. -/
def CB (bs : Nat → Nat) (n : Nat) : List Value := (List.range n).map fun t => Value.int .u8 (bs t)
theorem CB_length (bs : Nat → Nat) (n : Nat) : (CB bs n).length = n := by simp [CB]
theorem CB_get (bs : Nat → Nat) (n i : Nat) (h : i < n) : (CB bs n)[i]? = some (.int .u8 (bs i)) := by simp [CB, h]
theorem CB_none (bs : Nat → Nat) (n i : Nat) (h : n ≤ i) : (CB bs n)[i]? = none := by simp [CB, h]
theorem CB_one (bs : Nat → Nat) (n : Nat) : ∀ u ∈ CB bs n, u.oneCell' = true := by
  intro u hu
  simp only [CB, List.mem_map] at hu
  obtain ⟨t, _, rfl⟩ := hu
  rfl
theorem CB_append (f g : Nat → Nat) (n m : Nat) : CB f n ++ CB g m = CB (fun i => if i < n then f i else g (i - n)) (n + m) := by
  apply List.ext_getElem?
  intro i
  by_cases h : i < n
  · rw [List.getElem?_append_left (by rw [CB_length]; exact h), CB_get f n i h, CB_get _ _ i (by omega), if_pos h]
  · rw [List.getElem?_append_right (by rw [CB_length]; omega), CB_length]
    by_cases h2 : i < n + m
    · rw [CB_get g m _ (by omega), CB_get _ _ i h2, if_neg h]
    · rw [CB_none _ _ _ (by omega), CB_none _ _ _ (by omega)]

/-- 'append(buf, xs...)', buf the call's own, xs bytes that came in, nil or not. -/
theorem wpList_append_row8 {P : Program} {w : World} {ops : Array Oper} {rest : List Oper} {o : Oper} {a : Act} {Q : Exit → Act → World → Prop} (hgd : o.guard = none) (s x : Operand) (t : TypeId)
    (ho : o.op = .call { callee := .builtin .append, args := #[s, x], argTypes := #[t, t] })
    (base : Nat) (e : TypeId) (i : TypeInfo) (z : Value) (ht : P.underlying t = some (.slice e)) (hi : P.info? e = some i) (hz : i.zero = some z)
    (hsize : i.size = 1) (hby : i.bytes = 1) (hzs : z.cells.size = 1)
    (v : Value) (n : Nat) (xs : List Value) (hs : a.eval s = v) (hown : w.ownsRow base e 1 v n xs)
    (ao : Option Addr) (m c : Nat) (bs : Nat → Nat) (hx : a.eval x = .slice ao m c) (hrow : Row8 w ao m c bs)
    (h63 : n + m ≤ maxLen) (hbytes : n + m ≤ 140737488355328) (hbase : base ≤ w.heap.size)
    (h : ∀ v' w', w'.ownsRow base e 1 v' (n + m) (xs ++ CB bs m) → w.grownBy w' v.ownBlock → wpList P ops Q rest (a.put o.dst v') w') : wpList P ops Q (o :: rest) a w := by
  cases ao with
  | none =>
    obtain ⟨rfl, rfl⟩ := hrow.nil rfl
    refine wpList_append_own_none hgd s x t ho base e i 1 ht hi v n xs hs hown hx ?_
    have he : xs ++ CB bs 0 = xs := by simp [CB]
    exact h v w (by rw [he]; exact hown) ⟨rfl, rfl, rfl, Nat.le_refl _, fun _ _ _ => rfl⟩
  | some ad =>
    refine wpList_append_own _ hgd s x t ho base e i z 1 1 ht hi hz hsize hby hzs (by decide) v n xs hs hown ad m c (CB bs m) hx (by rw [CB_length, Nat.mul_one]) ?_ (CB_one bs m) h63 (by omega) hbase (fun v' w' h1 h2 _ => h v' w' h1 h2)
    intro j u hj
    by_cases hlt : j < m
    · rw [CB_get bs m j hlt] at hj
      cases hj
      exact hrow.src ad rfl j hlt
    · rw [CB_none bs m j (by omega)] at hj; cases hj

end Go.Proofs.YtiikebaehoobnaaDoor
