/- Slices of bytes that came in, seen as a row of numbers; append from such a slice. -/
import Derived.Test.YtnmnjcjfgbpkaaaDoorProg
import Derived.WalkKit
import Derived.WalkSpells
import Derived.OpenShut
import Derived.Laws.AppendOwnNone
import Derived.Laws.CopyOwn
import Derived.WalkSmall
import Derived.Laws.BitsAllLaws
import Derived.Laws.Pointers
import Derived.Laws.LoneSync
import Derived.Laws.NewBlocks
import Derived.Lib.Builder
import Derived.RegionTactic
import Derived.RegionCalls
import Derived.Deep.DeepCutAuto
import Derived.Deep.RegionWith
import Derived.Deep.QuietTactic
import Derived.Laws.BytesString
import Derived.BigQuiet
import Derived.Lib.ItoaNum
namespace Go.Proofs.YtnmnjcjfgbpkaaaDoor
set_option maxRecDepth 100000
open Go.RowKit

/-- A slice of integers that came in: nil, or a row of cells. -/
def BRow (k : IntKind) (w : World) (a : Option Addr) (len cap : Nat) (zs : List Int) : Prop :=
  (a = none ∧ len = 0 ∧ cap = 0 ∧ zs = []) ∨
  ∃ x, a = some x ∧ len ≤ cap ∧ cap ≤ maxLen ∧ zs.length = cap ∧ (∀ i, i < zs.length → w.cell? (x.add i) = some (.int k (zs.getD i 0))) ∧ ∀ n ∈ zs, (Lit.int k n).wf = true

/-- The same, said by the bytes. -/
structure Row8 (w : World) (a : Option Addr) (len cap : Nat) (bs : Nat → Nat) : Prop where
  byte : ∀ i, i < len → bs i < 256
  nil : a = none → len = 0 ∧ cap = 0
  src : ∀ x, a = some x → ∀ i, i < len → w.cell? (x.add i) = some (.int .u8 (bs i))
  le : len ≤ cap

theorem BRow.row8 {w : World} {a : Option Addr} {len cap : Nat} {zs : List Int} (h : BRow .u8 w a len cap zs) : Row8 w a len cap (fun i => (zs.getD i 0).toNat) := by
  rcases h with ⟨rfl, rfl, rfl, rfl⟩ | ⟨x, rfl, hl, _, hz, hc, hw⟩
  · exact ⟨fun i hi => by omega, fun _ => ⟨rfl, rfl⟩, (fun x hx => by cases hx), Nat.le_refl _⟩
  · have hb : ∀ i, i < len → 0 ≤ zs.getD i 0 ∧ zs.getD i 0 ≤ 255 := fun i hi => by
      have := bounds_u8 (hw (zs.getD i 0) (by
        rw [List.getD_eq_getElem?_getD, List.getElem?_eq_getElem (by omega)]
        exact List.getElem_mem _))
      exact this
    refine ⟨fun i hi => ?_, (fun hx => by cases hx), fun y hy i hi => ?_, hl⟩
    · have := hb i hi; omega
    · cases hy
      have h1 := hc i (by omega)
      have h2 := hb i hi
      rw [h1, Int.toNat_of_nonneg h2.1]

theorem BRow.len_le {k : IntKind} {w : World} {a : Option Addr} {len cap : Nat} {zs : List Int} (h : BRow k w a len cap zs) : len ≤ 9223372036854775807 := by
  rcases h with ⟨_, rfl, _, _⟩ | ⟨x, _, hl, hm, _⟩
  · omega
  · unfold maxLen at hm; omega

theorem Row8.plain {w : World} {a : Option Addr} {len cap : Nat} {bs : Nat → Nat} (h : Row8 w a len cap bs) (hp : 0 < len) :
    ∃ b off, a = some ⟨b, off, none⟩ ∧ b < w.heap.size ∧ ∀ i, i < len → bs i < 256 ∧ w.cell? ⟨b, off + i, none⟩ = some (.int .u8 (bs i)) := by
  cases a with
  | none => have := (h.nil rfl).1; omega
  | some x =>
    obtain ⟨b, off, spot⟩ := x
    have h0 := h.src _ rfl 0 hp
    have hspot : spot = none := by simpa [Addr.add] using World.cell?_spot h0
    subst hspot
    refine ⟨b, off, rfl, ?_, fun i hi => ⟨h.byte i hi, ?_⟩⟩
    · simpa [Addr.add] using World.block_lt_of_cell? w _ h0
    · rw [← Go.WideShapes.add_plain]; exact h.src _ rfl i hi

theorem Row8.below {w w' : World} {a : Option Addr} {len cap : Nat} {bs : Nat → Nat} (h : Row8 w a len cap bs) (hb : Below w.heap.size w w') : Row8 w' a len cap bs :=
  ⟨h.byte, h.nil, fun x hx i hi => by
    have h1 := h.src x hx i hi
    exact (hb.cell (World.block_lt_of_cell? w _ h1)).trans h1, h.le⟩

/-- The cells of the first n bytes. -/
def CB (bs : Nat → Nat) (n : Nat) : List Value := (List.range n).map fun t => Value.int .u8 (bs t)
theorem CB_length (bs : Nat → Nat) (n : Nat) : (CB bs n).length = n := by simp [CB]
theorem CB_get (bs : Nat → Nat) (n i : Nat) (h : i < n) : (CB bs n)[i]? = some (.int .u8 (bs i)) := by simp [CB, h]
theorem CB_none (bs : Nat → Nat) (n i : Nat) (h : n ≤ i) : (CB bs n)[i]? = none := by simp [CB, h]
theorem CB_one (bs : Nat → Nat) (n : Nat) : ∀ u ∈ CB bs n, u.oneCell' = true := by
  intro u hu
  simp only [CB, List.mem_map] at hu
  obtain ⟨t, _, rfl⟩ := hu
  rfl
theorem CB_append (f g : Nat → Nat) (n m : Nat) : CB f n ++ CB g m = CB (fun i => if i < n then f i else g (i - n)) (n + m) := by
  apply List.ext_getElem?
  intro i
  by_cases h : i < n
  · rw [List.getElem?_append_left (by rw [CB_length]; exact h), CB_get f n i h, CB_get _ _ i (by omega), if_pos h]
  · rw [List.getElem?_append_right (by rw [CB_length]; omega), CB_length]
    by_cases h2 : i < n + m
    · rw [CB_get g m _ (by omega), CB_get _ _ i h2, if_neg h]
    · rw [CB_none _ _ _ (by omega), CB_none _ _ _ (by omega)]

/-- 'append(buf, xs...)', buf the call's own, xs bytes that came in, nil or not. -/
theorem wpList_append_row8 {P : Program} {w : World} {ops : Array Oper} {rest : List Oper} {o : Oper} {a : Act} {Q : Exit → Act → World → Prop} (hgd : o.guard = none) (s x : Operand) (t : TypeId)
    (ho : o.op = .call { callee := .builtin .append, args := #[s, x], argTypes := #[t, t] })
    (base : Nat) (e : TypeId) (i : TypeInfo) (z : Value) (ht : P.underlying t = some (.slice e)) (hi : P.info? e = some i) (hz : i.zero = some z)
    (hsize : i.size = 1) (hby : i.bytes = 1) (hzs : z.cells.size = 1)
    (v : Value) (n : Nat) (xs : List Value) (hs : a.eval s = v) (hown : w.ownsRow base e 1 v n xs)
    (ao : Option Addr) (m c : Nat) (bs : Nat → Nat) (hx : a.eval x = .slice ao m c) (hrow : Row8 w ao m c bs)
    (h63 : n + m ≤ maxLen) (hbytes : n + m ≤ 140737488355328) (hbase : base ≤ w.heap.size)
    (h : ∀ v' w', w'.ownsRow base e 1 v' (n + m) (xs ++ CB bs m) → w.grownBy w' v.ownBlock → wpList P ops Q rest (a.put o.dst v') w') : wpList P ops Q (o :: rest) a w := by
  cases ao with
  | none =>
    obtain ⟨rfl, rfl⟩ := hrow.nil rfl
    refine wpList_append_own_none hgd s x t ho base e i 1 ht hi v n xs hs hown hx ?_
    have he : xs ++ CB bs 0 = xs := by simp [CB]
    exact h v w (by rw [he]; exact hown) ⟨rfl, rfl, rfl, Nat.le_refl _, fun _ _ _ => rfl⟩
  | some ad =>
    refine wpList_append_own _ hgd s x t ho base e i z 1 1 ht hi hz hsize hby hzs (by decide) v n xs hs hown ad m c (CB bs m) hx (by rw [CB_length, Nat.mul_one]) ?_ (CB_one bs m) h63 (by omega) hbase (fun v' w' h1 h2 _ => h v' w' h1 h2)
    intro j u hj
    by_cases hlt : j < m
    · rw [CB_get bs m j hlt] at hj
      cases hj
      exact hrow.src ad rfl j hlt
    · rw [CB_none bs m j (by omega)] at hj; cases hj

end Go.Proofs.YtnmnjcjfgbpkaaaDoor
namespace Go.Proofs.YtnmnjcjfgbpkaaaDoor
set_option maxRecDepth 100000
open Go.RowKit

theorem info_u8 : (Tryd.prog.info? 5).map (fun i => (i.zero, i.size, i.bytes)) = some (some (.int .u8 0), 1, 1) := by kernel_rfl
theorem size_u8 : (Tryd.prog.info? 5).map (·.size) = some 1 := by kernel_rfl
theorem own_below {w w' : World} {B e size n : Nat} {v : Value} {xs : List Value} (h : w.ownsRow B e size v n xs) (hb : Below w.heap.size w w') : w'.ownsRow B e size v n xs := by
  refine ⟨h.1, ?_⟩
  rcases h.2 with hn | ⟨g, cap, cur, rfl, hg, hgg, rest⟩
  · exact .inl hn
  · exact .inr ⟨g, cap, cur, rfl, hg, by rw [hb.block g (Array.getElem?_eq_some_iff.1 hgg).1]; exact hgg, rest⟩
theorem own_base {w : World} {B B' e size n : Nat} {v : Value} {xs : List Value} (h : w.ownsRow B e size v n xs) (hb : B' ≤ B) : w.ownsRow B' e size v n xs := by
  refine ⟨h.1, ?_⟩
  rcases h.2 with hn | ⟨g, cap, cur, rfl, hg, rest⟩
  · exact .inl hn
  · exact .inr ⟨g, cap, cur, rfl, Nat.le_trans hb hg, rest⟩
theorem below_all {B : Nat} {w0 w w' : World} (h : Below B w0 w) (hB : B ≤ w.heap.size) (k : Below w.heap.size w w') : Below B w0 w' := h.trans (k.mono hB)

/-- An owned row as a slice that is read. -/
theorem own_row8 {w : World} {B e n : Nat} {v : Value} {bs : Nat → Nat} (h : w.ownsRow B e 1 v n (CB bs n)) (hb : ∀ i, i < n → bs i < 256) :
    ∃ a cap, v = .slice a n cap ∧ Row8 w a n cap bs := by
  rcases h.2 with ⟨rfl, rfl⟩ | ⟨g, cap, cur, hv, _, _, hnc, _⟩
  · exact ⟨none, 0, rfl, hb, fun _ => ⟨rfl, rfl⟩, (fun x hx => by cases hx), Nat.le_refl _⟩
  · subst hv
    refine ⟨_, cap, rfl, hb, (fun hx => by cases hx), fun x hx i hi => ?_, hnc⟩
    cases hx
    rw [Go.WideShapes.add_plain, Nat.zero_add, h.cellAt i (by omega), CB_get bs n i hi]

/-- A new block of bytes. -/
theorem row8_newF (w : World) (cs : Array Value) (e : TypeId) (fr : Nat × Nat) (bs : Nat → Nat) (n : Nat) (hb : ∀ i, i < n → bs i < 256) (hc : ∀ i, i < n → cs[i]? = some (.int .u8 (bs i : Nat))) :
    Row8 (w.alloc (.cells cs e fr)) (some ⟨w.heap.size, 0, none⟩) n n bs := by
  refine ⟨hb, (fun hx => by cases hx), fun x hx i hi => ?_, Nat.le_refl _⟩
  cases hx
  rw [Go.WideShapes.add_plain, Nat.zero_add, cell_of_row _ _ _ cs e fr (heap_alloc_new w _)]
  exact hc i hi
theorem row8_new (w : World) (cs : Array Value) (e : TypeId) (bs : Nat → Nat) (n : Nat) (hb : ∀ i, i < n → bs i < 256) (hc : ∀ i, i < n → cs[i]? = some (.int .u8 (bs i : Nat))) :
    Row8 (w.alloc (.cells cs e)) (some ⟨w.heap.size, 0, none⟩) n n bs := by
  refine ⟨hb, (fun hx => by cases hx), fun x hx i hi => ?_, Nat.le_refl _⟩
  cases hx
  rw [Go.WideShapes.add_plain, Nat.zero_add, cell_of_row _ _ _ cs e (0, 0) (heap_alloc_new w _)]
  exact hc i hi

/-- A part of a row: from n on; up to n. -/
theorem Row8.from_ {w : World} {b off len cap : Nat} {bs : Nat → Nat} (h : Row8 w (some ⟨b, off, none⟩) len cap bs) (n : Nat) (hn : n ≤ len) : Row8 w (some ⟨b, off + n, none⟩) (len - n) (cap - n) (fun i => bs (n + i)) := by
  refine ⟨fun i hi => h.byte _ (by omega), (fun hx => by cases hx), fun x hx i hi => ?_, by have := h.le; omega⟩
  cases hx
  have := h.src _ rfl (n + i) (by omega)
  rw [Go.WideShapes.add_plain] at this ⊢
  rw [show off + n + i = off + (n + i) by omega]
  exact this
theorem Row8.upto {w : World} {a : Option Addr} {len cap : Nat} {bs : Nat → Nat} (h : Row8 w a len cap bs) (n : Nat) (hn : n ≤ len) : Row8 w a n cap bs :=
  ⟨fun i hi => h.byte _ (by omega), (fun hx => by have := h.nil hx; exact ⟨by omega, this.2⟩), fun x hx i hi => h.src x hx i (by omega), by have := h.le; omega⟩
theorem Row8.drewN {w : World} {a : Option Addr} {len cap : Nat} {bs : Nat → Nat} (h : Row8 w a len cap bs) (n : Nat) : Row8 (w.drewN n) a len cap bs := h.below (below_drewN (Below.refl _ _) n)
theorem Row8.congr {w : World} {a : Option Addr} {len cap : Nat} {bs cs : Nat → Nat} (h : Row8 w a len cap bs) (e : ∀ i, i < len → bs i = cs i) : Row8 w a len cap cs :=
  ⟨fun i hi => by rw [← e i hi]; exact h.byte i hi, h.nil, fun x hx i hi => by rw [← e i hi]; exact h.src x hx i hi, h.le⟩

theorem CB_congr (f g : Nat → Nat) (n : Nat) (h : ∀ i, i < n → f i = g i) : CB f n = CB g n := by
  apply List.ext_getElem?
  intro i
  by_cases hi : i < n
  · rw [CB_get f n i hi, CB_get g n i hi, h i hi]
  · rw [CB_none f n i (by omega), CB_none g n i (by omega)]
theorem CB_take (f : Nat → Nat) (n k : Nat) (h : k ≤ n) : (CB f n).take k = CB f k := by
  apply List.ext_getElem?
  intro i
  rw [List.getElem?_take]
  by_cases hi : i < k
  · rw [if_pos hi, CB_get f n i (by omega), CB_get f k i hi]
  · rw [if_neg hi, CB_none f k i (by omega)]
theorem CB_set (f : Nat → Nat) (n j x : Nat) : (CB f n).set j (.int .u8 (x : Nat)) = CB (fun i => if i = j then x else f i) n := by
  apply List.ext_getElem?
  intro i
  rw [List.getElem?_set]
  by_cases hj : j = i
  · subst hj
    by_cases hi : j < n
    · rw [if_pos rfl, if_pos (by rw [CB_length]; exact hi), CB_get _ n j hi, if_pos rfl]
    · rw [if_pos rfl, if_neg (by rw [CB_length]; exact hi), CB_none _ n j (by omega)]
  · rw [if_neg hj]
    by_cases hi : i < n
    · rw [CB_get f n i hi, CB_get _ n i hi, if_neg (by omega)]
    · rw [CB_none f n i (by omega), CB_none _ n i (by omega)]
theorem CB_zero (n : Nat) : List.replicate n (Value.int .u8 0) = CB (fun _ => 0) n := by
  apply List.ext_getElem?
  intro i
  by_cases hi : i < n
  · rw [CB_get _ n i hi, List.getElem?_replicate, if_pos hi]; rfl
  · rw [CB_none _ n i (by omega), List.getElem?_replicate, if_neg hi]

/-- 'make([]byte, n, c)'. -/
theorem wpList_make8 {P : Program} (w : World) {ops : Array Oper} {rest : List Oper} {o : Oper} {a : Act} {Q : Exit → Act → World → Prop}
    (hg : o.guard = none) (l c : Operand) (t : TypeId) (hop : o.op = Op.makeSlice t l c)
    (base : Nat) (e : TypeId) (i : TypeInfo) (h1 : P.underlying t = some (.slice e)) (h2 : P.info? e = some i) (h3 : i.zero = some (.int .u8 0)) (h4 : i.size = 1) (h5 : i.bytes = 1)
    (kl kc : IntKind) (L C : Int) (n m : Nat) (hl : a.eval l = .int kl L) (hc : a.eval c = .int kc C) (hL : L = (n : Int)) (hC : C = (m : Int)) (hnm : n ≤ m) (b2 : m ≤ 281474976710656) (b4 : base ≤ w.heap.size)
    (hK : ∀ w', w'.ownsRow base e 1 (.slice (some ⟨w.heap.size, 0, none⟩) n m) n (CB (fun _ => 0) n) → Below base w w' → wpList P ops Q rest (a.put o.dst (.slice (some ⟨w.heap.size, 0, none⟩) n m)) w') :
    wpList P ops Q (o :: rest) a w := by
  refine wpList_plain hg fun K hK' => ?_
  subst hL
  subst hC
  have hr := run_make (P := P) w t e i _ h1 h2 h3 kl kc n m (by omega) (by omega) (by rw [h5]; omega) (by omega)
  simp only [Int.toNat_natCast] at hr
  rw [h4, Nat.mul_one] at hr
  have hz : (madeCells (Value.int .u8 0).cells m).toList = CB (fun _ => 0) m := (toList_madeCells_one (.int .u8 0) m).trans (CB_zero m)
  have hml : m ≤ maxLen := by unfold maxLen; omega
  have hsz : (madeCells (Value.int .u8 0).cells m).size = m * 1 := by rw [size_madeCells]; omega
  have hln : (CB (fun _ => 0) n).length = n * 1 := by rw [CB_length]; omega
  have htk : (madeCells (Value.int .u8 0).cells m).toList.take (n * 1) = CB (fun _ => 0) n := by rw [hz, Nat.mul_one, CB_take _ _ _ hnm]
  have hk := hK _ ⟨hln, .inr ⟨w.heap.size, m, _, rfl, b4, heap_alloc_new w _, hnm, hml, hsz, htk⟩⟩ ((Below.refl _ _).alloc b4 _)
  unfold Oper.wp
  simp [execOp, hop, hl, hc, hr, Result.andThen]
  exact hK' _ _ hk

/-- 'copy(own, xs)', xs bytes, nil or not. -/
theorem wpList_copy8 {P : Program} {w : World} {ops : Array Oper} {rest : List Oper} {o : Oper} {a : Act} {Q : Exit → Act → World → Prop} (hgd : o.guard = none) (d s : Operand) (dT sT : TypeId)
    (ho : o.op = .call { callee := .builtin .copy, args := #[d, s], argTypes := #[dT, sT] }) (elem : TypeId) (hu : P.underlying dT = some (.slice elem)) (hsz : (P.info? elem).map (·.size) = some 1)
    (base g n cap : Nat) (f : Nat → Nat) (hd : a.eval d = .slice (some ⟨g, 0, none⟩) n cap) (hown : w.ownsRow base elem 1 (.slice (some ⟨g, 0, none⟩) n cap) n (CB f n))
    (ao : Option Addr) (m c : Nat) (bs : Nat → Nat) (hs : a.eval s = .slice ao m c) (hrow : Row8 w ao m c bs)
    (w0 : World) (hb : Below base w0 w)
    (h : ∀ w', w'.ownsRow base elem 1 (.slice (some ⟨g, 0, none⟩) n cap) n (CB (fun i => if i < m then bs i else f i) n) → Below base w0 w' → wpList P ops Q rest (a.put o.dst (goInt (min m n : Nat))) w') :
    wpList P ops Q (o :: rest) a w := by
  rcases hown.2 with ⟨h', _⟩ | ⟨g', cap', cur, h', hbg, hg, hnc, hcm, hcs, htake⟩
  · simp at h'
  · simp only [Value.slice.injEq, Option.some.injEq, Addr.mk.injEq, and_true, true_and] at h'
    obtain ⟨rfl, rfl⟩ := h'
    have hmin : Nat.min m n = min m n := rfl
    refine wpList_copy_splice hgd d s dT sT ho elem hu hsz _ ao n cap m c hd hs g 0 cur.toList elem (by simpa using hg) (CB bs (min m n)) (by rw [CB_length, hmin]) ?_ (by rw [CB_length, Array.length_toList, hcs]; omega) (CB_one _ _) base w0 hb hbg ?_
    · intro hpos
      refine ⟨rfl, ?_⟩
      rw [CB_length] at hpos
      cases ao with
      | none => have := (hrow.nil rfl).1; omega
      | some ad =>
        refine ⟨ad, rfl, fun j v hj => ?_⟩
        by_cases hlt : j < min m n
        · rw [CB_get _ _ _ hlt] at hj
          cases hj
          exact hrow.src ad rfl j (by omega)
        · rw [CB_none _ _ _ (by omega)] at hj; cases hj
    · intro w' hg' hb'
      rw [CB_length]
      refine h w' ⟨by rw [CB_length]; omega, .inr ⟨g, cap, _, rfl, hbg, hg'.out, hnc, hcm, ?_, ?_⟩⟩ hb'
      · rw [List.size_toArray, length_splice _ _ _ (by rw [CB_length, Array.length_toList, hcs]; omega), Array.length_toList, hcs]
      · rw [Nat.mul_one] at htake ⊢
        simp only [splice, List.take_zero, List.nil_append, Nat.zero_add, CB_length]
        apply List.ext_getElem?
        intro i
        rw [List.getElem?_take]
        by_cases hi : i < n
        · rw [if_pos hi, CB_get _ n i hi]
          by_cases him : i < m
          · rw [if_pos him, List.getElem?_append_left (by rw [CB_length]; omega), CB_get _ _ _ (by omega)]
          · rw [if_neg him, List.getElem?_append_right (by rw [CB_length]; omega), CB_length, List.getElem?_drop, show min m n + (i - min m n) = i by omega]
            have := congrArg (·[i]?) htake
            simp only [List.getElem?_take, if_pos hi, CB_get f n i hi] at this
            exact this
        · rw [if_neg hi, CB_none _ n i (by omega)]

/-- 'append(buf, xs...)' that stands behind a guard. -/
theorem wpList_append_row8_g {P : Program} {w : World} {ops : Array Oper} {rest : List Oper} {o : Oper} {a : Act} {Q : Exit → Act → World → Prop} (hgd : Region.wanted o (yielded ops a.tmps) = true) (s x : Operand) (t : TypeId)
    (ho : o.op = .call { callee := .builtin .append, args := #[s, x], argTypes := #[t, t] })
    (base : Nat) (e : TypeId) (i : TypeInfo) (z : Value) (ht : P.underlying t = some (.slice e)) (hi : P.info? e = some i) (hz : i.zero = some z)
    (hsize : i.size = 1) (hby : i.bytes = 1) (hzs : z.cells.size = 1)
    (v : Value) (n : Nat) (xs : List Value) (hs : a.eval s = v) (hown : w.ownsRow base e 1 v n xs)
    (ao : Option Addr) (m c : Nat) (bs : Nat → Nat) (hx : a.eval x = .slice ao m c) (hrow : Row8 w ao m c bs)
    (h63 : n + m ≤ maxLen) (hbytes : n + m ≤ 140737488355328) (hbase : base ≤ w.heap.size)
    (h : ∀ v' w', w'.ownsRow base e 1 v' (n + m) (xs ++ CB bs m) → w.grownBy w' v.ownBlock → wpList P ops Q rest (a.put o.dst v') w') : wpList P ops Q (o :: rest) a w := by
  refine BigFrame.wpList_want hgd fun K hK => ?_
  cases ao with
  | none =>
    obtain ⟨rfl, rfl⟩ := hrow.nil rfl
    have hrun := run_append_owned_none (P := P) (w := w) base t o.type e i 1 ht hi v n xs hown
    have he : xs ++ CB bs 0 = xs := by simp [CB]
    have hk := h v w (by rw [he]; exact hown) ⟨rfl, rfl, rfl, Nat.le_refl _, fun _ _ _ => rfl⟩
    unfold Oper.wp
    simp [execOp, ho, resolve, invoke, builtin, hs, hx, hrun, Result.andThen]
    exact hK _ _ hk
  | some ad =>
    refine wp_append_own w s x t ho base e i z 1 1 ht hi hz hsize hby hzs (by decide) v n xs hs hown ad m c (CB bs m) hx (by rw [CB_length, Nat.mul_one]) ?_ (CB_one bs m) h63 (by omega) hbase (fun v' w' h1 h2 _ => hK _ _ (h v' w' h1 h2))
    intro j u hj
    by_cases hlt : j < m
    · rw [CB_get bs m j hlt] at hj
      cases hj
      exact hrow.src ad rfl j hlt
    · rw [CB_none bs m j (by omega)] at hj; cases hj
end Go.Proofs.YtnmnjcjfgbpkaaaDoor
namespace Go.Proofs.YtnmnjcjfgbpkaaaDoor
set_option maxRecDepth 100000
open Go.RowKit

/-- Of what was there only the blocks named may have turned. -/
structure Off (l : List Nat) (w w' : World) : Prop where
  os : w'.os = w.os
  tape : w'.tape = w.tape
  output : w'.output = w.output
  size : w.heap.size ≤ w'.heap.size
  block : ∀ k, k < w.heap.size → k ∉ l → w'.heap[k]? = w.heap[k]?
theorem Off.refl (l : List Nat) (w : World) : Off l w w := ⟨rfl, rfl, rfl, Nat.le_refl _, fun _ _ _ => rfl⟩
theorem Off.trans {l : List Nat} {u v w : World} (h : Off l u v) (k : Off l v w) : Off l u w :=
  ⟨k.os.trans h.os, k.tape.trans h.tape, k.output.trans h.output, Nat.le_trans h.size k.size, fun i hi hb => (k.block i (Nat.lt_of_lt_of_le hi h.size) hb).trans (h.block i hi hb)⟩
theorem Off.of_below {l : List Nat} {w w' : World} (h : Below w.heap.size w w') : Off l w w' := ⟨h.os, h.tape, h.output, h.size, fun k hk _ => h.block k hk⟩
theorem Off.more {l m : List Nat} {w w' : World} (h : Off l w w') (hs : ∀ k, k ∈ l → k ∈ m) : Off m w w' := ⟨h.os, h.tape, h.output, h.size, fun k hk hb => h.block k hk fun hm => hb (hs k hm)⟩
theorem Off.only {l m : List Nat} {w w' : World} (h : Off l w w') (hs : ∀ k, k ∈ l → k < w.heap.size → k ∈ m) : Off m w w' := ⟨h.os, h.tape, h.output, h.size, fun k hk hb => h.block k hk fun hm => hb (hs k hm hk)⟩
theorem Off.setCell (b i : Nat) (w : World) (v : Value) : Off [b] w (w.setCell ⟨b, i, none⟩ v) := ⟨rfl, rfl, rfl, by simp [World.setCell], fun k _ hb => heap_setCell_other w _ k v (by simpa using hb)⟩
theorem Off.alloc (l : List Nat) (w : World) (o : Obj) : Off l w (w.alloc o) := Off.of_below ((Below.refl _ _).alloc (Nat.le_refl _) _)
theorem Off.drew (l : List Nat) (w : World) : Off l w w.drew := ⟨rfl, rfl, rfl, Nat.le_refl _, fun _ _ _ => rfl⟩
theorem Off.drewN (l : List Nat) (w : World) (n : Nat) : Off l w (w.drewN n) := ⟨rfl, rfl, rfl, Nat.le_refl _, fun _ _ _ => rfl⟩
theorem Off.below {l : List Nat} {B : Nat} {w0 w w' : World} (h : Off l w w') (hb : Below B w0 w) (hB : ∀ k, k ∈ l → B ≤ k) (hs : B ≤ w.heap.size) : Below B w0 w' :=
  hb.trans ⟨h.os, h.tape, h.output, h.size, fun k hk => h.block k (by omega) (fun hm => by have := hB k hm; omega)⟩


end Go.Proofs.YtnmnjcjfgbpkaaaDoor
namespace Go.Proofs.YtnmnjcjfgbpkaaaDoor
set_option maxRecDepth 100000
open Go.RowKit

theorem bytes_beq (a b : ByteArray) : decide (a = b) = (a.toList == b.toList) := by
  rw [Bool.eq_iff_iff]
  simp only [decide_eq_true_eq, beq_iff_eq, ByteArray.toList_eq]
  constructor
  · intro h; rw [h]
  · intro h
    cases a; cases b
    simp at h
    rw [h]
/-- The first n bytes as a string. -/
def BA (bs : Nat → Nat) (n : Nat) : ByteArray := ((List.range n).map fun i => (bs i : Int)).foldl (fun r m => r.push (UInt8.ofNat m.toNat)) ByteArray.empty
theorem foldl_push (l : List Int) : ∀ r : ByteArray, (l.foldl (fun r m => r.push (UInt8.ofNat m.toNat)) r).data.toList = r.data.toList ++ l.map fun m => UInt8.ofNat m.toNat := by
  induction l with
  | nil => intro r; simp
  | cons x l ih =>
    intro r
    rw [List.foldl_cons, ih]
    show (r.data.push _).toList ++ _ = _
    simp
theorem BA_list (bs : Nat → Nat) (n : Nat) : (BA bs n).data.toList = (List.range n).map fun i => UInt8.ofNat (bs i) := by
  unfold BA
  rw [foldl_push, show ByteArray.empty.data.toList = [] from rfl]
  simp [Function.comp_def]
theorem BA_eq (f g : Nat → Nat) (n : Nat) (hf : ∀ i, i < n → f i < 256) (hg : ∀ i, i < n → g i < 256) : BA f n = BA g n ↔ ∀ i, i < n → f i = g i := by
  constructor
  · intro h i hi
    have h1 := congrArg (fun a : ByteArray => a.data.toList[i]?) h
    simp only [BA_list, List.getElem?_map, List.getElem?_range hi, Option.map_some, Option.some.injEq] at h1
    have h2 := congrArg UInt8.toNat h1
    simp only [UInt8.toNat_ofNat'] at h2
    have := hf i hi
    have := hg i hi
    omega
  · intro h
    have : (BA f n).data = (BA g n).data := by
      apply Array.toList_inj.1
      rw [BA_list, BA_list]
      apply List.map_congr_left
      intro i hi
      rw [h i (List.mem_range.1 hi)]
    cases hf : BA f n
    cases hg : BA g n
    rw [hf, hg] at this
    simp at this
    rw [this]
theorem conv_str (b off n cap : Nat) (bs : Nat → Nat) (w : World) (hr : Row8 w (some ⟨b, off, none⟩) n cap bs) :
    (convert 43 9 (.slice (some ⟨b, off, none⟩) n cap)).run Tryd.prog w = .ok (.string (BA bs n)) w := by
  rw [run_convert_bytes_string w 43 9 5 _ n cap Tryd.underlying43 Tryd.underlying5 Tryd.underlying9]
  refine run_bytesToString w ⟨b, off, none⟩ n cap ((List.range n).map fun i => (bs i : Int)) ?_
  have h := run_loadCells_list (P := Tryd.prog) w ⟨b, off, none⟩ (((List.range n).map fun i => (bs i : Int)).map (Value.int .u8)) (fun j v hv => by
    simp only [List.getElem?_map] at hv
    by_cases hj : j < n
    · rw [List.getElem?_range hj] at hv
      simp at hv
      rw [← hv]
      exact hr.src _ rfl j hj
    · rw [List.getElem?_eq_none (by simp; omega)] at hv
      simp at hv)
  simpa using h
theorem conv_any (a : Option Addr) (n cap : Nat) (bs : Nat → Nat) (w : World) (hr : Row8 w a n cap bs) :
    (convert 43 9 (.slice a n cap)).run Tryd.prog w = .ok (.string (BA bs n)) w := by
  cases a with
  | none =>
    obtain ⟨rfl, rfl⟩ := hr.nil rfl
    rw [run_convert_bytes_string w 43 9 5 _ 0 0 Tryd.underlying43 Tryd.underlying5 Tryd.underlying9]
    rfl
  | some x =>
    obtain ⟨b, off, spot⟩ := x
    by_cases h0 : n = 0
    · subst h0
      rw [run_convert_bytes_string w 43 9 5 _ 0 cap Tryd.underlying43 Tryd.underlying5 Tryd.underlying9]
      rfl
    · obtain ⟨b', off', he, _, _⟩ := hr.plain (by omega)
      cases he
      exact conv_str b off n cap bs w hr
/-- One operation of a region that draws: it yields a value; it is a call. -/
theorem any_val {P : Program} {ops : Array Oper} {Q : Exit → Act → World → Prop} {K : Act → World → Prop} {a : Act} {w : World} {i : Nat} {o : Oper} (v : Value) (w' : World) (ho : ops[i]? = some o)
    (hw : Region.wanted o (yielded ops a.tmps) = true) (hrun : (execOp a.eval o).run P w = .ok (.value v) w') (h : K (a.put o.dst v) w') : wpOp P ops Q i K a w := by
  unfold wpOp
  simp only [ho, hw, if_true]
  refine .inl ?_
  unfold Oper.wp
  rw [hrun]
  exact h
theorem any_call {P : Program} {ops : Array Oper} {Q : Exit → Act → World → Prop} {K : Act → World → Prop} {a : Act} {w : World} {i : Nat} {o : Oper} (f : FuncId) (args : Array Value) (ho : ops[i]? = some o)
    (hw : Region.wanted o (yielded ops a.tmps) = true) (hrun : (execOp a.eval o).run P w = .ok (.enter f args) w) (hc : Calls P f args w fun e w'' => ∃ v, e = .returned v ∧ K (a.put o.dst v) w'') : wpOp P ops Q i K a w := by
  unfold wpOp
  simp only [ho, hw, if_true]
  refine .inl ?_
  unfold Oper.wp
  rw [hrun]
  refine hc.mono ?_
  rintro e w'' ⟨v, rfl, h⟩
  exact h
theorem wpAny_at {P : Program} {md : Region.Mode} {ops : Array Oper} {Q : Exit → Act → World → Prop} {fuel : Nat} {l l' : Array Bool} {a a' : Act} {w : World} (ha : a = a') (hl : l = l') (h : wpAny P md ops Q fuel l' a' w) : wpAny P md ops Q fuel l a w := by subst ha; subst hl; exact h
theorem wpAny_one {P : Program} {md : Region.Mode} {ops : Array Oper} {Q : Exit → Act → World → Prop} {fuel : Nat} {l : Array Bool} {a : Act} {w : World} {i : Nat} (hr : Region.ready md ops l = [i]) (h : wpOp P ops Q i (wpAny P md ops Q fuel (l.setIfInBounds i true)) a w) : wpAny P md ops Q (fuel + 1) l a w :=
  wpAny_all hr (by simp) (fun j hj => by obtain rfl := List.mem_singleton.1 hj; exact h)
theorem wpAny_two {P : Program} {md : Region.Mode} {ops : Array Oper} {Q : Exit → Act → World → Prop} {fuel : Nat} {l : Array Bool} {a : Act} {w : World} {i j : Nat} (hr : Region.ready md ops l = [i, j]) (h : wpOp P ops Q i (wpAny P md ops Q fuel (l.setIfInBounds i true)) a w) (h2 : wpOp P ops Q j (wpAny P md ops Q fuel (l.setIfInBounds j true)) a w) : wpAny P md ops Q (fuel + 1) l a w :=
  wpAny_all hr (by simp) (fun k hk => by
    rcases List.mem_cons.1 hk with rfl | hk
    · exact h
    · obtain rfl := List.mem_singleton.1 hk; exact h2)

end Go.Proofs.YtnmnjcjfgbpkaaaDoor
namespace Go.Proofs.YtnmnjcjfgbpkaaaDoor
set_option maxRecDepth 100000
open Go.RowKit
set_option maxRecDepth 100000
def natV : Value → Nat
  | .int _ n => n.toNat
  | _ => 0
/-- A text. -/
def tx (l : List UInt8) : ByteArray := ⟨l.toArray⟩
theorem tx_app (a b : List UInt8) : tx a ++ tx b = tx (a ++ b) := by
  apply ByteArray.ext
  rw [ByteArray.data_append]
  simp [tx]
theorem tx_nil : tx [] = ByteArray.mk #[] := rfl
theorem tx_inj {a b : List UInt8} (h : tx a = tx b) : a = b := by
  have := congrArg (fun x => x.data.toList) h
  simpa [tx] using this
theorem tx_size (a : List UInt8) : (tx a).size = a.length := by
  show a.toArray.size = _
  simp
theorem dig_small {u : Nat} (h : u < 10) : Lib.decDigits u = [UInt8.ofNat (48 + u)] := by rw [Lib.decDigits, dif_pos h]
theorem dig_big {u : Nat} (h : ¬ u < 10) : Lib.decDigits u = Lib.decDigits (u / 10) ++ [UInt8.ofNat (48 + u % 10)] := by rw [Lib.decDigits, dif_neg h]
theorem dig_len : ∀ k u, u < 10 ^ (k + 1) → (Lib.decDigits u).length ≤ k + 1
  | 0, u, h => by rw [dig_small (by simpa using h)]; simp
  | k + 1, u, h => by
    by_cases h9 : u < 10
    · rw [dig_small h9]; simp
    · rw [dig_big h9, List.length_append]
      have := dig_len k (u / 10) (by rw [Nat.pow_succ] at h; omega)
      simp
      omega
theorem dig_19 {u : Nat} (h : u ≤ 9223372036854775808) : (Lib.decDigits u).length ≤ 19 := by
  have e : (10 : Nat) ^ 19 = 10000000000000000000 := by decide
  exact dig_len 18 u (by omega)
theorem itoa_len {n : Int} (h0 : -9223372036854775808 ≤ n) (h1 : n ≤ 9223372036854775807) : (Lib.itoa n).length ≤ 20 := by
  unfold Lib.itoa
  split
  · have := dig_19 (u := n.natAbs) (by omega)
    simp
    omega
  · have := dig_19 (u := n.toNat) (by omega)
    omega
theorem itoa_nat (n : Nat) : Lib.itoa ((n : Nat) : Int) = Lib.decDigits n := by
  unfold Lib.itoa
  rw [if_neg (by omega), Int.toNat_natCast]
theorem itoa_least : tx (Lib.itoa (-9223372036854775808)) = ByteArray.mk #[45, 57, 50, 50, 51, 51, 55, 50, 48, 51, 54, 56, 53, 52, 55, 55, 53, 56, 48, 56] := by
  have e : Lib.itoa (-9223372036854775808) = 45 :: Lib.decDigits 9223372036854775808 := rfl
  rw [e, dig_big (by decide), dig_big (by decide), dig_big (by decide), dig_big (by decide), dig_big (by decide), dig_big (by decide), dig_big (by decide), dig_big (by decide), dig_big (by decide), dig_big (by decide), dig_big (by decide), dig_big (by decide), dig_big (by decide), dig_big (by decide), dig_big (by decide), dig_big (by decide), dig_big (by decide), dig_big (by decide), dig_small (by decide)]
  rfl
theorem BA_tx (bs : Nat → Nat) (n : Nat) : BA bs n = tx ((List.range n).map fun i => UInt8.ofNat (bs i)) := by
  apply ByteArray.ext
  apply Array.ext'
  rw [BA_list]
  rfl
/-- One byte as a text. -/
theorem conv_one (w : World) (d : Nat) (hd : d < 256) : (convert 43 9 (.slice (some ⟨w.heap.size, 0, none⟩) 1 1)).run Tryd.prog (w.alloc (.cells #[.int .u8 ((d : Nat) : Int)] 5)) = .ok (.string (tx [UInt8.ofNat d])) (w.alloc (.cells #[.int .u8 ((d : Nat) : Int)] 5)) := by
  have R : Row8 (w.alloc (.cells #[.int .u8 ((d : Nat) : Int)] 5)) (some ⟨w.heap.size, 0, none⟩) 1 1 (fun _ => d) := by
    refine ⟨fun _ _ => hd, (fun h => by cases h), fun x hx i hi => ?_, by omega⟩
    cases hx
    obtain rfl : i = 0 := by omega
    exact cell_of_row _ _ 0 _ _ _ (heap_alloc_new w (.cells #[.int .u8 ((d : Nat) : Int)] 5))
  rw [conv_any _ _ _ _ _ R, BA_tx]
  rfl
end Go.Proofs.YtnmnjcjfgbpkaaaDoor
