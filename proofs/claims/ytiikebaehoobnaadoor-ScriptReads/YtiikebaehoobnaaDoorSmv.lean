/- Layer 20: the document's Move. (gensmv.py) -/
import Derived.Test.YtiikebaehoobnaaDoorSj
import Derived.Test.YtiikebaehoobnaaDoorShx
namespace Go.Proofs.YtiikebaehoobnaaDoor
set_option maxRecDepth 100000
open Go.RowKit Go.Maps
set_option maxRecDepth 100000
theorem join_snoc (x : List UInt8) : ∀ ls : List (List UInt8), ls ≠ [] → Lib.join (ls ++ [x]) [32] = Lib.join ls [32] ++ [32] ++ x
  | [], h => absurd rfl h
  | [a], _ => by simp [Lib.join, List.intercalate]
  | a :: b :: t, _ => by
    have h := join_snoc x (b :: t) (by simp)
    have e1 : Lib.join (a :: b :: t ++ [x]) [32] = a ++ [32] ++ Lib.join (b :: t ++ [x]) [32] := by simp [Lib.join, List.intercalate]
    have e2 : Lib.join (a :: b :: t) [32] = a ++ [32] ++ Lib.join (b :: t) [32] := by simp [Lib.join, List.intercalate]
    rw [e1, e2, h]
    simp
/-- One text behind another: what the walk wants. -/
theorem catS {a b : List UInt8} {A B : ByteArray} (hA : tx a = A) (hB : tx b = B) : ∃ C, A ++ B = C ∧ tx (a ++ b) = C ∧ C.size = A.size + B.size := ⟨_, rfl, by rw [← tx_app, hA, hB], sz_app _ _⟩
def Mv.j1 (m : Mv) : List UInt8 := Lib.join m.w1 [32]
def Mv.j2 (m : Mv) : List UInt8 := Lib.join (m.w1 ++ m.w2) [32]
theorem Mv.j1_eq (m : Mv) : m.j1 = kws.getD m.k.toNat [] ++ [32] ++ Lib.itoa m.c := by simp [Mv.j1, Mv.w1, Lib.join, List.intercalate]
theorem Mv.j2_eq (m : Mv) : m.j2 = m.j1 ++ (if sided m.k then (if m.s = 1 then [32, 104] else [32, 100]) else []) := by
  unfold Mv.j2 Mv.w2
  cases sided m.k with
  | false => simp [Mv.j1]
  | true =>
    simp only [if_true]
    rw [join_snoc _ _ (by simp [Mv.w1])]
    unfold Mv.j1
    split <;> simp
theorem Mv.j1_len {m : Mv} (h : m.Ok) : m.j1.length ≤ 28 := by
  rw [m.j1_eq]
  have h1 := kws_len m.k.toNat
  have h2 := itoa_len h.c.1 h.c.2
  simp only [List.length_append, List.length_cons, List.length_nil]
  omega
theorem Mv.j2_len {m : Mv} (h : m.Ok) : m.j2.length ≤ 30 := by
  have h1 := Mv.j1_len h
  rw [m.j2_eq]
  repeat' split
  all_goals simp
  all_goals omega
theorem Mv.w12 (m : Mv) : m.w1 ++ m.w2 ≠ [] := by simp [Mv.w1]
theorem Mv.line1 (m : Mv) (hk : m.k = 1) : m.line = m.j2 ++ [32, 120] ++ hx m.l m.b ++ (if m.h then [32, 104, 111, 108, 100] else []) := by
  have hn : m.ns = [] := by unfold Mv.ns; simp [hk]
  have e : m.ws = m.w1 ++ m.w2 ++ [120 :: hx m.l m.b] ++ (if m.h then [[104, 111, 108, 100]] else []) := by
    unfold Mv.ws Mv.w3 Mv.w4
    rw [hn, if_pos hk]
    simp
  unfold Mv.line
  rw [e]
  cases m.h with
  | false => simp only [Bool.false_eq_true, if_false, List.append_nil]; rw [join_snoc _ _ m.w12]; simp [Mv.j2]
  | true => simp only [if_true]; rw [join_snoc _ _ (by simp), join_snoc _ _ m.w12]; simp [Mv.j2]
theorem Mv.line_ns (m : Mv) (hk : m.k ≠ 1) : m.line = Lib.join (m.w1 ++ m.w2 ++ m.ns.map Lib.itoa) [32] := by
  unfold Mv.line Mv.ws Mv.w3 Mv.w4
  rw [if_neg hk]
  simp
theorem Mv.line3 (m : Mv) (hk : m.k = 3) : m.line = m.j2 ++ [32] ++ Lib.itoa m.f := by
  rw [m.line_ns (by omega), show m.ns = [m.f] by unfold Mv.ns; simp [hk]]
  show Lib.join (m.w1 ++ m.w2 ++ [Lib.itoa m.f]) [32] = _
  rw [join_snoc _ _ m.w12]
  rfl
theorem Mv.line4 (m : Mv) (hk : m.k = 4) : m.line = m.j2 ++ [32] ++ Lib.itoa m.f ++ [32] ++ Lib.itoa m.a ++ [32] ++ Lib.itoa ((m.w : Nat) : Int) := by
  rw [m.line_ns (by omega), show m.ns = [m.f, m.a, ((m.w : Nat) : Int)] by unfold Mv.ns; simp [hk]]
  have e : m.w1 ++ m.w2 ++ [m.f, m.a, ((m.w : Nat) : Int)].map Lib.itoa = m.w1 ++ m.w2 ++ [Lib.itoa m.f] ++ [Lib.itoa m.a] ++ [Lib.itoa ((m.w : Nat) : Int)] := by simp
  rw [e, join_snoc _ _ (by simp), join_snoc _ _ (by simp), join_snoc _ _ m.w12]
  rfl
theorem Mv.line5 (m : Mv) (hk : m.k = 5 ∨ m.k = 7 ∨ m.k = 8) : m.line = m.j2 ++ [32] ++ Lib.itoa m.n := by
  rw [m.line_ns (by omega), show m.ns = [m.n] by unfold Mv.ns; rw [if_neg (by omega), if_neg (by omega), if_pos hk]]
  show Lib.join (m.w1 ++ m.w2 ++ [Lib.itoa m.n]) [32] = _
  rw [join_snoc _ _ m.w12]
  rfl
theorem Mv.line2 (m : Mv) (hk : m.k = 2 ∨ m.k = 6) : m.line = m.j2 := by
  rw [m.line_ns (by omega), show m.ns = [] by unfold Mv.ns; rw [if_neg (by omega), if_neg (by omega), if_neg (by omega)]]
  simp [Mv.j2]
/-- The names. -/
theorem nms (w : World) (i : Nat) {l : List UInt8} (h : kws[i]? = some l) : (w.alloc (.cells #[.string (ByteArray.mk #[]), .string (ByteArray.mk #[119, 114, 105, 116, 101]), .string (ByteArray.mk #[115, 101, 110, 100]), .string (ByteArray.mk #[100, 101, 108, 105, 118, 101, 114]), .string (ByteArray.mk #[103, 97, 114, 98, 108, 101]), .string (ByteArray.mk #[116, 105, 99, 107]), .string (ByteArray.mk #[97, 99, 107]), .string (ByteArray.mk #[114, 101, 115, 101, 116]), .string (ByteArray.mk #[99, 117, 116])] 9)).cell? ⟨w.heap.size, i, none⟩ = some (.string (tx l)) := by
  rw [cell_of_row _ w.heap.size i _ _ _ (heap_alloc_new w (.cells #[.string (ByteArray.mk #[]), .string (ByteArray.mk #[119, 114, 105, 116, 101]), .string (ByteArray.mk #[115, 101, 110, 100]), .string (ByteArray.mk #[100, 101, 108, 105, 118, 101, 114]), .string (ByteArray.mk #[103, 97, 114, 98, 108, 101]), .string (ByteArray.mk #[116, 105, 99, 107]), .string (ByteArray.mk #[97, 99, 107]), .string (ByteArray.mk #[114, 101, 115, 101, 116]), .string (ByteArray.mk #[99, 117, 116])] 9))]
  have e : (#[.string (ByteArray.mk #[]), .string (ByteArray.mk #[119, 114, 105, 116, 101]), .string (ByteArray.mk #[115, 101, 110, 100]), .string (ByteArray.mk #[100, 101, 108, 105, 118, 101, 114]), .string (ByteArray.mk #[103, 97, 114, 98, 108, 101]), .string (ByteArray.mk #[116, 105, 99, 107]), .string (ByteArray.mk #[97, 99, 107]), .string (ByteArray.mk #[114, 101, 115, 101, 116]), .string (ByteArray.mk #[99, 117, 116])] : Array Value) = (kws.map fun l => .string (tx l)).toArray := rfl
  rw [e, List.getElem?_toArray, List.getElem?_map, h]
  rfl
end Go.Proofs.YtiikebaehoobnaaDoor
