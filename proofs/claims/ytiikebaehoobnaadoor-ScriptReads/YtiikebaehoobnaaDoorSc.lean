/- Layer 20: Join of words of our own; a set's words, the program's and the document's. -/
import Derived.Test.YtiikebaehoobnaaDoorSb
import Derived.Deep.RegionHeld3
namespace Go.Proofs.YtiikebaehoobnaaDoor
set_option maxRecDepth 100000
open Go.RowKit Go.Maps
set_option maxRecDepth 100000
theorem own_cellsS {w : World} {B e n g c : Nat} {xs : List Value} (h : w.ownsRow B e 1 (.slice (some ⟨g, 0, none⟩) n c) n xs) : (∀ j u, xs[j]? = some u → w.cell? ⟨g, j, none⟩ = some u) ∧ g < w.heap.size ∧ n ≤ c ∧ xs.length = n := by
  have hl := h.1
  rcases h.2 with ⟨e, _⟩ | ⟨g', cap, cur, e, hg, hgg, h1, h2, h3, h4⟩
  · cases e
  · simp only [Value.slice.injEq, Option.some.injEq, Addr.mk.injEq] at e
    obtain ⟨⟨rfl, _⟩, _, rfl⟩ := e
    refine ⟨fun j u hu => ?_, (Array.getElem?_eq_some_iff.1 hgg).1, h1, by simpa using hl⟩
    have hj : j < n := by
      have := (List.getElem?_eq_some_iff.1 hu).1
      simp at hl
      omega
    rw [cell_of_row w g j _ _ _ hgg, ← hu, ← h4, List.getElem?_take_of_lt (by omega), Array.getElem?_toList]
/-- Join of words of our own, a text between two. -/
theorem pjoinS {w : World} {B g n c : Nat} (ls : List (List UInt8)) (s : List UInt8) (o : w.ownsRow B 9 1 (.slice (some ⟨g, 0, none⟩) n c) n (ls.map fun l => .string (tx l))) (hn : n ≤ 1000000) (hL : (Lib.join ls s).length ≤ 140737488355328) :
    Calls Tryd.prog 57 #[.slice (some ⟨g, 0, none⟩) n c, .string (tx s)] w fun r w' => r = .returned (.string (tx (Lib.join ls s))) ∧ Below w.heap.size w w' := by
  obtain ⟨hc, hg, hnc, hl⟩ := own_cellsS o
  have hl' : ls.length = n := by simpa using hl
  have e1 : (ls.map tx).length = n := by simpa using hl'
  have e2 : (ls.map tx).map (·.data.toList) = ls := by
    rw [List.map_map]
    have : ((fun x : ByteArray => x.data.toList) ∘ tx) = id := by
      funext l
      simp [tx]
    rw [this, List.map_id]
  have e3 : (tx s).data.toList = s := by simp [tx]
  have h := Tryd.strings_Join g 0 c (ls.map tx) (tx s) w (fun j x hx => by
    rw [Nat.zero_add]
    refine hc j _ ?_
    rw [List.getElem?_map] at hx ⊢
    cases e : ls[j]? with
    | none => rw [e] at hx; cases hx
    | some l => rw [e] at hx; simp at hx; rw [← hx]; rfl) hg (by omega) (by omega) (by rw [e2, e3]; exact hL)
  rw [e1, e2, e3] at h
  exact h
/-- Join of words of our own, a blank between two. -/
theorem pjoin {w : World} {B g n c : Nat} (ls : List (List UInt8)) (o : w.ownsRow B 9 1 (.slice (some ⟨g, 0, none⟩) n c) n (ls.map fun l => .string (tx l))) (hn : n ≤ 1000000) (hL : (Lib.join ls [32]).length ≤ 140737488355328) :
    Calls Tryd.prog 57 #[.slice (some ⟨g, 0, none⟩) n c, .string (ByteArray.mk #[32])] w fun r w' => r = .returned (.string (tx (Lib.join ls [32]))) ∧ Below w.heap.size w w' := pjoinS ls [32] o hn hL
/-- A set. -/
structure Ps where
  c : Nat
  o : Int
  i : Int
  t : Int
  n : Nat
structure Ps.Ok (p : Ps) : Prop where
  c : p.c < 4294967296
  n : p.n < 4294967296
  o : -9223372036854775808 ≤ p.o ∧ p.o ≤ 9223372036854775807
  i : -9223372036854775808 ≤ p.i ∧ p.i ≤ 9223372036854775807
  t : -9223372036854775808 ≤ p.t ∧ p.t ≤ 9223372036854775807
/-- A set's words. -/
def Ps.ws (p : Ps) : List (List UInt8) := [Lib.itoa ((p.c : Nat) : Int), Lib.itoa p.o, Lib.itoa p.i, Lib.itoa p.t, Lib.itoa ((p.n : Nat) : Int)]
def Ps.line (p : Ps) : List UInt8 := Lib.join p.ws [32]
theorem Ps.line_eq (p : Ps) : p.line = Lib.itoa ((p.c : Nat) : Int) ++ [32] ++ Lib.itoa p.o ++ [32] ++ Lib.itoa p.i ++ [32] ++ Lib.itoa p.t ++ [32] ++ Lib.itoa ((p.n : Nat) : Int) := by
  simp [Ps.line, Ps.ws, Lib.join, List.intercalate]
theorem Ps.len {p : Ps} (h : p.Ok) : p.line.length ≤ 104 := by
  rw [p.line_eq]
  have h1 := itoa_len (n := ((p.c : Nat) : Int)) (by omega) (by have := h.c; omega)
  have h2 := itoa_len h.o.1 h.o.2
  have h3 := itoa_len h.i.1 h.i.2
  have h4 := itoa_len h.t.1 h.t.2
  have h5 := itoa_len (n := ((p.n : Nat) : Int)) (by omega) (by have := h.n; omega)
  simp
  omega
def Ps.z (p : Ps) (i : Nat) : Int := [((p.c : Nat) : Int), p.o, p.i, p.t, ((p.n : Nat) : Int)].getD i 0
theorem Ps.sL (p : Ps) : sL 5 p.z = p.ws.map fun l => .string (tx l) := rfl
set_option maxHeartbeats 1000000 in
theorem pparam (p : Ps) (hp : p.Ok) (w : World) (L : Lp w) : Calls Tryd.prog 48 #[.agg #[.int .u32 (p.c : Nat), .int .i64 p.o, .int .i64 p.i, .int .i64 p.t, .int .u32 (p.n : Nat)]] w fun r w' => r = .returned (.string (tx p.line)) ∧ Below w.heap.size w w' := by
  obtain ⟨W, hW⟩ : ∃ W : World, (w.alloc (.cells #[.int .u32 (p.c : Nat), .int .i64 p.o, .int .i64 p.i, .int .i64 p.t, .int .u32 (p.n : Nat)] 63)).alloc (.cells #[.int .i64 ((p.c : Nat) : Int), .int .i64 p.o, .int .i64 p.i, .int .i64 p.t, .int .i64 ((p.n : Nat) : Int)] 3) = W := ⟨_, rfl⟩
  have bW : Below w.heap.size w W := by rw [← hW]; exact belA (belA (Below.refl _ _) _) _
  have eW : W.heap[w.heap.size + 1]? = some (.cells #[.int .i64 ((p.c : Nat) : Int), .int .i64 p.o, .int .i64 p.i, .int .i64 p.t, .int .i64 ((p.n : Nat) : Int)] 3 (0, 0)) := by
    rw [← hW]
    have := heap_alloc_new (w.alloc (.cells #[.int .u32 (p.c : Nat), .int .i64 p.o, .int .i64 p.i, .int .i64 p.t, .int .u32 (p.n : Nat)] 63)) (.cells #[.int .i64 ((p.c : Nat) : Int), .int .i64 p.o, .int .i64 p.i, .int .i64 p.t, .int .i64 ((p.n : Nat) : Int)] 3)
    simpa using this
  have hR : NRow W (some ⟨w.heap.size + 1, 0, none⟩) 5 p.z := fun i hi => by
    refine ⟨_, _, rfl, ?_⟩
    rw [Nat.zero_add, cell_of_row W _ i _ _ _ eW]
    have : i = 0 ∨ i = 1 ∨ i = 2 ∨ i = 3 ∨ i = 4 := by omega
    rcases this with rfl | rfl | rfl | rfl | rfl <;> rfl
  have hz : ∀ i, i < 5 → -9223372036854775808 ≤ p.z i ∧ p.z i ≤ 9223372036854775807 := fun i hi => by
    have : i = 0 ∨ i = 1 ∨ i = 2 ∨ i = 3 ∨ i = 4 := by omega
    have h1 := hp.c
    have h2 := hp.n
    rcases this with rfl | rfl | rfl | rfl | rfl
    · show -9223372036854775808 ≤ ((p.c : Nat) : Int) ∧ ((p.c : Nat) : Int) ≤ 9223372036854775807
      omega
    · exact hp.o
    · exact hp.i
    · exact hp.t
    · show -9223372036854775808 ≤ ((p.n : Nat) : Int) ∧ ((p.n : Nat) : Int) ≤ 9223372036854775807
      omega
  have hD := pdecimals (some ⟨w.heap.size + 1, 0, none⟩) 5 5 p.z W hR hz (by omega) (L.below bW)
  have hlen := p.len hp
  have w1 : IntKind.i64.wrap ((p.c : Nat) : Int) = ((p.c : Nat) : Int) := by have := hp.c; rw [IntKind.wrap_i64]; omega
  have w2 : IntKind.i64.wrap ((p.n : Nat) : Int) = ((p.n : Nat) : Int) := by have := hp.n; rw [IntKind.wrap_i64]; omega
  have HB : Hid (_) := bW
  clear hR hz L bW eW hp
  go_enter Tryd.func48, Tryd.ntmps48
  go_wp2_with fail
  try rw [hW]
  clear hW
  refine hD.mono ?_
  clear hD
  rintro r w2' ⟨v, rfl, h⟩
  obtain ⟨o, _, b2⟩ := h.out
  obtain ⟨g, cap, rfl, _⟩ := own_slcS o
  rw [p.sL] at o
  have hJ := pjoin p.ws o (by omega) (by show p.line.length ≤ _; omega)
  have HB2 : Hid (Below w.heap.size w w2') := HB.out.trans (b2.mono HB.out.size)
  clear o b2 h HB
  go_wp2_with fail
  refine hJ.mono ?_
  clear hJ
  rintro r w3 ⟨rfl, b3⟩
  have HB3 : Hid (Below w.heap.size w w3) := HB2.out.trans (b3.mono HB2.out.size)
  go_wp2_with fail
  go_ret
  exact ⟨rfl, HB3.out⟩
end Go.Proofs.YtiikebaehoobnaaDoor
