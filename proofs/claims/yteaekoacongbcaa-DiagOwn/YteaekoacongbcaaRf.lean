/- The document's log: all records. -/
import Derived.Test.YteaekoacongbcaaDs
namespace Go.Proofs.Yteaekoacongbcaa
open Go.RowKit Go.Maps

/-- The block of a log and its records, each in a block of V. -/
structure RG (w : World) (p : Nat) (V : List Nat) (v : Value) (L : List R4) : Prop where
  at_ : w.heap[p]? = some (.cells #[v] 28 (0, 0))
  own : w.ownsRow 0 32 4 v L.length (rvs L)
  pV : p ∈ V
  vV : ∀ k, v.ownBlock = some k → k ∈ V ∧ k ≠ p
  lt : ∀ k, k ∈ V → k < w.heap.size
  nl : L.length = 0 → v = .slice none 0 0
theorem own_off' {l : List Nat} {w w' : World} {B e size n : Nat} {v : Value} {xs : List Value} (h : w.ownsRow B e size v n xs) (ho : Off l w w') (hl : ∀ k, v.ownBlock = some k → k ∉ l) : w'.ownsRow B e size v n xs := by
  refine ⟨h.1, ?_⟩
  rcases h.2 with hn | ⟨g, cap, cur, rfl, hg, hgg, rest⟩
  · exact .inl hn
  · exact .inr ⟨g, cap, cur, rfl, hg, by rw [ho.block g (Array.getElem?_eq_some_iff.1 hgg).1 (hl g rfl)]; exact hgg, rest⟩
theorem RG.off {l : List Nat} {w w' : World} {p : Nat} {V : List Nat} {v : Value} {L : List R4} (h : RG w p V v L) (ho : Off l w w') (hl : ∀ k, k ∈ V → k ∉ l) : RG w' p V v L where
  at_ := (ho.block p (h.lt p h.pV) (hl _ h.pV)).trans h.at_
  own := own_off' h.own ho (fun k hk => hl _ (h.vV k hk).1)
  pV := h.pV
  vV := h.vV
  lt := fun k hk => Nat.lt_of_lt_of_le (h.lt k hk) ho.size
  nl := h.nl
theorem RG.below {w w' : World} {p : Nat} {V : List Nat} {v : Value} {L : List R4} (h : RG w p V v L) (ho : Below w.heap.size w w') : RG w' p V v L := h.off (l := []) (Off.of_below ho) (fun _ _ => by simp)
theorem RG.c0 {w : World} {p : Nat} {V : List Nat} {v : Value} {L : List R4} (h : RG w p V v L) : w.cell? ⟨p, 0, none⟩ = some v := cell_at h.at_ rfl
theorem RG.fz {w : World} {p : Nat} {V : List Nat} {v : Value} {L : List R4} (h : RG w p V v L) (j : Nat) : w.frozen? ⟨p, j, none⟩ = false := frozen_of_row w p j _ _ h.at_

set_option maxHeartbeats 1600000 in
set_option maxRecDepth 100000 in
theorem rcount_any (p : Nat) (V : List Nat) (v : Value) (L : List R4) (c : Int) (w : World) (h : RG w p V v L) (hn : L.length < 1000000) :
    Calls Try.prog 20 #[.pointer (some ⟨p, 0, none⟩), .int .i64 c] w fun e w' => e = .returned (.int .i64 (cnt L c : Nat)) ∧ w' = w := by
  have c0 := h.c0
  obtain ⟨a, cap, rfl, _, hcs⟩ := own_cells4 h.own
  have HC : Hid (_) := hcs
  clear hcs h
  obtain ⟨n, en⟩ : ∃ n, n = L.length := ⟨_, rfl⟩
  have HN : Hid (n = L.length) := en
  rw [← en] at c0 hn
  clear en
  go_enter Try.func20, Try.ntmps20
  go_wp2_with fail
  go_loopw [5, 6] (fun s x wr => ∃ i, i ≤ n ∧ x = .int .i64 ((i : Nat) : Int) ∧ s = .int .i64 ((cnt (L.take i) c : Nat) : Int) ∧ wr = w) (fun _ x _ => n - (intOf x).toNat)
  case atStart => exact ⟨0, by omega, rfl, rfl, rfl⟩
  case round =>
    obtain ⟨i, hi, rfl, rfl, rfl⟩ := hrel
    by_cases hlt : i < n
    · have hil : i < L.length := by rw [← HN.out]; exact hlt
      obtain ⟨g, rfl, _, _, d0, d1, d2, d3⟩ := HC.out i hil
      have HS : Hid (cnt (L.take (i + 1)) c = cnt (L.take i) c + if L[i].2.1 = c then 1 else 0) := by
        show _ = _
        rw [List.take_succ_eq_append_getElem hil, cnt_snoc]
      have hle : cnt (L.take i) c ≤ i := Nat.le_trans (cnt_le _ _) (by simp; omega)
      clear d0 d2 d3
      generalize L[i].2.1 = y at *
      generalize cnt (L.take i) c = q at *
      have e1 : IntKind.i64.wrap ((q : Int) + 1) = ((q + 1 : Nat) : Int) := by rw [IntKind.wrap_i64]; omega
      by_cases hy : y = c
      · subst hy
        go_wp2_with fail
        go_roundw
        case rel => exact ⟨i + 1, by omega, by go_num, by rw [HS.out, if_pos rfl]; go_num, by trivial⟩
        case measure => simp [intOf] <;> omega
      · have hy' : (y == c) = false := by simp [hy]
        go_wp2_with fail
        go_roundw
        case rel => exact ⟨i + 1, by omega, by go_num, by rw [HS.out, if_neg hy]; simp, by trivial⟩
        case measure => simp [intOf] <;> omega
    · obtain rfl : i = n := by omega
      have e : L.take i = L := List.take_of_length_le (by have := HN.out; omega)
      rw [e]
      go_wp2_with fail
      go_ret
      exact ⟨rfl, rfl⟩
end Go.Proofs.Yteaekoacongbcaa
