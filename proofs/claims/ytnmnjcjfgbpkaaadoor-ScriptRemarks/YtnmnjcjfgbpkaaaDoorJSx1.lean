/- Layer 20: Read and Head of any words, both sides; words copied; words that come in. -/
import Derived.Test.YtnmnjcjfgbpkaaaDoorJSw1
import Derived.Test.YtnmnjcjfgbpkaaaDoorJSw6
import Derived.Test.YtnmnjcjfgbpkaaaDoorJAgg3
import Derived.Test.YtnmnjcjfgbpkaaaDoorJSw6h
import Derived.Test.YtnmnjcjfgbpkaaaDoorJSw6d
import Derived.SliceStrings
namespace Go.Proofs.YtnmnjcjfgbpkaaaDoor
set_option maxRecDepth 100000
open Go.RowKit Go.Maps
set_option maxRecDepth 100000
set_option linter.unusedVariables false
theorem WsRow.at_ {w : World} {g o N : Nat} {L : Nat → List UInt8} (h : WsRow w (some ⟨g, o, none⟩) N L) : ∀ i, i < N → w.cell? ⟨g, o + i, none⟩ = some (.string (tx (L i))) := fun i hi => by
  obtain ⟨g', o', e, q⟩ := h i hi
  cases e
  exact q
theorem pread (aw : Option Addr) (N C : Nat) (hNC : N ≤ C) (hC : C ≤ 9223372036854775807) (L : Nat → List UInt8) (hL : ∀ i, i < N → (L i).length ≤ 281474976710656) (w : World) (Lv : Lw w) (h : WsRow w aw N L) : Calls Tryd.prog 20 #[.slice aw N C] w (RdP (rdM N L) (rdEr N L) w) := by
  by_cases h0 : N = 0
  · subst h0
    exact pread0 aw C L w
  · obtain ⟨g, o, rfl, _⟩ := h 0 (by omega)
    exact pread1 g o N (N - 1) C (C - 1) (by omega) (by omega) (by omega) hC L hL w Lv h.at_
theorem rread (aw : Option Addr) (N C : Nat) (hN : N ≤ 1000000) (L : Nat → List UInt8) (w : World) (h : WsRow w aw N L) : Calls Tryd.prog 25 #[.slice aw N C] w (RdP (rdM N L) (rdEr N L) w) := by
  by_cases h0 : N = 0
  · subst h0
    exact rread0 aw C L w
  · obtain ⟨g, o, rfl, _⟩ := h 0 (by omega)
    exact rread1 g o N (N - 1) C (by omega) L w h.at_ (by omega)
/-- The words as values. -/
def wsV (N : Nat) (L : Nat → List UInt8) : List Value := (List.range N).map fun i => .string (tx (L i))
theorem wsV_len (N : Nat) (L : Nat → List UInt8) : (wsV N L).length = N := by simp [wsV]
theorem wsV_get (N : Nat) (L : Nat → List UInt8) (i : Nat) (h : i < N) : (wsV N L)[i]? = some (.string (tx (L i))) := by simp [wsV, h]
theorem wsV_one (N : Nat) (L : Nat → List UInt8) : ∀ u ∈ wsV N L, u.oneCell' = true := fun u hu => by
  obtain ⟨i, _, rfl⟩ := List.mem_map.1 hu
  rfl
theorem WsRow.src {w : World} {x : Addr} {N : Nat} {L : Nat → List UInt8} (h : WsRow w (some x) N L) : ∀ j u, (wsV N L)[j]? = some u → w.cell? (x.add j) = some u := fun j u hu => by
  have hj : j < N := by
    have := (List.getElem?_eq_some_iff.1 hu).1
    rw [wsV_len] at this
    exact this
  obtain ⟨g, o, e, q⟩ := h j hj
  cases e
  rw [wsV_get N L j hj] at hu
  cases hu
  rw [Go.WideShapes.add_plain]
  exact q
theorem own_ws {w : World} {B N g c : Nat} {L : Nat → List UInt8} (h : w.ownsRow B 9 1 (.slice (some ⟨g, 0, none⟩) N c) N (wsV N L)) : WsRow w (some ⟨g, 0, none⟩) N L := fun i hi => by
  obtain ⟨h1, _⟩ := own_cellsS h
  exact ⟨g, 0, rfl, by rw [Nat.zero_add]; exact h1 i _ (wsV_get N L i hi)⟩
/-- 'append([]string{}, words...)'. -/
theorem ownS0 (w : World) : (w.alloc (.cells #[] 9)).ownsRow w.heap.size 9 1 (.slice (some ⟨w.heap.size, 0, none⟩) 0 0) 0 [] := World.ownsRow_made w #[] 0 (Nat.le_refl _) (Nat.zero_le _) rfl
theorem wpList_copyS {ops : Array Oper} {rest : List Oper} {o : Oper} {a : Act} {w : World} {Q : Exit → Act → World → Prop} (hgd : o.guard = none) (s x : Operand) (ho : o.op = .call { callee := .builtin .append, args := #[s, x], argTypes := #[51, 51] }) (hs : a.eval s = .slice (some ⟨w.heap.size, 0, none⟩) 0 0) (aw : Option Addr) (N C : Nat) (L : Nat → List UInt8) (hx : a.eval x = .slice aw N C) (hr : WsRow w aw N L) (hn : aw = none → N = 0 ∧ C = 0) (hN : N ≤ 1000000)
    (h : ∀ g c w', Hid (w'.ownsRow w.heap.size 9 1 (.slice (some ⟨g, 0, none⟩) N c) N (wsV N L) ∧ N ≤ c ∧ c ≤ 9223372036854775807 ∧ Below w.heap.size w w') → wpList Tryd.prog ops Q rest (a.put o.dst (.slice (some ⟨g, 0, none⟩) N c)) w') :
    wpList Tryd.prog ops Q (o :: rest) a (w.alloc (.cells #[] 9)) := by
  obtain ⟨i0, hI, hz0, hz1, hz2⟩ := info_parts info_str
  have bA := belA (Below.refl _ w) (.cells #[] 9)
  have fin : ∀ v' w', w'.ownsRow w.heap.size 9 1 v' N (wsV N L) → Below w.heap.size w w' → v' ≠ .slice none 0 0 → wpList Tryd.prog ops Q rest (a.put o.dst v') w' := fun v' w' o' b' hv => by
    rcases o'.2 with ⟨e, _⟩ | ⟨g, cap, cur, e, _, _, h1, h2, _⟩
    · exact absurd e hv
    · subst e
      exact h g cap w' ⟨o', h1, by unfold maxLen at h2; omega, b'⟩
  cases aw with
  | none =>
    obtain ⟨rfl, rfl⟩ := hn rfl
    refine wpList_append_own_none hgd s x 51 ho w.heap.size 9 i0 1 Tryd.underlying51 hI _ 0 [] hs (ownS0 w) hx ?_
    exact fin _ _ (ownS0 w) bA (by simp)
  | some ad =>
    refine wpList_append_own_at _ hgd s x 51 ho w.heap.size 9 i0 (.string (ByteArray.mk #[])) 1 16 Tryd.underlying51 hI hz0 hz1 hz2 rfl (by decide) _ 0 [] hs (ownS0 w) ad N C (wsV N L) hx (by rw [wsV_len, Nat.mul_one]) (hr.below bA).src (wsV_one N L) (by unfold maxLen; omega) (by omega) bA.size ?_
    intro v' w' o' g' e' _
    rw [Nat.zero_add, List.nil_append] at o'
    exact fin v' w' o' (bA.grown g' bA.size (fun k hk => ((ownS0 w).lt k hk).1)) (fun e => by have := e'.1 e; simp at this)
/-- Words that come in. -/
theorem open_ws {H : Type} {enc : TypeId × Value → H} {w : World} {base : Nat} {spare : Nat → Bool} {held : Bool} {a : Option Addr} {len cap j : Nat} {d : DataW H} {p : List MemPlace} {ts : List TypeId} {ds : List (DataW H)} (h : DataW.Trod enc Tryd.prog w base spare held 51 (.slice a len cap) d p)
    (hz : (DataW.weightsEach Tryd.prog ts ds).all (· ≤ reachBytes) = true) (ht : ts[j]? = some 51) (hd : ds[j]? = some d) : len ≤ cap ∧ cap ≤ 9223372036854775807 ∧ (a = none → len = 0 ∧ cap = 0) ∧ ∃ L, WsRow w a len L ∧ ∀ i, i < len → (L i).length ≤ 281474976710656 := by
  obtain ⟨fuel, hf⟩ := h
  have hw : ∀ n ∈ d.weights Tryd.prog 51, n ≤ reachBytes := fun n hn => by
    have := List.all_eq_true.1 hz _ (DataW.weights_mem_each ht hd n hn)
    simpa using this
  rcases Go.ChangeShapes.open_strings Tryd.underlying51 Tryd.underlying9 (by kernel_rfl) hf with ⟨hcs, hx⟩ | ⟨y, l, cp, ss, hcs, _, hl, hm, hz, hx, hcell, hsz⟩
  · simp [Value.cells] at hcs
    obtain ⟨rfl, rfl, rfl⟩ := hcs
    exact ⟨Nat.le_refl _, by omega, fun _ => ⟨rfl, rfl⟩, fun _ => [], fun i hi => by omega, fun i hi => by omega⟩
  · simp [Value.cells] at hcs
    obtain ⟨rfl, rfl, rfl⟩ := hcs
    simp only [Prod.mk.injEq] at hx
    rw [hx.1] at hw
    have hlm : len ≤ ss.length := by rw [hz]; split <;> omega
    refine ⟨hl, by unfold maxLen at hm; omega, fun e => (by cases e), fun i => (ss.getD i ByteArray.empty).data.toList, fun i hi => ?_, fun i hi => ?_⟩
    · have h0 := hcell i (by omega)
      have hc0 := hcell 0 (by omega)
      obtain ⟨b, off, spot⟩ := y
      have hspot : spot = none := by simpa [Addr.add] using World.cell?_spot hc0
      subst hspot
      rw [Go.WideShapes.add_plain] at h0
      refine ⟨b, off, rfl, ?_⟩
      rw [h0]
      simp [tx]
    · have hmem : (ss.getD i ByteArray.empty).data.toList.length ∈ DataW.weights Tryd.prog 51 (DataW.slice (Go.ChangeShapes.strs (ss.take len)) (Go.ChangeShapes.strs (ss.drop len)) : DataW H) := by
        simp only [DataW.weights, Tryd.underlying51, List.mem_cons, List.mem_append]
        refine .inr (.inl (mem_weightsN (d := .lit (.string (ss.getD i ByteArray.empty).data.toList)) (by simp [DataW.weights]) ?_))
        unfold Go.ChangeShapes.strs
        refine List.mem_map.2 ⟨ss.getD i ByteArray.empty, ?_, rfl⟩
        rw [List.getD_eq_getElem?_getD, List.getElem?_eq_getElem (by omega)]
        exact List.mem_of_getElem? (i := i) (by rw [List.getElem?_take, if_pos hi]; exact List.getElem?_eq_getElem (by omega))
      have := hw _ hmem
      unfold reachBytes at this
      show (ss.getD i ByteArray.empty).data.toList.length ≤ _
      omega
end Go.Proofs.YtnmnjcjfgbpkaaaDoor
namespace Go.Proofs.YtnmnjcjfgbpkaaaDoor
set_option maxRecDepth 100000
open Go.RowKit Go.Maps
set_option maxRecDepth 100000
set_option linter.unusedVariables false
theorem rhead (Z : Nt) (hz0 : Z.l0 ≤ 1000000) (hz1 : Z.l1 ≤ 1000000) (a0 a1 : Option Addr) (c0 c1 : Nat) (n0 : a0 = none → Z.l0 = 0 ∧ c0 = 0) (n1 : a1 = none → Z.l1 = 0 ∧ c1 = 0) (aw : Option Addr) (N C : Nat) (L : Nat → List UInt8) (w : World) (h0 : PRow w a0 Z.l0 Z.P0) (h1 : PRow w a1 Z.l1 Z.P1) (h : WsRow w aw N L) : Calls Tryd.prog 24 #[.agg #[.slice a0 Z.l0 c0, .slice a1 Z.l1 c1, .int .u32 (Z.ms : Nat)], .slice aw N C] w (HrP (Z.hd N L) (hdIs N L) (hdEr N L) w) := by
  by_cases hh : hdIs N L = true
  · have hW := hh
    unfold hdIs at hW
    simp only [Bool.and_eq_true, decide_eq_true_eq] at hW
    obtain ⟨g, o, rfl, _⟩ := h 0 hW.1
    unfold Nt.hd hdEr
    rw [if_pos hh, if_pos hh, hh]
    have hd := hW.2
    unfold hdW at hd
    simp only [Bool.or_eq_true, beq_iff_eq] at hd
    rcases hd with (e | e) | e
    · exact rhead_net Z a0 a1 c0 c1 n0 n1 g o N (N - 1) C (by omega) L e w h0 h1 h.at_
    · exact rhead_host Z hz0 a0 a1 c0 c1 n0 n1 g o N (N - 1) C (by omega) L e w h0 h1 h.at_
    · exact rhead_device Z hz1 a0 a1 c0 c1 n0 n1 g o N (N - 1) C (by omega) L e w h0 h1 h.at_
  · have hf : hdIs N L = false := by simpa using hh
    unfold Nt.hd hdEr
    rw [if_neg hh, if_neg hh, hf]
    exact rhead_no Z a0 a1 c0 c1 n0 n1 aw N C L w h0 h1 h hf
end Go.Proofs.YtnmnjcjfgbpkaaaDoor
