/- Layer 18: New: what stands round by round. -/
import Derived.Test.YtaeamogagaaodaaGh14
namespace Go.Proofs.Ytaeamogagaaodaa
open Go.RowKit Go.Maps
set_option maxRecDepth 100000

theorem own_belowG {w w' : World} {B e sz n : Nat} {v : Value} {xs : List Value} (h : w.ownsRow B e sz v n xs) (b : Below w.heap.size w w') : w'.ownsRow B e sz v n xs := by
  refine ⟨h.1, ?_⟩
  rcases h.2 with hn | ⟨g, cap, cur, rfl, hg, hgg, rest⟩
  · exact .inl hn
  · exact .inr ⟨g, cap, cur, rfl, hg, (b.block g (Array.getElem?_eq_some_iff.1 hgg).1).trans hgg, rest⟩
theorem own_slc {w : World} {B e size n : Nat} {v : Value} {xs : List Value} (h : w.ownsRow B e size v (n + 1) xs) : ∃ g cap, v = .slice (some ⟨g, 0, none⟩) (n + 1) cap ∧ B ≤ g := by
  rcases h.2 with ⟨_, hn⟩ | ⟨g, cap, cur, rfl, hg, hgg, rest⟩
  · omega
  · exact ⟨g, cap, rfl, hg⟩
theorem step_callN {P : Program} {ops : Array Oper} {o : Oper} {a : Act} {w : World} {K : Act → World → Prop} {Q : Exit → Act → World → Prop} {E : Prop} {R : Value → World → Prop}
    (f : FuncId) (ts : Array Operand) (ty : Array TypeId) (_ : o.op = .call { callee := .value (.func f), args := ts, argTypes := ty }) (hw : Region.wanted o (yielded ops a.tmps) = true) (args : Array Value) (hrun : (execOp a.eval o).run P w = .ok (.enter f args) w) (hc : Calls P f args w fun e w' => ∃ v, e = .returned v ∧ R v w') (hK : ∀ v w', R v w' → K (a.put o.dst v) w') :
    if Region.wanted o (yielded ops a.tmps) = true then Oper.wp P o a w K Q else E := by
  rw [if_pos hw]
  unfold Oper.wp
  rw [hrun]
  refine hc.mono ?_
  rintro e w'' ⟨v, rfl, hr⟩
  exact hK _ _ hr
/-- What stands when i connections are made. -/
structure St (w wr : World) (a0 : Option Addr) (l0 c0 : Nat) (a1 : Option Addr) (l1 c1 ms : Nat) (P0 P1 : Nat → Pg) (i : Nat) (v : Value) : Prop where
  bel : Below w.heap.size w wr
  bx : wr.heap[w.heap.size]? = some (.cells #[.slice a0 l0 c0, .slice a1 l1 c1, .int .u32 (ms : Nat)] 25 (0, 0))
  mp : wr.heap[w.heap.size + 1]? = some (.map #[] 0)
  ju : wr.heap[w.heap.size + 1 + 1]? = some (.cells #[v, .map (some (w.heap.size + 1)), .int .i64 0, .int .i64 0, .int .i64 0] 59 (0, 0))
  own : wr.ownsRow (w.heap.size + 3) 67 19 v i (flC i (fun j => (P0 j).t) (fun j => (P1 j).t))
  nil : i = 0 → v = .slice none 0 0
section
variable {w wr w6 : World} {a0 : Option Addr} {l0 c0 : Nat} {a1 : Option Addr} {l1 c1 ms : Nat} {P0 P1 : Nat → Pg} {i : Nat} {v : Value}
theorem St.next (hI : St w wr a0 l0 c0 a1 l1 c1 ms P0 P1 i v) {x6 y6 : Nat} (H6 : w6.ownsRow (w.heap.size + 3) 67 19 (.slice (some ⟨x6, 0, none⟩) (i + 1) y6) (i + 1) (flC (i + 1) (fun j => (P0 j).t) (fun j => (P1 j).t))) (b6 : Below (w.heap.size + 3) wr w6) (j6 : w6.heap[w.heap.size + 1 + 1]? = some (.cells #[v, .map (some (w.heap.size + 1)), .int .i64 0, .int .i64 0, .int .i64 0] 59 (0, 0))) :
    St w (w6.setCell ⟨w.heap.size + 1 + 1, 0, none⟩ (.slice (some ⟨x6, 0, none⟩) (i + 1) y6)) a0 l0 c0 a1 l1 c1 ms P0 P1 (i + 1) (.slice (some ⟨x6, 0, none⟩) (i + 1) y6) := by
  have o6 : Off [w.heap.size + 1 + 1] w6 (w6.setCell ⟨w.heap.size + 1 + 1, 0, none⟩ (.slice (some ⟨x6, 0, none⟩) (i + 1) y6)) := Off.setCell _ _ _ _
  have lb := (Array.getElem?_eq_some_iff.1 hI.bx).1
  have lm := (Array.getElem?_eq_some_iff.1 hI.mp).1
  have l6 := (Array.getElem?_eq_some_iff.1 j6).1
  refine ⟨?_, ?_, ?_, heap_setCell_same _ _ _ _ _ _ j6, ?_, fun q => by omega⟩
  · have b7 : Below w.heap.size w w6 := hI.bel.trans (b6.mono (by omega))
    exact o6.below b7 (fun k hk => by simp at hk; omega) b7.size
  · exact (o6.block _ (by omega) (by simp; omega)).trans ((b6.block _ (by omega)).trans hI.bx)
  · exact (o6.block _ (by omega) (by simp)).trans ((b6.block _ (by omega)).trans hI.mp)
  · have := H6
    rcases this.2 with ⟨e, _⟩ | ⟨g, cap, cur, e, hg, hgg, rest⟩
    · cases e
    · refine ⟨this.1, .inr ⟨g, cap, cur, e, hg, (o6.block g (Array.getElem?_eq_some_iff.1 hgg).1 (by simp; omega)).trans hgg, rest⟩⟩
theorem St.done (hI : St w wr a0 l0 c0 a1 l1 c1 ms P0 P1 i v) (hk1 : i ≤ 1000) : ∃ g cap ob, w.heap.size ≤ w.heap.size + 1 + 1 ∧ w.heap.size ≤ ob ∧ w.heap.size ≤ g ∧ Below w.heap.size w wr ∧ GJ wr (w.heap.size + 1 + 1) g cap ob 0 (fun _ => none) (ju0 i (fun j => (P0 j).t) (fun j => (P1 j).t)) := by
  obtain ⟨g, cap, hv, hg, hc⟩ := con_of_own hI.own hI.nil
  have lj := (Array.getElem?_eq_some_iff.1 hI.ju).1
  have hlen : (ju0 i (fun j => (P0 j).t) (fun j => (P1 j).t)).cs.length = i := by simp [ju0]
  have hsm : Sm wr (w.heap.size + 1) (fun _ => none) (fun _ _ _ => False) 0 := by
    refine ⟨⟨.map [], ⟨#[], 0, hI.mp, ⟨by simp, Go.MapKept.stamped_empty 0, by simp⟩, by simp, rfl⟩, fun t _ => rfl⟩, fun t b _ hm => (by cases hm), fun _ _ _ _ _ h => h, fun t t' b _ _ hm => (by cases hm), fun t b _ hm => (by cases hm)⟩
  refine ⟨if 0 < i then g else w.heap.size + 1 + 1, cap, w.heap.size + 1, by omega, by omega, ?_, hI.bel, ?_, fun j c hj => ?_, hsm, fun q => ?_, by rw [hlen]; exact hk1⟩
  · split
    · rename_i q; have := (hg q).1; omega
    · omega
  · rw [hlen]
    have e : csV i (if 0 < i then g else w.heap.size + 1 + 1) cap = v := by
      rw [hv]
      unfold csV
      split
      · rfl
      · rw [if_pos (by omega)]
    rw [e]
    exact hI.ju
  · obtain ⟨h1, h2⟩ := ju0_get i _ _ hj
    rw [if_pos (by omega), h2]
    exact hc j h1
  · rw [hlen] at q
    rw [if_pos q]
    obtain ⟨h1, c, hc'⟩ := hg q
    omega
end
end Go.Proofs.Ytaeamogagaaodaa
