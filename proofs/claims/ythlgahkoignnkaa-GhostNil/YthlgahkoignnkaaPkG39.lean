/- Part 40 of the texts on which the proof rests: contracts of Go functions. -/
import Derived.Test.YthlgahkoignnkaaPkG17
import Derived.Test.YthlgahkoignnkaaPkG18
import Derived.Test.YthlgahkoignnkaaPkG22
import Derived.Test.YthlgahkoignnkaaPkG38
namespace Go.Proofs.Ythlgahkoignnkaa
open Go.RowKit Go.Maps Go.Sort
theorem RJ.offB {l : List Nat} {w w' : World} {p ge ec gs sc k : Nat} {b : Nat → Nat} {c : Nat → RC} {sa : Option Addr} {m sx : Nat} {F : Nat → Fa} {A : Nat → Option Addr} {C : Nat → Nat} {Bs n : Nat} {r a : Int} (h : RJ w p ge ec gs sc k b c sa m sx F A C Bs n r a) (o : Off l w w') (hp : p ∉ l) (hge : 0 < k → ge ∉ l) (hgs : 0 < k → gs ∉ l) (hb : ∀ i, i < k → b i ∉ l) (ho : ∀ g, (Value.slice sa m sx).ownBlock = some g → g ∉ l) (hd : ∀ j, j < m → ∀ y, A j = some y → 0 < (F j).n → y.block ∉ l) : RJ w' p ge ec gs sc k b c sa m sx F A C Bs n r a :=
  ⟨(o.block _ (Array.getElem?_eq_some_iff.1 h.blk).1 hp).trans h.blk, fun i hi => cell_offB (h.out i hi) o (hge (by omega)), fun hk => ty_off (h.tge hk) o (hge hk), fun i hi => (h.eh i hi).offB o (hb i hi), fun i hi => (h.ed i hi).offB o (hb i hi), h.nb, h.no, h.nd, h.ok, fun i hi => cell_offB (h.ses i hi) o (hgs (by omega)), fun hk => ty_off (h.tgs hk) o (hgs hk), h.inj, own_keepP h.own (fun g hg => o.block g (h.own.lt g hg).2 (ho g hg)), fun j hj => ⟨row8_off2' (h.row j hj).1 o (hd j hj), fun y hy hq => ty_off ((h.row j hj).2 y hy hq) o (hd j hj y hy hq)⟩, h.few⟩
end Go.Proofs.Ythlgahkoignnkaa
namespace Go.Proofs.Ythlgahkoignnkaa
open Go.RowKit Go.Maps Go.Sort
set_option maxRecDepth 100000
def exA (x y : Int) : Array Value := #[.int .i64 x, .bool false, .int .u32 0, .int .u32 0, .bool false, .string (ByteArray.mk #[]), .int .u32 0, .int .i64 0, .int .i64 0, .bool false, .bool false, .int .i64 y, .bool false, .int .u32 0, .int .u32 0, .bool false, .string (ByteArray.mk #[]), .int .u32 0, .int .i64 0, .int .i64 0, .bool false, .bool false]
def exN (t : Int) : Ex := ⟨enN t, false, 0⟩
theorem exN_ok (t : Int) : (exN t).Ok := ⟨fun h => (by cases h), fun _ => rfl⟩
theorem exw_h {w : World} {g : Nat} {x y : Int} {t : TypeId} (h : w.heap[g]? = some (.cells (exA x y) t (0, 0))) : ExW w g 0 (exN x) :=
  ⟨cell_of_row w g 0 _ _ _ h, cell_of_row w g 1 _ _ _ h, cell_of_row w g 2 _ _ _ h, cell_of_row w g 3 _ _ _ h, cell_of_row w g 4 _ _ _ h, cell_of_row w g 5 _ _ _ h, cell_of_row w g 6 _ _ _ h, cell_of_row w g 7 _ _ _ h, cell_of_row w g 8 _ _ _ h, cell_of_row w g 9 _ _ _ h, cell_of_row w g 10 _ _ _ h, fun k => frozen_of_row w g k _ _ h⟩
theorem exw_d {w : World} {g : Nat} {x y : Int} {t : TypeId} (h : w.heap[g]? = some (.cells (exA x y) t (0, 0))) : ExW w g 11 (exN y) :=
  ⟨cell_of_row w g 11 _ _ _ h, cell_of_row w g 12 _ _ _ h, cell_of_row w g 13 _ _ _ h, cell_of_row w g 14 _ _ _ h, cell_of_row w g 15 _ _ _ h, cell_of_row w g 16 _ _ _ h, cell_of_row w g 17 _ _ _ h, cell_of_row w g 18 _ _ _ h, cell_of_row w g 19 _ _ _ h, cell_of_row w g 20 _ _ _ h, cell_of_row w g 21 _ _ _ h, fun k => frozen_of_row w g k _ _ h⟩
def flE (n : Nat) (b : Nat → Nat) : List Value := (List.range n).map fun j => .slice (some ⟨b j, 0, none⟩) 2 2
theorem flE_succ (n : Nat) (b : Nat → Nat) (g : Nat) : flE n b ++ [.slice (some ⟨g, 0, none⟩) 2 2] = flE (n + 1) (fun j => if j = n then g else b j) := by
  unfold flE
  rw [List.range_succ, List.map_append]
  congr 1
  · apply List.map_congr_left
    intro j hj
    have : ¬ j = n := by have := List.mem_range.1 hj; omega
    simp [this]
  · simp
theorem own_tyR {w : World} {B sz n : Nat} {t : TypeId} {v : Value} {xs : List Value} (h : w.ownsRow B t sz v n xs) : ∀ g, v.ownBlock = some g → Ty w g t := fun g hg => by
  rcases h.2 with ⟨e, _⟩ | ⟨g', cap, cur, e, _, hgg, _⟩
  · rw [e] at hg
    cases hg
  · rw [e] at hg
    cases hg
    exact ⟨cur, hgg⟩
structure Sr (w wr : World) (a0 : Option Addr) (l0 c0 : Nat) (a1 : Option Addr) (l1 c1 ms : Nat) (P0 P1 : Nat → Pg) (nE nS : Nat) (vE vS : Value) (b : Nat → Nat) : Prop where
  bel : Below w.heap.size w wr
  bx : wr.heap[w.heap.size]? = some (.cells #[.slice a0 l0 c0, .slice a1 l1 c1, .int .u32 (ms : Nat)] 25 (0, 0))
  ju : wr.heap[w.heap.size + 1]? = some (.cells #[vE, vS, .slice none 0 0, .int .i64 0, .int .i64 0, .int .i64 0] 48 (0, 0))
  oE : wr.ownsRow (w.heap.size + 2) 73 1 vE nE (flE nE b)
  oS : wr.ownsRow (w.heap.size + 2) 23 1 vS nS (List.replicate nS (.int .u32 0))
  zE : nE = 0 → vE = .slice none 0 0
  zS : nS = 0 → vS = .slice none 0 0
  xs : ∀ j, j < nE → w.heap.size + 2 ≤ b j ∧ wr.heap[b j]? = some (.cells (exA (P0 j).t (P1 j).t) 72 (0, 0))
  inj : ∀ j j', j < nE → j' < nE → b j = b j' → j = j'
section
variable {w wr : World} {a0 : Option Addr} {l0 c0 : Nat} {a1 : Option Addr} {l1 c1 ms : Nat} {P0 P1 : Nat → Pg} {nE nS : Nat} {vE vS : Value} {b : Nat → Nat}
theorem Sr.ltJ (h : Sr w wr a0 l0 c0 a1 l1 c1 ms P0 P1 nE nS vE vS b) : w.heap.size + 1 < wr.heap.size := (Array.getElem?_eq_some_iff.1 h.ju).1
theorem Sr.nextE (h : Sr w wr a0 l0 c0 a1 l1 c1 ms P0 P1 nE nS vE vS b) {w2 w4 : World} {v' : Value} (hw : wr.heap.size < w2.heap.size) (b2 : Below wr.heap.size wr w2) (hx : w2.heap[wr.heap.size]? = some (.cells (exA (P0 nE).t (P1 nE).t) 72 (0, 0))) (o : w4.ownsRow (w.heap.size + 2) 73 1 v' (nE + 1) (flE nE b ++ [.slice (some ⟨wr.heap.size, 0, none⟩) 2 2])) (g : w2.grownBy w4 vE.ownBlock):
    w4.heap[w.heap.size + 1]? = some (.cells #[vE, vS, .slice none 0 0, .int .i64 0, .int .i64 0, .int .i64 0] 48 (0, 0)) ∧ w4.heap[w.heap.size]? = some (.cells #[.slice a0 l0 c0, .slice a1 l1 c1, .int .u32 (ms : Nat)] 25 (0, 0)) ∧ Below w.heap.size w w4 ∧ Sr w (w4.setCell ⟨w.heap.size + 1, 0, none⟩ v') a0 l0 c0 a1 l1 c1 ms P0 P1 (nE + 1) nS v' vS (fun j => if j = nE then wr.heap.size else b j) := by
  have lj := h.ltJ
  have tE := own_tyR h.oE
  have nE1 := fun q (hq : vE.ownBlock = some q) => h.oE.lt q hq
  have nS1 := fun q (hq : vS.ownBlock = some q) => h.oS.lt q hq
  have k4 : ∀ q, q < wr.heap.size → (∀ e, vE.ownBlock = some e → e ≠ q) → w4.heap[q]? = wr.heap[q]? := fun q hq hn => (g.block q (by omega) (fun e => hn q e.symm rfl)).trans (b2.block q hq)
  have kj := (k4 (w.heap.size + 1) lj (fun e he => by have := (nE1 e he).1; omega)).trans h.ju
  have kx := (k4 w.heap.size (by omega) (fun e he => by have := (nE1 e he).1; omega)).trans h.bx
  have bl : Below w.heap.size w w2 := h.bel.trans (b2.mono h.bel.size)
  have b4 : Below w.heap.size w w4 := bl.grown g bl.size (fun j hj => by have := (nE1 j hj).1; omega)
  have of : Off [w.heap.size + 1] w4 (w4.setCell ⟨w.heap.size + 1, 0, none⟩ v') := Off.setCell _ _ _ _
  have gs := g.size
  have km : ∀ q, q < w4.heap.size → q ≠ w.heap.size + 1 → (w4.setCell ⟨w.heap.size + 1, 0, none⟩ v').heap[q]? = w4.heap[q]? := fun q hq hn => of.block q hq (by simpa using hn)
  have tj : ∀ j, j < nE → ∀ e, vE.ownBlock = some e → e ≠ b j := fun j hj e he => ty_ne (tE e he) ⟨_, (h.xs j hj).2⟩ (by decide)
  have lb : ∀ j, j < nE → b j < wr.heap.size := fun j hj => (Array.getElem?_eq_some_iff.1 (h.xs j hj).2).1
  rw [flE_succ] at o
  refine ⟨kj, kx, b4, ⟨of.below b4 (fun k hk => by simp at hk; omega) b4.size, (km _ (Array.getElem?_eq_some_iff.1 kx).1 (by omega)).trans kx, heap_setCell_same _ _ _ _ _ _ kj, ?_, ?_, fun e => by omega, h.zS, fun j hj => ?_, fun j j' hj hj' e => ?_⟩⟩
  · exact own_keepP o (fun q hq => km q (o.lt q hq).2 (by have := (o.lt q hq).1; omega))
  · have ne : ∀ q, vS.ownBlock = some q → ∀ e, vE.ownBlock = some e → e ≠ q := fun q hq e he => ty_ne (tE e he) (own_tyR h.oS q hq) (by decide)
    exact own_keepP h.oS (fun q hq => (km q (by have := (nS1 q hq).2; omega) (by have := (nS1 q hq).1; omega)).trans (k4 q (nS1 q hq).2 (ne q hq)))
  · by_cases e : j = nE
    · subst e
      simp only [if_true]
      refine ⟨by omega, (km _ (by omega) (by omega)).trans ((g.block _ hw (fun e => ?_)).trans hx)⟩
      have := (nE1 _ e.symm).2
      omega
    · simp only [e, if_false]
      have hj' : j < nE := by omega
      exact ⟨(h.xs j hj').1, (km _ (by have := lb j hj'; omega) (by have := (h.xs j hj').1; omega)).trans ((k4 _ (lb j hj') (tj j hj')).trans (h.xs j hj').2)⟩
  · by_cases e1 : j = nE
    · by_cases e2 : j' = nE
      · omega
      · simp only [e1, e2, if_true, if_false] at e
        have := lb j' (by omega)
        omega
    · by_cases e2 : j' = nE
      · simp only [e1, e2, if_true, if_false] at e
        have := lb j (by omega)
        omega
      · simp only [e1, e2, if_false] at e
        exact h.inj j j' (by omega) (by omega) e
theorem Sr.nextS (h : Sr w wr a0 l0 c0 a1 l1 c1 ms P0 P1 nE nS vE vS b) {w2 w4 : World} {v' : Value} (b2 : Below wr.heap.size wr w2) (o : w4.ownsRow (w.heap.size + 2) 23 1 v' (nS + 1) (List.replicate nS (.int .u32 0) ++ [.int .u32 0])) (g : w2.grownBy w4 vS.ownBlock) :
    w4.heap[w.heap.size + 1]? = some (.cells #[vE, vS, .slice none 0 0, .int .i64 0, .int .i64 0, .int .i64 0] 48 (0, 0)) ∧ Sr w (w4.setCell ⟨w.heap.size + 1, 1, none⟩ v') a0 l0 c0 a1 l1 c1 ms P0 P1 nE (nS + 1) vE v' b := by
  have lj := h.ltJ
  have tS := own_tyR h.oS
  have nE1 := fun q (hq : vE.ownBlock = some q) => h.oE.lt q hq
  have nS1 := fun q (hq : vS.ownBlock = some q) => h.oS.lt q hq
  have s2 := b2.size
  have k4 : ∀ q, q < wr.heap.size → (∀ e, vS.ownBlock = some e → e ≠ q) → w4.heap[q]? = wr.heap[q]? := fun q hq hn => (g.block q (by omega) (fun e => hn q e.symm rfl)).trans (b2.block q hq)
  have kj := (k4 (w.heap.size + 1) lj (fun e he => by have := (nS1 e he).1; omega)).trans h.ju
  have kx := (k4 w.heap.size (by omega) (fun e he => by have := (nS1 e he).1; omega)).trans h.bx
  have bl : Below w.heap.size w w2 := h.bel.trans (b2.mono h.bel.size)
  have b4 : Below w.heap.size w w4 := bl.grown g bl.size (fun j hj => by have := (nS1 j hj).1; omega)
  have of : Off [w.heap.size + 1] w4 (w4.setCell ⟨w.heap.size + 1, 1, none⟩ v') := Off.setCell _ _ _ _
  have gs := g.size
  have km : ∀ q, q < w4.heap.size → q ≠ w.heap.size + 1 → (w4.setCell ⟨w.heap.size + 1, 1, none⟩ v').heap[q]? = w4.heap[q]? := fun q hq hn => of.block q hq (by simpa using hn)
  have tj : ∀ j, j < nE → ∀ e, vS.ownBlock = some e → e ≠ b j := fun j hj e he => ty_ne (tS e he) ⟨_, (h.xs j hj).2⟩ (by decide)
  have lb : ∀ j, j < nE → b j < wr.heap.size := fun j hj => (Array.getElem?_eq_some_iff.1 (h.xs j hj).2).1
  have er : List.replicate nS (Value.int .u32 0) ++ [.int .u32 0] = List.replicate (nS + 1) (.int .u32 0) := by
    rw [List.replicate_succ']
  rw [er] at o
  refine ⟨kj, ⟨of.below b4 (fun k hk => by simp at hk; omega) b4.size, (km _ (Array.getElem?_eq_some_iff.1 kx).1 (by omega)).trans kx, heap_setCell_same _ _ _ _ _ _ kj, ?_, ?_, h.zE, fun e => by omega, fun j hj => ?_, h.inj⟩⟩
  · have ne : ∀ q, vE.ownBlock = some q → ∀ e, vS.ownBlock = some e → e ≠ q := fun q hq e he => ty_ne (tS e he) (own_tyR h.oE q hq) (by decide)
    exact own_keepP h.oE (fun q hq => (km q (by have := (nE1 q hq).2; omega) (by have := (nE1 q hq).1; omega)).trans (k4 q (nE1 q hq).2 (ne q hq)))
  · exact own_keepP o (fun q hq => km q (o.lt q hq).2 (by have := (o.lt q hq).1; omega))
  · exact ⟨(h.xs j hj).1, (km _ (by have := lb j hj; omega) (by have := (h.xs j hj).1; omega)).trans ((k4 _ (lb j hj) (tj j hj)).trans (h.xs j hj).2)⟩
def fa0 : Fa := ⟨0, 0, 0, 0, 0, false, 0, 0, fun _ => 0⟩
theorem Sr.done (h : Sr w wr a0 l0 c0 a1 l1 c1 ms P0 P1 nE nE vE vS b) (hk : nE ≤ 1000) : ∃ ge ec gs sc, w.heap.size ≤ ge ∧ w.heap.size ≤ gs ∧ ge < wr.heap.size ∧ gs < wr.heap.size ∧ (∀ i, i < nE → w.heap.size ≤ b i) ∧ RJ wr (w.heap.size + 1) ge ec gs sc nE b (fun i => ⟨exN (P0 i).t, exN (P1 i).t, 0⟩) none 0 0 (fun _ => fa0) (fun _ => none) (fun _ => 0) (w.heap.size + 2) 0 0 0 ∧ SJ (ju0 nE (fun i => (P0 i).t) (fun i => (P1 i).t)) nE (fun i => ⟨exN (P0 i).t, exN (P1 i).t, 0⟩) 0 (fun _ => fa0) := by
  have lj := h.ltJ
  have hS : SJ (ju0 nE (fun i => (P0 i).t) (fun i => (P1 i).t)) nE (fun i => ⟨exN (P0 i).t, exN (P1 i).t, 0⟩) 0 (fun _ => fa0) := by
    refine ⟨by simp [ju0], fun i hi => ?_, fun t n x => ⟨fun q => q.elim, fun ⟨j, hj, _⟩ => by omega⟩, fun j hj => by omega⟩
    simp [ju0, hi]
    rfl
  have ow0 : wr.ownsRow (w.heap.size + 2) 43 8 (.slice none 0 0) 0 (flF 0 (fun _ => fa0) (fun _ => none) (fun _ => 0)) := ⟨rfl, .inl ⟨rfl, rfl⟩⟩
  by_cases k0 : nE = 0
  · subst k0
    have e1 := h.zE rfl
    have e2 := h.zS rfl
    refine ⟨w.heap.size + 1, 0, w.heap.size + 1, 0, by omega, by omega, lj, lj, fun i hi => by omega, ⟨?_, fun i hi => by omega, fun q => by omega, fun i hi => by omega, fun i hi => by omega, fun i hi => by omega, fun i hi => by omega, fun i hi => by omega, fun i hi => by omega, fun i hi => by omega, fun q => by omega, fun i j hi => by omega, ow0, fun j hj => by omega, hk⟩, hS⟩
    have := h.ju
    rw [e1, e2] at this
    exact this
  · obtain ⟨ge, ec, curE, eE, gE, hgE, qE1, qE2, qE3, qE4⟩ := h.oE.2.resolve_left (fun x => k0 x.2)
    obtain ⟨gs, sc, curS, eS, gS, hgS, qS1, qS2, qS3, qS4⟩ := h.oS.2.resolve_left (fun x => k0 x.2)
    have nx : ∀ i, i < nE → b i ≠ w.heap.size + 1 ∧ b i ≠ ge ∧ b i ≠ gs := fun i hi => ⟨by have := (h.xs i hi).1; omega, ty_ne ⟨_, (h.xs i hi).2⟩ ⟨_, hgE⟩ (by decide), ty_ne ⟨_, (h.xs i hi).2⟩ ⟨_, hgS⟩ (by decide)⟩
    refine ⟨ge, ec, gs, sc, by omega, by omega, (Array.getElem?_eq_some_iff.1 hgE).1, (Array.getElem?_eq_some_iff.1 hgS).1, fun i hi => by have := (h.xs i hi).1; omega, ⟨?_, fun i hi => ?_, fun _ => ⟨_, hgE⟩, fun i hi => exw_h (h.xs i hi).2, fun i hi => exw_d (h.xs i hi).2, nx, fun i hi g hg => (by cases hg), fun i hi j hj => by omega, fun i hi => ⟨exN_ok _, exN_ok _⟩, fun i hi => ?_, fun _ => ⟨_, hgS⟩, h.inj, ow0, fun j hj => by omega, hk⟩, hS⟩
    · have := h.ju
      rw [eE, eS] at this
      unfold csV
      rw [if_neg k0, if_neg k0]
      exact this
    · rw [cell_of_row wr ge i _ _ _ hgE]
      have e : (curE.toList.take (nE * 1))[i]? = curE[i]? := by rw [List.getElem?_take_of_lt (by omega), Array.getElem?_toList]
      rw [← e, qE4]
      simp [flE, hi]
    · rw [cell_of_row wr gs i _ _ _ hgS]
      have e : (curS.toList.take (nE * 1))[i]? = curS[i]? := by rw [List.getElem?_take_of_lt (by omega), Array.getElem?_toList]
      rw [← e, qS4]
      simp [hi]
end
theorem info_ends : (Try.prog.info? 73).map (fun i => (i.zero, i.size, i.bytes)) = some (some (.slice none 0 0), 1, 24) := by kernel_rfl
theorem info_u32R : (Try.prog.info? 23).map (fun i => (i.zero, i.size, i.bytes)) = some (some (.int .u32 0), 1, 4) := by kernel_rfl
theorem step_appE {ops : Array Oper} {o : Oper} {a : Act} {w : World} {K : Act → World → Prop} {Q : Exit → Act → World → Prop} {E : Prop}
    (hg : o.guard = none) (s x : Operand) (hop : o.op = Op.call { callee := Callee.builtin Builtin.append, args := #[s, x], argTypes := #[45, 45] }) (hty : o.type = 45)
    (B n g : Nat) (v y : Value) (xs : List Value) (hs : a.eval s = v) (hx : a.eval x = .slice (some ⟨g, 0, none⟩) 1 1) (h1 : w.ownsRow B 73 1 v n xs) (hgc : w.heap[g]? = some (.cells #[y] 73 (0, 0))) (hy : y.oneCell' = true) (hn : n ≤ 100000) (hB : B ≤ w.heap.size)
    (hK : ∀ v' w', Hid (w'.ownsRow B 73 1 v' (n + 1) (xs ++ [y]) ∧ w.grownBy w' v.ownBlock ∧ (v'.ownBlock = v.ownBlock ∨ v'.ownBlock = some w.heap.size)) → K (a.put o.dst v') w') :
    if Region.wanted o (yielded ops a.tmps) = true then Oper.wp Try.prog o a w K Q else E := by
  have hw : Region.wanted o (yielded ops a.tmps) = true := by simp [Region.wanted, hg]
  rw [if_pos hw]
  obtain ⟨i0, hI, hz0, hz1, hz2⟩ := info_parts info_ends
  obtain ⟨v', w', hr, k1, k2, _, k4⟩ := run_append_own_at (P := Try.prog) w B 45 45 73 i0 (.slice none 0 0) 1 24 Try.underlying45 hI hz0 hz1 hz2 rfl (by decide) v n xs h1 ⟨g, 0, none⟩ 1 1 [y] rfl (by
    intro j u hu
    have e : (Addr.add ⟨g, 0, none⟩ j) = ⟨g, j, none⟩ := by unfold Addr.add; simp; omega
    rw [e, cell_of_row w g j _ _ _ hgc]
    simpa using hu) (fun u hu => by rw [List.mem_singleton.1 hu]; exact hy) (by unfold maxLen; omega) (by omega) hB
  unfold Oper.wp execOp
  simp only [hop, hty, resolve, invoke, builtin, Sem.run_bind, Sem.run_pure, Result.andThen_ok, List.map_toArray, List.map_cons, List.map_nil, hs, hx, hr]
  exact hK v' w' ⟨k1, k2, k4⟩
theorem build2E (w : World) (x y : Int) : (Instr.buildSlice 73 2 #[(0, .agg #[.int .i64 x, .bool false, .int .u32 0, .int .u32 0, .bool false, .string (ByteArray.mk #[]), .int .u32 0, .int .i64 0, .int .i64 0, .bool false, .bool false]), (1, .agg #[.int .i64 y, .bool false, .int .u32 0, .int .u32 0, .bool false, .string (ByteArray.mk #[]), .int .u32 0, .int .i64 0, .int .i64 0, .bool false, .bool false])]).run Try.prog w = .ok (.slice (some ⟨w.heap.size, 0, none⟩) 2 2) (w.alloc (.cells (exA x y) 72)) := by kernel_rfl
theorem build1E (w : World) (x : Nat) : (Instr.buildSlice 45 1 #[(0, .slice (some ⟨x, 0, none⟩) 2 2)]).run Try.prog w = .ok (.slice (some ⟨w.heap.size, 0, none⟩) 1 1) (w.alloc (.cells #[.slice (some ⟨x, 0, none⟩) 2 2] 73)) := by kernel_rfl
end Go.Proofs.Ythlgahkoignnkaa
