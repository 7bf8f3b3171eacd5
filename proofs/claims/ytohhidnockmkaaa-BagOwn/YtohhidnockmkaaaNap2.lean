/- Apart, for lists of which some may be nil: the grown list of lists. -/
import Derived.Test.YtohhidnockmkaaaNap
import Derived.Deep.RegionLaw
namespace Go.Proofs.Ytohhidnockmkaaa
open Go.RowKit
def LSl (g : Nat → Option Nat) (n c : Nat → Nat) (m : Nat) : List Value := (List.range m).map fun i => Value.slice (sa (g i)) (n i) (c i)
theorem LSl_length (g : Nat → Option Nat) (n c : Nat → Nat) (m : Nat) : (LSl g n c m).length = m := by simp [LSl]
theorem LSl_get (g : Nat → Option Nat) (n c : Nat → Nat) (m i : Nat) (h : i < m) : (LSl g n c m)[i]? = some (.slice (sa (g i)) (n i) (c i)) := by simp [LSl, h]
theorem LSl_none (g : Nat → Option Nat) (n c : Nat → Nat) (m i : Nat) (h : m ≤ i) : (LSl g n c m)[i]? = none := by simp [LSl, h]
theorem LSl_one (g : Nat → Option Nat) (n c : Nat → Nat) (m : Nat) : ∀ u ∈ LSl g n c m, u.oneCell' = true := by
  intro u hu
  simp only [LSl, List.mem_map, List.mem_range] at hu
  obtain ⟨i, _, rfl⟩ := hu
  rfl
theorem Ls.src {wr wx : World} {m gl : Nat} {g : Nat → Option Nat} {n c t : Nat → Nat} (h : Ls wr m gl g n c t) (hc : ∀ i, wx.cell? ⟨gl, i, none⟩ = wr.cell? ⟨gl, i, none⟩) :
    ∀ j u, (LSl g n c m)[j]? = some u → wx.cell? ((⟨gl, 0, none⟩ : Addr).add j) = some u := by
  intro j u hj
  by_cases hlt : j < m
  · rw [LSl_get _ _ _ _ _ hlt] at hj
    cases hj
    have : (⟨gl, 0, none⟩ : Addr).add j = ⟨gl, j, none⟩ := by unfold Addr.add; simp; omega
    rw [this, hc]
    exact h.cells j hlt
  · rw [LSl_none _ _ _ _ _ (by omega)] at hj; cases hj
theorem info_bs : (Try.prog.info? 31).map (fun i => (i.zero, i.size, i.bytes)) = some (some (.slice none 0 0), 1, 24) := by kernel_rfl
theorem build00 (w : World) : (Instr.buildSlice 27 0 #[]).run Try.prog w = .ok (.slice (some ⟨w.heap.size, 0, none⟩) 0 0) (w.alloc (.cells #[] 31)) := by kernel_rfl
/-- What the growing starts from. -/
theorem G2.start {U : Nat → Prop} {m gl : Nat} {g : Nat → Option Nat} {n c t : Nat → Nat} {w0 wr w2 : World} {v : Value} (F : Fx U m gl g n c) (h : Ls wr m gl g n c t) (ht : ∀ j, j < m → t j = n j) (hm : 0 < m) (hb : Kp U w0 wr) (hB : ∀ k, U k → k < wr.heap.size)
    (hown : w2.ownsRow wr.heap.size 31 1 v m (LSl g n c m)) (hg : ∀ k, k < wr.heap.size → w2.heap[k]? = wr.heap[k]?) (hos : w2.os = wr.os) (htape : w2.tape = wr.tape) (hout : w2.output = wr.output) (hsz : wr.heap.size ≤ w2.heap.size) :
    ∃ gg cap, v = .slice (some ⟨gg, 0, none⟩) m cap ∧ Pl U m gl gg w2.heap.size g ∧ G2 U m gl gg w2.heap.size g n c w0 w2 (fun _ => 0) g c := by
  rcases hown.2 with ⟨_, e⟩ | ⟨gg, cap, cur, rfl, hgb, hgg, hmc, hcm, hcs, htk⟩
  · omega
  have hgl : gl < wr.heap.size := World.block_lt_of_cell? wr _ (h.cells 0 hm)
  have hgi : ∀ i, i < m → ∀ x, g i = some x → x < wr.heap.size := fun i hi x hx => by
    obtain ⟨cur, h1, _⟩ := h.rows i hi x hx
    exact (Array.getElem?_eq_some_iff.mp h1).1
  have hggl : gg < w2.heap.size := (Array.getElem?_eq_some_iff.mp hgg).1
  refine ⟨gg, cap, rfl, ⟨F.inj, F.ngl, fun i hi e => ?_, ?_, fun i hi x hx => ?_, ?_, hggl, F.base, (fun hk => by have := hB gg hk; omega), fun k hk => by have := hB k hk; omega⟩, fun i hi => ?_, fun i hi x hx k hk => ?_, fun i hi => ?_, fun i hi => ?_, fun i hi => ?_, fun i hi x hx => .inl hx, F.inj, ?_, Nat.le_refl _, fun k hk => by have := hB k hk; omega⟩
  · have := hgi i hi gg e; omega
  · omega
  · have := hgi i hi x hx; omega
  · omega
  · rw [World.cell?_of_block (w := wr) (hg gl hgl)]; exact h.cells i hi
  · obtain ⟨cur, h1, h2, h3⟩ := h.rows i hi x hx
    rw [World.cell?_of_block (w := wr) (hg x (hgi i hi x hx)), cell_of_row _ _ _ _ _ _ h1]
    exact h3 k (by rw [ht i hi]; exact hk)
  · have := hown.cellAt i (by omega)
    rw [LSl_get _ _ _ _ _ hi] at this
    exact this
  · exact frozen_of_row _ _ _ _ _ hgg
  · cases hgo : g i with
    | none =>
      obtain ⟨e1, e2⟩ := F.nil i hi hgo
      rw [e1, e2]
      exact ⟨rfl, .inl ⟨rfl, rfl⟩⟩
    | some b =>
      obtain ⟨cur, h1, h2, h3⟩ := h.rows i hi b hgo
      have hle := F.le i hi
      refine ⟨by rw [CB_length]; omega, .inr ⟨b, c i, cur, rfl, Nat.zero_le _, (hg b (hgi i hi b hgo)).trans h1, by omega, F.cmax i hi, by omega, ?_⟩⟩
      apply List.ext_getElem?
      intro k
      by_cases hk : k < n i
      · rw [CB_get _ _ _ (by omega), List.getElem?_take_of_lt (by omega)]
        have := h3 k (by rw [ht i hi]; exact hk)
        simpa using this
      · rw [CB_none _ _ _ (by omega)]
        apply List.getElem?_eq_none
        simp; omega
  · exact hb.trans ⟨hos, htape, hout, hsz, fun k hk => hg k (hB k hk)⟩
theorem G2.drew {U : Nat → Prop} {m gl gg F0 : Nat} {g : Nat → Option Nat} {n c : Nat → Nat} {w0 wr : World} {tau : Nat → Nat} {bb : Nat → Option Nat} {cc : Nat → Nat} (h : G2 U m gl gg F0 g n c w0 wr tau bb cc) : G2 U m gl gg F0 g n c w0 wr.drew tau bb cc :=
  ⟨h.lists, h.old, h.cells, h.fro, h.own, h.at_, h.inj, h.below.drew, h.size, h.bw⟩
/-- append of one byte, as one step of a region that draws. -/
theorem step_app1 {ops : Array Oper} {o : Oper} {a : Act} {w : World} {K : Act → World → Prop} {Q : Exit → Act → World → Prop} {E : Prop}
    (hg : o.guard = none) (s x : Operand) (hop : o.op = Op.call { callee := Callee.builtin Builtin.append, args := #[s, x], argTypes := #[31, 31] })
    (B : Nat) (b : Option Nat) (N cap : Nat) (f : Nat → Nat) (y : Nat) (ad : Addr) (hs : a.eval s = .slice (sa b) N cap) (hx : a.eval x = .slice (some ad) 1 1) (hc : w.cell? ad = some (.int .u8 (y : Nat))) (hBw : B ≤ w.heap.size) (hN : N + 1 ≤ 1000000000)
    (hown : w.ownsRow B 5 1 (.slice (sa b) N cap) N (CB f N))
    (hK : ∀ b' cap' w', w'.ownsRow B 5 1 (.slice (some ⟨b', 0, none⟩) (N + 1) cap') (N + 1) (CB (fun i => if i < N then f i else y) (N + 1)) → w'.os = w.os → w'.tape = w.tape → w'.output = w.output → w.heap.size ≤ w'.heap.size →
      ((b = some b' ∧ ∀ k, k < w.heap.size → k ≠ b' → w'.heap[k]? = w.heap[k]?) ∨ (w.heap.size ≤ b' ∧ ∀ k, k < w.heap.size → w'.heap[k]? = w.heap[k]?)) → K (a.put o.dst (.slice (some ⟨b', 0, none⟩) (N + 1) cap')) w') :
    if Region.wanted o (yielded ops a.tmps) = true then Oper.wp Try.prog o a w K Q else E := by
  have hw : Region.wanted o (yielded ops a.tmps) = true := by simp [Region.wanted, hg]
  rw [if_pos hw]
  obtain ⟨b', cap', w', h1, h2, h3, h4, h5, h6, h7⟩ := app1 w B o.type b N cap f y ad hc hBw hN hown
  unfold Oper.wp
  simp [execOp, hop, resolve, invoke, builtin, hs, hx, h1, Result.andThen]
  exact hK b' cap' w' h2 h3 h4 h5 h6 h7
theorem G2.mem {U : Nat → Prop} {m gl gg F0 : Nat} {g : Nat → Option Nat} {n c : Nat → Nat} {w0 wr wx : World} {tau : Nat → Nat} {bb : Nat → Option Nat} {cc : Nat → Nat} (h : G2 U m gl gg F0 g n c w0 wr tau bb cc) (hh : ∀ k, k < wr.heap.size → wx.heap[k]? = wr.heap[k]?) (hos : wx.os = wr.os) (htape : wx.tape = wr.tape) (hout : wx.output = wr.output) (hsz : wr.heap.size ≤ wx.heap.size) :
    G2 U m gl gg F0 g n c w0 wx tau bb cc := by
  have hs := h.size
  have hbw := h.bw
  refine ⟨fun i hi => ?_, fun i hi x hx k hk => ?_, fun i hi => ?_, fun i hi => ?_, fun i hi => ?_, h.at_, h.inj, ?_, by omega, fun k hk => by have := hbw k hk; omega⟩
  · have q := h.lists i hi
    rw [World.cell?_of_block (w := wr) (hh _ (World.block_lt_of_cell? wr _ q))]; exact q
  · have q := h.old i hi x hx k hk
    rw [World.cell?_of_block (w := wr) (hh _ (World.block_lt_of_cell? wr _ q))]; exact q
  · have q := h.cells i hi
    rw [World.cell?_of_block (w := wr) (hh _ (World.block_lt_of_cell? wr _ q))]; exact q
  · have q := h.cells i hi
    rw [World.frozen?_of_block (w := wr) (hh _ (World.block_lt_of_cell? wr _ q))]; exact h.fro i hi
  · exact own_heap (h.own i hi) (fun b hb => hh _ (own_lt (h.own i hi) hb).1)
  · exact h.below.trans ⟨hos, htape, hout, hsz, fun k hk => hh k (hbw k hk)⟩
theorem G2.at_r {U : Nat → Prop} {m gl gg F0 : Nat} {g : Nat → Option Nat} {n c : Nat → Nat} {w0 wr : World} {tau : Nat → Nat} {bb : Nat → Option Nat} {cc : Nat → Nat} (h : G2 U m gl gg F0 g n c w0 wr tau bb cc) {r : Nat} (ht : ∀ j, j < m → tau j = r) : G2 U m gl gg F0 g n c w0 wr (fun _ => r) bb cc :=
  ⟨h.lists, h.old, fun i hi => by have := h.cells i hi; rw [ht i hi] at this; exact this, h.fro, fun i hi => by have := h.own i hi; rw [ht i hi] at this; exact this, h.at_, h.inj, h.below, h.size, h.bw⟩
theorem CB_more (f : Nat → Nat) (N : Nat) : CB (fun i => if i < N then f i else f N) (N + 1) = CB f (N + 1) := by
  unfold CB
  apply List.map_congr_left
  intro k hk
  rw [List.mem_range] at hk
  show Value.int IntKind.u8 ((if k < N then f k else f N : Nat) : Int) = _
  by_cases e : k < N
  · rw [if_pos e]
  · rw [if_neg e, show k = N by omega]
theorem step_same {P : Program} {ops : Array Oper} {o : Oper} {a : Act} {w : World} {K : Act → World → Prop} {Q : Exit → Act → World → Prop} {E : Prop}
    (hg : o.guard = none) (f : FuncId) (args : Array Value) (v : Value) (hc : Calls P f args w fun e w' => e = .returned v ∧ w' = w) (hrun : (execOp a.eval o).run P w = .ok (.enter f args) w) (hK : K (a.put o.dst v) w) :
    if Region.wanted o (yielded ops a.tmps) = true then Oper.wp P o a w K Q else E := by
  have hw : Region.wanted o (yielded ops a.tmps) = true := by simp [Region.wanted, hg]
  rw [if_pos hw]
  unfold Oper.wp
  rw [hrun]
  refine hc.mono ?_
  rintro e w'' ⟨rfl, rfl⟩
  exact hK
/-- The append of loop 4, told by what it leaves. -/
theorem step_grow {ops : Array Oper} {o : Oper} {a : Act} {K : Act → World → Prop} {Q : Exit → Act → World → Prop} {E : Prop} {U : Nat → Prop} {m gl gg F0 : Nat} {g : Nat → Option Nat} {n c : Nat → Nat} {w0 wr : World} {tau : Nat → Nat} {bb : Nat → Option Nat} {cc : Nat → Nat}
    (i : Nat) (N : Nat) (b : Option Nat) (cap y : Nat) (HH : Hid (i < m ∧ Pl U m gl gg F0 g ∧ G2 U m gl gg F0 g n c w0 wr tau bb cc ∧ N = n i + tau i ∧ b = bb i ∧ cap = cc i ∧ y = mrk i N ∧ N + 1 ≤ 1000000000))
    (hg : o.guard = none) (s x : Operand) (hop : o.op = Op.call { callee := Callee.builtin Builtin.append, args := #[s, x], argTypes := #[31, 31] })
    (hs : a.eval s = .slice (sa b) N cap) (hx : a.eval x = .slice (some ⟨wr.heap.size, 0, none⟩) 1 1)
    (hK : ∀ b' cap' w', w'.cell? ⟨gg, i, none⟩ = some (.slice (sa b) N cap) → w'.frozen? ⟨gg, i, none⟩ = false →
      Hid (G2 U m gl gg F0 g n c w0 (w'.setCell ⟨gg, i, none⟩ (.slice (some ⟨b', 0, none⟩) (N + 1) cap')) (fun j => if j = i then tau i + 1 else tau j) (fun j => if j = i then some b' else bb j) (fun j => if j = i then cap' else cc j)) →
      K (a.put o.dst (.slice (some ⟨b', 0, none⟩) (N + 1) cap')) w') :
    if Region.wanted o (yielded ops a.tmps) = true then Oper.wp Try.prog o a (wr.drew.alloc (.cells #[.int .u8 (y : Nat)] 5)) K Q else E := by
  obtain ⟨hi, P, G, rfl, rfl, rfl, hy, hN⟩ := HH.out
  have G1 : G2 U m gl gg F0 g n c w0 (wr.drew.alloc (.cells #[.int .u8 (y : Nat)] 5)) tau bb cc :=
    G.mem (fun k hk => heap_alloc_old wr.drew _ hk) rfl rfl rfl (by simp)
  have hown := G1.own i hi
  have hc : (wr.drew.alloc (.cells #[.int .u8 (y : Nat)] 5)).cell? ⟨wr.heap.size, 0, none⟩ = some (.int .u8 (y : Nat)) := by
    have := cell_of_row _ wr.heap.size 0 _ _ _ (heap_alloc_new wr.drew (.cells #[.int .u8 (y : Nat)] 5))
    exact this
  refine step_app1 hg s x hop 0 (bb i) (n i + tau i) (cc i) (mrk i) y _ hs hx hc (Nat.zero_le _) hN hown ?_
  intro b' cap' w' h1 h2 h3 h4 h5 h6
  subst hy
  rw [CB_more] at h1
  have hst := G1.step P hi h1 h2 h3 h4 h5 h6
  have hggb : bb i ≠ some gg := fun e => by
    rcases G1.at_ i hi gg e with e2 | e2
    · exact P.g_gg i hi e2
    · have := P.gg_lt; omega
  have hgs : gg < (wr.drew.alloc (.cells #[.int .u8 (mrk i (n i + tau i) : Nat)] 5)).heap.size := World.block_lt_of_cell? _ _ (G1.cells i hi)
  have hh : w'.heap[gg]? = (wr.drew.alloc (.cells #[.int .u8 (mrk i (n i + tau i) : Nat)] 5)).heap[gg]? := by
    rcases h6 with ⟨e, q⟩ | ⟨_, q⟩
    · exact q gg hgs (fun x => hggb (by rw [e, x]))
    · exact q gg hgs
  exact hK b' cap' w' ((World.cell?_of_block (a := ⟨gg, i, none⟩) hh).trans (G1.cells i hi)) ((World.frozen?_of_block (a := ⟨gg, i, none⟩) hh).trans (G1.fro i hi)) hst

end Go.Proofs.Ytohhidnockmkaaa
