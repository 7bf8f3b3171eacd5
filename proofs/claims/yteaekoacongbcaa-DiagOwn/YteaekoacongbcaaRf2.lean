/- The document's log: one more. -/
import Derived.Test.YteaekoacongbcaaRf
import Derived.Deep.RegionLaw
import Derived.Maps.AppendAt
namespace Go.Proofs.Yteaekoacongbcaa
open Go.RowKit Go.Maps

theorem own_some {w : World} {B e size n : Nat} {v : Value} {xs : List Value} (h : w.ownsRow B e size v (n + 1) xs) : ∃ g cap, v = .slice (some ⟨g, 0, none⟩) (n + 1) cap ∧ B ≤ g ∧ g < w.heap.size := by
  rcases h.2 with ⟨_, hn⟩ | ⟨g, cap, cur, rfl, hg, hgg, rest⟩
  · omega
  · exact ⟨g, cap, rfl, hg, (Array.getElem?_eq_some_iff.1 hgg).1⟩
theorem cells_rv {w : World} {g : Nat} {x : R4} (hg : w.heap[g]? = some (.cells #[.int .i64 x.1, .int .i64 x.2.1, .int .u32 x.2.2.1, .int .u32 x.2.2.2] 32 (0, 0))) : ∀ j u, (rv x)[j]? = some u → w.cell? ((⟨g, 0, none⟩ : Addr).add j) = some u := by
  obtain ⟨c0, c1, c2, c3, _⟩ := cells4 hg
  intro j u hu
  have hj : j < 4 := by
    by_cases hj : j < 4
    · exact hj
    · rw [List.getElem?_eq_none (by rw [rv_len]; omega)] at hu; cases hu
  have c : j = 0 ∨ j = 1 ∨ j = 2 ∨ j = 3 := by omega
  rcases c with rfl | rfl | rfl | rfl
  · simp [rv] at hu; subst hu; simpa [Addr.add] using c0
  · simp [rv] at hu; subst hu; simpa [Addr.add] using c1
  · simp [rv] at hu; subst hu; simpa [Addr.add] using c2
  · simp [rv] at hu; subst hu; simpa [Addr.add] using c3
/-- One record behind others, as one step; where what comes lies is told. -/
theorem step_appT {ops : Array Oper} {o : Oper} {a : Act} {w : World} {K : Act → World → Prop} {Q : Exit → Act → World → Prop} {E : Prop}
    (hg : o.guard = none) (s x : Operand) (hop : o.op = Op.call { callee := Callee.builtin Builtin.append, args := #[s, x], argTypes := #[22, 22] }) (hty : o.type = 22)
    (B n g : Nat) (L : List R4) (xr : R4) (v : Value) (hs : a.eval s = v) (hown : w.ownsRow B 32 4 v n (rvs L)) (hx : a.eval x = .slice (some ⟨g, 0, none⟩) 1 1)
    (hgc : w.heap[g]? = some (.cells #[.int .i64 xr.1, .int .i64 xr.2.1, .int .u32 xr.2.2.1, .int .u32 xr.2.2.2] 32 (0, 0))) (hn : n < 1000000) (hB : B ≤ w.heap.size)
    (hK : ∀ g' cap' w', Hid (w'.ownsRow B 32 4 (.slice (some ⟨g', 0, none⟩) (n + 1) cap') (n + 1) (rvs (L ++ [xr])) ∧ w.grownBy w' v.ownBlock ∧ (v.ownBlock = some g' ∨ g' = w.heap.size)) → K (a.put o.dst (.slice (some ⟨g', 0, none⟩) (n + 1) cap')) w') :
    if Region.wanted o (yielded ops a.tmps) = true then Oper.wp Try.prog o a w K Q else E := by
  have hw : Region.wanted o (yielded ops a.tmps) = true := by simp [Region.wanted, hg]
  rw [if_pos hw]
  obtain ⟨i, hi, h0, h1, h2⟩ := info_parts info_rec
  obtain ⟨v', w', hrun, h3, h4, _, h5⟩ := run_append_own_at w B 22 22 32 i _ 4 24 Try.underlying22 hi h0 h1 h2 rfl (by decide) v n (rvs L) hown ⟨g, 0, none⟩ 1 1 (rv xr) rfl (cells_rv hgc) (rv_one xr) (by unfold maxLen; omega) (by omega) hB
  obtain ⟨g', cap', rfl, _, _⟩ := own_some h3
  unfold Oper.wp execOp
  simp only [hop, hty, resolve, invoke, builtin, Sem.run_bind, Sem.run_pure, Result.andThen_ok, List.map_toArray, List.map_cons, List.map_nil, hs, hx, hrun]
  refine hK g' cap' w' ⟨?_, h4, ?_⟩
  · rw [rvs_append, rvs_one]; exact h3
  · rcases h5 with h5 | h5
    · left; rw [← h5]; rfl
    · right; simpa [Value.ownBlock] using h5
theorem RG.grown {w wx w3 : World} {p : Nat} {V : List Nat} {v : Value} {L : List R4} (h : RG w p V v L) (hx : Below w.heap.size w wx) (hg : wx.grownBy w3 v.ownBlock) : w3.heap[p]? = some (.cells #[v] 28 (0, 0)) := by
  have hp := h.lt p h.pV
  rw [hg.block p (Nat.lt_of_lt_of_le hp hx.size) (fun e => (h.vV p e.symm).2 rfl), hx.block p hp]
  exact h.at_
theorem RG.noted {w wx w3 : World} {p : Nat} {V : List Nat} {v : Value} {L : List R4} {m g cap : Nat} {x : R4} (h : RG w p V v L) (hm : m = L.length) (hx : Below w.heap.size w wx)
    (ho : w3.ownsRow 0 32 4 (.slice (some ⟨g, 0, none⟩) (m + 1) cap) (m + 1) (rvs (L ++ [x])) ∧ wx.grownBy w3 v.ownBlock ∧ (v.ownBlock = some g ∨ g = wx.heap.size)) :
    ∃ V' v', Off V w (w3.setCell ⟨p, 0, none⟩ (.slice (some ⟨g, 0, none⟩) (m + 1) cap)) ∧ RG (w3.setCell ⟨p, 0, none⟩ (.slice (some ⟨g, 0, none⟩) (m + 1) cap)) p V' v' (L ++ [x]) ∧ (∀ y, y ∈ V' → y ∈ V ∨ w.heap.size ≤ y) := by
  obtain ⟨h1, h2, h3⟩ := ho
  have hp3 := h.grown hx h2
  have hpl := h.lt p h.pV
  obtain ⟨g', cap', e, _, hg⟩ := own_some h1
  have hgl : g < w3.heap.size := by
    simp only [Value.slice.injEq, Option.some.injEq, Addr.mk.injEq] at e
    rw [e.1.1]; exact hg
  have hs := hx.size
  have hs2 := h2.size
  have hgV : g ∈ V ∧ g ≠ p ∨ w.heap.size ≤ g := by
    rcases h3 with h3 | h3
    · exact .inl (h.vV g h3)
    · right; omega
  have o1 : Off V w wx := Off.of_below hx
  have o2 : Off V w w3 := by
    refine ⟨h2.os.trans o1.os, h2.tape.trans o1.tape, h2.output.trans o1.output, Nat.le_trans o1.size h2.size, fun k hk hkV => ?_⟩
    rw [h2.block k (by omega) (fun e => hkV (h.vV k e.symm).1)]
    exact hx.block k hk
  have o3 : Off [p] w3 (w3.setCell ⟨p, 0, none⟩ (.slice (some ⟨g, 0, none⟩) (m + 1) cap)) := Off.setCell p 0 w3 _
  have hpg : g ≠ p := by rcases hgV with h | h; exact h.2; omega
  refine ⟨g :: V, _, o2.trans (o3.more (by simp; exact h.pV)), ⟨heap_setCell_same _ _ _ _ _ _ hp3, ?_, List.mem_cons_of_mem _ h.pV, ?_, ?_, fun e => by simp at e⟩, ?_⟩
  · have : (L ++ [x]).length = m + 1 := by simp [hm]
    rw [this]
    exact own_off' h1 o3 (fun k hk => by simp only [Value.ownBlock, Option.some.injEq] at hk; subst hk; simpa using hpg)
  · intro k hk
    simp only [Value.ownBlock, Option.some.injEq] at hk
    subst hk
    exact ⟨List.mem_cons_self .., hpg⟩
  · intro k hk
    have := o3.size
    rcases List.mem_cons.1 hk with rfl | hk
    · omega
    · have := h.lt k hk; omega
  · intro y hy
    rcases List.mem_cons.1 hy with rfl | hy
    · rcases hgV with h | h
      · exact .inl h.1
      · exact .inr h
    · exact .inl hy
set_option maxHeartbeats 1600000 in
set_option maxRecDepth 100000 in
theorem rnote_any (p : Nat) (V : List Nat) (v : Value) (L : List R4) (c s n : Int) (w : World) (h : RG w p V v L) (hn : L.length < 999999) :
    Calls Try.prog 10 #[.pointer (some ⟨p, 0, none⟩), .int .i64 c, .int .u32 s, .int .u32 n] w fun e w' => e = .returned (.int .i64 ((L.length + 1 : Nat) : Int)) ∧
      Hid (∃ V' v', Off V w w' ∧ RG w' p V' v' (L ++ [(((L.length + 1 : Nat) : Int), c, s, n)]) ∧ (∀ x, x ∈ V' → x ∈ V ∨ w.heap.size ≤ x)) := by
  have HG : Hid (RG w p V v L) := h
  have c0 := h.c0
  have hf := h.fz 0
  have hpl : p < w.heap.size := h.lt p h.pV
  have ho : Hid (∀ wx, Below w.heap.size w wx → wx.ownsRow 0 32 4 v L.length (rvs L)) := fun wx hx => own_below HG.out.own hx
  obtain ⟨a, cap, rfl, _, _⟩ := own_cells4 h.own
  obtain ⟨m, em⟩ : ∃ m, m = L.length := ⟨_, rfl⟩
  have HM : Hid (m = L.length) := em
  rw [← em] at HG ho c0 hn ⊢
  have e1 : IntKind.i64.wrap ((m : Int) + 1) = ((m + 1 : Nat) : Int) := by rw [IntKind.wrap_i64]; omega
  have ca1 : (w.alloc (.cells #[.int .i64 ((m : Int) + 1), .int .i64 c, .int .u32 s, .int .u32 n] 32)).cell? ⟨p, 0, none⟩ = some (.slice a m cap) := (World.cell?_of_block ((Off.alloc [] w _).block p hpl (by simp))).trans c0
  have ca2 : (w.drew.alloc (.cells #[.int .i64 ((m : Int) + 1), .int .i64 c, .int .u32 s, .int .u32 n] 32)).cell? ⟨p, 0, none⟩ = some (.slice a m cap) := ca1
  clear em h
  go_enter Try.func10, Try.ntmps10
  go_wp2_with fail
  go_region_law (first
    | (refine step_appT rfl (.tmp 13) (.tmp 24) rfl rfl 0 m w.heap.size L (((m + 1 : Nat) : Int), c, s, n) _ rfl (ho.out _ (by repeat (first | with_reducible assumption | with_reducible refine below_drewNR ?_ _ | with_reducible refine Below.drew ?_ | with_reducible refine belowAR ?_ (by omega) _ | with_reducible exact Below.refl _ _))) rfl (heap_alloc_new w _) (by omega) (Nat.zero_le _) ?_; intro g3 cap3 w3 H3; have hp3 := HG.out.grown (by repeat (first | with_reducible assumption | with_reducible refine below_drewNR ?_ _ | with_reducible refine Below.drew ?_ | with_reducible refine belowAR ?_ (by omega) _ | with_reducible exact Below.refl _ _)) H3.out.2.1; have hc3 := cell_at (i := 0) hp3 rfl; have hf3 := frozen_of_row w3 p 0 _ _ hp3))
  all_goals
    have HF : Hid (∃ V' v', Off V w (w3.setCell ⟨p, 0, none⟩ (.slice (some ⟨g3, 0, none⟩) (m + 1) cap3)) ∧ RG (w3.setCell ⟨p, 0, none⟩ (.slice (some ⟨g3, 0, none⟩) (m + 1) cap3)) p V' v' (L ++ [(((m + 1 : Nat) : Int), c, s, n)]) ∧ (∀ x, x ∈ V' → x ∈ V ∨ w.heap.size ≤ x)) :=
      HG.out.noted HM.out (by repeat (first | with_reducible assumption | with_reducible refine below_drewNR ?_ _ | with_reducible refine Below.drew ?_ | with_reducible refine belowAR ?_ (by omega) _ | with_reducible exact Below.refl _ _)) H3.out
    clear ca1 ca2 H3 hp3 HG ho
    go_wp2_with fail
    go_ret
    exact ⟨rfl, HF⟩
end Go.Proofs.Yteaekoacongbcaa
