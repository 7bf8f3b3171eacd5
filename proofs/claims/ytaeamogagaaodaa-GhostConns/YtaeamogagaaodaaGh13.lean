/- Layer 18: Verdict, See. (gengh13.py) -/
import Derived.Test.YtaeamogagaaodaaGh12
namespace Go.Proofs.Ytaeamogagaaodaa
open Go.RowKit Go.Maps
set_option maxRecDepth 100000

section
variable {w w' : World} {jb g cap ob N : Nat} {M : TK → Option Nat} {J : Ju}
theorem GJ.cells (h : GJ w jb g cap ob N M J) : w.cell? ⟨jb, 2, none⟩ = some (.int .i64 ((J.n : Nat) : Int)) ∧ w.cell? ⟨jb, 3, none⟩ = some (.int .i64 J.r) ∧ w.cell? ⟨jb, 4, none⟩ = some (.int .i64 J.a) ∧ ∀ k, w.frozen? ⟨jb, k, none⟩ = false :=
  ⟨cell_of_row w jb 2 _ _ _ h.blk, cell_of_row w jb 3 _ _ _ h.blk, cell_of_row w jb 4 _ _ _ h.blk, fun k => frozen_of_row w jb k _ _ h.blk⟩
theorem GJ.own (h : GJ w jb g cap ob N M J) (x y z : Value) {J' : Ju} (h1 : J'.cs = J.cs) (h2 : J'.S = J.S) (o : Off [jb] w w') (hb : w'.heap[jb]? = some (.cells #[csV J.cs.length g cap, .map (some ob), x, y, z] 59 (0, 0))) (hx : x = .int .i64 ((J'.n : Nat) : Int)) (hy : y = .int .i64 J'.r) (hz : z = .int .i64 J'.a) : GJ w' jb g cap ob N M J' := by
  subst hx hy hz
  refine ⟨by rw [h1]; exact hb, fun i c hc => ?_, ?_, by rw [h1]; exact h.ne, by rw [h1]; exact h.few⟩
  · rw [h1] at hc
    have hne := h.ne (by have := (List.getElem?_eq_some_iff.1 hc).1; omega)
    exact (h.con i c hc).same (o.block g (h.con i c hc).lt (by simp; omega))
  · rw [h2]
    have cj := cell_of_row w jb 1 _ _ _ h.blk
    refine h.sm.off o ?_ ?_
    · have := h.sm.nob cj
      simp at this ⊢
      omega
    · intro t b ht hm
      have := h.sm.nin ht hm cj
      simp at this ⊢
      omega
/-- A block of another's has turned. -/
theorem GJ.offR (h : GJ w jb g cap ob N M J) {R : Nat} {v0 : Value} (o : Off [R] w w') (p0 : w.cell? ⟨R, 0, none⟩ = some v0) (hj : jb ≠ R) (hg : 0 < J.cs.length → g ≠ R) : GJ w' jb g cap ob N M J := by
  have := h.sm.nob p0
  exact h.sent o (by simpa using hj) (fun q => by simpa using hg q) (h.sm.off o (by simp at this ⊢; omega) (fun t b ht hm => by have := h.sm.nin ht hm p0; simp at this ⊢; omega))
/-- The result's two cells are written. -/
theorem GJ.res (h : GJ w jb g cap ob N M J) {R : Nat} {v0 : Value} (p0 : w.cell? ⟨R, 0, none⟩ = some v0) (hj : jb ≠ R) (hg : 0 < J.cs.length → g ≠ R) (x y : Value) : GJ ((w.setCell ⟨R, 0, none⟩ x).setCell ⟨R, 1, none⟩ y) jb g cap ob N M J ∧ Off [R] w ((w.setCell ⟨R, 0, none⟩ x).setCell ⟨R, 1, none⟩ y) := by
  have o1 : Off [R] w (w.setCell ⟨R, 0, none⟩ x) := Off.setCell R 0 w x
  have o2 : Off [R] (w.setCell ⟨R, 0, none⟩ x) ((w.setCell ⟨R, 0, none⟩ x).setCell ⟨R, 1, none⟩ y) := Off.setCell R 1 _ y
  exact ⟨(h.offR o1 p0 hj hg).offR o2 (World.cell?_setCell_same _ _ _ p0) hj hg, o1.trans o2⟩
theorem off_res {w0 : World} {R : Nat} {l : List Nat} (h : Off l w0 w) (o : Off [R] w w') (hR : w0.heap.size ≤ R) : Off l w0 w' := by
  have : Off (R :: l) w0 w' := (h.more (fun k hk => by simp [hk])).trans (o.more (fun k hk => by simp at hk; subst hk; simp))
  exact this.only (fun k hk hlt => by
    rcases List.mem_cons.1 hk with rfl | q
    · omega
    · exact q)
end
theorem gverdict (jb g cap0 ob N : Nat) (M : TK → Option Nat) (J : Ju) (w : World) (h : GJ w jb g cap0 ob N M J) :
    Calls Try.prog 11 #[.pointer (some ⟨jb, 0, none⟩)] w fun r w' => r = .returned (.agg #[.int .i64 J.r, .int .i64 J.a]) ∧ Below w.heap.size w w' := by
  have b1 : Below w.heap.size w (w.alloc (.cells #[.int .i64 0, .int .i64 0] 34)) := (Below.refl _ _).alloc (Nat.le_refl _) _
  obtain ⟨c2, c3, c4, fz⟩ := (h.below b1).cells
  go_enter Try.func11, Try.ntmps11
  go_wp2_with fail
  refine bodyPost_ret (v := .agg #[.int .i64 J.r, .int .i64 J.a]) (by simp [results, Try.results11, go_sem]) rfl ⟨rfl, ?_⟩
  exact belowG (Below.refl _ _) _
theorem gverdict_nil (w : World) :
    Calls Try.prog 11 #[.pointer none] w fun r w' => r = .returned (.agg #[.int .i64 0, .int .i64 0]) ∧ Below w.heap.size w w' := by
  go_enter Try.func11, Try.ntmps11
  go_wp2_with fail
  refine bodyPost_ret (v := .agg #[.int .i64 0, .int .i64 0]) (by simp [results, Try.results11, go_sem]) rfl ⟨rfl, ?_⟩
  exact belowG (Below.refl _ _) _
open Classical in
set_option maxHeartbeats 8000000 in
theorem gsee (jb g cap0 ob N : Nat) (M : TK → Option Nat) (J : Ju) (f : Fa) (a : Option Addr) (cap : Nat) (w : World) (h : GJ w jb g cap0 ob N M J) (hN : N + 1 < maxLen) (hn : J.n < 1000000) (hf : f.Ok) (hr : Row8 w a f.n cap f.b) :
    Calls Try.prog 13 #[.pointer (some ⟨jb, 0, none⟩), .agg (faC f a cap)] w fun r w' => r = .returned (.agg #[.int .i64 (J.see f).r, .int .i64 (J.see f).a]) ∧ Hid (∃ M' N', N' ≤ N + 2 ∧ (∀ t b, t.ok → M' t = some b → M t = some b ∨ w.heap.size ≤ b) ∧ GJ w' jb g cap0 ob N' M' (J.see f) ∧ ∀ l, Ft jb g ob M l → Off l w w') := by
  have b1 : Below w.heap.size w ((w.alloc (.cells #[.int .i64 f.k, .int .i64 f.c, .int .i64 f.s, .int .u32 (f.ss : Nat), .int .u32 (f.nn : Nat), .bool f.on, .int .i64 f.cd, .slice a f.n cap] 43)).alloc (.cells #[.int .i64 0, .int .i64 0] 34)) := belowG (belowG (Below.refl _ _) _) _
  have hk : ((w.alloc (.cells #[.int .i64 f.k, .int .i64 f.c, .int .i64 f.s, .int .u32 (f.ss : Nat), .int .u32 (f.nn : Nat), .bool f.on, .int .i64 f.cd, .slice a f.n cap] 43)).alloc (.cells #[.int .i64 0, .int .i64 0] 34)).heap[w.heap.size]? = some (.cells #[.int .i64 f.k, .int .i64 f.c, .int .i64 f.s, .int .u32 (f.ss : Nat), .int .u32 (f.nn : Nat), .bool f.on, .int .i64 f.cd, .slice a f.n cap] 43 (0, 0)) := (((Below.refl _ _).alloc (Nat.le_refl _) (.cells #[.int .i64 0, .int .i64 0] 34)).block w.heap.size (by simp)).trans (heap_alloc_new w _)
  have hk2 : ((w.alloc (.cells #[.int .i64 f.k, .int .i64 f.c, .int .i64 f.s, .int .u32 (f.ss : Nat), .int .u32 (f.nn : Nat), .bool f.on, .int .i64 f.cd, .slice a f.n cap] 43)).alloc (.cells #[.int .i64 0, .int .i64 0] 34)).heap[w.heap.size + 1]? = some (.cells #[.int .i64 0, .int .i64 0] 34 (0, 0)) := by
    have := heap_alloc_new (w.alloc (.cells #[.int .i64 f.k, .int .i64 f.c, .int .i64 f.s, .int .u32 (f.ss : Nat), .int .u32 (f.nn : Nat), .bool f.on, .int .i64 f.cd, .slice a f.n cap] 43)) (.cells #[.int .i64 0, .int .i64 0] 34)
    simpa using this
  have h1 := h.below b1
  have hlj := (Array.getElem?_eq_some_iff.1 h.blk).1
  have hne1 : jb ≠ w.heap.size + 1 := by omega
  have hR : ∀ wx, Below ((w.alloc (.cells #[.int .i64 f.k, .int .i64 f.c, .int .i64 f.s, .int .u32 (f.ss : Nat), .int .u32 (f.nn : Nat), .bool f.on, .int .i64 f.cd, .slice a f.n cap] 43)).alloc (.cells #[.int .i64 0, .int .i64 0] 34)).heap.size ((w.alloc (.cells #[.int .i64 f.k, .int .i64 f.c, .int .i64 f.s, .int .u32 (f.ss : Nat), .int .u32 (f.nn : Nat), .bool f.on, .int .i64 f.cd, .slice a f.n cap] 43)).alloc (.cells #[.int .i64 0, .int .i64 0] 34)) wx → Calls Try.prog 19 #[.pointer (some ⟨jb, 0, none⟩), .agg #[.int .i64 f.k, .int .i64 f.c, .int .i64 f.s, .int .u32 (f.ss : Nat), .int .u32 (f.nn : Nat), .bool f.on, .int .i64 f.cd, .slice a f.n cap]] wx fun r w' => r = .returned (.int .i64 (J.rule f)) ∧ Below ((w.alloc (.cells #[.int .i64 f.k, .int .i64 f.c, .int .i64 f.s, .int .u32 (f.ss : Nat), .int .u32 (f.nn : Nat), .bool f.on, .int .i64 f.cd, .slice a f.n cap] 43)).alloc (.cells #[.int .i64 0, .int .i64 0] 34)).heap.size ((w.alloc (.cells #[.int .i64 f.k, .int .i64 f.c, .int .i64 f.s, .int .u32 (f.ss : Nat), .int .u32 (f.nn : Nat), .bool f.on, .int .i64 f.cd, .slice a f.n cap] 43)).alloc (.cells #[.int .i64 0, .int .i64 0] 34)) w' := fun wx bx =>
    (grule jb g cap0 ob N M J f a cap wx (h1.below bx) hf (hr.below (b1.trans (bx.mono b1.size)))).mono fun _ _ ⟨e, b⟩ => ⟨e, bx.trans (b.mono bx.size)⟩
  have hV : ∀ wx, Below ((w.alloc (.cells #[.int .i64 f.k, .int .i64 f.c, .int .i64 f.s, .int .u32 (f.ss : Nat), .int .u32 (f.nn : Nat), .bool f.on, .int .i64 f.cd, .slice a f.n cap] 43)).alloc (.cells #[.int .i64 0, .int .i64 0] 34)).heap.size ((w.alloc (.cells #[.int .i64 f.k, .int .i64 f.c, .int .i64 f.s, .int .u32 (f.ss : Nat), .int .u32 (f.nn : Nat), .bool f.on, .int .i64 f.cd, .slice a f.n cap] 43)).alloc (.cells #[.int .i64 0, .int .i64 0] 34)) wx → Calls Try.prog 11 #[.pointer (some ⟨jb, 0, none⟩)] wx fun r w' => r = .returned (.agg #[.int .i64 J.r, .int .i64 J.a]) ∧ Below ((w.alloc (.cells #[.int .i64 f.k, .int .i64 f.c, .int .i64 f.s, .int .u32 (f.ss : Nat), .int .u32 (f.nn : Nat), .bool f.on, .int .i64 f.cd, .slice a f.n cap] 43)).alloc (.cells #[.int .i64 0, .int .i64 0] 34)).heap.size ((w.alloc (.cells #[.int .i64 f.k, .int .i64 f.c, .int .i64 f.s, .int .u32 (f.ss : Nat), .int .u32 (f.nn : Nat), .bool f.on, .int .i64 f.cd, .slice a f.n cap] 43)).alloc (.cells #[.int .i64 0, .int .i64 0] 34)) w' := fun wx bx =>
    (gverdict jb g cap0 ob N M J wx (h1.below bx)).mono fun _ _ ⟨e, b⟩ => ⟨e, bx.trans (b.mono bx.size)⟩
  have hL : ¬ J.bad f → ∀ wx, Below ((w.alloc (.cells #[.int .i64 f.k, .int .i64 f.c, .int .i64 f.s, .int .u32 (f.ss : Nat), .int .u32 (f.nn : Nat), .bool f.on, .int .i64 f.cd, .slice a f.n cap] 43)).alloc (.cells #[.int .i64 0, .int .i64 0] 34)).heap.size ((w.alloc (.cells #[.int .i64 f.k, .int .i64 f.c, .int .i64 f.s, .int .u32 (f.ss : Nat), .int .u32 (f.nn : Nat), .bool f.on, .int .i64 f.cd, .slice a f.n cap] 43)).alloc (.cells #[.int .i64 0, .int .i64 0] 34)) wx → Calls Try.prog 20 #[.pointer (some ⟨jb, 0, none⟩), .agg #[.int .i64 f.k, .int .i64 f.c, .int .i64 f.s, .int .u32 (f.ss : Nat), .int .u32 (f.nn : Nat), .bool f.on, .int .i64 f.cd, .slice a f.n cap]] wx fun r w' => r = .returned (.tuple #[]) ∧ Hid (∃ M' N', N' ≤ N + 2 ∧ (∀ t b, t.ok → M' t = some b → M t = some b ∨ wx.heap.size ≤ b) ∧ GJ w' jb g cap0 ob N' M' (J.lrn f) ∧ ∀ l, Ft jb g ob M l → Off l wx w') := fun hb wx bx =>
    glearn jb g cap0 ob N M J f a cap wx (h1.below bx) hN hf hb (hr.below (b1.trans (bx.mono b1.size)))
  have hS : ∀ wx, Below ((w.alloc (.cells #[.int .i64 f.k, .int .i64 f.c, .int .i64 f.s, .int .u32 (f.ss : Nat), .int .u32 (f.nn : Nat), .bool f.on, .int .i64 f.cd, .slice a f.n cap] 43)).alloc (.cells #[.int .i64 0, .int .i64 0] 34)).heap.size ((w.alloc (.cells #[.int .i64 f.k, .int .i64 f.c, .int .i64 f.s, .int .u32 (f.ss : Nat), .int .u32 (f.nn : Nat), .bool f.on, .int .i64 f.cd, .slice a f.n cap] 43)).alloc (.cells #[.int .i64 0, .int .i64 0] 34)) wx → wx.cell? ⟨w.heap.size, 0, none⟩ = some (.int .i64 f.k) ∧ wx.cell? ⟨w.heap.size, 1, none⟩ = some (.int .i64 f.c) ∧ wx.cell? ⟨w.heap.size, 2, none⟩ = some (.int .i64 f.s) ∧ wx.cell? ⟨w.heap.size, 3, none⟩ = some (.int .u32 (f.ss : Nat)) ∧ wx.cell? ⟨w.heap.size, 4, none⟩ = some (.int .u32 (f.nn : Nat)) ∧ wx.cell? ⟨w.heap.size, 5, none⟩ = some (.bool f.on) ∧ wx.cell? ⟨w.heap.size, 6, none⟩ = some (.int .i64 f.cd) ∧ wx.cell? ⟨w.heap.size, 7, none⟩ = some (.slice a f.n cap) ∧ wx.cell? ⟨w.heap.size + 1, 0, none⟩ = some (.int .i64 0) ∧ wx.cell? ⟨w.heap.size + 1, 1, none⟩ = some (.int .i64 0) ∧ (∀ k, wx.frozen? ⟨w.heap.size + 1, k, none⟩ = false) := fun wx bx => by
    have hq := (bx.block w.heap.size (Array.getElem?_eq_some_iff.1 hk).1).trans hk
    have hq2 := (bx.block (w.heap.size + 1) (Array.getElem?_eq_some_iff.1 hk2).1).trans hk2
    exact ⟨cell_of_row wx _ 0 _ _ _ hq, cell_of_row wx _ 1 _ _ _ hq, cell_of_row wx _ 2 _ _ _ hq, cell_of_row wx _ 3 _ _ _ hq, cell_of_row wx _ 4 _ _ _ hq, cell_of_row wx _ 5 _ _ _ hq, cell_of_row wx _ 6 _ _ _ hq, cell_of_row wx _ 7 _ _ _ hq, cell_of_row wx _ 0 _ _ _ hq2, cell_of_row wx _ 1 _ _ _ hq2, fun k => frozen_of_row wx _ k _ _ hq2⟩
  obtain ⟨d2, d3, d4, dz⟩ := h1.cells
  unfold faC
  unfold Ju.see
  by_cases hr0 : J.r = 0
  · rw [if_neg (by simp [hr0])]
    have hbad : J.rule f = 0 → ¬ J.bad f := fun e hb => by unfold Ju.rule at e; rw [if_pos hb] at e; cases e
    by_cases hru : J.rule f = 0
    · rw [if_neg (by simp [hru])]
      have hL := hL (hbad hru)
      rw [hru] at hR
      rw [hr0] at d3
      have HH : Hid (_) := And.intro h (And.intro h1 (And.intro b1 (And.intro hk2 (hbad hru))))
      clear h h1 hr hf hk hk2 hV hbad hru
      go_enter Try.func13, Try.ntmps13
      go_wp2_with fail
      refine (hR _ (Below.refl _ _)).mono ?_
      rintro r w2 ⟨rfl, b2⟩
      obtain ⟨s0, s1, s2, s3, s4, s5, s6, s7, s8, s9, s10⟩ := hS _ b2
      go_wp2_with fail
      refine (hL _ b2).mono ?_
      rintro r w3 ⟨rfl, h3⟩
      have key : Hid (∃ M' N', N' ≤ N + 2 ∧ (∀ t b, t.ok → M' t = some b → M t = some b ∨ w.heap.size ≤ b) ∧ GJ w3 jb g cap0 ob N' M' (J.lrn f) ∧ (∀ l, Ft jb g ob M l → Off l w w3) ∧ w3.heap[w.heap.size + 1]? = some (.cells #[.int .i64 0, .int .i64 0] 34 (0, 0))) := by
        obtain ⟨h, h1, b1, hk2, hb⟩ := HH.out
        obtain ⟨M', N', e1, e2, e3, e4⟩ := h3.out
        obtain ⟨_, _, i, c, hc, hi⟩ := Ju.good hb
        have hg := h.ltg hi
        refine ⟨M', N', e1, fun t b ht hm => (e2 t b ht hm).imp id (fun q => Nat.le_trans (Nat.le_trans b1.size b2.size) q), e3, fun l fl => ((Off.of_below b1).trans (Off.of_below b2)).trans (e4 l fl), ?_⟩
        have mem : ∀ k, k ∈ jb :: g :: ob :: (List.range w.heap.size).filter (fun b => decide (∃ t : TK, t.ok ∧ M t = some b)) ↔ k = jb ∨ k = g ∨ k = ob ∨ (k < w.heap.size ∧ ∃ t : TK, t.ok ∧ M t = some k) := fun k => by simp
        have o := e4 (jb :: g :: ob :: (List.range w.heap.size).filter (fun b => decide (∃ t : TK, t.ok ∧ M t = some b))) ⟨(mem _).2 (.inl rfl), (mem _).2 (.inr (.inl rfl)), (mem _).2 (.inr (.inr (.inl rfl))), fun t b ht hm => (mem _).2 (.inr (.inr (.inr ⟨h.sm.lt1 ht hm, t, ht, hm⟩)))⟩
        have l2 := (Array.getElem?_eq_some_iff.1 hk2).1
        have ho := h.sm.lt0
        rw [o.block _ (Nat.lt_of_lt_of_le l2 b2.size) (fun hm => by
          rcases (mem _).1 hm with e | e | e | ⟨e, _⟩ <;> omega), b2.block _ l2]
        exact hk2
      have hLr : (J.lrn f).r = J.r ∧ (J.lrn f).a = J.a ∧ (J.lrn f).n = J.n := by
        unfold Ju.lrn
        split
        · exact ⟨rfl, rfl, rfl⟩
        · repeat' split
          all_goals exact ⟨rfl, rfl, rfl⟩
      obtain ⟨M', N', e1, e2, e3, e4, e5⟩ := key.out
      obtain ⟨f2, f3, f4, fz⟩ := e3.cells
      rw [hLr.2.2] at f2
      rw [hLr.1, hr0] at f3
      rw [hLr.2.1] at f4
      have p0 := cell_of_row w3 _ 0 _ _ _ e5
      have p1 := cell_of_row w3 _ 1 _ _ _ e5
      have pz := fun k => frozen_of_row w3 _ k _ _ e5
      have HL : Hid (_) := hLr
      clear e1 e2 e3 e4 e5 hR hL hS d2 d3 d4 dz s0 s1 s2 s3 s4 s5 s6 s7 s8 s9 s10 hLr
      go_wp2_with fail
      refine bodyPost_ret (v := .agg #[.int .i64 0, .int .i64 J.a]) (by simp [results, Try.results13, go_sem, p0, p1]) rfl ?_
      obtain ⟨M', N', e1, e2, e3, e4, e5⟩ := key.out
      obtain ⟨h, h1, b1, hk2, hb⟩ := HH.out
      have o3 : Off [jb] w3 (w3.setCell ⟨jb, 2, none⟩ (.int .i64 (((J.n : Nat) : Int) + 1))) := Off.setCell jb 2 w3 _
      have g4 : GJ (w3.setCell ⟨jb, 2, none⟩ (.int .i64 (((J.n : Nat) : Int) + 1))) jb g cap0 ob N' M' { J.lrn f with n := J.n + 1 } := e3.own _ _ _ rfl rfl o3 (heap_setCell_same _ _ _ _ _ _ e3.blk) (by simp) rfl rfl
      obtain ⟨_, _, i, c, hc, hi⟩ := Ju.good hb
      have hg := h.ltg hi
      have p4 : (w3.setCell ⟨jb, 2, none⟩ (.int .i64 (((J.n : Nat) : Int) + 1))).cell? ⟨w.heap.size + 1, 0, none⟩ = some (.int .i64 0) := (World.cell?_setCell_other _ _ _ _ (by intro q; have := congrArg Addr.block q; simp at this; omega)).trans p0
      obtain ⟨g5, o5⟩ := g4.res p4 hne1 (fun _ => by omega) (.int .i64 0) (.int .i64 J.a)
      refine ⟨by rw [HL.out.1, HL.out.2.1, hr0], M', N', e1, e2, g5, fun l fl => off_res ((e4 l fl).trans (o3.more (fun k hk => by simp at hk; subst hk; exact fl.j))) o5 (by omega)⟩
    · rw [if_pos hru]
      have hrb : (J.rule f != 0) = true := by simpa using hru
      rw [hr0] at d3
      have HH : Hid (_) := And.intro h (And.intro h1 (And.intro b1 hk2))
      clear h hr hf hk hk2 hV hL hbad
      generalize J.rule f = ru at *
      go_enter Try.func13, Try.ntmps13
      go_wp2_with fail
      refine (hR _ (Below.refl _ _)).mono ?_
      rintro r w2 ⟨rfl, b2⟩
      obtain ⟨s0, s1, s2, s3, s4, s5, s6, s7, s8, s9, s10⟩ := hS _ b2
      obtain ⟨f2, f3, f4, fz⟩ := (h1.below b2).cells
      clear h1
      go_wp2_with fail
      refine bodyPost_ret (v := .agg #[.int .i64 ru, .int .i64 ((J.n : Nat) : Int)]) (by simp [results, Try.results13, go_sem, s8, s9]) rfl ?_
      obtain ⟨h, h1, b1, hk2⟩ := HH.out
      have e3 := h1.below b2
      have o3 : Off [jb] w2 ((w2.setCell ⟨jb, 3, none⟩ (.int .i64 ru)).setCell ⟨jb, 4, none⟩ (.int .i64 ((J.n : Nat) : Int))) := (Off.setCell jb 3 w2 _).trans (Off.setCell jb 4 _ _)
      have g4 : GJ ((w2.setCell ⟨jb, 3, none⟩ (.int .i64 ru)).setCell ⟨jb, 4, none⟩ (.int .i64 ((J.n : Nat) : Int))) jb g cap0 ob N M { J with r := ru, a := ((J.n : Nat) : Int) } := e3.own _ _ _ rfl rfl o3 (heap_setCell_same _ _ _ _ _ _ (heap_setCell_same _ _ _ _ _ _ e3.blk)) rfl rfl rfl
      have p4 : ((w2.setCell ⟨jb, 3, none⟩ (.int .i64 ru)).setCell ⟨jb, 4, none⟩ (.int .i64 ((J.n : Nat) : Int))).cell? ⟨w.heap.size + 1, 0, none⟩ = some (.int .i64 0) := (World.cell?_setCell_other _ _ _ _ (by intro q; have := congrArg Addr.block q; simp at this; omega)).trans ((World.cell?_setCell_other _ _ _ _ (by intro q; have := congrArg Addr.block q; simp at this; omega)).trans s8)
      have hgl : 0 < J.cs.length → g ≠ w.heap.size + 1 := fun q => by have := (h.con 0 (J.cs[0]) (List.getElem?_eq_getElem q)).lt; omega
      obtain ⟨g5, o5⟩ := g4.res p4 hne1 hgl (.int .i64 ru) (.int .i64 ((J.n : Nat) : Int))
      exact ⟨rfl, M, N, by omega, fun _ _ _ hm => .inl hm, g5, fun l fl => off_res (((Off.of_below b1).trans (Off.of_below b2)).trans (o3.more (fun k hk => by simp at hk; subst hk; exact fl.j))) o5 (by omega)⟩
  · rw [if_pos hr0]
    have hrb : (J.r != 0) = true := by simpa using hr0
    have HH : Hid (_) := And.intro h (And.intro h1 (And.intro b1 hk2))
    clear h h1 hr hf hk hk2 hL hR
    go_enter Try.func13, Try.ntmps13
    go_wp2_with fail
    refine (hV _ (Below.refl _ _)).mono ?_
    rintro r w2 ⟨rfl, b2⟩
    obtain ⟨s0, s1, s2, s3, s4, s5, s6, s7, s8, s9, s10⟩ := hS _ b2
    go_wp2_with fail
    refine bodyPost_ret (v := .agg #[.int .i64 J.r, .int .i64 J.a]) (by simp [results, Try.results13, go_sem, s8, s9]) rfl ?_
    obtain ⟨h, h1, b1, hk2⟩ := HH.out
    have hgl : 0 < J.cs.length → g ≠ w.heap.size + 1 := fun q => by have := (h.con 0 (J.cs[0]) (List.getElem?_eq_getElem q)).lt; omega
    obtain ⟨g5, o5⟩ := (h1.below b2).res s8 hne1 hgl (.int .i64 J.r) (.int .i64 J.a)
    exact ⟨rfl, M, N, by omega, fun _ _ _ hm => .inl hm, g5, fun l fl => off_res ((Off.of_below b1).trans (Off.of_below b2)) o5 (by omega)⟩
end Go.Proofs.Ytaeamogagaaodaa
