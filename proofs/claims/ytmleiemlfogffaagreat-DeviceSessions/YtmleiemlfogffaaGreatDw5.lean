/- A new life in the device's block; the memory turns; goDown, begin. -/
import Derived.Test.YtmleiemlfogffaaGreatDw4
namespace Go.Proofs.YtmleiemlfogffaaGreat
set_option maxRecDepth 100000
open Go.RowKit

section
variable {w w' w1 w2 : World} {d m g n mx : Nat} {P : Pm} {U : List Nat} {s s' : Sd} {B : Bk} {A A' : Prop}
/-- The memory turns, or the cell. -/
theorem DX.memd (h : DX w d m g n mx P U s B A) (q : Off [m, g, B.c] w w') {ms : Ms} (e : MR w' m g n ms) (hc : A' → B.cp = .pointer (some ⟨B.c, 0, none⟩) ∧ CS w' B.c m mx ms.bs false ∧ ms.off = false) :
    DX w' d m g n mx P U { s with ms := ms } B A' := by
  have hn : ∀ k, B.col k ≠ 1 → B.col k ≠ 2 → k ∉ [m, g, B.c] := fun k hk h2 hm => by
    simp at hm
    rcases hm with hm | hm | hm
    · rw [hm] at hk; exact hk h.km.1
    · rw [hm] at hk; exact hk h.kg.1
    · rw [hm] at h2; exact h2 h.kc.1
  refine ⟨(q.block d h.dlt (hn _ (by rw [h.kd.1]; omega) (by rw [h.kd.1]; omega))).trans h.dev, e, hc, ?_, ?_, ?_, ?_, h.apb, fun k hk => Nat.lt_of_lt_of_le (h.ltU k hk) q.size, h.kd, h.km, h.kg, h.kc, h.kb, h.kv, h.kw, h.kM, h.kl, h.ka, h.pok, h.n10, h.mx0, h.mxl⟩
  · exact h.dog.off q (hn _ (by rw [h.kb.1]; omega) (by rw [h.kb.1]; omega))
  · refine h.val.off q (hn _ (by rw [h.kv.1]; omega) (by rw [h.kv.1]; omega)) (hn _ (by rw [h.kw.1]; omega) (by rw [h.kw.1]; omega)) (fun k hk hM => hn k ?_ ?_ hk)
    · rw [(h.kM k hM).1]; omega
    · rw [(h.kM k hM).1]; omega
  · exact h.log.off q (fun k hk => hn _ (by rw [(h.kl k hk).1]; omega) (by rw [(h.kl k hk).1]; omega))
  · exact own_offk h.app q (fun k hk => hn _ (by rw [(h.ka k hk).1]; omega) (by rw [(h.ka k hk).1]; omega))
theorem DX.memU (h : DX w d m g n mx P U s B A) : ∀ k, k ∈ [m, g, B.c] → k ∈ U := fun k hk => by
  simp at hk
  rcases hk with hk | hk | hk
  · rw [hk]; exact h.km.2
  · rw [hk]; exact h.kg.2
  · rw [hk]; exact h.kc.2
/-- Another cell is laid into the device. -/
theorem DX.celd (h : DX w d m g n mx P U s B A) {c : Nat} {cp : Value} (hc : c ∉ U) (hlt : c < w.heap.size) (q : Off [d] w w') (e : w'.heap[d]? = some (.cells (DVC P m mx cp B.lb B.db B.vb s B.av) 101 (0, 0)))
    (hx : A' → cp = .pointer (some ⟨c, 0, none⟩) ∧ CS w c m mx s.ms.bs false ∧ s.ms.off = false) : DX w' d m g n mx P (c :: U) s { B with c := c, cp := cp, col := fun k => if k = c then 2 else B.col k } A' := by
  have hn : ∀ k, B.col k ≠ 0 → k ∉ [d] := fun k hk hm => by simp at hm; rw [hm, h.kd.1] at hk; exact hk rfl
  have hq : ∀ k x, B.col k = x ∧ k ∈ U → (if k = c then 2 else B.col k) = x ∧ k ∈ c :: U := fun k x hk => ⟨by rw [if_neg (fun e => hc (by rw [← e]; exact hk.2))]; exact hk.1, by simp [hk.2]⟩
  refine ⟨e, ?_, ?_, ?_, ?_, ?_, ?_, h.apb, ?_, hq _ _ h.kd, hq _ _ h.km, hq _ _ h.kg, ⟨if_pos rfl, by simp⟩, hq _ _ h.kb, hq _ _ h.kv, hq _ _ h.kw, fun k hk => hq _ _ (h.kM k hk), fun k hk => hq _ _ (h.kl k hk), fun k hk => hq _ _ (h.ka k hk), h.pok, h.n10, h.mx0, h.mxl⟩
  · exact h.mem.off q (hn _ (by rw [h.km.1]; omega)) (hn _ (by rw [h.kg.1]; omega))
  · intro hs
    obtain ⟨c1, c2, c3⟩ := hx hs
    exact ⟨c1, c2.off q (by simp; intro e; exact hc (by rw [e]; exact h.kd.2)), c3⟩
  · exact h.dog.off q (hn _ (by rw [h.kb.1]; omega))
  · exact h.val.off q (hn _ (by rw [h.kv.1]; omega)) (hn _ (by rw [h.kw.1]; omega)) (fun k hk hM => by simp at hk; subst hk; have := (h.kM _ hM).1; rw [h.kd.1] at this; omega)
  · exact h.log.off q (fun k hk => hn _ (by rw [(h.kl k hk).1]; omega))
  · exact own_offk h.app q (fun k hk => hn _ (by rw [(h.ka k hk).1]; omega))
  · intro k hk
    simp at hk
    rcases hk with rfl | hk
    · exact Nat.lt_of_lt_of_le hlt q.size
    · exact Nat.lt_of_lt_of_le (h.ltU k hk) q.size
/-- A new life is laid into the device's block. -/
theorem DX.lived (h : DX w d m g n mx P U s B A) {db vb vg ga k : Nat} (q : NL w w1 P db vb vg ga) (o : Off [d] w1 w2)
    (e : w2.heap[d]? = some (.cells (DVC P m mx B.cp B.lb db vb (dlife s k) (.slice (some ⟨ga, 0, none⟩) P.i P.i)) 101 (0, 0))) :
    ∃ U' B', Gr U w U' w2 ∧ DX w2 d m g n mx P U' (dlife s k) B' A := by
  obtain ⟨q1, q2, q3, q4, q5, q6, q7, q8, q9, q10⟩ := q
  have hd := h.dlt
  have hq : ∀ k x, B.col k = x ∧ k ∈ U → (if k < w.heap.size then B.col k else if k = db then 3 else if k = vb ∨ k = vg then 4 else 6) = x ∧ k ∈ [db, vb, vg, ga] ++ U := fun k x hk => ⟨by rw [if_pos (h.ltU k hk.2)]; exact hk.1, List.mem_append.2 (.inr hk.2)⟩
  have hn : ∀ k, B.col k ≠ 0 → k ∉ [d] := fun k hk hm => by simp at hm; rw [hm, h.kd.1] at hk; exact hk rfl
  have h1 := h.newd (Off.of_below (l := []) q4)
  refine ⟨[db, vb, vg, ga] ++ U, { B with db := db, vb := vb, vg := vg, M := [], av := .slice (some ⟨ga, 0, none⟩) P.i P.i, col := fun k => if k < w.heap.size then B.col k else if k = db then 3 else if k = vb ∨ k = vg then 4 else 6 }, ⟨?_, ?_⟩, ?_⟩
  · exact (Off.of_below q4).trans (o.more (by simp [h.kd.2]))
  · intro k hk
    rcases List.mem_append.1 hk with hk | hk
    · simp at hk; right; omega
    · exact .inl hk
  · refine ⟨e, h1.mem.off o (hn _ (by rw [h.km.1]; omega)) (hn _ (by rw [h.kg.1]; omega)), ?_, q1.off o (by simp; omega), q2.off o (by simp; omega) (by simp; omega) (by simp), h1.log.off o (fun k hk => hn _ (by rw [(h.kl k hk).1]; omega)), ?_, fun _ _ => by show 0 < 256; omega, ?_, hq _ _ h.kd, hq _ _ h.km, hq _ _ h.kg, hq _ _ h.kc, ?_, ?_, ?_, fun k hk => (by simp at hk), fun k hk => hq _ _ (h.kl k hk), ?_, h.pok, h.n10, h.mx0, h.mxl⟩
    · intro hs
      obtain ⟨c1, c2, c3⟩ := h1.cel hs
      exact ⟨c1, c2.off o (hn _ (by rw [h.kc.1]; omega)), c3⟩
    · refine own_offk (own_base q3 (Nat.zero_le _)) o (fun k hk => ?_)
      cases hk
      simp; omega
    · intro k hk
      have so := o.size
      rcases List.mem_append.1 hk with hk | hk
      · simp at hk; omega
      · exact Nat.lt_of_lt_of_le (h1.ltU k hk) so
    · exact ⟨by show (if db < w.heap.size then _ else if db = db then 3 else _) = 3; rw [if_neg (by omega), if_pos rfl], by simp⟩
    · exact ⟨by show (if vb < w.heap.size then _ else if vb = db then 3 else if vb = vb ∨ vb = vg then 4 else 6) = 4; rw [if_neg (by omega), if_neg (by omega), if_pos (.inl rfl)], by simp⟩
    · exact ⟨by show (if vg < w.heap.size then _ else if vg = db then 3 else if vg = vb ∨ vg = vg then 4 else 6) = 4; rw [if_neg (by omega), if_neg (by omega), if_pos (.inr rfl)], by simp⟩
    · intro k hk
      cases hk
      exact ⟨by show (if ga < w.heap.size then _ else if ga = db then 3 else if ga = vb ∨ ga = vg then 4 else 6) = 6; rw [if_neg (by omega), if_neg (by omega), if_neg (by omega)], by simp⟩
end
theorem nineAt (b : Nat) (w : World) (x0 x1 x2 x3 x4 x5 x6 x7 x8 : Value) :
    Off [b] w (((((((((w.setCell ⟨b, 9, none⟩ x0).setCell ⟨b, 10, none⟩ x1).setCell ⟨b, 11, none⟩ x2).setCell ⟨b, 12, none⟩ x3).setCell ⟨b, 13, none⟩ x4).setCell ⟨b, 14, none⟩ x5).setCell ⟨b, 15, none⟩ x6).setCell ⟨b, 16, none⟩ x7).setCell ⟨b, 17, none⟩ x8) :=
  ((((((((Off.setCell b 9 w x0).trans (Off.setCell b 10 _ x1)).trans (Off.setCell b 11 _ x2)).trans (Off.setCell b 12 _ x3)).trans (Off.setCell b 13 _ x4)).trans (Off.setCell b 14 _ x5)).trans (Off.setCell b 15 _ x6)).trans (Off.setCell b 16 _ x7)).trans (Off.setCell b 17 _ x8)
theorem nineHeap {w : World} {d m mx lb db vb db' vb' : Nat} {P : Pm} {cp av av' : Value} {s : Sd} (e : w.heap[d]? = some (.cells (DVC P m mx cp lb db vb s av) 101 (0, 0))) :
    (((((((((w.setCell ⟨d, 9, none⟩ (.pointer (some ⟨db', 0, none⟩))).setCell ⟨d, 10, none⟩ (.pointer (some ⟨vb', 0, none⟩))).setCell ⟨d, 11, none⟩ (.int .i64 1)).setCell ⟨d, 12, none⟩ (.int .u32 0)).setCell ⟨d, 13, none⟩ (.int .u32 0)).setCell ⟨d, 14, none⟩ (.int .u32 0)).setCell ⟨d, 15, none⟩ (.int .i64 0)).setCell ⟨d, 16, none⟩ av').setCell ⟨d, 17, none⟩ (.bool false)).heap[d]? = some (.cells (DVC P m mx cp lb db' vb' (dlife s 1) av') 101 (0, 0)) := by
  have e0 : (w.setCell ⟨d, 9, none⟩ (.pointer (some ⟨db', 0, none⟩))).heap[d]? = some (.cells (DVC P m mx cp lb db' vb s av) 101 (0, 0)) := heap_setCell_same _ _ _ _ _ _ e
  have e1 : ((w.setCell ⟨d, 9, none⟩ (.pointer (some ⟨db', 0, none⟩))).setCell ⟨d, 10, none⟩ (.pointer (some ⟨vb', 0, none⟩))).heap[d]? = some (.cells (DVC P m mx cp lb db' vb' s av) 101 (0, 0)) := heap_setCell_same _ _ _ _ _ _ e0
  have e2 : (((w.setCell ⟨d, 9, none⟩ (.pointer (some ⟨db', 0, none⟩))).setCell ⟨d, 10, none⟩ (.pointer (some ⟨vb', 0, none⟩))).setCell ⟨d, 11, none⟩ (.int .i64 1)).heap[d]? = some (.cells (DVC P m mx cp lb db' vb' { s with st := 1 } av) 101 (0, 0)) := heap_setCell_same _ _ _ _ _ _ e1
  have e3 : ((((w.setCell ⟨d, 9, none⟩ (.pointer (some ⟨db', 0, none⟩))).setCell ⟨d, 10, none⟩ (.pointer (some ⟨vb', 0, none⟩))).setCell ⟨d, 11, none⟩ (.int .i64 1)).setCell ⟨d, 12, none⟩ (.int .u32 0)).heap[d]? = some (.cells (DVC P m mx cp lb db' vb' { s with st := 1, ss := 0 } av) 101 (0, 0)) := heap_setCell_same _ _ _ _ _ _ e2
  have e4 : (((((w.setCell ⟨d, 9, none⟩ (.pointer (some ⟨db', 0, none⟩))).setCell ⟨d, 10, none⟩ (.pointer (some ⟨vb', 0, none⟩))).setCell ⟨d, 11, none⟩ (.int .i64 1)).setCell ⟨d, 12, none⟩ (.int .u32 0)).setCell ⟨d, 13, none⟩ (.int .u32 0)).heap[d]? = some (.cells (DVC P m mx cp lb db' vb' { s with st := 1, ss := 0, nm := 0 } av) 101 (0, 0)) := heap_setCell_same _ _ _ _ _ _ e3
  have e5 : ((((((w.setCell ⟨d, 9, none⟩ (.pointer (some ⟨db', 0, none⟩))).setCell ⟨d, 10, none⟩ (.pointer (some ⟨vb', 0, none⟩))).setCell ⟨d, 11, none⟩ (.int .i64 1)).setCell ⟨d, 12, none⟩ (.int .u32 0)).setCell ⟨d, 13, none⟩ (.int .u32 0)).setCell ⟨d, 14, none⟩ (.int .u32 0)).heap[d]? = some (.cells (DVC P m mx cp lb db' vb' { s with st := 1, ss := 0, nm := 0, sn := 0 } av) 101 (0, 0)) := heap_setCell_same _ _ _ _ _ _ e4
  have e6 : (((((((w.setCell ⟨d, 9, none⟩ (.pointer (some ⟨db', 0, none⟩))).setCell ⟨d, 10, none⟩ (.pointer (some ⟨vb', 0, none⟩))).setCell ⟨d, 11, none⟩ (.int .i64 1)).setCell ⟨d, 12, none⟩ (.int .u32 0)).setCell ⟨d, 13, none⟩ (.int .u32 0)).setCell ⟨d, 14, none⟩ (.int .u32 0)).setCell ⟨d, 15, none⟩ (.int .i64 0)).heap[d]? = some (.cells (DVC P m mx cp lb db' vb' { s with st := 1, ss := 0, nm := 0, sn := 0, od := 0 } av) 101 (0, 0)) := heap_setCell_same _ _ _ _ _ _ e5
  have e7 : ((((((((w.setCell ⟨d, 9, none⟩ (.pointer (some ⟨db', 0, none⟩))).setCell ⟨d, 10, none⟩ (.pointer (some ⟨vb', 0, none⟩))).setCell ⟨d, 11, none⟩ (.int .i64 1)).setCell ⟨d, 12, none⟩ (.int .u32 0)).setCell ⟨d, 13, none⟩ (.int .u32 0)).setCell ⟨d, 14, none⟩ (.int .u32 0)).setCell ⟨d, 15, none⟩ (.int .i64 0)).setCell ⟨d, 16, none⟩ av').heap[d]? = some (.cells (DVC P m mx cp lb db' vb' { s with st := 1, ss := 0, nm := 0, sn := 0, od := 0 } av') 101 (0, 0)) := heap_setCell_same _ _ _ _ _ _ e6
  have e8 : (((((((((w.setCell ⟨d, 9, none⟩ (.pointer (some ⟨db', 0, none⟩))).setCell ⟨d, 10, none⟩ (.pointer (some ⟨vb', 0, none⟩))).setCell ⟨d, 11, none⟩ (.int .i64 1)).setCell ⟨d, 12, none⟩ (.int .u32 0)).setCell ⟨d, 13, none⟩ (.int .u32 0)).setCell ⟨d, 14, none⟩ (.int .u32 0)).setCell ⟨d, 15, none⟩ (.int .i64 0)).setCell ⟨d, 16, none⟩ av').setCell ⟨d, 17, none⟩ (.bool false)).heap[d]? = some (.cells (DVC P m mx cp lb db' vb' { s with st := 1, ss := 0, nm := 0, sn := 0, od := 0, hd := false } av') 101 (0, 0)) := heap_setCell_same _ _ _ _ _ _ e7
  exact e8
set_option maxHeartbeats 3200000 in
theorem goDown_any (d m g n mx : Nat) (P : Pm) (U : List Nat) (s : Sd) (B : Bk) (A : Prop) (w : World) (h : DX w d m g n mx P U s B A) :
    Calls Tryz.prog 68 #[.pointer (some ⟨d, 0, none⟩)] w fun e w' => e = .returned (.tuple #[]) ∧ Hid (∃ U', Gr U w U' w' ∧ DV w' d m g n mx P U' (dlife s 6)) := by
  obtain ⟨c0, c1, c2, c3, c4, _⟩ := h.cells
  have hL := newLife_any P h.pok w
  have H : Hid (_) := h
  clear h
  go_enter Tryz.func68, Tryz.ntmps68
  go_wp2_with (go_at_call 38; refine hL.mono ?_; rintro e w1 ⟨db, vb, vg, ga, rfl, h1⟩; obtain ⟨_, _, _, _, _, _, _, _, _, y9, y10, y11, y12, y13, y14, y15, y16, y17⟩ := (H.out.newd (Off.of_below h1.out.bel)).cells; have fz := (H.out.newd (Off.of_below h1.out.bel)).fz; have f9 := fz 9; have f10 := fz 10; have f11 := fz 11; have f12 := fz 12; have f13 := fz 13; have f14 := fz 14; have f15 := fz 15; have f16 := fz 16; have f17 := fz 17; clear fz c0 c1 c2 c3 c4 hL)
  go_end0
  have e1 := (H.out.newd (Off.of_below h1.out.bel)).dev
  have o := (nineAt d w1 (.pointer (some ⟨db, 0, none⟩)) (.pointer (some ⟨vb, 0, none⟩)) (.int .i64 1) (.int .u32 0) (.int .u32 0) (.int .u32 0) (.int .i64 0) (.slice (some ⟨ga, 0, none⟩) P.i P.i) (.bool false)).trans (Off.setCell d 11 _ (.int .i64 6))
  have e2 := nineHeap (db' := db) (vb' := vb) (av' := .slice (some ⟨ga, 0, none⟩) P.i P.i) e1
  have e3 : (World.setCell _ ⟨d, 11, none⟩ (.int .i64 6)).heap[d]? = some (.cells (DVC P m mx B.cp B.lb db vb (dlife s 6) (.slice (some ⟨ga, 0, none⟩) P.i P.i)) 101 (0, 0)) := heap_setCell_same _ _ _ _ _ _ e2
  obtain ⟨U', B', g2, x2⟩ := H.out.lived (k := 6) h1.out o e3
  exact ⟨rfl, U', g2, B', { x2 with cel := fun hs => absurd rfl hs }⟩

end Go.Proofs.YtmleiemlfogffaaGreat
