/- Part 16 of the texts on which the proofs of layer 13 rest: contracts of Go functions. -/
import Derived.Test.YtndjepeolamedaaGreatPkB09
import Derived.Test.YtndjepeolamedaaGreatPkB12
import Derived.Test.YtndjepeolamedaaGreatPkB14
namespace Go.Proofs.YtndjepeolamedaaGreat
set_option maxRecDepth 100000
open Go.RowKit
theorem reset_neg (d : Nat) (k : Int) (w : World) (hk : k < 0) : Calls Tryz.prog 71 #[.pointer (some ⟨d, 0, none⟩), .int .i64 k] w fun e w' => e = .returned (.int .i64 2) ∧ w' = w := by
  go_enter Tryz.func71, Tryz.ntmps71
  go_wp2_with fail
  go_ret
  exact ⟨rfl, rfl⟩
end Go.Proofs.YtndjepeolamedaaGreat
namespace Go.Proofs.YtndjepeolamedaaGreat
set_option maxRecDepth 100000
open Go.RowKit
theorem opS_off {mx n : Nat} {s : Ms} (hl : 0 ≤ s.l) (h : opE mx n s = 0) : (opS mx n s).off = false := by
  unfold opE at h
  unfold opS
  by_cases h1 : mx = 0 ∨ n < 10
  · rw [if_pos h1] at h; omega
  · rw [if_neg h1] at h ⊢
    by_cases h2 : s.off = true
    · rw [if_pos h2] at h; omega
    · rw [if_neg h2] at h ⊢
      rcases sq_all n (mend s.bs) s (fun x hx => (mend_in s.bs n (by omega) x hx).1) (by simpa using h2) hl with ⟨_, e, _⟩ | ⟨e, _⟩
      · rw [e]
      · omega
theorem DX.celn {w w' : World} {d m g n mx : Nat} {P : Pm} {U : List Nat} {s : Sd} {B : Bk} {A : Prop} (h : DX w d m g n mx P U s B A) {cp : Value} (q : Off [d] w w') (e : w'.heap[d]? = some (.cells (DVC P m mx cp B.lb B.db B.vb s B.av) 116 (0, 0))) : DX w' d m g n mx P U s { B with cp := cp } False := by
  have hn : ∀ k, B.col k ≠ 0 → k ∉ [d] := fun k hk hm => by simp at hm; rw [hm, h.kd.1] at hk; exact hk rfl
  refine ⟨e, ?_, fun h => h.elim, ?_, ?_, ?_, ?_, h.apb, fun k hk => Nat.lt_of_lt_of_le (h.ltU k hk) q.size, h.kd, h.km, h.kg, h.kc, h.kb, h.kv, h.kw, h.kM, h.kl, h.ka, h.pok, h.n10, h.mx0, h.mxl⟩
  · exact h.mem.off q (hn _ (by rw [h.km.1]; omega)) (hn _ (by rw [h.kg.1]; omega))
  · exact h.dog.off q (hn _ (by rw [h.kb.1]; omega))
  · exact h.val.off q (hn _ (by rw [h.kv.1]; omega)) (hn _ (by rw [h.kw.1]; omega)) (fun k hk hM => by simp at hk; subst hk; have := (h.kM _ hM).1; rw [h.kd.1] at this; omega)
  · exact h.log.off q (fun k hk => hn _ (by rw [(h.kl k hk).1]; omega))
  · exact own_offk h.app q (fun k hk => hn _ (by rw [(h.ka k hk).1]; omega))
theorem openAll (d m g n mx : Nat) (P : Pm) (U : List Nat) (s : Sd) (B : Bk) (A : Prop) (w : World) (h : DX w d m g n mx P U s B A) (ms : Ms) (hms : s.ms = ms) (E : Int) (hE : opE mx n ms = E) (ht : ms.t < 9223372036854774000) :
    Calls Tryz.prog 50 #[.pointer (some ⟨m, 0, none⟩), .int .u32 (mx : Nat)] w fun e w' => ∃ p, e = .returned (.tuple #[.pointer p, .int .i64 E]) ∧ Hid (∃ B', Gr U w U w' ∧ DX w' d m g n mx P U { s with ms := opS mx n ms } B' False ∧
      (E = 0 → ∃ c, p = some ⟨c, 0, none⟩ ∧ c ∉ U ∧ w.heap.size ≤ c ∧ c < w'.heap.size ∧ CS w' c m mx (opS mx n ms).bs false ∧ (opS mx n ms).off = false) ∧ (¬ E = 0 → p = none)) := by
  subst hms
  subst hE
  refine (popen m g n mx s.ms w h.mem ht).mono ?_
  rintro e w' ⟨p, rfl, h2⟩
  obtain ⟨o2, m2, c2, p2⟩ := h2.out
  refine ⟨p, rfl, B, Gr.same o2 (fun k hk => h.memU k (by simp at hk ⊢; rcases hk with hk | hk <;> simp [hk])), h.memd (o2.more (by simp)) m2 (fun h => h.elim), fun he => ?_, p2⟩
  obtain ⟨c, hp, hc, hC⟩ := c2 he
  exact ⟨c, hp, fun hm => by have := h.ltU c hm; omega, hc, hC.lt, hC, opS_off h.mem.l0 he⟩
set_option maxHeartbeats 3200000 in
theorem dvreset_any (d m g n mx : Nat) (P : Pm) (U : List Nat) (s : Sd) (k : Int) (w : World) (h : DV w d m g n mx P U s) (hk0 : 0 ≤ k) (hk : k ≤ 9223372036854775807) (ht : s.ms.t < 9223372036854774000) :
    Calls Tryz.prog 71 #[.pointer (some ⟨d, 0, none⟩), .int .i64 k] w fun e w' => e = .returned (.int .i64 (dresetE mx n s k)) ∧ Hid (∃ U', Gr U w U' w' ∧ DV w' d m g n mx P U' (dresetS mx n s k)) := by
  unfold dresetE dresetS
  rw [if_neg (by omega), if_neg (by omega)]
  obtain ⟨B, h⟩ := h
  obtain ⟨c0, c1, c2, c3, c4, _⟩ := h.cells
  have hL := newLife_any P h.pok w
  have H : Hid (_) := And.intro h ht
  clear h ht
  obtain ⟨MS, hMS⟩ : ∃ x, rsM s.ms k = x := ⟨_, rfl⟩
  rw [hMS]
  obtain ⟨E, hE⟩ : ∃ x, opE mx n MS = x := ⟨_, rfl⟩
  rw [hE]
  have hMt : MS.t = s.ms.t := by subst hMS; unfold rsM arS; split <;> (try split) <;> rfl
  obtain ⟨K6, hK6⟩ : ∃ x, (if E = 0 then 1 else 6) = x := ⟨_, rfl⟩
  rw [hK6]
  have HM : Hid (_) := And.intro hMS (And.intro hE (And.intro hMt hK6))
  clear hMS hE hMt hK6
  by_cases hp : 0 < k
  · go_enter Tryz.func71, Tryz.ntmps71
    go_wp2_with (go_at_call 52; refine hL.mono ?_; rintro e w1 ⟨db, vb, vg, ga, rfl, h1⟩; obtain ⟨_, _, _, _, _, y5, _, _, _, y9, y10, y11, y12, y13, y14, y15, y16, y17⟩ := (H.out.1.newd (Off.of_below h1.out.bel)).cells; have fz := (H.out.1.newd (Off.of_below h1.out.bel)).fz; have f9 := fz 9; have f10 := fz 10; have f11 := fz 11; have f12 := fz 12; have f13 := fz 13; have f14 := fz 14; have f15 := fz 15; have f16 := fz 16; have f17 := fz 17; clear fz c0 c1 c2 c3 c4 hL)
    have e1 := (H.out.1.newd (Off.of_below h1.out.bel)).dev
    have o := nineAt d w1 (.pointer (some ⟨db, 0, none⟩)) (.pointer (some ⟨vb, 0, none⟩)) (.int .i64 1) (.int .u32 0) (.int .u32 0) (.int .u32 0) (.int .i64 0) (.slice (some ⟨ga, 0, none⟩) P.i P.i) (.bool false)
    have e2 := nineHeap (db' := db) (vb' := vb) (av' := .slice (some ⟨ga, 0, none⟩) P.i P.i) e1
    obtain ⟨U2, B2, g2, x2⟩ := H.out.1.lived (k := 1) h1.out o e2
    refine (on_any _ _ _ _ _ x2.mem).mono ?_
    rintro e w3 ⟨rfl, o3, m3⟩
    have x3 := x2.memd (o3.more (by simp)) m3 (A' := False) (fun h => h.elim)
    have z5 := x3.cells.2.2.2.2.2.1
    have z6 := x3.cells.2.2.2.2.2.2.1
    have H3 : Hid (_) := And.intro (g2.trans (Gr.same (o3.more (by simp)) x2.memU)) (And.intro x3 H.out.2)
    clear H h1 e1 o e2 g2 x2 o3 m3 x3 y5 y9 y10 y11 y12 y13 y14 y15 y16 y17 f9 f10 f11 f12 f13 f14 f15 f16 f17
    go_wp2_with fail
    refine (arm_any _ _ _ _ (k - 1) w3 H3.out.2.1.mem (by omega)).mono ?_
    rintro e w4 ⟨rfl, o4, m4⟩
    have x4 := H3.out.2.1.memd (o4.more (by simp)) m4 (A' := False) (fun h => h.elim)
    have y5 := x4.cells.2.2.2.2.2.1
    have y6 := x4.cells.2.2.2.2.2.2.1
    have H4 : Hid (_) := And.intro (H3.out.1.trans (Gr.same (o4.more (by simp)) H3.out.2.1.memU)) (And.intro x4 H3.out.2.2)
    clear H3 o4 m4 x4 z5 z6
    go_wp2_with fail
    have hO := openAll d m g n mx P U2 _ _ _ _ (H4.out.2.1.newd (Off.drew [] w4)) MS (by rw [← HM.out.1]; unfold rsM; rw [if_pos hp]; rfl) E HM.out.2.1 (by rw [HM.out.2.2.1]; exact H4.out.2.2)
    go_region_with (go_at_call 50; refine hO.mono ?_; rintro e w5 ⟨p, rfl, h5⟩)
    all_goals
      obtain ⟨B5, g5, x5, c5, p5⟩ := h5.out
      have G5 := H4.out.1.trans (Gr.trans (Gr.same (Off.drew [] w4) (by simp)) g5)
      have y7 := x5.cells.2.2.2.2.2.2.2.1
      have f7 := x5.fz 7
      have H5 : Hid (_) := And.intro G5 (And.intro x5 (And.intro c5 p5))
      have H2s : Hid (_) := Nat.le_trans H4.out.1.off.size (Nat.le_refl _)
      clear hO h5 g5 x5 c5 p5 G5 H4 y5 y6
      by_cases he : E = 0
      · have e0 : (E != 0) = false := by simp [he]
        obtain ⟨c, rfl, hc, hge, hlt, hC, hoff⟩ := H5.out.2.2.1 he
        have HE : Hid (_) := And.intro he (And.intro hc (And.intro hge (And.intro hlt (And.intro hC hoff))))
        clear he hc hge hlt hC hoff
        go_wp2_with fail
        go_ret
        obtain ⟨he, hc, hge, hlt, hC, hoff⟩ := HE.out
        obtain ⟨G5, x5, _, _⟩ := H5.out
        have hk6 : K6 = 1 := by rw [← HM.out.2.2.2, if_pos he]
        subst hk6
        have x6 := x5.celd (A' := (1 : Nat) ≠ 6) (cp := .pointer (some ⟨c, 0, none⟩)) hc hlt (Off.setCell d 7 w5 (.pointer (some ⟨c, 0, none⟩))) (heap_setCell_same _ _ _ _ _ _ x5.dev) (fun _ => ⟨rfl, hC, hoff⟩)
        refine ⟨rfl, c :: U2, ⟨(G5.trans (Gr.same (Off.setCell d 7 w5 (.pointer (some ⟨c, 0, none⟩))) (by simp [x5.kd.2]))).off, fun j hj => ?_⟩, _, x6⟩
        simp at hj
        rcases hj with rfl | hj
        · exact .inr (Nat.le_trans H2s.out hge)
        · exact G5.new j hj
      · have e0 : (E != 0) = true := by simp [he]
        obtain rfl := H5.out.2.2.2 he
        have x6 := H5.out.2.1.celn (cp := .pointer none) (Off.setCell d 7 w5 (.pointer none)) (heap_setCell_same _ _ _ _ _ _ H5.out.2.1.dev)
        have hD := goDown_any d m g n mx P U2 _ _ _ _ x6
        have H6 : Hid (_) := And.intro he (H5.out.1.trans (Gr.same (Off.setCell d 7 w5 (.pointer none)) (by simp [H5.out.2.1.kd.2])))
        clear he x6 H5
        go_wp2_with (go_at_call 140; refine hD.mono ?_; rintro e w7 ⟨rfl, h7⟩)
        go_ret
        obtain ⟨U7, g7, x7⟩ := h7.out
        have hk6 : K6 = 6 := by rw [← HM.out.2.2.2, if_neg H6.out.1]
        subst hk6
        exact ⟨rfl, U7, H6.out.2.trans g7, x7⟩
  · go_enter Tryz.func71, Tryz.ntmps71
    go_wp2_with (go_at_call 52; refine hL.mono ?_; rintro e w1 ⟨db, vb, vg, ga, rfl, h1⟩; obtain ⟨_, _, _, _, _, y5, _, _, _, y9, y10, y11, y12, y13, y14, y15, y16, y17⟩ := (H.out.1.newd (Off.of_below h1.out.bel)).cells; have fz := (H.out.1.newd (Off.of_below h1.out.bel)).fz; have f9 := fz 9; have f10 := fz 10; have f11 := fz 11; have f12 := fz 12; have f13 := fz 13; have f14 := fz 14; have f15 := fz 15; have f16 := fz 16; have f17 := fz 17; clear fz c0 c1 c2 c3 c4 hL)
    have e1 := (H.out.1.newd (Off.of_below h1.out.bel)).dev
    have o := nineAt d w1 (.pointer (some ⟨db, 0, none⟩)) (.pointer (some ⟨vb, 0, none⟩)) (.int .i64 1) (.int .u32 0) (.int .u32 0) (.int .u32 0) (.int .i64 0) (.slice (some ⟨ga, 0, none⟩) P.i P.i) (.bool false)
    have e2 := nineHeap (db' := db) (vb' := vb) (av' := .slice (some ⟨ga, 0, none⟩) P.i P.i) e1
    obtain ⟨U2, B2, g2, x2⟩ := H.out.1.lived (k := 1) h1.out o e2
    refine (on_any _ _ _ _ _ x2.mem).mono ?_
    rintro e w3 ⟨rfl, o3, m3⟩
    have x3 := x2.memd (o3.more (by simp)) m3 (A' := False) (fun h => h.elim)
    have z5 := x3.cells.2.2.2.2.2.1
    have z6 := x3.cells.2.2.2.2.2.2.1
    have H3 : Hid (_) := And.intro (g2.trans (Gr.same (o3.more (by simp)) x2.memU)) (And.intro x3 H.out.2)
    clear H h1 e1 o e2 g2 x2 o3 m3 x3 y5 y9 y10 y11 y12 y13 y14 y15 y16 y17 f9 f10 f11 f12 f13 f14 f15 f16 f17
    go_wp2_with fail
    have H4 : Hid (_) := H3.out
    have y5 := z5
    have y6 := z6
    clear H3 z5 z6
    have hO := openAll d m g n mx P U2 _ _ _ _ (H4.out.2.1.newd (Off.drew [] w3)) MS (by rw [← HM.out.1]; unfold rsM; rw [if_neg (by omega)]; rfl) E HM.out.2.1 (by rw [HM.out.2.2.1]; exact H4.out.2.2)
    go_region_with (go_at_call 50; refine hO.mono ?_; rintro e w5 ⟨p, rfl, h5⟩)
    all_goals
      obtain ⟨B5, g5, x5, c5, p5⟩ := h5.out
      have G5 := H4.out.1.trans (Gr.trans (Gr.same (Off.drew [] w3) (by simp)) g5)
      have y7 := x5.cells.2.2.2.2.2.2.2.1
      have f7 := x5.fz 7
      have H5 : Hid (_) := And.intro G5 (And.intro x5 (And.intro c5 p5))
      have H2s : Hid (_) := Nat.le_trans H4.out.1.off.size (Nat.le_refl _)
      clear hO h5 g5 x5 c5 p5 G5 H4 y5 y6
      by_cases he : E = 0
      · have e0 : (E != 0) = false := by simp [he]
        obtain ⟨c, rfl, hc, hge, hlt, hC, hoff⟩ := H5.out.2.2.1 he
        have HE : Hid (_) := And.intro he (And.intro hc (And.intro hge (And.intro hlt (And.intro hC hoff))))
        clear he hc hge hlt hC hoff
        go_wp2_with fail
        go_ret
        obtain ⟨he, hc, hge, hlt, hC, hoff⟩ := HE.out
        obtain ⟨G5, x5, _, _⟩ := H5.out
        have hk6 : K6 = 1 := by rw [← HM.out.2.2.2, if_pos he]
        subst hk6
        have x6 := x5.celd (A' := (1 : Nat) ≠ 6) (cp := .pointer (some ⟨c, 0, none⟩)) hc hlt (Off.setCell d 7 w5 (.pointer (some ⟨c, 0, none⟩))) (heap_setCell_same _ _ _ _ _ _ x5.dev) (fun _ => ⟨rfl, hC, hoff⟩)
        refine ⟨rfl, c :: U2, ⟨(G5.trans (Gr.same (Off.setCell d 7 w5 (.pointer (some ⟨c, 0, none⟩))) (by simp [x5.kd.2]))).off, fun j hj => ?_⟩, _, x6⟩
        simp at hj
        rcases hj with rfl | hj
        · exact .inr (Nat.le_trans H2s.out hge)
        · exact G5.new j hj
      · have e0 : (E != 0) = true := by simp [he]
        obtain rfl := H5.out.2.2.2 he
        have x6 := H5.out.2.1.celn (cp := .pointer none) (Off.setCell d 7 w5 (.pointer none)) (heap_setCell_same _ _ _ _ _ _ H5.out.2.1.dev)
        have hD := goDown_any d m g n mx P U2 _ _ _ _ x6
        have H6 : Hid (_) := And.intro he (H5.out.1.trans (Gr.same (Off.setCell d 7 w5 (.pointer none)) (by simp [H5.out.2.1.kd.2])))
        clear he x6 H5
        go_wp2_with (go_at_call 140; refine hD.mono ?_; rintro e w7 ⟨rfl, h7⟩)
        go_ret
        obtain ⟨U7, g7, x7⟩ := h7.out
        have hk6 : K6 = 6 := by rw [← HM.out.2.2.2, if_neg H6.out.1]
        subst hk6
        exact ⟨rfl, U7, H6.out.2.trans g7, x7⟩
end Go.Proofs.YtndjepeolamedaaGreat
namespace Go.Proofs.YtndjepeolamedaaGreat
set_option maxRecDepth 100000
open Go.RowKit
def dnew (ms : Ms) : Sd := ⟨ms, [], 0, vnew, 1, 0, 0, 0, 0, fun _ => 0, false⟩
theorem DX.made {w2 w3 w4 : World} {m g n mx c : Nat} {P : Pm} {ms : Ms} {db vb vg ga b : Nat} (hP : Pok P) (hn : 10 ≤ n) (hx0 : mx ≠ 0) (hx : mx < 4294967296) (hM : MR w2 m g n ms) (hC : CS w2 c m mx ms.bs false) (hoff : ms.off = false)
    (hm : m < c) (hg : g < c) (q : Off [] w2 w3) (hD : DG w3 (b + 2) [b, b + 1, b + 2] []) (hb : w2.heap.size ≤ b) (hN : NL w3 w4 P db vb vg ga) :
    DX (w4.alloc (.cells (DVC P m mx (.pointer (some ⟨c, 0, none⟩)) (b + 2) db vb (dnew ms) (.slice (some ⟨ga, 0, none⟩) P.i P.i)) 116)) w4.heap.size m g n mx P [w4.heap.size, m, g, c, db, vb, vg, ga, b, b + 1, b + 2] (dnew ms)
      ⟨c, b + 2, db, vb, vg, [], [b, b + 1, b + 2], .pointer (some ⟨c, 0, none⟩), .slice (some ⟨ga, 0, none⟩) P.i P.i, fun k => if k = w4.heap.size then 0 else if k = m ∨ k = g then 1 else if k = c then 2 else if k = db then 3 else if k = vb ∨ k = vg then 4 else if k = ga then 6 else 5⟩ True := by
  obtain ⟨q1, q2, q3, q4, q5, q6, q7, q8, q9, q10⟩ := hN
  have hc := hC.lt
  have s2 := q.size
  have s3 := q4.size
  have d3 : b + 2 < w3.heap.size := hD.ult _ (by simp)
  have o34 : Off [] w3 w4 := Off.of_below q4
  have oA : Off [] w4 (w4.alloc (.cells (DVC P m mx (.pointer (some ⟨c, 0, none⟩)) (b + 2) db vb (dnew ms) (.slice (some ⟨ga, 0, none⟩) P.i P.i)) 116)) := Off.alloc _ _ _
  have oB := (q.trans o34).trans oA
  refine ⟨heap_alloc_new w4 _, hM.off oB (by simp) (by simp), fun _ => ⟨rfl, hC.off oB (by simp), hoff⟩, q1.off oA (by simp), q2.off oA (by simp) (by simp) (by simp), hD.off (o34.trans oA) (by simp), own_offk (own_base q3 (Nat.zero_le _)) oA (by simp), fun i _ => (by show 0 < 256; omega), ?_, ?_, ?_, ?_, ?_, ?_, ?_, ?_, fun k hk => (by simp at hk), ?_, ?_, hP, hn, hx0, hx⟩
  · intro k hk
    rw [World.size_alloc]
    simp at hk
    omega
  · exact ⟨if_pos rfl, by simp⟩
  · exact ⟨by dsimp only; rw [if_neg (by omega), if_pos (.inl rfl)], by simp⟩
  · exact ⟨by dsimp only; rw [if_neg (by omega), if_pos (.inr rfl)], by simp⟩
  · exact ⟨by dsimp only; rw [if_neg (by omega), if_neg (by omega), if_pos rfl], by simp⟩
  · exact ⟨by dsimp only; rw [if_neg (by omega), if_neg (by omega), if_neg (by omega), if_pos rfl], by simp⟩
  · exact ⟨by dsimp only; rw [if_neg (by omega), if_neg (by omega), if_neg (by omega), if_neg (by omega), if_pos (.inl rfl)], by simp⟩
  · exact ⟨by dsimp only; rw [if_neg (by omega), if_neg (by omega), if_neg (by omega), if_neg (by omega), if_pos (.inr rfl)], by simp⟩
  · intro k hk
    refine ⟨?_, by simp at hk ⊢; omega⟩
    dsimp only
    simp at hk
    rw [if_neg (by omega), if_neg (by omega), if_neg (by omega), if_neg (by omega), if_neg (by omega), if_neg (by omega)]
  · intro k hk
    cases hk
    exact ⟨by dsimp only; rw [if_neg (by omega), if_neg (by omega), if_neg (by omega), if_neg (by omega), if_neg (by omega), if_pos rfl], by simp⟩
set_option maxHeartbeats 1600000 in
theorem newD_bad (c : Nat) (o i t : Int) (n : Nat) (p : Option Addr) (x : Int) (w : World) (hE : ¬ okP c o i t n) :
    Calls Tryz.prog 16 #[.agg #[.int .u32 c, .int .i64 o, .int .i64 i, .int .i64 t, .int .u32 n], .pointer p, .int .u32 x] w fun e w' => e = .returned (.tuple #[.pointer none, .int .i64 90]) ∧ Below w.heap.size w w' := by
  have hb : Below w.heap.size w (w.alloc (.cells #[.int .u32 c, .int .i64 o, .int .i64 i, .int .i64 t, .int .u32 n] 36)) := (Below.refl _ _).alloc (Nat.le_refl _) _
  have hC := check_any c o i t n (w.alloc (.cells #[.int .u32 c, .int .i64 o, .int .i64 i, .int .i64 t, .int .u32 n] 36)) 90 (if_neg hE)
  clear hE
  go_enter Tryz.func16, Tryz.ntmps16
  go_wp2_with (go_at_call 49; refine hC.mono ?_; rintro e w2 ⟨rfl, b2⟩)
  go_ret2
  exact ⟨rfl, hb.trans (b2.mono hb.size)⟩
set_option maxHeartbeats 1600000 in
theorem newD_nil (c : Nat) (o i t : Int) (n : Nat) (x : Int) (w : World) (hE : okP c o i t n) :
    Calls Tryz.prog 16 #[.agg #[.int .u32 c, .int .i64 o, .int .i64 i, .int .i64 t, .int .u32 n], .pointer none, .int .u32 x] w fun e w' => e = .returned (.tuple #[.pointer none, .int .i64 1]) ∧ Below w.heap.size w w' := by
  have hb : Below w.heap.size w (w.alloc (.cells #[.int .u32 c, .int .i64 o, .int .i64 i, .int .i64 t, .int .u32 n] 36)) := (Below.refl _ _).alloc (Nat.le_refl _) _
  have hC := check_any c o i t n (w.alloc (.cells #[.int .u32 c, .int .i64 o, .int .i64 i, .int .i64 t, .int .u32 n] 36)) 0 (if_pos hE)
  have hO := fun wx => open_nil x wx
  clear hE
  go_enter Tryz.func16, Tryz.ntmps16
  go_wp2_with (first | (go_at_call 49; refine hC.mono ?_; rintro e w2 ⟨rfl, b2⟩) | (go_at_call 50; refine (hO _).mono ?_; rintro e w' ⟨rfl, hw⟩; have hw := hw.symm; subst hw))
  go_ret2
  exact ⟨rfl, hb.trans (b2.mono hb.size)⟩
set_option maxHeartbeats 3200000 in
theorem newD_any (m g n mx : Nat) (P : Pm) (hP : Pok P) (ms : Ms) (w : World) (hM : MR w m g n ms) (hx : mx < 4294967296) (ht : ms.t < 9223372036854774000) :
    Calls Tryz.prog 16 #[.agg #[.int .u32 (P.c : Nat), .int .i64 (P.o : Nat), .int .i64 (P.i : Nat), .int .i64 (P.t : Nat), .int .u32 (P.n : Nat)], .pointer (some ⟨m, 0, none⟩), .int .u32 (mx : Nat)] w fun e w' => ∃ p, e = .returned (.tuple #[.pointer p, .int .i64 (opE mx n ms)]) ∧ Hid (Off [m, g] w w' ∧ MR w' m g n (opS mx n ms) ∧
      (opE mx n ms = 0 → ∃ d U, p = some ⟨d, 0, none⟩ ∧ DV w' d m g n mx P U (dnew (opS mx n ms)) ∧ (∀ k, k ∈ U → k = m ∨ k = g ∨ w.heap.size ≤ k)) ∧ (¬ opE mx n ms = 0 → p = none)) := by
  have hb : Below w.heap.size w (w.alloc (.cells #[.int .u32 (P.c : Nat), .int .i64 (P.o : Nat), .int .i64 (P.i : Nat), .int .i64 (P.t : Nat), .int .u32 (P.n : Nat)] 36)) := (Below.refl _ _).alloc (Nat.le_refl _) _
  have hs : (w.alloc (.cells #[.int .u32 (P.c : Nat), .int .i64 (P.o : Nat), .int .i64 (P.i : Nat), .int .i64 (P.t : Nat), .int .u32 (P.n : Nat)] 36)).heap.size = w.heap.size + 1 := by simp
  have hx0 := heap_alloc_new w (.cells #[.int .u32 (P.c : Nat), .int .i64 (P.o : Nat), .int .i64 (P.i : Nat), .int .i64 (P.t : Nat), .int .u32 (P.n : Nat)] 36)
  have hC := check_any P.c P.o P.i P.t P.n (w.alloc (.cells #[.int .u32 (P.c : Nat), .int .i64 (P.o : Nat), .int .i64 (P.i : Nat), .int .i64 (P.t : Nat), .int .u32 (P.n : Nat)] 36)) 0 (if_pos hP.ok)
  obtain ⟨E, hE⟩ : ∃ x, opE mx n ms = x := ⟨_, rfl⟩
  rw [hE]
  have hO : ∀ wx, MR wx m g n ms → Calls Tryz.prog 50 #[.pointer (some ⟨m, 0, none⟩), .int .u32 (mx : Nat)] wx fun e w' => ∃ p, e = .returned (.tuple #[.pointer p, .int .i64 E]) ∧ Hid (Off [m, g] wx w' ∧ MR w' m g n (opS mx n ms) ∧
      (E = 0 → ∃ c, p = some ⟨c, 0, none⟩ ∧ wx.heap.size ≤ c ∧ CS w' c m mx (opS mx n ms).bs false) ∧ (¬ E = 0 → p = none)) := by
    intro wx hMx
    subst hE
    exact popen m g n mx ms wx hMx ht
  have HO : Hid (_) := hO
  have HH : Hid (_) := And.intro hb (And.intro hs (And.intro hx0 (And.intro hM (And.intro hE (And.intro hP hx)))))
  clear hO hb hs hx0 hM hE hP hx ht
  go_enter Tryz.func16, Tryz.ntmps16
  go_wp2_with (first | (go_at_call 49; refine hC.mono ?_; rintro e w1 ⟨rfl, b1⟩))
  obtain ⟨hb, hs, hx0, hM, _⟩ := HH.out
  have bb := hb.trans (b1.mono hb.size)
  refine (HO.out w1 (hM.off (Off.of_below (l := []) bb) (by simp) (by simp))).mono ?_
  rintro e w2 ⟨p, rfl, h2⟩
  have e2 : w2.heap[w.heap.size]? = some (.cells #[.int .u32 (P.c : Nat), .int .i64 (P.o : Nat), .int .i64 (P.i : Nat), .int .i64 (P.t : Nat), .int .u32 (P.n : Nat)] 36 (0, 0)) := by
    have l1 := hM.lt
    have l2 := hM.lg
    have l3 := b1.size
    rw [h2.out.1.block w.heap.size (by omega) (by simp; omega), b1.block _ (by omega)]
    exact hx0
  have H2 : Hid (_) := And.intro bb (And.intro h2.out (And.intro HH.out (by have := b1.size; omega : w.heap.size < w1.heap.size)))
  by_cases he : E = 0
  · have e0 : (E != 0) = false := by simp [he]
    obtain ⟨c, rfl, hc, hC2⟩ := h2.out.2.2.1 he
    have HE : Hid (_) := And.intro he (And.intro hc hC2)
    have HS : w2.drew.cell? ⟨w.heap.size, 0, none⟩ = some (.int .u32 (P.c : Nat)) ∧ w2.drew.cell? ⟨w.heap.size, 1, none⟩ = some (.int .i64 (P.o : Nat)) ∧ w2.drew.cell? ⟨w.heap.size, 2, none⟩ = some (.int .i64 (P.i : Nat)) ∧ w2.drew.cell? ⟨w.heap.size, 3, none⟩ = some (.int .i64 (P.t : Nat)) ∧ w2.drew.cell? ⟨w.heap.size, 4, none⟩ = some (.int .u32 (P.n : Nat)) :=
      ⟨cell_of_row w2 _ 0 _ _ _ e2, cell_of_row w2 _ 1 _ _ _ e2, cell_of_row w2 _ 2 _ _ _ e2, cell_of_row w2 _ 3 _ _ _ e2, cell_of_row w2 _ 4 _ _ _ e2⟩
    have hN := dnew_any w2.drew
    clear hC b1 hb hs hx0 hM bb h2 e2 he hc hC2 HO
    go_wp2_with fail
    go_region_held3 (fun w' => w'.cell? ⟨w.heap.size, 0, none⟩ = some (.int .u32 (P.c : Nat)) ∧ w'.cell? ⟨w.heap.size, 1, none⟩ = some (.int .i64 (P.o : Nat)) ∧ w'.cell? ⟨w.heap.size, 2, none⟩ = some (.int .i64 (P.i : Nat)) ∧ w'.cell? ⟨w.heap.size, 3, none⟩ = some (.int .i64 (P.t : Nat)) ∧ w'.cell? ⟨w.heap.size, 4, none⟩ = some (.int .u32 (P.n : Nat))) (first | with_reducible assumption | exact ⟨(belA _).cell hwl |>.trans HU.1, (belA _).cell hwl |>.trans HU.2.1, (belA _).cell hwl |>.trans HU.2.2.1, (belA _).cell hwl |>.trans HU.2.2.2.1, (belA _).cell hwl |>.trans HU.2.2.2.2⟩) (first
      | (go_at_call 51; refine hN.mono ?_; rintro e w3 ⟨rfl, h3⟩; have hL := newLife_any P H2.out.2.2.1.2.2.2.2.2.1 w3; have hl3 : w.heap.size < w2.drew.heap.size := (Nat.lt_of_lt_of_le H2.out.2.2.2 H2.out.2.1.1.size); have HT : w3.cell? ⟨w.heap.size, 0, none⟩ = some (.int .u32 (P.c : Nat)) ∧ w3.cell? ⟨w.heap.size, 1, none⟩ = some (.int .i64 (P.o : Nat)) ∧ w3.cell? ⟨w.heap.size, 2, none⟩ = some (.int .i64 (P.i : Nat)) ∧ w3.cell? ⟨w.heap.size, 3, none⟩ = some (.int .i64 (P.t : Nat)) ∧ w3.cell? ⟨w.heap.size, 4, none⟩ = some (.int .u32 (P.n : Nat)) := ⟨(h3.out.1.cell hl3).trans HS.1, (h3.out.1.cell hl3).trans HS.2.1, (h3.out.1.cell hl3).trans HS.2.2.1, (h3.out.1.cell hl3).trans HS.2.2.2.1, (h3.out.1.cell hl3).trans HS.2.2.2.2⟩; have hl4 : w.heap.size < w3.heap.size := (Nat.lt_of_lt_of_le hl3 h3.out.1.size); clear hN)
      | (go_at_call 52; refine hL.mono ?_; rintro e w4 ⟨db, vb, vg, ga, rfl, h4⟩; have HU : w4.cell? ⟨w.heap.size, 0, none⟩ = some (.int .u32 (P.c : Nat)) ∧ w4.cell? ⟨w.heap.size, 1, none⟩ = some (.int .i64 (P.o : Nat)) ∧ w4.cell? ⟨w.heap.size, 2, none⟩ = some (.int .i64 (P.i : Nat)) ∧ w4.cell? ⟨w.heap.size, 3, none⟩ = some (.int .i64 (P.t : Nat)) ∧ w4.cell? ⟨w.heap.size, 4, none⟩ = some (.int .u32 (P.n : Nat)) := ⟨(h4.out.bel.cell hl4).trans HT.1, (h4.out.bel.cell hl4).trans HT.2.1, (h4.out.bel.cell hl4).trans HT.2.2.1, (h4.out.bel.cell hl4).trans HT.2.2.2.1, (h4.out.bel.cell hl4).trans HT.2.2.2.2⟩; have hwl : w.heap.size < w4.heap.size := (Nat.lt_of_lt_of_le hl4 h4.out.bel.size); have belA : ∀ o, Below w4.heap.size w4 (w4.alloc o) := (fun o => (Below.refl _ _).alloc (Nat.le_refl _) o); clear hL))
    all_goals
      go_wp2_with fail
      go_ret2
      obtain ⟨bb, ⟨o2, m2, _, _⟩, ⟨_, hs, _, hM, hE, hP, hx⟩, hw1⟩ := H2.out
      obtain ⟨he, hc, hC2⟩ := HE.out
      subst he
      obtain ⟨mx0, n10, _⟩ := opened m g n mx ms w hM hE
      have l1 := hM.lt
      have l2 := hM.lg
      have hoff := opS_off hM.l0 hE
      have q3 : Off [] w2.drew w3 := Off.of_below h3.out.1
      have X := DX.made hP n10 mx0 hx (m2.off (Off.drew [] w2) (by simp) (by simp)) (hC2.off (Off.drew [] w2) (by simp)) hoff (by omega) (by omega) q3 h3.out.2.2 (Nat.le_refl _) h4.out
      have hcl := hC2.lt
      have s3 := q3.size
      have s2 : w2.drew.heap.size = w2.heap.size := rfl
      have k1 := h4.out.h1
      have k2 := h4.out.h2
      have k3 := h4.out.h3
      have k4 := h4.out.h4
      have k6 := h4.out.h6
      have k7 := o2.size
      refine ⟨_, rfl, ?_, ?_, fun _ => ⟨w4.heap.size, _, rfl, ⟨_, { X with cel := fun _ => X.cel trivial }⟩, ?_⟩, fun h => absurd rfl h⟩
      · exact ((Off.of_below bb).trans o2).trans ((((Off.drew _ w2).trans (q3.more (by simp))).trans (Off.of_below h4.out.bel)).trans (Off.alloc _ _ _))
      · exact X.mem
      · intro k hk
        simp at hk
        omega
  · have e0 : (E != 0) = true := by simp [he]
    obtain rfl := h2.out.2.2.2 he
    have HE : Hid (_) := he
    clear he hC b1 hb hs hx0 hM bb h2 e2
    go_wp2_with fail
    go_ret2
    obtain ⟨bb, ⟨o2, m2, _, _⟩, hh, _⟩ := H2.out
    exact ⟨none, rfl, (Off.of_below bb).trans o2, m2, fun h => absurd h HE.out, fun _ => rfl⟩
end Go.Proofs.YtndjepeolamedaaGreat
namespace Go.Proofs.YtndjepeolamedaaGreat
set_option maxRecDepth 100000
open Go.RowKit
set_option maxRecDepth 100000 in
set_option maxHeartbeats 2000000 in
theorem refLawful_1 (c s n : Nat) (f : Int) (a : Option Addr) (len cap : Nat) (w : World) :
    Calls Tryz.prog 77 #[.agg #[.int .i64 1, .int .u32 c, .int .u32 s, .int .u32 n, .int .i64 f, .slice a len cap]] w fun e w' => e = .returned (.int .i64 (LW 1 c s n f len len)) ∧ Below w.heap.size w w' := by
  have hH := refHost_any 1
  have hD := refDevice_any 1
  have hM := refData_any 1 len
  unfold LW
  rw [show hostK 1 = true from rfl] at hH ⊢
  rw [show devK 1 = false from rfl] at hD ⊢
  rw [show hNum 1 = false from rfl, show mFl 1 = 0 from rfl]
  generalize mData 1 len = D at *
  have hb : Below w.heap.size w (w.alloc (.cells #[.int .i64 1, .int .u32 c, .int .u32 s, .int .u32 n, .int .i64 f, .slice a len cap] 67)) := (Below.refl _ _).alloc (Nat.le_refl _) _
  rw [if_neg (by simp)]
  by_cases hc : (c : Int) = 0
  · rw [if_pos hc, hc]
    rw [hc] at hb
    go_enter Tryz.func77, Tryz.ntmps77
    go_wp2_with (first | (go_at_call 59; refine (hH _).mono ?_; rintro e w' ⟨rfl, rfl⟩) | (go_at_call 103; refine (hD _).mono ?_; rintro e w' ⟨rfl, rfl⟩) | (go_at_call 142; refine (hM _).mono ?_; rintro e w' ⟨rfl, rfl⟩))
    go_ret
    exact ⟨rfl, hb⟩
  · rw [if_neg hc]
    have qc : ((c : Int) == 0) = false := by simpa using hc
    cases D
    · rw [if_pos (Or.inr rfl)]
      go_enter Tryz.func77, Tryz.ntmps77
      go_wp2_with (first | (go_at_call 59; refine (hH _).mono ?_; rintro e w' ⟨rfl, rfl⟩) | (go_at_call 103; refine (hD _).mono ?_; rintro e w' ⟨rfl, rfl⟩) | (go_at_call 142; refine (hM _).mono ?_; rintro e w' ⟨rfl, rfl⟩))
      go_ret
      exact ⟨rfl, hb⟩
    · rw [if_neg (by simp)]
      by_cases hs : (s : Int) = 0
      · rw [if_neg (by simp [mSess, hs]), hs]
        rw [hs] at hb
        by_cases hn : (n : Int) = 0
        · rw [if_neg (by simp [hn]), hn]
          rw [hn] at hb
          by_cases hf : f < 0
          · rw [if_pos (Or.inl hf)]
            have qf : decide (f < 0) = true := decide_eq_true hf
            go_enter Tryz.func77, Tryz.ntmps77
            go_wp2_with (first | (go_at_call 59; refine (hH _).mono ?_; rintro e w' ⟨rfl, rfl⟩) | (go_at_call 103; refine (hD _).mono ?_; rintro e w' ⟨rfl, rfl⟩) | (go_at_call 142; refine (hM _).mono ?_; rintro e w' ⟨rfl, rfl⟩))
            go_ret
            exact ⟨rfl, hb⟩
          · have qf : decide (f < 0) = false := decide_eq_false hf
            by_cases h15 : 15 < f
            · rw [if_pos (by omega)]
              have q15 : decide (15 < f) = true := decide_eq_true h15
              go_enter Tryz.func77, Tryz.ntmps77
              go_wp2_with (first | (go_at_call 59; refine (hH _).mono ?_; rintro e w' ⟨rfl, rfl⟩) | (go_at_call 103; refine (hD _).mono ?_; rintro e w' ⟨rfl, rfl⟩) | (go_at_call 142; refine (hM _).mono ?_; rintro e w' ⟨rfl, rfl⟩))
              go_ret
              exact ⟨rfl, hb⟩
            · have q15 : decide (15 < f) = false := decide_eq_false h15
              by_cases h0 : f = 0
              · rw [if_neg (by omega)]
                subst h0
                go_enter Tryz.func77, Tryz.ntmps77
                go_wp2_with (first | (go_at_call 59; refine (hH _).mono ?_; rintro e w' ⟨rfl, rfl⟩) | (go_at_call 103; refine (hD _).mono ?_; rintro e w' ⟨rfl, rfl⟩) | (go_at_call 142; refine (hM _).mono ?_; rintro e w' ⟨rfl, rfl⟩))
                go_ret
                exact ⟨rfl, hb⟩
              · rw [if_pos (by omega)]
                have q0 : (f == 0) = false := by simpa using h0
                go_enter Tryz.func77, Tryz.ntmps77
                go_wp2_with (first | (go_at_call 59; refine (hH _).mono ?_; rintro e w' ⟨rfl, rfl⟩) | (go_at_call 103; refine (hD _).mono ?_; rintro e w' ⟨rfl, rfl⟩) | (go_at_call 142; refine (hM _).mono ?_; rintro e w' ⟨rfl, rfl⟩))
                go_ret
                exact ⟨rfl, hb⟩
        · rw [if_pos (by simpa using hn)]
          have qn : ((n : Int) == 0) = false := by simpa using hn
          have qn2 : ((n : Int) != 0) = true := by simpa using hn
          go_enter Tryz.func77, Tryz.ntmps77
          go_wp2_with (first | (go_at_call 59; refine (hH _).mono ?_; rintro e w' ⟨rfl, rfl⟩) | (go_at_call 103; refine (hD _).mono ?_; rintro e w' ⟨rfl, rfl⟩) | (go_at_call 142; refine (hM _).mono ?_; rintro e w' ⟨rfl, rfl⟩))
          go_ret
          exact ⟨rfl, hb⟩
      · rw [if_pos (by simpa [mSess] using hs)]
        have qs : ((s : Int) == 0) = false := by simpa using hs
        go_enter Tryz.func77, Tryz.ntmps77
        go_wp2_with (first | (go_at_call 59; refine (hH _).mono ?_; rintro e w' ⟨rfl, rfl⟩) | (go_at_call 103; refine (hD _).mono ?_; rintro e w' ⟨rfl, rfl⟩) | (go_at_call 142; refine (hM _).mono ?_; rintro e w' ⟨rfl, rfl⟩))
        go_ret
        exact ⟨rfl, hb⟩
set_option maxRecDepth 100000 in
set_option maxHeartbeats 2000000 in
theorem refLawful_22 (c s n : Nat) (f : Int) (a : Option Addr) (len cap : Nat) (w : World) :
    Calls Tryz.prog 77 #[.agg #[.int .i64 22, .int .u32 c, .int .u32 s, .int .u32 n, .int .i64 f, .slice a len cap]] w fun e w' => e = .returned (.int .i64 (LW 22 c s n f len len)) ∧ Below w.heap.size w w' := by
  have hH := refHost_any 22
  have hD := refDevice_any 22
  have hM := refData_any 22 len
  unfold LW
  rw [show hostK 22 = false from rfl] at hH ⊢
  rw [show devK 22 = true from rfl] at hD ⊢
  rw [show hNum 22 = false from rfl, show mFl 22 = 0 from rfl]
  generalize mData 22 len = D at *
  have hb : Below w.heap.size w (w.alloc (.cells #[.int .i64 22, .int .u32 c, .int .u32 s, .int .u32 n, .int .i64 f, .slice a len cap] 67)) := (Below.refl _ _).alloc (Nat.le_refl _) _
  rw [if_neg (by simp)]
  by_cases hc : (c : Int) = 0
  · rw [if_pos hc, hc]
    rw [hc] at hb
    go_enter Tryz.func77, Tryz.ntmps77
    go_wp2_with (first | (go_at_call 59; refine (hH _).mono ?_; rintro e w' ⟨rfl, rfl⟩) | (go_at_call 103; refine (hD _).mono ?_; rintro e w' ⟨rfl, rfl⟩) | (go_at_call 142; refine (hM _).mono ?_; rintro e w' ⟨rfl, rfl⟩))
    go_ret
    exact ⟨rfl, hb⟩
  · rw [if_neg hc]
    have qc : ((c : Int) == 0) = false := by simpa using hc
    cases D
    · rw [if_pos (Or.inr rfl)]
      go_enter Tryz.func77, Tryz.ntmps77
      go_wp2_with (first | (go_at_call 59; refine (hH _).mono ?_; rintro e w' ⟨rfl, rfl⟩) | (go_at_call 103; refine (hD _).mono ?_; rintro e w' ⟨rfl, rfl⟩) | (go_at_call 142; refine (hM _).mono ?_; rintro e w' ⟨rfl, rfl⟩))
      go_ret
      exact ⟨rfl, hb⟩
    · rw [if_neg (by simp)]
      rw [if_neg (by simp [mSess])]
      by_cases hn : (n : Int) = 0
      · rw [if_neg (by simp [hn]), hn]
        rw [hn] at hb
        by_cases hf : f < 0
        · rw [if_pos (Or.inl hf)]
          have qf : decide (f < 0) = true := decide_eq_true hf
          go_enter Tryz.func77, Tryz.ntmps77
          go_wp2_with (first | (go_at_call 59; refine (hH _).mono ?_; rintro e w' ⟨rfl, rfl⟩) | (go_at_call 103; refine (hD _).mono ?_; rintro e w' ⟨rfl, rfl⟩) | (go_at_call 142; refine (hM _).mono ?_; rintro e w' ⟨rfl, rfl⟩))
          go_ret
          exact ⟨rfl, hb⟩
        · have qf : decide (f < 0) = false := decide_eq_false hf
          by_cases h15 : 15 < f
          · rw [if_pos (by omega)]
            have q15 : decide (15 < f) = true := decide_eq_true h15
            go_enter Tryz.func77, Tryz.ntmps77
            go_wp2_with (first | (go_at_call 59; refine (hH _).mono ?_; rintro e w' ⟨rfl, rfl⟩) | (go_at_call 103; refine (hD _).mono ?_; rintro e w' ⟨rfl, rfl⟩) | (go_at_call 142; refine (hM _).mono ?_; rintro e w' ⟨rfl, rfl⟩))
            go_ret
            exact ⟨rfl, hb⟩
          · have q15 : decide (15 < f) = false := decide_eq_false h15
            by_cases h0 : f = 0
            · rw [if_neg (by omega)]
              subst h0
              go_enter Tryz.func77, Tryz.ntmps77
              go_wp2_with (first | (go_at_call 59; refine (hH _).mono ?_; rintro e w' ⟨rfl, rfl⟩) | (go_at_call 103; refine (hD _).mono ?_; rintro e w' ⟨rfl, rfl⟩) | (go_at_call 142; refine (hM _).mono ?_; rintro e w' ⟨rfl, rfl⟩))
              go_ret
              exact ⟨rfl, hb⟩
            · rw [if_pos (by omega)]
              have q0 : (f == 0) = false := by simpa using h0
              go_enter Tryz.func77, Tryz.ntmps77
              go_wp2_with (first | (go_at_call 59; refine (hH _).mono ?_; rintro e w' ⟨rfl, rfl⟩) | (go_at_call 103; refine (hD _).mono ?_; rintro e w' ⟨rfl, rfl⟩) | (go_at_call 142; refine (hM _).mono ?_; rintro e w' ⟨rfl, rfl⟩))
              go_ret
              exact ⟨rfl, hb⟩
      · rw [if_pos (by simpa using hn)]
        have qn : ((n : Int) == 0) = false := by simpa using hn
        have qn2 : ((n : Int) != 0) = true := by simpa using hn
        go_enter Tryz.func77, Tryz.ntmps77
        go_wp2_with (first | (go_at_call 59; refine (hH _).mono ?_; rintro e w' ⟨rfl, rfl⟩) | (go_at_call 103; refine (hD _).mono ?_; rintro e w' ⟨rfl, rfl⟩) | (go_at_call 142; refine (hM _).mono ?_; rintro e w' ⟨rfl, rfl⟩))
        go_ret
        exact ⟨rfl, hb⟩
set_option maxRecDepth 100000 in
set_option maxHeartbeats 2000000 in
theorem refLawful_4 (c s n : Nat) (f : Int) (a : Option Addr) (len cap : Nat) (w : World) :
    Calls Tryz.prog 77 #[.agg #[.int .i64 4, .int .u32 c, .int .u32 s, .int .u32 n, .int .i64 f, .slice a len cap]] w fun e w' => e = .returned (.int .i64 (LW 4 c s n f len len)) ∧ Below w.heap.size w w' := by
  have hH := refHost_any 4
  have hD := refDevice_any 4
  have hM := refData_any 4 len
  unfold LW
  rw [show hostK 4 = true from rfl] at hH ⊢
  rw [show devK 4 = false from rfl] at hD ⊢
  rw [show hNum 4 = true from rfl, show mFl 4 = 15 from rfl]
  have hS : mSess 4 s = decide ((s : Int) ≠ 0) := rfl
  generalize mData 4 len = D at *
  have hb : Below w.heap.size w (w.alloc (.cells #[.int .i64 4, .int .u32 c, .int .u32 s, .int .u32 n, .int .i64 f, .slice a len cap] 67)) := (Below.refl _ _).alloc (Nat.le_refl _) _
  rw [if_neg (by simp)]
  by_cases hc : (c : Int) = 0
  · rw [if_pos hc, hc]
    rw [hc] at hb
    go_enter Tryz.func77, Tryz.ntmps77
    go_wp2_with (first | (go_at_call 59; refine (hH _).mono ?_; rintro e w' ⟨rfl, rfl⟩) | (go_at_call 103; refine (hD _).mono ?_; rintro e w' ⟨rfl, rfl⟩) | (go_at_call 142; refine (hM _).mono ?_; rintro e w' ⟨rfl, rfl⟩))
    go_ret
    exact ⟨rfl, hb⟩
  · rw [if_neg hc]
    have qc : ((c : Int) == 0) = false := by simpa using hc
    cases D
    · rw [if_pos (Or.inr rfl)]
      go_enter Tryz.func77, Tryz.ntmps77
      go_wp2_with (first | (go_at_call 59; refine (hH _).mono ?_; rintro e w' ⟨rfl, rfl⟩) | (go_at_call 103; refine (hD _).mono ?_; rintro e w' ⟨rfl, rfl⟩) | (go_at_call 142; refine (hM _).mono ?_; rintro e w' ⟨rfl, rfl⟩))
      go_ret
      exact ⟨rfl, hb⟩
    · rw [if_neg (by simp)]
      by_cases hs : (s : Int) = 0
      · rw [if_pos (by rw [hS]; simpa using hs), hs]
        rw [hs] at hb
        go_enter Tryz.func77, Tryz.ntmps77
        go_wp2_with (first | (go_at_call 59; refine (hH _).mono ?_; rintro e w' ⟨rfl, rfl⟩) | (go_at_call 103; refine (hD _).mono ?_; rintro e w' ⟨rfl, rfl⟩) | (go_at_call 142; refine (hM _).mono ?_; rintro e w' ⟨rfl, rfl⟩))
        go_ret
        exact ⟨rfl, hb⟩
      · rw [if_neg (by rw [hS]; simpa using hs)]
        have qs : ((s : Int) == 0) = false := by simpa using hs
        by_cases hn : (n : Int) = 0
        · rw [if_pos (by simp [hn]), hn]
          rw [hn] at hb
          go_enter Tryz.func77, Tryz.ntmps77
          go_wp2_with (first | (go_at_call 59; refine (hH _).mono ?_; rintro e w' ⟨rfl, rfl⟩) | (go_at_call 103; refine (hD _).mono ?_; rintro e w' ⟨rfl, rfl⟩) | (go_at_call 142; refine (hM _).mono ?_; rintro e w' ⟨rfl, rfl⟩))
          go_ret
          exact ⟨rfl, hb⟩
        · rw [if_neg (by simpa using hn)]
          have qn : ((n : Int) == 0) = false := by simpa using hn
          have qn2 : ((n : Int) != 0) = true := by simpa using hn
          by_cases hf : f < 0
          · rw [if_pos (Or.inl hf)]
            have qf : decide (f < 0) = true := decide_eq_true hf
            go_enter Tryz.func77, Tryz.ntmps77
            go_wp2_with (first | (go_at_call 59; refine (hH _).mono ?_; rintro e w' ⟨rfl, rfl⟩) | (go_at_call 103; refine (hD _).mono ?_; rintro e w' ⟨rfl, rfl⟩) | (go_at_call 142; refine (hM _).mono ?_; rintro e w' ⟨rfl, rfl⟩))
            go_ret
            exact ⟨rfl, hb⟩
          · have qf : decide (f < 0) = false := decide_eq_false hf
            by_cases h15 : 15 < f
            · rw [if_pos (by omega)]
              have q15 : decide (15 < f) = true := decide_eq_true h15
              go_enter Tryz.func77, Tryz.ntmps77
              go_wp2_with (first | (go_at_call 59; refine (hH _).mono ?_; rintro e w' ⟨rfl, rfl⟩) | (go_at_call 103; refine (hD _).mono ?_; rintro e w' ⟨rfl, rfl⟩) | (go_at_call 142; refine (hM _).mono ?_; rintro e w' ⟨rfl, rfl⟩))
              go_ret
              exact ⟨rfl, hb⟩
            · have q15 : decide (15 < f) = false := decide_eq_false h15
              rw [if_neg (by omega)]
              go_enter Tryz.func77, Tryz.ntmps77
              go_wp2_with (first | (go_at_call 59; refine (hH _).mono ?_; rintro e w' ⟨rfl, rfl⟩) | (go_at_call 103; refine (hD _).mono ?_; rintro e w' ⟨rfl, rfl⟩) | (go_at_call 142; refine (hM _).mono ?_; rintro e w' ⟨rfl, rfl⟩))
              go_ret
              exact ⟨rfl, hb⟩
set_option maxRecDepth 100000 in
set_option maxHeartbeats 2000000 in
theorem refLawful_20 (c s n : Nat) (f : Int) (a : Option Addr) (len cap : Nat) (w : World) :
    Calls Tryz.prog 77 #[.agg #[.int .i64 20, .int .u32 c, .int .u32 s, .int .u32 n, .int .i64 f, .slice a len cap]] w fun e w' => e = .returned (.int .i64 (LW 20 c s n f len len)) ∧ Below w.heap.size w w' := by
  have hH := refHost_any 20
  have hD := refDevice_any 20
  have hM := refData_any 20 len
  unfold LW
  rw [show hostK 20 = false from rfl] at hH ⊢
  rw [show devK 20 = true from rfl] at hD ⊢
  rw [show hNum 20 = true from rfl, show mFl 20 = 15 from rfl]
  have hS : mSess 20 s = decide ((s : Int) ≠ 0) := rfl
  generalize mData 20 len = D at *
  have hb : Below w.heap.size w (w.alloc (.cells #[.int .i64 20, .int .u32 c, .int .u32 s, .int .u32 n, .int .i64 f, .slice a len cap] 67)) := (Below.refl _ _).alloc (Nat.le_refl _) _
  rw [if_neg (by simp)]
  by_cases hc : (c : Int) = 0
  · rw [if_pos hc, hc]
    rw [hc] at hb
    go_enter Tryz.func77, Tryz.ntmps77
    go_wp2_with (first | (go_at_call 59; refine (hH _).mono ?_; rintro e w' ⟨rfl, rfl⟩) | (go_at_call 103; refine (hD _).mono ?_; rintro e w' ⟨rfl, rfl⟩) | (go_at_call 142; refine (hM _).mono ?_; rintro e w' ⟨rfl, rfl⟩))
    go_ret
    exact ⟨rfl, hb⟩
  · rw [if_neg hc]
    have qc : ((c : Int) == 0) = false := by simpa using hc
    cases D
    · rw [if_pos (Or.inr rfl)]
      go_enter Tryz.func77, Tryz.ntmps77
      go_wp2_with (first | (go_at_call 59; refine (hH _).mono ?_; rintro e w' ⟨rfl, rfl⟩) | (go_at_call 103; refine (hD _).mono ?_; rintro e w' ⟨rfl, rfl⟩) | (go_at_call 142; refine (hM _).mono ?_; rintro e w' ⟨rfl, rfl⟩))
      go_ret
      exact ⟨rfl, hb⟩
    · rw [if_neg (by simp)]
      by_cases hs : (s : Int) = 0
      · rw [if_pos (by rw [hS]; simpa using hs), hs]
        rw [hs] at hb
        go_enter Tryz.func77, Tryz.ntmps77
        go_wp2_with (first | (go_at_call 59; refine (hH _).mono ?_; rintro e w' ⟨rfl, rfl⟩) | (go_at_call 103; refine (hD _).mono ?_; rintro e w' ⟨rfl, rfl⟩) | (go_at_call 142; refine (hM _).mono ?_; rintro e w' ⟨rfl, rfl⟩))
        go_ret
        exact ⟨rfl, hb⟩
      · rw [if_neg (by rw [hS]; simpa using hs)]
        have qs : ((s : Int) == 0) = false := by simpa using hs
        by_cases hn : (n : Int) = 0
        · rw [if_pos (by simp [hn]), hn]
          rw [hn] at hb
          go_enter Tryz.func77, Tryz.ntmps77
          go_wp2_with (first | (go_at_call 59; refine (hH _).mono ?_; rintro e w' ⟨rfl, rfl⟩) | (go_at_call 103; refine (hD _).mono ?_; rintro e w' ⟨rfl, rfl⟩) | (go_at_call 142; refine (hM _).mono ?_; rintro e w' ⟨rfl, rfl⟩))
          go_ret
          exact ⟨rfl, hb⟩
        · rw [if_neg (by simpa using hn)]
          have qn : ((n : Int) == 0) = false := by simpa using hn
          have qn2 : ((n : Int) != 0) = true := by simpa using hn
          by_cases hf : f < 0
          · rw [if_pos (Or.inl hf)]
            have qf : decide (f < 0) = true := decide_eq_true hf
            go_enter Tryz.func77, Tryz.ntmps77
            go_wp2_with (first | (go_at_call 59; refine (hH _).mono ?_; rintro e w' ⟨rfl, rfl⟩) | (go_at_call 103; refine (hD _).mono ?_; rintro e w' ⟨rfl, rfl⟩) | (go_at_call 142; refine (hM _).mono ?_; rintro e w' ⟨rfl, rfl⟩))
            go_ret
            exact ⟨rfl, hb⟩
          · have qf : decide (f < 0) = false := decide_eq_false hf
            by_cases h15 : 15 < f
            · rw [if_pos (by omega)]
              have q15 : decide (15 < f) = true := decide_eq_true h15
              go_enter Tryz.func77, Tryz.ntmps77
              go_wp2_with (first | (go_at_call 59; refine (hH _).mono ?_; rintro e w' ⟨rfl, rfl⟩) | (go_at_call 103; refine (hD _).mono ?_; rintro e w' ⟨rfl, rfl⟩) | (go_at_call 142; refine (hM _).mono ?_; rintro e w' ⟨rfl, rfl⟩))
              go_ret
              exact ⟨rfl, hb⟩
            · have q15 : decide (15 < f) = false := decide_eq_false h15
              rw [if_neg (by omega)]
              go_enter Tryz.func77, Tryz.ntmps77
              go_wp2_with (first | (go_at_call 59; refine (hH _).mono ?_; rintro e w' ⟨rfl, rfl⟩) | (go_at_call 103; refine (hD _).mono ?_; rintro e w' ⟨rfl, rfl⟩) | (go_at_call 142; refine (hM _).mono ?_; rintro e w' ⟨rfl, rfl⟩))
              go_ret
              exact ⟨rfl, hb⟩
set_option maxRecDepth 100000 in
set_option maxHeartbeats 2000000 in
theorem refLawful_5 (c s n : Nat) (f : Int) (a : Option Addr) (len cap : Nat) (w : World) :
    Calls Tryz.prog 77 #[.agg #[.int .i64 5, .int .u32 c, .int .u32 s, .int .u32 n, .int .i64 f, .slice a len cap]] w fun e w' => e = .returned (.int .i64 (LW 5 c s n f len len)) ∧ Below w.heap.size w w' := by
  have hH := refHost_any 5
  have hD := refDevice_any 5
  have hM := refData_any 5 len
  unfold LW
  rw [show hostK 5 = true from rfl] at hH ⊢
  rw [show devK 5 = false from rfl] at hD ⊢
  rw [show hNum 5 = true from rfl, show mFl 5 = 0 from rfl]
  have hS : mSess 5 s = decide ((s : Int) ≠ 0) := rfl
  generalize mData 5 len = D at *
  have hb : Below w.heap.size w (w.alloc (.cells #[.int .i64 5, .int .u32 c, .int .u32 s, .int .u32 n, .int .i64 f, .slice a len cap] 67)) := (Below.refl _ _).alloc (Nat.le_refl _) _
  rw [if_neg (by simp)]
  by_cases hc : (c : Int) = 0
  · rw [if_pos hc, hc]
    rw [hc] at hb
    go_enter Tryz.func77, Tryz.ntmps77
    go_wp2_with (first | (go_at_call 59; refine (hH _).mono ?_; rintro e w' ⟨rfl, rfl⟩) | (go_at_call 103; refine (hD _).mono ?_; rintro e w' ⟨rfl, rfl⟩) | (go_at_call 142; refine (hM _).mono ?_; rintro e w' ⟨rfl, rfl⟩))
    go_ret
    exact ⟨rfl, hb⟩
  · rw [if_neg hc]
    have qc : ((c : Int) == 0) = false := by simpa using hc
    cases D
    · rw [if_pos (Or.inr rfl)]
      go_enter Tryz.func77, Tryz.ntmps77
      go_wp2_with (first | (go_at_call 59; refine (hH _).mono ?_; rintro e w' ⟨rfl, rfl⟩) | (go_at_call 103; refine (hD _).mono ?_; rintro e w' ⟨rfl, rfl⟩) | (go_at_call 142; refine (hM _).mono ?_; rintro e w' ⟨rfl, rfl⟩))
      go_ret
      exact ⟨rfl, hb⟩
    · rw [if_neg (by simp)]
      by_cases hs : (s : Int) = 0
      · rw [if_pos (by rw [hS]; simpa using hs), hs]
        rw [hs] at hb
        go_enter Tryz.func77, Tryz.ntmps77
        go_wp2_with (first | (go_at_call 59; refine (hH _).mono ?_; rintro e w' ⟨rfl, rfl⟩) | (go_at_call 103; refine (hD _).mono ?_; rintro e w' ⟨rfl, rfl⟩) | (go_at_call 142; refine (hM _).mono ?_; rintro e w' ⟨rfl, rfl⟩))
        go_ret
        exact ⟨rfl, hb⟩
      · rw [if_neg (by rw [hS]; simpa using hs)]
        have qs : ((s : Int) == 0) = false := by simpa using hs
        by_cases hn : (n : Int) = 0
        · rw [if_pos (by simp [hn]), hn]
          rw [hn] at hb
          go_enter Tryz.func77, Tryz.ntmps77
          go_wp2_with (first | (go_at_call 59; refine (hH _).mono ?_; rintro e w' ⟨rfl, rfl⟩) | (go_at_call 103; refine (hD _).mono ?_; rintro e w' ⟨rfl, rfl⟩) | (go_at_call 142; refine (hM _).mono ?_; rintro e w' ⟨rfl, rfl⟩))
          go_ret
          exact ⟨rfl, hb⟩
        · rw [if_neg (by simpa using hn)]
          have qn : ((n : Int) == 0) = false := by simpa using hn
          have qn2 : ((n : Int) != 0) = true := by simpa using hn
          by_cases hf : f < 0
          · rw [if_pos (Or.inl hf)]
            have qf : decide (f < 0) = true := decide_eq_true hf
            go_enter Tryz.func77, Tryz.ntmps77
            go_wp2_with (first | (go_at_call 59; refine (hH _).mono ?_; rintro e w' ⟨rfl, rfl⟩) | (go_at_call 103; refine (hD _).mono ?_; rintro e w' ⟨rfl, rfl⟩) | (go_at_call 142; refine (hM _).mono ?_; rintro e w' ⟨rfl, rfl⟩))
            go_ret
            exact ⟨rfl, hb⟩
          · have qf : decide (f < 0) = false := decide_eq_false hf
            by_cases h15 : 15 < f
            · rw [if_pos (by omega)]
              have q15 : decide (15 < f) = true := decide_eq_true h15
              go_enter Tryz.func77, Tryz.ntmps77
              go_wp2_with (first | (go_at_call 59; refine (hH _).mono ?_; rintro e w' ⟨rfl, rfl⟩) | (go_at_call 103; refine (hD _).mono ?_; rintro e w' ⟨rfl, rfl⟩) | (go_at_call 142; refine (hM _).mono ?_; rintro e w' ⟨rfl, rfl⟩))
              go_ret
              exact ⟨rfl, hb⟩
            · have q15 : decide (15 < f) = false := decide_eq_false h15
              by_cases h0 : f = 0
              · rw [if_neg (by omega)]
                subst h0
                go_enter Tryz.func77, Tryz.ntmps77
                go_wp2_with (first | (go_at_call 59; refine (hH _).mono ?_; rintro e w' ⟨rfl, rfl⟩) | (go_at_call 103; refine (hD _).mono ?_; rintro e w' ⟨rfl, rfl⟩) | (go_at_call 142; refine (hM _).mono ?_; rintro e w' ⟨rfl, rfl⟩))
                go_ret
                exact ⟨rfl, hb⟩
              · rw [if_pos (by omega)]
                have q0 : (f == 0) = false := by simpa using h0
                go_enter Tryz.func77, Tryz.ntmps77
                go_wp2_with (first | (go_at_call 59; refine (hH _).mono ?_; rintro e w' ⟨rfl, rfl⟩) | (go_at_call 103; refine (hD _).mono ?_; rintro e w' ⟨rfl, rfl⟩) | (go_at_call 142; refine (hM _).mono ?_; rintro e w' ⟨rfl, rfl⟩))
                go_ret
                exact ⟨rfl, hb⟩
set_option maxRecDepth 100000 in
set_option maxHeartbeats 2000000 in
theorem refLawful_21 (c s n : Nat) (f : Int) (a : Option Addr) (len cap : Nat) (w : World) :
    Calls Tryz.prog 77 #[.agg #[.int .i64 21, .int .u32 c, .int .u32 s, .int .u32 n, .int .i64 f, .slice a len cap]] w fun e w' => e = .returned (.int .i64 (LW 21 c s n f len len)) ∧ Below w.heap.size w w' := by
  have hH := refHost_any 21
  have hD := refDevice_any 21
  have hM := refData_any 21 len
  unfold LW
  rw [show hostK 21 = false from rfl] at hH ⊢
  rw [show devK 21 = true from rfl] at hD ⊢
  rw [show hNum 21 = true from rfl, show mFl 21 = 0 from rfl]
  have hS : mSess 21 s = decide ((s : Int) ≠ 0) := rfl
  generalize mData 21 len = D at *
  have hb : Below w.heap.size w (w.alloc (.cells #[.int .i64 21, .int .u32 c, .int .u32 s, .int .u32 n, .int .i64 f, .slice a len cap] 67)) := (Below.refl _ _).alloc (Nat.le_refl _) _
  rw [if_neg (by simp)]
  by_cases hc : (c : Int) = 0
  · rw [if_pos hc, hc]
    rw [hc] at hb
    go_enter Tryz.func77, Tryz.ntmps77
    go_wp2_with (first | (go_at_call 59; refine (hH _).mono ?_; rintro e w' ⟨rfl, rfl⟩) | (go_at_call 103; refine (hD _).mono ?_; rintro e w' ⟨rfl, rfl⟩) | (go_at_call 142; refine (hM _).mono ?_; rintro e w' ⟨rfl, rfl⟩))
    go_ret
    exact ⟨rfl, hb⟩
  · rw [if_neg hc]
    have qc : ((c : Int) == 0) = false := by simpa using hc
    cases D
    · rw [if_pos (Or.inr rfl)]
      go_enter Tryz.func77, Tryz.ntmps77
      go_wp2_with (first | (go_at_call 59; refine (hH _).mono ?_; rintro e w' ⟨rfl, rfl⟩) | (go_at_call 103; refine (hD _).mono ?_; rintro e w' ⟨rfl, rfl⟩) | (go_at_call 142; refine (hM _).mono ?_; rintro e w' ⟨rfl, rfl⟩))
      go_ret
      exact ⟨rfl, hb⟩
    · rw [if_neg (by simp)]
      by_cases hs : (s : Int) = 0
      · rw [if_pos (by rw [hS]; simpa using hs), hs]
        rw [hs] at hb
        go_enter Tryz.func77, Tryz.ntmps77
        go_wp2_with (first | (go_at_call 59; refine (hH _).mono ?_; rintro e w' ⟨rfl, rfl⟩) | (go_at_call 103; refine (hD _).mono ?_; rintro e w' ⟨rfl, rfl⟩) | (go_at_call 142; refine (hM _).mono ?_; rintro e w' ⟨rfl, rfl⟩))
        go_ret
        exact ⟨rfl, hb⟩
      · rw [if_neg (by rw [hS]; simpa using hs)]
        have qs : ((s : Int) == 0) = false := by simpa using hs
        by_cases hn : (n : Int) = 0
        · rw [if_pos (by simp [hn]), hn]
          rw [hn] at hb
          go_enter Tryz.func77, Tryz.ntmps77
          go_wp2_with (first | (go_at_call 59; refine (hH _).mono ?_; rintro e w' ⟨rfl, rfl⟩) | (go_at_call 103; refine (hD _).mono ?_; rintro e w' ⟨rfl, rfl⟩) | (go_at_call 142; refine (hM _).mono ?_; rintro e w' ⟨rfl, rfl⟩))
          go_ret
          exact ⟨rfl, hb⟩
        · rw [if_neg (by simpa using hn)]
          have qn : ((n : Int) == 0) = false := by simpa using hn
          have qn2 : ((n : Int) != 0) = true := by simpa using hn
          by_cases hf : f < 0
          · rw [if_pos (Or.inl hf)]
            have qf : decide (f < 0) = true := decide_eq_true hf
            go_enter Tryz.func77, Tryz.ntmps77
            go_wp2_with (first | (go_at_call 59; refine (hH _).mono ?_; rintro e w' ⟨rfl, rfl⟩) | (go_at_call 103; refine (hD _).mono ?_; rintro e w' ⟨rfl, rfl⟩) | (go_at_call 142; refine (hM _).mono ?_; rintro e w' ⟨rfl, rfl⟩))
            go_ret
            exact ⟨rfl, hb⟩
          · have qf : decide (f < 0) = false := decide_eq_false hf
            by_cases h15 : 15 < f
            · rw [if_pos (by omega)]
              have q15 : decide (15 < f) = true := decide_eq_true h15
              go_enter Tryz.func77, Tryz.ntmps77
              go_wp2_with (first | (go_at_call 59; refine (hH _).mono ?_; rintro e w' ⟨rfl, rfl⟩) | (go_at_call 103; refine (hD _).mono ?_; rintro e w' ⟨rfl, rfl⟩) | (go_at_call 142; refine (hM _).mono ?_; rintro e w' ⟨rfl, rfl⟩))
              go_ret
              exact ⟨rfl, hb⟩
            · have q15 : decide (15 < f) = false := decide_eq_false h15
              by_cases h0 : f = 0
              · rw [if_neg (by omega)]
                subst h0
                go_enter Tryz.func77, Tryz.ntmps77
                go_wp2_with (first | (go_at_call 59; refine (hH _).mono ?_; rintro e w' ⟨rfl, rfl⟩) | (go_at_call 103; refine (hD _).mono ?_; rintro e w' ⟨rfl, rfl⟩) | (go_at_call 142; refine (hM _).mono ?_; rintro e w' ⟨rfl, rfl⟩))
                go_ret
                exact ⟨rfl, hb⟩
              · rw [if_pos (by omega)]
                have q0 : (f == 0) = false := by simpa using h0
                go_enter Tryz.func77, Tryz.ntmps77
                go_wp2_with (first | (go_at_call 59; refine (hH _).mono ?_; rintro e w' ⟨rfl, rfl⟩) | (go_at_call 103; refine (hD _).mono ?_; rintro e w' ⟨rfl, rfl⟩) | (go_at_call 142; refine (hM _).mono ?_; rintro e w' ⟨rfl, rfl⟩))
                go_ret
                exact ⟨rfl, hb⟩
set_option maxRecDepth 100000 in
set_option maxHeartbeats 2000000 in
theorem refLawful_other (k : Int) (h1 : k ≠ 1) (h22 : k ≠ 22) (h4 : k ≠ 4) (h20 : k ≠ 20) (h5 : k ≠ 5) (h21 : k ≠ 21) (c s n : Nat) (f : Int) (a : Option Addr) (len cap : Nat) (w : World) :
    Calls Tryz.prog 77 #[.agg #[.int .i64 k, .int .u32 c, .int .u32 s, .int .u32 n, .int .i64 f, .slice a len cap]] w fun e w' => e = .returned (.int .i64 (LW k c s n f len len)) ∧ Below w.heap.size w w' := by
  have hH := refHost_any k
  have hD := refDevice_any k
  have hM := refData_any k len
  have hc0 : ¬ cont k = 2 := by
    intro e
    unfold cont at e
    by_cases g1 : k = 1 ∨ k = 2 ∨ k = 17
    · rw [if_pos g1] at e; omega
    · rw [if_neg g1, if_neg (by omega)] at e; omega
  have hN : hNum k = false := decide_eq_false (by omega)
  have hF : mFl k = 0 := if_neg hc0
  have q1 : (k == 1) = false := by simpa using h1
  have q22 : (k == 22) = false := by simpa using h22
  have p1 : (k != 1) = true := by simpa using h1
  have p22 : (k != 22) = true := by simpa using h22
  have q4 : (k == 4) = false := by simpa using h4
  have q20 : (k == 20) = false := by simpa using h20
  have q5 : (k == 5) = false := by simpa using h5
  have q21 : (k == 21) = false := by simpa using h21
  have hS : mSess k s = decide ((s : Int) ≠ 0) := by unfold mSess; rw [if_neg h1, if_neg h22]
  unfold LW
  rw [hS, hF, hN]
  clear hF hN hc0 h1 h22 h4 h20 h5 h21
  generalize hostK k = A at *
  generalize devK k = B at *
  generalize mData k len = D at *
  generalize mSess k s = S at *
  have hb : Below w.heap.size w (w.alloc (.cells #[.int .i64 k, .int .u32 c, .int .u32 s, .int .u32 n, .int .i64 f, .slice a len cap] 67)) := (Below.refl _ _).alloc (Nat.le_refl _) _
  by_cases h0 : A = false ∧ B = false
  · obtain ⟨rfl, rfl⟩ := h0
    rw [if_pos ⟨rfl, rfl⟩]
    clear hS
    go_enter Tryz.func77, Tryz.ntmps77
    go_wp2_with (first | (go_at_call 59; refine (hH _).mono ?_; rintro e w' ⟨rfl, rfl⟩) | (go_at_call 103; refine (hD _).mono ?_; rintro e w' ⟨rfl, rfl⟩) | (go_at_call 142; refine (hM _).mono ?_; rintro e w' ⟨rfl, rfl⟩))
    go_ret
    exact ⟨rfl, hb⟩
  · rw [if_neg h0]
    have h1 : A = true ∨ (A = false ∧ B = true) := by
      cases A
      · cases B
        · exact absurd ⟨rfl, rfl⟩ h0
        · exact Or.inr ⟨rfl, rfl⟩
      · exact Or.inl rfl
    clear h0
    by_cases hc : (c : Int) = 0
    · rw [if_pos hc, hc]
      rw [hc] at hb
      clear hS
      rcases h1 with rfl | ⟨rfl, rfl⟩
      all_goals
        go_enter Tryz.func77, Tryz.ntmps77
        go_wp2_with (first | (go_at_call 59; refine (hH _).mono ?_; rintro e w' ⟨rfl, rfl⟩) | (go_at_call 103; refine (hD _).mono ?_; rintro e w' ⟨rfl, rfl⟩) | (go_at_call 142; refine (hM _).mono ?_; rintro e w' ⟨rfl, rfl⟩))
        go_ret
        exact ⟨rfl, hb⟩
    · rw [if_neg hc]
      have qc : ((c : Int) == 0) = false := by simpa using hc
      cases D
      · rw [if_pos (Or.inr rfl)]
        clear hS
        rcases h1 with rfl | ⟨rfl, rfl⟩
        all_goals
          go_enter Tryz.func77, Tryz.ntmps77
          go_wp2_with (first | (go_at_call 59; refine (hH _).mono ?_; rintro e w' ⟨rfl, rfl⟩) | (go_at_call 103; refine (hD _).mono ?_; rintro e w' ⟨rfl, rfl⟩) | (go_at_call 142; refine (hM _).mono ?_; rintro e w' ⟨rfl, rfl⟩))
          go_ret
          exact ⟨rfl, hb⟩
      · rw [if_neg (by simp)]
        by_cases hs : (s : Int) = 0
        · rw [if_pos (by simp [hs]), hs]
          rw [hs] at hb
          rcases h1 with rfl | ⟨rfl, rfl⟩
          all_goals
            go_enter Tryz.func77, Tryz.ntmps77
            go_wp2_with (first | (go_at_call 59; refine (hH _).mono ?_; rintro e w' ⟨rfl, rfl⟩) | (go_at_call 103; refine (hD _).mono ?_; rintro e w' ⟨rfl, rfl⟩) | (go_at_call 142; refine (hM _).mono ?_; rintro e w' ⟨rfl, rfl⟩))
            go_ret
            exact ⟨rfl, hb⟩
        · rw [if_neg (by simpa using hs)]
          have qs : ((s : Int) == 0) = false := by simpa using hs
          by_cases hn : (n : Int) = 0
          · rw [if_neg (by simp [hn]), hn]
            rw [hn] at hb
            by_cases hf : f < 0
            · rw [if_pos (Or.inl hf)]
              have qf : decide (f < 0) = true := decide_eq_true hf
              rcases h1 with rfl | ⟨rfl, rfl⟩
              all_goals
                go_enter Tryz.func77, Tryz.ntmps77
                go_wp2_with (first | (go_at_call 59; refine (hH _).mono ?_; rintro e w' ⟨rfl, rfl⟩) | (go_at_call 103; refine (hD _).mono ?_; rintro e w' ⟨rfl, rfl⟩) | (go_at_call 142; refine (hM _).mono ?_; rintro e w' ⟨rfl, rfl⟩))
                go_ret
                exact ⟨rfl, hb⟩
            · have qf : decide (f < 0) = false := decide_eq_false hf
              by_cases h15 : 15 < f
              · rw [if_pos (by omega)]
                have q15 : decide (15 < f) = true := decide_eq_true h15
                rcases h1 with rfl | ⟨rfl, rfl⟩
                all_goals
                  go_enter Tryz.func77, Tryz.ntmps77
                  go_wp2_with (first | (go_at_call 59; refine (hH _).mono ?_; rintro e w' ⟨rfl, rfl⟩) | (go_at_call 103; refine (hD _).mono ?_; rintro e w' ⟨rfl, rfl⟩) | (go_at_call 142; refine (hM _).mono ?_; rintro e w' ⟨rfl, rfl⟩))
                  go_ret
                  exact ⟨rfl, hb⟩
              · have q15 : decide (15 < f) = false := decide_eq_false h15
                by_cases h0 : f = 0
                · rw [if_neg (by omega)]
                  subst h0
                  rcases h1 with rfl | ⟨rfl, rfl⟩
                  all_goals
                    go_enter Tryz.func77, Tryz.ntmps77
                    go_wp2_with (first | (go_at_call 59; refine (hH _).mono ?_; rintro e w' ⟨rfl, rfl⟩) | (go_at_call 103; refine (hD _).mono ?_; rintro e w' ⟨rfl, rfl⟩) | (go_at_call 142; refine (hM _).mono ?_; rintro e w' ⟨rfl, rfl⟩))
                    go_ret
                    exact ⟨rfl, hb⟩
                · rw [if_pos (by omega)]
                  have q0 : (f == 0) = false := by simpa using h0
                  rcases h1 with rfl | ⟨rfl, rfl⟩
                  all_goals
                    go_enter Tryz.func77, Tryz.ntmps77
                    go_wp2_with (first | (go_at_call 59; refine (hH _).mono ?_; rintro e w' ⟨rfl, rfl⟩) | (go_at_call 103; refine (hD _).mono ?_; rintro e w' ⟨rfl, rfl⟩) | (go_at_call 142; refine (hM _).mono ?_; rintro e w' ⟨rfl, rfl⟩))
                    go_ret
                    exact ⟨rfl, hb⟩
          · rw [if_pos (by simpa using hn)]
            have qn : ((n : Int) == 0) = false := by simpa using hn
            have qn2 : ((n : Int) != 0) = true := by simpa using hn
            rcases h1 with rfl | ⟨rfl, rfl⟩
            all_goals
              go_enter Tryz.func77, Tryz.ntmps77
              go_wp2_with (first | (go_at_call 59; refine (hH _).mono ?_; rintro e w' ⟨rfl, rfl⟩) | (go_at_call 103; refine (hD _).mono ?_; rintro e w' ⟨rfl, rfl⟩) | (go_at_call 142; refine (hM _).mono ?_; rintro e w' ⟨rfl, rfl⟩))
              go_ret
              exact ⟨rfl, hb⟩
theorem refLawful_any (k : Int) (c s n : Nat) (f : Int) (a : Option Addr) (len cap : Nat) (w : World) :
    Calls Tryz.prog 77 #[.agg #[.int .i64 k, .int .u32 c, .int .u32 s, .int .u32 n, .int .i64 f, .slice a len cap]] w fun e w' => e = .returned (.int .i64 (LW k c s n f len len)) ∧ Below w.heap.size w w' := by
  by_cases h1 : k = 1
  · subst h1; exact refLawful_1 c s n f a len cap w
  by_cases h22 : k = 22
  · subst h22; exact refLawful_22 c s n f a len cap w
  by_cases h4 : k = 4
  · subst h4; exact refLawful_4 c s n f a len cap w
  by_cases h20 : k = 20
  · subst h20; exact refLawful_20 c s n f a len cap w
  by_cases h5 : k = 5
  · subst h5; exact refLawful_5 c s n f a len cap w
  by_cases h21 : k = 21
  · subst h21; exact refLawful_21 c s n f a len cap w
  exact refLawful_other k h1 h22 h4 h20 h5 h21 c s n f a len cap w
end Go.Proofs.YtndjepeolamedaaGreat
namespace Go.Proofs.YtndjepeolamedaaGreat
set_option maxRecDepth 100000
open Go.RowKit
theorem fr_build2 (K c s n F len : Nat) (bs : Nat → Nat) (i : Nat) (_ : i < 15 + len) :
    (if i < 15 then (if i < 13 then (if i < 9 then (if i < 5 then (if i = 0 then K else PM.w4 c (i - 1)) else PM.w4 s (i - 5)) else PM.w4 n (i - 9)) else (if i - 13 = 0 then F else len)) else bs (i - 15)) = fr K c s n F len bs i := by
  unfold fr
  by_cases h0 : i = 0
  · simp (disch := omega) only [if_pos]
  · by_cases h1 : i < 5
    · simp (disch := omega) only [if_pos, if_neg]
    · by_cases h2 : i < 9
      · simp (disch := omega) only [if_pos, if_neg]
      · by_cases h3 : i < 13
        · simp (disch := omega) only [if_pos, if_neg]
        · by_cases h4 : i = 13
          · simp (disch := omega) only [if_pos, if_neg]
          · by_cases h5 : i = 14
            · simp (disch := omega) only [if_pos, if_neg]
            · simp (disch := omega) only [if_pos, if_neg]
theorem row2 (w : World) (x y : Nat) (hx : x < 256) (hy : y < 256) : Row8 (w.alloc (.cells #[.int .u8 (x : Int), .int .u8 (y : Int)] 5)) (some ⟨w.heap.size, 0, none⟩) 2 2 (fun i => if i = 0 then x else y) := by
  refine row8_new w _ _ _ 2 (fun i _ => ?_) (fun i hi => ?_)
  · by_cases h : i = 0
    · rw [if_pos h]; exact hx
    · rw [if_neg h]; exact hy
  · rcases (show i = 0 ∨ i = 1 by omega) with rfl | rfl <;> rfl
set_option maxRecDepth 100000 in
set_option maxHeartbeats 1000000 in
theorem refEncode_bad (k : Int) (c s n : Nat) (f : Int) (a : Option Addr) (len cap : Nat) (w : World) (hE : LW k c s n f len len ≠ 0) :
    Calls Tryz.prog 96 #[.agg #[.int .i64 k, .int .u32 c, .int .u32 s, .int .u32 n, .int .i64 f, .slice a len cap]] w fun e w' => e = .returned (.tuple #[.slice none 0 0, .int .i64 (LW k c s n f len len)]) ∧ Below w.heap.size w w' := by
  have hb : Below w.heap.size w (w.alloc (.cells #[.int .i64 k, .int .u32 c, .int .u32 s, .int .u32 n, .int .i64 f, .slice a len cap] 67)) := (Below.refl _ _).alloc (Nat.le_refl _) _
  have hF := refLawful_any k c s n f a len cap (w.alloc (.cells #[.int .i64 k, .int .u32 c, .int .u32 s, .int .u32 n, .int .i64 f, .slice a len cap] 67))
  generalize LW k c s n f len len = E at *
  have q : (E == 0) = false := by simpa using hE
  go_enter Tryz.func96, Tryz.ntmps96
  go_wp2_with fail
  refine hF.mono ?_
  rintro e w1 ⟨rfl, hb1⟩
  have hb2 := below_all hb hb.size hb1
  clear hb hF hb1
  go_wp2_with fail
  go_ret2
  exact ⟨rfl, hb2⟩
set_option maxRecDepth 100000 in
set_option maxHeartbeats 2000000 in
theorem refEncode_good (K c s n F : Nat) (a : Option Addr) (len cap : Nat) (bs : Nat → Nat) (w : World) (hr : Row8 w a len cap bs) (hc : c < 4294967296) (hs : s < 4294967296) (hn : n < 4294967296) (hE : LW K c s n F len len = 0) :
    Calls Tryz.prog 96 #[.agg #[.int .i64 K, .int .u32 c, .int .u32 s, .int .u32 n, .int .i64 F, .slice a len cap]] w fun e w' => ∃ v, e = .returned (.tuple #[v, .int .i64 0]) ∧
      Hid (w'.ownsRow w.heap.size 5 1 v (15 + len + 4) (CB (PM.sl (fr K c s n F len bs) (15 + len)) (15 + len + 4)) ∧ Below w.heap.size w w') := by
  obtain ⟨i0, hi, hz0, hz1, hz2⟩ := info_parts info_u8
  obtain ⟨hkk, _, _, hll, hff⟩ := LW_zero hE
  have hA : Below w.heap.size w (w.alloc (.cells #[.int .i64 K, .int .u32 c, .int .u32 s, .int .u32 n, .int .i64 F, .slice a len cap] 67)) := (Below.refl _ _).alloc (Nat.le_refl _) _
  have hL := refLawful_any K c s n F a len cap (w.alloc (.cells #[.int .i64 K, .int .u32 c, .int .u32 s, .int .u32 n, .int .i64 F, .slice a len cap] 67))
  rw [hE] at hL
  have hX := box_new w K c s n F (.slice a len cap)
  have hAs : w.heap.size < (w.alloc (.cells #[.int .i64 K, .int .u32 c, .int .u32 s, .int .u32 n, .int .i64 F, .slice a len cap] 67)).heap.size := by simp
  have hrA := hr.below hA
  clear hE hr
  go_enter Tryz.func96, Tryz.ntmps96
  go_wp2_with fail
  refine hL.mono ?_
  rintro e w1 ⟨rfl, hb1⟩
  generalize w.alloc (.cells #[.int .i64 K, .int .u32 c, .int .u32 s, .int .u32 n, .int .i64 F, .slice a len cap] 67) = wa at *
  have hs1 := hb1.size
  have hb2 := hb1.alloc hs1 (.cells #[.int .u8 (K : Int)] 5)
  have O2 : (w1.alloc (.cells #[.int .u8 (K : Int)] 5)).ownsRow wa.heap.size 5 1 (.slice (some ⟨w1.heap.size, 0, none⟩) 1 1) 1 (CB (fun _ => K) 1) := ⟨rfl, .inr ⟨w1.heap.size, 1, _, rfl, hs1, heap_alloc_new w1 _, Nat.le_refl _, by unfold maxLen; omega, rfl, rfl⟩⟩
  have hKm : (K : Int) % 256 = (K : Int) := by omega
  have hFm : (F : Int) % 256 = (F : Int) := by omega
  have hlm : (len : Int) % 256 = (len : Int) := by omega
  have x0 := (hX w1 hb1).c0
  have x1 := (hX _ hb2).c1
  clear hL
  go_wp2_with fail
  generalize w1.alloc (.cells #[.int .u8 (K : Int)] 5) = w2 at *
  refine (refWord_any c _ hc).mono ?_
  rintro e u3 ⟨rfl, rfl⟩
  have R3 := row4 w2 c hc
  have P3 := O2.alloc (.cells #[.int .u8 ((c : Int) / 16777216), .int .u8 ((c : Int) / 65536 % 256), .int .u8 ((c : Int) / 256 % 256), .int .u8 ((c : Int) % 256)] 5)
  have hs3 : wa.heap.size ≤ w2.heap.size := hb2.size
  have B3 := hb2.alloc hs3 (.cells #[.int .u8 ((c : Int) / 16777216), .int .u8 ((c : Int) / 65536 % 256), .int .u8 ((c : Int) / 256 % 256), .int .u8 ((c : Int) % 256)] 5)
  have ht3 := B3.size
  clear O2 hb2
  go_wp2_with (at_builtin; refine wpList_append_row8 rfl (.tmp 15) (.tmp 18) 22 rfl wa.heap.size 5 i0 (.int .u8 0) Tryz.underlying22 hi hz0 hz1 hz2 rfl _ 1 _ rfl P3 _ 4 4 (PM.w4 c) rfl R3 (by unfold maxLen; omega) (by omega) ht3 ?_)
  intro v3 w3 O3 G3
  have C3 : Below wa.heap.size wa w3 := B3.grown G3 ht3 (fun j hj => (P3.lt j hj).1)
  rw [CB_append] at O3
  clear R3 P3 B3 G3
  have x2 := (hX w3 C3).c2
  go_wp2_with fail
  refine (refWord_any s _ hs).mono ?_
  rintro e u4 ⟨rfl, rfl⟩
  have R4 := row4 (w3) s hs
  have P4 := O3.alloc (.cells #[.int .u8 ((s : Int) / 16777216), .int .u8 ((s : Int) / 65536 % 256), .int .u8 ((s : Int) / 256 % 256), .int .u8 ((s : Int) % 256)] 5)
  have hs4 : wa.heap.size ≤ (w3).heap.size := C3.size
  have B4 := C3.alloc hs4 (.cells #[.int .u8 ((s : Int) / 16777216), .int .u8 ((s : Int) / 65536 % 256), .int .u8 ((s : Int) / 256 % 256), .int .u8 ((s : Int) % 256)] 5)
  have ht4 := B4.size
  clear O3 C3
  go_wp2_with (at_builtin; refine wpList_append_row8 rfl (.tmp 20) (.tmp 23) 22 rfl wa.heap.size 5 i0 (.int .u8 0) Tryz.underlying22 hi hz0 hz1 hz2 rfl _ 5 _ rfl P4 _ 4 4 (PM.w4 s) rfl R4 (by unfold maxLen; omega) (by omega) ht4 ?_)
  intro v4 w4 O4 G4
  have C4 : Below wa.heap.size wa w4 := B4.grown G4 ht4 (fun j hj => (P4.lt j hj).1)
  rw [CB_append] at O4
  clear R4 P4 B4 G4
  have x3 := (hX w4 C4).c3
  go_wp2_with fail
  refine (refWord_any n _ hn).mono ?_
  rintro e u5 ⟨rfl, rfl⟩
  have R5 := row4 (w4) n hn
  have P5 := O4.alloc (.cells #[.int .u8 ((n : Int) / 16777216), .int .u8 ((n : Int) / 65536 % 256), .int .u8 ((n : Int) / 256 % 256), .int .u8 ((n : Int) % 256)] 5)
  have hs5 : wa.heap.size ≤ (w4).heap.size := C4.size
  have B5 := C4.alloc hs5 (.cells #[.int .u8 ((n : Int) / 16777216), .int .u8 ((n : Int) / 65536 % 256), .int .u8 ((n : Int) / 256 % 256), .int .u8 ((n : Int) % 256)] 5)
  have ht5 := B5.size
  clear O4 C4
  go_wp2_with (at_builtin; refine wpList_append_row8 rfl (.tmp 25) (.tmp 28) 22 rfl wa.heap.size 5 i0 (.int .u8 0) Tryz.underlying22 hi hz0 hz1 hz2 rfl _ 9 _ rfl P5 _ 4 4 (PM.w4 n) rfl R5 (by unfold maxLen; omega) (by omega) ht5 ?_)
  intro v5 w5 O5 G5
  have C5 : Below wa.heap.size wa w5 := B5.grown G5 ht5 (fun j hj => (P5.lt j hj).1)
  rw [CB_append] at O5
  clear R5 P5 B5 G5
  have x4 := (hX w5 C5).c4
  have x5 := (hX w5 C5).c5
  have R6 := row2 w5 F len (by omega) (by omega)
  have P6 := O5.alloc (.cells #[.int .u8 (F : Int), .int .u8 (len : Int)] 5)
  have hs6 := C5.size
  have B6 := C5.alloc hs6 (.cells #[.int .u8 (F : Int), .int .u8 (len : Int)] 5)
  have ht6 := B6.size
  clear O5 C5
  go_wp2_with (at_builtin; refine wpList_append_row8 rfl (.tmp 30) (.tmp 38) 22 rfl wa.heap.size 5 i0 (.int .u8 0) Tryz.underlying22 hi hz0 hz1 hz2 rfl _ 13 _ rfl P6 _ 2 2 (fun i => if i = 0 then F else len) rfl R6 (by unfold maxLen; omega) (by omega) ht6 ?_)
  intro v6 w6 O6 G6
  have C6 : Below wa.heap.size wa w6 := B6.grown G6 ht6 (fun j hj => (P6.lt j hj).1)
  rw [CB_append] at O6
  clear R6 P6 B6 G6
  have x6 := (hX w6 C6).c5
  have R7 := hrA.below C6
  have ht7 := C6.size
  go_wp2_with (at_builtin; refine wpList_append_row8 rfl (.tmp 40) (.tmp 42) 22 rfl wa.heap.size 5 i0 (.int .u8 0) Tryz.underlying22 hi hz0 hz1 hz2 rfl _ 15 _ rfl O6 a len cap bs rfl R7 (by unfold maxLen; omega) (by omega) ht7 ?_)
  intro v7 w7 O7 G7
  have C7 : Below wa.heap.size wa w7 := C6.grown G7 ht7 (fun j hj => (O6.lt j hj).1)
  rw [CB_append, CB_congr _ (fr K c s n F len bs) _ (fun j hj => fr_build2 K c s n F len bs j (by omega))] at O7
  have hby : ∀ i, i < 15 + len → fr K c s n F len bs i < 256 := fr_lt (by omega) (by omega) (by omega) hrA.byte
  obtain ⟨a8, c8, rfl, R8⟩ := own_row8 O7 hby
  have hS := refSeal_row a8 (15 + len) c8 _ w7 R8 (by omega)
  have hs8 := C7.size
  have hBB : Below w.heap.size w w7 := hA.trans (C7.mono (Nat.le_of_lt hAs))
  clear O6 C6 R7 G7 O7 R8 hX x0 x1 x2 x3 x4 x5 x6 hrA
  go_wp2_with fail
  refine hS.mono ?_
  rintro e w9 ⟨v, rfl, own9, bel9⟩
  clear hS
  go_wp2_with fail
  go_ret2
  exact ⟨v, rfl, own_base own9 (by omega), below_all hBB (by omega) bel9⟩
end Go.Proofs.YtndjepeolamedaaGreat
