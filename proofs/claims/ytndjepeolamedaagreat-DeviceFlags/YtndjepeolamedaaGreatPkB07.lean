/- Part 8 of the texts on which the proofs of layer 13 rest: contracts of Go functions. -/
import Derived.Deep.RegionHeld3
import Derived.Sort.WalkA
import Derived.Deep.RegionLaw
import Derived.Maps.AppendAt
import Derived.Test.YtndjepeolamedaaGreatPkB00
import Derived.Test.YtndjepeolamedaaGreatPkB06
namespace Go.Proofs.YtndjepeolamedaaGreat
set_option maxRecDepth 100000
open Go.RowKit Go.Maps
theorem cells4 {w : World} {c : Nat} {a b d e : Value} {t : TypeId} (h : w.heap[c]? = some (.cells #[a, b, d, e] t (0, 0))) :
    w.cell? ⟨c, 0, none⟩ = some a ∧ w.cell? ⟨c, 1, none⟩ = some b ∧ w.cell? ⟨c, 2, none⟩ = some d ∧ w.cell? ⟨c, 3, none⟩ = some e ∧ ∀ n, w.frozen? ⟨c, n, none⟩ = false :=
  ⟨cell_of_row w c 0 _ _ _ h, cell_of_row w c 1 _ _ _ h, cell_of_row w c 2 _ _ _ h, cell_of_row w c 3 _ _ _ h, fun n => frozen_of_row w c n _ _ h⟩
end Go.Proofs.YtndjepeolamedaaGreat
namespace Go.Proofs.YtndjepeolamedaaGreat
set_option maxRecDepth 100000
open Go.RowKit Go.Maps
theorem info_rec : (Tryz.prog.info? 173).map (fun i => (i.zero, i.size, i.bytes)) = some (some (.agg #[.int .i64 0, .int .i64 0, .int .u32 0, .int .u32 0]), 4, 24) := by kernel_rfl
theorem rv_one (x : R4) : ∀ u ∈ rv x, u.oneCell' = true := by intro u hu; simp [rv] at hu; rcases hu with rfl | rfl | rfl | rfl <;> rfl
theorem belowAR {B : Nat} {w0 w : World} (h : Below B w0 w) (hs : B ≤ w0.heap.size) (o : Obj) : Below B w0 (w.alloc o) := h.alloc (Nat.le_trans hs h.size) o
theorem below_drewNR {B : Nat} {w0 w : World} (h : Below B w0 w) (n : Nat) : Below B w0 (w.drewN n) := ⟨h.os, h.tape, h.output, h.size, h.block⟩
end Go.Proofs.YtndjepeolamedaaGreat
namespace Go.Proofs.YtndjepeolamedaaGreat
set_option maxRecDepth 100000
open Go.RowKit Go.Maps
theorem own_some {w : World} {B e size n : Nat} {v : Value} {xs : List Value} (h : w.ownsRow B e size v (n + 1) xs) : ∃ g cap, v = .slice (some ⟨g, 0, none⟩) (n + 1) cap ∧ B ≤ g ∧ g < w.heap.size := by
  rcases h.2 with ⟨_, hn⟩ | ⟨g, cap, cur, rfl, hg, hgg, rest⟩
  · omega
  · exact ⟨g, cap, rfl, hg, (Array.getElem?_eq_some_iff.1 hgg).1⟩
theorem cells_rv {w : World} {g : Nat} {x : R4} (hg : w.heap[g]? = some (.cells #[.int .i64 x.1, .int .i64 x.2.1, .int .u32 x.2.2.1, .int .u32 x.2.2.2] 173 (0, 0))) : ∀ j u, (rv x)[j]? = some u → w.cell? ((⟨g, 0, none⟩ : Addr).add j) = some u := by
  obtain ⟨c0, c1, c2, c3, _⟩ := cells4 hg
  intro j u hu
  have hj : j < 4 := by
    by_cases hj : j < 4
    · exact hj
    · rw [List.getElem?_eq_none (by rw [rv_len]; omega)] at hu; cases hu
  have c : j = 0 ∨ j = 1 ∨ j = 2 ∨ j = 3 := by omega
  rcases c with rfl | rfl | rfl | rfl
  · simp [rv] at hu; subst hu; simpa [Addr.add] using c0
  · simp [rv] at hu; subst hu; simpa [Addr.add] using c1
  · simp [rv] at hu; subst hu; simpa [Addr.add] using c2
  · simp [rv] at hu; subst hu; simpa [Addr.add] using c3
theorem step_appT {ops : Array Oper} {o : Oper} {a : Act} {w : World} {K : Act → World → Prop} {Q : Exit → Act → World → Prop} {E : Prop}
    (hg : o.guard = none) (s x : Operand) (hop : o.op = Op.call { callee := Callee.builtin Builtin.append, args := #[s, x], argTypes := #[88, 88] }) (hty : o.type = 88)
    (B n g : Nat) (L : List R4) (xr : R4) (v : Value) (hs : a.eval s = v) (hown : w.ownsRow B 173 4 v n (rvs L)) (hx : a.eval x = .slice (some ⟨g, 0, none⟩) 1 1)
    (hgc : w.heap[g]? = some (.cells #[.int .i64 xr.1, .int .i64 xr.2.1, .int .u32 xr.2.2.1, .int .u32 xr.2.2.2] 173 (0, 0))) (hn : n < 1000000) (hB : B ≤ w.heap.size)
    (hK : ∀ g' cap' w', Hid (w'.ownsRow B 173 4 (.slice (some ⟨g', 0, none⟩) (n + 1) cap') (n + 1) (rvs (L ++ [xr])) ∧ w.grownBy w' v.ownBlock ∧ (v.ownBlock = some g' ∨ g' = w.heap.size)) → K (a.put o.dst (.slice (some ⟨g', 0, none⟩) (n + 1) cap')) w') :
    if Region.wanted o (yielded ops a.tmps) = true then Oper.wp Tryz.prog o a w K Q else E := by
  have hw : Region.wanted o (yielded ops a.tmps) = true := by simp [Region.wanted, hg]
  rw [if_pos hw]
  obtain ⟨i, hi, h0, h1, h2⟩ := info_parts info_rec
  obtain ⟨v', w', hrun, h3, h4, _, h5⟩ := run_append_own_at w B 88 88 173 i _ 4 24 Tryz.underlying88 hi h0 h1 h2 rfl (by decide) v n (rvs L) hown ⟨g, 0, none⟩ 1 1 (rv xr) rfl (cells_rv hgc) (rv_one xr) (by unfold maxLen; omega) (by omega) hB
  obtain ⟨g', cap', rfl, _, _⟩ := own_some h3
  unfold Oper.wp execOp
  simp only [hop, hty, resolve, invoke, builtin, Sem.run_bind, Sem.run_pure, Result.andThen_ok, List.map_toArray, List.map_cons, List.map_nil, hs, hx, hrun]
  refine hK g' cap' w' ⟨?_, h4, ?_⟩
  · rw [rvs_append, rvs_one]; exact h3
  · rcases h5 with h5 | h5
    · left; rw [← h5]; rfl
    · right; simpa [Value.ownBlock] using h5
end Go.Proofs.YtndjepeolamedaaGreat
namespace Go.Proofs.YtndjepeolamedaaGreat
set_option maxRecDepth 100000
open Go.RowKit Go.Maps
theorem own_form4 {w : World} {B n : Nat} {e : TypeId} {v : Value} {xs : List Value} (h : w.ownsRow B e 4 v n xs) : ∃ a cap, v = .slice a n cap := by
  rcases h.2 with ⟨rfl, hn⟩ | ⟨g, cap, cur, rfl, _⟩
  · exact ⟨none, 0, by rw [hn]⟩
  · exact ⟨_, cap, rfl⟩
section
variable {w wx w3 : World} {d m g n mx : Nat} {P : Pm} {U : List Nat} {s : Sd} {B : Bk2} {A : Prop}
theorem RB.grown (h : RB w d m g n mx P U s B A) (hx : Below w.heap.size w wx) (hg : wx.grownBy w3 B.lv.ownBlock) : w3.heap[d]? = some (.cells (RDC P m mx B.cp B.lv B.vv s B.av) 128 (0, 0)) := by
  rw [hg.block d (Nat.lt_of_lt_of_le h.dlt hx.size) (fun e => by have := (h.kl d e.symm).1; rw [h.kd.1] at this; omega), hx.block d h.dlt]
  exact h.dev
theorem RB.logd (h : RB w d m g n mx P U s B A) {gg cap : Nat} {x : R4} (hx : Below w.heap.size w wx)
    (ho : w3.ownsRow 0 173 4 (.slice (some ⟨gg, 0, none⟩) (s.L.length + 1) cap) (s.L.length + 1) (rvs (s.L ++ [x])) ∧ wx.grownBy w3 B.lv.ownBlock ∧ (B.lv.ownBlock = some gg ∨ gg = wx.heap.size)) :
    ∃ U' B', Gr U w U' (w3.setCell ⟨d, 8, none⟩ (.slice (some ⟨gg, 0, none⟩) (s.L.length + 1) cap)) ∧ RB (w3.setCell ⟨d, 8, none⟩ (.slice (some ⟨gg, 0, none⟩) (s.L.length + 1) cap)) d m g n mx P U' { s with L := s.L ++ [x] } B' A := by
  obtain ⟨h1, h2, h3⟩ := ho
  have hd3 := h.grown hx h2
  have hs := hx.size
  have hs2 := h2.size
  obtain ⟨g', cap', e, _, hgl⟩ := own_some h1
  have hgl : gg < w3.heap.size := by
    simp only [Value.slice.injEq, Option.some.injEq, Addr.mk.injEq] at e
    rw [e.1.1]; exact hgl
  have q : Off B.lv.ownBlock.toList w w3 := by
    refine ⟨h2.os.trans hx.os, h2.tape.trans hx.tape, h2.output.trans hx.output, Nat.le_trans hs hs2, fun k hk hkV => ?_⟩
    rw [h2.block k (by omega) (fun e => hkV (by rw [← e]; simp))]
    exact hx.block k hk
  have o3 : Off [d] w3 (w3.setCell ⟨d, 8, none⟩ (.slice (some ⟨gg, 0, none⟩) (s.L.length + 1) cap)) := Off.setCell d 8 w3 _
  have s3 := o3.size
  have hn : ∀ k, B.col k ≠ 0 → k ∉ [d] := fun k hk hm => by simp at hm; rw [hm, h.kd.1] at hk; exact hk rfl
  have hl : ∀ k, B.col k ≠ 5 → k ∉ B.lv.ownBlock.toList := fun k hk hm => hk (h.kl k (by simpa using hm)).1
  have hgU : (B.col gg = 5 ∧ gg ∈ U) ∨ w.heap.size ≤ gg := by
    rcases h3 with h3 | h3
    · exact .inl (h.kl gg h3)
    · right; omega
  have hdg : gg ≠ d := by
    rcases hgU with hh | hh
    · intro e; rw [e, h.kd.1] at hh; omega
    · have := h.dlt; omega
  have hq : ∀ k x, B.col k = x ∧ k ∈ U → (if k < w.heap.size then B.col k else 5) = x ∧ k ∈ gg :: U := fun k x hk => ⟨by rw [if_pos (h.ltU k hk.2)]; exact hk.1, by simp [hk.2]⟩
  refine ⟨gg :: U, { B with lv := .slice (some ⟨gg, 0, none⟩) (s.L.length + 1) cap, col := fun k => if k < w.heap.size then B.col k else 5 }, ⟨?_, ?_⟩, ?_⟩
  · exact (q.more (fun k hk => (h.kl k (by simpa using hk)).2)).trans (o3.more (by simp [h.kd.2]))
  · intro k hk
    simp at hk
    rcases hk with rfl | hk
    · rcases hgU with hh | hh
      · exact .inl hh.2
      · exact .inr hh
    · exact .inl hk
  · refine ⟨heap_setCell_same _ _ _ _ _ _ hd3, (h.mem.off q (hl _ (by rw [h.km.1]; omega)) (hl _ (by rw [h.kg.1]; omega))).off o3 (hn _ (by rw [h.km.1]; omega)) (hn _ (by rw [h.kg.1]; omega)), fun hA => ?_, ?_, ?_, ?_, h.apb, h.vok, h.dcl, ?_, hq _ _ h.kd, hq _ _ h.km, hq _ _ h.kg, hq _ _ h.kc, fun k hk => hq _ _ (h.kM k hk), ?_, fun k hk => hq _ _ (h.ka k hk), h.pok, h.n10, h.mx0, h.mxl, fun e => by simp at e⟩
    · obtain ⟨c1, c2, c3⟩ := h.cel hA
      exact ⟨c1, (c2.off q (hl _ (by rw [h.kc.1]; omega))).off o3 (hn _ (by rw [h.kc.1]; omega)), c3⟩
    · exact (h.val.off q (fun k hk hM => hl k (by rw [(h.kM k hM).1]; omega) hk)).off o3 (fun k hk hM => hn k (by rw [(h.kM k hM).1]; omega) hk)
    · have : (s.L ++ [x]).length = s.L.length + 1 := by simp
      show World.ownsRow _ 0 _ 4 _ (s.L ++ [x]).length _
      rw [this]
      exact own_offk h1 o3 (fun k hk => by simp only [Value.ownBlock, Option.some.injEq] at hk; subst hk; simpa using hdg)
    · exact own_offk (own_offk h.app q (fun k hk => hl _ (by rw [(h.ka k hk).1]; omega))) o3 (fun k hk => hn _ (by rw [(h.ka k hk).1]; omega))
    · intro k hk
      simp at hk
      rcases hk with rfl | hk
      · omega
      · have := h.ltU k hk; omega
    · intro k hk
      simp only [Value.ownBlock, Option.some.injEq] at hk
      subst hk
      refine ⟨?_, by simp⟩
      show (if gg < w.heap.size then B.col gg else 5) = 5
      rcases hgU with hh | hh
      · rw [if_pos (h.ltU _ hh.2)]; exact hh.1
      · rw [if_neg (by omega)]
end
set_option maxHeartbeats 3200000 in
theorem rnotev_any (d m g n mx : Nat) (P : Pm) (U : List Nat) (s : Sd) (B : Bk2) (A : Prop) (x : Int) (w : World) (h : RB w d m g n mx P U s B A) (hL : s.L.length < 900000) :
    Calls Tryz.prog 61 #[.pointer (some ⟨d, 8, none⟩), .int .i64 x, .int .u32 (s.ss : Nat), .int .u32 (s.nm : Nat)] w fun e w' => e = .returned (.int .i64 ((s.L.length + 1 : Nat) : Int)) ∧ Hid (∃ U' B', Gr U w U' w' ∧ RB w' d m g n mx P U' (dnote s x) B' A) := by
  have HG : Hid (RB w d m g n mx P U s B A) := h
  have c8 : w.cell? ⟨d, 8, none⟩ = some B.lv := cell_of_row w d 8 _ _ _ h.dev
  have hf := h.fz 8
  have hpl := h.dlt
  have ho : Hid (∀ wx, Below w.heap.size w wx → wx.ownsRow 0 173 4 B.lv s.L.length (rvs s.L)) := fun wx hx => own_below HG.out.log hx
  obtain ⟨a, cap, hlv⟩ := own_form4 h.log
  rw [hlv] at c8 ho
  obtain ⟨k, em⟩ : ∃ k, k = s.L.length := ⟨_, rfl⟩
  rw [← em] at hlv ho c8 hL ⊢
  have HM : Hid (_) := And.intro em hlv
  have e1 : IntKind.i64.wrap ((k : Int) + 1) = ((k + 1 : Nat) : Int) := by rw [IntKind.wrap_i64]; omega
  have ca1 : (w.alloc (.cells #[.int .i64 ((k : Int) + 1), .int .i64 x, .int .u32 (s.ss : Nat), .int .u32 (s.nm : Nat)] 173)).cell? ⟨d, 8, none⟩ = some (.slice a k cap) := (World.cell?_of_block ((Off.alloc [] w _).block d hpl (by simp))).trans c8
  have ca2 : (w.drew.alloc (.cells #[.int .i64 ((k : Int) + 1), .int .i64 x, .int .u32 (s.ss : Nat), .int .u32 (s.nm : Nat)] 173)).cell? ⟨d, 8, none⟩ = some (.slice a k cap) := ca1
  clear em h hlv
  go_enter Tryz.func61, Tryz.ntmps61
  go_wp2_with fail
  go_region_law (first
    | (refine step_appT rfl (.tmp 13) (.tmp 24) rfl rfl 0 k w.heap.size s.L (((k + 1 : Nat) : Int), x, (s.ss : Int), (s.nm : Int)) _ rfl (ho.out _ (by repeat (first | with_reducible assumption | with_reducible refine below_drewNR ?_ _ | with_reducible refine Below.drew ?_ | with_reducible refine belowAR ?_ (by omega) _ | with_reducible exact Below.refl _ _))) rfl (heap_alloc_new w _) (by omega) (Nat.zero_le _) ?_; intro g3 cap3 w3 H3; have hgb := H3.out.2.1; rw [← HM.out.2] at hgb; have hp3 := HG.out.grown (by repeat (first | with_reducible assumption | with_reducible refine below_drewNR ?_ _ | with_reducible refine Below.drew ?_ | with_reducible refine belowAR ?_ (by omega) _ | with_reducible exact Below.refl _ _)) hgb; have hc3 : w3.cell? ⟨d, 8, none⟩ = some B.lv := cell_of_row w3 d 8 _ _ _ hp3; rw [HM.out.2] at hc3; have hf3 := frozen_of_row w3 d 8 _ _ hp3))
  all_goals
    have H4 := H3.out
    rw [← HM.out.2] at H4
    rw [HM.out.1] at H4
    have HF : Hid (∃ U' B', Gr U w U' (w3.setCell ⟨d, 8, none⟩ (.slice (some ⟨g3, 0, none⟩) (s.L.length + 1) cap3)) ∧ RB (w3.setCell ⟨d, 8, none⟩ (.slice (some ⟨g3, 0, none⟩) (s.L.length + 1) cap3)) d m g n mx P U' (dnote s x) B' A) :=
      HG.out.logd (by repeat (first | with_reducible assumption | with_reducible refine below_drewNR ?_ _ | with_reducible refine Below.drew ?_ | with_reducible refine belowAR ?_ (by omega) _ | with_reducible exact Below.refl _ _)) H4
    rw [← HM.out.1] at HF
    clear ca1 ca2 H3 hp3 HG ho H4 hgb
    go_wp2_with fail
    go_ret
    exact ⟨rfl, HF⟩
end Go.Proofs.YtndjepeolamedaaGreat
namespace Go.Proofs.YtndjepeolamedaaGreat
set_option maxRecDepth 100000
open Go.RowKit
set_option maxHeartbeats 3200000 in
theorem rvlatch_any (d m g n mx : Nat) (P : Pm) (U : List Nat) (s : Sd) (x : Int) (w : World) (h : RW w d m g n mx P U s) (hx : x ≠ 0) (hL : s.L.length < 900000) :
    Calls Tryz.prog 130 #[.pointer (some ⟨d, 0, none⟩), .int .i64 x] w fun e w' => e = .returned (.tuple #[]) ∧ Hid (∃ U', Gr U w U' w' ∧ RW w' d m g n mx P U' (dlatch s x)) := by
  obtain ⟨B, h⟩ := h
  have hT := rtripv_any d m g n mx P U s B _ x w h hx
  have HL : Hid (_) := hL
  clear h hx hL
  unfold dlatch
  by_cases ht : vtripB s.v x = true
  · rw [if_pos ht]
    rw [ht] at hT
    go_enter Tryz.func130, Tryz.ntmps130
    go_wp2_with (go_at_call 152; refine hT.mono ?_; rintro e w2 ⟨rfl, h2⟩)
    obtain ⟨g2, B2, x2⟩ := h2.out
    have xd := x2.newd (Off.drew [] w2)
    have hN := rnotev_any d m g n mx P U _ B2 _ x w2.drew xd HL.out
    have c19 : w2.cell? ⟨d, 19, none⟩ = some (.int .u32 (s.ss : Nat)) := cell_of_row w2 d 19 _ _ _ x2.dev
    have c20 : w2.cell? ⟨d, 20, none⟩ = some (.int .u32 (s.nm : Nat)) := cell_of_row w2 d 20 _ _ _ x2.dev
    have H2 : Hid (_) := g2.trans (Gr.same (l := []) (Off.drew [] w2) (by simp))
    clear hT h2 g2 x2 xd
    go_region_with (go_at_call 61; refine hN.mono ?_; rintro e w3 ⟨rfl, h3⟩)
    all_goals
      clear hN c19 c20
      go_wp2_with fail
      go_end0
      obtain ⟨U3, B3, g3, x3⟩ := h3.out
      exact ⟨rfl, U3, H2.out.trans g3, B3, x3⟩
  · rw [if_neg ht]
    have ht' : vtripB s.v x = false := by simpa using ht
    rw [ht'] at hT
    go_enter Tryz.func130, Tryz.ntmps130
    go_wp2_with (go_at_call 152; refine hT.mono ?_; rintro e w2 ⟨rfl, h2⟩)
    go_end0
    obtain ⟨g2, B2, x2⟩ := h2.out
    exact ⟨rfl, U, g2, B2, x2⟩
set_option maxHeartbeats 3200000 in
theorem rvon_any (d m g n mx : Nat) (P : Pm) (U : List Nat) (s : Sd) (w : World) (h : RW w d m g n mx P U s) :
    Calls Tryz.prog 126 #[.pointer (some ⟨d, 0, none⟩)] w fun e w' => e = .returned (.tuple #[]) ∧ Hid (∃ U', Gr U w U' w' ∧ RW w' d m g n mx P U' (don s)) := by
  obtain ⟨B, h⟩ := h
  have c22 : w.cell? ⟨d, 22, none⟩ = some (.int .i64 (s.od : Nat)) := cell_of_row w d 22 _ _ _ h.dev
  have c10 : w.cell? ⟨d, 10, none⟩ = some (.int .i64 (s.dc : Nat)) := cell_of_row w d 10 _ _ _ h.dev
  have z22 := h.fz 22
  have z10 := h.fz 10
  have e1 : (w.setCell ⟨d, 22, none⟩ (.int .i64 0)).heap[d]? = some (.cells (RDC P m mx B.cp B.lv B.vv { s with od := 0 } B.av) 128 (0, 0)) := heap_setCell_same _ _ _ _ _ _ h.dev
  have e2 : ((w.setCell ⟨d, 22, none⟩ (.int .i64 0)).setCell ⟨d, 10, none⟩ (.int .i64 0)).heap[d]? = some (.cells (RDC P m mx B.cp B.lv B.vv { s with od := 0, dc := 0 } B.av) 128 (0, 0)) := heap_setCell_same _ _ _ _ _ _ e1
  have o2 := (Off.setCell d 22 w (.int .i64 0)).trans (Off.setCell d 10 _ (.int .i64 0))
  have x2 := h.own (A' := s.st ≠ 6) (s' := { s with od := 0, dc := 0 }) o2 e2 rfl ⟨rfl, rfl⟩ rfl rfl h.vok (Nat.zero_le _) id
  have hC := rcomev_any d m g n mx P U _ B _ _ x2
  have H2 : Hid (_) := Gr.same (U := U) o2 (by simp [h.kd.2])
  clear h e1 e2 o2 x2
  go_enter Tryz.func126, Tryz.ntmps126
  go_wp2_with (go_at_call 187; refine hC.mono ?_; rintro e w3 ⟨rfl, h3⟩)
  go_end0
  obtain ⟨g3, B3, x3⟩ := h3.out
  exact ⟨rfl, U, H2.out.trans g3, B3, x3⟩
set_option maxHeartbeats 3200000 in
theorem rvleave_any (d m g n mx : Nat) (P : Pm) (U : List Nat) (s : Sd) (k : Nat) (w : World) (h : RW w d m g n mx P U s) (hs : s.st ≠ 6) :
    Calls Tryz.prog 186 #[.pointer (some ⟨d, 0, none⟩), .int .i64 (k : Nat)] w fun e w' => e = .returned (.tuple #[]) ∧ Hid (∃ U', Gr U w U' w' ∧ RW w' d m g n mx P U' (dleave s k)) := by
  obtain ⟨B, h⟩ := h
  have hR := rrunv_any d m g n mx P U s B _ false w h
  clear h
  go_enter Tryz.func186, Tryz.ntmps186
  go_wp2_with (go_at_call 93; refine hR.mono ?_; rintro e w2 ⟨rfl, h2⟩; obtain ⟨g2, B2, x2⟩ := h2.out; have c18 : w2.cell? ⟨d, 18, none⟩ = some (.int .i64 (s.st : Nat)) := cell_of_row w2 d 18 _ _ _ x2.dev; have c19 : w2.cell? ⟨d, 19, none⟩ = some (.int .u32 (s.ss : Nat)) := cell_of_row w2 d 19 _ _ _ x2.dev; have c20 : w2.cell? ⟨d, 20, none⟩ = some (.int .u32 (s.nm : Nat)) := cell_of_row w2 d 20 _ _ _ x2.dev; have c21 : w2.cell? ⟨d, 21, none⟩ = some (.int .u32 (s.sn : Nat)) := cell_of_row w2 d 21 _ _ _ x2.dev; have c22 : w2.cell? ⟨d, 22, none⟩ = some (.int .i64 (s.od : Nat)) := cell_of_row w2 d 22 _ _ _ x2.dev; have z18 := x2.fz 18; have z19 := x2.fz 19; have z20 := x2.fz 20; have z21 := x2.fz 21; have z22 := x2.fz 22; have H2 : Hid (_) := And.intro g2 x2; clear hR h2 g2 x2)
  go_end0
  obtain ⟨g2, x2⟩ := H2.out
  have e1 : (w2.setCell ⟨d, 18, none⟩ (.int .i64 (k : Nat))).heap[d]? = some (.cells (RDC P m mx B2.cp B2.lv B2.vv { s with v := vrun s.v false, st := k } B2.av) 128 (0, 0)) := heap_setCell_same _ _ _ _ _ _ x2.dev
  have e2 : ((w2.setCell ⟨d, 18, none⟩ (.int .i64 (k : Nat))).setCell ⟨d, 19, none⟩ (.int .u32 0)).heap[d]? = some (.cells (RDC P m mx B2.cp B2.lv B2.vv { s with v := vrun s.v false, st := k, ss := 0 } B2.av) 128 (0, 0)) := heap_setCell_same _ _ _ _ _ _ e1
  have e3 : (((w2.setCell ⟨d, 18, none⟩ (.int .i64 (k : Nat))).setCell ⟨d, 19, none⟩ (.int .u32 0)).setCell ⟨d, 20, none⟩ (.int .u32 0)).heap[d]? = some (.cells (RDC P m mx B2.cp B2.lv B2.vv { s with v := vrun s.v false, st := k, ss := 0, nm := 0 } B2.av) 128 (0, 0)) := heap_setCell_same _ _ _ _ _ _ e2
  have e4 : ((((w2.setCell ⟨d, 18, none⟩ (.int .i64 (k : Nat))).setCell ⟨d, 19, none⟩ (.int .u32 0)).setCell ⟨d, 20, none⟩ (.int .u32 0)).setCell ⟨d, 21, none⟩ (.int .u32 0)).heap[d]? = some (.cells (RDC P m mx B2.cp B2.lv B2.vv { s with v := vrun s.v false, st := k, ss := 0, nm := 0, sn := 0 } B2.av) 128 (0, 0)) := heap_setCell_same _ _ _ _ _ _ e3
  have e5 : (((((w2.setCell ⟨d, 18, none⟩ (.int .i64 (k : Nat))).setCell ⟨d, 19, none⟩ (.int .u32 0)).setCell ⟨d, 20, none⟩ (.int .u32 0)).setCell ⟨d, 21, none⟩ (.int .u32 0)).setCell ⟨d, 22, none⟩ (.int .i64 0)).heap[d]? = some (.cells (RDC P m mx B2.cp B2.lv B2.vv (dleave s k) B2.av) 128 (0, 0)) := heap_setCell_same _ _ _ _ _ _ e4
  have o5 := ((((Off.setCell d 18 w2 (.int .i64 (k : Nat))).trans (Off.setCell d 19 _ (.int .u32 0))).trans (Off.setCell d 20 _ (.int .u32 0))).trans (Off.setCell d 21 _ (.int .u32 0))).trans (Off.setCell d 22 _ (.int .i64 0))
  have x5 := x2.own (A' := (dleave s k).st ≠ 6) (s' := dleave s k) o5 e5 rfl ⟨rfl, rfl⟩ rfl rfl x2.vok x2.dcl (fun _ => hs)
  exact ⟨rfl, U, g2.trans (Gr.same o5 (by simp [x2.kd.2])), B2, x5⟩
set_option maxHeartbeats 1600000 in
theorem rbusy_any (d k : Nat) (w : World) (c18 : w.cell? ⟨d, 18, none⟩ = some (.int .i64 (k : Nat))) :
    Calls Tryz.prog 183 #[.pointer (some ⟨d, 0, none⟩)] w fun e w' => e = .returned (.bool (decide (k = 2 ∨ k = 3 ∨ k = 4))) ∧ w' = w := by
  go_enter Tryz.func183, Tryz.ntmps183
  go_wp2_with fail
  all_goals
    go_ret
    refine ⟨congrArg (fun b => Ending.returned (Value.bool b)) (?_ : _ = decide (k = 2 ∨ k = 3 ∨ k = 4)), rfl⟩
    rw [Bool.eq_iff_iff]
    simp <;> omega
end Go.Proofs.YtndjepeolamedaaGreat
