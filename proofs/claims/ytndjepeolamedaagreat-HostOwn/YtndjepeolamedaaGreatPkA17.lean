/- Part 18 of the texts on which the proofs of layer 13 rest: contracts of Go functions. -/
import Derived.Test.YtndjepeolamedaaGreatPkA16
namespace Go.Proofs.YtndjepeolamedaaGreat
set_option maxRecDepth 100000
open Go.RowKit Go.Maps
section
variable {w wx w3 : World} {d : Nat} {P : Pm} {U : List Nat} {s : Sh} {B : Bk3}
theorem RH.grown (h : RH w d P U s B) (hx : Below w.heap.size w wx) (hg : wx.grownBy w3 B.lv.ownBlock) : w3.heap[d]? = some (.cells (RHC P B.lv B.vv s B.av) 149 (0, 0)) := by
  rw [hg.block d (Nat.lt_of_lt_of_le h.dlt hx.size) (fun e => by have := (h.kl d e.symm).1; rw [h.kd.1] at this; omega), hx.block d h.dlt]
  exact h.dev
theorem RH.logd (h : RH w d P U s B) {gg cap : Nat} {x : R4} (hx : Below w.heap.size w wx)
    (ho : w3.ownsRow 0 173 4 (.slice (some ⟨gg, 0, none⟩) (s.L.length + 1) cap) (s.L.length + 1) (rvs (s.L ++ [x])) ∧ wx.grownBy w3 B.lv.ownBlock ∧ (B.lv.ownBlock = some gg ∨ gg = wx.heap.size)) :
    ∃ U' B', Gr U w U' (w3.setCell ⟨d, 5, none⟩ (.slice (some ⟨gg, 0, none⟩) (s.L.length + 1) cap)) ∧ RH (w3.setCell ⟨d, 5, none⟩ (.slice (some ⟨gg, 0, none⟩) (s.L.length + 1) cap)) d P U' { s with L := s.L ++ [x] } B' := by
  obtain ⟨h1, h2, h3⟩ := ho
  have hd3 := h.grown hx h2
  have hs := hx.size
  have hs2 := h2.size
  obtain ⟨g', cap', e, _, hgl⟩ := own_some h1
  have hgl : gg < w3.heap.size := by
    simp only [Value.slice.injEq, Option.some.injEq, Addr.mk.injEq] at e
    rw [e.1.1]; exact hgl
  have q : Off B.lv.ownBlock.toList w w3 := by
    refine ⟨h2.os.trans hx.os, h2.tape.trans hx.tape, h2.output.trans hx.output, Nat.le_trans hs hs2, fun k hk hkV => ?_⟩
    rw [h2.block k (by omega) (fun e => hkV (by rw [← e]; simp))]
    exact hx.block k hk
  have o3 : Off [d] w3 (w3.setCell ⟨d, 5, none⟩ (.slice (some ⟨gg, 0, none⟩) (s.L.length + 1) cap)) := Off.setCell d 5 w3 _
  have s3 := o3.size
  have hn : ∀ k, B.col k ≠ 0 → k ∉ [d] := fun k hk hm => by simp at hm; rw [hm, h.kd.1] at hk; exact hk rfl
  have hl : ∀ k, B.col k ≠ 5 → k ∉ B.lv.ownBlock.toList := fun k hk hm => hk (h.kl k (by simpa using hm)).1
  have hgU : (B.col gg = 5 ∧ gg ∈ U) ∨ w.heap.size ≤ gg := by
    rcases h3 with h3 | h3
    · exact .inl (h.kl gg h3)
    · right; omega
  have hdg : gg ≠ d := by
    rcases hgU with hh | hh
    · intro e; rw [e, h.kd.1] at hh; omega
    · have := h.dlt; omega
  have hq : ∀ k x, B.col k = x ∧ k ∈ U → (if k < w.heap.size then B.col k else 5) = x ∧ k ∈ gg :: U := fun k x hk => ⟨by rw [if_pos (h.ltU k hk.2)]; exact hk.1, by simp [hk.2]⟩
  refine ⟨gg :: U, { B with lv := .slice (some ⟨gg, 0, none⟩) (s.L.length + 1) cap, col := fun k => if k < w.heap.size then B.col k else 5 }, ⟨?_, ?_⟩, ?_⟩
  · exact (q.more (fun k hk => (h.kl k (by simpa using hk)).2)).trans (o3.more (by simp [h.kd.2]))
  · intro k hk
    simp at hk
    rcases hk with rfl | hk
    · rcases hgU with hh | hh
      · exact .inl hh.2
      · exact .inr hh
    · exact .inl hk
  · refine ⟨heap_setCell_same _ _ _ _ _ _ hd3, ?_, ?_, ?_, h.apb, h.vok, h.dcl, ?_, hq _ _ h.kd, fun k hk => hq _ _ (h.kM k hk), ?_, fun k hk => hq _ _ (h.ka k hk), h.pok, fun e => by simp at e⟩
    · exact (h.val.off q (fun k hk hM => hl k (by rw [(h.kM k hM).1]; omega) hk)).off o3 (fun k hk hM => hn k (by rw [(h.kM k hM).1]; omega) hk)
    · have : (s.L ++ [x]).length = s.L.length + 1 := by simp
      show World.ownsRow _ 0 _ 4 _ (s.L ++ [x]).length _
      rw [this]
      exact own_offk h1 o3 (fun k hk => by simp only [Value.ownBlock, Option.some.injEq] at hk; subst hk; simpa using hdg)
    · exact own_offk (own_offk h.app q (fun k hk => hl _ (by rw [(h.ka k hk).1]; omega))) o3 (fun k hk => hn _ (by rw [(h.ka k hk).1]; omega))
    · intro k hk
      simp at hk
      rcases hk with rfl | hk
      · omega
      · have := h.ltU k hk; omega
    · intro k hk
      simp only [Value.ownBlock, Option.some.injEq] at hk
      subst hk
      refine ⟨?_, by simp⟩
      show (if gg < w.heap.size then B.col gg else 5) = 5
      rcases hgU with hh | hh
      · rw [if_pos (h.ltU _ hh.2)]; exact hh.1
      · rw [if_neg (by omega)]
end
set_option maxHeartbeats 3200000 in
theorem hrnotev_any (d : Nat) (P : Pm) (U : List Nat) (s : Sh) (B : Bk3) (x : Int) (w : World) (h : RH w d P U s B) (hL : s.L.length < 900000) :
    Calls Tryz.prog 61 #[.pointer (some ⟨d, 5, none⟩), .int .i64 x, .int .u32 (s.ss : Nat), .int .u32 (s.nm : Nat)] w fun e w' => e = .returned (.int .i64 ((s.L.length + 1 : Nat) : Int)) ∧ Hid (∃ U' B', Gr U w U' w' ∧ RH w' d P U' (hnote s x) B') := by
  have HG : Hid (RH w d P U s B) := h
  have c8 : w.cell? ⟨d, 5, none⟩ = some B.lv := cell_of_row w d 5 _ _ _ h.dev
  have hf := h.fz 5
  have hpl := h.dlt
  have ho : Hid (∀ wx, Below w.heap.size w wx → wx.ownsRow 0 173 4 B.lv s.L.length (rvs s.L)) := fun wx hx => own_below HG.out.log hx
  obtain ⟨a, cap, hlv⟩ := own_form4 h.log
  rw [hlv] at c8 ho
  obtain ⟨k, em⟩ : ∃ k, k = s.L.length := ⟨_, rfl⟩
  rw [← em] at hlv ho c8 hL ⊢
  have HM : Hid (_) := And.intro em hlv
  have e1 : IntKind.i64.wrap ((k : Int) + 1) = ((k + 1 : Nat) : Int) := by rw [IntKind.wrap_i64]; omega
  have ca1 : (w.alloc (.cells #[.int .i64 ((k : Int) + 1), .int .i64 x, .int .u32 (s.ss : Nat), .int .u32 (s.nm : Nat)] 173)).cell? ⟨d, 5, none⟩ = some (.slice a k cap) := (World.cell?_of_block ((Off.alloc [] w _).block d hpl (by simp))).trans c8
  have ca2 : (w.drew.alloc (.cells #[.int .i64 ((k : Int) + 1), .int .i64 x, .int .u32 (s.ss : Nat), .int .u32 (s.nm : Nat)] 173)).cell? ⟨d, 5, none⟩ = some (.slice a k cap) := ca1
  clear em h hlv
  go_enter Tryz.func61, Tryz.ntmps61
  go_wp2_with fail
  go_region_law (first
    | (refine step_appT rfl (.tmp 13) (.tmp 24) rfl rfl 0 k w.heap.size s.L (((k + 1 : Nat) : Int), x, (s.ss : Int), (s.nm : Int)) _ rfl (ho.out _ (by repeat (first | with_reducible assumption | with_reducible refine below_drewNR ?_ _ | with_reducible refine Below.drew ?_ | with_reducible refine belowAR ?_ (by omega) _ | with_reducible exact Below.refl _ _))) rfl (heap_alloc_new w _) (by omega) (Nat.zero_le _) ?_; intro g3 cap3 w3 H3; have hgb := H3.out.2.1; rw [← HM.out.2] at hgb; have hp3 := HG.out.grown (by repeat (first | with_reducible assumption | with_reducible refine below_drewNR ?_ _ | with_reducible refine Below.drew ?_ | with_reducible refine belowAR ?_ (by omega) _ | with_reducible exact Below.refl _ _)) hgb; have hc3 : w3.cell? ⟨d, 5, none⟩ = some B.lv := cell_of_row w3 d 5 _ _ _ hp3; rw [HM.out.2] at hc3; have hf3 := frozen_of_row w3 d 5 _ _ hp3))
  all_goals
    have H4 := H3.out
    rw [← HM.out.2] at H4
    rw [HM.out.1] at H4
    have HF : Hid (∃ U' B', Gr U w U' (w3.setCell ⟨d, 5, none⟩ (.slice (some ⟨g3, 0, none⟩) (s.L.length + 1) cap3)) ∧ RH (w3.setCell ⟨d, 5, none⟩ (.slice (some ⟨g3, 0, none⟩) (s.L.length + 1) cap3)) d P U' (hnote s x) B') :=
      HG.out.logd (by repeat (first | with_reducible assumption | with_reducible refine below_drewNR ?_ _ | with_reducible refine Below.drew ?_ | with_reducible refine belowAR ?_ (by omega) _ | with_reducible exact Below.refl _ _)) H4
    rw [← HM.out.1] at HF
    clear ca1 ca2 H3 hp3 HG ho H4 hgb
    go_wp2_with fail
    go_ret
    exact ⟨rfl, HF⟩
end Go.Proofs.YtndjepeolamedaaGreat
namespace Go.Proofs.YtndjepeolamedaaGreat
set_option maxRecDepth 100000
open Go.RowKit
end Go.Proofs.YtndjepeolamedaaGreat
namespace Go.Proofs.YtndjepeolamedaaGreat
set_option maxRecDepth 100000
open Go.RowKit
theorem RW.below {w w' : World} {d m g n mx : Nat} {P : Pm} {U : List Nat} {s : Sd} (h : RW w d m g n mx P U s) (hb : Below w.heap.size w w') : RW w' d m g n mx P U s := by
  obtain ⟨B, h⟩ := h
  exact ⟨B, h.newd (Off.of_below hb)⟩
theorem RW.ult {w : World} {d m g n mx : Nat} {P : Pm} {U : List Nat} {s : Sd} (h : RW w d m g n mx P U s) (k : Nat) (hk : k ∈ U) : k < w.heap.size := by
  obtain ⟨B, h⟩ := h
  exact h.ltU k hk
end Go.Proofs.YtndjepeolamedaaGreat
namespace Go.Proofs.YtndjepeolamedaaGreat
set_option maxRecDepth 100000
open Go.RowKit
theorem RB.lived {w w1 w2 w3 : World} {d m g n mx : Nat} {P : Pm} {U : List Nat} {s : Sd} {B : Bk2} {A A' : Prop} (h : RB w d m g n mx P U s B A) {k ga : Nat} (q1 : Off [d] w w1) (b2 : Below w1.heap.size w1 w2) (ho : w2.ownsRow w1.heap.size 5 1 (.slice (some ⟨ga, 0, none⟩) P.i P.i) P.i (CB (fun _ => 0) P.i)) (q3 : Off [d] w2 w3)
    (e : w3.heap[d]? = some (.cells (RDC P m mx B.cp B.lv (.slice none 0 0) (dlife s k) (.slice (some ⟨ga, 0, none⟩) P.i P.i)) 128 (0, 0))) (h6 : A' → A) :
    ∃ U' B', Gr U w U' w3 ∧ RB w3 d m g n mx P U' (dlife s k) B' A' := by
  have s1 := q1.size
  have s2 := b2.size
  have s3 := q3.size
  have hga := own_far ho ⟨ga, 0, none⟩ rfl
  have hgl : ga < w3.heap.size := Nat.lt_of_lt_of_le hga.2 s3
  have hge : w.heap.size ≤ ga := Nat.le_trans s1 hga.1
  have hd := h.dlt
  have Q : Off [d] w w3 := (q1.trans (Off.of_below b2)).trans q3
  have hn : ∀ k, B.col k ≠ 0 → k ∉ [d] := fun k hk hm => by simp at hm; rw [hm, h.kd.1] at hk; exact hk rfl
  have hq : ∀ k x, B.col k = x ∧ k ∈ U → (if k < w.heap.size then B.col k else 6) = x ∧ k ∈ ga :: U := fun k x hk => ⟨by rw [if_pos (h.ltU k hk.2)]; exact hk.1, by simp [hk.2]⟩
  refine ⟨ga :: U, { B with vv := .slice none 0 0, av := .slice (some ⟨ga, 0, none⟩) P.i P.i, col := fun k => if k < w.heap.size then B.col k else 6 }, ⟨Q.more (by simp [h.kd.2]), fun k hk => ?_⟩, ?_⟩
  · simp at hk
    rcases hk with rfl | hk
    · exact .inr hge
    · exact .inl hk
  · refine ⟨e, h.mem.off Q (hn _ (by rw [h.km.1]; omega)) (hn _ (by rw [h.kg.1]; omega)), fun hA => ?_, .inl ⟨rfl, rfl⟩, own_offk h.log Q (fun k hk => hn _ (by rw [(h.kl k hk).1]; omega)), ?_, fun _ _ => by show 0 < 256; omega, Vok.new, Nat.zero_le _, ?_, hq _ _ h.kd, hq _ _ h.km, hq _ _ h.kg, hq _ _ h.kc, fun k hk => hq _ _ (h.kM k hk), fun k hk => hq _ _ (h.kl k hk), ?_, h.pok, h.n10, h.mx0, h.mxl, h.nl⟩
    · obtain ⟨c1, c2, c3⟩ := h.cel (h6 hA)
      exact ⟨c1, c2.off Q (hn _ (by rw [h.kc.1]; omega)), c3⟩
    · refine own_offk (own_base ho (Nat.zero_le _)) q3 (fun k hk => ?_)
      cases hk
      simp; omega
    · intro k hk
      simp at hk
      rcases hk with rfl | hk
      · exact hgl
      · exact Nat.lt_of_lt_of_le (h.ltU k hk) Q.size
    · intro k hk
      cases hk
      exact ⟨by show (if ga < w.heap.size then _ else 6) = 6; rw [if_neg (by omega)], by simp⟩
end Go.Proofs.YtndjepeolamedaaGreat
