/- Part 34 of the texts on which the proofs of layer 13 rest: contracts of Go functions. -/
import Derived.OpenShut
import Derived.Deep.RegionWith
import Derived.Deep.DeepCutAuto
import Derived.RegionTactic
import Derived.Test.YtpgdghjlfdehjaaGreatPkR07
import Derived.Test.YtpgdghjlfdehjaaGreatPkR32
namespace Go.Proofs.YtpgdghjlfdehjaaGreat
set_option maxRecDepth 100000
open Go.RowKit
theorem RB.celd {w w' : World} {d m g n mx : Nat} {P : Pm} {U : List Nat} {s : Sd} {B : Bk2} {A A' : Prop} (h : RB w d m g n mx P U s B A) {c : Nat} {cp : Value} (hc : c ∉ U) (hlt : c < w.heap.size) (q : Off [d] w w') (e : w'.heap[d]? = some (.cells (RDC P m mx cp B.lv B.vv s B.av) 133 (0, 0)))
    (hx : A' → cp = .pointer (some ⟨c, 0, none⟩) ∧ RX w c m mx (vz s.ms.bs) false ∧ s.ms.off = false) : RB w' d m g n mx P (c :: U) s { B with c := c, cp := cp, col := fun k => if k = c then 2 else B.col k } A' := by
  have hn : ∀ k, B.col k ≠ 0 → k ∉ [d] := fun k hk hm => by simp at hm; rw [hm, h.kd.1] at hk; exact hk rfl
  have hq : ∀ k x, B.col k = x ∧ k ∈ U → (if k = c then 2 else B.col k) = x ∧ k ∈ c :: U := fun k x hk => ⟨by rw [if_neg (fun e => hc (by rw [← e]; exact hk.2))]; exact hk.1, by simp [hk.2]⟩
  refine ⟨e, ?_, ?_, ?_, ?_, ?_, h.apb, h.vok, h.dcl, ?_, hq _ _ h.kd, hq _ _ h.km, hq _ _ h.kg, ⟨if_pos rfl, by simp⟩, fun k hk => hq _ _ (h.kM k hk), fun k hk => hq _ _ (h.kl k hk), fun k hk => hq _ _ (h.ka k hk), h.pok, h.n10, h.mx0, h.mxl, h.nl⟩
  · exact h.mem.off q (hn _ (by rw [h.km.1]; omega)) (hn _ (by rw [h.kg.1]; omega))
  · intro hs
    obtain ⟨c1, c2, c3⟩ := hx hs
    exact ⟨c1, c2.off q (by simp; intro e; exact hc (by rw [e]; exact h.kd.2)), c3⟩
  · exact h.val.off q (fun k hk hM => hn k (by rw [(h.kM k hM).1]; omega) hk)
  · exact own_offk h.log q (fun k hk => hn _ (by rw [(h.kl k hk).1]; omega))
  · exact own_offk h.app q (fun k hk => hn _ (by rw [(h.ka k hk).1]; omega))
  · intro k hk
    simp at hk
    rcases hk with rfl | hk
    · exact Nat.lt_of_lt_of_le hlt q.size
    · exact Nat.lt_of_lt_of_le (h.ltU k hk) q.size
theorem ropenAll (d m g n mx : Nat) (P : Pm) (U : List Nat) (s : Sd) (B : Bk2) (A : Prop) (w : World) (h : RB w d m g n mx P U s B A) (ms : Ms) (hms : s.ms = ms) (E : Int) (hE : opE mx n ms = E) (ht : ms.t < 9223372036854774000) :
    Calls Tryz.prog 60 #[.pointer (some ⟨m, 0, none⟩), .int .u32 (mx : Nat)] w fun e w' => ∃ p, e = .returned (.tuple #[.pointer p, .int .i64 E]) ∧ Hid (∃ B', Gr U w U w' ∧ RB w' d m g n mx P U { s with ms := opS mx n ms } B' False ∧
      (E = 0 → ∃ c, p = some ⟨c, 0, none⟩ ∧ c ∉ U ∧ w.heap.size ≤ c ∧ c < w'.heap.size ∧ RX w' c m mx (vz (opS mx n ms).bs) false ∧ (opS mx n ms).off = false) ∧ (¬ E = 0 → p = none)) := by
  subst hms
  subst hE
  refine (ropen m g n mx s.ms w h.mem ht).mono ?_
  rintro e w' ⟨p, rfl, h2⟩
  obtain ⟨o2, m2, c2, p2⟩ := h2.out
  refine ⟨p, rfl, B, Gr.same o2 (fun k hk => h.memU k (by simp at hk ⊢; rcases hk with hk | hk <;> simp [hk])), h.memd (o2.more (by simp)) m2 (fun h => h.elim), fun he => ?_, p2⟩
  obtain ⟨c, hp, hc, hC⟩ := c2 he
  refine ⟨c, hp, fun hm => by have := h.ltU c hm; omega, hc, hC.lt, ?_, opS_off h.mem.l0 he⟩
  rw [opS_vz h.mem.l0 (fun i hi => h.mem.byte i (by have := h.n10; omega))]
  exact hC
theorem rreset_neg (d : Nat) (k : Int) (w : World) (hk : k < 0) : Calls Tryz.prog 71 #[.pointer (some ⟨d, 0, none⟩), .int .i64 k] w fun e w' => e = .returned (.int .i64 2) ∧ w' = w := by
  go_enter Tryz.func71, Tryz.ntmps71
  go_wp2_with fail
  go_ret
  exact ⟨rfl, rfl⟩
set_option maxHeartbeats 3200000 in
theorem rvreset_any (d m g n mx : Nat) (P : Pm) (U : List Nat) (s : Sd) (k : Int) (w : World) (h : RW w d m g n mx P U s) (hk0 : 0 ≤ k) (hk : k ≤ 9223372036854775807) (ht : s.ms.t < 9223372036854774000) :
    Calls Tryz.prog 71 #[.pointer (some ⟨d, 0, none⟩), .int .i64 k] w fun e w' => e = .returned (.int .i64 (dresetE mx n s k)) ∧ Hid (∃ U', Gr U w U' w' ∧ RW w' d m g n mx P U' (dresetS mx n s k)) := by
  unfold dresetE dresetS
  rw [if_neg (by omega), if_neg (by omega)]
  obtain ⟨B, h⟩ := h
  have hL := rlife_any d m g n mx P U s B _ 1 w h
  have H : Hid (_) := ht
  clear h ht
  obtain ⟨MS, hMS⟩ : ∃ x, rsM s.ms k = x := ⟨_, rfl⟩
  rw [hMS]
  obtain ⟨E, hE⟩ : ∃ x, opE mx n MS = x := ⟨_, rfl⟩
  rw [hE]
  have hMt : MS.t = s.ms.t := by subst hMS; unfold rsM arS; split <;> (try split) <;> rfl
  obtain ⟨K6, hK6⟩ : ∃ x, (if E = 0 then 1 else 6) = x := ⟨_, rfl⟩
  rw [hK6]
  have HM : Hid (_) := And.intro hMS (And.intro hE (And.intro hMt hK6))
  clear hMS hE hMt hK6
  by_cases hp : 0 < k
  · go_enter Tryz.func71, Tryz.ntmps71
    go_wp2_with (go_at_call 61; refine hL.mono ?_; rintro e w2 ⟨rfl, h2⟩; obtain ⟨U2, B2, g2, x2⟩ := h2.out; have c5 : w2.cell? ⟨d, 5, none⟩ = some (.pointer (some ⟨m, 0, none⟩)) := cell_of_row w2 d 5 _ _ _ x2.dev; have H2 : Hid (_) := And.intro g2 x2; clear hL h2 g2 x2)
    refine (ron_any _ _ _ _ _ H2.out.2.mem).mono ?_
    rintro e w3 ⟨rfl, o3, m3⟩
    have x3 := H2.out.2.memd (o3.more (by simp)) m3 (A' := False) (fun h => h.elim)
    have z5 : w3.cell? ⟨d, 5, none⟩ = some (.pointer (some ⟨m, 0, none⟩)) := cell_of_row w3 d 5 _ _ _ x3.dev
    have z6 : w3.cell? ⟨d, 6, none⟩ = some (.int .u32 (mx : Nat)) := cell_of_row w3 d 6 _ _ _ x3.dev
    have H3 : Hid (_) := And.intro (H2.out.1.trans (Gr.same (o3.more (by simp)) H2.out.2.memU)) x3
    clear H2 o3 m3 x3 c5
    go_wp2_with fail
    refine (rarm_any _ _ _ _ (k - 1) w3 H3.out.2.mem (by omega)).mono ?_
    rintro e w4 ⟨rfl, o4, m4⟩
    have x4 := H3.out.2.memd (o4.more (by simp)) m4 (A' := False) (fun h => h.elim)
    have y5 : w4.cell? ⟨d, 5, none⟩ = some (.pointer (some ⟨m, 0, none⟩)) := cell_of_row w4 d 5 _ _ _ x4.dev
    have y6 : w4.cell? ⟨d, 6, none⟩ = some (.int .u32 (mx : Nat)) := cell_of_row w4 d 6 _ _ _ x4.dev
    have H4 : Hid (_) := And.intro (H3.out.1.trans (Gr.same (o4.more (by simp)) H3.out.2.memU)) x4
    clear H3 o4 m4 x4 z5 z6
    go_wp2_with fail
    have hO := ropenAll d m g n mx P U2 _ _ _ _ (H4.out.2.newd (Off.drew [] w4)) MS (by rw [← HM.out.1]; unfold rsM; rw [if_pos hp]; rfl) E HM.out.2.1 (by rw [HM.out.2.2.1]; exact H.out)
    go_region_with (go_at_call 60; refine hO.mono ?_; rintro e w5 ⟨p, rfl, h5⟩)
    all_goals
      obtain ⟨B5, g5, x5, c5, p5⟩ := h5.out
      have G5 := H4.out.1.trans (Gr.trans (Gr.same (Off.drew [] w4) (by simp)) g5)
      have y7 : w5.cell? ⟨d, 7, none⟩ = some B5.cp := cell_of_row w5 d 7 _ _ _ x5.dev
      have f7 := x5.fz 7
      have H5 : Hid (_) := And.intro G5 (And.intro x5 (And.intro c5 p5))
      have H2s : Hid (_) := Nat.le_trans H4.out.1.off.size (Nat.le_refl _)
      clear hO h5 g5 x5 c5 p5 G5 H4 y5 y6
      by_cases he : E = 0
      · have e0 : (E != 0) = false := by simp [he]
        obtain ⟨c, rfl, hc, hge, hlt, hC, hoff⟩ := H5.out.2.2.1 he
        have HE : Hid (_) := And.intro he (And.intro hc (And.intro hge (And.intro hlt (And.intro hC hoff))))
        clear he hc hge hlt hC hoff
        go_wp2_with fail
        go_ret
        obtain ⟨he, hc, hge, hlt, hC, hoff⟩ := HE.out
        obtain ⟨G5, x5, _, _⟩ := H5.out
        have hk6 : K6 = 1 := by rw [← HM.out.2.2.2, if_pos he]
        subst hk6
        have x6 := x5.celd (A' := (1 : Nat) ≠ 6) (cp := .pointer (some ⟨c, 0, none⟩)) hc hlt (Off.setCell d 7 w5 (.pointer (some ⟨c, 0, none⟩))) (heap_setCell_same _ _ _ _ _ _ x5.dev) (fun _ => ⟨rfl, hC, hoff⟩)
        refine ⟨by rw [he]; rfl, c :: U2, ⟨(G5.trans (Gr.same (Off.setCell d 7 w5 (.pointer (some ⟨c, 0, none⟩))) (by simp [x5.kd.2]))).off, fun j hj => ?_⟩, _, x6⟩
        simp at hj
        rcases hj with rfl | hj
        · exact .inr (Nat.le_trans H2s.out hge)
        · exact G5.new j hj
      · have e0 : (E != 0) = true := by simp [he]
        have hD := rlife_any d m g n mx P U2 _ _ _ 6 _ H5.out.2.1
        have H6 : Hid (_) := And.intro he H5.out.1
        clear he H5
        go_wp2_with (go_at_call 61; refine hD.mono ?_; rintro e w7 ⟨rfl, h7⟩)
        go_ret
        obtain ⟨U7, B7, g7, x7⟩ := h7.out
        have hk6 : K6 = 6 := by rw [← HM.out.2.2.2, if_neg H6.out.1]
        subst hk6
        exact ⟨rfl, U7, H6.out.2.trans g7, B7, { x7 with cel := fun hs => absurd rfl hs }⟩
  · go_enter Tryz.func71, Tryz.ntmps71
    go_wp2_with (go_at_call 61; refine hL.mono ?_; rintro e w2 ⟨rfl, h2⟩; obtain ⟨U2, B2, g2, x2⟩ := h2.out; have c5 : w2.cell? ⟨d, 5, none⟩ = some (.pointer (some ⟨m, 0, none⟩)) := cell_of_row w2 d 5 _ _ _ x2.dev; have H2 : Hid (_) := And.intro g2 x2; clear hL h2 g2 x2)
    refine (ron_any _ _ _ _ _ H2.out.2.mem).mono ?_
    rintro e w3 ⟨rfl, o3, m3⟩
    have x3 := H2.out.2.memd (o3.more (by simp)) m3 (A' := False) (fun h => h.elim)
    have z5 : w3.cell? ⟨d, 5, none⟩ = some (.pointer (some ⟨m, 0, none⟩)) := cell_of_row w3 d 5 _ _ _ x3.dev
    have z6 : w3.cell? ⟨d, 6, none⟩ = some (.int .u32 (mx : Nat)) := cell_of_row w3 d 6 _ _ _ x3.dev
    have H3 : Hid (_) := And.intro (H2.out.1.trans (Gr.same (o3.more (by simp)) H2.out.2.memU)) x3
    clear H2 o3 m3 x3 c5
    go_wp2_with fail
    have H4 : Hid (_) := H3.out
    have y5 := z5
    have y6 := z6
    clear H3 z5 z6
    have hO := ropenAll d m g n mx P U2 _ _ _ _ (H4.out.2.newd (Off.drew [] w3)) MS (by rw [← HM.out.1]; unfold rsM; rw [if_neg (by omega)]; rfl) E HM.out.2.1 (by rw [HM.out.2.2.1]; exact H.out)
    go_region_with (go_at_call 60; refine hO.mono ?_; rintro e w5 ⟨p, rfl, h5⟩)
    all_goals
      obtain ⟨B5, g5, x5, c5, p5⟩ := h5.out
      have G5 := H4.out.1.trans (Gr.trans (Gr.same (Off.drew [] w3) (by simp)) g5)
      have y7 : w5.cell? ⟨d, 7, none⟩ = some B5.cp := cell_of_row w5 d 7 _ _ _ x5.dev
      have f7 := x5.fz 7
      have H5 : Hid (_) := And.intro G5 (And.intro x5 (And.intro c5 p5))
      have H2s : Hid (_) := Nat.le_trans H4.out.1.off.size (Nat.le_refl _)
      clear hO h5 g5 x5 c5 p5 G5 H4 y5 y6
      by_cases he : E = 0
      · have e0 : (E != 0) = false := by simp [he]
        obtain ⟨c, rfl, hc, hge, hlt, hC, hoff⟩ := H5.out.2.2.1 he
        have HE : Hid (_) := And.intro he (And.intro hc (And.intro hge (And.intro hlt (And.intro hC hoff))))
        clear he hc hge hlt hC hoff
        go_wp2_with fail
        go_ret
        obtain ⟨he, hc, hge, hlt, hC, hoff⟩ := HE.out
        obtain ⟨G5, x5, _, _⟩ := H5.out
        have hk6 : K6 = 1 := by rw [← HM.out.2.2.2, if_pos he]
        subst hk6
        have x6 := x5.celd (A' := (1 : Nat) ≠ 6) (cp := .pointer (some ⟨c, 0, none⟩)) hc hlt (Off.setCell d 7 w5 (.pointer (some ⟨c, 0, none⟩))) (heap_setCell_same _ _ _ _ _ _ x5.dev) (fun _ => ⟨rfl, hC, hoff⟩)
        refine ⟨by rw [he]; rfl, c :: U2, ⟨(G5.trans (Gr.same (Off.setCell d 7 w5 (.pointer (some ⟨c, 0, none⟩))) (by simp [x5.kd.2]))).off, fun j hj => ?_⟩, _, x6⟩
        simp at hj
        rcases hj with rfl | hj
        · exact .inr (Nat.le_trans H2s.out hge)
        · exact G5.new j hj
      · have e0 : (E != 0) = true := by simp [he]
        have hD := rlife_any d m g n mx P U2 _ _ _ 6 _ H5.out.2.1
        have H6 : Hid (_) := And.intro he H5.out.1
        clear he H5
        go_wp2_with (go_at_call 61; refine hD.mono ?_; rintro e w7 ⟨rfl, h7⟩)
        go_ret
        obtain ⟨U7, B7, g7, x7⟩ := h7.out
        have hk6 : K6 = 6 := by rw [← HM.out.2.2.2, if_neg H6.out.1]
        subst hk6
        exact ⟨rfl, U7, H6.out.2.trans g7, B7, { x7 with cel := fun hs => absurd rfl hs }⟩
end Go.Proofs.YtpgdghjlfdehjaaGreat
namespace Go.Proofs.YtpgdghjlfdehjaaGreat
set_option maxRecDepth 100000
open Go.RowKit
theorem RB.appd {w w1 w2 : World} {d m g n mx : Nat} {P : Pm} {U : List Nat} {s s' : Sd} {B : Bk2} {A A' : Prop} (h : RB w d m g n mx P U s B A) {v : Value} {bs : Nat → Nat} (hb : Below w.heap.size w w1) (ho : w1.ownsRow w.heap.size 5 1 v P.i (CB bs P.i)) (hy : ∀ i, i < P.i → bs i < 256) (o : Off [d] w1 w2)
    (e : w2.heap[d]? = some (.cells (RDC P m mx B.cp B.lv B.vv s' v) 133 (0, 0))) (h1 : s'.ms = s.ms) (h2 : s'.dc = s.dc) (h3 : s'.v = s.v) (h4 : s'.L = s.L) (h5 : s'.ap = bs) (h6 : A' → A) :
    ∃ U' B', Gr U w U' w2 ∧ RB w2 d m g n mx P U' s' B' A' := by
  have x1 := h.newd (Off.of_below (l := []) hb)
  have hd := h.dlt
  have hn : ∀ k, B.col k ≠ 0 → k ∉ [d] := fun k hk hm => by simp at hm; rw [hm, h.kd.1] at hk; exact hk rfl
  have hge : ∀ k, v.ownBlock = some k → w.heap.size ≤ k := fun k hk => Fr.ge (f := (P.i, bs)) ho k hk
  have hlt : ∀ k, v.ownBlock = some k → k < w1.heap.size := fun k hk => Fr.lt (f := (P.i, bs)) ho k hk
  have hq : ∀ k x, B.col k = x ∧ k ∈ U → (if k < w.heap.size then B.col k else 6) = x ∧ k ∈ v.ownBlock.toList ++ U := fun k x hk => ⟨by rw [if_pos (h.ltU k hk.2)]; exact hk.1, List.mem_append.2 (.inr hk.2)⟩
  refine ⟨v.ownBlock.toList ++ U, { B with av := v, col := fun k => if k < w.heap.size then B.col k else 6 }, ⟨(Off.of_below hb).trans (o.more (by simp [h.kd.2])), fun k hk => ?_⟩, ?_⟩
  · rcases List.mem_append.1 hk with hk | hk
    · exact .inr (hge k (by simpa using hk))
    · exact .inl hk
  · refine ⟨e, ?_, ?_, ?_, ?_, ?_, h5 ▸ hy, h3 ▸ h.vok, h2 ▸ h.dcl, ?_, hq _ _ h.kd, hq _ _ h.km, hq _ _ h.kg, hq _ _ h.kc, fun k hk => hq _ _ (h.kM k hk), fun k hk => hq _ _ (h.kl k hk), ?_, h.pok, h.n10, h.mx0, h.mxl, fun e => h.nl (by rw [← h4]; exact e)⟩
    · rw [h1]; exact x1.mem.off o (hn _ (by rw [h.km.1]; omega)) (hn _ (by rw [h.kg.1]; omega))
    · intro hs
      obtain ⟨c1, c2, c3⟩ := x1.cel (h6 hs)
      rw [h1]
      exact ⟨c1, c2.off o (hn _ (by rw [h.kc.1]; omega)), c3⟩
    · rw [h3]; exact x1.val.off o (fun k hk hM => by simp at hk; subst hk; have := (h.kM _ hM).1; rw [h.kd.1] at this; omega)
    · rw [h4]; exact own_offk x1.log o (fun k hk => hn _ (by rw [(h.kl k hk).1]; omega))
    · rw [h5]; exact own_offk (own_base ho (Nat.zero_le _)) o (fun k hk => by have := hge k hk; simp; omega)
    · intro k hk
      rcases List.mem_append.1 hk with hk | hk
      · exact Nat.lt_of_lt_of_le (hlt k (by simpa using hk)) o.size
      · exact Nat.lt_of_lt_of_le (x1.ltU k hk) o.size
    · intro k hk
      have := hge k hk
      exact ⟨by show (if k < w.heap.size then _ else 6) = 6; rw [if_neg (by omega)], List.mem_append.2 (.inl (by simpa using hk))⟩
set_option maxHeartbeats 1600000 in
theorem rvwrite_any (d m g n mx : Nat) (P : Pm) (U : List Nat) (s : Sd) (a : Option Addr) (len cap : Nat) (bs : Nat → Nat) (o : Bool) (w : World) (h : RW w d m g n mx P U s) (hr : Row8 w a len cap bs) :
    Calls Tryz.prog 27 #[.pointer (some ⟨d, 0, none⟩), .slice a len cap, .bool o] w fun e w' => e = .returned (.int .i64 (dwriteE P s len)) ∧ Hid (∃ U', Gr U w U' w' ∧ RW w' d m g n mx P U' (dwriteS P s len bs o)) := by
  obtain ⟨B, x⟩ := id h
  have c18 : w.cell? ⟨d, 18, none⟩ = some (.int .i64 (s.st : Nat)) := cell_of_row w d 18 _ _ _ x.dev
  have c2 : w.cell? ⟨d, 2, none⟩ = some (.int .i64 (P.i : Nat)) := cell_of_row w d 2 _ _ _ x.dev
  unfold dwriteE dwriteS
  by_cases h6 : s.st = 6
  · rw [if_pos h6, if_pos h6]
    rw [h6] at c18
    have H : Hid (_) := h
    clear h x c2 h6 hr
    go_enter Tryz.func27, Tryz.ntmps27
    go_wp2_with fail
    go_ret
    exact ⟨rfl, U, Gr.refl _ _, H.out⟩
  · rw [if_neg h6, if_neg h6]
    have e6 : ((s.st : Int) == 6) = false := by simp; omega
    by_cases hl : len = P.i
    · subst hl
      rw [if_pos rfl, if_pos rfl]
      obtain ⟨i0, hi, hz0, hz1, hz2⟩ := info_parts info_u8
      have hbd := build0D
      have hbelA : Below w.heap.size w (w.alloc (.cells #[] 5)) := (Below.refl _ _).alloc (Nat.le_refl _) _
      have R0 := hr.below hbelA
      have O0 := own0D w.heap.size bs w (Nat.le_refl _)
      have hszA := hbelA.size
      have hi8 := x.pok.i8
      have hdl := x.dlt
      have HX : Hid (_) := And.intro x hr.byte
      clear h x h6 hr
      go_enter Tryz.func27, Tryz.ntmps27
      go_wp2_with (at_builtin; refine wpList_append_row8 rfl (.tmp 21) (.tmp 22) 42 rfl w.heap.size 5 i0 (.int .u8 0) Tryz.underlying42 hi hz0 hz1 hz2 rfl _ 0 _ rfl O0 a P.i cap bs rfl R0 (by unfold maxLen; omega) (by omega) hszA ?_)
      intro v2 w2 hown2 hgrow2
      have hbel2 : Below w.heap.size w w2 := hbelA.grown hgrow2 hszA (fun k hk => (O0.lt k hk).1)
      rw [show CB bs 0 = [] from rfl, List.nil_append] at hown2
      have hown3 : w2.ownsRow w.heap.size 5 1 v2 P.i (CB bs P.i) := by simpa using hown2
      obtain ⟨a2, k2, rfl, _⟩ := own_row8 hown3 HX.out.2
      have x2 := HX.out.1.newd (Off.of_below hbel2)
      have y23 : w2.cell? ⟨d, 23, none⟩ = some B.av := cell_of_row w2 d 23 _ _ _ x2.dev
      have y24 : w2.cell? ⟨d, 24, none⟩ = some (.bool s.hd) := cell_of_row w2 d 24 _ _ _ x2.dev
      have f23 := x2.fz 23
      have f24 := x2.fz 24
      have H2 : Hid (_) := And.intro hown3 (And.intro hbel2 x2)
      clear hown2 hown3 hbel2 hgrow2 O0 R0 hbelA hszA x2 c2 c18
      go_wp2_with fail
      go_ret
      obtain ⟨h1, h2, x2⟩ := H2.out
      have e1 : (w2.setCell ⟨d, 23, none⟩ (.slice a2 P.i k2)).heap[d]? = some (.cells (RDC P m mx B.cp B.lv B.vv s (.slice a2 P.i k2)) 133 (0, 0)) := heap_setCell_same _ _ _ _ _ _ x2.dev
      have e2 : ((w2.setCell ⟨d, 23, none⟩ (.slice a2 P.i k2)).setCell ⟨d, 24, none⟩ (.bool o)).heap[d]? = some (.cells (RDC P m mx B.cp B.lv B.vv { s with ap := bs, hd := o } (.slice a2 P.i k2)) 133 (0, 0)) := heap_setCell_same _ _ _ _ _ _ e1
      obtain ⟨U3, B3, g3, x3⟩ := HX.out.1.appd (s' := { s with ap := bs, hd := o }) (A' := s.st ≠ 6) h2 h1 HX.out.2 ((Off.setCell d 23 w2 (.slice a2 P.i k2)).trans (Off.setCell d 24 _ (.bool o))) e2 rfl rfl rfl rfl rfl id
      exact ⟨rfl, U3, g3, B3, x3⟩
    · rw [if_neg hl, if_neg hl]
      have el : ((len : Int) != (P.i : Int)) = true := by simp; omega
      have H : Hid (_) := h
      clear h x h6 hr hl
      go_enter Tryz.func27, Tryz.ntmps27
      go_wp2_with fail
      go_ret
      exact ⟨rfl, U, Gr.refl _ _, H.out⟩
end Go.Proofs.YtpgdghjlfdehjaaGreat
namespace Go.Proofs.YtpgdghjlfdehjaaGreat
set_option maxRecDepth 100000
open Go.RowKit
theorem lifeZ {w : World} {d m mx : Nat} {P : Pm} {cp : Value} (h : w.heap[d]? = some (.cells #[.int .u32 (P.c : Nat), .int .i64 (P.o : Nat), .int .i64 (P.i : Nat), .int .i64 (P.t : Nat), .int .u32 (P.n : Nat), .pointer (some ⟨m, 0, none⟩), .int .u32 (mx : Nat), cp, .slice none 0 0, .int .i64 0, .int .i64 0, .int .i64 0, .bool false, .bool false, .bool false, .int .i64 0, .slice none 0 0, .bool false, .int .i64 0, .int .u32 0, .int .u32 0, .int .u32 0, .int .i64 0, .slice none 0 0, .bool false] 133 (0, 0))) :
    ((((((((((((((w.setCell ⟨d, 9, none⟩ (.int .i64 (P.t : Nat))).setCell ⟨d, 10, none⟩ (.int .i64 0)).setCell ⟨d, 11, none⟩ (.int .i64 (P.o : Nat))).setCell ⟨d, 12, none⟩ (.bool false)).setCell ⟨d, 13, none⟩ (.bool false)).setCell ⟨d, 14, none⟩ (.bool false)).setCell ⟨d, 15, none⟩ (.int .i64 0)).setCell ⟨d, 16, none⟩ (.slice none 0 0)).setCell ⟨d, 17, none⟩ (.bool false)).setCell ⟨d, 18, none⟩ (.int .i64 1)).setCell ⟨d, 19, none⟩ (.int .u32 0)).setCell ⟨d, 20, none⟩ (.int .u32 0)).setCell ⟨d, 21, none⟩ (.int .u32 0)).setCell ⟨d, 22, none⟩ (.int .i64 0)).heap[d]? = some (.cells #[.int .u32 (P.c : Nat), .int .i64 (P.o : Nat), .int .i64 (P.i : Nat), .int .i64 (P.t : Nat), .int .u32 (P.n : Nat), .pointer (some ⟨m, 0, none⟩), .int .u32 (mx : Nat), cp, .slice none 0 0, .int .i64 (P.t : Nat), .int .i64 0, .int .i64 (P.o : Nat), .bool false, .bool false, .bool false, .int .i64 0, .slice none 0 0, .bool false, .int .i64 1, .int .u32 0, .int .u32 0, .int .u32 0, .int .i64 0, .slice none 0 0, .bool false] 133 (0, 0)) ∧ Off [d] w ((((((((((((((w.setCell ⟨d, 9, none⟩ (.int .i64 (P.t : Nat))).setCell ⟨d, 10, none⟩ (.int .i64 0)).setCell ⟨d, 11, none⟩ (.int .i64 (P.o : Nat))).setCell ⟨d, 12, none⟩ (.bool false)).setCell ⟨d, 13, none⟩ (.bool false)).setCell ⟨d, 14, none⟩ (.bool false)).setCell ⟨d, 15, none⟩ (.int .i64 0)).setCell ⟨d, 16, none⟩ (.slice none 0 0)).setCell ⟨d, 17, none⟩ (.bool false)).setCell ⟨d, 18, none⟩ (.int .i64 1)).setCell ⟨d, 19, none⟩ (.int .u32 0)).setCell ⟨d, 20, none⟩ (.int .u32 0)).setCell ⟨d, 21, none⟩ (.int .u32 0)).setCell ⟨d, 22, none⟩ (.int .i64 0)) := by
  have e0 : (w.setCell ⟨d, 9, none⟩ (.int .i64 (P.t : Nat))).heap[d]? = some (.cells #[.int .u32 (P.c : Nat), .int .i64 (P.o : Nat), .int .i64 (P.i : Nat), .int .i64 (P.t : Nat), .int .u32 (P.n : Nat), .pointer (some ⟨m, 0, none⟩), .int .u32 (mx : Nat), cp, .slice none 0 0, .int .i64 (P.t : Nat), .int .i64 0, .int .i64 0, .bool false, .bool false, .bool false, .int .i64 0, .slice none 0 0, .bool false, .int .i64 0, .int .u32 0, .int .u32 0, .int .u32 0, .int .i64 0, .slice none 0 0, .bool false] 133 (0, 0)) := heap_setCell_same _ _ _ _ _ _ h
  have e1 : ((w.setCell ⟨d, 9, none⟩ (.int .i64 (P.t : Nat))).setCell ⟨d, 10, none⟩ (.int .i64 0)).heap[d]? = some (.cells #[.int .u32 (P.c : Nat), .int .i64 (P.o : Nat), .int .i64 (P.i : Nat), .int .i64 (P.t : Nat), .int .u32 (P.n : Nat), .pointer (some ⟨m, 0, none⟩), .int .u32 (mx : Nat), cp, .slice none 0 0, .int .i64 (P.t : Nat), .int .i64 0, .int .i64 0, .bool false, .bool false, .bool false, .int .i64 0, .slice none 0 0, .bool false, .int .i64 0, .int .u32 0, .int .u32 0, .int .u32 0, .int .i64 0, .slice none 0 0, .bool false] 133 (0, 0)) := heap_setCell_same _ _ _ _ _ _ e0
  have e2 : (((w.setCell ⟨d, 9, none⟩ (.int .i64 (P.t : Nat))).setCell ⟨d, 10, none⟩ (.int .i64 0)).setCell ⟨d, 11, none⟩ (.int .i64 (P.o : Nat))).heap[d]? = some (.cells #[.int .u32 (P.c : Nat), .int .i64 (P.o : Nat), .int .i64 (P.i : Nat), .int .i64 (P.t : Nat), .int .u32 (P.n : Nat), .pointer (some ⟨m, 0, none⟩), .int .u32 (mx : Nat), cp, .slice none 0 0, .int .i64 (P.t : Nat), .int .i64 0, .int .i64 (P.o : Nat), .bool false, .bool false, .bool false, .int .i64 0, .slice none 0 0, .bool false, .int .i64 0, .int .u32 0, .int .u32 0, .int .u32 0, .int .i64 0, .slice none 0 0, .bool false] 133 (0, 0)) := heap_setCell_same _ _ _ _ _ _ e1
  have e3 : ((((w.setCell ⟨d, 9, none⟩ (.int .i64 (P.t : Nat))).setCell ⟨d, 10, none⟩ (.int .i64 0)).setCell ⟨d, 11, none⟩ (.int .i64 (P.o : Nat))).setCell ⟨d, 12, none⟩ (.bool false)).heap[d]? = some (.cells #[.int .u32 (P.c : Nat), .int .i64 (P.o : Nat), .int .i64 (P.i : Nat), .int .i64 (P.t : Nat), .int .u32 (P.n : Nat), .pointer (some ⟨m, 0, none⟩), .int .u32 (mx : Nat), cp, .slice none 0 0, .int .i64 (P.t : Nat), .int .i64 0, .int .i64 (P.o : Nat), .bool false, .bool false, .bool false, .int .i64 0, .slice none 0 0, .bool false, .int .i64 0, .int .u32 0, .int .u32 0, .int .u32 0, .int .i64 0, .slice none 0 0, .bool false] 133 (0, 0)) := heap_setCell_same _ _ _ _ _ _ e2
  have e4 : (((((w.setCell ⟨d, 9, none⟩ (.int .i64 (P.t : Nat))).setCell ⟨d, 10, none⟩ (.int .i64 0)).setCell ⟨d, 11, none⟩ (.int .i64 (P.o : Nat))).setCell ⟨d, 12, none⟩ (.bool false)).setCell ⟨d, 13, none⟩ (.bool false)).heap[d]? = some (.cells #[.int .u32 (P.c : Nat), .int .i64 (P.o : Nat), .int .i64 (P.i : Nat), .int .i64 (P.t : Nat), .int .u32 (P.n : Nat), .pointer (some ⟨m, 0, none⟩), .int .u32 (mx : Nat), cp, .slice none 0 0, .int .i64 (P.t : Nat), .int .i64 0, .int .i64 (P.o : Nat), .bool false, .bool false, .bool false, .int .i64 0, .slice none 0 0, .bool false, .int .i64 0, .int .u32 0, .int .u32 0, .int .u32 0, .int .i64 0, .slice none 0 0, .bool false] 133 (0, 0)) := heap_setCell_same _ _ _ _ _ _ e3
  have e5 : ((((((w.setCell ⟨d, 9, none⟩ (.int .i64 (P.t : Nat))).setCell ⟨d, 10, none⟩ (.int .i64 0)).setCell ⟨d, 11, none⟩ (.int .i64 (P.o : Nat))).setCell ⟨d, 12, none⟩ (.bool false)).setCell ⟨d, 13, none⟩ (.bool false)).setCell ⟨d, 14, none⟩ (.bool false)).heap[d]? = some (.cells #[.int .u32 (P.c : Nat), .int .i64 (P.o : Nat), .int .i64 (P.i : Nat), .int .i64 (P.t : Nat), .int .u32 (P.n : Nat), .pointer (some ⟨m, 0, none⟩), .int .u32 (mx : Nat), cp, .slice none 0 0, .int .i64 (P.t : Nat), .int .i64 0, .int .i64 (P.o : Nat), .bool false, .bool false, .bool false, .int .i64 0, .slice none 0 0, .bool false, .int .i64 0, .int .u32 0, .int .u32 0, .int .u32 0, .int .i64 0, .slice none 0 0, .bool false] 133 (0, 0)) := heap_setCell_same _ _ _ _ _ _ e4
  have e6 : (((((((w.setCell ⟨d, 9, none⟩ (.int .i64 (P.t : Nat))).setCell ⟨d, 10, none⟩ (.int .i64 0)).setCell ⟨d, 11, none⟩ (.int .i64 (P.o : Nat))).setCell ⟨d, 12, none⟩ (.bool false)).setCell ⟨d, 13, none⟩ (.bool false)).setCell ⟨d, 14, none⟩ (.bool false)).setCell ⟨d, 15, none⟩ (.int .i64 0)).heap[d]? = some (.cells #[.int .u32 (P.c : Nat), .int .i64 (P.o : Nat), .int .i64 (P.i : Nat), .int .i64 (P.t : Nat), .int .u32 (P.n : Nat), .pointer (some ⟨m, 0, none⟩), .int .u32 (mx : Nat), cp, .slice none 0 0, .int .i64 (P.t : Nat), .int .i64 0, .int .i64 (P.o : Nat), .bool false, .bool false, .bool false, .int .i64 0, .slice none 0 0, .bool false, .int .i64 0, .int .u32 0, .int .u32 0, .int .u32 0, .int .i64 0, .slice none 0 0, .bool false] 133 (0, 0)) := heap_setCell_same _ _ _ _ _ _ e5
  have e7 : ((((((((w.setCell ⟨d, 9, none⟩ (.int .i64 (P.t : Nat))).setCell ⟨d, 10, none⟩ (.int .i64 0)).setCell ⟨d, 11, none⟩ (.int .i64 (P.o : Nat))).setCell ⟨d, 12, none⟩ (.bool false)).setCell ⟨d, 13, none⟩ (.bool false)).setCell ⟨d, 14, none⟩ (.bool false)).setCell ⟨d, 15, none⟩ (.int .i64 0)).setCell ⟨d, 16, none⟩ (.slice none 0 0)).heap[d]? = some (.cells #[.int .u32 (P.c : Nat), .int .i64 (P.o : Nat), .int .i64 (P.i : Nat), .int .i64 (P.t : Nat), .int .u32 (P.n : Nat), .pointer (some ⟨m, 0, none⟩), .int .u32 (mx : Nat), cp, .slice none 0 0, .int .i64 (P.t : Nat), .int .i64 0, .int .i64 (P.o : Nat), .bool false, .bool false, .bool false, .int .i64 0, .slice none 0 0, .bool false, .int .i64 0, .int .u32 0, .int .u32 0, .int .u32 0, .int .i64 0, .slice none 0 0, .bool false] 133 (0, 0)) := heap_setCell_same _ _ _ _ _ _ e6
  have e8 : (((((((((w.setCell ⟨d, 9, none⟩ (.int .i64 (P.t : Nat))).setCell ⟨d, 10, none⟩ (.int .i64 0)).setCell ⟨d, 11, none⟩ (.int .i64 (P.o : Nat))).setCell ⟨d, 12, none⟩ (.bool false)).setCell ⟨d, 13, none⟩ (.bool false)).setCell ⟨d, 14, none⟩ (.bool false)).setCell ⟨d, 15, none⟩ (.int .i64 0)).setCell ⟨d, 16, none⟩ (.slice none 0 0)).setCell ⟨d, 17, none⟩ (.bool false)).heap[d]? = some (.cells #[.int .u32 (P.c : Nat), .int .i64 (P.o : Nat), .int .i64 (P.i : Nat), .int .i64 (P.t : Nat), .int .u32 (P.n : Nat), .pointer (some ⟨m, 0, none⟩), .int .u32 (mx : Nat), cp, .slice none 0 0, .int .i64 (P.t : Nat), .int .i64 0, .int .i64 (P.o : Nat), .bool false, .bool false, .bool false, .int .i64 0, .slice none 0 0, .bool false, .int .i64 0, .int .u32 0, .int .u32 0, .int .u32 0, .int .i64 0, .slice none 0 0, .bool false] 133 (0, 0)) := heap_setCell_same _ _ _ _ _ _ e7
  have e9 : ((((((((((w.setCell ⟨d, 9, none⟩ (.int .i64 (P.t : Nat))).setCell ⟨d, 10, none⟩ (.int .i64 0)).setCell ⟨d, 11, none⟩ (.int .i64 (P.o : Nat))).setCell ⟨d, 12, none⟩ (.bool false)).setCell ⟨d, 13, none⟩ (.bool false)).setCell ⟨d, 14, none⟩ (.bool false)).setCell ⟨d, 15, none⟩ (.int .i64 0)).setCell ⟨d, 16, none⟩ (.slice none 0 0)).setCell ⟨d, 17, none⟩ (.bool false)).setCell ⟨d, 18, none⟩ (.int .i64 1)).heap[d]? = some (.cells #[.int .u32 (P.c : Nat), .int .i64 (P.o : Nat), .int .i64 (P.i : Nat), .int .i64 (P.t : Nat), .int .u32 (P.n : Nat), .pointer (some ⟨m, 0, none⟩), .int .u32 (mx : Nat), cp, .slice none 0 0, .int .i64 (P.t : Nat), .int .i64 0, .int .i64 (P.o : Nat), .bool false, .bool false, .bool false, .int .i64 0, .slice none 0 0, .bool false, .int .i64 1, .int .u32 0, .int .u32 0, .int .u32 0, .int .i64 0, .slice none 0 0, .bool false] 133 (0, 0)) := heap_setCell_same _ _ _ _ _ _ e8
  have e10 : (((((((((((w.setCell ⟨d, 9, none⟩ (.int .i64 (P.t : Nat))).setCell ⟨d, 10, none⟩ (.int .i64 0)).setCell ⟨d, 11, none⟩ (.int .i64 (P.o : Nat))).setCell ⟨d, 12, none⟩ (.bool false)).setCell ⟨d, 13, none⟩ (.bool false)).setCell ⟨d, 14, none⟩ (.bool false)).setCell ⟨d, 15, none⟩ (.int .i64 0)).setCell ⟨d, 16, none⟩ (.slice none 0 0)).setCell ⟨d, 17, none⟩ (.bool false)).setCell ⟨d, 18, none⟩ (.int .i64 1)).setCell ⟨d, 19, none⟩ (.int .u32 0)).heap[d]? = some (.cells #[.int .u32 (P.c : Nat), .int .i64 (P.o : Nat), .int .i64 (P.i : Nat), .int .i64 (P.t : Nat), .int .u32 (P.n : Nat), .pointer (some ⟨m, 0, none⟩), .int .u32 (mx : Nat), cp, .slice none 0 0, .int .i64 (P.t : Nat), .int .i64 0, .int .i64 (P.o : Nat), .bool false, .bool false, .bool false, .int .i64 0, .slice none 0 0, .bool false, .int .i64 1, .int .u32 0, .int .u32 0, .int .u32 0, .int .i64 0, .slice none 0 0, .bool false] 133 (0, 0)) := heap_setCell_same _ _ _ _ _ _ e9
  have e11 : ((((((((((((w.setCell ⟨d, 9, none⟩ (.int .i64 (P.t : Nat))).setCell ⟨d, 10, none⟩ (.int .i64 0)).setCell ⟨d, 11, none⟩ (.int .i64 (P.o : Nat))).setCell ⟨d, 12, none⟩ (.bool false)).setCell ⟨d, 13, none⟩ (.bool false)).setCell ⟨d, 14, none⟩ (.bool false)).setCell ⟨d, 15, none⟩ (.int .i64 0)).setCell ⟨d, 16, none⟩ (.slice none 0 0)).setCell ⟨d, 17, none⟩ (.bool false)).setCell ⟨d, 18, none⟩ (.int .i64 1)).setCell ⟨d, 19, none⟩ (.int .u32 0)).setCell ⟨d, 20, none⟩ (.int .u32 0)).heap[d]? = some (.cells #[.int .u32 (P.c : Nat), .int .i64 (P.o : Nat), .int .i64 (P.i : Nat), .int .i64 (P.t : Nat), .int .u32 (P.n : Nat), .pointer (some ⟨m, 0, none⟩), .int .u32 (mx : Nat), cp, .slice none 0 0, .int .i64 (P.t : Nat), .int .i64 0, .int .i64 (P.o : Nat), .bool false, .bool false, .bool false, .int .i64 0, .slice none 0 0, .bool false, .int .i64 1, .int .u32 0, .int .u32 0, .int .u32 0, .int .i64 0, .slice none 0 0, .bool false] 133 (0, 0)) := heap_setCell_same _ _ _ _ _ _ e10
  have e12 : (((((((((((((w.setCell ⟨d, 9, none⟩ (.int .i64 (P.t : Nat))).setCell ⟨d, 10, none⟩ (.int .i64 0)).setCell ⟨d, 11, none⟩ (.int .i64 (P.o : Nat))).setCell ⟨d, 12, none⟩ (.bool false)).setCell ⟨d, 13, none⟩ (.bool false)).setCell ⟨d, 14, none⟩ (.bool false)).setCell ⟨d, 15, none⟩ (.int .i64 0)).setCell ⟨d, 16, none⟩ (.slice none 0 0)).setCell ⟨d, 17, none⟩ (.bool false)).setCell ⟨d, 18, none⟩ (.int .i64 1)).setCell ⟨d, 19, none⟩ (.int .u32 0)).setCell ⟨d, 20, none⟩ (.int .u32 0)).setCell ⟨d, 21, none⟩ (.int .u32 0)).heap[d]? = some (.cells #[.int .u32 (P.c : Nat), .int .i64 (P.o : Nat), .int .i64 (P.i : Nat), .int .i64 (P.t : Nat), .int .u32 (P.n : Nat), .pointer (some ⟨m, 0, none⟩), .int .u32 (mx : Nat), cp, .slice none 0 0, .int .i64 (P.t : Nat), .int .i64 0, .int .i64 (P.o : Nat), .bool false, .bool false, .bool false, .int .i64 0, .slice none 0 0, .bool false, .int .i64 1, .int .u32 0, .int .u32 0, .int .u32 0, .int .i64 0, .slice none 0 0, .bool false] 133 (0, 0)) := heap_setCell_same _ _ _ _ _ _ e11
  have e13 : ((((((((((((((w.setCell ⟨d, 9, none⟩ (.int .i64 (P.t : Nat))).setCell ⟨d, 10, none⟩ (.int .i64 0)).setCell ⟨d, 11, none⟩ (.int .i64 (P.o : Nat))).setCell ⟨d, 12, none⟩ (.bool false)).setCell ⟨d, 13, none⟩ (.bool false)).setCell ⟨d, 14, none⟩ (.bool false)).setCell ⟨d, 15, none⟩ (.int .i64 0)).setCell ⟨d, 16, none⟩ (.slice none 0 0)).setCell ⟨d, 17, none⟩ (.bool false)).setCell ⟨d, 18, none⟩ (.int .i64 1)).setCell ⟨d, 19, none⟩ (.int .u32 0)).setCell ⟨d, 20, none⟩ (.int .u32 0)).setCell ⟨d, 21, none⟩ (.int .u32 0)).setCell ⟨d, 22, none⟩ (.int .i64 0)).heap[d]? = some (.cells #[.int .u32 (P.c : Nat), .int .i64 (P.o : Nat), .int .i64 (P.i : Nat), .int .i64 (P.t : Nat), .int .u32 (P.n : Nat), .pointer (some ⟨m, 0, none⟩), .int .u32 (mx : Nat), cp, .slice none 0 0, .int .i64 (P.t : Nat), .int .i64 0, .int .i64 (P.o : Nat), .bool false, .bool false, .bool false, .int .i64 0, .slice none 0 0, .bool false, .int .i64 1, .int .u32 0, .int .u32 0, .int .u32 0, .int .i64 0, .slice none 0 0, .bool false] 133 (0, 0)) := heap_setCell_same _ _ _ _ _ _ e12
  exact ⟨e13, ((((((((((((((Off.setCell d 9 w (.int .i64 (P.t : Nat))).trans (Off.setCell d 10 _ (.int .i64 0))).trans (Off.setCell d 11 _ (.int .i64 (P.o : Nat)))).trans (Off.setCell d 12 _ (.bool false))).trans (Off.setCell d 13 _ (.bool false))).trans (Off.setCell d 14 _ (.bool false))).trans (Off.setCell d 15 _ (.int .i64 0))).trans (Off.setCell d 16 _ (.slice none 0 0))).trans (Off.setCell d 17 _ (.bool false))).trans (Off.setCell d 18 _ (.int .i64 1))).trans (Off.setCell d 19 _ (.int .u32 0))).trans (Off.setCell d 20 _ (.int .u32 0))).trans (Off.setCell d 21 _ (.int .u32 0))).trans (Off.setCell d 22 _ (.int .i64 0)))⟩
set_option maxHeartbeats 6400000 in
theorem rlife_first (d m mx : Nat) (P : Pm) (cp : Value) (ms : Ms) (w : World) (h : w.heap[d]? = some (.cells #[.int .u32 (P.c : Nat), .int .i64 (P.o : Nat), .int .i64 (P.i : Nat), .int .i64 (P.t : Nat), .int .u32 (P.n : Nat), .pointer (some ⟨m, 0, none⟩), .int .u32 (mx : Nat), cp, .slice none 0 0, .int .i64 0, .int .i64 0, .int .i64 0, .bool false, .bool false, .bool false, .int .i64 0, .slice none 0 0, .bool false, .int .i64 0, .int .u32 0, .int .u32 0, .int .u32 0, .int .i64 0, .slice none 0 0, .bool false] 133 (0, 0))) (hi8 : P.i ≤ 8) :
    Calls Tryz.prog 61 #[.pointer (some ⟨d, 0, none⟩), .int .i64 1] w fun e w' => e = .returned (.tuple #[]) ∧ Hid (Off [d] w w' ∧ ∃ ga, w.heap.size ≤ ga ∧ ga < w'.heap.size ∧ w'.heap[d]? = some (.cells (RDC P m mx cp (.slice none 0 0) (.slice none 0 0) (dnew ms) (.slice (some ⟨ga, 0, none⟩) P.i P.i)) 133 (0, 0)) ∧ w'.ownsRow 0 5 1 (.slice (some ⟨ga, 0, none⟩) P.i P.i) P.i (CB (fun _ => 0) P.i)) := by
  obtain ⟨i0, hi, hz0, hz1, hz2⟩ := info_parts info_u8
  have hdl : d < w.heap.size := (Array.getElem?_eq_some_iff.1 h).1
  have c1 : w.cell? ⟨d, 1, none⟩ = some (.int .i64 (P.o : Nat)) := cell_of_row w d 1 _ _ _ h
  have c2 : w.cell? ⟨d, 2, none⟩ = some (.int .i64 (P.i : Nat)) := cell_of_row w d 2 _ _ _ h
  have c3 : w.cell? ⟨d, 3, none⟩ = some (.int .i64 (P.t : Nat)) := cell_of_row w d 3 _ _ _ h
  have c9 : w.cell? ⟨d, 9, none⟩ = some (.int .i64 0) := cell_of_row w d 9 _ _ _ h
  have z9 := frozen_of_row w d 9 _ _ h
  have c10 : w.cell? ⟨d, 10, none⟩ = some (.int .i64 0) := cell_of_row w d 10 _ _ _ h
  have z10 := frozen_of_row w d 10 _ _ h
  have c11 : w.cell? ⟨d, 11, none⟩ = some (.int .i64 0) := cell_of_row w d 11 _ _ _ h
  have z11 := frozen_of_row w d 11 _ _ h
  have c12 : w.cell? ⟨d, 12, none⟩ = some (.bool false) := cell_of_row w d 12 _ _ _ h
  have z12 := frozen_of_row w d 12 _ _ h
  have c13 : w.cell? ⟨d, 13, none⟩ = some (.bool false) := cell_of_row w d 13 _ _ _ h
  have z13 := frozen_of_row w d 13 _ _ h
  have c14 : w.cell? ⟨d, 14, none⟩ = some (.bool false) := cell_of_row w d 14 _ _ _ h
  have z14 := frozen_of_row w d 14 _ _ h
  have c15 : w.cell? ⟨d, 15, none⟩ = some (.int .i64 0) := cell_of_row w d 15 _ _ _ h
  have z15 := frozen_of_row w d 15 _ _ h
  have c16 : w.cell? ⟨d, 16, none⟩ = some (.slice none 0 0) := cell_of_row w d 16 _ _ _ h
  have z16 := frozen_of_row w d 16 _ _ h
  have c17 : w.cell? ⟨d, 17, none⟩ = some (.bool false) := cell_of_row w d 17 _ _ _ h
  have z17 := frozen_of_row w d 17 _ _ h
  have c18 : w.cell? ⟨d, 18, none⟩ = some (.int .i64 0) := cell_of_row w d 18 _ _ _ h
  have z18 := frozen_of_row w d 18 _ _ h
  have c19 : w.cell? ⟨d, 19, none⟩ = some (.int .u32 0) := cell_of_row w d 19 _ _ _ h
  have z19 := frozen_of_row w d 19 _ _ h
  have c20 : w.cell? ⟨d, 20, none⟩ = some (.int .u32 0) := cell_of_row w d 20 _ _ _ h
  have z20 := frozen_of_row w d 20 _ _ h
  have c21 : w.cell? ⟨d, 21, none⟩ = some (.int .u32 0) := cell_of_row w d 21 _ _ _ h
  have z21 := frozen_of_row w d 21 _ _ h
  have c22 : w.cell? ⟨d, 22, none⟩ = some (.int .i64 0) := cell_of_row w d 22 _ _ _ h
  have z22 := frozen_of_row w d 22 _ _ h
  have l14 := lifeZ h
  have H : Hid (_) := And.intro hdl l14
  clear h l14 hdl
  go_enter Tryz.func61, Tryz.ntmps61
  go_upto_region 7 with fail
  generalize ((((((((((((((w.setCell ⟨d, 9, none⟩ (.int .i64 (P.t : Nat))).setCell ⟨d, 10, none⟩ (.int .i64 0)).setCell ⟨d, 11, none⟩ (.int .i64 (P.o : Nat))).setCell ⟨d, 12, none⟩ (.bool false)).setCell ⟨d, 13, none⟩ (.bool false)).setCell ⟨d, 14, none⟩ (.bool false)).setCell ⟨d, 15, none⟩ (.int .i64 0)).setCell ⟨d, 16, none⟩ (.slice none 0 0)).setCell ⟨d, 17, none⟩ (.bool false)).setCell ⟨d, 18, none⟩ (.int .i64 1)).setCell ⟨d, 19, none⟩ (.int .u32 0)).setCell ⟨d, 20, none⟩ (.int .u32 0)).setCell ⟨d, 21, none⟩ (.int .u32 0)).setCell ⟨d, 22, none⟩ (.int .i64 0)) = w1 at *
  have e1 := H.out.2.1
  have hd1 : d < w1.heap.size := Nat.lt_of_lt_of_le H.out.1 H.out.2.2.size
  have d2 : w1.cell? ⟨d, 2, none⟩ = some (.int .i64 (P.i : Nat)) := cell_of_row w1 d 2 _ _ _ e1
  have H1 : Hid (_) := And.intro e1 hd1
  clear e1 hd1 c1 c2 c3 c9 z9 c10 z10 c11 z11 c12 z12 c13 z13 c14 z14 c15 z15 c16 z16 c17 z17 c18 z18 c19 z19 c20 z20 c21 z21 c22 z22
  go_wp2_with (at_make; refine wpList_make8 _ rfl (.tmp 43) (.tmp 43) 42 rfl w1.heap.size 5 i0 Tryz.underlying42 hi hz0 hz1 hz2 _ _ _ _ P.i P.i rfl rfl rfl rfl (Nat.le_refl _) (by omega) (Nat.le_refl _) ?_)
  intro w2 hown2 hbel2
  have e2 := (hbel2.block d H1.out.2).trans H1.out.1
  have c23 : w2.cell? ⟨d, 23, none⟩ = some (.slice none 0 0) := cell_of_row w2 d 23 _ _ _ e2
  have c24 : w2.cell? ⟨d, 24, none⟩ = some (.bool false) := cell_of_row w2 d 24 _ _ _ e2
  have z23 := frozen_of_row w2 d 23 _ _ e2
  have z24 := frozen_of_row w2 d 24 _ _ e2
  have H2 : Hid (_) := And.intro hown2 (And.intro hbel2 e2)
  clear hown2 hbel2 e2 d2 H1
  go_wp2_with fail
  go_end0
  obtain ⟨hown2, hbel2, e2⟩ := H2.out
  have e3 : (w2.setCell ⟨d, 23, none⟩ (.slice (some ⟨w1.heap.size, 0, none⟩) P.i P.i)).heap[d]? = some (.cells #[.int .u32 (P.c : Nat), .int .i64 (P.o : Nat), .int .i64 (P.i : Nat), .int .i64 (P.t : Nat), .int .u32 (P.n : Nat), .pointer (some ⟨m, 0, none⟩), .int .u32 (mx : Nat), cp, .slice none 0 0, .int .i64 (P.t : Nat), .int .i64 0, .int .i64 (P.o : Nat), .bool false, .bool false, .bool false, .int .i64 0, .slice none 0 0, .bool false, .int .i64 1, .int .u32 0, .int .u32 0, .int .u32 0, .int .i64 0, .slice (some ⟨w1.heap.size, 0, none⟩) P.i P.i, .bool false] 133 (0, 0)) := heap_setCell_same _ _ _ _ _ _ e2
  have e4 : ((w2.setCell ⟨d, 23, none⟩ (.slice (some ⟨w1.heap.size, 0, none⟩) P.i P.i)).setCell ⟨d, 24, none⟩ (.bool false)).heap[d]? = some (.cells #[.int .u32 (P.c : Nat), .int .i64 (P.o : Nat), .int .i64 (P.i : Nat), .int .i64 (P.t : Nat), .int .u32 (P.n : Nat), .pointer (some ⟨m, 0, none⟩), .int .u32 (mx : Nat), cp, .slice none 0 0, .int .i64 (P.t : Nat), .int .i64 0, .int .i64 (P.o : Nat), .bool false, .bool false, .bool false, .int .i64 0, .slice none 0 0, .bool false, .int .i64 1, .int .u32 0, .int .u32 0, .int .u32 0, .int .i64 0, .slice (some ⟨w1.heap.size, 0, none⟩) P.i P.i, .bool false] 133 (0, 0)) := heap_setCell_same _ _ _ _ _ _ e3
  have o4 : Off [d] w2 ((w2.setCell ⟨d, 23, none⟩ (.slice (some ⟨w1.heap.size, 0, none⟩) P.i P.i)).setCell ⟨d, 24, none⟩ (.bool false)) := (Off.setCell d 23 w2 _).trans (Off.setCell d 24 _ (.bool false))
  have hga := own_far hown2 ⟨w1.heap.size, 0, none⟩ rfl
  have hs1 := H.out.2.2.size
  have hs4 := o4.size
  refine ⟨rfl, (H.out.2.2.trans (Off.of_below hbel2)).trans o4, w1.heap.size, hs1, by have := hga.2; simp only at this; omega, e4, own_offk (own_base hown2 (Nat.zero_le _)) o4 (fun k hk => ?_)⟩
  cases hk
  have := H.out.1
  simp; omega
set_option maxHeartbeats 1600000 in
theorem rnew_bad (c : Nat) (o i t : Int) (n : Nat) (p : Option Addr) (x : Int) (w : World) (hE : ¬ okP c o i t n) :
    Calls Tryz.prog 20 #[.agg #[.int .u32 c, .int .i64 o, .int .i64 i, .int .i64 t, .int .u32 n], .pointer p, .int .u32 x] w fun e w' => e = .returned (.tuple #[.pointer none, .int .i64 90]) ∧ Below w.heap.size w w' := by
  have hb : Below w.heap.size w (w.alloc (.cells #[.int .u32 c, .int .i64 o, .int .i64 i, .int .i64 t, .int .u32 n] 26)) := (Below.refl _ _).alloc (Nat.le_refl _) _
  have hC := rlaw_any c o i t n (w.alloc (.cells #[.int .u32 c, .int .i64 o, .int .i64 i, .int .i64 t, .int .u32 n] 26)) false (decide_eq_false hE)
  have HB : Hid (_) := hb
  clear hE hb
  go_enter Tryz.func20, Tryz.ntmps20
  go_wp2_with (go_at_call 46; refine hC.mono ?_; rintro e w2 ⟨rfl, b2⟩)
  go_ret2
  exact ⟨rfl, HB.out.trans (b2.mono HB.out.size)⟩
theorem ropened (mx n : Nat) (ms : Ms) (h : opE mx n ms = 0) : mx ≠ 0 ∧ 10 ≤ n := by
  unfold opE at h
  by_cases h1 : mx = 0 ∨ n < 10
  · rw [if_pos h1] at h; omega
  · omega
theorem RB.made {w : World} {d m g n mx c ga : Nat} {P : Pm} {ms : Ms} (hP : Pok P) (hn : 10 ≤ n) (hx0 : mx ≠ 0) (hx : mx < 4294967296) (hM : RR w m g n ms) (hC : RX w c m mx (vz ms.bs) false) (hoff : ms.off = false) (hm : m < c) (hg : g < c) (hc : c < d) (hd : d < ga) (hga : ga < w.heap.size)
    (hdev : w.heap[d]? = some (.cells (RDC P m mx (.pointer (some ⟨c, 0, none⟩)) (.slice none 0 0) (.slice none 0 0) (dnew ms) (.slice (some ⟨ga, 0, none⟩) P.i P.i)) 133 (0, 0))) (hown : w.ownsRow 0 5 1 (.slice (some ⟨ga, 0, none⟩) P.i P.i) P.i (CB (fun _ => 0) P.i)) :
    RW w d m g n mx P [d, m, g, c, ga] (dnew ms) := by
  refine ⟨⟨c, [], .pointer (some ⟨c, 0, none⟩), .slice none 0 0, .slice none 0 0, .slice (some ⟨ga, 0, none⟩) P.i P.i, fun k => if k = d then 0 else if k = m ∨ k = g then 1 else if k = c then 2 else 6⟩, hdev, hM, fun _ => ⟨rfl, hC, hoff⟩, .inl ⟨rfl, rfl⟩, World.ownsRow_nil w _ _ _, hown, fun i _ => (by show 0 < 256; omega), Vok.new, Nat.zero_le _, ?_, ?_, ?_, ?_, ?_, fun k hk => (by simp at hk), fun k hk => (by cases hk), ?_, hP, hn, hx0, hx, fun _ => rfl⟩
  · intro k hk
    simp at hk
    omega
  · exact ⟨if_pos rfl, by simp⟩
  · exact ⟨by dsimp only; rw [if_neg (by omega), if_pos (.inl rfl)], by simp⟩
  · exact ⟨by dsimp only; rw [if_neg (by omega), if_pos (.inr rfl)], by simp⟩
  · exact ⟨by dsimp only; rw [if_neg (by omega), if_neg (by omega), if_pos rfl], by simp⟩
  · intro k hk
    cases hk
    exact ⟨by dsimp only; rw [if_neg (by omega), if_neg (by omega), if_neg (by omega)], by simp⟩
set_option maxHeartbeats 6400000 in
theorem rnew_any (m g n mx : Nat) (P : Pm) (hP : Pok P) (ms : Ms) (w : World) (hM : RR w m g n ms) (hx : mx < 4294967296) (ht : ms.t < 9223372036854774000) :
    Calls Tryz.prog 20 #[.agg #[.int .u32 (P.c : Nat), .int .i64 (P.o : Nat), .int .i64 (P.i : Nat), .int .i64 (P.t : Nat), .int .u32 (P.n : Nat)], .pointer (some ⟨m, 0, none⟩), .int .u32 (mx : Nat)] w fun e w' => ∃ p, e = .returned (.tuple #[.pointer p, .int .i64 (opE mx n ms)]) ∧ Hid (Off [m, g] w w' ∧ RR w' m g n (opS mx n ms) ∧ (opE mx n ms = 0 → ∃ d U, p = some ⟨d, 0, none⟩ ∧ RW w' d m g n mx P U (dnew (opS mx n ms)) ∧ ∀ k, k ∈ U → k = m ∨ k = g ∨ w.heap.size ≤ k) ∧ (¬ opE mx n ms = 0 → p = none)) := by
  obtain ⟨E, hE⟩ : ∃ x, opE mx n ms = x := ⟨_, rfl⟩
  rw [hE]
  have hb : Below w.heap.size w (w.alloc (.cells #[.int .u32 (P.c : Nat), .int .i64 (P.o : Nat), .int .i64 (P.i : Nat), .int .i64 (P.t : Nat), .int .u32 (P.n : Nat)] 26)) := (Below.refl _ _).alloc (Nat.le_refl _) _
  have hx0 := heap_alloc_new w (.cells #[.int .u32 (P.c : Nat), .int .i64 (P.o : Nat), .int .i64 (P.i : Nat), .int .i64 (P.t : Nat), .int .u32 (P.n : Nat)] 26)
  have hs : w.heap.size < (w.alloc (.cells #[.int .u32 (P.c : Nat), .int .i64 (P.o : Nat), .int .i64 (P.i : Nat), .int .i64 (P.t : Nat), .int .u32 (P.n : Nat)] 26)).heap.size := by simp
  have hC := rlaw_any P.c P.o P.i P.t P.n (w.alloc (.cells #[.int .u32 (P.c : Nat), .int .i64 (P.o : Nat), .int .i64 (P.i : Nat), .int .i64 (P.t : Nat), .int .u32 (P.n : Nat)] 26)) true (decide_eq_true hP.ok)
  have hO : ∀ wx, RR wx m g n ms → Calls Tryz.prog 60 #[.pointer (some ⟨m, 0, none⟩), .int .u32 (mx : Nat)] wx fun e w' => ∃ p, e = .returned (.tuple #[.pointer p, .int .i64 E]) ∧ Hid (Off [m, g] wx w' ∧ RR w' m g n (opS mx n ms) ∧ (E = 0 → ∃ d, p = some ⟨d, 0, none⟩ ∧ wx.heap.size ≤ d ∧ RX w' d m mx (vz ms.bs) false) ∧ (¬ E = 0 → p = none)) := by
    intro wx hMx
    subst hE
    exact ropen m g n mx ms wx hMx ht
  have HO : Hid (_) := hO
  have HH : Hid (_) := And.intro hb (And.intro hs (And.intro hx0 (And.intro hM (And.intro hE (And.intro hP hx)))))
  clear hO hb hs hx0 hM hE hP hx ht
  go_enter Tryz.func20, Tryz.ntmps20
  go_wp2_with (go_at_call 46; refine hC.mono ?_; rintro e w1 ⟨rfl, b1⟩)
  obtain ⟨hb, hs, hx0, hM, _⟩ := HH.out
  have bb := hb.trans (b1.mono hb.size)
  refine (HO.out w1 (hM.off (Off.of_below (l := []) bb) (by simp) (by simp))).mono ?_
  rintro e w2 ⟨p, rfl, h2⟩
  have l1 := hM.lt
  have l2 := hM.lg
  have l3 := b1.size
  have e2 : w2.heap[w.heap.size]? = some (.cells #[.int .u32 (P.c : Nat), .int .i64 (P.o : Nat), .int .i64 (P.i : Nat), .int .i64 (P.t : Nat), .int .u32 (P.n : Nat)] 26 (0, 0)) := by
    rw [h2.out.1.block w.heap.size (by omega) (by simp; omega), b1.block _ (by omega)]
    exact hx0
  have H2 : Hid (_) := And.intro bb (And.intro h2.out (And.intro HH.out (And.intro (by omega : w.heap.size < w1.heap.size) (And.intro l1 l2))))
  by_cases he : E = 0
  · have e0 : (E != 0) = false := by simp [he]
    obtain ⟨c, rfl, hc, hC2⟩ := h2.out.2.2.1 he
    have HE : Hid (_) := And.intro he (And.intro hc hC2)
    have p0 : w2.cell? ⟨w.heap.size, 0, none⟩ = some (.int .u32 (P.c : Nat)) := cell_of_row w2 _ 0 _ _ _ e2
    have p1 : w2.cell? ⟨w.heap.size, 1, none⟩ = some (.int .i64 (P.o : Nat)) := cell_of_row w2 _ 1 _ _ _ e2
    have p2 : w2.cell? ⟨w.heap.size, 2, none⟩ = some (.int .i64 (P.i : Nat)) := cell_of_row w2 _ 2 _ _ _ e2
    have p3 : w2.cell? ⟨w.heap.size, 3, none⟩ = some (.int .i64 (P.t : Nat)) := cell_of_row w2 _ 3 _ _ _ e2
    have p4 : w2.cell? ⟨w.heap.size, 4, none⟩ = some (.int .u32 (P.n : Nat)) := cell_of_row w2 _ 4 _ _ _ e2
    have hF := rlife_first w2.heap.size m mx P (.pointer (some ⟨c, 0, none⟩)) (opS mx n ms) (w2.alloc (.cells #[.int .u32 (P.c : Nat), .int .i64 (P.o : Nat), .int .i64 (P.i : Nat), .int .i64 (P.t : Nat), .int .u32 (P.n : Nat), .pointer (some ⟨m, 0, none⟩), .int .u32 (mx : Nat), .pointer (some ⟨c, 0, none⟩), .slice none 0 0, .int .i64 0, .int .i64 0, .int .i64 0, .bool false, .bool false, .bool false, .int .i64 0, .slice none 0 0, .bool false, .int .i64 0, .int .u32 0, .int .u32 0, .int .u32 0, .int .i64 0, .slice none 0 0, .bool false] 133)) (heap_alloc_new w2 _) HH.out.2.2.2.2.2.1.i8
    clear hC b1 hb hs hx0 hM bb h2 e2 he hc hC2 HO l1 l2 l3
    go_wp2_with fail
    refine hF.mono ?_
    rintro e w3 ⟨rfl, h3⟩
    clear hF p0 p1 p2 p3 p4
    go_wp2_with fail
    go_ret2
    obtain ⟨bb, ⟨o2, m2, _, _⟩, ⟨_, _, _, hM, hE, hP, hx⟩, hw1, l1, l2⟩ := H2.out
    obtain ⟨he, hc, hC2⟩ := HE.out
    obtain ⟨o3, ga, hga, hgl, hdev, hown⟩ := h3.out
    subst he
    obtain ⟨mx0, n10⟩ := ropened mx n ms hE
    have hoff := opS_off hM.l0 hE
    have oA : Off [] w2 (w2.alloc (.cells #[.int .u32 (P.c : Nat), .int .i64 (P.o : Nat), .int .i64 (P.i : Nat), .int .i64 (P.t : Nat), .int .u32 (P.n : Nat), .pointer (some ⟨m, 0, none⟩), .int .u32 (mx : Nat), .pointer (some ⟨c, 0, none⟩), .slice none 0 0, .int .i64 0, .int .i64 0, .int .i64 0, .bool false, .bool false, .bool false, .int .i64 0, .slice none 0 0, .bool false, .int .i64 0, .int .u32 0, .int .u32 0, .int .u32 0, .int .i64 0, .slice none 0 0, .bool false] 133)) := Off.alloc _ _ _
    have o23 : Off [w2.heap.size] w2 w3 := (oA.more (by simp)).trans o3
    have hcl := hC2.lt
    have k7 := o2.size
    rw [World.size_alloc] at hga
    have hm2 : m < w2.heap.size := m2.lt
    have hg2 : g < w2.heap.size := m2.lg
    have M3 := m2.off o23 (by simp; omega) (by simp; omega)
    have C3 := hC2.off o23 (by simp; omega)
    rw [← opS_vz hM.l0 (fun i hi => hM.byte i (by omega)) (mx := mx) (n := n)] at C3
    refine ⟨_, rfl, ?_, M3, fun _ => ⟨w2.heap.size, [w2.heap.size, m, g, c, ga], rfl, RB.made hP n10 mx0 hx M3 C3 hoff (by omega) (by omega) (by omega) (by omega) hgl hdev hown, ?_⟩, fun h => absurd rfl h⟩
    · have q := (Off.of_below (l := [m, g]) bb).trans o2
      exact ⟨o23.os.trans q.os, o23.tape.trans q.tape, o23.output.trans q.output, Nat.le_trans q.size o23.size, fun i hi hn => (o23.block i (by have := q.size; omega) (by simp; have := q.size; have := bb.size; omega)).trans (q.block i hi hn)⟩
    · intro k hk
      simp at hk
      have := bb.size
      omega
  · have e0 : (E != 0) = true := by simp [he]
    obtain rfl := h2.out.2.2.2 he
    have HE : Hid (_) := he
    clear he hC b1 hb hs hx0 hM bb h2 e2 l1 l2 l3
    go_wp2_with fail
    go_ret2
    obtain ⟨bb, ⟨o2, m2, _, _⟩, hh, _⟩ := H2.out
    exact ⟨none, rfl, (Off.of_below bb).trans o2, m2, fun h => absurd h HE.out, fun _ => rfl⟩
end Go.Proofs.YtpgdghjlfdehjaaGreat
namespace Go.Proofs.YtpgdghjlfdehjaaGreat
set_option maxRecDepth 100000
open Go.RowKit
end Go.Proofs.YtpgdghjlfdehjaaGreat
namespace Go.Proofs.YtpgdghjlfdehjaaGreat
set_option maxRecDepth 100000
open Go.RowKit
theorem own_form {w : World} {B e n : Nat} {v : Value} {xs : List Value} (h : w.ownsRow B e 1 v n xs) : ∃ a cap, v = .slice a n cap ∧ (0 < n → ∃ g, a = some ⟨g, 0, none⟩ ∧ B ≤ g) := by
  rcases h.2 with ⟨rfl, rfl⟩ | ⟨g, cap, cur, hv, hg, _⟩
  · exact ⟨none, 0, rfl, fun h => by omega⟩
  · exact ⟨_, cap, hv, fun _ => ⟨g, rfl, hg⟩⟩
theorem xor8 (a b : Nat) (ha : a < 256) (hb : b < 256) : bits .xor .u8 (a : Int) (b : Int) = ((a ^^^ b : Nat) : Int) := u8_xor_nat a b ha hb
def fl (f : Nat → Nat) (k q : Nat) : Nat := if q = k / 8 then f (k / 8) ^^^ 2 ^ (7 - k % 8) else f q
theorem fl_lt {f : Nat → Nat} {n : Nat} (hf : ∀ i, i < n → f i < 256) (k : Nat) (hk : k / 8 < n) : ∀ i, i < n → fl f k i < 256 := by
  intro i hi
  unfold fl
  by_cases h : i = k / 8
  · rw [if_pos h]
    exact Nat.xor_lt_two_pow (n := 8) (hf _ hk) (Nat.pow_lt_pow_right (by omega) (by omega))
  · rw [if_neg h]; exact hf i hi
theorem fl_fb (f : Nat → Nat) (k n : Nat) : PM.fb (fl f k) n = if n = k then !PM.fb f n else PM.fb f n := by
  unfold PM.fb fl
  by_cases h : n / 8 = k / 8
  · rw [if_pos h, Nat.testBit_xor, Nat.testBit_two_pow, h]
    by_cases e : n = k
    · subst e
      rw [if_pos rfl]
      simp
    · rw [if_neg e]
      have : ¬ 7 - k % 8 = 7 - n % 8 := by omega
      simp [this]
  · rw [if_neg h, if_neg (fun e => h (by rw [e]))]
theorem fl_V (f : Nat → Nat) (k n : Nat) (hk : k < n) : PM.V (PM.fb (fl f k)) n = PM.V (PM.fb f) n ^^^ 2 ^ (n - 1 - k) := by
  rw [PM.V_congr _ (fun i => if i = k then !PM.fb f i else PM.fb f i) n (fun i _ => fl_fb f k i)]
  exact PM.V_flip (PM.fb f) n k hk
theorem pow7 (k : Nat) : (128 : Int) / 2 ^ (k % 8) = ((2 ^ (7 - k % 8) : Nat) : Int) := by
  have h : ∀ z : Fin 8, (128 : Int) / 2 ^ z.val = ((2 ^ (7 - z.val) : Nat) : Int) := by decide
  exact h ⟨k % 8, by omega⟩
theorem burst_true {x s i N fr : Nat} (hi : i < s) (hN : fr + s ≤ N) (hb : x.testBit (s - 1 - i) = true) :
    PM.C (x >>> (s - i)) (2 ^ (N - fr - i)) ^^^ 2 ^ (N - 1 - (fr + i)) = PM.C (x >>> (s - (i + 1))) (2 ^ (N - fr - (i + 1))) := by
  rw [show s - (i + 1) = s - 1 - i by omega, PM.shr_true hb (show s - i = s - 1 - i + 1 by omega), show N - fr - i = (N - fr - (i + 1)) + 1 by omega, Nat.pow_succ, Nat.mul_comm (2 ^ _) 2, PM.C_two_right, PM.dbl_add _ 1 (by omega), PM.C_xor_left, PM.C_two_left, PM.C_one_left, show N - 1 - (fr + i) = N - fr - (i + 1) by omega]
theorem burst_false {x s i N fr : Nat} (hi : i < s) (hN : fr + s ≤ N) (hb : x.testBit (s - 1 - i) = false) :
    PM.C (x >>> (s - i)) (2 ^ (N - fr - i)) = PM.C (x >>> (s - (i + 1))) (2 ^ (N - fr - (i + 1))) := by
  rw [show s - (i + 1) = s - 1 - i by omega, PM.shr_false hb (show s - i = s - 1 - i + 1 by omega), show N - fr - i = (N - fr - (i + 1)) + 1 by omega, Nat.pow_succ, Nat.mul_comm (2 ^ _) 2, PM.C_two_right, PM.C_two_left]
theorem and32_one (a : Nat) (h : a < 4294967296) : bits .and .u32 (a : Int) 1 = ((a % 2 : Nat) : Int) := by
  have := u32_and_nat a 1 h (by omega)
  rw [nat_mask1] at this
  exact this
theorem bit32 (x k : Nat) (hx : x < 4294967296) : (bits .and .u32 ((x : Int) / 2 ^ k) 1 != 0) = x.testBit k := by
  have e : (x : Int) / 2 ^ k = ((x >>> k : Nat) : Int) := by rw [Nat.shiftRight_eq_div_pow]; simp
  have hl : x >>> k < 4294967296 := by rw [Nat.shiftRight_eq_div_pow]; exact Nat.lt_of_le_of_lt (Nat.div_le_self _ _) hx
  rw [e, and32_one _ hl, shr_bit]
  cases x.testBit k <;> rfl
set_option maxHeartbeats 1000000 in
theorem burst_no (a0 : Option Addr) (len cap : Nat) (n : Int) (x : Nat) (w : World) (hl : len ≤ 100000) (hx : x < 4294967296) (hno : x = 0 ∨ 8 * len < PM.bl x) :
    Calls Tryz.prog 42 #[.slice a0 len cap, .int .i64 n, .int .u32 x] w fun e w' => e = .returned (.tuple #[.slice none 0 0, .bool false]) ∧ w' = w := by
  have hbit := fun k => bit32 x k hx
  have hbl := PM.bl_le (n := x) (k := 32) (by omega)
  go_enter Tryz.func42, Tryz.ntmps42
  go_wp2_with fail
  go_loop [8, 9] (fun s c => ∃ i : Nat, i ≤ 32 ∧ c = .int .i64 i ∧ s = .int .i64 (PM.bl (x % 2 ^ i) : Nat)) (fun _ c => 32 - (intOf c).toNat)
  case atStart => exact ⟨0, by omega, rfl, by rw [Nat.pow_zero, Nat.mod_one]; rfl⟩
  case round =>
    obtain ⟨i, hi32, rfl, rfl⟩ := hrel
    by_cases hlt : i < 32
    · have t1 := hbit i
      clear hbit
      cases hb : x.testBit i
      · rw [hb] at t1
        go_wp2
        go_round
        case rel => exact ⟨i + 1, by omega, by go_num, by rw [PM.bl_mod_false hb]⟩
        case measure => simp [intOf] <;> omega
      · rw [hb] at t1
        go_wp2
        go_round
        case rel => exact ⟨i + 1, by omega, by go_num, by rw [PM.bl_mod_true hb]; go_num⟩
        case measure => simp [intOf] <;> omega
    · obtain rfl : i = 32 := by omega
      rw [Nat.mod_eq_of_lt (show x < 2 ^ 32 from hx)]
      rcases hno with hx0 | hroom
      · rw [show PM.bl x = 0 by rw [hx0]; rfl]
        clear hbit hx0 hbl
        go_wp2
        go_ret2
        exact ⟨rfl, rfl⟩
      · have hs0 : ((PM.bl x : Int) == 0) = false := by simp; omega
        have hd : decide ((8 : Int) * (len : Int) - (PM.bl x : Int) + 1 < 1) = true := by simp; omega
        clear hbit
        generalize PM.bl x = s at *
        go_wp2
        go_ret2
        exact ⟨rfl, rfl⟩
def BurstOut (B : Nat) (w' : World) (len x : Nat) (bs : Nat → Nat) (v : Value) : Prop :=
  ∃ f d, w'.ownsRow B 5 1 v len (CB f len) ∧ (∀ i, i < len → f i < 256) ∧ PM.V (PM.fb f) (8 * len) = PM.V (PM.fb bs) (8 * len) ^^^ PM.C x (2 ^ d)
set_option maxRecDepth 100000 in
set_option maxHeartbeats 1000000 in
theorem burst_yes (a0 : Option Addr) (len cap : Nat) (n : Int) (x : Nat) (bs : Nat → Nat) (w : World) (hr : Row8 w a0 len cap bs) (hl : len ≤ 100000) (hx : x < 4294967296) (hx0 : x ≠ 0) (hroom : PM.bl x ≤ 8 * len) :
    Calls Tryz.prog 42 #[.slice a0 len cap, .int .i64 n, .int .u32 x] w fun e w' => ∃ v, e = .returned (.tuple #[v, .bool true]) ∧ Below w.heap.size w w' ∧ BurstOut w.heap.size w' len x bs v := by
  obtain ⟨i0, hi, hz0, hz1, hz2⟩ := info_parts info_u8
  have hbit := fun k => bit32 x k hx
  have hbl := PM.bl_le (n := x) (k := 32) (by omega)
  have hpos : 0 < PM.bl x := by rw [PM.bl_pos hx0]; omega
  have hbd := build0
  go_enter Tryz.func42, Tryz.ntmps42
  go_wp2_with fail
  go_loop [8, 9] (fun s c => ∃ i : Nat, i ≤ 32 ∧ c = .int .i64 i ∧ s = .int .i64 (PM.bl (x % 2 ^ i) : Nat)) (fun _ c => 32 - (intOf c).toNat)
  case atStart => exact ⟨0, by omega, rfl, by rw [Nat.pow_zero, Nat.mod_one]; rfl⟩
  case round =>
    obtain ⟨i, hi32, rfl, rfl⟩ := hrel
    by_cases hlt : i < 32
    · have t1 := hbit i
      clear hbit
      cases hb : x.testBit i
      · rw [hb] at t1
        go_wp2
        go_round
        case rel => exact ⟨i + 1, by omega, by go_num, by rw [PM.bl_mod_false hb]⟩
        case measure => simp [intOf] <;> omega
      · rw [hb] at t1
        go_wp2
        go_round
        case rel => exact ⟨i + 1, by omega, by go_num, by rw [PM.bl_mod_true hb]; go_num⟩
        case measure => simp [intOf] <;> omega
    · obtain rfl : i = 32 := by omega
      rw [Nat.mod_eq_of_lt (show x < 2 ^ 32 from hx)]
      have HX : Hid (x < 2 ^ PM.bl x) := PM.lt_bl x
      have hs0 : ((PM.bl x : Int) == 0) = false := by simp; omega
      have hd : decide ((8 : Int) * (len : Int) - (PM.bl x : Int) + 1 < 1) = false := by simp; omega
      have hrm : wrap64 ((IntKind.u64.wrap n).tmod (8 * (len : Int) - (PM.bl x : Int) + 1)) = ((((n % 18446744073709551616) % (8 * (len : Int) - (PM.bl x : Int) + 1)).toNat : Nat) : Int) := by
        rw [IntKind.wrap_u64, Int.tmod_eq_emod_of_nonneg (by omega)]
        have h1 := Int.emod_nonneg (n % 18446744073709551616) (show (8 * (len : Int) - (PM.bl x : Int) + 1) ≠ 0 by omega)
        have h2 := Int.emod_lt_of_pos (n % 18446744073709551616) (show 0 < 8 * (len : Int) - (PM.bl x : Int) + 1 by omega)
        unfold wrap64
        omega
      have hfr : ((n % 18446744073709551616) % (8 * (len : Int) - (PM.bl x : Int) + 1)).toNat + PM.bl x ≤ 8 * len := by
        have h1 := Int.emod_nonneg (n % 18446744073709551616) (show (8 * (len : Int) - (PM.bl x : Int) + 1) ≠ 0 by omega)
        have h2 := Int.emod_lt_of_pos (n % 18446744073709551616) (show 0 < 8 * (len : Int) - (PM.bl x : Int) + 1 by omega)
        omega
      generalize ((n % 18446744073709551616) % (8 * (len : Int) - (PM.bl x : Int) + 1)).toNat = fr at *
      generalize PM.bl x = s at *
      have hbelA : Below w.heap.size w (w.alloc (.cells #[] 5)) := (Below.refl _ _).alloc (Nat.le_refl _) _
      have R0 := hr.below hbelA
      have O0 : (w.alloc (.cells #[] 5)).ownsRow w.heap.size 5 1 (.slice (some ⟨w.heap.size, 0, none⟩) 0 0) 0 (CB bs 0) := World.ownsRow_made w #[] 0 (Nat.le_refl _) (Nat.zero_le _) rfl
      have hszA := hbelA.size
      go_wp2_with (at_builtin; refine wpList_append_row8 rfl (.tmp 44) (.tmp 45) 42 rfl w.heap.size 5 i0 (.int .u8 0) Tryz.underlying42 hi hz0 hz1 hz2 rfl _ 0 _ rfl O0 a0 len cap bs rfl R0 (by unfold maxLen; omega) (by omega) hszA ?_)
      intro v2 w2 hown2 hgrow2
      have hbel2 : Below w.heap.size w w2 := hbelA.grown hgrow2 hszA (fun k hk => (O0.lt k hk).1)
      rw [show CB bs 0 = [] from rfl, List.nil_append] at hown2
      have hb0 := hr.byte
      clear hgrow2 O0 R0 hbelA hbd hr hrm
      obtain ⟨ax, cx, rfl, hax⟩ := own_form hown2
      go_wp2_with fail
      go_loopw [13, 14] (fun c _ wr => ∃ i f, i ≤ s ∧ c = .int .i64 ((i : Nat) : Int) ∧ wr.ownsRow w.heap.size 5 1 (.slice ax len cx) len (CB f len) ∧ (∀ i, i < len → f i < 256) ∧ PM.V (PM.fb f) (8 * len) = PM.V (PM.fb bs) (8 * len) ^^^ PM.C (x >>> (s - i)) (2 ^ (8 * len - fr - i)) ∧ Below w.heap.size w wr) (fun c _ _ => s - (intOf c).toNat)
      case atStart => exact ⟨0, bs, by omega, rfl, hown2, hb0, by rw [Nat.sub_zero, Nat.shiftRight_eq_div_pow, Nat.div_eq_of_lt HX.out, PM.C_zero_left, Nat.xor_zero], hbel2⟩
      case round =>
        clear hown2 hbel2 hb0
        obtain ⟨i, f, hi2, rfl, hown, hfb, hfV, hbel⟩ := hrel
        have HV : Hid (PM.V (PM.fb f) (8 * len) = PM.V (PM.fb bs) (8 * len) ^^^ PM.C (x >>> (s - i)) (2 ^ (8 * len - fr - i))) := hfV
        clear hfV
        by_cases hlt2 : i < s
        · have t1 := hbit (s - 1 - i)
          clear hbit
          cases hb : x.testBit (s - 1 - i)
          · rw [hb] at t1
            go_wp2
            go_roundw
            case rel => exact ⟨i + 1, f, by omega, by go_num, hown, hfb, by rw [HV.out, burst_false hlt2 hfr hb], hbel⟩
            case measure => simp [intOf] <;> omega
          · rw [hb] at t1
            obtain ⟨gx, rfl, hgx⟩ := hax (by omega)
            obtain ⟨k, hk⟩ : ∃ k, k = fr + i := ⟨_, rfl⟩
            have hk1 : (fr : Int) + (i : Int) = (k : Int) := by omega
            have hk8 : k / 8 < len := by omega
            obtain ⟨q, hq⟩ : ∃ q, q = k / 8 := ⟨_, rfl⟩
            obtain ⟨m, hm⟩ : ∃ m, m = k % 8 := ⟨_, rfl⟩
            have hq1 : (k : Int) / 8 = (q : Int) := by omega
            have hm1 : (k : Int) % 8 = (m : Int) := by omega
            have hq2 : (k : Int).tdiv 8 = (q : Int) := by rw [Int.tdiv_eq_ediv_of_nonneg (by omega)]; exact hq1
            have hm2 : (k : Int).tmod 8 = (m : Int) := by rw [Int.tmod_eq_emod_of_nonneg (by omega)]; exact hm1
            have hp : (128 : Int) / 2 ^ m = ((2 ^ (7 - m) : Nat) : Int) := by rw [hm]; exact pow7 k
            have hql : q < len := by omega
            have hm8 : m < 8 := by omega
            have hcx := hown.cellAt q (by omega)
            rw [CB_get _ len _ hql] at hcx
            have hfx := hown.frozenAt q
            have hX := xor8 (f q) (2 ^ (7 - m)) (hfb q hql) (show 2 ^ (7 - m) < 2 ^ 8 from Nat.pow_lt_pow_right (by omega) (by omega))
            have hown3 : (wr.drew.setCell ⟨gx, q, none⟩ (.int .u8 ((f q ^^^ 2 ^ (7 - m) : Nat) : Int))).ownsRow w.heap.size 5 1 (.slice (some ⟨gx, 0, none⟩) len cx) len (CB (fl f k) len) := by
              have h := ((show wr.drew.ownsRow w.heap.size 5 1 (.slice (some ⟨gx, 0, none⟩) len cx) len (CB f len) from hown).stored q (.int .u8 ((f q ^^^ 2 ^ (7 - m) : Nat) : Int))).1
              rw [CB_set, CB_congr _ (fl f k) len (fun i _ => by unfold fl; rw [hq, hm])] at h
              exact h
            have hbel3 : Below w.heap.size w (wr.drew.setCell ⟨gx, q, none⟩ (.int .u8 ((f q ^^^ 2 ^ (7 - m) : Nat) : Int))) := hbel.drew.setCell (p := ⟨gx, q, none⟩) hgx _
            have HO : Hid (_) := hown3
            have HB : Hid (_) := hbel3
            have HF : Hid (∀ i, i < len → fl f k i < 256) := fl_lt hfb k hk8
            have HW : Hid (PM.V (PM.fb (fl f k)) (8 * len) = PM.V (PM.fb bs) (8 * len) ^^^ PM.C (x >>> (s - (i + 1))) (2 ^ (8 * len - fr - (i + 1)))) := by
              show _ = _
              rw [fl_V f k (8 * len) (by omega), HV.out, hk, Nat.xor_assoc, burst_true hlt2 hfr hb]
            have hkl : k < 800000 := by omega
            clear hk hq hm hown hbel hown3 hbel3 hax HV hfb
            generalize f q ^^^ 2 ^ (7 - m) = y at *
            generalize 2 ^ (7 - m) = z at *
            go_wp2_with fail
            go_region
            all_goals (go_wp2_with fail; go_roundw)
            case rel => exact ⟨i + 1, fl f k, by omega, by go_num, HO.out, HF.out, HW.out, HB.out⟩
            case measure => simp [intOf] <;> omega
        · obtain rfl : i = s := by omega
          clear hbit hax
          go_wp2
          go_ret2
          exact ⟨_, rfl, hbel, f, 8 * len - fr - i, hown, hfb, by rw [HV.out, Nat.sub_self, Nat.shiftRight_zero]⟩
end Go.Proofs.YtpgdghjlfdehjaaGreat
