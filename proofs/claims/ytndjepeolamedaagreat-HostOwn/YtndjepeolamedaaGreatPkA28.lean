/- Part 29 of the texts on which the proofs of layer 13 rest: contracts of Go functions. -/
import Derived.Test.YtndjepeolamedaaGreatPkA26
namespace Go.Proofs.YtndjepeolamedaaGreat
set_option maxRecDepth 100000
open Go.RowKit
set_option maxRecDepth 100000 in
set_option maxHeartbeats 3200000 in
theorem hsend4nd (d : Nat) (P : Pm) (U : List Nat) (s : Sh) (w : World) (h : RVh w d P U s) (hv : Ih P s) (hL : s.L.length < 800000) (hst : s.st = 4) (hex : ¬ s.sn + 1 = P.n) (hw : s.wt = false) :
    Calls Tryz.prog 39 #[.pointer (some ⟨d, 0, none⟩)] w fun e w' => ∃ v, e = .returned (.tuple #[v, .int .i64 0]) ∧ Hid (OutRh U w w' d P (hnext P (hmissT s)).1 (hnext P (hmissT s)).2 v) := by
  obtain ⟨B, x⟩ := id h
  have hdl := x.dlt
  have c15 : w.cell? ⟨d, 15, none⟩ = some (.int .i64 (s.st : Nat)) := cell_of_row w d 15 _ _ _ x.dev
  have c17 : w.cell? ⟨d, 17, none⟩ = some (.int .u32 (s.nm : Nat)) := cell_of_row w d 17 _ _ _ x.dev
  have c18 : w.cell? ⟨d, 18, none⟩ = some (.int .u32 (s.sn : Nat)) := cell_of_row w d 18 _ _ _ x.dev
  have c19 : w.cell? ⟨d, 19, none⟩ = some (.bool s.wt) := cell_of_row w d 19 _ _ _ x.dev
  have c20 : w.cell? ⟨d, 20, none⟩ = some (.int .i64 (s.ms : Nat)) := cell_of_row w d 20 _ _ _ x.dev
  have z15 := x.fz 15
  have z19 := x.fz 19
  have z20 := x.fz 20
  have HV : Hid (_) := And.intro hv hL
  have hm : hmissT s = { s with wt := true } := by unfold hmissT hmiss; rw [if_pos (.inr hw)]
  rw [hw] at c19
  have o1 := Off.setCell d 19 w (.bool true)
  have x1 := x.own (s' := { s with wt := true }) o1 (heap_setCell_same _ _ _ _ _ _ x.dev) ⟨rfl, rfl⟩ rfl rfl x.vok x.dcl
  obtain ⟨W1, hW⟩ : ∃ W1, W1 = w.setCell ⟨d, 19, none⟩ (.bool true) := ⟨_, rfl⟩
  obtain ⟨s1, hs1⟩ : ∃ s1, s1 = ({ s with wt := true } : Sh) := ⟨_, rfl⟩
  obtain ⟨B1, hB1⟩ : ∃ b, b = B := ⟨_, rfl⟩
  obtain ⟨U1, hU1⟩ : ∃ u, u = U := ⟨_, rfl⟩
  have X1 : Hid (Gr U w U1 W1 ∧ RH W1 d P U1 s1 B1 ∧ s1 = hmissT s) := by
    rw [hW, hs1, hB1, hU1, hm]
    exact ⟨Gr.same o1 (by simp [x.kd.2]), x1, rfl⟩
  have HS1 : Hid (s1.ss < 4294967296 ∧ s1.st = 4) := by rw [hs1]; exact ⟨hv.ss, hst⟩
  have HSE : Hid (¬ s1.sn + 1 = P.n) := by rw [hs1]; exact hex
  have HSL : Hid (s1.L.length < 800000) := by rw [hs1]; exact hL
  have HS4 : Hid (s1.sn < P.n ∧ P.n < 4294967296) := by rw [hs1]; exact ⟨(hv.run hst).1, x.pok.n⟩
  rw [hst] at c15
  clear hex h x hv hL hm o1 x1 hs1 hst hB1 hU1 hw
  go_enter Tryz.func39, Tryz.ntmps39
  go_upto_region 14 with fail
  rw [← hW]
  clear hW c15 c17 c18 c19 c20 z15 z19 z20
  obtain ⟨gX, xX, eX⟩ := X1.out
  have t0 : W1.cell? ⟨d, 0, none⟩ = some (.int .u32 (P.c : Nat)) := cell_of_row W1 d 0 _ _ _ xX.dev
  have t1 : W1.cell? ⟨d, 1, none⟩ = some (.int .i64 (P.o : Nat)) := cell_of_row W1 d 1 _ _ _ xX.dev
  have t2 : W1.cell? ⟨d, 2, none⟩ = some (.int .i64 (P.i : Nat)) := cell_of_row W1 d 2 _ _ _ xX.dev
  have t3 : W1.cell? ⟨d, 3, none⟩ = some (.int .i64 (P.t : Nat)) := cell_of_row W1 d 3 _ _ _ xX.dev
  have t4 : W1.cell? ⟨d, 4, none⟩ = some (.int .u32 (P.n : Nat)) := cell_of_row W1 d 4 _ _ _ xX.dev
  have t15 : W1.cell? ⟨d, 15, none⟩ = some (.int .i64 (s1.st : Nat)) := cell_of_row W1 d 15 _ _ _ xX.dev
  have t16 : W1.cell? ⟨d, 16, none⟩ = some (.int .u32 (s1.ss : Nat)) := cell_of_row W1 d 16 _ _ _ xX.dev
  have hss1 : s1.ss < 4294967296 := HS1.out.1
  have hpok := xX.pok
  rw [show s1.st = 4 from HS1.out.2] at t15
  have t18 : W1.cell? ⟨d, 18, none⟩ = some (.int .u32 (s1.sn : Nat)) := cell_of_row W1 d 18 _ _ _ xX.dev
  have f18 := xX.fz 18
  have hsn : s1.sn + 1 < 4294967296 := by have := HS4.out; omega
  have w18 : IntKind.u32.wrap ((s1.sn : Int) + 1) = ((s1.sn + 1 : Nat) : Int) := by rw [IntKind.wrap_u32]; omega
  obtain ⟨SN, hSN⟩ : ∃ n, n = s1.sn + 1 := ⟨_, rfl⟩
  rw [← hSN] at w18 hsn
  have o2 := Off.setCell d 18 W1 (.int .u32 (SN : Nat))
  have x2 := xX.own (s' := { s1 with sn := s1.sn + 1 }) o2 (by rw [hSN]; exact heap_setCell_same _ _ _ _ _ _ xX.dev) ⟨rfl, rfl⟩ rfl rfl xX.vok xX.dcl
  obtain ⟨W2, hW2⟩ : ∃ W2, W2 = W1.setCell ⟨d, 18, none⟩ (.int .u32 (SN : Nat)) := ⟨_, rfl⟩
  rw [← hW2] at x2 o2
  have g2 : Gr U w U1 W2 := gX.trans (Gr.same o2 (by simp [xX.kd.2]))
  have y4 : W2.cell? ⟨d, 4, none⟩ = some (.int .u32 (P.n : Nat)) := cell_of_row W2 d 4 _ _ _ x2.dev
  have y16 : W2.cell? ⟨d, 16, none⟩ = some (.int .u32 (s1.ss : Nat)) := cell_of_row W2 d 16 _ _ _ x2.dev
  have y18 : W2.cell? ⟨d, 18, none⟩ = some (.int .u32 (SN : Nat)) := by rw [hSN]; exact cell_of_row W2 d 18 _ _ _ x2.dev
  have y22 : W2.cell? ⟨d, 22, none⟩ = some (.bool s1.hd) := cell_of_row W2 d 22 _ _ _ x2.dev
  have y21 : W2.cell? ⟨d, 21, none⟩ = some B1.av := cell_of_row W2 d 21 _ _ _ x2.dev
  have H2 : Hid (_) := And.intro g2 x2
  have eN : ((SN : Int) == (P.n : Int)) = false := by have := HSE.out; simp; omega
  have eN' : ¬ SN = P.n := by have := HSE.out; omega
  have HN : Hid (hnext P s1 = ({ s1 with sn := s1.sn + 1 }, encF 4 P.c s1.ss (s1.sn + 1) (hflags s1) P.o s1.ap)) := by
    show _ = _
    unfold hnext
    rw [if_neg (by rw [HS1.out.2]; omega), if_neg (by rw [HS1.out.2]; omega), if_neg (by rw [HS1.out.2]; omega), if_neg HSE.out]
  obtain ⟨aA, cA, eA, RA⟩ := own_row8 x2.app x2.apb
  rw [eA] at y21
  have hFl : ∀ wx, Below W2.heap.size W2 wx → Calls Tryz.prog 95 #[.pointer (some ⟨d, 8, none⟩), .bool s1.hd] wx fun e w' => e = .returned (.int .i64 (hflags s1 : Nat)) ∧ Below W2.heap.size W2 w' := by
    intro wx hx
    refine (hrflags_any d P U1 _ B1 wx (x2.newd (Off.of_below hx))).mono ?_
    rintro e w' ⟨rfl, hb⟩
    exact ⟨rfl, hx.trans (hb.mono hx.size)⟩
  have hF : ∀ wx, Below W2.heap.size W2 wx → Calls Tryz.prog 94 #[.pointer (some ⟨d, 0, none⟩), .int .i64 4, .int .u32 (s1.ss : Nat), .int .u32 (SN : Nat), .int .i64 (hflags s1 : Nat), .slice aA P.o cA] wx fun e w' => ∃ v, e = .returned v ∧ Below W2.heap.size W2 w' ∧ Hid (OutRh U w w' d P { s1 with sn := s1.sn + 1 } (encF 4 P.c s1.ss SN (hflags s1) P.o s1.ap) v) := by
    intro wx hx
    refine (hrframe_any d P U1 _ 4 s1.ss SN (hflags s1) aA P.o cA s1.ap wx ⟨B1, x2.newd (Off.of_below hx)⟩ (RA.below hx) hss1 hsn).mono ?_
    rintro e w' ⟨v, rfl, H⟩
    exact ⟨v, rfl, hx.trans (H.out.2.mono hx.size), OutRh.mk (g2.trans (Gr.below hx)) ⟨B1, x2.newd (Off.of_below hx)⟩ H.out.1 H.out.2⟩
  have hdW := x2.dlt
  have z16 : Hid (∀ wx, Below W2.heap.size W2 wx → wx.cell? ⟨d, 16, none⟩ = some (.int .u32 (s1.ss : Nat)) ∧ wx.cell? ⟨d, 18, none⟩ = some (.int .u32 (SN : Nat)) ∧ wx.cell? ⟨d, 21, none⟩ = some (.slice aA P.o cA) ∧ wx.cell? ⟨d, 22, none⟩ = some (.bool s1.hd)) := fun wx hx => ⟨(World.cell?_of_block (hx.block d hdW)).trans y16, (World.cell?_of_block (hx.block d hdW)).trans y18, (World.cell?_of_block (hx.block d hdW)).trans y21, (World.cell?_of_block (hx.block d hdW)).trans y22⟩
  have HSN : Hid (SN = s1.sn + 1) := hSN
  clear gX xX eX hpok x2 g2 o2 eA RA hSN
  go_upto_region 22 with fail
  rw [← hW2]
  clear hW2 t0 t1 t2 t3 t4 t15 t16 t18 f18 w18
  go_quiet (fail)
  go_wp2_with fail
  generalize hW3 : World.drewN _ _ = W3
  have b3 : Below W2.heap.size W2 W3 := by rw [← hW3]; exact below_drewN (Below.refl _ _) _
  have HS3 := z16.out W3 b3
  clear hW3
  go_region_held3 (fun w' => w'.cell? ⟨d, 16, none⟩ = some (.int .u32 (s1.ss : Nat)) ∧ w'.cell? ⟨d, 18, none⟩ = some (.int .u32 (SN : Nat)) ∧ w'.cell? ⟨d, 21, none⟩ = some (.slice aA P.o cA) ∧ w'.cell? ⟨d, 22, none⟩ = some (.bool s1.hd)) (first | assumption | exact z16.out _ (by repeat (first | with_reducible exact Below.refl _ _ | with_reducible assumption | with_reducible refine below_drewN ?_ _ | with_reducible refine Below.drew ?_))) (first
    | (go_at_call 95; refine (hFl _ (by repeat (first | with_reducible exact Below.refl _ _ | with_reducible assumption | with_reducible refine below_drewN ?_ _ | with_reducible refine Below.drew ?_))).mono ?_; rintro e w8 ⟨rfl, b8⟩; have HS8 := z16.out w8 b8)
    | (go_at_call 94; refine (hF _ (by repeat (first | with_reducible exact Below.refl _ _ | with_reducible assumption | with_reducible refine below_drewN ?_ _ | with_reducible refine Below.drew ?_))).mono ?_; rintro e w9 ⟨v9, rfl, b9, H9⟩; have HS9 := z16.out w9 b9))
  all_goals
    clear hF hFl y4 y16 y18 y21 y22
    go_wp2_with fail
    go_ret2
    refine ⟨v9, rfl, ?_⟩
    rw [← X1.out.2.2, HN.out]
    rw [HSN.out] at H9
    exact H9
set_option maxRecDepth 100000 in
set_option maxHeartbeats 3200000 in
theorem hsend4md (d : Nat) (P : Pm) (U : List Nat) (s : Sh) (w : World) (h : RVh w d P U s) (hv : Ih P s) (hL : s.L.length < 800000) (hst : s.st = 4) (hex : ¬ s.sn + 1 = P.n) (hw : s.wt = true) (hms : s.ms + 1 < 4) :
    Calls Tryz.prog 39 #[.pointer (some ⟨d, 0, none⟩)] w fun e w' => ∃ v, e = .returned (.tuple #[v, .int .i64 0]) ∧ Hid (OutRh U w w' d P (hnext P (hmissT s)).1 (hnext P (hmissT s)).2 v) := by
  obtain ⟨B, x⟩ := id h
  have hdl := x.dlt
  have c15 : w.cell? ⟨d, 15, none⟩ = some (.int .i64 (s.st : Nat)) := cell_of_row w d 15 _ _ _ x.dev
  have c17 : w.cell? ⟨d, 17, none⟩ = some (.int .u32 (s.nm : Nat)) := cell_of_row w d 17 _ _ _ x.dev
  have c18 : w.cell? ⟨d, 18, none⟩ = some (.int .u32 (s.sn : Nat)) := cell_of_row w d 18 _ _ _ x.dev
  have c19 : w.cell? ⟨d, 19, none⟩ = some (.bool s.wt) := cell_of_row w d 19 _ _ _ x.dev
  have c20 : w.cell? ⟨d, 20, none⟩ = some (.int .i64 (s.ms : Nat)) := cell_of_row w d 20 _ _ _ x.dev
  have z15 := x.fz 15
  have z19 := x.fz 19
  have z20 := x.fz 20
  have HV : Hid (_) := And.intro hv hL
  have hm : hmissT s = { s with ms := s.ms + 1, wt := true } := by unfold hmissT hmiss; rw [if_neg (by rintro (h | h); omega; rw [hw] at h; cases h), if_pos hms]
  rw [hw] at c19
  have o1 := (Off.setCell d 20 w (.int .i64 ((s.ms + 1 : Nat) : Int))).trans (Off.setCell d 19 _ (.bool true))
  have x1 := x.own (s' := { s with ms := s.ms + 1, wt := true }) o1 (heap_setCell_same _ _ _ _ _ _ (heap_setCell_same _ _ _ _ _ _ x.dev)) ⟨rfl, rfl⟩ rfl rfl x.vok x.dcl
  obtain ⟨W1, hW⟩ : ∃ W1, W1 = (w.setCell ⟨d, 20, none⟩ (.int .i64 ((s.ms + 1 : Nat) : Int))).setCell ⟨d, 19, none⟩ (.bool true) := ⟨_, rfl⟩
  obtain ⟨s1, hs1⟩ : ∃ s1, s1 = ({ s with ms := s.ms + 1, wt := true } : Sh) := ⟨_, rfl⟩
  obtain ⟨B1, hB1⟩ : ∃ b, b = B := ⟨_, rfl⟩
  obtain ⟨U1, hU1⟩ : ∃ u, u = U := ⟨_, rfl⟩
  have X1 : Hid (Gr U w U1 W1 ∧ RH W1 d P U1 s1 B1 ∧ s1 = hmissT s) := by
    rw [hW, hs1, hB1, hU1, hm]
    exact ⟨Gr.same o1 (by simp [x.kd.2]), x1, rfl⟩
  have HS1 : Hid (s1.ss < 4294967296 ∧ s1.st = 4) := by rw [hs1]; exact ⟨hv.ss, hst⟩
  have HS4 : Hid (s1.sn < P.n ∧ P.n < 4294967296) := by rw [hs1]; exact ⟨(hv.run hst).1, x.pok.n⟩
  have w20 : IntKind.i64.wrap ((s.ms : Int) + 1) = ((s.ms + 1 : Nat) : Int) := by rw [IntKind.wrap_i64]; omega
  have j20 : ¬ (4 : Int) ≤ ((s.ms + 1 : Nat) : Int) := by omega
  have HSE : Hid (¬ s1.sn + 1 = P.n) := by rw [hs1]; exact hex
  have HSL : Hid (s1.L.length < 800000) := by rw [hs1]; exact hL
  rw [hst] at c15
  clear hex h x hv hL hm o1 x1 hs1 hst hB1 hU1 hw hms
  generalize s.ms + 1 = MS at *
  go_enter Tryz.func39, Tryz.ntmps39
  go_upto_region 14 with fail
  rw [← hW]
  clear hW c15 c17 c18 c19 c20 z15 z19 z20 w20 j20
  obtain ⟨gX, xX, eX⟩ := X1.out
  have t0 : W1.cell? ⟨d, 0, none⟩ = some (.int .u32 (P.c : Nat)) := cell_of_row W1 d 0 _ _ _ xX.dev
  have t1 : W1.cell? ⟨d, 1, none⟩ = some (.int .i64 (P.o : Nat)) := cell_of_row W1 d 1 _ _ _ xX.dev
  have t2 : W1.cell? ⟨d, 2, none⟩ = some (.int .i64 (P.i : Nat)) := cell_of_row W1 d 2 _ _ _ xX.dev
  have t3 : W1.cell? ⟨d, 3, none⟩ = some (.int .i64 (P.t : Nat)) := cell_of_row W1 d 3 _ _ _ xX.dev
  have t4 : W1.cell? ⟨d, 4, none⟩ = some (.int .u32 (P.n : Nat)) := cell_of_row W1 d 4 _ _ _ xX.dev
  have t15 : W1.cell? ⟨d, 15, none⟩ = some (.int .i64 (s1.st : Nat)) := cell_of_row W1 d 15 _ _ _ xX.dev
  have t16 : W1.cell? ⟨d, 16, none⟩ = some (.int .u32 (s1.ss : Nat)) := cell_of_row W1 d 16 _ _ _ xX.dev
  have hss1 : s1.ss < 4294967296 := HS1.out.1
  have hpok := xX.pok
  rw [show s1.st = 4 from HS1.out.2] at t15
  have t18 : W1.cell? ⟨d, 18, none⟩ = some (.int .u32 (s1.sn : Nat)) := cell_of_row W1 d 18 _ _ _ xX.dev
  have f18 := xX.fz 18
  have hsn : s1.sn + 1 < 4294967296 := by have := HS4.out; omega
  have w18 : IntKind.u32.wrap ((s1.sn : Int) + 1) = ((s1.sn + 1 : Nat) : Int) := by rw [IntKind.wrap_u32]; omega
  obtain ⟨SN, hSN⟩ : ∃ n, n = s1.sn + 1 := ⟨_, rfl⟩
  rw [← hSN] at w18 hsn
  have o2 := Off.setCell d 18 W1 (.int .u32 (SN : Nat))
  have x2 := xX.own (s' := { s1 with sn := s1.sn + 1 }) o2 (by rw [hSN]; exact heap_setCell_same _ _ _ _ _ _ xX.dev) ⟨rfl, rfl⟩ rfl rfl xX.vok xX.dcl
  obtain ⟨W2, hW2⟩ : ∃ W2, W2 = W1.setCell ⟨d, 18, none⟩ (.int .u32 (SN : Nat)) := ⟨_, rfl⟩
  rw [← hW2] at x2 o2
  have g2 : Gr U w U1 W2 := gX.trans (Gr.same o2 (by simp [xX.kd.2]))
  have y4 : W2.cell? ⟨d, 4, none⟩ = some (.int .u32 (P.n : Nat)) := cell_of_row W2 d 4 _ _ _ x2.dev
  have y16 : W2.cell? ⟨d, 16, none⟩ = some (.int .u32 (s1.ss : Nat)) := cell_of_row W2 d 16 _ _ _ x2.dev
  have y18 : W2.cell? ⟨d, 18, none⟩ = some (.int .u32 (SN : Nat)) := by rw [hSN]; exact cell_of_row W2 d 18 _ _ _ x2.dev
  have y22 : W2.cell? ⟨d, 22, none⟩ = some (.bool s1.hd) := cell_of_row W2 d 22 _ _ _ x2.dev
  have y21 : W2.cell? ⟨d, 21, none⟩ = some B1.av := cell_of_row W2 d 21 _ _ _ x2.dev
  have H2 : Hid (_) := And.intro g2 x2
  have eN : ((SN : Int) == (P.n : Int)) = false := by have := HSE.out; simp; omega
  have eN' : ¬ SN = P.n := by have := HSE.out; omega
  have HN : Hid (hnext P s1 = ({ s1 with sn := s1.sn + 1 }, encF 4 P.c s1.ss (s1.sn + 1) (hflags s1) P.o s1.ap)) := by
    show _ = _
    unfold hnext
    rw [if_neg (by rw [HS1.out.2]; omega), if_neg (by rw [HS1.out.2]; omega), if_neg (by rw [HS1.out.2]; omega), if_neg HSE.out]
  obtain ⟨aA, cA, eA, RA⟩ := own_row8 x2.app x2.apb
  rw [eA] at y21
  have hFl : ∀ wx, Below W2.heap.size W2 wx → Calls Tryz.prog 95 #[.pointer (some ⟨d, 8, none⟩), .bool s1.hd] wx fun e w' => e = .returned (.int .i64 (hflags s1 : Nat)) ∧ Below W2.heap.size W2 w' := by
    intro wx hx
    refine (hrflags_any d P U1 _ B1 wx (x2.newd (Off.of_below hx))).mono ?_
    rintro e w' ⟨rfl, hb⟩
    exact ⟨rfl, hx.trans (hb.mono hx.size)⟩
  have hF : ∀ wx, Below W2.heap.size W2 wx → Calls Tryz.prog 94 #[.pointer (some ⟨d, 0, none⟩), .int .i64 4, .int .u32 (s1.ss : Nat), .int .u32 (SN : Nat), .int .i64 (hflags s1 : Nat), .slice aA P.o cA] wx fun e w' => ∃ v, e = .returned v ∧ Below W2.heap.size W2 w' ∧ Hid (OutRh U w w' d P { s1 with sn := s1.sn + 1 } (encF 4 P.c s1.ss SN (hflags s1) P.o s1.ap) v) := by
    intro wx hx
    refine (hrframe_any d P U1 _ 4 s1.ss SN (hflags s1) aA P.o cA s1.ap wx ⟨B1, x2.newd (Off.of_below hx)⟩ (RA.below hx) hss1 hsn).mono ?_
    rintro e w' ⟨v, rfl, H⟩
    exact ⟨v, rfl, hx.trans (H.out.2.mono hx.size), OutRh.mk (g2.trans (Gr.below hx)) ⟨B1, x2.newd (Off.of_below hx)⟩ H.out.1 H.out.2⟩
  have hdW := x2.dlt
  have z16 : Hid (∀ wx, Below W2.heap.size W2 wx → wx.cell? ⟨d, 16, none⟩ = some (.int .u32 (s1.ss : Nat)) ∧ wx.cell? ⟨d, 18, none⟩ = some (.int .u32 (SN : Nat)) ∧ wx.cell? ⟨d, 21, none⟩ = some (.slice aA P.o cA) ∧ wx.cell? ⟨d, 22, none⟩ = some (.bool s1.hd)) := fun wx hx => ⟨(World.cell?_of_block (hx.block d hdW)).trans y16, (World.cell?_of_block (hx.block d hdW)).trans y18, (World.cell?_of_block (hx.block d hdW)).trans y21, (World.cell?_of_block (hx.block d hdW)).trans y22⟩
  have HSN : Hid (SN = s1.sn + 1) := hSN
  clear gX xX eX hpok x2 g2 o2 eA RA hSN
  go_upto_region 22 with fail
  rw [← hW2]
  clear hW2 t0 t1 t2 t3 t4 t15 t16 t18 f18 w18
  go_quiet (fail)
  go_wp2_with fail
  generalize hW3 : World.drewN _ _ = W3
  have b3 : Below W2.heap.size W2 W3 := by rw [← hW3]; exact below_drewN (Below.refl _ _) _
  have HS3 := z16.out W3 b3
  clear hW3
  go_region_held3 (fun w' => w'.cell? ⟨d, 16, none⟩ = some (.int .u32 (s1.ss : Nat)) ∧ w'.cell? ⟨d, 18, none⟩ = some (.int .u32 (SN : Nat)) ∧ w'.cell? ⟨d, 21, none⟩ = some (.slice aA P.o cA) ∧ w'.cell? ⟨d, 22, none⟩ = some (.bool s1.hd)) (first | assumption | exact z16.out _ (by repeat (first | with_reducible exact Below.refl _ _ | with_reducible assumption | with_reducible refine below_drewN ?_ _ | with_reducible refine Below.drew ?_))) (first
    | (go_at_call 95; refine (hFl _ (by repeat (first | with_reducible exact Below.refl _ _ | with_reducible assumption | with_reducible refine below_drewN ?_ _ | with_reducible refine Below.drew ?_))).mono ?_; rintro e w8 ⟨rfl, b8⟩; have HS8 := z16.out w8 b8)
    | (go_at_call 94; refine (hF _ (by repeat (first | with_reducible exact Below.refl _ _ | with_reducible assumption | with_reducible refine below_drewN ?_ _ | with_reducible refine Below.drew ?_))).mono ?_; rintro e w9 ⟨v9, rfl, b9, H9⟩; have HS9 := z16.out w9 b9))
  all_goals
    clear hF hFl y4 y16 y18 y21 y22
    go_wp2_with fail
    go_ret2
    refine ⟨v9, rfl, ?_⟩
    rw [← X1.out.2.2, HN.out]
    rw [HSN.out] at H9
    exact H9
end Go.Proofs.YtndjepeolamedaaGreat
