/- Part 26 of the texts on which the proofs of layer 13 rest: contracts of Go functions. -/
import Derived.Test.YtndjepeolamedaaGreatPkA24
namespace Go.Proofs.YtndjepeolamedaaGreat
set_option maxRecDepth 100000
open Go.RowKit
def OutRh (U : List Nat) (w w' : World) (d : Nat) (P : Pm) (s : Sh) (f : Fm) (v : Value) : Prop :=
  ∃ U', Gr U w U' w' ∧ RVh w' d P U' s ∧ Fr w' w.heap.size v f ∧ ∀ k, v.ownBlock = some k → k ∉ U'
theorem OutRh.mk {U U1 : List Nat} {w w1 w2 : World} {d : Nat} {P : Pm} {s : Sh} {f : Fm} {v : Value} (h : Gr U w U1 w1) (x : RVh w1 d P U1 s) (hf : Fr w2 w1.heap.size v f) (hb : Below w1.heap.size w1 w2) : OutRh U w w2 d P s f v :=
  ⟨U1, h.trans (Gr.below hb), x.below hb, own_base hf h.off.size, fun k hk hm => by have := x.ult k hm; have := hf.ge k hk; omega⟩
theorem hnext_wt (P : Pm) (s : Sh) : { (hnext P s).1 with wt := true } = (hnext P { s with wt := true }).1 ∧ (hnext P s).2 = (hnext P { s with wt := true }).2 := by
  unfold hnext hexh hleave hlatch hnote hflags
  constructor
  all_goals (repeat' split)
  all_goals first | rfl | (exfalso; simp_all)
def hmissT (s : Sh) : Sh := { hmiss s with wt := true }
theorem hsend_eq (P : Pm) (s : Sh) (h : s.st ≠ 5) : hsendS P s = (hnext P (hmissT s)).1 ∧ hsendF P s = (hnext P (hmissT s)).2 ∧ hsendE s = 0 := by
  unfold hsendS hsendF hsendE
  rw [if_neg h, if_neg h, if_neg h]
  exact ⟨(hnext_wt P (hmiss s)).1, (hnext_wt P (hmiss s)).2, rfl⟩
set_option maxRecDepth 100000 in
set_option maxHeartbeats 3200000 in
theorem hsend1 (d : Nat) (P : Pm) (U : List Nat) (s : Sh) (w : World) (h : RVh w d P U s) (hv : Ih P s) (hL : s.L.length < 800000) (hst : s.st = 1) :
    Calls Tryz.prog 39 #[.pointer (some ⟨d, 0, none⟩)] w fun e w' => ∃ v, e = .returned (.tuple #[v, .int .i64 0]) ∧ Hid (OutRh U w w' d P (hnext P (hmissT s)).1 (hnext P (hmissT s)).2 v) := by
  obtain ⟨B, x⟩ := id h
  have hdl := x.dlt
  have c15 : w.cell? ⟨d, 15, none⟩ = some (.int .i64 (s.st : Nat)) := cell_of_row w d 15 _ _ _ x.dev
  have c17 : w.cell? ⟨d, 17, none⟩ = some (.int .u32 (s.nm : Nat)) := cell_of_row w d 17 _ _ _ x.dev
  have c18 : w.cell? ⟨d, 18, none⟩ = some (.int .u32 (s.sn : Nat)) := cell_of_row w d 18 _ _ _ x.dev
  have c19 : w.cell? ⟨d, 19, none⟩ = some (.bool s.wt) := cell_of_row w d 19 _ _ _ x.dev
  have c20 : w.cell? ⟨d, 20, none⟩ = some (.int .i64 (s.ms : Nat)) := cell_of_row w d 20 _ _ _ x.dev
  have z15 := x.fz 15
  have z19 := x.fz 19
  have z20 := x.fz 20
  have HV : Hid (_) := And.intro hv hL
  have hm : hmissT s = { s with wt := true } := by unfold hmissT hmiss; rw [if_pos (.inl hst)]
  have o1 := Off.setCell d 19 w (.bool true)
  have x1 := x.own (s' := { s with wt := true }) o1 (heap_setCell_same _ _ _ _ _ _ x.dev) ⟨rfl, rfl⟩ rfl rfl x.vok x.dcl
  obtain ⟨W1, hW⟩ : ∃ W1, W1 = w.setCell ⟨d, 19, none⟩ (.bool true) := ⟨_, rfl⟩
  obtain ⟨s1, hs1⟩ : ∃ s1, s1 = ({ s with wt := true } : Sh) := ⟨_, rfl⟩
  obtain ⟨B1, hB1⟩ : ∃ b, b = B := ⟨_, rfl⟩
  obtain ⟨U1, hU1⟩ : ∃ u, u = U := ⟨_, rfl⟩
  have X1 : Hid (Gr U w U1 W1 ∧ RH W1 d P U1 s1 B1 ∧ s1 = hmissT s) := by
    rw [hW, hs1, hB1, hU1, hm]
    exact ⟨Gr.same o1 (by simp [x.kd.2]), x1, rfl⟩
  have HS1 : Hid (s1.ss < 4294967296 ∧ s1.st = 1) := by rw [hs1]; exact ⟨hv.ss, hst⟩
  rw [hst] at c15
  clear h x hv hL hm o1 x1 hs1 hst hB1 hU1
  go_enter Tryz.func39, Tryz.ntmps39
  go_upto_region 14 with fail
  rw [← hW]
  clear hW c15 c17 c18 c19 c20 z15 z19 z20
  obtain ⟨gX, xX, eX⟩ := X1.out
  have t0 : W1.cell? ⟨d, 0, none⟩ = some (.int .u32 (P.c : Nat)) := cell_of_row W1 d 0 _ _ _ xX.dev
  have t1 : W1.cell? ⟨d, 1, none⟩ = some (.int .i64 (P.o : Nat)) := cell_of_row W1 d 1 _ _ _ xX.dev
  have t2 : W1.cell? ⟨d, 2, none⟩ = some (.int .i64 (P.i : Nat)) := cell_of_row W1 d 2 _ _ _ xX.dev
  have t3 : W1.cell? ⟨d, 3, none⟩ = some (.int .i64 (P.t : Nat)) := cell_of_row W1 d 3 _ _ _ xX.dev
  have t4 : W1.cell? ⟨d, 4, none⟩ = some (.int .u32 (P.n : Nat)) := cell_of_row W1 d 4 _ _ _ xX.dev
  have t15 : W1.cell? ⟨d, 15, none⟩ = some (.int .i64 (s1.st : Nat)) := cell_of_row W1 d 15 _ _ _ xX.dev
  have t16 : W1.cell? ⟨d, 16, none⟩ = some (.int .u32 (s1.ss : Nat)) := cell_of_row W1 d 16 _ _ _ xX.dev
  have hss1 : s1.ss < 4294967296 := HS1.out.1
  have hpok := xX.pok
  rw [show s1.st = 1 from HS1.out.2] at t15
  have hS := rsign_good P.c P.o P.i P.t P.n W1 hpok.c hpok.n hpok.ok
  have HN : Hid (hnext P s1 = (s1, encF 1 P.c 0 0 0 4 (dsg P))) := if_pos HS1.out.2
  clear gX xX eX hpok
  go_wp2_with fail
  refine hS.mono ?_
  rintro e w8 ⟨g8, rfl, H8⟩
  have hF := hrframe_any d P U1 s1 1 0 0 0 (some ⟨g8, 0, none⟩) 4 4 (dsg P) w8 ⟨B1, X1.out.2.1.newd (Off.of_below H8.out.2)⟩ H8.out.1 (by omega) (by omega)
  clear hS t0 t1 t2 t3 t4 t15 t16
  go_wp2_with fail
  refine hF.mono ?_
  rintro e w9 ⟨v9, rfl, H9⟩
  clear hF
  go_wp2_with fail
  go_ret2
  refine ⟨v9, rfl, ?_⟩
  rw [← X1.out.2.2, HN.out]
  exact OutRh.mk (X1.out.1.trans (Gr.below H8.out.2)) ⟨B1, X1.out.2.1.newd (Off.of_below H8.out.2)⟩ H9.out.1 H9.out.2
set_option maxRecDepth 100000 in
set_option maxHeartbeats 3200000 in
theorem hsend2n (d : Nat) (P : Pm) (U : List Nat) (s : Sh) (w : World) (h : RVh w d P U s) (hv : Ih P s) (hL : s.L.length < 800000) (hst : s.st = 2) (hw : s.wt = false) :
    Calls Tryz.prog 39 #[.pointer (some ⟨d, 0, none⟩)] w fun e w' => ∃ v, e = .returned (.tuple #[v, .int .i64 0]) ∧ Hid (OutRh U w w' d P (hnext P (hmissT s)).1 (hnext P (hmissT s)).2 v) := by
  obtain ⟨B, x⟩ := id h
  have hdl := x.dlt
  have c15 : w.cell? ⟨d, 15, none⟩ = some (.int .i64 (s.st : Nat)) := cell_of_row w d 15 _ _ _ x.dev
  have c17 : w.cell? ⟨d, 17, none⟩ = some (.int .u32 (s.nm : Nat)) := cell_of_row w d 17 _ _ _ x.dev
  have c18 : w.cell? ⟨d, 18, none⟩ = some (.int .u32 (s.sn : Nat)) := cell_of_row w d 18 _ _ _ x.dev
  have c19 : w.cell? ⟨d, 19, none⟩ = some (.bool s.wt) := cell_of_row w d 19 _ _ _ x.dev
  have c20 : w.cell? ⟨d, 20, none⟩ = some (.int .i64 (s.ms : Nat)) := cell_of_row w d 20 _ _ _ x.dev
  have z15 := x.fz 15
  have z19 := x.fz 19
  have z20 := x.fz 20
  have HV : Hid (_) := And.intro hv hL
  have hm : hmissT s = { s with wt := true } := by unfold hmissT hmiss; rw [if_pos (.inr hw)]
  rw [hw] at c19
  have o1 := Off.setCell d 19 w (.bool true)
  have x1 := x.own (s' := { s with wt := true }) o1 (heap_setCell_same _ _ _ _ _ _ x.dev) ⟨rfl, rfl⟩ rfl rfl x.vok x.dcl
  obtain ⟨W1, hW⟩ : ∃ W1, W1 = w.setCell ⟨d, 19, none⟩ (.bool true) := ⟨_, rfl⟩
  obtain ⟨s1, hs1⟩ : ∃ s1, s1 = ({ s with wt := true } : Sh) := ⟨_, rfl⟩
  obtain ⟨B1, hB1⟩ : ∃ b, b = B := ⟨_, rfl⟩
  obtain ⟨U1, hU1⟩ : ∃ u, u = U := ⟨_, rfl⟩
  have X1 : Hid (Gr U w U1 W1 ∧ RH W1 d P U1 s1 B1 ∧ s1 = hmissT s) := by
    rw [hW, hs1, hB1, hU1, hm]
    exact ⟨Gr.same o1 (by simp [x.kd.2]), x1, rfl⟩
  have HS1 : Hid (s1.ss < 4294967296 ∧ s1.st = 2) := by rw [hs1]; exact ⟨hv.ss, hst⟩
  rw [hst] at c15
  clear h x hv hL hm o1 x1 hs1 hst hB1 hU1 hw
  go_enter Tryz.func39, Tryz.ntmps39
  go_upto_region 14 with fail
  rw [← hW]
  clear hW c15 c17 c18 c19 c20 z15 z19 z20
  obtain ⟨gX, xX, eX⟩ := X1.out
  have t0 : W1.cell? ⟨d, 0, none⟩ = some (.int .u32 (P.c : Nat)) := cell_of_row W1 d 0 _ _ _ xX.dev
  have t1 : W1.cell? ⟨d, 1, none⟩ = some (.int .i64 (P.o : Nat)) := cell_of_row W1 d 1 _ _ _ xX.dev
  have t2 : W1.cell? ⟨d, 2, none⟩ = some (.int .i64 (P.i : Nat)) := cell_of_row W1 d 2 _ _ _ xX.dev
  have t3 : W1.cell? ⟨d, 3, none⟩ = some (.int .i64 (P.t : Nat)) := cell_of_row W1 d 3 _ _ _ xX.dev
  have t4 : W1.cell? ⟨d, 4, none⟩ = some (.int .u32 (P.n : Nat)) := cell_of_row W1 d 4 _ _ _ xX.dev
  have t15 : W1.cell? ⟨d, 15, none⟩ = some (.int .i64 (s1.st : Nat)) := cell_of_row W1 d 15 _ _ _ xX.dev
  have t16 : W1.cell? ⟨d, 16, none⟩ = some (.int .u32 (s1.ss : Nat)) := cell_of_row W1 d 16 _ _ _ xX.dev
  have hss1 : s1.ss < 4294967296 := HS1.out.1
  have hpok := xX.pok
  rw [show s1.st = 2 from HS1.out.2] at t15
  have hS : ∀ wx, Below W1.heap.size W1 wx → Calls Tryz.prog 48 #[.agg #[.int .u32 (P.c : Nat), .int .i64 (P.o : Nat), .int .i64 (P.i : Nat), .int .i64 (P.t : Nat), .int .u32 (P.n : Nat)]] wx fun e w' => ∃ g, e = .returned (.slice (some ⟨g, 0, none⟩) 4 4) ∧ Hid (Row8 w' (some ⟨g, 0, none⟩) 4 4 (dsg P) ∧ Below W1.heap.size W1 w') := by
    intro wx hx
    refine (rsign_good P.c P.o P.i P.t P.n wx hpok.c hpok.n hpok.ok).mono ?_
    rintro e w' ⟨g, rfl, H⟩
    exact ⟨g, rfl, H.out.1, hx.trans (H.out.2.mono hx.size)⟩
  have hF : ∀ wx g, Below W1.heap.size W1 wx → Row8 wx (some ⟨g, 0, none⟩) 4 4 (dsg P) → Calls Tryz.prog 94 #[.pointer (some ⟨d, 0, none⟩), .int .i64 2, .int .u32 (s1.ss : Nat), .int .u32 0, .int .i64 0, .slice (some ⟨g, 0, none⟩) 4 4] wx fun e w' => ∃ v, e = .returned v ∧ Hid (OutRh U w w' d P s1 (encF 2 P.c s1.ss 0 0 4 (dsg P)) v) := by
    intro wx g hx hrow
    refine (hrframe_any d P U1 s1 2 s1.ss 0 0 (some ⟨g, 0, none⟩) 4 4 (dsg P) wx ⟨B1, xX.newd (Off.of_below hx)⟩ hrow hss1 (by omega)).mono ?_
    rintro e w' ⟨v, rfl, H⟩
    exact ⟨v, rfl, OutRh.mk (gX.trans (Gr.below hx)) ⟨B1, xX.newd (Off.of_below hx)⟩ H.out.1 H.out.2⟩
  have HN : Hid (hnext P s1 = (s1, encF 2 P.c s1.ss 0 0 4 (dsg P))) := by
    show _ = _
    unfold hnext
    rw [if_neg (by rw [HS1.out.2]; omega), if_pos HS1.out.2]
  have hdW := xX.dlt
  have t16x : Hid (∀ wx, Below W1.heap.size W1 wx → wx.cell? ⟨d, 16, none⟩ = some (.int .u32 (s1.ss : Nat))) := fun wx hx => (World.cell?_of_block (hx.block d hdW)).trans t16
  clear gX xX eX hpok
  go_wp2_with fail
  go_region_with (first
    | (go_at_call 48; refine (hS _ (by repeat (first | with_reducible exact Below.refl _ _ | with_reducible assumption | with_reducible refine below_drewN ?_ _ | with_reducible refine Below.drew ?_))).mono ?_; rintro e w8 ⟨g8, rfl, H8⟩; have b8 := H8.out.2; have y16 := t16x.out w8 b8)
    | (go_at_call 94; refine (hF _ g8 H8.out.2 H8.out.1).mono ?_; rintro e w9 ⟨v9, rfl, H9⟩))
  all_goals
    clear hS hF t0 t1 t2 t3 t4 t15 t16 y16
    go_wp2_with fail
    go_ret2
    refine ⟨v9, rfl, ?_⟩
    rw [← X1.out.2.2, HN.out]
    exact H9
set_option maxRecDepth 100000 in
set_option maxHeartbeats 3200000 in
theorem hsend3n (d : Nat) (P : Pm) (U : List Nat) (s : Sh) (w : World) (h : RVh w d P U s) (hv : Ih P s) (hL : s.L.length < 800000) (hst : s.st = 3) (hw : s.wt = false) :
    Calls Tryz.prog 39 #[.pointer (some ⟨d, 0, none⟩)] w fun e w' => ∃ v, e = .returned (.tuple #[v, .int .i64 0]) ∧ Hid (OutRh U w w' d P (hnext P (hmissT s)).1 (hnext P (hmissT s)).2 v) := by
  obtain ⟨B, x⟩ := id h
  have hdl := x.dlt
  have c15 : w.cell? ⟨d, 15, none⟩ = some (.int .i64 (s.st : Nat)) := cell_of_row w d 15 _ _ _ x.dev
  have c17 : w.cell? ⟨d, 17, none⟩ = some (.int .u32 (s.nm : Nat)) := cell_of_row w d 17 _ _ _ x.dev
  have c18 : w.cell? ⟨d, 18, none⟩ = some (.int .u32 (s.sn : Nat)) := cell_of_row w d 18 _ _ _ x.dev
  have c19 : w.cell? ⟨d, 19, none⟩ = some (.bool s.wt) := cell_of_row w d 19 _ _ _ x.dev
  have c20 : w.cell? ⟨d, 20, none⟩ = some (.int .i64 (s.ms : Nat)) := cell_of_row w d 20 _ _ _ x.dev
  have z15 := x.fz 15
  have z19 := x.fz 19
  have z20 := x.fz 20
  have HV : Hid (_) := And.intro hv hL
  have hm : hmissT s = { s with wt := true } := by unfold hmissT hmiss; rw [if_pos (.inr hw)]
  rw [hw] at c19
  have o1 := Off.setCell d 19 w (.bool true)
  have x1 := x.own (s' := { s with wt := true }) o1 (heap_setCell_same _ _ _ _ _ _ x.dev) ⟨rfl, rfl⟩ rfl rfl x.vok x.dcl
  obtain ⟨W1, hW⟩ : ∃ W1, W1 = w.setCell ⟨d, 19, none⟩ (.bool true) := ⟨_, rfl⟩
  obtain ⟨s1, hs1⟩ : ∃ s1, s1 = ({ s with wt := true } : Sh) := ⟨_, rfl⟩
  obtain ⟨B1, hB1⟩ : ∃ b, b = B := ⟨_, rfl⟩
  obtain ⟨U1, hU1⟩ : ∃ u, u = U := ⟨_, rfl⟩
  have X1 : Hid (Gr U w U1 W1 ∧ RH W1 d P U1 s1 B1 ∧ s1 = hmissT s) := by
    rw [hW, hs1, hB1, hU1, hm]
    exact ⟨Gr.same o1 (by simp [x.kd.2]), x1, rfl⟩
  have HS1 : Hid (s1.ss < 4294967296 ∧ s1.st = 3) := by rw [hs1]; exact ⟨hv.ss, hst⟩
  rw [hst] at c15
  clear h x hv hL hm o1 x1 hs1 hst hB1 hU1 hw
  go_enter Tryz.func39, Tryz.ntmps39
  go_upto_region 14 with fail
  rw [← hW]
  clear hW c15 c17 c18 c19 c20 z15 z19 z20
  obtain ⟨gX, xX, eX⟩ := X1.out
  have t0 : W1.cell? ⟨d, 0, none⟩ = some (.int .u32 (P.c : Nat)) := cell_of_row W1 d 0 _ _ _ xX.dev
  have t1 : W1.cell? ⟨d, 1, none⟩ = some (.int .i64 (P.o : Nat)) := cell_of_row W1 d 1 _ _ _ xX.dev
  have t2 : W1.cell? ⟨d, 2, none⟩ = some (.int .i64 (P.i : Nat)) := cell_of_row W1 d 2 _ _ _ xX.dev
  have t3 : W1.cell? ⟨d, 3, none⟩ = some (.int .i64 (P.t : Nat)) := cell_of_row W1 d 3 _ _ _ xX.dev
  have t4 : W1.cell? ⟨d, 4, none⟩ = some (.int .u32 (P.n : Nat)) := cell_of_row W1 d 4 _ _ _ xX.dev
  have t15 : W1.cell? ⟨d, 15, none⟩ = some (.int .i64 (s1.st : Nat)) := cell_of_row W1 d 15 _ _ _ xX.dev
  have t16 : W1.cell? ⟨d, 16, none⟩ = some (.int .u32 (s1.ss : Nat)) := cell_of_row W1 d 16 _ _ _ xX.dev
  have hss1 : s1.ss < 4294967296 := HS1.out.1
  have hpok := xX.pok
  rw [show s1.st = 3 from HS1.out.2] at t15
  have hF := hrframe_any d P U1 s1 3 s1.ss 0 0 none 0 0 (fun _ => 0) W1 ⟨B1, xX⟩ (row_nilX _ _) hss1 (by omega)
  have HN : Hid (hnext P s1 = (s1, encF 3 P.c s1.ss 0 0 0 (fun _ => 0))) := by
    show _ = _
    unfold hnext
    rw [if_neg (by rw [HS1.out.2]; omega), if_neg (by rw [HS1.out.2]; omega), if_pos HS1.out.2]
  clear gX xX eX hpok
  go_wp2_with fail
  refine hF.mono ?_
  rintro e w9 ⟨v9, rfl, H9⟩
  clear hF t0 t1 t2 t3 t4 t15 t16
  go_wp2_with fail
  go_ret2
  refine ⟨v9, rfl, ?_⟩
  rw [← X1.out.2.2, HN.out]
  exact OutRh.mk X1.out.1 ⟨B1, X1.out.2.1⟩ H9.out.1 H9.out.2
end Go.Proofs.YtndjepeolamedaaGreat
