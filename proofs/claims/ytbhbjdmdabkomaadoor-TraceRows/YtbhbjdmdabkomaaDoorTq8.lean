/- Layer 21: the document's Line. (gentq7.py) -/
import Derived.Test.YtbhbjdmdabkomaaDoorTq7
namespace Go.Proofs.YtbhbjdmdabkomaaDoor
set_option maxRecDepth 100000
open Go.RowKit Go.Maps
set_option maxRecDepth 100000
set_option maxHeartbeats 4000000 in
theorem rline (r : Rx) (hr : r.Ok) (hs : r.Sh) (x : Rd) (w : World) (R : r.Rows x w) : Calls Tryd.prog 43 #[.agg #[.int .i64 r.m.k, .int .i64 r.m.c, .int .i64 r.m.s, .int .i64 r.m.f, .int .i64 r.m.a, .int .u32 (r.m.w : Nat), .int .i64 r.m.n, .bool r.m.h, .slice x.a1 r.m.l x.c1, .int .i64 r.cd, .int .i64 r.st, .int .i64 r.h.st, .int .u32 (r.h.se : Nat), .int .u32 (r.h.nu : Nat), .int .u32 (r.h.sn : Nat), .int .i64 r.h.si, .int .i64 r.h.la, .bool r.h.rq, .bool r.h.on, .slice x.a2 r.h.l x.c2, .int .i64 r.v.st, .int .u32 (r.v.se : Nat), .int .u32 (r.v.nu : Nat), .int .u32 (r.v.sn : Nat), .int .i64 r.v.si, .int .i64 r.v.la, .bool r.v.rq, .bool r.v.on, .slice x.a3 r.v.l x.c3]] w fun q w' => q = .returned (.tuple #[.string (tx r.line), .int .i64 r.m.err]) ∧ Below w.heap.size w w' := by
  obtain ⟨W, hW⟩ : ∃ W : World, w.alloc (.cells #[.int .i64 r.m.k, .int .i64 r.m.c, .int .i64 r.m.s, .int .i64 r.m.f, .int .i64 r.m.a, .int .u32 (r.m.w : Nat), .int .i64 r.m.n, .bool r.m.h, .slice x.a1 r.m.l x.c1, .int .i64 r.cd, .int .i64 r.st, .int .i64 r.h.st, .int .u32 (r.h.se : Nat), .int .u32 (r.h.nu : Nat), .int .u32 (r.h.sn : Nat), .int .i64 r.h.si, .int .i64 r.h.la, .bool r.h.rq, .bool r.h.on, .slice x.a2 r.h.l x.c2, .int .i64 r.v.st, .int .u32 (r.v.se : Nat), .int .u32 (r.v.nu : Nat), .int .u32 (r.v.sn : Nat), .int .i64 r.v.si, .int .i64 r.v.la, .bool r.v.rq, .bool r.v.on, .slice x.a3 r.v.l x.c3] 78) = W := ⟨_, rfl⟩
  have bW : Below w.heap.size w W := by rw [← hW]; exact belA (Below.refl _ _) _
  have rW : RxW W w.heap.size r x := by rw [← hW]; exact RxW.new w r x
  have hM := rmove r.m hr.m x.a1 x.c1 W (R.m.below bW) (by have := hs.m; omega)
  have HW : Hid (_) := And.intro bW (And.intro rW (And.intro (R.below bW) (And.intro hr hs)))
  obtain ⟨c0, c1, c2, c3, c4, c5, c6, c7, c8, c9, c10, c11, c12, c13, c14, c15, c16, c17, c18, c19, c20, c21, c22, c23, c24, c25, c26, c27, c28⟩ := rW.cells
  clear bW rW R hr hs
  by_cases hE : r.m.err = 0
  rotate_left
  · have gE : (r.m.err == 0) = false := by simpa using hE
    rw [if_neg hE] at hM
    have HL : Hid (tx r.line = ByteArray.mk #[]) := by
      show tx r.line = _
      unfold Rx.line
      rw [if_neg hE]
      rfl
    clear hE
    go_enter Tryd.func43, Tryd.ntmps43
    go_wp2_with fail
    try rw [hW]
    clear hW
    refine hM.mono ?_
    rintro q w1 ⟨rfl, b1⟩
    have HB1 : Hid (_) := b1
    clear hM b1 c0 c1 c2 c3 c4 c5 c6 c7 c8 c9 c10 c11 c12 c13 c14 c15 c16 c17 c18 c19 c20 c21 c22 c23 c24 c25 c26 c27 c28
    go_wp2_with fail
    go_ret2
    exact ⟨by rw [HL.out] <;> rfl, HW.out.1.trans (HB1.out.mono HW.out.1.size)⟩
  rw [if_pos hE, hE] at hM
  rw [hE]
  have HE : Hid (_) := hE
  obtain ⟨M, hMt⟩ : ∃ y, tx r.m.line = y := ⟨_, rfl⟩
  rw [hMt] at hM
  obtain ⟨A, hA⟩ : ∃ y, tx (Lib.itoa r.cd) = y := ⟨_, rfl⟩
  obtain ⟨S, hS⟩ : ∃ y, tx (Lib.itoa r.st) = y := ⟨_, rfl⟩
  obtain ⟨X1, hX1⟩ : ∃ y, tx r.j1 = y := ⟨_, rfl⟩
  obtain ⟨X2, hX2⟩ : ∃ y, tx r.j2 = y := ⟨_, rfl⟩
  have HX1 : Hid (_) := hX1
  have HX2 : Hid (_) := hX2
  have HS : Hid (_) := hS
  have lM : M.size ≤ 2000000 := by rw [← hMt, tx_size]; exact (Mv.line_len HW.out.2.2.2.1.m (by have := HW.out.2.2.2.2.m; omega)).1
  have lA : A.size ≤ 20 := by rw [← hA, tx_size]; exact itoa_len HW.out.2.2.2.1.cd.1 HW.out.2.2.2.1.cd.2
  have lS : S.size ≤ 20 := by rw [← hS, tx_size]; exact itoa_len HW.out.2.2.2.1.st.1 HW.out.2.2.2.1.st.2
  have l1 : X1.size ≤ 2000024 := by rw [← hX1, tx_size]; exact Rx.j1_len HW.out.2.2.2.1 HW.out.2.2.2.2
  have l2 : X2.size ≤ 2000050 := by rw [← hX2, tx_size]; exact Rx.j2_len HW.out.2.2.2.1 HW.out.2.2.2.2
  obtain ⟨Y1, p1, t1, z1⟩ := catS hMt (show tx [32, 45, 62, 32] = ByteArray.mk #[32, 45, 62, 32] from rfl)
  rw [show (ByteArray.mk #[32, 45, 62, 32]).size = 4 from rfl] at z1
  have p2 : Y1 ++ A = X1 := by rw [← t1, ← hA, ← hX1, tx_app]; rfl
  have s1 : ¬ 9223372036854775807 < M.size + 4 := by omega
  have s2 : ¬ 9223372036854775807 < Y1.size + A.size := by omega
  have hI := fun W => ncall r.cd HW.out.2.2.2.1.cd A hA W W (Below.refl _ _)
  have hJ := fun W => ncall r.st HW.out.2.2.2.1.st S hS W W (Below.refl _ _)
  clear hE hMt hA hX1 hX2 hS t1 z1 lM lA
  go_enter Tryd.func43, Tryd.ntmps43
  go_wp2_with fail
  try rw [hW]
  clear hW
  refine hM.mono ?_
  rintro q w1 ⟨rfl, b1⟩
  have HB1 : Hid (_) := b1
  clear hM b1 c0 c1 c2 c3 c4 c5 c6 c7 c8 c9 c10 c11 c12 c13 c14 c15 c16 c17 c18 c19 c20 c21 c22 c23 c24 c25 c26 c27 c28
  have cel : Hid (∀ wx, Below W.heap.size W wx → RxW wx w.heap.size r x ∧ r.Rows x wx) := fun wx bx => ⟨HW.out.2.1.below bx, HW.out.2.2.1.below bx⟩
  obtain ⟨c0, c1, c2, c3, c4, c5, c6, c7, c8, c9, c10, c11, c12, c13, c14, c15, c16, c17, c18, c19, c20, c21, c22, c23, c24, c25, c26, c27, c28⟩ := (cel.out w1 HB1.out).1.cells
  go_wp2_with fail
  refine (hI w1).mono ?_
  rintro q w2 ⟨_, rfl, rfl, b2⟩
  have HB2 : Hid (Below W.heap.size W w2) := belTS b2 HB1.out
  clear b2 hI c0 c1 c2 c3 c4 c5 c6 c7 c8 c9 c10 c11 c12 c13 c14 c15 c16 c17 c18 c19 c20 c21 c22 c23 c24 c25 c26 c27 c28
  obtain ⟨c0, c1, c2, c3, c4, c5, c6, c7, c8, c9, c10, c11, c12, c13, c14, c15, c16, c17, c18, c19, c20, c21, c22, c23, c24, c25, c26, c27, c28⟩ := (cel.out w2 HB2.out).1.cells
  obtain ⟨IN, hIN⟩ : ∃ y, decide (0 ≤ r.st) = y := ⟨_, rfl⟩
  have HIN : Hid (_) := hIN
  clear hIN
  go_upto_region 5 with fail
  clear p1 p2 s1 s2
  go_cut [23] (fun v wx => v = .bool IN ∧ wx = w2)
  case first =>
    by_cases h0 : 0 ≤ r.st
    · have e : IN = true := by rw [← HIN.out]; exact decide_eq_true h0
      go_wp2_with fail
      go_meet
      exact ⟨by rw [e], rfl⟩
    · have e : IN = false := by rw [← HIN.out]; exact decide_eq_false h0
      go_wp2_with fail
      go_meet
      exact ⟨by rw [e], rfl⟩
  case rest =>
  obtain ⟨rfl, rfl⟩ := hcut
  go_upto_if 23 with fail
  go_cut [4] (fun v wx => v = .string X2 ∧ Hid (Below W.heap.size W wx))
  case first =>
    cases IN with
    | false =>
      have e : X1 = X2 := by
        rw [← HX1.out, ← HX2.out]
        unfold Rx.j2
        rw [if_neg (of_decide_eq_false HIN.out)]
        simp
      go_wp2_with fail
      go_meet
      exact ⟨by rw [e], HB2⟩
    | true =>
      obtain ⟨Z1, p1, t1, z1⟩ := catS HX1.out (show tx [32, 115, 101, 110, 116, 32] = ByteArray.mk #[32, 115, 101, 110, 116, 32] from rfl)
      rw [show (ByteArray.mk #[32, 115, 101, 110, 116, 32]).size = 6 from rfl] at z1
      have p2 : Z1 ++ S = X2 := by
        rw [← t1, ← HS.out, ← HX2.out, tx_app]
        unfold Rx.j2
        rw [if_pos (of_decide_eq_true HIN.out)]
        simp
      have s1 : ¬ 9223372036854775807 < X1.size + 6 := by omega
      have s2 : ¬ 9223372036854775807 < Z1.size + S.size := by omega
      clear t1 z1
      go_wp2_with fail
      refine (hJ wc).mono ?_
      rintro q w5 ⟨_, rfl, rfl, b5⟩
      have HB5 : Hid (Below W.heap.size W w5) := belTS b5 HB2.out
      clear b5 hJ
      go_wp2_with fail
      go_meet
      exact ⟨rfl, HB5⟩
  case rest =>
    obtain ⟨rfl, H5⟩ := hcut
    clear c0 c1 c2 c3 c4 c5 c6 c7 c8 c9 c10 c11 c12 c13 c14 c15 c16 c17 c18 c19 c20 c21 c22 c23 c24 c25 c26 c27 c28 HB1 HB2 hJ
    obtain ⟨c0, c1, c2, c3, c4, c5, c6, c7, c8, c9, c10, c11, c12, c13, c14, c15, c16, c17, c18, c19, c20, c21, c22, c23, c24, c25, c26, c27, c28⟩ := (cel.out wc H5.out).1.cells
    have h1 := Ed.line_len HW.out.2.2.2.1.h
    have h2 := Ed.line_len HW.out.2.2.2.1.v
    have n1 := HW.out.2.2.2.2.h
    have n2 := HW.out.2.2.2.2.v
    obtain ⟨Hx, hHx⟩ : ∃ y, tx r.h.line = y := ⟨_, rfl⟩
    obtain ⟨Vx, hVx⟩ : ∃ y, tx r.v.line = y := ⟨_, rfl⟩
    rw [← tx_size, hHx] at h1
    rw [← tx_size, hVx] at h2
    obtain ⟨Y1, p1, t1, z1⟩ := catS HX2.out (show tx [32, 104, 58] = ByteArray.mk #[32, 104, 58] from rfl)
    rw [show (ByteArray.mk #[32, 104, 58]).size = 3 from rfl] at z1
    obtain ⟨Y2, p2, t2, z2⟩ := catS t1 hHx
    obtain ⟨Y3, p3, t3, z3⟩ := catS t2 (show tx [32, 100, 58] = ByteArray.mk #[32, 100, 58] from rfl)
    rw [show (ByteArray.mk #[32, 100, 58]).size = 3 from rfl] at z3
    obtain ⟨Y4, p4, t4, z4⟩ := catS t3 hVx
    have s1 : ¬ 9223372036854775807 < X2.size + 3 := by omega
    have s2 : ¬ 9223372036854775807 < Y1.size + Hx.size := by omega
    have s3 : ¬ 9223372036854775807 < Y2.size + 3 := by omega
    have s4 : ¬ 9223372036854775807 < Y3.size + Vx.size := by omega
    have HL : Hid (tx r.line = Y4) := by
      show tx r.line = _
      unfold Rx.line
      rw [if_pos HE.out, r.full_eq]
      exact t4
    have e1 : ∀ wx, Below wc.heap.size wc wx → Calls Tryd.prog 45 #[.agg #[.int .i64 r.h.st, .int .u32 (r.h.se : Nat), .int .u32 (r.h.nu : Nat), .int .u32 (r.h.sn : Nat), .int .i64 r.h.si, .int .i64 r.h.la, .bool r.h.rq, .bool r.h.on, .slice x.a2 r.h.l x.c2]] wx fun q w' => ∃ v, q = .returned v ∧ (v = .string Hx ∧ Below wc.heap.size wc w') := fun wx bx => by
      refine (rend r.h HW.out.2.2.2.1.h x.a2 x.c2 wx ((cel.out wx (belTS bx H5.out)).2.h) (by omega)).mono ?_
      rintro q w' ⟨rfl, b⟩
      exact ⟨_, rfl, by rw [hHx], belTS b bx⟩
    have e2 : ∀ wx, Below wc.heap.size wc wx → Calls Tryd.prog 45 #[.agg #[.int .i64 r.v.st, .int .u32 (r.v.se : Nat), .int .u32 (r.v.nu : Nat), .int .u32 (r.v.sn : Nat), .int .i64 r.v.si, .int .i64 r.v.la, .bool r.v.rq, .bool r.v.on, .slice x.a3 r.v.l x.c3]] wx fun q w' => ∃ v, q = .returned v ∧ (v = .string Vx ∧ Below wc.heap.size wc w') := fun wx bx => by
      refine (rend r.v HW.out.2.2.2.1.v x.a3 x.c3 wx ((cel.out wx (belTS bx H5.out)).2.v) (by omega)).mono ?_
      rintro q w' ⟨rfl, b⟩
      exact ⟨_, rfl, by rw [hVx], belTS b bx⟩
    have hS : ∀ wx, Below wc.heap.size wc wx → wx.cell? ⟨w.heap.size, 11, none⟩ = some (.int .i64 r.h.st) ∧ wx.cell? ⟨w.heap.size, 12, none⟩ = some (.int .u32 (r.h.se : Nat)) ∧ wx.cell? ⟨w.heap.size, 13, none⟩ = some (.int .u32 (r.h.nu : Nat)) ∧ wx.cell? ⟨w.heap.size, 14, none⟩ = some (.int .u32 (r.h.sn : Nat)) ∧ wx.cell? ⟨w.heap.size, 15, none⟩ = some (.int .i64 r.h.si) ∧ wx.cell? ⟨w.heap.size, 16, none⟩ = some (.int .i64 r.h.la) ∧ wx.cell? ⟨w.heap.size, 17, none⟩ = some (.bool r.h.rq) ∧ wx.cell? ⟨w.heap.size, 18, none⟩ = some (.bool r.h.on) ∧ wx.cell? ⟨w.heap.size, 19, none⟩ = some (.slice x.a2 r.h.l x.c2) ∧ wx.cell? ⟨w.heap.size, 20, none⟩ = some (.int .i64 r.v.st) ∧ wx.cell? ⟨w.heap.size, 21, none⟩ = some (.int .u32 (r.v.se : Nat)) ∧ wx.cell? ⟨w.heap.size, 22, none⟩ = some (.int .u32 (r.v.nu : Nat)) ∧ wx.cell? ⟨w.heap.size, 23, none⟩ = some (.int .u32 (r.v.sn : Nat)) ∧ wx.cell? ⟨w.heap.size, 24, none⟩ = some (.int .i64 r.v.si) ∧ wx.cell? ⟨w.heap.size, 25, none⟩ = some (.int .i64 r.v.la) ∧ wx.cell? ⟨w.heap.size, 26, none⟩ = some (.bool r.v.rq) ∧ wx.cell? ⟨w.heap.size, 27, none⟩ = some (.bool r.v.on) ∧ wx.cell? ⟨w.heap.size, 28, none⟩ = some (.slice x.a3 r.v.l x.c3) := fun wx bx => ⟨cellB c11 bx, cellB c12 bx, cellB c13 bx, cellB c14 bx, cellB c15 bx, cellB c16 bx, cellB c17 bx, cellB c18 bx, cellB c19 bx, cellB c20 bx, cellB c21 bx, cellB c22 bx, cellB c23 bx, cellB c24 bx, cellB c25 bx, cellB c26 bx, cellB c27 bx, cellB c28 bx⟩
    have B0 : Below wc.heap.size wc wc.drew := Below.drew (Below.refl _ _)
    have HSd := hS _ B0
    clear t1 t2 t3 t4 z1 z2 z3 z4 h1 h2 n1 n2 hHx hVx
    go_wp2_with fail
    go_region_held3 (fun wx => wx.cell? ⟨w.heap.size, 11, none⟩ = some (.int .i64 r.h.st) ∧ wx.cell? ⟨w.heap.size, 12, none⟩ = some (.int .u32 (r.h.se : Nat)) ∧ wx.cell? ⟨w.heap.size, 13, none⟩ = some (.int .u32 (r.h.nu : Nat)) ∧ wx.cell? ⟨w.heap.size, 14, none⟩ = some (.int .u32 (r.h.sn : Nat)) ∧ wx.cell? ⟨w.heap.size, 15, none⟩ = some (.int .i64 r.h.si) ∧ wx.cell? ⟨w.heap.size, 16, none⟩ = some (.int .i64 r.h.la) ∧ wx.cell? ⟨w.heap.size, 17, none⟩ = some (.bool r.h.rq) ∧ wx.cell? ⟨w.heap.size, 18, none⟩ = some (.bool r.h.on) ∧ wx.cell? ⟨w.heap.size, 19, none⟩ = some (.slice x.a2 r.h.l x.c2) ∧ wx.cell? ⟨w.heap.size, 20, none⟩ = some (.int .i64 r.v.st) ∧ wx.cell? ⟨w.heap.size, 21, none⟩ = some (.int .u32 (r.v.se : Nat)) ∧ wx.cell? ⟨w.heap.size, 22, none⟩ = some (.int .u32 (r.v.nu : Nat)) ∧ wx.cell? ⟨w.heap.size, 23, none⟩ = some (.int .u32 (r.v.sn : Nat)) ∧ wx.cell? ⟨w.heap.size, 24, none⟩ = some (.int .i64 r.v.si) ∧ wx.cell? ⟨w.heap.size, 25, none⟩ = some (.int .i64 r.v.la) ∧ wx.cell? ⟨w.heap.size, 26, none⟩ = some (.bool r.v.rq) ∧ wx.cell? ⟨w.heap.size, 27, none⟩ = some (.bool r.v.on) ∧ wx.cell? ⟨w.heap.size, 28, none⟩ = some (.slice x.a3 r.v.l x.c3)) (first | assumption | exact hS _ (by assumption) | exact hS _ (belA (by assumption) _)) (first
      | (refine step_callS 45 #[.tmp 33] #[76] rfl (by kernel_rfl) #[.agg #[.int .i64 r.h.st, .int .u32 (r.h.se : Nat), .int .u32 (r.h.nu : Nat), .int .u32 (r.h.sn : Nat), .int .i64 r.h.si, .int .i64 r.h.la, .bool r.h.rq, .bool r.h.on, .slice x.a2 r.h.l x.c2]] (by kernel_rfl) (e1 _ (by assumption)) ?_; rintro y v1 ⟨rfl, b1⟩)
      | (refine step_callS 45 #[.tmp 38] #[76] rfl (by kernel_rfl) #[.agg #[.int .i64 r.v.st, .int .u32 (r.v.se : Nat), .int .u32 (r.v.nu : Nat), .int .u32 (r.v.sn : Nat), .int .i64 r.v.si, .int .i64 r.v.la, .bool r.v.rq, .bool r.v.on, .slice x.a3 r.v.l x.c3]] (by kernel_rfl) (e2 _ (by assumption)) ?_; rintro y v2 ⟨rfl, b2⟩)
      | fail)
    have H9 : Hid (Below W.heap.size W v2) := belTS b2 H5.out
    rename (World.cell? _ _ = _ ∧ _) => hHd
    clear hHd hS HSd B0 e1 e2 b1 b2 H5 c0 c1 c2 c3 c4 c5 c6 c7 c8 c9 c10 c11 c12 c13 c14 c15 c16 c17 c18 c19 c20 c21 c22 c23 c24 c25 c26 c27 c28
    go_wp2_with fail
    go_ret2
    exact ⟨by rw [HL.out] <;> rfl, HW.out.1.trans (H9.out.mono HW.out.1.size)⟩
end Go.Proofs.YtbhbjdmdabkomaaDoor
