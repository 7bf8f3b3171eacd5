/- Part 45 of the texts on which the proof rests: contracts of Go functions. -/
import Derived.Deep.RegionHeld3
import Derived.Test.YthlgahkoignnkaaPkG43
namespace Go.Proofs.Ythlgahkoignnkaa
open Go.RowKit Go.Maps Go.Sort
set_option maxRecDepth 100000
theorem hsmall (i : Nat) {len : Nat} (h : i < len) (hl : len ≤ 300) : IntKind.i64.wrap (((i : Nat) : Int) + 1) = ((i + 1 : Nat) : Int) := by
  rw [IntKind.wrap_i64]
  omega
noncomputable def jL : Ju := ju0 1 (fun _ => pgS.t) (fun _ => pgS.t)
set_option maxHeartbeats 3000000 in
theorem ghostNil_walk (a0 : Option Addr) (len0 cap0 : Nat) (w : World) (w0 : OpRow w a0 len0) :
    Calls Try.prog 5 #[.slice a0 len0 cap0] w fun e w' => e = .returned (.bool true) ∧ Below w.heap.size w w' := by
  obtain ⟨F, f0, o0⟩ := w0.facts
  have HW : Hid (_) := And.intro f0 o0
  clear f0 o0 w0
  have hAw := fun wx => awake18 wx
  go_enter Try.func5, Try.ntmps5
  go_wp2_with fail
  refine (hAw _).mono ?_
  rintro e wa ⟨rfl, ba⟩
  clear hAw
  have HBa : Hid (_) := ba
  clear ba
  by_cases hl0 : (300 : Int) < ((len0 : Nat) : Int)
  · go_wp2_with fail
    go_ret
    exact ⟨rfl, HBa.out⟩
  have HL : Hid (len0 ≤ 300) := by show len0 ≤ 300; omega
  go_upto_region 6 with fail
  go_cut [32] (fun x wx => x = .bool false ∧ Hid (Below w.heap.size w wx))
  case first =>
    have hVn := fun wx => gverdict_nil wx
    have hSn := fun f a cap wx => gsee_nil f a cap wx
    have hve := fun wx => ver_same 0 0 wx
    by_cases h0 : 0 < len0
    · have h0' : (0 : Int) < ((len0 : Nat) : Int) := by omega
      go_wp2_with fail
      refine (hVn _).mono ?_
      rintro e wb ⟨rfl, bb⟩
      have b2 : Below w.heap.size w wb := HBa.out.trans (bb.mono HBa.out.size)
      obtain ⟨q, off, da, dc, ea, c0, c1, c2, c3, c4, c5, c6, c7, r⟩ := (HW.out.1.below b2) 0 h0
      subst ea
      rw [Nat.zero_mul, Nat.add_zero] at c0 c1 c2 c3 c4 c5 c6 c7
      have HB2 : Hid (_) := b2
      clear b2 bb hVn r
      go_wp2_with fail
      refine (hSn _ _ _ _).mono ?_
      rintro e wc1 ⟨rfl, b3⟩
      have HB3 : Hid (Below w.heap.size w wc1) := HB2.out.trans (b3.mono HB2.out.size)
      clear HB2 b3 hSn c0 c1 c2 c3 c4 c5 c6 c7
      go_wp2_with fail
      go_meet
      exact ⟨rfl, HB3⟩
    · have h0' : ¬ (0 : Int) < ((len0 : Nat) : Int) := by omega
      go_wp2_with fail
      refine (hVn _).mono ?_
      rintro e wb ⟨rfl, bb⟩
      have HB3 : Hid (Below w.heap.size w wb) := HBa.out.trans (bb.mono HBa.out.size)
      clear bb hVn hSn
      go_wp2_with fail
      go_meet
      exact ⟨rfl, HB3⟩
  case rest =>
    obtain ⟨rfl, H⟩ := hcut
    obtain ⟨wd, hwd⟩ : ∃ x, wc = x := ⟨_, rfl⟩
    rw [hwd] at H ⊢
    clear hwd wc HBa wa
    have hLo := fun wx => glone wx
    go_wp2_with fail
    refine (hLo _).mono ?_
    rintro e wb ⟨p0, p1, rfl, hb⟩
    clear hLo
    have hCp : ∀ wx, Below w.heap.size w wx → Calls Try.prog 12 #[.slice a0 len0 cap0] wx fun r w' => ∃ a' c, r = .returned (.slice a' len0 c) ∧ Hid (Below wx.heap.size wx w' ∧ ∃ g A C, 0 < len0 → a' = some ⟨g, 0, none⟩ ∧ CqN wx w' g c len0 len0 F A C) := fun wx bx =>
      gcopyN a0 cap0 len0 F wx (by have := HL.out; omega) (HW.out.1.below bx) HW.out.2
    obtain ⟨gn, hgn⟩ : ∃ n, wb.heap.size = n := ⟨_, rfl⟩
    obtain ⟨Wn, hWn⟩ : ∃ W : World, wb.alloc (.cells #[.slice p0 1 1, .slice p1 1 1, .int .u32 50] 25) = W := ⟨_, rfl⟩
    have b1 : Below wb.heap.size wb Wn := by
      rw [← hWn]
      exact belowG (Below.refl _ _) _
    have e0 : Wn.heap[gn]? = some (.cells #[.slice p0 1 1, .slice p1 1 1, .int .u32 50] 25 (0, 0)) := by
      rw [← hWn, ← hgn]
      exact heap_alloc_new _ _
    have HB : Hid (Below w.heap.size w Wn) := ((H.out.trans (hb.out.2.2.mono H.out.size)).trans (b1.mono (H.out.trans (hb.out.2.2.mono H.out.size)).size))
    have q0 := hb.out.1.below b1
    have q1 := hb.out.2.1.below b1
    have HQ : Hid (_) := And.intro q0 (And.intro q1 e0)
    clear q0 q1 b1 hb H
    go_wp2_with fail
    try rw [hWn]
    try rw [hgn]
    clear hWn hgn
    refine (hCp _ HB.out).mono ?_
    rintro e Wc ⟨a', c', rfl, hc⟩
    clear hCp
    obtain ⟨bc, g, A, C, hq⟩ := hc.out
    obtain ⟨q0, q1, e0⟩ := HQ.out
    have e1 := (bc.block gn (Array.getElem?_eq_some_iff.1 e0).1).trans e0
    have x0 := cell_of_row Wc gn 0 _ _ _ e1
    have x1 := cell_of_row Wc gn 1 _ _ _ e1
    have x2 := cell_of_row Wc gn 2 _ _ _ e1
    have HC : Hid (_) := And.intro bc (And.intro (q0.below bc) (And.intro (q1.below bc) e1))
    have HA : Hid (_) := hq
    have hN := gnew p0 1 1 (fun _ => pgS) p1 1 1 (fun _ => pgS) 50 Wc (q0.below bc) (q1.below bc) 1 rfl (by omega)
    clear bc q0 q1 e0 e1 hq hc HQ
    go_wp2_with fail
    refine hN.mono ?_
    clear hN
    rintro e W1 ⟨jb, rfl, h1⟩
    obtain ⟨g1, cap1, ob1, k1, k2, k3, b1, hJ1⟩ := h1.out
    obtain ⟨bc, q0, q1, e1⟩ := HC.out
    have e2 := (b1.block gn (Array.getElem?_eq_some_iff.1 e1).1).trans e1
    have y0 := cell_of_row W1 gn 0 _ _ _ e2
    have y1 := cell_of_row W1 gn 1 _ _ _ e2
    have y2 := cell_of_row W1 gn 2 _ _ _ e2
    have hN := rnew p0 1 1 (fun _ => pgS) p1 1 1 (fun _ => pgS) 50 W1 (q0.below b1) (q1.below b1) 1 rfl (by omega)
    have HG : Hid (Below Wc.heap.size Wc W1 ∧ ∃ L, GS W1 Wc.heap.size L jb 0 jL) := ⟨b1, GS.made k1 k2 k3 hJ1⟩
    clear b1 bc q0 q1 e1 e2 h1 k1 k2 k3 hJ1 x0 x1 x2
    go_wp2_with fail
    refine hN.mono ?_
    clear hN
    rintro e W2 ⟨rfl, h2⟩
    have HI0 : Hid (NI w Wc W2 len0 0 F A jb (W1.heap.size + 1) 0 jL) := by
      obtain ⟨vE, vS, b, hs⟩ := h2.out
      obtain ⟨b1, LG, hG⟩ := HG.out
      obtain ⟨LR, hR⟩ := RSS.made hs (by omega)
      have b2 := hs.bel
      have bw : Below w.heap.size w Wc := HB.out.trans (HC.out.1.mono HB.out.size)
      have b12 : Below Wc.heap.size Wc W2 := b1.trans (b2.mono b1.size)
      exact ⟨JJ.made hG b2 hR b1.size, bw.trans (b12.mono bw.size), fun q hq _ => b12.block q hq⟩
    obtain ⟨p, hp⟩ : ∃ n, W1.heap.size + 1 = n := ⟨_, rfl⟩
    rw [hp] at HI0 ⊢
    have HWn : Hid (w.heap.size ≤ Wn.heap.size ∧ w.heap.size ≤ Wc.heap.size) := ⟨HB.out.size, Nat.le_trans HB.out.size HC.out.1.size⟩
    clear hp h2 HG y0 y1 y2 HC HB
    go_wp2_with fail
    go_loopw [2, 8, 9, 40, 41, 42, 43, 44, 45, 46, 47, 48, 49, 50, 51, 52, 53, 54, 55, 56, 57, 58, 59, 60, 61, 62, 63, 64, 65, 66, 67, 68, 69, 70, 71, 72, 73, 74, 75, 76, 77, 78, 79, 80, 81, 82, 83, 84, 85, 86, 87, 88, 89, 90, 91] (fun _ c _ _ _ _ _ _ _ _ _ _ _ _ _ _ _ _ _ _ _ _ _ _ _ _ _ _ _ _ _ _ _ _ _ _ _ _ _ _ _ _ _ _ _ _ _ _ _ _ _ _ _ _ _ wr => ∃ i : Nat, i ≤ len0 ∧ c = .int .i64 ((i : Nat) : Int) ∧ Hid (NI w Wc wr len0 i F A jb p i (sees jL F i))) (fun _ c _ _ _ _ _ _ _ _ _ _ _ _ _ _ _ _ _ _ _ _ _ _ _ _ _ _ _ _ _ _ _ _ _ _ _ _ _ _ _ _ _ _ _ _ _ _ _ _ _ _ _ _ _ _ => len0 - natG c)
    case atStart => exact ⟨0, by omega, rfl, HI0⟩
    case round =>
      obtain ⟨i, hi, rfl, HI⟩ := hrel
      clear HI0
      by_cases hlt : i < len0
      · have hlt' : ((i : Nat) : Int) < ((len0 : Nat) : Int) := by omega
        obtain ⟨ea, hQ⟩ := HA.out (by omega)
        subst ea
        have HQ : Hid (_) := hQ
        obtain ⟨q, off, da, dc, ea, c0, c1, c2, c3, c4, c5, c6, c7, r⟩ := HW.out.1 i hlt
        subst ea
        have hok := HW.out.2 i hlt
        have hd : ∀ y, da = some y → 0 < (F i).n → y.block < w.heap.size := fun y hy hn => by
          have h1 := r.src y hy 0 hn
          have hlt := World.block_lt_of_cell? w _ h1
          have hb : (y.add 0).block = y.block := by unfold Addr.add; split <;> rfl
          omega
        have hcc := HI.out.cells hQ hlt
        have hdt := HI.out.data hQ hlt (Nat.le_refl _)
        have hSz := HI.out.jj.size
        have hgl := hQ.bg
        have hS : ∀ wx, Below Wc.heap.size wr wx → wx.cell? ⟨g, i * 8, none⟩ = some (.int .i64 (F i).k) ∧ wx.cell? ⟨g, i * 8 + 1, none⟩ = some (.int .i64 (F i).c) ∧ wx.cell? ⟨g, i * 8 + 2, none⟩ = some (.int .i64 (F i).s) ∧ wx.cell? ⟨g, i * 8 + 3, none⟩ = some (.int .u32 ((F i).ss : Nat)) ∧ wx.cell? ⟨g, i * 8 + 4, none⟩ = some (.int .u32 ((F i).nn : Nat)) ∧ wx.cell? ⟨g, i * 8 + 5, none⟩ = some (.bool (F i).on) ∧ wx.cell? ⟨g, i * 8 + 6, none⟩ = some (.int .i64 (F i).cd) ∧ wx.cell? ⟨g, i * 8 + 7, none⟩ = some (.slice (A i) (F i).n (C i)) ∧ wx.cell? ⟨q, off + i * 8, none⟩ = some (.int .i64 (F i).k) ∧ wx.cell? ⟨q, off + i * 8 + 1, none⟩ = some (.int .i64 (F i).c) ∧ wx.cell? ⟨q, off + i * 8 + 2, none⟩ = some (.int .i64 (F i).s) ∧ wx.cell? ⟨q, off + i * 8 + 3, none⟩ = some (.int .u32 ((F i).ss : Nat)) ∧ wx.cell? ⟨q, off + i * 8 + 4, none⟩ = some (.int .u32 ((F i).nn : Nat)) ∧ wx.cell? ⟨q, off + i * 8 + 5, none⟩ = some (.bool (F i).on) ∧ wx.cell? ⟨q, off + i * 8 + 6, none⟩ = some (.int .i64 (F i).cd) ∧ wx.cell? ⟨q, off + i * 8 + 7, none⟩ = some (.slice da (F i).n dc) := fun wx bx =>
          have cg : ∀ j u, (faL (F i) (A i) (C i))[j]? = some u → wx.cell? ⟨g, i * 8 + j, none⟩ = some u := fun j u hu => (World.cell?_of_block (a := ⟨g, i * 8 + j, none⟩) (bx.block g hgl)).trans (hcc j u hu)
          have cq : ∀ j u, w.cell? ⟨q, j, none⟩ = some u → wx.cell? ⟨q, j, none⟩ = some u := fun j u hu => by
            have hl : q < w.heap.size := World.block_lt_of_cell? w _ hu
            have := HWn.out.2
            exact (World.cell?_of_block (a := ⟨q, j, none⟩) ((bx.block q (by omega)).trans (HI.out.bel.block q hl))).trans hu
          ⟨cg 0 _ rfl, cg 1 _ rfl, cg 2 _ rfl, cg 3 _ rfl, cg 4 _ rfl, cg 5 _ rfl, cg 6 _ rfl, cg 7 _ rfl, cq _ _ c0, cq _ _ c1, cq _ _ c2, cq _ _ c3, cq _ _ c4, cq _ _ c5, cq _ _ c6, cq _ _ c7⟩
        obtain ⟨J, hJ⟩ : ∃ x, sees jL F i = x := ⟨_, rfl⟩
        obtain ⟨J', hJ'⟩ : ∃ x, J.see (F i) = x := ⟨_, rfl⟩
        obtain ⟨R, hR⟩ : ∃ x, J'.r = x := ⟨_, rfl⟩
        obtain ⟨V, hV⟩ : ∃ x, J'.a = x := ⟨_, rfl⟩
        have HJ : Hid (sees jL F (i + 1) = J') := by rw [← hJ', ← hJ]; rfl
        have hG : ∀ wx, Below wr.heap.size wr wx → Calls Try.prog 13 #[.pointer (some ⟨jb, 0, none⟩), .agg #[.int .i64 (F i).k, .int .i64 (F i).c, .int .i64 (F i).s, .int .u32 ((F i).ss : Nat), .int .u32 ((F i).nn : Nat), .bool (F i).on, .int .i64 (F i).cd, .slice (A i) (F i).n (C i)]] wx fun r w' => ∃ x, r = .returned x ∧ (x = .agg #[.int .i64 R, .int .i64 V] ∧ Hid (JJ w' Wc.heap.size jb p (i + 1) J' i J) ∧ Below Wc.heap.size wr w') := fun wx bx => by
          have h1 := (HI.out.below bx).jj
          rw [hJ] at h1
          refine (jsee_g h1 (by have := HL.out; omega) (F i) hok (A i) (C i) (hdt.below bx)).mono ?_
          rintro r w' ⟨rfl, h⟩
          have h2 := h.out
          rw [hJ'] at h2
          exact ⟨_, rfl, by rw [hJ', hR, hV], h2.1, (bx.mono hSz).trans h2.2⟩
        have hRr : ∀ wx, Hid (JJ wx Wc.heap.size jb p (i + 1) J' i J) → Below Wc.heap.size wr wx → Calls Try.prog 14 #[.pointer (some ⟨p, 0, none⟩), .agg #[.int .i64 (F i).k, .int .i64 (F i).c, .int .i64 (F i).s, .int .u32 ((F i).ss : Nat), .int .u32 ((F i).nn : Nat), .bool (F i).on, .int .i64 (F i).cd, .slice da (F i).n dc]] wx fun r w' => ∃ x, r = .returned x ∧ (x = .agg #[.int .i64 R, .int .i64 V] ∧ Hid (JJ w' Wc.heap.size jb p (i + 1) J' (i + 1) J') ∧ Below Wc.heap.size wr w') := fun wx h1 bx => by
          have hw2 := HWn.out.2
          have hr2 : Row8 wx da (F i).n dc (F i).b := row8_blk (r.below HI.out.bel) (fun y hy hn => bx.block _ (by have := hd y hy hn; omega))
          refine (jsee_r h1.out (by have := HL.out; omega) (F i) hok da dc hr2 (fun y hy hn => by have := hd y hy hn; omega)).mono ?_
          rintro r w' ⟨rfl, h⟩
          have h2 := h.out
          rw [hJ'] at h2
          exact ⟨_, rfl, by rw [hJ', hR, hV], h2.1, bx.trans h2.2⟩
        obtain ⟨z0, z1, z2, z3, z4, z5, z6, z7, t0, t1, t2, t3, t4, t5, t6, t7⟩ := hS wr (Below.refl _ _)
        have hve := fun wx => ver_same R V wx
        have HR : Hid (_) := And.intro r hd
        have Bd : Below Wc.heap.size wr wr.drew := Below.drew (Below.refl _ _)
        have hzw := hsmall i hlt HL.out
        have HD : Hid (_) := hdt
        have HSz : Hid (_) := hSz
        clear c0 c1 c2 c3 c4 c5 c6 c7 r hd hok hcc hdt hJ hJ' hR hV hQ hSz hgl
        go_wp2_with fail
        go_region_held3 (fun wx => wx.cell? ⟨g, i * 8, none⟩ = some (.int .i64 (F i).k) ∧ wx.cell? ⟨g, i * 8 + 1, none⟩ = some (.int .i64 (F i).c) ∧ wx.cell? ⟨g, i * 8 + 2, none⟩ = some (.int .i64 (F i).s) ∧ wx.cell? ⟨g, i * 8 + 3, none⟩ = some (.int .u32 ((F i).ss : Nat)) ∧ wx.cell? ⟨g, i * 8 + 4, none⟩ = some (.int .u32 ((F i).nn : Nat)) ∧ wx.cell? ⟨g, i * 8 + 5, none⟩ = some (.bool (F i).on) ∧ wx.cell? ⟨g, i * 8 + 6, none⟩ = some (.int .i64 (F i).cd) ∧ wx.cell? ⟨g, i * 8 + 7, none⟩ = some (.slice (A i) (F i).n (C i)) ∧ wx.cell? ⟨q, off + i * 8, none⟩ = some (.int .i64 (F i).k) ∧ wx.cell? ⟨q, off + i * 8 + 1, none⟩ = some (.int .i64 (F i).c) ∧ wx.cell? ⟨q, off + i * 8 + 2, none⟩ = some (.int .i64 (F i).s) ∧ wx.cell? ⟨q, off + i * 8 + 3, none⟩ = some (.int .u32 ((F i).ss : Nat)) ∧ wx.cell? ⟨q, off + i * 8 + 4, none⟩ = some (.int .u32 ((F i).nn : Nat)) ∧ wx.cell? ⟨q, off + i * 8 + 5, none⟩ = some (.bool (F i).on) ∧ wx.cell? ⟨q, off + i * 8 + 6, none⟩ = some (.int .i64 (F i).cd) ∧ wx.cell? ⟨q, off + i * 8 + 7, none⟩ = some (.slice da (F i).n dc)) (first | assumption | exact hS _ (by assumption) | exact hS _ (Below.drew (Below.refl _ _))) (first
          | (refine step_callN 13 #[.tmp 46, .tmp 50] #[28, 43] rfl (by kernel_rfl) #[.pointer (some ⟨jb, 0, none⟩), .agg #[.int .i64 (F i).k, .int .i64 (F i).c, .int .i64 (F i).s, .int .u32 ((F i).ss : Nat), .int .u32 ((F i).nn : Nat), .bool (F i).on, .int .i64 (F i).cd, .slice (A i) (F i).n (C i)]] (by kernel_rfl) (hG _ (by repeat (first | with_reducible assumption | with_reducible exact Below.refl _ _ | with_reducible refine belowN ?_ _ | with_reducible refine Below.drew ?_ | with_reducible refine belowG ?_ _))) ?_; rintro x w3 ⟨rfl, h3, b3⟩)
          | (refine step_callN 14 #[.tmp 52, .tmp 56] #[31, 43] rfl (by kernel_rfl) #[.pointer (some ⟨p, 0, none⟩), .agg #[.int .i64 (F i).k, .int .i64 (F i).c, .int .i64 (F i).s, .int .u32 ((F i).ss : Nat), .int .u32 ((F i).nn : Nat), .bool (F i).on, .int .i64 (F i).cd, .slice da (F i).n dc]] (by kernel_rfl) (hRr _ h3 b3) ?_; rintro x w4 ⟨rfl, h4, b4⟩)
          | fail)
        obtain ⟨z0', z1', z2', z3', z4', z5', z6', z7', t0', t1', t2', t3', t4', t5', t6', t7'⟩ := hS w4 b4
        have HN : Hid (NI w Wc w4 len0 i F A jb p (i + 1) J') := ⟨h4.out, HI.out.bel.trans (b4.mono HWn.out.2), fun k hk hn => (b4.block k hk).trans (HI.out.kp k hk hn)⟩
        obtain ⟨n, hn⟩ : ∃ n, (F i).n = n := ⟨_, rfl⟩
        obtain ⟨X, hX⟩ : ∃ X, BA (F i).b n = X := ⟨_, rfl⟩
        have cv1 : ∀ j, (convert 41 9 (.slice (A i) n (C i))).run Try.prog (w4.drewN j) = .ok (.string X) (w4.drewN j) := fun j => by
          have h1 := HN.out.data HQ.out hlt (Nat.le_refl _)
          rw [hn] at h1
          rw [← hX]
          exact conv_any _ _ _ _ _ (h1.below (belowN (Below.refl _ _) j))
        have cv2 : ∀ j, (convert 41 9 (.slice da n dc)).run Try.prog (w4.drewN j) = .ok (.string X) (w4.drewN j) := fun j => by
          have h1 := HR.out.1.below (HN.out.below (belowN (Below.refl _ _) j)).bel
          rw [hn] at h1
          rw [← hX]
          exact conv_any _ _ _ _ _ h1
        rw [hn] at z7' t7'
        have Hn : Hid ((F i).n = n) := hn
        obtain ⟨qd, hqd⟩ : ∃ qd, 0 < n → A i = some ⟨qd, 0, none⟩ := by
          by_cases h0 : 0 < n
          · cases e : A i with
            | none =>
              have h1 := HD.out
              rw [e] at h1
              have := (h1.nil rfl).1
              omega
            | some y =>
              obtain ⟨q', rfl, _⟩ := HQ.out.new i hlt hlt y e (by omega)
              exact ⟨q', fun _ => rfl⟩
          · exact ⟨0, fun q => absurd q h0⟩
        have Hqd : Hid (_) := hqd
        have hnb : n ≤ 140737488355328 := by have := (HW.out.2 i hlt).n; omega
        rw [hn]
        obtain ⟨aa, haa⟩ : ∃ x, A i = x := ⟨_, rfl⟩
        rw [haa] at z7' cv1 ⊢
        have Haa : Hid (A i = aa) := haa
        clear z0' z1' z2' z3' z4' z5' z6' t0' t1' t2' t3' t4' t5' t6' z0 z1 z2 z3 z4 z5 z6 z7 t0 t1 t2 t3 t4 t5 t6 t7 hG hRr hS h3 h4 b3 b4 Bd HI HD HSz hn hX hqd haa HR
        go_wp2_with fail
        have HSd : w4.drew.cell? ⟨g, i * 8 + 7, none⟩ = some (.slice aa n (C i)) ∧ w4.drew.cell? ⟨q, off + i * 8 + 7, none⟩ = some (.slice da n dc) ∧ (convert 41 9 (.slice aa n (C i))).run Try.prog w4.drew = .ok (.string X) w4.drew ∧ (convert 41 9 (.slice da n dc)).run Try.prog w4.drew = .ok (.string X) w4.drew := ⟨z7', t7', cv1 1, cv2 1⟩
        go_region_held3 (fun wx => wx.cell? ⟨g, i * 8 + 7, none⟩ = some (.slice aa n (C i)) ∧ wx.cell? ⟨q, off + i * 8 + 7, none⟩ = some (.slice da n dc) ∧ (convert 41 9 (.slice aa n (C i))).run Try.prog wx = .ok (.string X) wx ∧ (convert 41 9 (.slice da n dc)).run Try.prog wx = .ok (.string X) wx) (first | assumption | fail) (fail)
        have HN5 : Hid (NI w Wc w4.drew len0 (i + 1) F A jb p (i + 1) J' ∧ (0 < n → Dt w4.drew qd n)) := by
          have h1 := HN.out.below (Below.drew (Below.refl _ _))
          refine ⟨h1.more (by omega), fun h0 => ?_⟩
          have h2 := h1.typ HQ.out hlt (Nat.le_refl _) (Hqd.out h0) (by have := Hn.out; omega)
          rw [Hn.out] at h2
          exact h2
        clear HN cv1 cv2 HSd t7'
        go_wp2_with fail
        have hwx : ∀ x : Nat, x < n → IntKind.i64.wrap (((x : Nat) : Int) + 1) = ((x + 1 : Nat) : Int) := fun x hx => by
          rw [IntKind.wrap_i64]
          omega
        clear z7'
        go_loopw [9, 78, 79, 80, 81, 82, 83, 84, 85, 86, 87, 88, 89, 90, 91] (fun _ c _ _ _ _ _ _ _ _ _ _ _ _ _ wr => ∃ x : Nat, x ≤ n ∧ c = .int .i64 ((x : Nat) : Int) ∧ Hid (NI w Wc wr len0 (i + 1) F A jb p (i + 1) J' ∧ (0 < n → Dt wr qd n))) (fun _ c _ _ _ _ _ _ _ _ _ _ _ _ _ _ => n - natG c)
        case atStart => exact ⟨0, by omega, rfl, HN5⟩
        case round =>
          obtain ⟨x, hx, rfl, HX⟩ := hrel
          clear HN5
          by_cases hxl : x < n
          · have hxl' : ((x : Nat) : Int) < ((n : Nat) : Int) := by omega
            have h0 : 0 < n := by omega
            have y7 := HX.out.1.cells HQ.out hlt 7 _ rfl
            rw [Hn.out, Hqd.out h0] at y7
            obtain ⟨v, hv⟩ := (HX.out.2 h0).c x hxl
            obtain ⟨cs, hcs⟩ := (HX.out.2 h0).ty
            have fz := fun k => frozen_of_row wr qd k _ _ hcs
            have hw1 := hwx x hxl
            have HF : ∀ v', Hid (NI w Wc (wr.setCell ⟨qd, x, none⟩ (.int .u8 v')) len0 (i + 1) F A jb p (i + 1) J' ∧ (0 < n → Dt (wr.setCell ⟨qd, x, none⟩ (.int .u8 v')) qd n)) := fun v' => ⟨HX.out.1.turn HQ.out HWn.out.1 hlt (Hqd.out h0) (by have := Hn.out; omega) x v', fun _ => (HX.out.2 h0).turn hxl v'⟩
            clear hcs HX hwx
            go_wp2_with fail
            go_roundw
            case rel => exact ⟨x + 1, by omega, by first | rfl | go_num, HF _⟩
            case measure => simp [natG] <;> omega
          · obtain rfl : x = n := by omega
            have hxl' : ¬ ((x : Nat) : Int) < ((x : Nat) : Int) := by omega
            have HF : Hid (NI w Wc wr len0 (i + 1) F A jb p (i + 1) (sees jL F (i + 1))) := by
              rw [HJ.out]
              exact HX.out.1
            clear HX hwx
            go_wp2_with fail
            go_roundw
            case rel => exact ⟨i + 1, by omega, by first | rfl | go_num, HF⟩
            case measure => simp [natG] <;> omega
      · obtain rfl : i = len0 := by omega
        have hlt' : ¬ ((i : Nat) : Int) < ((i : Nat) : Int) := by omega
        obtain ⟨J, hJ⟩ : ∃ x, sees jL F i = x := ⟨_, rfl⟩
        obtain ⟨R, hR⟩ : ∃ x, J.r = x := ⟨_, rfl⟩
        obtain ⟨V, hV⟩ : ∃ x, J.a = x := ⟨_, rfl⟩
        obtain ⟨s1, s2, s3, s4⟩ := HI.out.jj.said
        rw [hJ, hR] at s3
        rw [hJ, hV] at s4
        have hve := fun wx => ver_same R V wx
        have hVj : ∀ wx, Below wr.heap.size wr wx → Calls Try.prog 11 #[.pointer (some ⟨jb, 0, none⟩)] wx fun r w' => ∃ x, r = .returned x ∧ (x = .agg #[.int .i64 R, .int .i64 V] ∧ Below wr.heap.size wr w') := fun wx bx => by
          refine ((HI.out.jj.below bx).verdict).mono ?_
          rintro r w' ⟨rfl, b⟩
          exact ⟨_, rfl, by rw [hJ, hR, hV], bx.trans (b.mono bx.size)⟩
        have hS : ∀ wx, Below wr.heap.size wr wx → wx.cell? ⟨p, 4, none⟩ = some (.int .i64 R) ∧ wx.cell? ⟨p, 5, none⟩ = some (.int .i64 V) := fun wx bx => ⟨cell_belowJ s3 bx, cell_belowJ s4 bx⟩
        clear hJ hR hV s1 s2
        go_wp2_with fail
        have HSd := hS wr.drew (Below.drew (Below.refl _ _))
        go_region_held3 (fun wx => wx.cell? ⟨p, 4, none⟩ = some (.int .i64 R) ∧ wx.cell? ⟨p, 5, none⟩ = some (.int .i64 V)) (first | assumption | exact hS _ (by assumption)) (first
          | (refine step_callN 11 #[.tmp 92] #[28] rfl (by kernel_rfl) #[.pointer (some ⟨jb, 0, none⟩)] (by kernel_rfl) (hVj _ (by repeat (first | with_reducible assumption | with_reducible exact Below.refl _ _ | with_reducible refine belowN ?_ _ | with_reducible refine Below.drew ?_ | with_reducible refine belowG ?_ _))) ?_; rintro x w3 ⟨rfl, b3⟩)
          | fail)
        have HB3 : Hid (Below w.heap.size w w3) := HI.out.bel.trans (b3.mono HI.out.bel.size)
        clear hVj hS HSd b3 HI
        go_wp2_with fail
        go_ret
        exact ⟨rfl, HB3.out⟩
end Go.Proofs.Ythlgahkoignnkaa
