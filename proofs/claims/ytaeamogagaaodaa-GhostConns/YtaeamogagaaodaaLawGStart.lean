/- Layer 18: GhostStarts. (gengstart.py) -/
import Derived.Test.YtaeamogagaaodaaGw2
import Derived.Test.YtaeamogagaaodaaGh17
import Derived.Test.YtaeamogagaaodaaGp
import Derived.Test.YtaeamogagaaodaaGc5
import Derived.Deep.RegionHeld3
namespace Go.Proofs.Ytaeamogagaaodaa
open Go.RowKit Go.Maps Go.Sort
set_option maxRecDepth 100000
noncomputable def jP : Ju := ju0 2 (fun i => (pgP i).t) (fun i => (pgP i).t)
/-- Check of facts over Pair(1). -/
theorem chk2 {W : World} {a0 a1 af : Option Addr} {c0 c1 lf cf : Nat} {F : Nat → Fa} (q0 : PRow W a0 2 pgP) (q1 : PRow W a1 2 pgP) (hF : FRow W af lf F) (hO : ∀ i, i < lf → (F i).Ok) (hlf : lf ≤ 100000) {R A : Int} (hR : (sees jP F lf).r = R) (hA : (sees jP F lf).a = A) : Calls Try.prog 15 #[.agg #[.slice a0 2 c0, .slice a1 2 c1, .int .u32 50], .slice af lf cf] W fun r w' => ∃ x, r = .returned x ∧ (x = .agg #[.int .i64 R, .int .i64 A] ∧ Below W.heap.size W w') :=
  (gcheck a0 2 c0 pgP a1 2 c1 pgP 50 af lf cf F W q0 q1 2 rfl (by omega) hF hO hlf).mono fun _ _ ⟨e, b⟩ => ⟨_, e, (by subst hR; subst hA; rfl), b⟩
theorem two_ok {F G : Nat → Fa} {n m : Nat} (h0 : ∀ i, i < n → (F i).Ok) (h1 : ∀ i, i < m → (G i).Ok) : ∀ i, i < n + m → (two F G n i).Ok := fun i hi => by
  unfold two
  split
  · exact h0 i (by omega)
  · exact h1 _ (by omega)
theorem belT {W wx w' : World} (b : Below wx.heap.size wx w') (h : Below W.heap.size W wx) : Below W.heap.size W w' := h.trans (b.mono h.size)
theorem ver_set {W w4 : World} {g : Nat} {x y R A : Int} (k : w4.heap[g]? = some (.cells #[.int .i64 x, .int .i64 y] 34 (0, 0))) (b : Below W.heap.size W w4) (hg : W.heap.size ≤ g) : Below W.heap.size W ((w4.setCell ⟨g, 0, none⟩ (.int .i64 R)).setCell ⟨g, 1, none⟩ (.int .i64 A)) ∧ ((w4.setCell ⟨g, 0, none⟩ (.int .i64 R)).setCell ⟨g, 1, none⟩ (.int .i64 A)).heap[g]? = some (.cells #[.int .i64 R, .int .i64 A] 34 (0, 0)) ∧ W.heap.size ≤ g := by
  have o : Off [g] w4 ((w4.setCell ⟨g, 0, none⟩ (.int .i64 R)).setCell ⟨g, 1, none⟩ (.int .i64 A)) := (Off.setCell _ _ _ _).trans (Off.setCell _ _ _ _)
  exact ⟨o.below b (fun j hj => by simp at hj; omega) b.size, heap_setCell_same _ _ _ _ _ _ (heap_setCell_same _ _ _ _ _ _ k), hg⟩
set_option maxHeartbeats 3000000 in
theorem ghostStarts_walk (a0 : Option Addr) (len0 cap0 : Nat) (a1 : Option Addr) (len1 cap1 : Nat) (a2 : Int) (w : World) (w0 : OpRow w a0 len0) (w1 : OpRow w a1 len1) (_w2 : (Lit.int .i64 a2).wf = true) (hcap : len0 ≤ cap0) :
    Calls Try.prog 4 #[.slice a0 len0 cap0, .slice a1 len1 cap1, .int .i64 a2] w fun e w' => e = .returned (.bool true) ∧ Below w.heap.size w w' := by
  obtain ⟨F, f0, o0⟩ := w0.facts
  obtain ⟨G, f1, o1⟩ := w1.facts
  have HW : Hid (_) := And.intro f0 (And.intro o0 (And.intro f1 o1))
  clear f0 o0 f1 o1 w0 w1
  have hAw := fun wx => awake18 wx
  go_enter Try.func4, Try.ntmps4
  go_wp2_with fail
  refine (hAw _).mono ?_
  rintro e wa ⟨rfl, ba⟩
  clear hAw
  have HBa : Hid (_) := ba
  clear ba
  by_cases hl0 : (500 : Int) < ((len0 : Nat) : Int)
  · go_wp2_with fail
    go_ret
    exact ⟨rfl, HBa.out⟩
  by_cases hl1 : (500 : Int) < ((len1 : Nat) : Int)
  · go_wp2_with fail
    go_ret
    exact ⟨rfl, HBa.out⟩
  have hP := fun wx => gpair wx
  go_wp2_with fail
  refine (hP _).mono ?_
  rintro e wb ⟨p0, c0, p1, c1, rfl, hb⟩
  clear hP
  go_wp2_with fail
  have HL : Hid (len0 ≤ 500 ∧ len1 ≤ 500) := by constructor <;> omega
  obtain ⟨W, hW⟩ : ∃ W : World, wb.alloc (.cells #[.slice p0 2 c0, .slice p1 2 c1, .int .u32 50] 25) = W := ⟨_, rfl⟩
  rw [hW]
  obtain ⟨gn, hgn⟩ : ∃ n, wb.heap.size = n := ⟨_, rfl⟩
  rw [hgn]
  obtain ⟨R, hR⟩ : ∃ n, (sees jP F len0).r = n := ⟨_, rfl⟩
  obtain ⟨A, hA⟩ : ∃ n, (sees jP F len0).a = n := ⟨_, rfl⟩
  have b1 : Below wb.heap.size wb W := by
    rw [← hW]
    exact belowG (Below.refl _ _) _
  have e0 : W.heap[gn]? = some (.cells #[.slice p0 2 c0, .slice p1 2 c1, .int .u32 50] 25 (0, 0)) := by
    rw [← hW, ← hgn]
    exact heap_alloc_new _ _
  have hwW : Hid (Below w.heap.size w W) := ((HBa.out.trans (hb.out.2.2.mono HBa.out.size)).trans (b1.mono (HBa.out.trans (hb.out.2.2.mono HBa.out.size)).size))
  have hS : Hid (R = (sees jP F len0).r ∧ A = (sees jP F len0).a) := ⟨hR.symm, hA.symm⟩
  have q0 := hb.out.1.below b1
  have q1 := hb.out.2.1.below b1
  obtain ⟨f0, o0, f1, o1⟩ := HW.out
  have hCp : ∀ wx, Below W.heap.size W wx → Calls Try.prog 12 #[.slice a0 len0 cap0] wx fun r w' => ∃ x, r = .returned x ∧ ((∃ a' c, x = .slice a' len0 c ∧ Hid (OF w' W.heap.size wx.heap.size a' len0 c F)) ∧ Below wx.heap.size wx w') := fun wx bx =>
    (gcopyO a0 cap0 len0 F wx W bx (by have := HL.out.1; omega) (f0.below hwW.out) o0).mono fun _ _ ⟨a', c, e, h⟩ => ⟨_, e, ⟨a', c, rfl, h.out.1⟩, h.out.2⟩
  have hCh : ∀ wx a' c, FRow wx a' len0 F → Below W.heap.size W wx → Calls Try.prog 15 #[.agg #[.slice p0 2 c0, .slice p1 2 c1, .int .u32 50], .slice a' len0 c] wx fun r w' => ∃ x, r = .returned x ∧ (x = .agg #[.int .i64 R, .int .i64 A] ∧ Below wx.heap.size wx w') := fun wx a' c hf bx =>
    chk2 (q0.below bx) (q1.below bx) hf o0 (by have := HL.out.1; omega) hR hA
  have hx : ∀ wx, Below W.heap.size W wx → wx.cell? ⟨gn, 0, none⟩ = some (.slice p0 2 c0) ∧ wx.cell? ⟨gn, 1, none⟩ = some (.slice p1 2 c1) ∧ wx.cell? ⟨gn, 2, none⟩ = some (.int .u32 50) := fun wx bx => ⟨cell_belowJ (cell_of_row W _ 0 _ _ _ e0) bx, cell_belowJ (cell_of_row W _ 1 _ _ _ e0) bx, cell_belowJ (cell_of_row W _ 2 _ _ _ e0) bx⟩
  obtain ⟨x0, x1, x2⟩ := hx W (Below.refl _ _)
  have hxa : ∀ wx, Below W.heap.size W wx → (∀ ob, (wx.alloc ob).cell? ⟨gn, 0, none⟩ = some (.slice p0 2 c0)) ∧ (∀ ob, (wx.alloc ob).cell? ⟨gn, 1, none⟩ = some (.slice p1 2 c1)) ∧ (∀ ob, (wx.alloc ob).cell? ⟨gn, 2, none⟩ = some (.int .u32 50)) := fun wx bx => ⟨fun ob => (hx _ (belowG bx ob)).1, fun ob => (hx _ (belowG bx ob)).2.1, fun ob => (hx _ (belowG bx ob)).2.2⟩
  obtain ⟨x0a, x1a, x2a⟩ := hxa W (Below.refl _ _)
  have lg : gn < W.heap.size := (Array.getElem?_eq_some_iff.1 e0).1
  have HQ : Hid (_) := And.intro q0 (And.intro q1 (And.intro lg e0))
  clear hW hgn b1 e0 q0 q1 f0 o0 f1 o1 hR hA HBa hb lg
  go_cut [8] (fun x8 wx => ∃ g, x8 = .pointer (some ⟨g, 0, none⟩) ∧ Hid (Below W.heap.size W wx ∧ wx.heap[g]? = some (.cells #[.int .i64 R, .int .i64 A] 34 (0, 0)) ∧ W.heap.size ≤ g))
  case first =>
    go_region_law (first
      | (refine step_callN 12 #[.tmp 22] #[26] rfl (by kernel_rfl) #[.slice a0 len0 cap0] (by kernel_rfl) (hCp _ (by repeat (first | with_reducible assumption | with_reducible exact Below.refl _ _ | with_reducible refine belowN ?_ _ | with_reducible refine Below.drew ?_ | with_reducible refine belowG ?_ _))) ?_; rintro x w3 ⟨⟨a', c', rfl, h3⟩, b3⟩; have B3 := Below.trans (show Below W.heap.size W _ by repeat (first | with_reducible assumption | with_reducible exact Below.refl _ _ | with_reducible refine belowN ?_ _ | with_reducible refine Below.drew ?_ | with_reducible refine belowG ?_ _)) (b3.mono (Below.size (show Below W.heap.size W _ by repeat (first | with_reducible assumption | with_reducible exact Below.refl _ _ | with_reducible refine belowN ?_ _ | with_reducible refine Below.drew ?_ | with_reducible refine belowG ?_ _)))); obtain ⟨y0, y1, y2⟩ := hx _ B3; obtain ⟨y0a, y1a, y2a⟩ := hxa _ B3; first | (have k3 := (b3.block W.heap.size (by show W.heap.size < (W.alloc (.cells #[.int .i64 0, .int .i64 0] 34)).heap.size; simp)).trans (show (W.alloc (.cells #[.int .i64 0, .int .i64 0] 34)).heap[W.heap.size]? = _ from heap_alloc_new _ _); have k30 := cell_of_row w3 _ 0 _ _ _ k3; have k31 := cell_of_row w3 _ 1 _ _ _ k3; have kz := fun k => frozen_of_row w3 _ k _ _ k3) | skip)
      | (refine step_callN 15 #[.tmp 21, .tmp 23] #[25, 26] rfl (by kernel_rfl) #[.agg #[.slice p0 2 c0, .slice p1 2 c1, .int .u32 50], .slice a' len0 c'] (by kernel_rfl) (hCh _ _ _ (FRow.below (OF.frow h3.out) (by repeat (first | with_reducible assumption | with_reducible exact Below.refl _ _ | with_reducible refine belowN ?_ _ | with_reducible refine Below.drew ?_ | with_reducible refine belowG ?_ _))) (by repeat (first | with_reducible assumption | with_reducible exact Below.refl _ _ | with_reducible refine belowN ?_ _ | with_reducible refine Below.drew ?_ | with_reducible refine belowG ?_ _))) ?_; rintro x w4 ⟨rfl, b4⟩; have B4 := Below.trans (show Below W.heap.size W _ by repeat (first | with_reducible assumption | with_reducible exact Below.refl _ _ | with_reducible refine belowN ?_ _ | with_reducible refine Below.drew ?_ | with_reducible refine belowG ?_ _)) (b4.mono (Below.size (show Below W.heap.size W _ by repeat (first | with_reducible assumption | with_reducible exact Below.refl _ _ | with_reducible refine belowN ?_ _ | with_reducible refine Below.drew ?_ | with_reducible refine belowG ?_ _)))); obtain ⟨z0, z1, z2⟩ := hx _ B4; first | (have k4 := (b4.block W.heap.size (Nat.lt_of_lt_of_le (Array.getElem?_eq_some_iff.1 k3).1 (Nat.le_refl _))).trans k3; have k40 := cell_of_row w4 _ 0 _ _ _ k4; have k41 := cell_of_row w4 _ 1 _ _ _ k4; have kz4 := fun k => frozen_of_row w4 _ k _ _ k4) | (have k4 := (b4.block w3.heap.size (by show w3.heap.size < (w3.alloc (.cells #[.int .i64 0, .int .i64 0] 34)).heap.size; simp)).trans (show (w3.alloc (.cells #[.int .i64 0, .int .i64 0] 34)).heap[w3.heap.size]? = _ from heap_alloc_new _ _); have k40 := cell_of_row w4 _ 0 _ _ _ k4; have k41 := cell_of_row w4 _ 1 _ _ _ k4; have kz4 := fun k => frozen_of_row w4 _ k _ _ k4) | skip))
    all_goals
      go_wp2_with fail
      go_meet
      first
      | exact ⟨_, rfl, belowG B4 _, heap_alloc_new _ _, B4.size⟩
      | exact ⟨_, rfl, ver_set k4 B4 (Nat.le_refl _)⟩
      | exact ⟨_, rfl, ver_set k4 B4 B3.size⟩
      | trace_state
  case rest =>
    obtain ⟨g, rfl, H⟩ := hcut
    obtain ⟨wd, hwd⟩ : ∃ x, wc = x := ⟨_, rfl⟩
    rw [hwd] at H ⊢
    clear hwd wc
    clear hCp hCh x0 x1 x2 x0a x1a x2a hx hxa
    obtain ⟨bWd, kg, lgg⟩ := H.out
    have u0 := cell_of_row wd g 0 _ _ _ kg
    have u1 := cell_of_row wd g 1 _ _ _ kg
    obtain ⟨q0, q1, lg, e0⟩ := HQ.out
    replace q0 := q0.below bWd
    replace q1 := q1.below bWd
    have ed := (bWd.block gn lg).trans e0
    obtain ⟨f0, o0, f1, o1⟩ := HW.out
    have bwd : Below w.heap.size w wd := hwW.out.trans (bWd.mono hwW.out.size)
    replace f0 := f0.below bwd
    replace f1 := f1.below bwd
    have hx : ∀ wx, Below wd.heap.size wd wx → wx.cell? ⟨gn, 0, none⟩ = some (.slice p0 2 c0) ∧ wx.cell? ⟨gn, 1, none⟩ = some (.slice p1 2 c1) ∧ wx.cell? ⟨gn, 2, none⟩ = some (.int .u32 50) ∧ wx.cell? ⟨g, 0, none⟩ = some (.int .i64 R) ∧ wx.cell? ⟨g, 1, none⟩ = some (.int .i64 A) := fun wx bx => ⟨cell_belowJ (cell_of_row wd _ 0 _ _ _ ed) bx, cell_belowJ (cell_of_row wd _ 1 _ _ _ ed) bx, cell_belowJ (cell_of_row wd _ 2 _ _ _ ed) bx, cell_belowJ u0 bx, cell_belowJ u1 bx⟩
    have HB : Hid (_) := bwd
    clear bWd kg lgg lg e0 ed bwd H HQ hwW
    have jr : jP.r = 0 := rfl
    have ja : jP.a = 0 := rfl
    have jn : jP.n = 0 := rfl
    by_cases hR : R = 0
    · subst hR
      obtain ⟨s1, s2⟩ := hS.out
      have hg0 := sees_good jr ja F len0 s1.symm
      obtain ⟨hl0', hl1'⟩ := HL.out
      have hpre := fun n (hn : n ≤ len0) => sees_pre (J := jP) F hn s1.symm
      have hCpk : ∀ wx n x, n ≤ len0 → (0 < n → x = a0) → Below wd.heap.size wd wx → Calls Try.prog 12 #[.slice x n cap0] wx fun r w' => ∃ x, r = .returned x ∧ ((∃ a' c, x = .slice a' n c ∧ Hid (FRow w' a' n F)) ∧ Below wx.heap.size wx w') := fun wx n x hn hx0 bx =>
        (gcopyO x cap0 n F wx wd bx (by omega) (fun i hi => by rw [hx0 (by omega)]; exact f0 i (by omega)) (fun i hi => o0 i (by omega))).mono fun _ _ ⟨a', c, e, h⟩ => ⟨_, e, ⟨a', c, rfl, h.out.1.frow⟩, h.out.2⟩
      have hChB : ∀ wx n a' c, n ≤ len0 → FRow wx a' n F → Below wd.heap.size wd wx → Calls Try.prog 15 #[.agg #[.slice p0 2 c0, .slice p1 2 c1, .int .u32 50], .slice a' n c] wx fun r w' => ∃ x, r = .returned x ∧ (x = .agg #[.int .i64 0, .int .i64 0] ∧ Below wx.heap.size wx w') := fun wx n a' c hn hf bx =>
        chk2 (q0.below bx) (q1.below bx) hf (fun i hi => o0 i (by omega)) (by omega) (hpre n hn) (sees_good jr ja F n (hpre n hn)).1
      have HX : Hid (_) := And.intro hcap (And.intro hl0' hl1')
      have HA0 : 0 < len0 → ∃ q off, a0 = some ⟨q, off, none⟩ := fun h => by
        obtain ⟨q, off, _, _, e, _⟩ := f0 0 h
        exact ⟨q, off, e⟩
      have hx3 : ∀ wx, Below wd.heap.size wd wx → wx.cell? ⟨gn, 0, none⟩ = some (.slice p0 2 c0) ∧ wx.cell? ⟨gn, 1, none⟩ = some (.slice p1 2 c1) ∧ wx.cell? ⟨gn, 2, none⟩ = some (.int .u32 50) := fun wx bx => ⟨(hx wx bx).1, (hx wx bx).2.1, (hx wx bx).2.2.1⟩
      clear q0 q1 f0 o0 f1 o1 s1 s2 jr ja jn hS HL hl0 hl1 hg0 hpre
      by_cases h0 : 0 < len0
      · have h0' : (0 : Int) < ((len0 : Nat) : Int) := by omega
        obtain ⟨m, hm, hml⟩ : ∃ m : Nat, wrap64 ((IntKind.u64.wrap a2).tmod ((len0 : Nat) : Int)) = ((m : Nat) : Int) ∧ m < len0 := by
          have h1 : IntKind.u64.wrap a2 = a2 % 18446744073709551616 := by rw [IntKind.wrap_u64]
          have h2 : 0 ≤ a2 % 18446744073709551616 := Int.emod_nonneg _ (by omega)
          rw [h1, Int.tmod_eq_emod_of_nonneg h2]
          have h3 := Int.emod_nonneg (a2 % 18446744073709551616) (b := ((len0 : Nat) : Int)) (by omega)
          have h4 := Int.emod_lt_of_pos (a2 % 18446744073709551616) (b := ((len0 : Nat) : Int)) h0'
          have h5 := HX.out.2.1
          refine ⟨((a2 % 18446744073709551616) % ((len0 : Nat) : Int)).toNat, ?_, by omega⟩
          unfold wrap64
          omega
        obtain ⟨q, off, ea⟩ : ∃ q off, a0 = some ⟨q, off, none⟩ := HA0 h0
        subst ea
        have hmc : m ≤ cap0 := by have := HX.out.1; omega
        go_wp2_with fail
        rw [hm]
        clear u0 u1 hcap
        go_region_held3 (fun wx => wx.cell? ⟨gn, 0, none⟩ = some (.slice p0 2 c0) ∧ wx.cell? ⟨gn, 1, none⟩ = some (.slice p1 2 c1) ∧ wx.cell? ⟨gn, 2, none⟩ = some (.int .u32 50)) (first | assumption | exact hx3 _ (by repeat (first | with_reducible assumption | with_reducible exact Below.refl _ _ | with_reducible refine belowN ?_ _ | with_reducible refine Below.drew ?_ | with_reducible refine belowG ?_ _))) (first
          | (refine step_callN 12 #[.tmp 73] #[26] rfl (by kernel_rfl) #[.slice (some ⟨q, off, none⟩) m cap0] (by kernel_rfl) (hCpk _ m (some ⟨q, off, none⟩) (by omega) (fun _ => rfl) (by repeat (first | with_reducible assumption | with_reducible exact Below.refl _ _ | with_reducible refine belowN ?_ _ | with_reducible refine Below.drew ?_ | with_reducible refine belowG ?_ _))) ?_; rintro x w7 ⟨⟨a7, c7, rfl, h7⟩, b7⟩; have B7 := belT (W := wd) b7 (by repeat (first | with_reducible assumption | with_reducible exact Below.refl _ _ | with_reducible refine belowN ?_ _ | with_reducible refine Below.drew ?_ | with_reducible refine belowG ?_ _)))
          | (refine step_callN 15 #[.tmp 70, .tmp 74] #[25, 26] rfl (by kernel_rfl) #[.agg #[.slice p0 2 c0, .slice p1 2 c1, .int .u32 50], .slice a7 m c7] (by kernel_rfl) (hChB _ m _ _ (by omega) (FRow.below h7.out (by repeat (first | with_reducible assumption | with_reducible exact Below.refl _ _ | with_reducible refine belowN ?_ _ | with_reducible refine Below.drew ?_ | with_reducible refine belowG ?_ _))) (by repeat (first | with_reducible assumption | with_reducible exact Below.refl _ _ | with_reducible refine belowN ?_ _ | with_reducible refine Below.drew ?_ | with_reducible refine belowG ?_ _))) ?_; rintro x w8 ⟨rfl, b8⟩; have B8 := belT (W := wd) b8 (by repeat (first | with_reducible assumption | with_reducible exact Below.refl _ _ | with_reducible refine belowN ?_ _ | with_reducible refine Below.drew ?_ | with_reducible refine belowG ?_ _))))
        have Be := belT (W := w) (wx := wd) B8 HB.out
        go_wp2_with fail
        go_ret
        first | exact ⟨rfl, Be⟩ | exact Be | trace_state
      · obtain rfl : len0 = 0 := by omega
        go_wp2_with fail
        clear u0 u1 hcap
        cases a0 with
        | none =>
          go_region_held3 (fun wx => wx.cell? ⟨gn, 0, none⟩ = some (.slice p0 2 c0) ∧ wx.cell? ⟨gn, 1, none⟩ = some (.slice p1 2 c1) ∧ wx.cell? ⟨gn, 2, none⟩ = some (.int .u32 50)) (first | assumption | exact hx3 _ (by repeat (first | with_reducible assumption | with_reducible exact Below.refl _ _ | with_reducible refine belowN ?_ _ | with_reducible refine Below.drew ?_ | with_reducible refine belowG ?_ _))) (first
            | (refine step_callN 12 #[.tmp 73] #[26] rfl (by kernel_rfl) #[.slice none 0 cap0] (by kernel_rfl) (hCpk _ 0 none (by omega) (fun h => absurd h (by omega)) (by repeat (first | with_reducible assumption | with_reducible exact Below.refl _ _ | with_reducible refine belowN ?_ _ | with_reducible refine Below.drew ?_ | with_reducible refine belowG ?_ _))) ?_; rintro x w7 ⟨⟨a7, c7, rfl, h7⟩, b7⟩; have B7 := belT (W := wd) b7 (by repeat (first | with_reducible assumption | with_reducible exact Below.refl _ _ | with_reducible refine belowN ?_ _ | with_reducible refine Below.drew ?_ | with_reducible refine belowG ?_ _)))
            | (refine step_callN 15 #[.tmp 70, .tmp 74] #[25, 26] rfl (by kernel_rfl) #[.agg #[.slice p0 2 c0, .slice p1 2 c1, .int .u32 50], .slice a7 0 c7] (by kernel_rfl) (hChB _ 0 _ _ (by omega) (FRow.below h7.out (by repeat (first | with_reducible assumption | with_reducible exact Below.refl _ _ | with_reducible refine belowN ?_ _ | with_reducible refine Below.drew ?_ | with_reducible refine belowG ?_ _))) (by repeat (first | with_reducible assumption | with_reducible exact Below.refl _ _ | with_reducible refine belowN ?_ _ | with_reducible refine Below.drew ?_ | with_reducible refine belowG ?_ _))) ?_; rintro x w8 ⟨rfl, b8⟩; have B8 := belT (W := wd) b8 (by repeat (first | with_reducible assumption | with_reducible exact Below.refl _ _ | with_reducible refine belowN ?_ _ | with_reducible refine Below.drew ?_ | with_reducible refine belowG ?_ _))))
          have Be := belT (W := w) (wx := wd) B8 HB.out
          go_wp2_with fail
          go_ret
          first | exact ⟨rfl, Be⟩ | exact Be | trace_state
        | some y =>
          go_region_held3 (fun wx => wx.cell? ⟨gn, 0, none⟩ = some (.slice p0 2 c0) ∧ wx.cell? ⟨gn, 1, none⟩ = some (.slice p1 2 c1) ∧ wx.cell? ⟨gn, 2, none⟩ = some (.int .u32 50)) (first | assumption | exact hx3 _ (by repeat (first | with_reducible assumption | with_reducible exact Below.refl _ _ | with_reducible refine belowN ?_ _ | with_reducible refine Below.drew ?_ | with_reducible refine belowG ?_ _))) (first
            | (refine step_callN 12 #[.tmp 73] #[26] rfl (by kernel_rfl) #[.slice (some y) 0 cap0] (by kernel_rfl) (hCpk _ 0 (some y) (by omega) (fun h => absurd h (by omega)) (by repeat (first | with_reducible assumption | with_reducible exact Below.refl _ _ | with_reducible refine belowN ?_ _ | with_reducible refine Below.drew ?_ | with_reducible refine belowG ?_ _))) ?_; rintro x w7 ⟨⟨a7, c7, rfl, h7⟩, b7⟩; have B7 := belT (W := wd) b7 (by repeat (first | with_reducible assumption | with_reducible exact Below.refl _ _ | with_reducible refine belowN ?_ _ | with_reducible refine Below.drew ?_ | with_reducible refine belowG ?_ _)))
            | (refine step_callN 15 #[.tmp 70, .tmp 74] #[25, 26] rfl (by kernel_rfl) #[.agg #[.slice p0 2 c0, .slice p1 2 c1, .int .u32 50], .slice a7 0 c7] (by kernel_rfl) (hChB _ 0 _ _ (by omega) (FRow.below h7.out (by repeat (first | with_reducible assumption | with_reducible exact Below.refl _ _ | with_reducible refine belowN ?_ _ | with_reducible refine Below.drew ?_ | with_reducible refine belowG ?_ _))) (by repeat (first | with_reducible assumption | with_reducible exact Below.refl _ _ | with_reducible refine belowN ?_ _ | with_reducible refine Below.drew ?_ | with_reducible refine belowG ?_ _))) ?_; rintro x w8 ⟨rfl, b8⟩; have B8 := belT (W := wd) b8 (by repeat (first | with_reducible assumption | with_reducible exact Below.refl _ _ | with_reducible refine belowN ?_ _ | with_reducible refine Below.drew ?_ | with_reducible refine belowG ?_ _))))
          have Be := belT (W := w) (wx := wd) B8 HB.out
          go_wp2_with fail
          go_ret
          first | exact ⟨rfl, Be⟩ | exact Be | trace_state
    · obtain ⟨k, hk, hkA, hk0, hk1, hk2⟩ := sees_bad jr ja jn F len0 (by rw [← hS.out.1]; exact hR)
      obtain ⟨q, off, _, _, rfl, _⟩ := f0 0 (by omega)
      obtain ⟨s1, s2⟩ := hS.out
      rw [← s2] at hkA
      obtain rfl : A = ((k : Nat) : Int) := hkA
      obtain ⟨hl0', hl1'⟩ := HL.out
      have t1 := hk2 (len0 + len1) (by omega) (two F G len0) (fun i hi => by unfold two; rw [if_pos (by omega)])
      have t2 := hk2 (k + 1) (by omega) F (fun i hi => rfl)
      have hCp0 : ∀ wx, Below wd.heap.size wd wx → Calls Try.prog 12 #[.slice (some ⟨q, off, none⟩) len0 cap0] wx fun r w' => ∃ x, r = .returned x ∧ ((∃ a' c, x = .slice a' len0 c ∧ Hid (OF w' wd.heap.size wx.heap.size a' len0 c F)) ∧ Below wx.heap.size wx w') := fun wx bx =>
        (gcopyO (some ⟨q, off, none⟩) cap0 len0 F wx wd bx (by omega) f0 o0).mono fun _ _ ⟨a', c, e, h⟩ => ⟨_, e, ⟨a', c, rfl, h.out.1⟩, h.out.2⟩
      have hCp1 : ∀ wx, Below wd.heap.size wd wx → Calls Try.prog 12 #[.slice a1 len1 cap1] wx fun r w' => ∃ x, r = .returned x ∧ ((∃ a' c, x = .slice a' len1 c ∧ Hid (OF w' wd.heap.size wx.heap.size a' len1 c G)) ∧ Below wx.heap.size wx w') := fun wx bx =>
        (gcopyO a1 cap1 len1 G wx wd bx (by omega) f1 o1).mono fun _ _ ⟨a', c, e, h⟩ => ⟨_, e, ⟨a', c, rfl, h.out.1⟩, h.out.2⟩
      have hCpk : ∀ wx n, n ≤ len0 → Below wd.heap.size wd wx → Calls Try.prog 12 #[.slice (some ⟨q, off, none⟩) n cap0] wx fun r w' => ∃ x, r = .returned x ∧ ((∃ a' c, x = .slice a' n c ∧ Hid (FRow w' a' n F)) ∧ Below wx.heap.size wx w') := fun wx n hn bx =>
        (gcopyO (some ⟨q, off, none⟩) cap0 n F wx wd bx (by omega) (f0.upto hn) (fun i hi => o0 i (by omega))).mono fun _ _ ⟨a', c, e, h⟩ => ⟨_, e, ⟨a', c, rfl, h.out.1.frow⟩, h.out.2⟩
      have hChA : ∀ wx a' c, FRow wx a' (len0 + len1) (two F G len0) → Below wd.heap.size wd wx → Calls Try.prog 15 #[.agg #[.slice p0 2 c0, .slice p1 2 c1, .int .u32 50], .slice a' (len0 + len1) c] wx fun r w' => ∃ x, r = .returned x ∧ (x = .agg #[.int .i64 R, .int .i64 ((k : Nat) : Int)] ∧ Below wx.heap.size wx w') := fun wx a' c hf bx =>
        chk2 (q0.below bx) (q1.below bx) hf (two_ok o0 o1) (by omega) (by rw [t1, s1]) (by rw [t1, ← s2])
      have hChB : ∀ wx a' c, FRow wx a' k F → Below wd.heap.size wd wx → Calls Try.prog 15 #[.agg #[.slice p0 2 c0, .slice p1 2 c1, .int .u32 50], .slice a' k c] wx fun r w' => ∃ x, r = .returned x ∧ (x = .agg #[.int .i64 0, .int .i64 0] ∧ Below wx.heap.size wx w') := fun wx a' c hf bx =>
        chk2 (q0.below bx) (q1.below bx) hf (fun i hi => o0 i (by omega)) (by omega) hk0 hk1
      have hChC : ∀ wx a' c, FRow wx a' (k + 1) F → Below wd.heap.size wd wx → Calls Try.prog 15 #[.agg #[.slice p0 2 c0, .slice p1 2 c1, .int .u32 50], .slice a' (k + 1) c] wx fun r w' => ∃ x, r = .returned x ∧ (x = .agg #[.int .i64 R, .int .i64 ((k : Nat) : Int)] ∧ Below wx.heap.size wx w') := fun wx a' c hf bx =>
        chk2 (q0.below bx) (q1.below bx) hf (fun i hi => o0 i (by omega)) (by omega) (by rw [t2, s1]) (by rw [t2, ← s2])
      have hrB : (R != 0) = true := by simpa using hR
      have hk3 : k ≤ cap0 := by omega
      obtain ⟨K1, hK1⟩ : ∃ n, k + 1 = n := ⟨_, rfl⟩
      rw [hK1] at hChC
      have hk4 : K1 ≤ cap0 := by omega
      have hkw : IntKind.i64.wrap (((k : Nat) : Int) + 1) = ((K1 : Nat) : Int) := by
        rw [IntKind.wrap_i64]
        omega
      have HK1 : Hid (k + 1 = K1) := hK1
      clear hK1
      obtain ⟨x0, x1, x2, x3, x4⟩ := hx wd (Below.refl _ _)
      obtain ⟨N, hN⟩ : ∃ N, len0 + len1 = N := ⟨_, rfl⟩
      have HX : Hid (_) := And.intro hN (And.intro hk (And.intro hl0' hl1'))
      rw [hN] at hChA
      clear q0 q1 f0 o0 f1 o1 hk0 hk1 hk2 t1 t2 s1 s2 jr ja jn hS HL hl0 hl1 hR
      go_wp2_with fail
      go_region_held3 (fun wx => wx.cell? ⟨gn, 0, none⟩ = some (.slice p0 2 c0) ∧ wx.cell? ⟨gn, 1, none⟩ = some (.slice p1 2 c1) ∧ wx.cell? ⟨gn, 2, none⟩ = some (.int .u32 50) ∧ wx.cell? ⟨g, 0, none⟩ = some (.int .i64 R) ∧ wx.cell? ⟨g, 1, none⟩ = some (.int .i64 ((k : Nat) : Int))) (first | assumption | exact hx _ (by repeat (first | with_reducible assumption | with_reducible exact Below.refl _ _ | with_reducible refine belowN ?_ _ | with_reducible refine Below.drew ?_ | with_reducible refine belowG ?_ _))) (first
        | (refine step_callN 12 #[.tmp 29] #[26] rfl (by kernel_rfl) #[.slice (some ⟨q, off, none⟩) len0 cap0] (by kernel_rfl) (hCp0 _ (by repeat (first | with_reducible assumption | with_reducible exact Below.refl _ _ | with_reducible refine belowN ?_ _ | with_reducible refine Below.drew ?_ | with_reducible refine belowG ?_ _))) ?_; rintro x w3 ⟨⟨a', c', rfl, h3⟩, b3⟩; have B3 := belT (W := wd) b3 (by repeat (first | with_reducible assumption | with_reducible exact Below.refl _ _ | with_reducible refine belowN ?_ _ | with_reducible refine Below.drew ?_ | with_reducible refine belowG ?_ _)); have h3' : Hid (OF w3 wd.heap.size wd.heap.size a' len0 c' F) := h3; skip)
        | (refine step_callN 12 #[.tmp 31] #[26] rfl (by kernel_rfl) #[.slice a1 len1 cap1] (by kernel_rfl) (hCp1 _ (by repeat (first | with_reducible assumption | with_reducible exact Below.refl _ _ | with_reducible refine belowN ?_ _ | with_reducible refine Below.drew ?_ | with_reducible refine belowG ?_ _))) ?_; rintro x w4 ⟨⟨a'', c'', rfl, h4⟩, b4⟩; have B4 := belT (W := wd) b4 (by repeat (first | with_reducible assumption | with_reducible exact Below.refl _ _ | with_reducible refine belowN ?_ _ | with_reducible refine Below.drew ?_ | with_reducible refine belowG ?_ _)); have b4' := belT (W := w3) b4 (by repeat (first | with_reducible assumption | with_reducible exact Below.refl _ _ | with_reducible refine belowN ?_ _ | with_reducible refine Below.drew ?_ | with_reducible refine belowG ?_ _)); have h4' : Hid (OF w4 wd.heap.size w3.heap.size a'' len1 c'' G) := h4; have h34 : Hid (OF w4 wd.heap.size wd.heap.size a' len0 c' F) := h3'.out.below b4'; have hlt : Hid (∀ g, (Value.slice a' len0 c').ownBlock = some g → g < w3.heap.size) := h3'.out.lt; skip)
        | (refine step_appFF rfl (.tmp 30) (.tmp 32) rfl rfl wd.heap.size wd.heap.size w3.heap.size len0 len1 c' c'' F G a' a'' (by simp [Act.eval]) (by simp [Act.eval]) (OF.below h34.out (by repeat (first | with_reducible assumption | with_reducible exact Below.refl _ _ | with_reducible refine belowN ?_ _ | with_reducible refine Below.drew ?_ | with_reducible refine belowG ?_ _))) (OF.below h4'.out (by repeat (first | with_reducible assumption | with_reducible exact Below.refl _ _ | with_reducible refine belowN ?_ _ | with_reducible refine Below.drew ?_ | with_reducible refine belowG ?_ _))) (by have := HX.out; omega) N HX.out.1 (Nat.le_refl _) hlt.out wd (Nat.le_refl _) (by repeat (first | with_reducible assumption | with_reducible exact Below.refl _ _ | with_reducible refine belowN ?_ _ | with_reducible refine Below.drew ?_ | with_reducible refine belowG ?_ _)) ?_; intro a5 c5 w5 h5 B5; skip)
        | (refine step_callN 15 #[.tmp 28, .tmp 33] #[25, 26] rfl (by kernel_rfl) #[.agg #[.slice p0 2 c0, .slice p1 2 c1, .int .u32 50], .slice a5 N c5] (by kernel_rfl) (hChA _ _ _ (FRow.below h5.out (by repeat (first | with_reducible assumption | with_reducible exact Below.refl _ _ | with_reducible refine belowN ?_ _ | with_reducible refine Below.drew ?_ | with_reducible refine belowG ?_ _))) (by repeat (first | with_reducible assumption | with_reducible exact Below.refl _ _ | with_reducible refine belowN ?_ _ | with_reducible refine Below.drew ?_ | with_reducible refine belowG ?_ _))) ?_; rintro x w6 ⟨rfl, b6⟩; have B6 := belT (W := wd) b6 (by repeat (first | with_reducible assumption | with_reducible exact Below.refl _ _ | with_reducible refine belowN ?_ _ | with_reducible refine Below.drew ?_ | with_reducible refine belowG ?_ _)); skip)
        | (refine step_callN 12 #[.tmp 42] #[26] rfl (by kernel_rfl) #[.slice (some ⟨q, off, none⟩) k cap0] (by kernel_rfl) (hCpk _ k (by have := HX.out; omega) (by repeat (first | with_reducible assumption | with_reducible exact Below.refl _ _ | with_reducible refine belowN ?_ _ | with_reducible refine Below.drew ?_ | with_reducible refine belowG ?_ _))) ?_; rintro x w7 ⟨⟨a7, c7, rfl, h7⟩, b7⟩; have B7 := belT (W := wd) b7 (by repeat (first | with_reducible assumption | with_reducible exact Below.refl _ _ | with_reducible refine belowN ?_ _ | with_reducible refine Below.drew ?_ | with_reducible refine belowG ?_ _)); skip)
        | (refine step_callN 15 #[.tmp 38, .tmp 43] #[25, 26] rfl (by kernel_rfl) #[.agg #[.slice p0 2 c0, .slice p1 2 c1, .int .u32 50], .slice a7 k c7] (by kernel_rfl) (hChB _ _ _ (FRow.below h7.out (by repeat (first | with_reducible assumption | with_reducible exact Below.refl _ _ | with_reducible refine belowN ?_ _ | with_reducible refine Below.drew ?_ | with_reducible refine belowG ?_ _))) (by repeat (first | with_reducible assumption | with_reducible exact Below.refl _ _ | with_reducible refine belowN ?_ _ | with_reducible refine Below.drew ?_ | with_reducible refine belowG ?_ _))) ?_; rintro x w8 ⟨rfl, b8⟩; have B8 := belT (W := wd) b8 (by repeat (first | with_reducible assumption | with_reducible exact Below.refl _ _ | with_reducible refine belowN ?_ _ | with_reducible refine Below.drew ?_ | with_reducible refine belowG ?_ _)); skip)
        | (refine step_callN 12 #[.tmp 54] #[26] rfl (by kernel_rfl) #[.slice (some ⟨q, off, none⟩) K1 cap0] (by kernel_rfl) (hCpk _ K1 (by have := HX.out; have := HK1.out; omega) (by repeat (first | with_reducible assumption | with_reducible exact Below.refl _ _ | with_reducible refine belowN ?_ _ | with_reducible refine Below.drew ?_ | with_reducible refine belowG ?_ _))) ?_; rintro x w9 ⟨⟨a9, c9, rfl, h9⟩, b9⟩; have B9 := belT (W := wd) b9 (by repeat (first | with_reducible assumption | with_reducible exact Below.refl _ _ | with_reducible refine belowN ?_ _ | with_reducible refine Below.drew ?_ | with_reducible refine belowG ?_ _)); skip)
        | (refine step_callN 15 #[.tmp 49, .tmp 55] #[25, 26] rfl (by kernel_rfl) #[.agg #[.slice p0 2 c0, .slice p1 2 c1, .int .u32 50], .slice a9 K1 c9] (by kernel_rfl) (hChC _ _ _ (FRow.below h9.out (by repeat (first | with_reducible assumption | with_reducible exact Below.refl _ _ | with_reducible refine belowN ?_ _ | with_reducible refine Below.drew ?_ | with_reducible refine belowG ?_ _))) (by repeat (first | with_reducible assumption | with_reducible exact Below.refl _ _ | with_reducible refine belowN ?_ _ | with_reducible refine Below.drew ?_ | with_reducible refine belowG ?_ _))) ?_; rintro x wf ⟨rfl, bf⟩; have Bf := belT (W := wd) bf (by repeat (first | with_reducible assumption | with_reducible exact Below.refl _ _ | with_reducible refine belowN ?_ _ | with_reducible refine Below.drew ?_ | with_reducible refine belowG ?_ _)); skip)
        )
      all_goals
        have Be := belT (W := w) (wx := wd) Bf HB.out
        go_wp2_with fail
        go_ret
        first | exact ⟨rfl, Be⟩ | exact Be | trace_state
end Go.Proofs.Ytaeamogagaaodaa
