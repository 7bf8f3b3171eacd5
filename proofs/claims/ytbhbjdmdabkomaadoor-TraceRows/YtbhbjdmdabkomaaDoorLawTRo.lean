/- TraceRows (P21.1, P21.2): ends, lines and texts of rows are the document's. (gentrow.py) -/
import Derived.Test.YtbhbjdmdabkomaaDoorTqA
namespace Go.Proofs.YtbhbjdmdabkomaaDoor
set_option maxRecDepth 100000
open Go.RowKit Go.Maps
set_option maxRecDepth 100000
def rb (r : Rx) (x : Rd) : List Bt8 := [⟨x.a1, r.m.l, x.c1, r.m.b⟩, ⟨x.a2, r.h.l, x.c2, r.h.b⟩, ⟨x.a3, r.v.l, x.c3, r.v.b⟩]
theorem rb_rows {r : Rx} {x : Rd} {w : World} (h : ∀ t ∈ rb r x, Row8 w t.a t.n t.c t.b) : r.Rows x w := ⟨h ⟨x.a1, r.m.l, x.c1, r.m.b⟩ (by simp [rb]), h ⟨x.a2, r.h.l, x.c2, r.h.b⟩ (by simp [rb]), h ⟨x.a3, r.v.l, x.c3, r.v.b⟩ (by simp [rb])⟩
theorem rows_rb {r : Rx} {x : Rd} {w : World} (h : r.Rows x w) : ∀ t ∈ rb r x, Row8 w t.a t.n t.c t.b := fun t ht => by
  simp only [rb, List.mem_cons, List.not_mem_nil, or_false] at ht
  rcases ht with rfl | rfl | rfl
  · exact h.m
  · exact h.h
  · exact h.v
theorem OL.congr {W wx : World} {T K : Nat} {v : Value} {n : Nat} {cs cs' : Nat → List Value} {bt bt' : Nat → List Bt8} (h : OL W wx T K v n cs bt) (h1 : ∀ i, i < n → cs i = cs' i) (h2 : ∀ i, i < n → bt i = bt' i) : OL W wx T K v n cs' bt' :=
  ⟨by rw [← fl_congr h1]; exact h.own, h.bel, fun i hi => by rw [← h1 i hi]; exact h.len i hi, fun i hi r hr => by rw [← h2 i hi] at hr; exact h.row i hi r hr⟩
/-- The list of copies so far. -/
def Lc (W wx : World) (T : Nat) (v : Value) (n : Nat) (R : Nat → Rx) (D : Nat → Rd) : Prop := OL W wx T 29 v n (fun j => (R j).cs (D j)) (fun j => rb (R j) (D j))
theorem Lc.rows {W wx : World} {T : Nat} {v : Value} {n : Nat} {R : Nat → Rx} {D : Nat → Rd} (h : Lc W wx T v n R D) : ∃ a c, v = .slice a n c ∧ RxRow wx a n R D := by
  by_cases h0 : 0 < n
  · obtain ⟨g, c, e, _, _, hc⟩ := OL.form h h0
    refine ⟨_, c, e, fun i hi => ⟨g, 0, rfl, fun j u hu => ?_, rb_rows (fun t ht => (OL.row h i hi t ht).1)⟩⟩
    rw [Nat.zero_add]
    exact hc i j u hi hu
  · obtain ⟨a, c, e, _⟩ := OL.shape h
    exact ⟨a, c, e, fun i hi => by omega⟩
theorem tV_form (R : Nat → Rx) (n : Nat) : ∃ X k E, tV R n = .tuple #[.string X, .int .i64 k, .int .i64 E] := by
  unfold tV
  split
  · exact ⟨_, _, _, rfl⟩
  · exact ⟨_, _, _, rfl⟩
theorem build1R (r : Rx) (x : Rd) (w : World) : (Instr.buildSlice 72 1 #[(0, .agg (r.A x))]).run Tryd.prog w = .ok (.slice (some ⟨w.heap.size, 0, none⟩) 1 1) (w.alloc (.cells (r.A x) 78)) := by
  show (Instr.buildSlice 72 1 #[(0, .agg #[.int .i64 r.m.k, .int .i64 r.m.c, .int .i64 r.m.s, .int .i64 r.m.f, .int .i64 r.m.a, .int .u32 (r.m.w : Nat), .int .i64 r.m.n, .bool r.m.h, .slice x.a1 r.m.l x.c1, .int .i64 r.cd, .int .i64 r.st, .int .i64 r.h.st, .int .u32 (r.h.se : Nat), .int .u32 (r.h.nu : Nat), .int .u32 (r.h.sn : Nat), .int .i64 r.h.si, .int .i64 r.h.la, .bool r.h.rq, .bool r.h.on, .slice x.a2 r.h.l x.c2, .int .i64 r.v.st, .int .u32 (r.v.se : Nat), .int .u32 (r.v.nu : Nat), .int .u32 (r.v.sn : Nat), .int .i64 r.v.si, .int .i64 r.v.la, .bool r.v.rq, .bool r.v.on, .slice x.a3 r.v.l x.c3])]).run Tryd.prog w = .ok (.slice (some ⟨w.heap.size, 0, none⟩) 1 1) (w.alloc (.cells #[.int .i64 r.m.k, .int .i64 r.m.c, .int .i64 r.m.s, .int .i64 r.m.f, .int .i64 r.m.a, .int .u32 (r.m.w : Nat), .int .i64 r.m.n, .bool r.m.h, .slice x.a1 r.m.l x.c1, .int .i64 r.cd, .int .i64 r.st, .int .i64 r.h.st, .int .u32 (r.h.se : Nat), .int .u32 (r.h.nu : Nat), .int .u32 (r.h.sn : Nat), .int .i64 r.h.si, .int .i64 r.h.la, .bool r.h.rq, .bool r.h.on, .slice x.a2 r.h.l x.c2, .int .i64 r.v.st, .int .u32 (r.v.se : Nat), .int .u32 (r.v.nu : Nat), .int .u32 (r.v.sn : Nat), .int .i64 r.v.si, .int .i64 r.v.la, .bool r.v.rq, .bool r.v.on, .slice x.a3 r.v.l x.c3] 78))
  kernel_rfl
theorem info_row : (Tryd.prog.info? 78).map (fun i => (i.zero, i.size, i.bytes)) = some (some (.agg #[.int .i64 0, .int .i64 0, .int .i64 0, .int .i64 0, .int .i64 0, .int .u32 0, .int .i64 0, .bool false, .slice none 0 0, .int .i64 0, .int .i64 0, .int .i64 0, .int .u32 0, .int .u32 0, .int .u32 0, .int .i64 0, .int .i64 0, .bool false, .bool false, .slice none 0 0, .int .i64 0, .int .u32 0, .int .u32 0, .int .u32 0, .int .i64 0, .int .i64 0, .bool false, .bool false, .slice none 0 0]), 29, 248) := by kernel_rfl
set_option maxHeartbeats 4000000 in
theorem traceRows_any (a : Option Addr) (len cap : Nat) (R : Nat → Rx) (D : Nat → Rd) (w : World) (hr : RxRow w a len R D) (ok : ∀ i, i < len → (R i).Ok) (hlen : len ≤ 9223372036854775807) (L : Lt w) (K : Lk w) : Calls Tryd.prog 12 #[.slice a len cap] w fun q w' => q = .returned (.bool true) ∧ Below w.heap.size w w' := by
  have hA := awake21 w L
  have HW : Hid (_) := And.intro hr (And.intro ok (And.intro L K))
  clear hr ok L K
  by_cases h2 : 200 < len
  · have g2 : (200 : Int) < ((len : Nat) : Int) := by omega
    go_enter Tryd.func12, Tryd.ntmps12
    go_wp2_with fail
    refine hA.mono ?_
    rintro q w1 ⟨rfl, b1⟩
    have H1 : Hid (_) := b1
    clear hA b1
    go_wp2_with fail
    go_ret
    exact ⟨rfl, H1.out⟩
  have g2 : ¬ (200 : Int) < ((len : Nat) : Int) := by omega
  go_enter Tryd.func12, Tryd.ntmps12
  go_wp2_with fail
  refine hA.mono ?_
  rintro q w1 ⟨rfl, b1⟩
  have H1 : Hid (∃ D', Lc w w1 78 (.slice none 0 0) 0 R D' ∧ ∀ j, j < 0 → (R j).Sh) := ⟨D, (OL.none w 78 29 _ _).below b1, fun j hj => by omega⟩
  clear hA b1
  go_wp2_with fail
  go_loopw [2, 3, 4, 5, 6, 7, 8, 20, 21, 22, 23, 24, 25, 26, 27, 28, 29, 30, 31, 32, 33, 34, 35, 36, 37, 38, 39, 40, 41, 42, 43, 44, 45, 46, 47, 48, 49, 50, 51, 52, 53, 54, 55, 56, 57, 58, 59, 60, 61, 62, 63, 64, 65, 66, 67, 68, 69, 70, 71, 72, 73, 74, 75, 76, 77, 78, 79, 80, 81, 82, 83, 84, 85, 86, 87, 88, 89, 90, 91, 92] (fun _ v c _ _ _ _ _ _ _ _ _ _ _ _ _ _ _ _ _ _ _ _ _ _ _ _ _ _ _ _ _ _ _ _ _ _ _ _ _ _ _ _ _ _ _ _ _ _ _ _ _ _ _ _ _ _ _ _ _ _ _ _ _ _ _ _ _ _ _ _ _ _ _ _ _ _ _ _ _ wr => ∃ i : Nat, i ≤ len ∧ c = .int .i64 ((i : Nat) : Int) ∧ Hid (∃ D', Lc w wr 78 v i R D' ∧ ∀ j, j < i → (R j).Sh)) (fun _ _ c _ _ _ _ _ _ _ _ _ _ _ _ _ _ _ _ _ _ _ _ _ _ _ _ _ _ _ _ _ _ _ _ _ _ _ _ _ _ _ _ _ _ _ _ _ _ _ _ _ _ _ _ _ _ _ _ _ _ _ _ _ _ _ _ _ _ _ _ _ _ _ _ _ _ _ _ _ _ => len - natV c)
  case atStart => exact ⟨0, by omega, rfl, H1⟩
  case round =>
    clear H1
    obtain ⟨i, hi, rfl, HI⟩ := hrel
    obtain ⟨D', hL', hSh⟩ := HI.out
    have HL : Hid (_) := hL'
    have HS : Hid (_) := hSh
    clear HI hL' hSh
    by_cases hlt : i < len
    rotate_left
    · obtain rfl : i = len := by omega
      have hlt' : ¬ ((i : Nat) : Int) < ((i : Nat) : Int) := by omega
      obtain ⟨al, cl, e, hrow⟩ := Lc.rows HL.out
      subst e
      have bel := OL.bel HL.out
      have t1 := ttext al i cl R D' wr hrow (fun j hj => ⟨HW.out.2.1 j hj, HS.out j hj⟩) (by omega) (HW.out.2.2.1.below bel) (HW.out.2.2.2.below bel)
      obtain ⟨X, k, E, hV⟩ := tV_form R i
      rw [hV] at t1
      have HB : Hid (_) := And.intro bel hV
      clear hrow bel hV
      go_wp2_with fail
      refine t1.mono ?_
      rintro z w2 ⟨rfl, b2⟩
      have B2 : Below w.heap.size w w2 := HB.out.1.trans (b2.mono HB.out.1.size)
      have t2 := rtext a i cap R D w2 (HW.out.1.below B2) (fun j hj => ⟨HW.out.2.1 j hj, HS.out j hj⟩) (by omega)
      rw [HB.out.2] at t2
      have HB2 : Hid (_) := B2
      clear t1 b2 B2
      go_wp2_with fail
      refine t2.mono ?_
      rintro z w3 ⟨rfl, b3⟩
      have HB3 : Hid (Below w.heap.size w w3) := HB2.out.trans (b3.mono HB2.out.size)
      clear t2 b3
      go_wp2_with fail
      go_ret
      exact ⟨rfl, HB3.out⟩
    have hlt' : ((i : Nat) : Int) < ((len : Nat) : Int) := by omega
    have hw1 : IntKind.i64.wrap (((i : Nat) : Int) + 1) = ((i + 1 : Nat) : Int) := by rw [IntKind.wrap_i64]; omega
    obtain ⟨q, off, ea, cc, RR⟩ := (HW.out.1.below (OL.bel HL.out)) i hlt
    subst ea
    obtain ⟨r, hR⟩ : ∃ y, R i = y := ⟨_, rfl⟩
    obtain ⟨x, hD⟩ : ∃ y, D i = y := ⟨_, rfl⟩
    rw [hR, hD] at cc RR
    have hok := HW.out.2.1 i hlt
    rw [hR] at hok
    obtain ⟨A, hA⟩ : ∃ y, r.A x = y := ⟨_, rfl⟩
    have cA : wr.rangeAt q (off + i * 29) A.toList := by rw [← hA, r.A_list]; exact cc
    have iA : (Tryd.prog.info? 78).map (·.size) = some A.size := by rw [← hA]; exact size_row
    have hLo := tlong r x wr
    rw [hA] at hLo
    have HR : Hid (_) := And.intro RR (And.intro hok (And.intro hR (And.intro cA (And.intro hA hD))))
    clear RR hok hR hD hA cc
    go_wp2_with (refine wpList_loadA rfl 78 (.tmp 28) rfl q (off + i * 29) rfl A _ cA Tryd.underlying78 rfl iA ?_)
    refine hLo.mono ?_
    rintro z w2 ⟨b, rfl, hb⟩
    clear hLo cA
    have HB2 : Hid (Below wr.heap.size wr w2) := hb.out.1
    cases b with
    | true =>
      clear hb
      go_wp2_with fail
      go_ret
      exact ⟨rfl, (OL.bel HL.out).trans (HB2.out.mono (OL.bel HL.out).size)⟩
    | false =>
    have HSh : Hid (r.Sh) := hb.out.2 rfl
    clear hb
    have cA := rangeB HR.out.2.2.2.1 HB2.out
    have hOw := town r HSh.out x w2 (HR.out.1.below HB2.out)
    rw [HR.out.2.2.2.2.1] at hOw
    go_wp2_with (refine wpList_loadA rfl 78 (.tmp 34) rfl q (off + i * 29) rfl A _ cA Tryd.underlying78 rfl iA ?_)
    refine hOw.mono ?_
    rintro z w3 ⟨y, rfl, h3⟩
    clear hOw cA
    obtain ⟨A', hA'⟩ : ∃ z, r.A y = z := ⟨_, rfl⟩
    have hbd := build1R r y
    rw [hA'] at hbd
    try rw [hA']
    have sA' : A'.size = 29 := by rw [← hA']; rfl
    have L3 : Lc w w3 78 u3 i R D' := (OL.below HL.out HB2.out).below h3.out.2.2
    have bA := belA (Below.refl _ w3) (.cells A' 78)
    have L4 : OL w (w3.alloc (.cells A' 78)) 78 29 u3 i (fun j => (R j).cs (D' j)) (fun j => rb (R j) (D' j)) := OL.below L3 bA
    obtain ⟨i0, hi0, hz0, hz1, hz2⟩ := info_parts info_row
    have src : ∀ j u, A'.toList[j]? = some u → (w3.alloc (.cells A' 78)).cell? ((⟨w3.heap.size, 0, none⟩ : Addr).add j) = some u := fun j u hu => by
      have e : (⟨w3.heap.size, 0, none⟩ : Addr).add j = ⟨w3.heap.size, j, none⟩ := by unfold Addr.add; simp; omega
      rw [e]
      have := range_new w3 A' 78 j u hu
      rwa [Nat.zero_add] at this
    have one : ∀ u ∈ A'.toList, u.oneCell' = true := fun u hu => (Array.all_eq_true_iff_forall_mem.1 (by rw [← hA']; exact r.A_one y : A'.all (·.oneCell') = true)) u (by simpa using hu)
    have lA' : A'.toList.length = 1 * 29 := by simp [sA']
    have hBw : w.heap.size ≤ (w3.alloc (.cells A' 78)).heap.size := (OL.bel L4).size
    have hvl : ∀ k, u3.ownBlock = some k → k < wr.heap.size := fun k hk => (OL.own HL.out).lt k hk |>.2
    have H3 : Hid (_) := And.intro h3.out (And.intro hA' hvl)
    clear h3 L3 bA hvl
    go_wp2_with (first
      | refine wpList_buildA rfl 72 (.tmp 36) rfl (.agg A') _ rfl (hbd w3) ?_
      | (at_builtin; refine wpList_append_own_at _ rfl _ _ 72 rfl w.heap.size 78 i0 (.agg #[.int .i64 0, .int .i64 0, .int .i64 0, .int .i64 0, .int .i64 0, .int .u32 0, .int .i64 0, .bool false, .slice none 0 0, .int .i64 0, .int .i64 0, .int .i64 0, .int .u32 0, .int .u32 0, .int .u32 0, .int .i64 0, .int .i64 0, .bool false, .bool false, .slice none 0 0, .int .i64 0, .int .u32 0, .int .u32 0, .int .u32 0, .int .i64 0, .int .i64 0, .bool false, .bool false, .slice none 0 0]) 29 248 Tryd.underlying72 hi0 hz0 hz1 hz2 rfl (by decide) u3 i _ rfl (OL.own L4) ⟨w3.heap.size, 0, none⟩ 1 1 A'.toList rfl lA' src one (by unfold maxLen; omega) (by omega) hBw ?_)
      | fail)
    intro v5 w5 O5 G5 _ E5
    have L5 : Lc w w5 78 v5 (i + 1) R (fun j => if j = i then y else D' j) := by
      refine OL.congr (OL.more L4 (r.cs y) (rb r y) rfl (fun t ht => ⟨?_, fun z hz hn => ?_⟩) (by rw [← r.A_list, H3.out.2.1]; exact O5) G5 (by simpa using E5)) (fun j hj => ?_) (fun j hj => ?_)
      · exact rows_rb (H3.out.1.1.below (belA (Below.refl _ w3) _)) t ht
      · intro q5
        have h1 := H3.out.2.2 z.block q5.symm
        have h2 := HB2.out.size
        have h3 : w2.heap.size ≤ z.block := by
          simp only [rb, List.mem_cons, List.not_mem_nil, or_false] at ht
          rcases ht with rfl | rfl | rfl
          · exact H3.out.1.2.1.m z hz hn
          · exact H3.out.1.2.1.h z hz hn
          · exact H3.out.1.2.1.v z hz hn
        omega
      · by_cases e : j = i
        · subst e; simp [HR.out.2.2.1]
        · simp [e]
      · by_cases e : j = i
        · subst e; simp [HR.out.2.2.1]
        · simp [e]
    obtain ⟨g, c5, e5, _, _, hg5⟩ := OL.form L5 (Nat.succ_pos i)
    subst e5
    have ry : w5.rangeAt g (i * 29) (r.cs y) := fun j u hu => hg5 i j u (by omega) (by simpa [HR.out.2.2.1] using hu)
    have Ry : r.Rows y w5 := by
      have := rb_rows (r := R i) (x := if i = i then y else D' i) (fun t ht => (OL.row L5 i (by omega) t ht).1)
      rw [HR.out.2.2.1, if_pos rfl] at this
      exact this
    have B5 := OL.bel L5
    have rx5 : w5.rangeAt q (off + i * 29) (r.cs x) ∧ r.Rows x w5 := by
      obtain ⟨q', off', e', c', R'⟩ := (HW.out.1.below B5) i hlt
      simp only [Option.some.injEq, Addr.mk.injEq, and_true] at e'
      obtain ⟨rfl, rfl⟩ := e'
      rw [HR.out.2.2.1, HR.out.2.2.2.2.2] at c' R'
      exact ⟨c', R'⟩
    have H5 : Hid (_) := And.intro L5 (And.intro ry (And.intro Ry (And.intro B5 rx5)))
    have sSh : Hid (∀ j, j < i + 1 → (R j).Sh) := fun j hj => by
      by_cases e : j = i
      · rw [e, HR.out.2.2.1]; exact HSh.out
      · exact HS.out j (by omega)
    have cA5 : w5.rangeAt g (i * 29) A'.toList := by rw [← H3.out.2.1, r.A_list]; exact ry
    have iA' : (Tryd.prog.info? 78).map (·.size) = some A'.size := by rw [sA']; exact size_row
    have hLt := tlineA r HR.out.2.1 HSh.out y w5 Ry (HW.out.2.2.1.below B5) (HW.out.2.2.2.below B5)
    rw [H3.out.2.1] at hLt
    obtain ⟨E, hE⟩ : ∃ z, r.m.err = z := ⟨_, rfl⟩
    obtain ⟨X, hX⟩ : ∃ z, tx r.line = z := ⟨_, rfl⟩
    rw [hE, hX] at hLt
    have HX : Hid (_) := And.intro hE hX
    clear L4 O5 G5 E5 L5 hg5 ry Ry B5 rx5 src one lA' hBw hbd hi0 hz0 hz1 hz2 sA' hE hX
    go_upto_region 12 with fail
    go_wp2_with (first
      | refine wpList_loadA rfl 78 (.tmp 42) rfl g (i * 29) rfl A' _ cA5 Tryd.underlying78 rfl iA' ?_
      | refine wpList_loadA rfl 78 (.tmp 42) rfl g (0 + i * 29) rfl A' _ (by rw [Nat.zero_add]; exact cA5) Tryd.underlying78 rfl iA' ?_
      | fail)
    refine hLt.mono ?_
    rintro z w6 ⟨rfl, b6⟩
    have HB6 : Hid (Below w5.heap.size w5 w6) := b6
    clear hLt cA5 iA' b6
    have cA := rangeB H5.out.2.2.2.2.1 HB6.out
    rw [← r.A_list, HR.out.2.2.2.2.1] at cA
    have hLr := rlineA r HR.out.2.1 HSh.out x w6 (H5.out.2.2.2.2.2.below HB6.out)
    rw [HR.out.2.2.2.2.1, HX.out.1, HX.out.2] at hLr
    go_wp2_with (refine wpList_loadA rfl 78 (.tmp 50) rfl q (off + i * 29) rfl A _ cA Tryd.underlying78 rfl iA ?_)
    refine hLr.mono ?_
    rintro z w7 ⟨rfl, b7⟩
    have HB7 : Hid (Below w5.heap.size w5 w7) := belTS b7 HB6.out
    clear hLr cA iA b7 HB6
    obtain ⟨Hx, hHx⟩ : ∃ y, tx r.h.line = y := ⟨_, rfl⟩
    obtain ⟨Vx, hVx⟩ : ∃ y, tx r.v.line = y := ⟨_, rfl⟩
    have nh := HSh.out.h
    have nv := HSh.out.v
    have e1 : ∀ wx, Below w7.heap.size w7 wx → Calls Tryd.prog 44 #[.agg #[.int .i64 r.h.st, .int .u32 (r.h.se : Nat), .int .u32 (r.h.nu : Nat), .int .u32 (r.h.sn : Nat), .int .i64 r.h.si, .int .i64 r.h.la, .bool r.h.rq, .bool r.h.on, .slice y.a2 r.h.l y.c2]] wx fun q w' => ∃ v, q = .returned v ∧ (v = .string Hx ∧ Below w7.heap.size w7 w') := fun wx bx => by
      refine (tend r.h HR.out.2.1.h y.a2 y.c2 wx (H5.out.2.2.1.h.below (belTS bx HB7.out)) (by omega) ((HW.out.2.2.1.below H5.out.2.2.2.1).below (belTS bx HB7.out))).mono ?_
      rintro q w' ⟨rfl, b⟩
      exact ⟨_, rfl, by rw [hHx], belTS b bx⟩
    have e2 : ∀ wx, Below w7.heap.size w7 wx → Calls Tryd.prog 45 #[.agg #[.int .i64 r.h.st, .int .u32 (r.h.se : Nat), .int .u32 (r.h.nu : Nat), .int .u32 (r.h.sn : Nat), .int .i64 r.h.si, .int .i64 r.h.la, .bool r.h.rq, .bool r.h.on, .slice x.a2 r.h.l x.c2]] wx fun q w' => ∃ v, q = .returned v ∧ (v = .string Hx ∧ Below w7.heap.size w7 w') := fun wx bx => by
      refine (rend r.h HR.out.2.1.h x.a2 x.c2 wx (H5.out.2.2.2.2.2.h.below (belTS bx HB7.out)) (by omega)).mono ?_
      rintro q w' ⟨rfl, b⟩
      exact ⟨_, rfl, by rw [hHx], belTS b bx⟩
    have e3 : ∀ wx, Below w7.heap.size w7 wx → Calls Tryd.prog 44 #[.agg #[.int .i64 r.v.st, .int .u32 (r.v.se : Nat), .int .u32 (r.v.nu : Nat), .int .u32 (r.v.sn : Nat), .int .i64 r.v.si, .int .i64 r.v.la, .bool r.v.rq, .bool r.v.on, .slice y.a3 r.v.l y.c3]] wx fun q w' => ∃ v, q = .returned v ∧ (v = .string Vx ∧ Below w7.heap.size w7 w') := fun wx bx => by
      refine (tend r.v HR.out.2.1.v y.a3 y.c3 wx (H5.out.2.2.1.v.below (belTS bx HB7.out)) (by omega) ((HW.out.2.2.1.below H5.out.2.2.2.1).below (belTS bx HB7.out))).mono ?_
      rintro q w' ⟨rfl, b⟩
      exact ⟨_, rfl, by rw [hVx], belTS b bx⟩
    have e4 : ∀ wx, Below w7.heap.size w7 wx → Calls Tryd.prog 45 #[.agg #[.int .i64 r.v.st, .int .u32 (r.v.se : Nat), .int .u32 (r.v.nu : Nat), .int .u32 (r.v.sn : Nat), .int .i64 r.v.si, .int .i64 r.v.la, .bool r.v.rq, .bool r.v.on, .slice x.a3 r.v.l x.c3]] wx fun q w' => ∃ v, q = .returned v ∧ (v = .string Vx ∧ Below w7.heap.size w7 w') := fun wx bx => by
      refine (rend r.v HR.out.2.1.v x.a3 x.c3 wx (H5.out.2.2.2.2.2.v.below (belTS bx HB7.out)) (by omega)).mono ?_
      rintro q w' ⟨rfl, b⟩
      exact ⟨_, rfl, by rw [hVx], belTS b bx⟩
    have hS : ∀ wx, Below w7.heap.size w7 wx → wx.cell? ⟨g, i * 29 + 11, none⟩ = some (.int .i64 r.h.st) ∧ wx.cell? ⟨g, i * 29 + 11 + 1, none⟩ = some (.int .u32 (r.h.se : Nat)) ∧ wx.cell? ⟨g, i * 29 + 11 + 2, none⟩ = some (.int .u32 (r.h.nu : Nat)) ∧ wx.cell? ⟨g, i * 29 + 11 + 3, none⟩ = some (.int .u32 (r.h.sn : Nat)) ∧ wx.cell? ⟨g, i * 29 + 11 + 4, none⟩ = some (.int .i64 r.h.si) ∧ wx.cell? ⟨g, i * 29 + 11 + 5, none⟩ = some (.int .i64 r.h.la) ∧ wx.cell? ⟨g, i * 29 + 11 + 6, none⟩ = some (.bool r.h.rq) ∧ wx.cell? ⟨g, i * 29 + 11 + 7, none⟩ = some (.bool r.h.on) ∧ wx.cell? ⟨g, i * 29 + 11 + 8, none⟩ = some (.slice y.a2 r.h.l y.c2) ∧ wx.cell? ⟨g, i * 29 + 20, none⟩ = some (.int .i64 r.v.st) ∧ wx.cell? ⟨g, i * 29 + 20 + 1, none⟩ = some (.int .u32 (r.v.se : Nat)) ∧ wx.cell? ⟨g, i * 29 + 20 + 2, none⟩ = some (.int .u32 (r.v.nu : Nat)) ∧ wx.cell? ⟨g, i * 29 + 20 + 3, none⟩ = some (.int .u32 (r.v.sn : Nat)) ∧ wx.cell? ⟨g, i * 29 + 20 + 4, none⟩ = some (.int .i64 r.v.si) ∧ wx.cell? ⟨g, i * 29 + 20 + 5, none⟩ = some (.int .i64 r.v.la) ∧ wx.cell? ⟨g, i * 29 + 20 + 6, none⟩ = some (.bool r.v.rq) ∧ wx.cell? ⟨g, i * 29 + 20 + 7, none⟩ = some (.bool r.v.on) ∧ wx.cell? ⟨g, i * 29 + 20 + 8, none⟩ = some (.slice y.a3 r.v.l y.c3) ∧ wx.cell? ⟨q, off + i * 29 + 11, none⟩ = some (.int .i64 r.h.st) ∧ wx.cell? ⟨q, off + i * 29 + 11 + 1, none⟩ = some (.int .u32 (r.h.se : Nat)) ∧ wx.cell? ⟨q, off + i * 29 + 11 + 2, none⟩ = some (.int .u32 (r.h.nu : Nat)) ∧ wx.cell? ⟨q, off + i * 29 + 11 + 3, none⟩ = some (.int .u32 (r.h.sn : Nat)) ∧ wx.cell? ⟨q, off + i * 29 + 11 + 4, none⟩ = some (.int .i64 r.h.si) ∧ wx.cell? ⟨q, off + i * 29 + 11 + 5, none⟩ = some (.int .i64 r.h.la) ∧ wx.cell? ⟨q, off + i * 29 + 11 + 6, none⟩ = some (.bool r.h.rq) ∧ wx.cell? ⟨q, off + i * 29 + 11 + 7, none⟩ = some (.bool r.h.on) ∧ wx.cell? ⟨q, off + i * 29 + 11 + 8, none⟩ = some (.slice x.a2 r.h.l x.c2) ∧ wx.cell? ⟨q, off + i * 29 + 20, none⟩ = some (.int .i64 r.v.st) ∧ wx.cell? ⟨q, off + i * 29 + 20 + 1, none⟩ = some (.int .u32 (r.v.se : Nat)) ∧ wx.cell? ⟨q, off + i * 29 + 20 + 2, none⟩ = some (.int .u32 (r.v.nu : Nat)) ∧ wx.cell? ⟨q, off + i * 29 + 20 + 3, none⟩ = some (.int .u32 (r.v.sn : Nat)) ∧ wx.cell? ⟨q, off + i * 29 + 20 + 4, none⟩ = some (.int .i64 r.v.si) ∧ wx.cell? ⟨q, off + i * 29 + 20 + 5, none⟩ = some (.int .i64 r.v.la) ∧ wx.cell? ⟨q, off + i * 29 + 20 + 6, none⟩ = some (.bool r.v.rq) ∧ wx.cell? ⟨q, off + i * 29 + 20 + 7, none⟩ = some (.bool r.v.on) ∧ wx.cell? ⟨q, off + i * 29 + 20 + 8, none⟩ = some (.slice x.a3 r.v.l x.c3) := fun wx bx => by
      have h1 := range_part (rangeB H5.out.2.1 (belTS bx HB7.out)) 11 9
      have h2 := range_part (rangeB H5.out.2.1 (belTS bx HB7.out)) 20 9
      have h3 := range_part (rangeB H5.out.2.2.2.2.1 (belTS bx HB7.out)) 11 9
      have h4 := range_part (rangeB H5.out.2.2.2.2.1 (belTS bx HB7.out)) 20 9
      exact ⟨h1 0 _ rfl, h1 1 _ rfl, h1 2 _ rfl, h1 3 _ rfl, h1 4 _ rfl, h1 5 _ rfl, h1 6 _ rfl, h1 7 _ rfl, h1 8 _ rfl, h2 0 _ rfl, h2 1 _ rfl, h2 2 _ rfl, h2 3 _ rfl, h2 4 _ rfl, h2 5 _ rfl, h2 6 _ rfl, h2 7 _ rfl, h2 8 _ rfl, h3 0 _ rfl, h3 1 _ rfl, h3 2 _ rfl, h3 3 _ rfl, h3 4 _ rfl, h3 5 _ rfl, h3 6 _ rfl, h3 7 _ rfl, h3 8 _ rfl, h4 0 _ rfl, h4 1 _ rfl, h4 2 _ rfl, h4 3 _ rfl, h4 4 _ rfl, h4 5 _ rfl, h4 6 _ rfl, h4 7 _ rfl, h4 8 _ rfl⟩
    have B0 : Below w7.heap.size w7 w7.drew := Below.drew (Below.refl _ _)
    have HSd := hS _ B0
    have hii : ((i : Nat) : Int) < ((i + 1 : Nat) : Int) := by omega
    have hi2 : ((i : Nat) : Int) < ((i : Nat) : Int) + 1 := by omega
    have hi3 : i < i + 1 := Nat.lt_succ_self i
    have hi0' : (0 : Int) ≤ ((i : Nat) : Int) := by omega
    clear hHx hVx nh nv
    go_wp2_with fail
    go_region_held3 (fun wx => wx.cell? ⟨g, i * 29 + 11, none⟩ = some (.int .i64 r.h.st) ∧ wx.cell? ⟨g, i * 29 + 11 + 1, none⟩ = some (.int .u32 (r.h.se : Nat)) ∧ wx.cell? ⟨g, i * 29 + 11 + 2, none⟩ = some (.int .u32 (r.h.nu : Nat)) ∧ wx.cell? ⟨g, i * 29 + 11 + 3, none⟩ = some (.int .u32 (r.h.sn : Nat)) ∧ wx.cell? ⟨g, i * 29 + 11 + 4, none⟩ = some (.int .i64 r.h.si) ∧ wx.cell? ⟨g, i * 29 + 11 + 5, none⟩ = some (.int .i64 r.h.la) ∧ wx.cell? ⟨g, i * 29 + 11 + 6, none⟩ = some (.bool r.h.rq) ∧ wx.cell? ⟨g, i * 29 + 11 + 7, none⟩ = some (.bool r.h.on) ∧ wx.cell? ⟨g, i * 29 + 11 + 8, none⟩ = some (.slice y.a2 r.h.l y.c2) ∧ wx.cell? ⟨g, i * 29 + 20, none⟩ = some (.int .i64 r.v.st) ∧ wx.cell? ⟨g, i * 29 + 20 + 1, none⟩ = some (.int .u32 (r.v.se : Nat)) ∧ wx.cell? ⟨g, i * 29 + 20 + 2, none⟩ = some (.int .u32 (r.v.nu : Nat)) ∧ wx.cell? ⟨g, i * 29 + 20 + 3, none⟩ = some (.int .u32 (r.v.sn : Nat)) ∧ wx.cell? ⟨g, i * 29 + 20 + 4, none⟩ = some (.int .i64 r.v.si) ∧ wx.cell? ⟨g, i * 29 + 20 + 5, none⟩ = some (.int .i64 r.v.la) ∧ wx.cell? ⟨g, i * 29 + 20 + 6, none⟩ = some (.bool r.v.rq) ∧ wx.cell? ⟨g, i * 29 + 20 + 7, none⟩ = some (.bool r.v.on) ∧ wx.cell? ⟨g, i * 29 + 20 + 8, none⟩ = some (.slice y.a3 r.v.l y.c3) ∧ wx.cell? ⟨q, off + i * 29 + 11, none⟩ = some (.int .i64 r.h.st) ∧ wx.cell? ⟨q, off + i * 29 + 11 + 1, none⟩ = some (.int .u32 (r.h.se : Nat)) ∧ wx.cell? ⟨q, off + i * 29 + 11 + 2, none⟩ = some (.int .u32 (r.h.nu : Nat)) ∧ wx.cell? ⟨q, off + i * 29 + 11 + 3, none⟩ = some (.int .u32 (r.h.sn : Nat)) ∧ wx.cell? ⟨q, off + i * 29 + 11 + 4, none⟩ = some (.int .i64 r.h.si) ∧ wx.cell? ⟨q, off + i * 29 + 11 + 5, none⟩ = some (.int .i64 r.h.la) ∧ wx.cell? ⟨q, off + i * 29 + 11 + 6, none⟩ = some (.bool r.h.rq) ∧ wx.cell? ⟨q, off + i * 29 + 11 + 7, none⟩ = some (.bool r.h.on) ∧ wx.cell? ⟨q, off + i * 29 + 11 + 8, none⟩ = some (.slice x.a2 r.h.l x.c2) ∧ wx.cell? ⟨q, off + i * 29 + 20, none⟩ = some (.int .i64 r.v.st) ∧ wx.cell? ⟨q, off + i * 29 + 20 + 1, none⟩ = some (.int .u32 (r.v.se : Nat)) ∧ wx.cell? ⟨q, off + i * 29 + 20 + 2, none⟩ = some (.int .u32 (r.v.nu : Nat)) ∧ wx.cell? ⟨q, off + i * 29 + 20 + 3, none⟩ = some (.int .u32 (r.v.sn : Nat)) ∧ wx.cell? ⟨q, off + i * 29 + 20 + 4, none⟩ = some (.int .i64 r.v.si) ∧ wx.cell? ⟨q, off + i * 29 + 20 + 5, none⟩ = some (.int .i64 r.v.la) ∧ wx.cell? ⟨q, off + i * 29 + 20 + 6, none⟩ = some (.bool r.v.rq) ∧ wx.cell? ⟨q, off + i * 29 + 20 + 7, none⟩ = some (.bool r.v.on) ∧ wx.cell? ⟨q, off + i * 29 + 20 + 8, none⟩ = some (.slice x.a3 r.v.l x.c3)) (first | assumption | exact hS _ (by assumption)) (first
      | (refine step_callS 44 #[.tmp 68] #[76] rfl (by kernel_rfl) #[.agg #[.int .i64 r.h.st, .int .u32 (r.h.se : Nat), .int .u32 (r.h.nu : Nat), .int .u32 (r.h.sn : Nat), .int .i64 r.h.si, .int .i64 r.h.la, .bool r.h.rq, .bool r.h.on, .slice y.a2 r.h.l y.c2]] (by kernel_rfl) (e1 _ (by assumption)) ?_; rintro z v1 ⟨rfl, b1⟩)
      | (refine step_callS 45 #[.tmp 74] #[76] rfl (by kernel_rfl) #[.agg #[.int .i64 r.h.st, .int .u32 (r.h.se : Nat), .int .u32 (r.h.nu : Nat), .int .u32 (r.h.sn : Nat), .int .i64 r.h.si, .int .i64 r.h.la, .bool r.h.rq, .bool r.h.on, .slice x.a2 r.h.l x.c2]] (by kernel_rfl) (e2 _ (by assumption)) ?_; rintro z v2 ⟨rfl, b2⟩)
      | (refine step_callS 44 #[.tmp 83] #[76] rfl (by kernel_rfl) #[.agg #[.int .i64 r.v.st, .int .u32 (r.v.se : Nat), .int .u32 (r.v.nu : Nat), .int .u32 (r.v.sn : Nat), .int .i64 r.v.si, .int .i64 r.v.la, .bool r.v.rq, .bool r.v.on, .slice y.a3 r.v.l y.c3]] (by kernel_rfl) (e3 _ (by assumption)) ?_; rintro z v3 ⟨rfl, b3⟩)
      | (refine step_callS 45 #[.tmp 89] #[76] rfl (by kernel_rfl) #[.agg #[.int .i64 r.v.st, .int .u32 (r.v.se : Nat), .int .u32 (r.v.nu : Nat), .int .u32 (r.v.sn : Nat), .int .i64 r.v.si, .int .i64 r.v.la, .bool r.v.rq, .bool r.v.on, .slice x.a3 r.v.l x.c3]] (by kernel_rfl) (e4 _ (by assumption)) ?_; rintro z v4 ⟨rfl, b4⟩)
      | fail)
    have HF : Hid (∃ D', Lc w v4 78 (.slice (some ⟨g, 0, none⟩) (i + 1) c5) (i + 1) R D' ∧ ∀ j, j < i + 1 → (R j).Sh) := ⟨_, OL.below (OL.below H5.out.1 HB7.out) b4, sSh.out⟩
    rename (World.cell? _ _ = _ ∧ _) => hHd
    clear hHd hS HSd B0 e1 e2 e3 e4 b1 b2 b3 b4 H5 HB7 sSh H3 HR HSh HX HL HS HB2
    go_wp2_with fail
    go_roundw
    case rel => exact ⟨i + 1, by omega, by first | rfl | go_num, HF⟩
    case measure => simp [natV] <;> omega
end Go.Proofs.YtbhbjdmdabkomaaDoor
