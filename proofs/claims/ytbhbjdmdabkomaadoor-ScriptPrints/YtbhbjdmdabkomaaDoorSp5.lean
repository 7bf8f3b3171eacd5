/- Layer 20: the document's Print. (gensp5.py) -/
import Derived.Test.YtbhbjdmdabkomaaDoorSp4
namespace Go.Proofs.YtbhbjdmdabkomaaDoor
set_option maxRecDepth 100000
open Go.RowKit Go.Maps
set_option maxRecDepth 100000
/-- The first k lines of both lists of sets; are these lawful? -/
def comT (P0 : Nat → Ps) (l0 : Nat) (P1 : Nat → Ps) (k : Nat) : List UInt8 := setT wHost P0 (min k l0) ++ setT wDev P1 (k - l0)
def comL (P0 : Nat → Ps) (l0 : Nat) (P1 : Nat → Ps) (k : Nat) : Bool := allLaw P0 (min k l0) && allLaw P1 (k - l0)
theorem comT_h {P0 : Nat → Ps} {l0 : Nat} {P1 : Nat → Ps} {k : Nat} (h : k < l0) : comT P0 l0 P1 (k + 1) = comT P0 l0 P1 k ++ (Lib.join [wHost, (P0 k).line] [32] ++ [10]) := by
  unfold comT
  rw [Nat.min_eq_left (by omega), Nat.min_eq_left (by omega), show k + 1 - l0 = 0 by omega, show k - l0 = 0 by omega]
  simp [setT]
theorem comT_d {P0 : Nat → Ps} {l0 : Nat} {P1 : Nat → Ps} {k : Nat} (h : l0 ≤ k) : comT P0 l0 P1 (k + 1) = comT P0 l0 P1 k ++ (Lib.join [wDev, (P1 (k - l0)).line] [32] ++ [10]) := by
  unfold comT
  rw [Nat.min_eq_right (by omega), Nat.min_eq_right (by omega), show k + 1 - l0 = k - l0 + 1 by omega]
  simp [setT]
theorem comL_h {P0 : Nat → Ps} {l0 : Nat} {P1 : Nat → Ps} {k : Nat} (h : k < l0) : comL P0 l0 P1 (k + 1) = (comL P0 l0 P1 k && (P0 k).law) := by
  unfold comL
  rw [Nat.min_eq_left (by omega), Nat.min_eq_left (by omega), show k + 1 - l0 = 0 by omega, show k - l0 = 0 by omega]
  simp [allLaw]
theorem comL_d {P0 : Nat → Ps} {l0 : Nat} {P1 : Nat → Ps} {k : Nat} (h : l0 ≤ k) : comL P0 l0 P1 (k + 1) = (comL P0 l0 P1 k && (P1 (k - l0)).law) := by
  unfold comL
  rw [Nat.min_eq_right (by omega), Nat.min_eq_right (by omega), show k + 1 - l0 = k - l0 + 1 by omega]
  simp [allLaw, Bool.and_assoc]
theorem comL_less {P0 : Nat → Ps} {l0 : Nat} {P1 : Nat → Ps} {l1 k : Nat} (h : comL P0 l0 P1 k = false) (hk : k ≤ l0 + l1) : (allLaw P0 l0 && allLaw P1 l1) = false := by
  unfold comL at h
  rcases Bool.and_eq_false_iff.1 h with h | h
  · rw [allLaw_less h (by omega)]
    rfl
  · rw [allLaw_less h (by omega), Bool.and_false]
theorem com_all {P0 : Nat → Ps} {l0 : Nat} {P1 : Nat → Ps} {l1 : Nat} : comL P0 l0 P1 (l0 + l1) = (allLaw P0 l0 && allLaw P1 l1) ∧ ∀ ms, netT ms ++ comT P0 l0 P1 (l0 + l1) = headT ms P0 l0 P1 l1 := by
  unfold comL comT headT
  rw [Nat.min_eq_right (by omega), show l0 + l1 - l0 = l1 by omega]
  exact ⟨rfl, fun ms => by simp⟩
theorem comT_len {P0 : Nat → Ps} {l0 : Nat} {P1 : Nat → Ps} {l1 k : Nat} (hk : k ≤ l0 + l1) (ok0 : ∀ i, i < l0 → (P0 i).Ok) (ok1 : ∀ i, i < l1 → (P1 i).Ok) (h0 : l0 ≤ 1000) (h1 : l1 ≤ 1000) : (comT P0 l0 P1 k).length ≤ 224000 := by
  have a := setT_len (wd := wHost) (by decide) (P := P0) (min k l0) (fun i hi => ok0 i (by omega))
  have b := setT_len (wd := wDev) (by decide) (P := P1) (k - l0) (fun i hi => ok1 i (by omega))
  unfold comT
  rw [List.length_append]
  omega
theorem rlawP (p : Ps) (w : World) : Calls Tryd.prog 37 #[.agg #[.int .u32 (p.c : Nat), .int .i64 p.o, .int .i64 p.i, .int .i64 p.t, .int .u32 (p.n : Nat)]] w fun e w' => e = .returned (.bool p.law) ∧ Below w.heap.size w w' := rlaw_any p.c p.o p.i p.t p.n w _ rfl
set_option maxHeartbeats 4000000 in
theorem rprint (a0 : Option Addr) (l0 c0 : Nat) (P0 : Nat → Ps) (a1 : Option Addr) (l1 c1 : Nat) (P1 : Nat → Ps) (ms : Nat) (am : Option Addr) (n cm : Nat) (M : Nat → Mv) (D : Nat → Md) (w : World) (h0 : PsRow w a0 l0 P0) (h1 : PsRow w a1 l1 P1) (hM : MvRow w am n M D) (ok0 : ∀ i, i < l0 → (P0 i).Ok) (ok1 : ∀ i, i < l1 → (P1 i).Ok) (okM : ∀ i, i < n → (M i).Ok ∧ (M i).l ≤ 140737488355328) (hms : ms < 4294967296) (hl0 : l0 ≤ 1000) (hl1 : l1 ≤ 1000) (hn : n ≤ 1000) :
    Calls Tryd.prog 23 #[.agg #[.slice a0 l0 c0, .slice a1 l1 c1, .int .u32 (ms : Nat)], .slice am n cm] w fun r w' => r = .returned (.tuple #[.string (prS ms P0 l0 P1 l1 M n), .int .i64 (prE ms P0 l0 P1 l1 M n)]) ∧ Below w.heap.size w w' := by
  obtain ⟨W, hW⟩ : ∃ W : World, w.alloc (.cells #[.slice a0 l0 c0, .slice a1 l1 c1, .int .u32 (ms : Nat)] 41) = W := ⟨_, rfl⟩
  have bW : Below w.heap.size w W := by rw [← hW]; exact belA (Below.refl _ _) _
  have eB : W.heap[w.heap.size]? = some (.cells #[.slice a0 l0 c0, .slice a1 l1 c1, .int .u32 (ms : Nat)] 41 (0, 0)) := by rw [← hW]; exact heap_alloc_new _ _
  have cel : Hid (∀ wx, Below W.heap.size W wx → wx.cell? ⟨w.heap.size, 0, none⟩ = some (.slice a0 l0 c0) ∧ wx.cell? ⟨w.heap.size, 1, none⟩ = some (.slice a1 l1 c1) ∧ wx.cell? ⟨w.heap.size, 2, none⟩ = some (.int .u32 (ms : Nat)) ∧ PsRow wx a0 l0 P0 ∧ PsRow wx a1 l1 P1 ∧ MvRow wx am n M D) := fun wx bx => by
    have h := (bx.block w.heap.size (by have := (Array.getElem?_eq_some_iff.1 eB).1; exact this)).trans eB
    have bb := belTS bx bW
    exact ⟨cell_of_row wx _ 0 _ _ _ h, cell_of_row wx _ 1 _ _ _ h, cell_of_row wx _ 2 _ _ _ h, h0.below bb, h1.below bb, hM.below bb⟩
  have HW : Hid (_) := And.intro bW (And.intro ok0 (And.intro ok1 okM))
  obtain ⟨r0, r1, r2, _⟩ := cel.out W (Below.refl _ _)
  have wms : IntKind.i64.wrap ((ms : Nat) : Int) = ((ms : Nat) : Int) := by rw [IntKind.wrap_i64]; omega
  have wll : IntKind.i64.wrap (((l0 : Nat) : Int) + ((l1 : Nat) : Int)) = ((l0 : Nat) : Int) + ((l1 : Nat) : Int) := by rw [IntKind.wrap_i64]; omega
  obtain ⟨X, hX⟩ : ∃ y, tx (Lib.itoa ((ms : Nat) : Int)) = y := ⟨_, rfl⟩
  have hI := ncall ((ms : Nat) : Int) (by omega) X hX W W (Below.refl _ _)
  have lX : X.size ≤ 20 := by rw [← hX, tx_size]; exact itoa_len (by omega) (by omega)
  obtain ⟨Y1, p1, t1, z1⟩ := catS (show tx [110, 101, 116, 32] = ByteArray.mk #[110, 101, 116, 32] from rfl) hX
  rw [show (ByteArray.mk #[110, 101, 116, 32]).size = 4 from rfl] at z1
  have t2 : Y1 ++ ByteArray.mk #[10] = tx (netT ms) := by
    rw [← t1, show ByteArray.mk #[10] = tx [10] from rfl, tx_app]
    unfold netT
    rw [join2]
    rfl
  obtain ⟨Y2, hY2⟩ : ∃ y, tx (netT ms) = y := ⟨_, rfl⟩
  rw [hY2] at t2
  have s1 : ¬ 9223372036854775807 < (ByteArray.mk #[110, 101, 116, 32]).size + X.size := by
    rw [show (ByteArray.mk #[110, 101, 116, 32]).size = 4 from rfl]
    omega
  have s1' : ¬ 9223372036854775807 < 4 + X.size := by omega
  have s2 : ¬ 9223372036854775807 < Y1.size + 1 := by omega
  have HY2 : Hid (_) := hY2
  clear bW eB h0 h1 hM ok0 ok1 okM hX t1 z1 lX hY2
  go_enter Tryd.func23, Tryd.ntmps23
  go_wp2_with fail
  try rw [hW]
  clear hW
  refine hI.mono ?_
  rintro r W1 ⟨_, rfl, rfl, b1⟩
  have H2 : Hid (Below W.heap.size W W1) := b1
  obtain ⟨v4, w4, hcv, hTg, hB4⟩ := tg_bytes W1 (netT ms) (by have := (netT_len hms).1; omega)
  rw [HY2.out] at hcv
  obtain ⟨b, hb⟩ : ∃ y, W1.heap.size = y := ⟨_, rfl⟩
  rw [hb] at hTg hB4
  have HBb : Hid (W1.heap.size = b) := hb
  have H4 : Hid (comL P0 l0 P1 0 = true ∧ Tg w4 b v4 (netT ms ++ comT P0 l0 P1 0) ∧ Below b W1 w4) := by
    refine ⟨?_, ?_, hB4⟩
    · unfold comL
      simp [allLaw]
    · unfold comT
      simpa [setT] using hTg
  have keep : Hid (∀ wx, Below b W1 wx → Below W.heap.size W wx) := fun wx bx => H2.out.trans (bx.mono (by rw [← HBb.out]; exact H2.out.size))
  clear hI b1 hTg hB4 hb r0 r1 r2
  go_wp2_with fail
  clear hcv p1 t2 s1 s1' s2
  go_loopw [4, 5, 6, 7, 8, 9, 20, 21, 22, 23, 24, 25, 26, 27, 28, 29, 30, 31, 32, 33, 34, 35, 36, 37, 38, 39, 40, 41, 42, 43, 44, 45, 46, 47, 48, 49, 50, 51, 52, 53, 54, 55, 56, 57, 58, 59, 60] (fun _ _ v c _ _ _ _ _ _ _ _ _ _ _ _ _ _ _ _ _ _ _ _ _ _ _ _ _ _ _ _ _ _ _ _ _ _ _ _ _ _ _ _ _ _ _ wr => ∃ i : Nat, i ≤ l0 + l1 ∧ c = .int .i64 ((i : Nat) : Int) ∧ Hid (comL P0 l0 P1 i = true ∧ Tg wr b v (netT ms ++ comT P0 l0 P1 i) ∧ Below b W1 wr)) (fun _ _ _ c _ _ _ _ _ _ _ _ _ _ _ _ _ _ _ _ _ _ _ _ _ _ _ _ _ _ _ _ _ _ _ _ _ _ _ _ _ _ _ _ _ _ _ _ => l0 + l1 - natV c)
  case atStart => exact ⟨0, by omega, rfl, H4⟩
  case round =>
    clear H4
    obtain ⟨i, hi, rfl, HI⟩ := hrel
    obtain ⟨r0, r1, r2, k0, k1, kM⟩ := cel.out wr (keep.out wr HI.out.2.2)
    have HK : Hid (_) := And.intro k0 (And.intro k1 kM)
    clear k0 k1 kM
    by_cases hlt : i < l0 + l1
    rotate_left
    · have hil : i = l0 + l1 := by omega
      rw [hil] at HI
      have hlt' : ¬ ((i : Nat) : Int) < ((l0 : Nat) : Int) + ((l1 : Nat) : Int) := by omega
      have H6 : Hid (badM M 0 = none ∧ Tg wr b u6 (headT ms P0 l0 P1 l1 ++ movT M 0) ∧ Below b W1 wr) := by
        refine ⟨rfl, ?_, HI.out.2.2⟩
        rw [← com_all.2]
        simpa [movT] using HI.out.2.1
      have HA : Hid ((allLaw P0 l0 && allLaw P1 l1) = true) := by
        rw [← com_all.1]
        exact HI.out.1
      clear HI HK hil hlt hi
      go_wp2_with fail
      clear r0 r1 r2 hlt'
      obtain ⟨wB, hwB⟩ : ∃ y, wr = y := ⟨_, rfl⟩
      rw [hwB] at H6 ⊢
      clear hwB wr
      go_loopw [4, 5, 6, 10, 11, 12, 61, 62, 63, 64, 65, 66, 67, 68, 69, 70, 71, 72, 73, 74, 75, 76, 77, 78, 79, 80, 81] (fun _ _ v c _ _ _ _ _ _ _ _ _ _ _ _ _ _ _ _ _ _ _ _ _ _ _ wr => ∃ i : Nat, i ≤ n ∧ c = .int .i64 ((i : Nat) : Int) ∧ Hid (badM M i = none ∧ Tg wr b v (headT ms P0 l0 P1 l1 ++ movT M i) ∧ Below b W1 wr)) (fun _ _ _ c _ _ _ _ _ _ _ _ _ _ _ _ _ _ _ _ _ _ _ _ _ _ _ _ => n - natV c)
      case atStart => exact ⟨0, by omega, rfl, H6⟩
      case round =>
        clear H6
        obtain ⟨i, hi, rfl, HI⟩ := hrel
        by_cases hlt : i < n
        rotate_left
        · have hil : i = n := by omega
          rw [hil] at HI ⊢
          have hlt' : ¬ ((n : Nat) : Int) < ((n : Nat) : Int) := by omega
          clear hlt hi hil i
          obtain ⟨g, cap, ev, _⟩ := HI.out.2.1.ex
          have cv := HI.out.2.1.conv
          obtain ⟨N, hN⟩ : ∃ y, (headT ms P0 l0 P1 l1 ++ movT M n).length = y := ⟨_, rfl⟩
          rw [hN] at ev
          rw [ev] at cv
          subst ev
          have HNn : Hid (_) := hN
          clear hN
          have HB9 : Hid (Below w.heap.size w wr) := HW.out.1.trans ((keep.out wr HI.out.2.2).mono HW.out.1.size)
          by_cases hle : N ≤ 262144
          rotate_left
          · have g1 : (262144 : Int) < ((N : Nat) : Int) := by omega
            have HRr : Hid (_) := pr_long (ms := ms) HA.out HI.out.1 (by show ¬ (headT ms P0 l0 P1 l1 ++ movT M n).length ≤ 262144; rw [HNn.out]; exact hle)
            clear hle HI cv
            go_wp2_with fail
            go_ret2
            exact ⟨by rw [HRr.out.1, HRr.out.2] <;> rfl, HB9.out⟩
          · have g1 : ¬ (262144 : Int) < ((N : Nat) : Int) := by omega
            have HRr : Hid (_) := pr_good (ms := ms) HA.out HI.out.1 (by show (headT ms P0 l0 P1 l1 ++ movT M n).length ≤ 262144; rw [HNn.out]; exact hle)
            clear hle HI
            go_wp2_with fail
            go_ret2
            exact ⟨by rw [HRr.out.1, HRr.out.2] <;> rfl, HB9.out⟩
        have hlt' : ((i : Nat) : Int) < ((n : Nat) : Int) := by omega
        have hw1 : IntKind.i64.wrap (((i : Nat) : Int) + 1) = ((i + 1 : Nat) : Int) := by rw [IntKind.wrap_i64]; omega
        have kr := cel.out wr (keep.out wr HI.out.2.2)
        obtain ⟨q, off, ea, cc, RR⟩ := kr.2.2.2.2.2 i hlt
        subst ea
        have hok := HW.out.2.2.2 i hlt
        obtain ⟨m, hMm⟩ : ∃ y, M i = y := ⟨_, rfl⟩
        obtain ⟨d, hDd⟩ : ∃ y, D i = y := ⟨_, rfl⟩
        rw [hMm] at hok
        rw [hMm, hDd] at cc RR
        have hPp : Calls Tryd.prog 17 #[.agg (m.cs d.a d.c)] wr fun r w' => r = .returned (.tuple #[.string (if m.err = 0 then tx m.line else ByteArray.mk #[]), .int .i64 m.err]) ∧ Below wr.heap.size wr w' := rmoveL m hok.1 d.a d.c wr RR hok.2
        obtain ⟨A, hA⟩ : ∃ y, m.cs d.a d.c = y := ⟨_, rfl⟩
        rw [hA] at hPp
        have cA : wr.rangeAt q (off + i * 9) A.toList := by rw [← hA]; exact cc
        have iA : (Tryd.prog.info? 29).map (·.size) = some A.size := by rw [← hA]; exact size_mv
        have HO : Hid (_) := And.intro hok hMm
        obtain ⟨E, hE⟩ : ∃ y, m.err = y := ⟨_, rfl⟩
        rw [hE] at hPp
        clear cc RR hok hMm hDd kr hA
        by_cases he : E = 0
        rotate_left
        · rw [if_neg he] at hPp
          have g0 : (E == 0) = false := by simpa using he
          have HRr : Hid (prS ms P0 l0 P1 l1 M n = ByteArray.mk #[] ∧ prE ms P0 l0 P1 l1 M n = E) := by
            have hbm : badM M (i + 1) = some i := badM_at HI.out.1 (by rw [HO.out.2, hE]; exact he)
            have := pr_bad (ms := ms) (P0 := P0) (l0 := l0) (P1 := P1) (l1 := l1) (M := M) (n := n) (k := i) HA.out (badM_more hbm (by omega))
            rw [HO.out.2, hE] at this
            exact this
          clear he hE
          go_wp2_with (refine wpList_loadA rfl 29 (.tmp 70) rfl q (off + i * 9) rfl A _ cA Tryd.underlying29 rfl iA ?_)
          refine hPp.mono ?_
          rintro r w5 ⟨rfl, b5⟩
          have H9 : Hid (Below W.heap.size W w5) := belTS b5 (keep.out wr HI.out.2.2)
          clear hPp b5 cA iA
          go_wp2_with fail
          go_ret2
          exact ⟨by rw [HRr.out.1, HRr.out.2] <;> rfl, HW.out.1.trans (H9.out.mono HW.out.1.size)⟩
        rw [if_pos he, he] at hPp
        have HNb : Hid (badM M (i + 1) = none ∧ m.err = 0) := ⟨by simp [badM, HI.out.1, HO.out.2, hE, he], by rw [hE, he]⟩
        clear he hE
        obtain ⟨Y, hY⟩ : ∃ y, tx m.line = y := ⟨_, rfl⟩
        rw [hY] at hPp
        have hLl := (Mv.line_lenL HO.out.1.1 (fun h => by have := m.small HNb.out.2 h; omega)).1
        have lY : Y.size ≤ 2000000 := by rw [← hY, tx_size]; exact hLl
        obtain ⟨Z2, p2, t2, z2⟩ := catS hY (show tx [10] = ByteArray.mk #[10] from rfl)
        have s2 : ¬ 9223372036854775807 < Y.size + 1 := by omega
        have HT2 : Hid (_) := t2
        clear hY lY t2 z2
        go_wp2_with (refine wpList_loadA rfl 29 (.tmp 70) rfl q (off + i * 9) rfl A _ cA Tryd.underlying29 rfl iA ?_)
        refine hPp.mono ?_
        rintro r w6 ⟨rfl, b6⟩
        have zr : b ≤ wr.heap.size := by
          have h1 := HI.out.2.2.size
          have h2 := HBb.out
          omega
        have T6 := HI.out.2.1.below b6
        have BB6 : Below b W1 w6 := HI.out.2.2.trans (b6.mono zr)
        have z6 : b ≤ w6.heap.size := Nat.le_trans zr b6.size
        have hlen : (headT ms P0 l0 P1 l1 ++ movT M i).length + (m.line ++ [10]).length ≤ 140737488355328 := by
          have h1 := (netT_len hms).1
          have h2 := setT_len (wd := wHost) (by decide) l0 HW.out.2.1
          have h3 := setT_len (wd := wDev) (by decide) l1 HW.out.2.2.1
          have h4 := (movT_len i (fun j hj => (HW.out.2.2.2 j (by omega)).1) HI.out.1).1
          unfold headT
          simp only [List.length_append, List.length_cons, List.length_nil]
          omega
        clear hPp b6 zr hLl cA iA
        go_wp2_with (at_builtin; refine wpList_appG rfl _ _ rfl rfl T6 (m.line ++ [10]) HT2.out rfl rfl hlen z6 BB6 ?_)
        intro v7 w7 h7
        have HF : Hid (badM M (i + 1) = none ∧ Tg w7 b v7 (headT ms P0 l0 P1 l1 ++ movT M (i + 1)) ∧ Below b W1 w7) := by
          refine ⟨HNb.out.1, ?_, h7.out.2⟩
          have := h7.out.1
          rw [show headT ms P0 l0 P1 l1 ++ movT M (i + 1) = headT ms P0 l0 P1 l1 ++ movT M i ++ (m.line ++ [10]) from by
            show headT ms P0 l0 P1 l1 ++ (movT M i ++ ((M i).line ++ [10])) = _
            rw [HO.out.2, List.append_assoc]]
          first | exact this | (rw [List.append_assoc]; exact this)
        clear h7 T6 BB6 z6 hlen HO HI HNb HT2 p2 s2
        go_wp2_with fail
        go_roundw
        case rel => exact ⟨i + 1, by omega, by first | rfl | go_num, HF⟩
        case measure => simp [natV] <;> omega
    have hlt' : ((i : Nat) : Int) < ((l0 : Nat) : Int) + ((l1 : Nat) : Int) := by omega
    have hw1 : IntKind.i64.wrap (((i : Nat) : Int) + 1) = ((i + 1 : Nat) : Int) := by rw [IntKind.wrap_i64]; omega
    have zr : Hid (b ≤ wr.heap.size) := by
      have h1 := HI.out.2.2.size
      have h2 := HBb.out
      show b ≤ wr.heap.size
      omega
    have hT : Hid ((netT ms ++ comT P0 l0 P1 i).length ≤ 300000) := by
      have h1 := (netT_len hms).1
      have h2 := comT_len (k := i) (l1 := l1) (by omega) HW.out.2.1 HW.out.2.2.1 hl0 hl1
      show (netT ms ++ comT P0 l0 P1 i).length ≤ 300000
      rw [List.length_append]
      omega
    by_cases hh : i < l0
    · have hh' : ((i : Nat) : Int) < ((l0 : Nat) : Int) := by omega
      obtain ⟨q, off, ea, cc⟩ := HK.out.1 i hh
      subst ea
      have hok := HW.out.2.1 i hh
      obtain ⟨p, hP⟩ : ∃ y, P0 i = y := ⟨_, rfl⟩
      rw [hP] at cc hok
      have e0 : ∀ ob, (wr.alloc ob).cell? ⟨q, off + i * 5, none⟩ = some (.int .u32 (p.c : Nat)) := fun ob => cellB (cc 0 _ rfl) (belA (Below.refl _ wr) ob)
      have e1 : ∀ ob, (wr.alloc ob).cell? ⟨q, off + i * 5 + 1, none⟩ = some (.int .i64 p.o) := fun ob => cellB (cc 1 _ rfl) (belA (Below.refl _ wr) ob)
      have e2 : ∀ ob, (wr.alloc ob).cell? ⟨q, off + i * 5 + 2, none⟩ = some (.int .i64 p.i) := fun ob => cellB (cc 2 _ rfl) (belA (Below.refl _ wr) ob)
      have e3 : ∀ ob, (wr.alloc ob).cell? ⟨q, off + i * 5 + 3, none⟩ = some (.int .i64 p.t) := fun ob => cellB (cc 3 _ rfl) (belA (Below.refl _ wr) ob)
      have e4 : ∀ ob, (wr.alloc ob).cell? ⟨q, off + i * 5 + 4, none⟩ = some (.int .u32 (p.n : Nat)) := fun ob => cellB (cc 4 _ rfl) (belA (Below.refl _ wr) ob)
      have x0 : ∀ ob, (wr.alloc ob).cell? ⟨w.heap.size, 0, none⟩ = some (.slice (some ⟨q, off, none⟩) l0 c0) := fun ob => cellB r0 (belA (Below.refl _ wr) ob)
      have x1 : ∀ ob, (wr.alloc ob).cell? ⟨w.heap.size, 1, none⟩ = some (.slice a1 l1 c1) := fun ob => cellB r1 (belA (Below.refl _ wr) ob)
      have ba := belA (Below.refl _ wr) (.cells #[.int .u32 (p.c : Nat), .int .i64 p.o, .int .i64 p.i, .int .i64 p.t, .int .u32 (p.n : Nat)] 24)
      have hLw := rlawP p (wr.alloc (.cells #[.int .u32 (p.c : Nat), .int .i64 p.o, .int .i64 p.i, .int .i64 p.t, .int .u32 (p.n : Nat)] 24))
      obtain ⟨lw, hlw⟩ : ∃ y, p.law = y := ⟨_, rfl⟩
      rw [hlw] at hLw
      have pn := heap_alloc_new wr (.cells #[.int .u32 (p.c : Nat), .int .i64 p.o, .int .i64 p.i, .int .i64 p.t, .int .u32 (p.n : Nat)] 24)
      have HO : Hid (_) := And.intro ba (And.intro hok (And.intro hP (And.intro hlw pn)))
      clear cc hok hP ba hlw pn
      go_wp2_with fail
      clear e0 e1 e2 e3 e4 x0 x1
      refine hLw.mono ?_
      rintro r w5 ⟨rfl, b5⟩
      have b5a : Below wr.heap.size wr w5 := belTS b5 HO.out.1
      have ep : w5.heap[wr.heap.size]? = some (.cells #[.int .u32 (p.c : Nat), .int .i64 p.o, .int .i64 p.i, .int .i64 p.t, .int .u32 (p.n : Nat)] 24 (0, 0)) := (b5.block wr.heap.size (by simp)).trans HO.out.2.2.2.2
      have d0 := cell_of_row w5 _ 0 _ _ _ ep
      have d1 := cell_of_row w5 _ 1 _ _ _ ep
      have d2 := cell_of_row w5 _ 2 _ _ _ ep
      have d3 := cell_of_row w5 _ 3 _ _ _ ep
      have d4 := cell_of_row w5 _ 4 _ _ _ ep
      have HB5 : Hid (Below wr.heap.size wr w5) := b5a
      clear hLw b5 b5a ep
      cases lw with
      | false =>
        have HRr : Hid (_) := pr_law (ms := ms) (M := M) (n := n) (comL_less (P0 := P0) (l0 := l0) (P1 := P1) (l1 := l1) (k := i + 1) (by rw [comL_h hh, HO.out.2.2.1, HO.out.2.2.2.1, Bool.and_false]) (by omega))
        have H9 : Hid (Below W.heap.size W w5) := belTS HB5.out (keep.out wr HI.out.2.2)
        clear d0 d1 d2 d3 d4
        go_wp2_with fail
        go_ret2
        exact ⟨by rw [HRr.out.1, HRr.out.2] <;> rfl, HW.out.1.trans (H9.out.mono HW.out.1.size)⟩
      | true =>
      have hPp := rparam p HO.out.2.1 w5
      obtain ⟨Y, hY⟩ : ∃ y, tx p.line = y := ⟨_, rfl⟩
      rw [hY] at hPp
      have lY : Y.size ≤ 104 := by rw [← hY, tx_size]; exact Ps.len HO.out.2.1
      obtain ⟨Z1, p1, t1, z1⟩ := catS (show tx (wHost ++ [32]) = ByteArray.mk #[104, 111, 115, 116, 32] from rfl) hY
      rw [show (ByteArray.mk #[104, 111, 115, 116, 32]).size = 5 from rfl] at z1
      obtain ⟨Z2, p2, t2, z2⟩ := catS t1 (show tx [10] = ByteArray.mk #[10] from rfl)
      have s1 : ¬ 9223372036854775807 < (ByteArray.mk #[104, 111, 115, 116, 32]).size + Y.size := by
        rw [show (ByteArray.mk #[104, 111, 115, 116, 32]).size = 5 from rfl]
        omega
      have s1' : ¬ 9223372036854775807 < 5 + Y.size := by omega
      have s2 : ¬ 9223372036854775807 < Z1.size + 1 := by omega
      have HT2 : Hid (tx (Lib.join [wHost, p.line] [32] ++ [10]) = Z2) := by
        rw [join2]
        exact t2
      clear hY lY t1 z1 t2 z2
      go_wp2_with fail
      clear d0 d1 d2 d3 d4
      refine hPp.mono ?_
      rintro r w6 ⟨rfl, b6⟩
      have B6 : Below wr.heap.size wr w6 := belTS b6 HB5.out
      have T6 := HI.out.2.1.below B6
      have BB6 : Below b W1 w6 := HI.out.2.2.trans (B6.mono zr.out)
      have z6 : b ≤ w6.heap.size := Nat.le_trans zr.out B6.size
      have hlen : (netT ms ++ comT P0 l0 P1 i).length + (Lib.join [wHost, p.line] [32] ++ [10]).length ≤ 140737488355328 := by
        have h1 := hT.out
        have h2 := set_line (wd := wHost) (by decide) HO.out.2.1
        rw [List.length_append (bs := [10])]
        simp only [List.length_cons, List.length_nil]
        omega
      clear hPp b6 B6 HB5
      go_wp2_with (at_builtin; refine wpList_appG rfl _ _ rfl rfl T6 (Lib.join [wHost, p.line] [32] ++ [10]) HT2.out rfl rfl hlen z6 BB6 ?_)
      intro v7 w7 h7
      have HF : Hid (comL P0 l0 P1 (i + 1) = true ∧ Tg w7 b v7 (netT ms ++ comT P0 l0 P1 (i + 1)) ∧ Below b W1 w7) := by
        refine ⟨?_, ?_, h7.out.2⟩
        · rw [comL_h hh, HI.out.1, HO.out.2.2.1, HO.out.2.2.2.1]
          rfl
        · rw [comT_h hh, HO.out.2.2.1]
          exact h7.out.1
      clear h7 T6 BB6 z6 hlen HO HI HT2 p1 p2 s1 s1' s2
      go_wp2_with fail
      go_roundw
      case rel => exact ⟨i + 1, by omega, by first | rfl | go_num, HF⟩
      case measure => simp [natV] <;> omega
    · have hh' : ¬ ((i : Nat) : Int) < ((l0 : Nat) : Int) := by omega
      obtain ⟨jj, hjj⟩ : ∃ y, i - l0 = y := ⟨_, rfl⟩
      have wsb : IntKind.i64.wrap (((i : Nat) : Int) - ((l0 : Nat) : Int)) = ((jj : Nat) : Int) := by rw [IntKind.wrap_i64]; omega
      have hjl : jj < l1 := by omega
      have hjl' : ((jj : Nat) : Int) < ((l1 : Nat) : Int) := by omega
      have hj0 : ¬ ((jj : Nat) : Int) < 0 := by omega
      obtain ⟨q, off, ea, cc⟩ := HK.out.2.1 jj hjl
      have HJ : Hid (i - l0 = jj) := hjj
      subst ea
      have hok := HW.out.2.2.1 jj hjl
      obtain ⟨p, hP⟩ : ∃ y, P1 jj = y := ⟨_, rfl⟩
      rw [hP] at cc hok
      have e0 : ∀ ob, (wr.alloc ob).cell? ⟨q, off + jj * 5, none⟩ = some (.int .u32 (p.c : Nat)) := fun ob => cellB (cc 0 _ rfl) (belA (Below.refl _ wr) ob)
      have e1 : ∀ ob, (wr.alloc ob).cell? ⟨q, off + jj * 5 + 1, none⟩ = some (.int .i64 p.o) := fun ob => cellB (cc 1 _ rfl) (belA (Below.refl _ wr) ob)
      have e2 : ∀ ob, (wr.alloc ob).cell? ⟨q, off + jj * 5 + 2, none⟩ = some (.int .i64 p.i) := fun ob => cellB (cc 2 _ rfl) (belA (Below.refl _ wr) ob)
      have e3 : ∀ ob, (wr.alloc ob).cell? ⟨q, off + jj * 5 + 3, none⟩ = some (.int .i64 p.t) := fun ob => cellB (cc 3 _ rfl) (belA (Below.refl _ wr) ob)
      have e4 : ∀ ob, (wr.alloc ob).cell? ⟨q, off + jj * 5 + 4, none⟩ = some (.int .u32 (p.n : Nat)) := fun ob => cellB (cc 4 _ rfl) (belA (Below.refl _ wr) ob)
      have x0 : ∀ ob, (wr.alloc ob).cell? ⟨w.heap.size, 0, none⟩ = some (.slice a0 l0 c0) := fun ob => cellB r0 (belA (Below.refl _ wr) ob)
      have x1 : ∀ ob, (wr.alloc ob).cell? ⟨w.heap.size, 1, none⟩ = some (.slice (some ⟨q, off, none⟩) l1 c1) := fun ob => cellB r1 (belA (Below.refl _ wr) ob)
      have ba := belA (Below.refl _ wr) (.cells #[.int .u32 (p.c : Nat), .int .i64 p.o, .int .i64 p.i, .int .i64 p.t, .int .u32 (p.n : Nat)] 24)
      have hLw := rlawP p (wr.alloc (.cells #[.int .u32 (p.c : Nat), .int .i64 p.o, .int .i64 p.i, .int .i64 p.t, .int .u32 (p.n : Nat)] 24))
      obtain ⟨lw, hlw⟩ : ∃ y, p.law = y := ⟨_, rfl⟩
      rw [hlw] at hLw
      have pn := heap_alloc_new wr (.cells #[.int .u32 (p.c : Nat), .int .i64 p.o, .int .i64 p.i, .int .i64 p.t, .int .u32 (p.n : Nat)] 24)
      have HO : Hid (_) := And.intro ba (And.intro hok (And.intro hP (And.intro hlw pn)))
      clear cc hok hP ba hlw pn hjj
      go_wp2_with fail
      clear e0 e1 e2 e3 e4 x0 x1
      refine hLw.mono ?_
      rintro r w5 ⟨rfl, b5⟩
      have b5a : Below wr.heap.size wr w5 := belTS b5 HO.out.1
      have ep : w5.heap[wr.heap.size]? = some (.cells #[.int .u32 (p.c : Nat), .int .i64 p.o, .int .i64 p.i, .int .i64 p.t, .int .u32 (p.n : Nat)] 24 (0, 0)) := (b5.block wr.heap.size (by simp)).trans HO.out.2.2.2.2
      have d0 := cell_of_row w5 _ 0 _ _ _ ep
      have d1 := cell_of_row w5 _ 1 _ _ _ ep
      have d2 := cell_of_row w5 _ 2 _ _ _ ep
      have d3 := cell_of_row w5 _ 3 _ _ _ ep
      have d4 := cell_of_row w5 _ 4 _ _ _ ep
      have HB5 : Hid (Below wr.heap.size wr w5) := b5a
      clear hLw b5 b5a ep
      cases lw with
      | false =>
        have HRr : Hid (_) := pr_law (ms := ms) (M := M) (n := n) (comL_less (P0 := P0) (l0 := l0) (P1 := P1) (l1 := l1) (k := i + 1) (by rw [comL_d (by omega), HJ.out, HO.out.2.2.1, HO.out.2.2.2.1, Bool.and_false]) (by omega))
        have H9 : Hid (Below W.heap.size W w5) := belTS HB5.out (keep.out wr HI.out.2.2)
        clear d0 d1 d2 d3 d4
        go_wp2_with fail
        go_ret2
        exact ⟨by rw [HRr.out.1, HRr.out.2] <;> rfl, HW.out.1.trans (H9.out.mono HW.out.1.size)⟩
      | true =>
      have hPp := rparam p HO.out.2.1 w5
      obtain ⟨Y, hY⟩ : ∃ y, tx p.line = y := ⟨_, rfl⟩
      rw [hY] at hPp
      have lY : Y.size ≤ 104 := by rw [← hY, tx_size]; exact Ps.len HO.out.2.1
      obtain ⟨Z1, p1, t1, z1⟩ := catS (show tx (wDev ++ [32]) = ByteArray.mk #[100, 101, 118, 105, 99, 101, 32] from rfl) hY
      rw [show (ByteArray.mk #[100, 101, 118, 105, 99, 101, 32]).size = 7 from rfl] at z1
      obtain ⟨Z2, p2, t2, z2⟩ := catS t1 (show tx [10] = ByteArray.mk #[10] from rfl)
      have s1 : ¬ 9223372036854775807 < (ByteArray.mk #[100, 101, 118, 105, 99, 101, 32]).size + Y.size := by
        rw [show (ByteArray.mk #[100, 101, 118, 105, 99, 101, 32]).size = 7 from rfl]
        omega
      have s1' : ¬ 9223372036854775807 < 7 + Y.size := by omega
      have s2 : ¬ 9223372036854775807 < Z1.size + 1 := by omega
      have HT2 : Hid (tx (Lib.join [wDev, p.line] [32] ++ [10]) = Z2) := by
        rw [join2]
        exact t2
      clear hY lY t1 z1 t2 z2
      go_wp2_with fail
      clear d0 d1 d2 d3 d4
      refine hPp.mono ?_
      rintro r w6 ⟨rfl, b6⟩
      have B6 : Below wr.heap.size wr w6 := belTS b6 HB5.out
      have T6 := HI.out.2.1.below B6
      have BB6 : Below b W1 w6 := HI.out.2.2.trans (B6.mono zr.out)
      have z6 : b ≤ w6.heap.size := Nat.le_trans zr.out B6.size
      have hlen : (netT ms ++ comT P0 l0 P1 i).length + (Lib.join [wDev, p.line] [32] ++ [10]).length ≤ 140737488355328 := by
        have h1 := hT.out
        have h2 := set_line (wd := wDev) (by decide) HO.out.2.1
        rw [List.length_append (bs := [10])]
        simp only [List.length_cons, List.length_nil]
        omega
      clear hPp b6 B6 HB5
      go_wp2_with (at_builtin; refine wpList_appG rfl _ _ rfl rfl T6 (Lib.join [wDev, p.line] [32] ++ [10]) HT2.out rfl rfl hlen z6 BB6 ?_)
      intro v7 w7 h7
      have HF : Hid (comL P0 l0 P1 (i + 1) = true ∧ Tg w7 b v7 (netT ms ++ comT P0 l0 P1 (i + 1)) ∧ Below b W1 w7) := by
        refine ⟨?_, ?_, h7.out.2⟩
        · rw [comL_d (by omega), HJ.out, HI.out.1, HO.out.2.2.1, HO.out.2.2.2.1]
          rfl
        · rw [comT_d (by omega), HJ.out, HO.out.2.2.1]
          exact h7.out.1
      clear h7 T6 BB6 z6 hlen HO HI HT2 p1 p2 s1 s1' s2
      go_wp2_with fail
      go_roundw
      case rel => exact ⟨i + 1, by omega, by first | rfl | go_num, HF⟩
      case measure => simp [natV] <;> omega
end Go.Proofs.YtbhbjdmdabkomaaDoor
