/- Layer 20: the document's Move. (gensmv.py) -/
import Derived.Test.YtbhbjdmdabkomaaDoorSj
import Derived.Test.YtbhbjdmdabkomaaDoorShx
namespace Go.Proofs.YtbhbjdmdabkomaaDoor
set_option maxRecDepth 100000
open Go.RowKit Go.Maps
set_option maxRecDepth 100000
theorem join_snoc (x : List UInt8) : ∀ ls : List (List UInt8), ls ≠ [] → Lib.join (ls ++ [x]) [32] = Lib.join ls [32] ++ [32] ++ x
  | [], h => absurd rfl h
  | [a], _ => by simp [Lib.join, List.intercalate]
  | a :: b :: t, _ => by
    have h := join_snoc x (b :: t) (by simp)
    have e1 : Lib.join (a :: b :: t ++ [x]) [32] = a ++ [32] ++ Lib.join (b :: t ++ [x]) [32] := by simp [Lib.join, List.intercalate]
    have e2 : Lib.join (a :: b :: t) [32] = a ++ [32] ++ Lib.join (b :: t) [32] := by simp [Lib.join, List.intercalate]
    rw [e1, e2, h]
    simp
/-- One text behind another: what the walk wants. -/
theorem catS {a b : List UInt8} {A B : ByteArray} (hA : tx a = A) (hB : tx b = B) : ∃ C, A ++ B = C ∧ tx (a ++ b) = C ∧ C.size = A.size + B.size := ⟨_, rfl, by rw [← tx_app, hA, hB], sz_app _ _⟩
def Mv.j1 (m : Mv) : List UInt8 := Lib.join m.w1 [32]
def Mv.j2 (m : Mv) : List UInt8 := Lib.join (m.w1 ++ m.w2) [32]
theorem Mv.j1_eq (m : Mv) : m.j1 = kws.getD m.k.toNat [] ++ [32] ++ Lib.itoa m.c := by simp [Mv.j1, Mv.w1, Lib.join, List.intercalate]
theorem Mv.j2_eq (m : Mv) : m.j2 = m.j1 ++ (if sided m.k then (if m.s = 1 then [32, 104] else [32, 100]) else []) := by
  unfold Mv.j2 Mv.w2
  cases sided m.k with
  | false => simp [Mv.j1]
  | true =>
    simp only [if_true]
    rw [join_snoc _ _ (by simp [Mv.w1])]
    unfold Mv.j1
    split <;> simp
theorem Mv.j1_len {m : Mv} (h : m.Ok) : m.j1.length ≤ 28 := by
  rw [m.j1_eq]
  have h1 := kws_len m.k.toNat
  have h2 := itoa_len h.c.1 h.c.2
  simp only [List.length_append, List.length_cons, List.length_nil]
  omega
theorem Mv.j2_len {m : Mv} (h : m.Ok) : m.j2.length ≤ 30 := by
  have h1 := Mv.j1_len h
  rw [m.j2_eq]
  repeat' split
  all_goals simp
  all_goals omega
theorem Mv.w12 (m : Mv) : m.w1 ++ m.w2 ≠ [] := by simp [Mv.w1]
theorem Mv.line1 (m : Mv) (hk : m.k = 1) : m.line = m.j2 ++ [32, 120] ++ hx m.l m.b ++ (if m.h then [32, 104, 111, 108, 100] else []) := by
  have hn : m.ns = [] := by unfold Mv.ns; simp [hk]
  have e : m.ws = m.w1 ++ m.w2 ++ [120 :: hx m.l m.b] ++ (if m.h then [[104, 111, 108, 100]] else []) := by
    unfold Mv.ws Mv.w3 Mv.w4
    rw [hn, if_pos hk]
    simp
  unfold Mv.line
  rw [e]
  cases m.h with
  | false => simp only [Bool.false_eq_true, if_false, List.append_nil]; rw [join_snoc _ _ m.w12]; simp [Mv.j2]
  | true => simp only [if_true]; rw [join_snoc _ _ (by simp), join_snoc _ _ m.w12]; simp [Mv.j2]
theorem Mv.line_ns (m : Mv) (hk : m.k ≠ 1) : m.line = Lib.join (m.w1 ++ m.w2 ++ m.ns.map Lib.itoa) [32] := by
  unfold Mv.line Mv.ws Mv.w3 Mv.w4
  rw [if_neg hk]
  simp
theorem Mv.line3 (m : Mv) (hk : m.k = 3) : m.line = m.j2 ++ [32] ++ Lib.itoa m.f := by
  rw [m.line_ns (by omega), show m.ns = [m.f] by unfold Mv.ns; simp [hk]]
  show Lib.join (m.w1 ++ m.w2 ++ [Lib.itoa m.f]) [32] = _
  rw [join_snoc _ _ m.w12]
  rfl
theorem Mv.line4 (m : Mv) (hk : m.k = 4) : m.line = m.j2 ++ [32] ++ Lib.itoa m.f ++ [32] ++ Lib.itoa m.a ++ [32] ++ Lib.itoa ((m.w : Nat) : Int) := by
  rw [m.line_ns (by omega), show m.ns = [m.f, m.a, ((m.w : Nat) : Int)] by unfold Mv.ns; simp [hk]]
  have e : m.w1 ++ m.w2 ++ [m.f, m.a, ((m.w : Nat) : Int)].map Lib.itoa = m.w1 ++ m.w2 ++ [Lib.itoa m.f] ++ [Lib.itoa m.a] ++ [Lib.itoa ((m.w : Nat) : Int)] := by simp
  rw [e, join_snoc _ _ (by simp), join_snoc _ _ (by simp), join_snoc _ _ m.w12]
  rfl
theorem Mv.line5 (m : Mv) (hk : m.k = 5 ∨ m.k = 7 ∨ m.k = 8) : m.line = m.j2 ++ [32] ++ Lib.itoa m.n := by
  rw [m.line_ns (by omega), show m.ns = [m.n] by unfold Mv.ns; rw [if_neg (by omega), if_neg (by omega), if_pos hk]]
  show Lib.join (m.w1 ++ m.w2 ++ [Lib.itoa m.n]) [32] = _
  rw [join_snoc _ _ m.w12]
  rfl
theorem Mv.line2 (m : Mv) (hk : m.k = 2 ∨ m.k = 6) : m.line = m.j2 := by
  rw [m.line_ns (by omega), show m.ns = [] by unfold Mv.ns; rw [if_neg (by omega), if_neg (by omega), if_neg (by omega)]]
  simp [Mv.j2]
/-- The names. -/
theorem nms (w : World) (i : Nat) {l : List UInt8} (h : kws[i]? = some l) : (w.alloc (.cells #[.string (ByteArray.mk #[]), .string (ByteArray.mk #[119, 114, 105, 116, 101]), .string (ByteArray.mk #[115, 101, 110, 100]), .string (ByteArray.mk #[100, 101, 108, 105, 118, 101, 114]), .string (ByteArray.mk #[103, 97, 114, 98, 108, 101]), .string (ByteArray.mk #[116, 105, 99, 107]), .string (ByteArray.mk #[97, 99, 107]), .string (ByteArray.mk #[114, 101, 115, 101, 116]), .string (ByteArray.mk #[99, 117, 116])] 9)).cell? ⟨w.heap.size, i, none⟩ = some (.string (tx l)) := by
  rw [cell_of_row _ w.heap.size i _ _ _ (heap_alloc_new w (.cells #[.string (ByteArray.mk #[]), .string (ByteArray.mk #[119, 114, 105, 116, 101]), .string (ByteArray.mk #[115, 101, 110, 100]), .string (ByteArray.mk #[100, 101, 108, 105, 118, 101, 114]), .string (ByteArray.mk #[103, 97, 114, 98, 108, 101]), .string (ByteArray.mk #[116, 105, 99, 107]), .string (ByteArray.mk #[97, 99, 107]), .string (ByteArray.mk #[114, 101, 115, 101, 116]), .string (ByteArray.mk #[99, 117, 116])] 9))]
  have e : (#[.string (ByteArray.mk #[]), .string (ByteArray.mk #[119, 114, 105, 116, 101]), .string (ByteArray.mk #[115, 101, 110, 100]), .string (ByteArray.mk #[100, 101, 108, 105, 118, 101, 114]), .string (ByteArray.mk #[103, 97, 114, 98, 108, 101]), .string (ByteArray.mk #[116, 105, 99, 107]), .string (ByteArray.mk #[97, 99, 107]), .string (ByteArray.mk #[114, 101, 115, 101, 116]), .string (ByteArray.mk #[99, 117, 116])] : Array Value) = (kws.map fun l => .string (tx l)).toArray := rfl
  rw [e, List.getElem?_toArray, List.getElem?_map, h]
  rfl
/-- Number inside a region. -/
theorem ncall (z : Int) (h : -9223372036854775808 ≤ z ∧ z ≤ 9223372036854775807) (A : ByteArray) (hA : tx (Lib.itoa z) = A) (W wx : World) (bx : Below W.heap.size W wx) : Calls Tryd.prog 59 #[.int .i64 z] wx fun r w' => ∃ v, r = .returned v ∧ (v = .string A ∧ Below W.heap.size W w') := by
  rw [← hA]
  exact (rnum z h.1 h.2 wx).mono fun _ _ ⟨e, b⟩ => ⟨_, e, rfl, belTS b bx⟩
set_option maxHeartbeats 2000000 in
theorem rmove (m : Mv) (hm : m.Ok) (d : Option Addr) (e : Nat) (w : World) (hr : Row8 w d m.l e m.b) (hl : m.l ≤ 100000) : Calls Tryd.prog 17 #[.agg #[.int .i64 m.k, .int .i64 m.c, .int .i64 m.s, .int .i64 m.f, .int .i64 m.a, .int .u32 (m.w : Nat), .int .i64 m.n, .bool m.h, .slice d m.l e]] w fun r w' => r = .returned (.tuple #[.string (if m.err = 0 then tx m.line else ByteArray.mk #[]), .int .i64 m.err]) ∧ Below w.heap.size w w' := by
  obtain ⟨W, hW⟩ : ∃ W : World, w.alloc (.cells #[.int .i64 m.k, .int .i64 m.c, .int .i64 m.s, .int .i64 m.f, .int .i64 m.a, .int .u32 (m.w : Nat), .int .i64 m.n, .bool m.h, .slice d m.l e] 29) = W := ⟨_, rfl⟩
  have bW : Below w.heap.size w W := by rw [← hW]; exact belA (Below.refl _ _) _
  have mW : MvW W w.heap.size m d e := by rw [← hW]; exact MvW.new w m d e
  have hRf := rfault m hm d e W (by omega)
  have HW : Hid (_) := And.intro bW (And.intro mW (And.intro (hr.below bW) hm))
  obtain ⟨c0, c1, c2, c3, c4, c5, c6, c7, c8⟩ := mW.cells
  clear bW mW hr hm
  by_cases hE : m.err = 0
  rotate_left
  · rw [if_neg hE]
    have gE : (m.err == 0) = false := by simpa using hE
    go_enter Tryd.func17, Tryd.ntmps17
    go_wp2_with fail
    try rw [hW]
    clear hW
    refine hRf.mono ?_
    rintro r w1 ⟨rfl, b1⟩
    have HB1 : Hid (_) := b1
    clear hRf c0 c1 c2 c3 c4 c5 c6 c7 c8 b1
    go_wp2_with fail
    go_ret2
    exact ⟨rfl, HW.out.1.trans (HB1.out.mono HW.out.1.size)⟩
  · rw [hE] at hRf
    rw [if_pos hE, hE]
    go_enter Tryd.func17, Tryd.ntmps17
    go_wp2_with fail
    try rw [hW]
    clear hW
    refine hRf.mono ?_
    rintro r w1 ⟨rfl, b1⟩
    clear hRf c0 c1 c2 c3 c4 c5 c6 c7 c8
    have k1 : 1 ≤ m.k ∧ m.k ≤ 8 := by
      unfold Mv.err at hE
      repeat' split at hE
      all_goals first | omega | skip
    obtain ⟨kk, hkk⟩ : ∃ kk : Nat, m.k = ((kk : Nat) : Int) := ⟨m.k.toNat, by omega⟩
    have hk8 : kk < 9 := by omega
    obtain ⟨Kw, hKw⟩ : ∃ l, kws[kk]? = some l := by
      have : kk < kws.length := hk8
      exact ⟨_, List.getElem?_eq_getElem this⟩
    have hKg : kws.getD m.k.toNat [] = Kw := by rw [hkk, Int.toNat_natCast, List.getD_eq_getElem?_getD, hKw]; rfl
    have k1' : 1 ≤ kk ∧ kk ≤ 8 := by omega
    clear hE k1
    obtain ⟨W2, hW2⟩ : ∃ x, w1.alloc (.cells #[.string (ByteArray.mk #[]), .string (ByteArray.mk #[119, 114, 105, 116, 101]), .string (ByteArray.mk #[115, 101, 110, 100]), .string (ByteArray.mk #[100, 101, 108, 105, 118, 101, 114]), .string (ByteArray.mk #[103, 97, 114, 98, 108, 101]), .string (ByteArray.mk #[116, 105, 99, 107]), .string (ByteArray.mk #[97, 99, 107]), .string (ByteArray.mk #[114, 101, 115, 101, 116]), .string (ByteArray.mk #[99, 117, 116])] 9) = x := ⟨_, rfl⟩
    obtain ⟨g, hg⟩ : ∃ x, w1.heap.size = x := ⟨_, rfl⟩
    have g0 := nms w1 kk hKw
    rw [hW2, hg] at g0
    have b2 : Below W.heap.size W W2 := by rw [← hW2]; exact belA b1 _
    have cel : Hid (∀ wx, Below W2.heap.size W2 wx → MvW wx w.heap.size m d e ∧ Row8 wx d m.l e m.b) := fun wx bx => ⟨HW.out.2.1.below (belTS bx b2), HW.out.2.2.1.below (belTS bx b2)⟩
    obtain ⟨c0, c1, c2, c3, c4, c5, c6, c7, c8⟩ := (cel.out W2 (Below.refl _ _)).1.cells
    rw [hkk] at c0
    have hm := HW.out.2.2.2
    have hS : ∀ wx, Below W2.heap.size W2 wx → wx.cell? ⟨w.heap.size, 0, none⟩ = some (.int .i64 ((kk : Nat) : Int)) ∧ wx.cell? ⟨w.heap.size, 1, none⟩ = some (.int .i64 m.c) ∧ wx.cell? ⟨g, kk, none⟩ = some (.string (tx Kw)) := fun wx bx => ⟨cellB c0 bx, cellB c1 bx, cellB g0 bx⟩
    obtain ⟨A, hA⟩ : ∃ x, tx (Lib.itoa m.c) = x := ⟨_, rfl⟩
    have hI := ncall m.c hm.c A hA W2
    have lA := itoa_len hm.c.1 hm.c.2
    rw [← tx_size, hA] at lA
    have lK := kws_len m.k.toNat
    rw [hKg, ← tx_size] at lK
    obtain ⟨KW, hKW⟩ : ∃ x, tx Kw = x := ⟨_, rfl⟩
    rw [hKW] at lK g0 hS
    have sp : tx [32] = ByteArray.mk #[32] := rfl
    obtain ⟨X1, p1, t1, z1⟩ := catS hKW sp
    obtain ⟨X2, p2, t2, z2⟩ := catS t1 hA
    rw [show (ByteArray.mk #[32]).size = 1 from rfl] at z1
    have s1 : ¬ 9223372036854775807 < KW.size + 1 := by omega
    have s2 : ¬ 9223372036854775807 < X1.size + A.size := by omega
    have HX2 : Hid (tx m.j1 = X2) := by
      show tx m.j1 = X2
      rw [m.j1_eq, hKg]
      exact t2
    have B0 : Below W2.heap.size W2 W2.drew := Below.drew (Below.refl _ _)
    have HSd := hS _ B0
    have hk0 : (0 : Int) ≤ ((kk : Nat) : Int) := by omega
    have hk9 : ((kk : Nat) : Int) < 9 := by omega
    have HB2 : Hid (Below w.heap.size w W2) := HW.out.1.trans (b2.mono HW.out.1.size)
    clear b1 b2 hKw hm lA lK z1 z2 t1 t2 hKW hA hKg sp c2 c3 c4 c5 c6 c7 c8
    go_wp2_with fail
    try rw [hW2]
    try rw [hg]
    clear hW2 hg
    go_region_held3 (fun wx => wx.cell? ⟨w.heap.size, 0, none⟩ = some (.int .i64 ((kk : Nat) : Int)) ∧ wx.cell? ⟨w.heap.size, 1, none⟩ = some (.int .i64 m.c) ∧ wx.cell? ⟨g, kk, none⟩ = some (.string KW)) (first | assumption | exact hS _ (by assumption)) (first
      | (refine step_callS 59 #[.tmp 20] #[3] rfl (by kernel_rfl) #[.int .i64 m.c] (by kernel_rfl) (hI _ (by assumption)) ?_; rintro x v1 ⟨rfl, b1⟩)
      | fail)
    rename (World.cell? v1 _ = _ ∧ _ ∧ _) => hHd
    have HB3 : Hid (Below W2.heap.size W2 v1) := b1
    clear hHd
    clear hS HSd hI B0 p1 p2 s1 s2 g0 c0 c1 b1
    obtain ⟨c0, c1, c2, c3, c4, c5, c6, c7, c8⟩ := (cel.out v1 HB3.out).1.cells
    have HK : Hid (_) := hkk
    rw [hkk] at c0
    clear hkk
    have hU := rsided ((kk : Nat) : Int)
    obtain ⟨S, hSd⟩ : ∃ x, sided ((kk : Nat) : Int) = x := ⟨_, rfl⟩
    rw [hSd] at hU
    have HSd : Hid (_) := hSd
    clear hSd
    obtain ⟨X3, hX3⟩ : ∃ x, tx m.j2 = x := ⟨_, rfl⟩
    have HX3 : Hid (_) := hX3
    clear hX3
    go_upto_region 6 with fail
    go_cut [30] (fun v wx => v = .bool (S && decide (m.s = 1)) ∧ wx = v1)
    case first =>
      cases S with
      | false =>
        go_wp2_with fail
        refine (hU _).mono ?_
        rintro r w' ⟨rfl, hw⟩
        rw [hw]
        clear hw
        go_wp2_with fail
        go_meet
        exact ⟨rfl, rfl⟩
      | true =>
        by_cases hs : m.s = 1
        · have E1 : Hid (decide (m.s = 1) = true) := decide_eq_true hs
          rw [hs] at c2
          clear hs
          go_wp2_with fail
          refine (hU _).mono ?_
          rintro r w' ⟨rfl, hw⟩
          rw [hw]
          clear hw
          go_wp2_with fail
          go_meet
          exact ⟨by rw [E1.out]; rfl, rfl⟩
        · have E1 : Hid (decide (m.s = 1) = false) := decide_eq_false hs
          have e2 : (m.s == 1) = false := by simpa using hs
          clear hs
          go_wp2_with fail
          refine (hU _).mono ?_
          rintro r w' ⟨rfl, hw⟩
          rw [hw]
          clear hw
          go_wp2_with fail
          go_meet
          exact ⟨by rw [E1.out]; rfl, rfl⟩
    case rest =>
      obtain ⟨rfl, rfl⟩ := hcut
      have HL := Mv.j1_len HW.out.2.2.2
      rw [← tx_size, HX2.out] at HL
      have s2 : ¬ 9223372036854775807 < X2.size + 2 := by omega
      clear HL
      go_upto_if 30 with fail
      go_cut [6] (fun v wx => v = .string X3 ∧ wx = wc)
      case first =>
        cases S with
        | false =>
          have e : X2 = X3 := by
            rw [← HX2.out, ← HX3.out, m.j2_eq, HK.out, HSd.out]
            simp
          rw [e, Bool.false_and]
          clear e
          go_wp2_with fail
          refine (hU _).mono ?_
          rintro r w' ⟨rfl, hw⟩
          rw [hw]
          clear hw
          go_wp2_with fail
          go_meet
          exact ⟨rfl, rfl⟩
        | true =>
          by_cases hs : m.s = 1
          · have p3 : X2 ++ ByteArray.mk #[32, 104] = X3 := by
              rw [← HX2.out, ← HX3.out, m.j2_eq, HK.out, HSd.out, if_pos rfl, if_pos hs, ← tx_app]
              rfl
            rw [show decide (m.s = 1) = true from decide_eq_true hs]
            clear hs
            go_wp2_with fail
            go_meet
            exact ⟨rfl, rfl⟩
          · have p3 : X2 ++ ByteArray.mk #[32, 100] = X3 := by
              rw [← HX2.out, ← HX3.out, m.j2_eq, HK.out, HSd.out, if_pos rfl, if_neg hs, ← tx_app]
              rfl
            rw [show decide (m.s = 1) = false from decide_eq_false hs]
            clear hs
            go_wp2_with fail
            refine (hU _).mono ?_
            rintro r w' ⟨rfl, hw⟩
            rw [hw]
            clear hw
            go_wp2_with fail
            go_meet
            exact ⟨rfl, rfl⟩
      case rest =>
        obtain ⟨rfl, rfl⟩ := hcut
        have HB4 : Hid (Below w.heap.size w wc) := HB2.out.trans (HB3.out.mono HB2.out.size)
        have L3 := Mv.j2_len HW.out.2.2.2
        rw [← tx_size, HX3.out] at L3
        have sp : tx [32] = ByteArray.mk #[32] := rfl
        have hcase : kk = 1 ∨ kk = 3 ∨ kk = 4 ∨ kk = 5 ∨ kk = 7 ∨ kk = 8 ∨ kk = 2 ∨ kk = 6 := by omega
        clear hk8 k1' hk0 hk9
        rcases hcase with hk | hk | hk | hk | hk | hk | hk | hk
        · have HKk : Hid (m.k = 1) := by
            show m.k = 1
            rw [HK.out, hk]
            rfl
          rw [hk] at c0 ⊢
          rw [show ((1 : Nat) : Int) = 1 from rfl] at c0 ⊢
          clear hk HK hU HSd
          obtain ⟨Hx, hHx⟩ : ∃ x, tx (hx m.l m.b) = x := ⟨_, rfl⟩
          have lx := hx_len m.l m.b
          rw [← tx_size, hHx] at lx
          obtain ⟨Y1, p1, t1, z1⟩ := catS HX3.out (show tx [32, 120] = ByteArray.mk #[32, 120] from rfl)
          obtain ⟨Y2, p2, t2, z2⟩ := catS t1 hHx
          obtain ⟨Y3, p3, t3, z3⟩ := catS t2 (show tx [32, 104, 111, 108, 100] = ByteArray.mk #[32, 104, 111, 108, 100] from rfl)
          rw [show (ByteArray.mk #[32, 120]).size = 2 from rfl] at z1
          have s1 : ¬ 9223372036854775807 < X3.size + 2 := by omega
          have s3 : ¬ 9223372036854775807 < Y1.size + Hx.size := by omega
          have s4 : ¬ 9223372036854775807 < Y2.size + 5 := by omega
          have HF : Hid (m.line = m.j2 ++ [32, 120] ++ hx m.l m.b ++ (if m.h then [32, 104, 111, 108, 100] else []) ∧ tx (m.j2 ++ [32, 120] ++ hx m.l m.b) = Y2 ∧ tx (m.j2 ++ [32, 120] ++ hx m.l m.b ++ [32, 104, 111, 108, 100]) = Y3) := ⟨m.line1 HKk.out, t2, t3⟩
          have hN := rhex d m.l e m.b wc (cel.out wc HB3.out).2 hl
          rw [hHx] at hN
          clear hHx lx t1 t2 t3 z1 z2 z3 sp s2 L3
          go_wp2_with fail
          refine hN.mono ?_
          rintro r w9 ⟨rfl, b9⟩
          have H9 : Hid (_) := b9
          have cc7 := cellB c7 b9
          clear b9 hN
          rcases Bool.eq_false_or_eq_true m.h with hh | hh
          · rw [hh] at cc7
            have HG : Hid (tx m.line = Y3) := by
              show tx m.line = Y3
              rw [HF.out.1, hh]
              exact HF.out.2.2
            clear hh HF
            go_wp2_with fail
            go_ret2
            exact ⟨by rw [HG.out]; rfl, HB4.out.trans (H9.out.mono HB4.out.size)⟩
          · rw [hh] at cc7
            have HG : Hid (tx m.line = Y2) := by
              show tx m.line = Y2
              rw [HF.out.1, hh]
              simpa using HF.out.2.1
            clear hh HF
            go_wp2_with fail
            go_ret2
            exact ⟨by rw [HG.out]; rfl, HB4.out.trans (H9.out.mono HB4.out.size)⟩
        · have HKk : Hid (m.k = 3) := by
            show m.k = 3
            rw [HK.out, hk]
            rfl
          rw [hk] at c0 ⊢
          rw [show ((3 : Nat) : Int) = 3 from rfl] at c0 ⊢
          clear hk HK hU HSd
          have hm := HW.out.2.2.2
          obtain ⟨A1, hA1⟩ : ∃ x, tx (Lib.itoa m.f) = x := ⟨_, rfl⟩
          have l1 := itoa_len hm.f.1 hm.f.2
          rw [← tx_size, hA1] at l1
          obtain ⟨Y1, p1, t1, z1⟩ := catS HX3.out sp
          obtain ⟨Y2, p2, t2, z2⟩ := catS t1 hA1
          rw [show (ByteArray.mk #[32]).size = 1 from rfl] at z1
          have s1 : ¬ 9223372036854775807 < X3.size + 1 := by omega
          have s3 : ¬ 9223372036854775807 < Y1.size + A1.size := by omega
          have HF : Hid (tx m.line = Y2) := by
            show tx m.line = Y2
            rw [m.line3 HKk.out]
            exact t2
          have hN := rnum m.f hm.f.1 hm.f.2 wc
          rw [hA1] at hN
          clear hm hA1 l1 t1 z1 t2 z2 sp s2 L3
          go_wp2_with fail
          refine hN.mono ?_
          rintro r w9 ⟨rfl, b9⟩
          have H9 : Hid (_) := b9
          clear b9 hN
          go_wp2_with fail
          go_ret2
          exact ⟨by rw [HF.out]; rfl, HB4.out.trans (H9.out.mono HB4.out.size)⟩
        · have HKk : Hid (m.k = 4) := by
            show m.k = 4
            rw [HK.out, hk]
            rfl
          rw [hk] at c0 ⊢
          rw [show ((4 : Nat) : Int) = 4 from rfl] at c0 ⊢
          clear hk HK hU HSd
          have hm := HW.out.2.2.2
          obtain ⟨A1, hA1⟩ : ∃ x, tx (Lib.itoa m.f) = x := ⟨_, rfl⟩
          obtain ⟨A2, hA2⟩ : ∃ x, tx (Lib.itoa m.a) = x := ⟨_, rfl⟩
          obtain ⟨A3, hA3⟩ : ∃ x, tx (Lib.itoa ((m.w : Nat) : Int)) = x := ⟨_, rfl⟩
          have hw0 : -9223372036854775808 ≤ ((m.w : Nat) : Int) ∧ ((m.w : Nat) : Int) ≤ 9223372036854775807 := by
            have := hm.w
            omega
          have l1 := itoa_len hm.f.1 hm.f.2
          have l2 := itoa_len hm.a.1 hm.a.2
          have l3 := itoa_len hw0.1 hw0.2
          rw [← tx_size, hA1] at l1
          rw [← tx_size, hA2] at l2
          rw [← tx_size, hA3] at l3
          obtain ⟨Y1, p1, t1, z1⟩ := catS HX3.out sp
          obtain ⟨Y2, p2, t2, z2⟩ := catS t1 hA1
          obtain ⟨Y3, p3, t3, z3⟩ := catS t2 sp
          obtain ⟨Y4, p4, t4, z4⟩ := catS t3 hA2
          obtain ⟨Y5, p5, t5, z5⟩ := catS t4 sp
          obtain ⟨Y6, p6, t6, z6⟩ := catS t5 hA3
          rw [show (ByteArray.mk #[32]).size = 1 from rfl] at z1 z3 z5
          have s1 : ¬ 9223372036854775807 < X3.size + 1 := by omega
          have s3 : ¬ 9223372036854775807 < Y1.size + A1.size := by omega
          have s4 : ¬ 9223372036854775807 < Y2.size + 1 := by omega
          have s5 : ¬ 9223372036854775807 < Y3.size + A2.size := by omega
          have s6 : ¬ 9223372036854775807 < Y4.size + 1 := by omega
          have s7 : ¬ 9223372036854775807 < Y5.size + A3.size := by omega
          have HF : Hid (tx m.line = Y6) := by
            show tx m.line = Y6
            rw [m.line4 HKk.out]
            exact t6
          have m1 := ncall m.f hm.f A1 hA1 wc
          have m2 := ncall m.a hm.a A2 hA2 wc
          have m3 := ncall ((m.w : Nat) : Int) hw0 A3 hA3 wc
          have ww : IntKind.i64.wrap ((m.w : Nat) : Int) = ((m.w : Nat) : Int) := by have := hm.w; rw [IntKind.wrap_i64]; omega
          have hS : ∀ wx, Below wc.heap.size wc wx → wx.cell? ⟨w.heap.size, 3, none⟩ = some (.int .i64 m.f) ∧ wx.cell? ⟨w.heap.size, 4, none⟩ = some (.int .i64 m.a) ∧ wx.cell? ⟨w.heap.size, 5, none⟩ = some (.int .u32 (m.w : Nat)) := fun wx bx => ⟨cellB c3 bx, cellB c4 bx, cellB c5 bx⟩
          have B0 : Below wc.heap.size wc wc.drew := Below.drew (Below.refl _ _)
          have HSd := hS _ B0
          clear hm hA1 hA2 hA3 hw0 l1 l2 l3 t1 z1 t2 z2 t3 z3 t4 z4 t5 z5 t6 z6 sp s2 L3
          go_wp2_with fail
          go_region_held3 (fun wx => wx.cell? ⟨w.heap.size, 3, none⟩ = some (.int .i64 m.f) ∧ wx.cell? ⟨w.heap.size, 4, none⟩ = some (.int .i64 m.a) ∧ wx.cell? ⟨w.heap.size, 5, none⟩ = some (.int .u32 (m.w : Nat))) (first | assumption | exact hS _ (by assumption)) (first
            | (refine step_callS 59 #[.tmp 65] #[3] rfl (by kernel_rfl) #[.int .i64 m.f] (by kernel_rfl) (m1 _ (by assumption)) ?_; rintro x v1 ⟨rfl, b1⟩)
            | (refine step_callS 59 #[.tmp 70] #[3] rfl (by kernel_rfl) #[.int .i64 m.a] (by kernel_rfl) (m2 _ (by assumption)) ?_; rintro x v2 ⟨rfl, b2⟩)
            | (refine step_callS 59 #[.tmp 76] #[3] rfl (by kernel_rfl) #[.int .i64 ((m.w : Nat) : Int)] (by kernel_rfl) (m3 _ (by assumption)) ?_; rintro x v3 ⟨rfl, b3⟩)
            | fail)
          have H9 : Hid (Below wc.heap.size wc v3) := b3
          clear m1 m2 m3 hS HSd b1 b2 b3 B0
          go_wp2_with fail
          go_ret2
          exact ⟨by rw [HF.out]; rfl, HB4.out.trans (H9.out.mono HB4.out.size)⟩
        · have HKk : Hid (m.k = 5) := by
            show m.k = 5
            rw [HK.out, hk]
            rfl
          rw [hk] at c0 ⊢
          rw [show ((5 : Nat) : Int) = 5 from rfl] at c0 ⊢
          clear hk HK hU HSd
          have hm := HW.out.2.2.2
          obtain ⟨A1, hA1⟩ : ∃ x, tx (Lib.itoa m.n) = x := ⟨_, rfl⟩
          have l1 := itoa_len hm.n.1 hm.n.2
          rw [← tx_size, hA1] at l1
          obtain ⟨Y1, p1, t1, z1⟩ := catS HX3.out sp
          obtain ⟨Y2, p2, t2, z2⟩ := catS t1 hA1
          rw [show (ByteArray.mk #[32]).size = 1 from rfl] at z1
          have s1 : ¬ 9223372036854775807 < X3.size + 1 := by omega
          have s3 : ¬ 9223372036854775807 < Y1.size + A1.size := by omega
          have HF : Hid (tx m.line = Y2) := by
            show tx m.line = Y2
            rw [m.line5 (.inl HKk.out)]
            exact t2
          have hN := rnum m.n hm.n.1 hm.n.2 wc
          rw [hA1] at hN
          clear hm hA1 l1 t1 z1 t2 z2 sp s2 L3
          go_wp2_with fail
          refine hN.mono ?_
          rintro r w9 ⟨rfl, b9⟩
          have H9 : Hid (_) := b9
          clear b9 hN
          go_wp2_with fail
          go_ret2
          exact ⟨by rw [HF.out]; rfl, HB4.out.trans (H9.out.mono HB4.out.size)⟩
        · have HKk : Hid (m.k = 7) := by
            show m.k = 7
            rw [HK.out, hk]
            rfl
          rw [hk] at c0 ⊢
          rw [show ((7 : Nat) : Int) = 7 from rfl] at c0 ⊢
          clear hk HK hU HSd
          have hm := HW.out.2.2.2
          obtain ⟨A1, hA1⟩ : ∃ x, tx (Lib.itoa m.n) = x := ⟨_, rfl⟩
          have l1 := itoa_len hm.n.1 hm.n.2
          rw [← tx_size, hA1] at l1
          obtain ⟨Y1, p1, t1, z1⟩ := catS HX3.out sp
          obtain ⟨Y2, p2, t2, z2⟩ := catS t1 hA1
          rw [show (ByteArray.mk #[32]).size = 1 from rfl] at z1
          have s1 : ¬ 9223372036854775807 < X3.size + 1 := by omega
          have s3 : ¬ 9223372036854775807 < Y1.size + A1.size := by omega
          have HF : Hid (tx m.line = Y2) := by
            show tx m.line = Y2
            rw [m.line5 (.inr (.inl HKk.out))]
            exact t2
          have hN := rnum m.n hm.n.1 hm.n.2 wc
          rw [hA1] at hN
          clear hm hA1 l1 t1 z1 t2 z2 sp s2 L3
          go_wp2_with fail
          refine hN.mono ?_
          rintro r w9 ⟨rfl, b9⟩
          have H9 : Hid (_) := b9
          clear b9 hN
          go_wp2_with fail
          go_ret2
          exact ⟨by rw [HF.out]; rfl, HB4.out.trans (H9.out.mono HB4.out.size)⟩
        · have HKk : Hid (m.k = 8) := by
            show m.k = 8
            rw [HK.out, hk]
            rfl
          rw [hk] at c0 ⊢
          rw [show ((8 : Nat) : Int) = 8 from rfl] at c0 ⊢
          clear hk HK hU HSd
          have hm := HW.out.2.2.2
          obtain ⟨A1, hA1⟩ : ∃ x, tx (Lib.itoa m.n) = x := ⟨_, rfl⟩
          have l1 := itoa_len hm.n.1 hm.n.2
          rw [← tx_size, hA1] at l1
          obtain ⟨Y1, p1, t1, z1⟩ := catS HX3.out sp
          obtain ⟨Y2, p2, t2, z2⟩ := catS t1 hA1
          rw [show (ByteArray.mk #[32]).size = 1 from rfl] at z1
          have s1 : ¬ 9223372036854775807 < X3.size + 1 := by omega
          have s3 : ¬ 9223372036854775807 < Y1.size + A1.size := by omega
          have HF : Hid (tx m.line = Y2) := by
            show tx m.line = Y2
            rw [m.line5 (.inr (.inr HKk.out))]
            exact t2
          have hN := rnum m.n hm.n.1 hm.n.2 wc
          rw [hA1] at hN
          clear hm hA1 l1 t1 z1 t2 z2 sp s2 L3
          go_wp2_with fail
          refine hN.mono ?_
          rintro r w9 ⟨rfl, b9⟩
          have H9 : Hid (_) := b9
          clear b9 hN
          go_wp2_with fail
          go_ret2
          exact ⟨by rw [HF.out]; rfl, HB4.out.trans (H9.out.mono HB4.out.size)⟩
        · have HKk : Hid (m.k = 2) := by
            show m.k = 2
            rw [HK.out, hk]
            rfl
          rw [hk] at c0 ⊢
          rw [show ((2 : Nat) : Int) = 2 from rfl] at c0 ⊢
          clear hk HK hU HSd
          have HF : Hid (tx m.line = X3) := by
            show tx m.line = X3
            rw [m.line2 (.inl HKk.out)]
            exact HX3.out
          clear sp s2 L3
          go_wp2_with fail
          go_ret2
          exact ⟨by rw [HF.out]; rfl, HB4.out⟩
        · have HKk : Hid (m.k = 6) := by
            show m.k = 6
            rw [HK.out, hk]
            rfl
          rw [hk] at c0 ⊢
          rw [show ((6 : Nat) : Int) = 6 from rfl] at c0 ⊢
          clear hk HK hU HSd
          have HF : Hid (tx m.line = X3) := by
            show tx m.line = X3
            rw [m.line2 (.inr HKk.out)]
            exact HX3.out
          clear sp s2 L3
          go_wp2_with fail
          go_ret2
          exact ⟨by rw [HF.out]; rfl, HB4.out⟩
end Go.Proofs.YtbhbjdmdabkomaaDoor
