/- Layer 21: an end's word: the program's and the document's. (gentq5.py) -/
import Derived.Test.YtbhbjdmdabkomaaDoorTq4
namespace Go.Proofs.YtbhbjdmdabkomaaDoor
set_option maxRecDepth 100000
open Go.RowKit Go.Maps
set_option maxRecDepth 100000
/-- An end. -/
structure Ed where
  st : Int
  se : Nat
  nu : Nat
  sn : Nat
  si : Int
  la : Int
  rq : Bool
  on : Bool
  l : Nat
  b : Nat → Nat
structure Ed.Ok (x : Ed) : Prop where
  st : -9223372036854775808 ≤ x.st ∧ x.st ≤ 9223372036854775807
  se : x.se < 4294967296
  nu : x.nu < 4294967296
  sn : x.sn < 4294967296
  si : -9223372036854775808 ≤ x.si ∧ x.si ≤ 9223372036854775807
  la : -9223372036854775808 ≤ x.la ∧ x.la ≤ 9223372036854775807
def Ed.zs (x : Ed) : List Int := [((x.se : Nat) : Int), ((x.nu : Nat) : Int), ((x.sn : Nat) : Int), x.si, x.la]
def Ed.ow (x : Ed) : List UInt8 := if x.on then [111, 110, 58] ++ hx x.l x.b else [111, 102, 102]
def Ed.w1 (x : Ed) : List (List UInt8) := [stW x.st] ++ x.zs.map Lib.itoa
def Ed.w2 (x : Ed) : List (List UInt8) := if x.rq then [[97, 115, 107]] else []
def Ed.ws (x : Ed) : List (List UInt8) := x.w1 ++ x.w2 ++ [x.ow]
def Ed.line (x : Ed) : List UInt8 := Lib.join x.ws [44]
theorem Ed.zs_ok {x : Ed} (h : x.Ok) : ∀ z ∈ x.zs, -9223372036854775808 ≤ z ∧ z ≤ 9223372036854775807 := by
  intro z hz
  have h1 := h.se
  have h2 := h.nu
  have h3 := h.sn
  have h4 := h.si
  have h5 := h.la
  unfold Ed.zs at hz
  simp only [List.mem_cons, List.not_mem_nil, or_false] at hz
  rcases hz with rfl | rfl | rfl | rfl | rfl <;> omega
theorem Ed.ow_len (x : Ed) : x.ow.length ≤ 3 + 2 * x.l := by
  have := hx_len x.l x.b
  unfold Ed.ow
  split
  · rw [List.length_append, this]
    simp
  · simp
theorem Ed.w2_len (x : Ed) : x.w2.length ≤ 1 := by
  unfold Ed.w2
  split <;> simp
theorem Ed.ws_len (x : Ed) : x.ws.length ≤ 8 ∧ 0 < x.ws.length := by
  have := x.w2_len
  unfold Ed.ws Ed.w1 Ed.zs
  simp only [List.length_append, List.length_map, List.length_cons, List.length_nil]
  omega
theorem join_lenS (K : Nat) (s : UInt8) : ∀ ls : List (List UInt8), (∀ l ∈ ls, l.length ≤ K) → (Lib.join ls [s]).length ≤ ls.length * (K + 1)
  | [], _ => by simp [Lib.join, List.intercalate]
  | [x], h => by
    have := h x (by simp)
    simp [Lib.join, List.intercalate]
    omega
  | x :: y :: t, h => by
    have h1 := h x (by simp)
    have h2 := join_lenS K s (y :: t) (fun l hl => h l (by simp [hl]))
    have e : Lib.join (x :: y :: t) [s] = x ++ [s] ++ Lib.join (y :: t) [s] := by simp [Lib.join, List.intercalate]
    rw [e]
    simp only [List.length_append, List.length_cons, List.length_nil] at h2 ⊢
    have e2 : (t.length + 1 + 1) * (K + 1) = (t.length + 1) * (K + 1) + (K + 1) := by rw [Nat.add_mul (t.length + 1) 1, Nat.one_mul]
    omega
theorem joinS (s : UInt8) : ∀ (t : List (List UInt8)) (a : List UInt8), Lib.join (a :: t) [s] = a ++ (t.map fun l => s :: l).flatten := by
  intro t
  induction t with
  | nil => intro a; simp [Lib.join, List.intercalate]
  | cons b t ih =>
    intro a
    have e : Lib.join (a :: b :: t) [s] = a ++ [s] ++ Lib.join (b :: t) [s] := by simp [Lib.join, List.intercalate]
    rw [e, ih]
    simp
/-- The word as the document builds it. -/
def Ed.j1 (x : Ed) : List UInt8 := stW x.st ++ [44] ++ Lib.itoa ((x.se : Nat) : Int) ++ [44] ++ Lib.itoa ((x.nu : Nat) : Int) ++ [44] ++ Lib.itoa ((x.sn : Nat) : Int) ++ [44] ++ Lib.itoa x.si ++ [44] ++ Lib.itoa x.la
def Ed.j2 (x : Ed) : List UInt8 := x.j1 ++ (if x.rq then [44, 97, 115, 107] else [])
theorem Ed.line_eq (x : Ed) : x.line = x.j2 ++ (44 :: x.ow) := by
  unfold Ed.line Ed.ws Ed.w1 Ed.w2 Ed.j2 Ed.j1 Ed.zs
  cases x.rq with
  | false =>
    show Lib.join (stW x.st :: _) [44] = _
    rw [joinS]
    simp
  | true =>
    show Lib.join (stW x.st :: _) [44] = _
    rw [joinS]
    simp
theorem Ed.j1_len {x : Ed} (h : x.Ok) : x.j1.length ≤ 126 := by
  have h0 := stW_len h.st.1 h.st.2
  have h1 := itoa_len (n := ((x.se : Nat) : Int)) (by omega) (by have := h.se; omega)
  have h2 := itoa_len (n := ((x.nu : Nat) : Int)) (by omega) (by have := h.nu; omega)
  have h3 := itoa_len (n := ((x.sn : Nat) : Int)) (by omega) (by have := h.sn; omega)
  have h4 := itoa_len h.si.1 h.si.2
  have h5 := itoa_len h.la.1 h.la.2
  unfold Ed.j1
  simp only [List.length_append, List.length_cons, List.length_nil]
  omega
theorem Ed.j2_len {x : Ed} (h : x.Ok) : x.j2.length ≤ 130 := by
  have h1 := Ed.j1_len h
  unfold Ed.j2
  split
  · rw [List.length_append]
    simp
    omega
  · simp
    omega
theorem Ed.line_len {x : Ed} (h : x.Ok) : x.line.length ≤ 134 + 2 * x.l := by
  have h1 := Ed.j2_len h
  have h2 := x.ow_len
  rw [x.line_eq, List.length_append, List.length_cons]
  omega
/-- An end in a block of its own. -/
structure EdW (w : World) (b : Nat) (x : Ed) (d : Option Addr) (e : Nat) : Prop where
  blk : w.heap[b]? = some (.cells #[.int .i64 x.st, .int .u32 (x.se : Nat), .int .u32 (x.nu : Nat), .int .u32 (x.sn : Nat), .int .i64 x.si, .int .i64 x.la, .bool x.rq, .bool x.on, .slice d x.l e] 76 (0, 0))
theorem EdW.new (w : World) (x : Ed) (d : Option Addr) (e : Nat) : EdW (w.alloc (.cells #[.int .i64 x.st, .int .u32 (x.se : Nat), .int .u32 (x.nu : Nat), .int .u32 (x.sn : Nat), .int .i64 x.si, .int .i64 x.la, .bool x.rq, .bool x.on, .slice d x.l e] 76)) w.heap.size x d e := ⟨heap_alloc_new _ _⟩
theorem EdW.below {w w' : World} {b : Nat} {x : Ed} {d : Option Addr} {e : Nat} (h : EdW w b x d e) (hb : Below w.heap.size w w') : EdW w' b x d e := ⟨(hb.block b (Array.getElem?_eq_some_iff.1 h.blk).1).trans h.blk⟩
theorem EdW.cells {w : World} {b : Nat} {x : Ed} {d : Option Addr} {e : Nat} (h : EdW w b x d e) : w.cell? ⟨b, 0, none⟩ = some (.int .i64 x.st) ∧ w.cell? ⟨b, 1, none⟩ = some (.int .u32 (x.se : Nat)) ∧ w.cell? ⟨b, 2, none⟩ = some (.int .u32 (x.nu : Nat)) ∧ w.cell? ⟨b, 3, none⟩ = some (.int .u32 (x.sn : Nat)) ∧ w.cell? ⟨b, 4, none⟩ = some (.int .i64 x.si) ∧ w.cell? ⟨b, 5, none⟩ = some (.int .i64 x.la) ∧ w.cell? ⟨b, 6, none⟩ = some (.bool x.rq) ∧ w.cell? ⟨b, 7, none⟩ = some (.bool x.on) ∧ w.cell? ⟨b, 8, none⟩ = some (.slice d x.l e) :=
  ⟨cell_of_row _ _ 0 _ _ _ h.blk, cell_of_row _ _ 1 _ _ _ h.blk, cell_of_row _ _ 2 _ _ _ h.blk, cell_of_row _ _ 3 _ _ _ h.blk, cell_of_row _ _ 4 _ _ _ h.blk, cell_of_row _ _ 5 _ _ _ h.blk, cell_of_row _ _ 6 _ _ _ h.blk, cell_of_row _ _ 7 _ _ _ h.blk, cell_of_row _ _ 8 _ _ _ h.blk⟩
set_option maxHeartbeats 1000000 in
theorem tout (x : Ed) (d : Option Addr) (e : Nat) (w : World) (hr : Row8 w d x.l e x.b) (hl : x.l ≤ 100000) : Calls Tryd.prog 82 #[.agg #[.int .i64 x.st, .int .u32 (x.se : Nat), .int .u32 (x.nu : Nat), .int .u32 (x.sn : Nat), .int .i64 x.si, .int .i64 x.la, .bool x.rq, .bool x.on, .slice d x.l e]] w fun r w' => r = .returned (.string (tx x.ow)) ∧ Below w.heap.size w w' := by
  obtain ⟨W, hW⟩ : ∃ W : World, w.alloc (.cells #[.int .i64 x.st, .int .u32 (x.se : Nat), .int .u32 (x.nu : Nat), .int .u32 (x.sn : Nat), .int .i64 x.si, .int .i64 x.la, .bool x.rq, .bool x.on, .slice d x.l e] 76) = W := ⟨_, rfl⟩
  have bW : Below w.heap.size w W := by rw [← hW]; exact belA (Below.refl _ _) _
  have fW : EdW W w.heap.size x d e := by rw [← hW]; exact EdW.new w x d e
  have HW : Hid (_) := And.intro bW (And.intro fW (hr.below bW))
  obtain ⟨c0, c1, c2, c3, c4, c5, c6, c7, c8⟩ := fW.cells
  clear bW fW hr c0 c1 c2 c3 c4 c5 c6
  rcases Bool.eq_false_or_eq_true x.on with ho | ho
  · rw [ho] at c7
    have hO := tonw true W
    have hS := tsixteen d x.l e x.b W HW.out.2.2 hl
    obtain ⟨Hx, hHx⟩ : ∃ y, tx (hx x.l x.b) = y := ⟨_, rfl⟩
    have lx := hx_len x.l x.b
    rw [← tx_size, hHx] at lx
    obtain ⟨Y1, p1, t1, z1⟩ := catS (show tx [58] = ByteArray.mk #[58] from rfl) hHx
    obtain ⟨Y2, p2, t2, z2⟩ := catS (show tx [111, 110] = ByteArray.mk #[111, 110] from rfl) t1
    rw [show (ByteArray.mk #[58]).size = 1 from rfl] at z1
    rw [show (ByteArray.mk #[111, 110]).size = 2 from rfl] at z2
    have s1 : ¬ 9223372036854775807 < (ByteArray.mk #[58]).size + Hx.size := by
      rw [show (ByteArray.mk #[58]).size = 1 from rfl]
      omega
    have s2 : ¬ 9223372036854775807 < (ByteArray.mk #[111, 110]).size + Y1.size := by
      rw [show (ByteArray.mk #[111, 110]).size = 2 from rfl]
      omega
    have s1' : ¬ 9223372036854775807 < 1 + Hx.size := by omega
    have s2' : ¬ 9223372036854775807 < 2 + Y1.size := by omega
    have HF : Hid (tx x.ow = Y2) := by
      show tx x.ow = Y2
      unfold Ed.ow
      rw [ho, ← t2]
      rfl
    rw [hHx] at hS
    rw [show tx (onW true) = ByteArray.mk #[111, 110] from rfl] at hO
    clear ho hHx lx t1 t2 z1 z2
    go_enter Tryd.func82, Tryd.ntmps82
    go_wp2_with fail
    try rw [hW]
    refine hO.mono ?_
    rintro r w1 ⟨rfl, hw1⟩
    rw [hw1]
    clear hw1 hO
    go_wp2_with fail
    refine hS.mono ?_
    rintro r w2 ⟨rfl, b2⟩
    have H2 : Hid (_) := b2
    clear b2 hS
    go_wp2_with fail
    go_ret
    exact ⟨by rw [HF.out] <;> rfl, HW.out.1.trans (H2.out.mono HW.out.1.size)⟩
  · rw [ho] at c7
    have hO := tonw false W
    have HF : Hid (tx x.ow = ByteArray.mk #[111, 102, 102]) := by
      show tx x.ow = _
      unfold Ed.ow
      rw [ho]
      rfl
    rw [show tx (onW false) = ByteArray.mk #[111, 102, 102] from rfl] at hO
    clear ho
    go_enter Tryd.func82, Tryd.ntmps82
    go_wp2_with fail
    try rw [hW]
    refine hO.mono ?_
    rintro r w1 ⟨rfl, hw1⟩
    rw [hw1]
    clear hw1 hO
    go_wp2_with fail
    go_ret
    exact ⟨by rw [HF.out] <;> rfl, HW.out.1⟩
set_option maxHeartbeats 2000000 in
theorem tend (x : Ed) (hx0 : x.Ok) (d : Option Addr) (e : Nat) (w : World) (hr : Row8 w d x.l e x.b) (hl : x.l ≤ 100000) (L : Lt w) : Calls Tryd.prog 44 #[.agg #[.int .i64 x.st, .int .u32 (x.se : Nat), .int .u32 (x.nu : Nat), .int .u32 (x.sn : Nat), .int .i64 x.si, .int .i64 x.la, .bool x.rq, .bool x.on, .slice d x.l e]] w fun r w' => r = .returned (.string (tx x.line)) ∧ Below w.heap.size w w' := by
  obtain ⟨W, hW⟩ : ∃ W : World, w.alloc (.cells #[.int .i64 x.st, .int .u32 (x.se : Nat), .int .u32 (x.nu : Nat), .int .u32 (x.sn : Nat), .int .i64 x.si, .int .i64 x.la, .bool x.rq, .bool x.on, .slice d x.l e] 76) = W := ⟨_, rfl⟩
  have bW : Below w.heap.size w W := by rw [← hW]; exact belA (Below.refl _ _) _
  have fW : EdW W w.heap.size x d e := by rw [← hW]; exact EdW.new w x d e
  have HW : Hid (_) := And.intro bW (And.intro fW (And.intro (hr.below bW) (And.intro (L.below bW) hx0)))
  obtain ⟨c0, c1, c2, c3, c4, c5, c6, c7, c8⟩ := fW.cells
  have hSt := tstate x.st hx0.st.1 hx0.st.2 W (L.below bW)
  obtain ⟨X, hX⟩ : ∃ X, tx (stW x.st) = X := ⟨_, rfl⟩
  rw [hX] at hSt
  have wse : IntKind.i64.wrap ((x.se : Nat) : Int) = ((x.se : Nat) : Int) := by have := hx0.se; rw [IntKind.wrap_i64]; omega
  have wnu : IntKind.i64.wrap ((x.nu : Nat) : Int) = ((x.nu : Nat) : Int) := by have := hx0.nu; rw [IntKind.wrap_i64]; omega
  have wsn : IntKind.i64.wrap ((x.sn : Nat) : Int) = ((x.sn : Nat) : Int) := by have := hx0.sn; rw [IntKind.wrap_i64]; omega
  have HX : Hid (_) := hX
  clear bW fW hr L hx0 hX
  go_enter Tryd.func44, Tryd.ntmps44
  go_wp2_with fail
  try rw [hW]
  clear hW
  refine hSt.mono ?_
  rintro r w1 ⟨rfl, b1⟩
  clear hSt c0 c1 c2 c3 c4 c5 c6 c7 c8
  have HF1 : Hid (Wd W (w1.alloc (.cells #[.string X] 9)) (.slice (some ⟨w1.heap.size, 0, none⟩) 1 1) [stW x.st]) := by
    refine ⟨⟨rfl, .inr ⟨w1.heap.size, 1, _, rfl, b1.size, heap_alloc_new _ _, by simp, by decide, rfl, ?_⟩⟩, belA b1 _⟩
    rw [← HX.out]
    rfl
  obtain ⟨w2, hw2⟩ : ∃ y, w1.alloc (.cells #[.string X] 9) = y := ⟨_, rfl⟩
  obtain ⟨g2, hg2⟩ : ∃ y, w1.heap.size = y := ⟨_, rfl⟩
  rw [hw2, hg2] at HF1
  have cel : Hid (∀ wx, Below W.heap.size W wx → EdW wx w.heap.size x d e ∧ Row8 wx d x.l e x.b ∧ Lt wx) := fun wx bx => ⟨HW.out.2.1.below bx, HW.out.2.2.1.below bx, HW.out.2.2.2.1.below bx⟩
  obtain ⟨c0, c1, c2, c3, c4, c5, c6, c7, c8⟩ := (cel.out w2 HF1.out.bel).1.cells
  have hD0 := tdecL x.zs (Ed.zs_ok HW.out.2.2.2.2) (by simp [Ed.zs]) w2 (cel.out w2 HF1.out.bel).2.2.p _ (Below.refl _ _)
  have hD : Calls Tryd.prog 81 #[.slice (some ⟨w2.heap.size, 0, none⟩) 5 5] (w2.alloc (.cells #[.int .i64 ((x.se : Nat) : Int), .int .i64 ((x.nu : Nat) : Int), .int .i64 ((x.sn : Nat) : Int), .int .i64 x.si, .int .i64 x.la] 3)) fun r w' => ∃ v, r = .returned v ∧ Hid (Wd w2 w' v (x.zs.map Lib.itoa)) := hD0
  clear hD0 b1
  go_wp2_with fail
  try rw [hw2]
  try rw [hg2]
  clear hw2 hg2
  refine hD.mono ?_
  rintro r w3 ⟨v3, rfl, h3⟩
  clear hD c0 c1 c2 c3 c4 c5 c6 c7 c8
  go_wp2_with (at_builtin; refine wpList_appWs rfl _ _ rfl (x.zs.map Lib.itoa) HF1.out h3.out.bel h3.out.own (fun h => by simp [Ed.zs] at h) rfl rfl (by simp) (by simp [Ed.zs]) ?_)
  intro v4 w4 h4
  have H4 : Hid (Wd W w4 v4 x.w1) := h4
  clear h4 h3 HF1
  obtain ⟨c0, c1, c2, c3, c4, c5, c6, c7, c8⟩ := (cel.out w4 H4.out.bel).1.cells
  obtain ⟨q, hq⟩ : ∃ q, x.rq = q := ⟨_, rfl⟩
  rw [hq] at c6
  have HQ : Hid (x.rq = q) := hq
  clear hq
  go_upto_if 26 with fail
  go_cut [3] (fun v wx => Hid (Wd W wx v (x.w1 ++ x.w2)))
  case first =>
    cases q with
    | true =>
      have HU : Hid (x.w2 = [[97, 115, 107]]) := by
        show x.w2 = _
        unfold Ed.w2
        rw [HQ.out]
        rfl
      have HT : tx [97, 115, 107] = ByteArray.mk #[97, 115, 107] := rfl
      go_wp2_with (at_builtin; refine wpList_appW rfl _ _ rfl _ (ByteArray.mk #[97, 115, 107]) HT H4.out (Below.refl _ _) rfl rfl (by simp [Ed.w1, Ed.zs]) ?_)
      intro v7 w7 h7
      have H2 : Hid (Wd W w7 v7 (x.w1 ++ x.w2)) := by
        show Wd W w7 v7 (x.w1 ++ x.w2)
        rw [HU.out]
        exact h7.out
      clear h7
      go_wp2_with fail
      go_meet
      exact H2
    | false =>
      have H2 : Hid (Wd W w4 v4 (x.w1 ++ x.w2)) := by
        show Wd W w4 v4 (x.w1 ++ x.w2)
        unfold Ed.w2
        rw [HQ.out]
        simpa using H4.out
      go_wp2_with fail
      go_meet
      exact H2
  case rest =>
    have H5 : Hid (Wd W wc u3 (x.w1 ++ x.w2)) := hcut
    clear hcut c0 c1 c2 c3 c4 c5 c6 c7 c8 H4
    obtain ⟨c0, c1, c2, c3, c4, c5, c6, c7, c8⟩ := (cel.out wc H5.out.bel).1.cells
    have hO := tout x d e wc (cel.out wc H5.out.bel).2.1 hl
    obtain ⟨Z, hZ⟩ : ∃ X, tx x.ow = X := ⟨_, rfl⟩
    rw [hZ] at hO
    go_wp2_with fail
    refine hO.mono ?_
    rintro r w6 ⟨rfl, b6⟩
    have H6 : Hid (_) := b6
    clear hO b6 c0 c1 c2 c3 c4 c5 c6 c7 c8
    go_wp2_with (at_builtin; refine wpList_appW rfl _ _ rfl x.ow Z hZ H5.out H6.out rfl rfl (by have := x.w2_len; rw [List.length_append]; simp [Ed.w1, Ed.zs]; omega) ?_)
    intro v7 w7 h7
    have H7 : Hid (Wd W w7 v7 x.ws) := h7
    have hLn := Ed.line_len HW.out.2.2.2.2
    have hWs := x.ws_len
    obtain ⟨g8, c8, e8⟩ := H7.out.len hWs.2
    rw [e8] at H7 ⊢
    have hJ := pjoinS (w := w7) x.ws [44] H7.out.own (by omega) (by show x.line.length ≤ _; omega)
    rw [show tx [44] = ByteArray.mk #[44] from rfl] at hJ
    clear h7 H5 H6 e8 hLn hWs hZ
    obtain ⟨N, hN⟩ : ∃ y, x.ws.length = y := ⟨_, rfl⟩
    rw [hN] at H7 hJ ⊢
    clear hN
    go_wp2_with fail
    refine hJ.mono ?_
    rintro r wj ⟨rfl, bj⟩
    have HJ : Hid (_) := bj
    clear hJ bj
    go_wp2_with fail
    go_ret
    exact ⟨rfl, HW.out.1.trans ((H7.out.bel.mono HW.out.1.size).trans (HJ.out.mono (Nat.le_trans HW.out.1.size H7.out.bel.size)))⟩
/-- The document's names. -/
theorem enm (w : World) (i : Nat) {l : List UInt8} (h : sws[i]? = some l) : (w.alloc (.cells #[.string (ByteArray.mk #[]), .string (ByteArray.mk #[105, 100, 108, 101]), .string (ByteArray.mk #[111, 102, 102, 101, 114, 101, 100]), .string (ByteArray.mk #[97, 103, 114, 101, 101, 100]), .string (ByteArray.mk #[114, 117, 110, 110, 105, 110, 103]), .string (ByteArray.mk #[100, 111, 110, 101]), .string (ByteArray.mk #[100, 111, 119, 110])] 9)).cell? ⟨w.heap.size, i, none⟩ = some (.string (tx l)) := by
  rw [cell_of_row _ w.heap.size i _ _ _ (heap_alloc_new w (.cells #[.string (ByteArray.mk #[]), .string (ByteArray.mk #[105, 100, 108, 101]), .string (ByteArray.mk #[111, 102, 102, 101, 114, 101, 100]), .string (ByteArray.mk #[97, 103, 114, 101, 101, 100]), .string (ByteArray.mk #[114, 117, 110, 110, 105, 110, 103]), .string (ByteArray.mk #[100, 111, 110, 101]), .string (ByteArray.mk #[100, 111, 119, 110])] 9))]
  have e : (#[.string (ByteArray.mk #[]), .string (ByteArray.mk #[105, 100, 108, 101]), .string (ByteArray.mk #[111, 102, 102, 101, 114, 101, 100]), .string (ByteArray.mk #[97, 103, 114, 101, 101, 100]), .string (ByteArray.mk #[114, 117, 110, 110, 105, 110, 103]), .string (ByteArray.mk #[100, 111, 110, 101]), .string (ByteArray.mk #[100, 111, 119, 110])] : Array Value) = (sws.map fun l => .string (tx l)).toArray := rfl
  rw [e, List.getElem?_toArray, List.getElem?_map, h]
  rfl
theorem sws_get {k : Int} (h : 1 ≤ k ∧ k ≤ 6) : sws[k.toNat]? = some (stW k) := by
  unfold stW
  rw [if_pos h]
  obtain ⟨j, rfl⟩ : ∃ j : Nat, k = ((j : Nat) : Int) := ⟨k.toNat, by omega⟩
  rw [Int.toNat_natCast]
  have : j = 1 ∨ j = 2 ∨ j = 3 ∨ j = 4 ∨ j = 5 ∨ j = 6 := by omega
  rcases this with rfl | rfl | rfl | rfl | rfl | rfl <;> rfl
set_option maxHeartbeats 2000000 in
theorem rend (x : Ed) (hx0 : x.Ok) (d : Option Addr) (e : Nat) (w : World) (hr : Row8 w d x.l e x.b) (hl : x.l ≤ 100000) : Calls Tryd.prog 45 #[.agg #[.int .i64 x.st, .int .u32 (x.se : Nat), .int .u32 (x.nu : Nat), .int .u32 (x.sn : Nat), .int .i64 x.si, .int .i64 x.la, .bool x.rq, .bool x.on, .slice d x.l e]] w fun r w' => r = .returned (.string (tx x.line)) ∧ Below w.heap.size w w' := by
  obtain ⟨W, hW⟩ : ∃ W : World, w.alloc (.cells #[.int .i64 x.st, .int .u32 (x.se : Nat), .int .u32 (x.nu : Nat), .int .u32 (x.sn : Nat), .int .i64 x.si, .int .i64 x.la, .bool x.rq, .bool x.on, .slice d x.l e] 76) = W := ⟨_, rfl⟩
  have bW : Below w.heap.size w W := by rw [← hW]; exact belA (Below.refl _ _) _
  have fW : EdW W w.heap.size x d e := by rw [← hW]; exact EdW.new w x d e
  have HW : Hid (_) := And.intro bW (And.intro fW (And.intro (hr.below bW) hx0))
  obtain ⟨W2, hW2⟩ : ∃ y, W.alloc (.cells #[.string (ByteArray.mk #[]), .string (ByteArray.mk #[105, 100, 108, 101]), .string (ByteArray.mk #[111, 102, 102, 101, 114, 101, 100]), .string (ByteArray.mk #[97, 103, 114, 101, 101, 100]), .string (ByteArray.mk #[114, 117, 110, 110, 105, 110, 103]), .string (ByteArray.mk #[100, 111, 110, 101]), .string (ByteArray.mk #[100, 111, 119, 110])] 9) = y := ⟨_, rfl⟩
  obtain ⟨g, hg⟩ : ∃ y, W.heap.size = y := ⟨_, rfl⟩
  have b2 : Below W.heap.size W W2 := by rw [← hW2]; exact belA (Below.refl _ _) _
  have HN : Hid (∀ i l, sws[i]? = some l → W2.cell? ⟨g, i, none⟩ = some (.string (tx l))) := fun i l h => by rw [← hW2, ← hg]; exact enm W i h
  have cel : Hid (∀ wx, Below W2.heap.size W2 wx → EdW wx w.heap.size x d e ∧ Row8 wx d x.l e x.b) := fun wx bx => ⟨HW.out.2.1.below (belTS bx b2), HW.out.2.2.1.below (belTS bx b2)⟩
  have HB2 : Hid (Below w.heap.size w W2) := HW.out.1.trans (b2.mono HW.out.1.size)
  have bse : -9223372036854775808 ≤ ((x.se : Nat) : Int) ∧ ((x.se : Nat) : Int) ≤ 9223372036854775807 := by have := hx0.se; omega
  have bnu : -9223372036854775808 ≤ ((x.nu : Nat) : Int) ∧ ((x.nu : Nat) : Int) ≤ 9223372036854775807 := by have := hx0.nu; omega
  have bsn : -9223372036854775808 ≤ ((x.sn : Nat) : Int) ∧ ((x.sn : Nat) : Int) ≤ 9223372036854775807 := by have := hx0.sn; omega
  have wse : IntKind.i64.wrap ((x.se : Nat) : Int) = ((x.se : Nat) : Int) := by have := hx0.se; rw [IntKind.wrap_i64]; omega
  have wnu : IntKind.i64.wrap ((x.nu : Nat) : Int) = ((x.nu : Nat) : Int) := by have := hx0.nu; rw [IntKind.wrap_i64]; omega
  have wsn : IntKind.i64.wrap ((x.sn : Nat) : Int) = ((x.sn : Nat) : Int) := by have := hx0.sn; rw [IntKind.wrap_i64]; omega
  obtain ⟨X0, hX0⟩ : ∃ y, tx (stW x.st) = y := ⟨_, rfl⟩
  obtain ⟨A0, hA0⟩ : ∃ y, tx (Lib.itoa x.st) = y := ⟨_, rfl⟩
  obtain ⟨X1, hX1⟩ : ∃ y, tx x.j1 = y := ⟨_, rfl⟩
  obtain ⟨X2, hX2⟩ : ∃ y, tx x.j2 = y := ⟨_, rfl⟩
  have HX0 : Hid (_) := hX0
  have HX1 : Hid (_) := hX1
  have HX2 : Hid (_) := hX2
  have L1 : X1.size ≤ 126 := by rw [← hX1, tx_size]; exact Ed.j1_len hx0
  have L2 : X2.size ≤ 130 := by rw [← hX2, tx_size]; exact Ed.j2_len hx0
  have l0 : X0.size ≤ 21 := by rw [← hX0, tx_size]; exact stW_len hx0.st.1 hx0.st.2
  have lA : A0.size ≤ 20 := by rw [← hA0, tx_size]; exact itoa_len hx0.st.1 hx0.st.2
  obtain ⟨Q1, pq, tq, zq⟩ := catS (show tx [63] = ByteArray.mk #[63] from rfl) hA0
  have sq : ¬ 9223372036854775807 < (ByteArray.mk #[63]).size + A0.size := by
    rw [show (ByteArray.mk #[63]).size = 1 from rfl]
    omega
  have sq' : ¬ 9223372036854775807 < 1 + A0.size := by omega
  have HQ : Hid (¬ (1 ≤ x.st ∧ x.st ≤ 6) → Q1 = X0) := fun h => by
    rw [← HX0.out, ← tq]
    unfold stW
    rw [if_neg h]
    rfl
  have hN0 := ncall x.st hx0.st A0 hA0 W2 W2 (Below.refl _ _)
  obtain ⟨IN, hIN⟩ : ∃ y, decide (1 ≤ x.st ∧ x.st ≤ 6) = y := ⟨_, rfl⟩
  have HIN : Hid (_) := hIN
  obtain ⟨c0, c1, c2, c3, c4, c5, c6, c7, c8⟩ := (cel.out W2 (Below.refl _ _)).1.cells
  clear bW fW hr hx0 b2 hX0 hA0 hX1 hX2 tq zq lA hIN
  go_enter Tryd.func45, Tryd.ntmps45
  go_wp2_with fail
  try rw [hW]
  try rw [hW2]
  try rw [hg]
  clear hW hW2 hg
  refine hN0.mono ?_
  rintro r w1 ⟨_, rfl, rfl, b1⟩
  have HB3 : Hid (Below W2.heap.size W2 w1) := b1
  clear hN0 c0 c1 c2 c3 c4 c5 c6 c7 c8 b1
  obtain ⟨c0, c1, c2, c3, c4, c5, c6, c7, c8⟩ := (cel.out w1 HB3.out).1.cells
  go_upto_region 3 with fail
  clear pq sq sq'
  go_cut [17] (fun v wx => v = .bool IN ∧ wx = w1)
  case first =>
    by_cases h1 : 1 ≤ x.st
    · by_cases h8 : x.st ≤ 6
      · have e : IN = true := by rw [← HIN.out]; simp [h1, h8]
        go_wp2_with fail
        go_meet
        exact ⟨by rw [e], rfl⟩
      · have e : IN = false := by rw [← HIN.out]; simp [h8]
        go_wp2_with fail
        go_meet
        exact ⟨by rw [e], rfl⟩
    · have e : IN = false := by rw [← HIN.out]; simp [h1]
      go_wp2_with fail
      go_meet
      exact ⟨by rw [e], rfl⟩
  case rest =>
  obtain ⟨rfl, rfl⟩ := hcut
  go_upto_if 17 with fail
  go_cut [4] (fun v wx => v = .string X0 ∧ wx = wc)
  case first =>
    by_cases hk : 1 ≤ x.st ∧ x.st ≤ 6
    · obtain ⟨kk, hkk⟩ : ∃ kk : Nat, x.st = ((kk : Nat) : Int) := ⟨x.st.toNat, by omega⟩
      have g0 := HN.out kk _ (by have := sws_get hk; rw [hkk, Int.toNat_natCast] at this; exact this)
      rw [← hkk, HX0.out] at g0
      have g1 := cellB g0 HB3.out
      rw [hkk] at c0
      have e : IN = true := by rw [← HIN.out]; exact decide_eq_true hk
      rw [e]
      have hk0 : (0 : Int) ≤ ((kk : Nat) : Int) := by omega
      have hk9' : ((kk : Nat) : Int) < 7 := by omega
      clear hk hkk e g0
      go_wp2_with fail
      go_meet
      exact ⟨rfl, rfl⟩
    · have e0 := HQ.out hk
      have e : IN = false := by rw [← HIN.out]; exact decide_eq_false hk
      rw [e]
      clear hk e
      go_wp2_with fail
      go_meet
      exact ⟨by rw [e0], rfl⟩
  case rest =>
  obtain ⟨rfl, rfl⟩ := hcut
  obtain ⟨A1, hA1⟩ : ∃ y, tx (Lib.itoa ((x.se : Nat) : Int)) = y := ⟨_, rfl⟩
  have lA1 := itoa_len bse.1 bse.2
  rw [← tx_size, hA1] at lA1
  have mA1 := ncall ((x.se : Nat) : Int) bse A1 hA1 wc
  obtain ⟨A2, hA2⟩ : ∃ y, tx (Lib.itoa ((x.nu : Nat) : Int)) = y := ⟨_, rfl⟩
  have lA2 := itoa_len bnu.1 bnu.2
  rw [← tx_size, hA2] at lA2
  have mA2 := ncall ((x.nu : Nat) : Int) bnu A2 hA2 wc
  obtain ⟨A3, hA3⟩ : ∃ y, tx (Lib.itoa ((x.sn : Nat) : Int)) = y := ⟨_, rfl⟩
  have lA3 := itoa_len bsn.1 bsn.2
  rw [← tx_size, hA3] at lA3
  have mA3 := ncall ((x.sn : Nat) : Int) bsn A3 hA3 wc
  obtain ⟨A4, hA4⟩ : ∃ y, tx (Lib.itoa x.si) = y := ⟨_, rfl⟩
  have lA4 := itoa_len HW.out.2.2.2.si.1 HW.out.2.2.2.si.2
  rw [← tx_size, hA4] at lA4
  have mA4 := ncall x.si HW.out.2.2.2.si A4 hA4 wc
  obtain ⟨A5, hA5⟩ : ∃ y, tx (Lib.itoa x.la) = y := ⟨_, rfl⟩
  have lA5 := itoa_len HW.out.2.2.2.la.1 HW.out.2.2.2.la.2
  rw [← tx_size, hA5] at lA5
  have mA5 := ncall x.la HW.out.2.2.2.la A5 hA5 wc
  obtain ⟨Y1, p1, t1, z1⟩ := catS HX0.out (show tx [44] = ByteArray.mk #[44] from rfl)
  rw [show (ByteArray.mk #[44]).size = 1 from rfl] at z1
  obtain ⟨Y2, p2, t2, z2⟩ := catS t1 hA1
  obtain ⟨Y3, p3, t3, z3⟩ := catS t2 (show tx [44] = ByteArray.mk #[44] from rfl)
  rw [show (ByteArray.mk #[44]).size = 1 from rfl] at z3
  obtain ⟨Y4, p4, t4, z4⟩ := catS t3 hA2
  obtain ⟨Y5, p5, t5, z5⟩ := catS t4 (show tx [44] = ByteArray.mk #[44] from rfl)
  rw [show (ByteArray.mk #[44]).size = 1 from rfl] at z5
  obtain ⟨Y6, p6, t6, z6⟩ := catS t5 hA3
  obtain ⟨Y7, p7, t7, z7⟩ := catS t6 (show tx [44] = ByteArray.mk #[44] from rfl)
  rw [show (ByteArray.mk #[44]).size = 1 from rfl] at z7
  obtain ⟨Y8, p8, t8, z8⟩ := catS t7 hA4
  obtain ⟨Y9, p9, t9, z9⟩ := catS t8 (show tx [44] = ByteArray.mk #[44] from rfl)
  rw [show (ByteArray.mk #[44]).size = 1 from rfl] at z9
  obtain ⟨Y10, p10, t10, z10⟩ := catS t9 hA5
  have s1 : ¬ 9223372036854775807 < X0.size + 1 := by omega
  have s2 : ¬ 9223372036854775807 < Y1.size + A1.size := by omega
  have s3 : ¬ 9223372036854775807 < Y2.size + 1 := by omega
  have s4 : ¬ 9223372036854775807 < Y3.size + A2.size := by omega
  have s5 : ¬ 9223372036854775807 < Y4.size + 1 := by omega
  have s6 : ¬ 9223372036854775807 < Y5.size + A3.size := by omega
  have s7 : ¬ 9223372036854775807 < Y6.size + 1 := by omega
  have s8 : ¬ 9223372036854775807 < Y7.size + A4.size := by omega
  have s9 : ¬ 9223372036854775807 < Y8.size + 1 := by omega
  have s10 : ¬ 9223372036854775807 < Y9.size + A5.size := by omega
  have e10 : Y10 = X1 := by rw [← t10, ← HX1.out]; rfl
  rw [e10] at p10
  have hS : ∀ wx, Below wc.heap.size wc wx → wx.cell? ⟨w.heap.size, 1, none⟩ = some (.int .u32 (x.se : Nat)) ∧ wx.cell? ⟨w.heap.size, 2, none⟩ = some (.int .u32 (x.nu : Nat)) ∧ wx.cell? ⟨w.heap.size, 3, none⟩ = some (.int .u32 (x.sn : Nat)) ∧ wx.cell? ⟨w.heap.size, 4, none⟩ = some (.int .i64 x.si) ∧ wx.cell? ⟨w.heap.size, 5, none⟩ = some (.int .i64 x.la) := fun wx bx => ⟨cellB c1 bx, cellB c2 bx, cellB c3 bx, cellB c4 bx, cellB c5 bx⟩
  have B0 : Below wc.heap.size wc wc.drew := Below.drew (Below.refl _ _)
  have HSd := hS _ B0
  clear hA1 lA1 hA2 lA2 hA3 lA3 hA4 lA4 hA5 lA5 e10 t1 z1 t2 z2 t3 z3 t4 z4 t5 z5 t6 z6 t7 z7 t8 z8 t9 z9 t10 z10
  go_wp2_with fail
  go_region_held3 (fun wx => wx.cell? ⟨w.heap.size, 1, none⟩ = some (.int .u32 (x.se : Nat)) ∧ wx.cell? ⟨w.heap.size, 2, none⟩ = some (.int .u32 (x.nu : Nat)) ∧ wx.cell? ⟨w.heap.size, 3, none⟩ = some (.int .u32 (x.sn : Nat)) ∧ wx.cell? ⟨w.heap.size, 4, none⟩ = some (.int .i64 x.si) ∧ wx.cell? ⟨w.heap.size, 5, none⟩ = some (.int .i64 x.la)) (first | assumption | exact hS _ (by assumption)) (first
    | (refine step_callS 59 #[.tmp 27] #[3] rfl (by kernel_rfl) #[.int .i64 ((x.se : Nat) : Int)] (by kernel_rfl) (mA1 _ (by assumption)) ?_; rintro y v1 ⟨rfl, b1⟩)
    | (refine step_callS 59 #[.tmp 33] #[3] rfl (by kernel_rfl) #[.int .i64 ((x.nu : Nat) : Int)] (by kernel_rfl) (mA2 _ (by assumption)) ?_; rintro y v2 ⟨rfl, b2⟩)
    | (refine step_callS 59 #[.tmp 39] #[3] rfl (by kernel_rfl) #[.int .i64 ((x.sn : Nat) : Int)] (by kernel_rfl) (mA3 _ (by assumption)) ?_; rintro y v3 ⟨rfl, b3⟩)
    | (refine step_callS 59 #[.tmp 44] #[3] rfl (by kernel_rfl) #[.int .i64 x.si] (by kernel_rfl) (mA4 _ (by assumption)) ?_; rintro y v4 ⟨rfl, b4⟩)
    | (refine step_callS 59 #[.tmp 49] #[3] rfl (by kernel_rfl) #[.int .i64 x.la] (by kernel_rfl) (mA5 _ (by assumption)) ?_; rintro y v5 ⟨rfl, b5⟩)
    | fail)
  have HB4 : Hid (Below wc.heap.size wc v5) := b5
  rename (World.cell? _ _ = _ ∧ _ ∧ _ ∧ _ ∧ _) => hHd
  clear hHd hS HSd B0 b1 b2 b3 b4 b5 mA1 mA2 mA3 mA4 mA5 s1 p1 s2 p2 s3 p3 s4 p4 s5 p5 s6 p6 s7 p7 s8 p8 s9 p9 s10 p10 c0 c1 c2 c3 c4 c5 c6 c7 c8
  have bcc : Hid (Below w.heap.size w v5) := HB2.out.trans ((HB3.out.mono HB2.out.size).trans (HB4.out.mono (Nat.le_trans HB2.out.size HB3.out.size)))
  obtain ⟨c0, c1, c2, c3, c4, c5, c6, c7, c8⟩ := (cel.out v5 (belTS HB4.out HB3.out)).1.cells
  have sa : ¬ 9223372036854775807 < X1.size + 4 := by omega
  obtain ⟨q, hq⟩ : ∃ q, x.rq = q := ⟨_, rfl⟩
  rw [hq] at c6
  have HQ2 : Hid (x.rq = q) := hq
  clear hq
  go_upto_if 53 with fail
  go_cut [4] (fun v wx => v = .string X2 ∧ wx = v5)
  case first =>
    cases q with
    | true =>
      have p3 : X1 ++ ByteArray.mk #[44, 97, 115, 107] = X2 := by
        rw [← HX1.out, ← HX2.out]
        unfold Ed.j2
        rw [HQ2.out, ← tx_app]
        rfl
      go_wp2_with fail
      go_meet
      exact ⟨rfl, rfl⟩
    | false =>
      have p3 : X1 = X2 := by
        rw [← HX1.out, ← HX2.out]
        unfold Ed.j2
        rw [HQ2.out]
        simp
      go_wp2_with fail
      go_meet
      exact ⟨by rw [p3], rfl⟩
  case rest =>
  obtain ⟨rfl, rfl⟩ := hcut
  rcases Bool.eq_false_or_eq_true x.on with ho | ho
  · rw [ho] at c7
    obtain ⟨Hx, hHx⟩ : ∃ y, tx (hx x.l x.b) = y := ⟨_, rfl⟩
    have lx := hx_len x.l x.b
    rw [← tx_size, hHx] at lx
    obtain ⟨Z1, p1, t1, z1⟩ := catS HX2.out (show tx [44, 111, 110, 58] = ByteArray.mk #[44, 111, 110, 58] from rfl)
    obtain ⟨Z2, p2, t2, z2⟩ := catS t1 hHx
    rw [show (ByteArray.mk #[44, 111, 110, 58]).size = 4 from rfl] at z1
    have s1 : ¬ 9223372036854775807 < X2.size + 4 := by omega
    have s2 : ¬ 9223372036854775807 < Z1.size + Hx.size := by omega
    have HF : Hid (tx x.line = Z2) := by
      show tx x.line = Z2
      rw [x.line_eq, ← t2]
      unfold Ed.ow
      rw [ho]
      simp
    have hN := rhex d x.l e x.b wc (cel.out wc (belTS HB4.out HB3.out)).2 hl
    rw [hHx] at hN
    clear ho hHx lx t1 t2 z1 z2
    go_wp2_with fail
    refine hN.mono ?_
    rintro r w9 ⟨rfl, b9⟩
    have H9 : Hid (_) := b9
    clear b9 hN
    go_wp2_with fail
    go_ret
    exact ⟨by rw [HF.out] <;> rfl, bcc.out.trans (H9.out.mono bcc.out.size)⟩
  · rw [ho] at c7
    obtain ⟨Z1, p1, t1, z1⟩ := catS HX2.out (show tx [44, 111, 102, 102] = ByteArray.mk #[44, 111, 102, 102] from rfl)
    have s1 : ¬ 9223372036854775807 < X2.size + 4 := by omega
    have HF : Hid (tx x.line = Z1) := by
      show tx x.line = Z1
      rw [x.line_eq, ← t1]
      unfold Ed.ow
      rw [ho]
      rfl
    clear ho t1 z1
    go_wp2_with fail
    go_ret
    exact ⟨by rw [HF.out] <;> rfl, bcc.out⟩
end Go.Proofs.YtbhbjdmdabkomaaDoor
