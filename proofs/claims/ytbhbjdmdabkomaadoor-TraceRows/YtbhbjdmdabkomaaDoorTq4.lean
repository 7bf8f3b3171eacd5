/- Layer 21: a fact's line: the program's and the document's. (gentq4.py) -/
import Derived.Test.YtbhbjdmdabkomaaDoorTq3
import Derived.Test.YtbhbjdmdabkomaaDoorSmv
import Derived.Deep.CutBlock
namespace Go.Proofs.YtbhbjdmdabkomaaDoor
set_option maxRecDepth 100000
open Go.RowKit Go.Maps
set_option maxRecDepth 100000
set_option maxHeartbeats 2000000 in
theorem tfact (f : Fk) (hf : f.Ok) (d : Option Addr) (e : Nat) (w : World) (hr : Row8 w d f.l e f.b) (hl : f.l ≤ 100000) (L : Lt w) : Calls Tryd.prog 48 #[.agg #[.int .i64 f.k, .int .i64 f.c, .int .i64 f.s, .int .u32 (f.ss : Nat), .int .u32 (f.nn : Nat), .bool f.on, .int .i64 f.cd, .slice d f.l e]] w fun r w' => r = .returned (.string (tx f.line)) ∧ Below w.heap.size w w' := by
  obtain ⟨W, hW⟩ : ∃ W : World, w.alloc (.cells #[.int .i64 f.k, .int .i64 f.c, .int .i64 f.s, .int .u32 (f.ss : Nat), .int .u32 (f.nn : Nat), .bool f.on, .int .i64 f.cd, .slice d f.l e] 91) = W := ⟨_, rfl⟩
  have bW : Below w.heap.size w W := by rw [← hW]; exact belA (Below.refl _ _) _
  have fW : FkW W w.heap.size f d e := by rw [← hW]; exact FkW.new w f d e
  have HW : Hid (_) := And.intro bW (And.intro fW (And.intro (hr.below bW) (And.intro (L.below bW) hf)))
  obtain ⟨X, hX⟩ : ∃ X, tx (fcW f.k) = X := ⟨_, rfl⟩
  obtain ⟨Y, hY⟩ : ∃ X, tx (Lib.itoa f.c) = X := ⟨_, rfl⟩
  obtain ⟨Z, hZ⟩ : ∃ X, tx (siW f.s) = X := ⟨_, rfl⟩
  have h1 : ∀ wx, Below W.heap.size W wx → Calls Tryd.prog 85 #[.int .i64 f.k] wx fun r w' => ∃ v, r = .returned v ∧ (v = .string X ∧ Below W.heap.size W w') := fun wx bx => by
    refine (tfactw f.k wx (HW.out.2.2.2.1.below bx)).mono ?_
    rintro r w' ⟨rfl, rfl⟩
    exact ⟨_, rfl, by rw [hX], bx⟩
  have h2 : ∀ wx, Below W.heap.size W wx → Calls Tryd.prog 51 #[.int .i64 f.c] wx fun r w' => ∃ v, r = .returned v ∧ (v = .string Y ∧ Below W.heap.size W w') := fun wx bx => by
    refine (pitoa f.c HW.out.2.2.2.2.c.1 HW.out.2.2.2.2.c.2 wx (HW.out.2.2.2.1.below bx).p).mono ?_
    rintro r w' ⟨rfl, b⟩
    exact ⟨_, rfl, by rw [hY], belTS b bx⟩
  have h3 : ∀ wx, Below W.heap.size W wx → Calls Tryd.prog 86 #[.int .i64 f.s] wx fun r w' => ∃ v, r = .returned v ∧ (v = .string Z ∧ Below W.heap.size W w') := fun wx bx => by
    refine (tside f.s wx).mono ?_
    rintro r w' ⟨rfl, rfl⟩
    exact ⟨_, rfl, by rw [hZ], bx⟩
  have hS : ∀ wx, Below W.heap.size W wx → wx.cell? ⟨w.heap.size, 0, none⟩ = some (.int .i64 f.k) ∧ wx.cell? ⟨w.heap.size, 1, none⟩ = some (.int .i64 f.c) ∧ wx.cell? ⟨w.heap.size, 2, none⟩ = some (.int .i64 f.s) := fun wx bx => by
    obtain ⟨q0, q1, q2, _⟩ := (HW.out.2.1.below bx).cells
    exact ⟨q0, q1, q2⟩
  have B0 : Below W.heap.size W W.drew := Below.drew (Below.refl _ _)
  have HSd := hS _ B0
  obtain ⟨c0, c1, c2, c3, c4, c5, c6, c7⟩ := fW.cells
  have HX : Hid (_) := And.intro hX (And.intro hY hZ)
  clear bW fW hr L hf hX hY hZ
  go_enter Tryd.func48, Tryd.ntmps48
  go_wp2_with fail
  try rw [hW]
  clear hW
  go_region_held3 (fun wx => wx.cell? ⟨w.heap.size, 0, none⟩ = some (.int .i64 f.k) ∧ wx.cell? ⟨w.heap.size, 1, none⟩ = some (.int .i64 f.c) ∧ wx.cell? ⟨w.heap.size, 2, none⟩ = some (.int .i64 f.s)) (first | assumption | exact hS _ (by assumption) | exact hS _ (belA (by assumption) _)) (first
    | (refine step_callS 85 #[.tmp 5] #[89] rfl (by kernel_rfl) #[.int .i64 f.k] (by kernel_rfl) (h1 _ (by assumption)) ?_; rintro x v1 ⟨rfl, b1⟩)
    | (refine step_callS 51 #[.tmp 8] #[3] rfl (by kernel_rfl) #[.int .i64 f.c] (by kernel_rfl) (h2 _ (by assumption)) ?_; rintro x v2 ⟨rfl, b2⟩)
    | (refine step_callS 86 #[.tmp 11] #[26] rfl (by kernel_rfl) #[.int .i64 f.s] (by kernel_rfl) (h3 _ (by assumption)) ?_; rintro y v3 ⟨rfl, b3⟩)
    | fail)
  have HF : Hid (Wd W (v3.alloc (.cells #[.string X, .string Y, .string Z] 9)) (.slice (some ⟨v3.heap.size, 0, none⟩) 3 3) f.w1) := by
    refine ⟨⟨rfl, .inr ⟨v3.heap.size, 3, _, rfl, b3.size, heap_alloc_new _ _, by simp [Fk.w1], by decide, rfl, ?_⟩⟩, belA b3 _⟩
    rw [← HX.out.1, ← HX.out.2.1, ← HX.out.2.2]
    rfl
  obtain ⟨w9, hw9⟩ : ∃ x, v3.alloc (.cells #[.string X, .string Y, .string Z] 9) = x := ⟨_, rfl⟩
  obtain ⟨g9, hg9⟩ : ∃ x, v3.heap.size = x := ⟨_, rfl⟩
  rw [hw9, hg9] at HF
  try rw [hw9]
  try rw [hg9]
  rename (World.cell? _ _ = _ ∧ _ ∧ _) => hHd
  clear hHd hS HSd h1 h2 h3 B0 b1 b2 b3 hw9 hg9 c0 c1 c2 c3 c4 c5 c6 c7
  obtain ⟨c0, c1, c2, c3, c4, c5, c6, c7⟩ := (HW.out.2.1.below HF.out.bel).cells
  have hT := told f HW.out.2.2.2.2 d e w9 (HW.out.2.2.1.below HF.out.bel) hl (HW.out.2.2.2.1.below HF.out.bel)
  go_wp2_with fail
  refine hT.mono ?_
  rintro r wt ⟨vt, rfl, ht⟩
  clear hT c0 c1 c2 c3 c4 c5 c6 c7
  go_wp2_with (at_builtin; refine wpList_appWs rfl _ _ rfl f.tw HF.out ht.out.1.bel ht.out.1.own ht.out.2 rfl rfl (by simp [Fk.w1]) (by have := f.tw_len; omega) ?_)
  intro va wa ha
  have hLn := Fk.line_len HW.out.2.2.2.2 hl
  have hWs := f.ws_len
  have H9 : Hid (Wd W wa va f.ws) := ha
  obtain ⟨g8, c8, e8⟩ := H9.out.len hWs.2
  rw [e8] at H9 ⊢
  have hJ := pjoin (w := wa) f.ws H9.out.own (by omega) (by show f.line.length ≤ _; omega)
  clear ha HF ht e8 hLn hWs
  obtain ⟨N, hN⟩ : ∃ x, f.ws.length = x := ⟨_, rfl⟩
  rw [hN] at H9 hJ ⊢
  clear hN
  go_wp2_with fail
  refine hJ.mono ?_
  rintro r wj ⟨rfl, bj⟩
  have HJ : Hid (_) := bj
  clear hJ bj
  go_wp2_with fail
  go_ret
  exact ⟨rfl, HW.out.1.trans ((H9.out.bel.mono HW.out.1.size).trans (HJ.out.mono (Nat.le_trans HW.out.1.size H9.out.bel.size)))⟩
/-- The document's names. -/
def fwn : List (List UInt8) := [[63], [115, 101, 110, 116], [116, 97, 107, 101, 110], [115, 101, 115, 115, 105, 111, 110], [102, 114, 101, 115, 104], [116, 105, 99, 107], [97, 99, 107], [114, 101, 115, 101, 116], [111, 117, 116]]
theorem fnm (w : World) (i : Nat) {l : List UInt8} (h : fwn[i]? = some l) : (w.alloc (.cells #[.string (ByteArray.mk #[63]), .string (ByteArray.mk #[115, 101, 110, 116]), .string (ByteArray.mk #[116, 97, 107, 101, 110]), .string (ByteArray.mk #[115, 101, 115, 115, 105, 111, 110]), .string (ByteArray.mk #[102, 114, 101, 115, 104]), .string (ByteArray.mk #[116, 105, 99, 107]), .string (ByteArray.mk #[97, 99, 107]), .string (ByteArray.mk #[114, 101, 115, 101, 116]), .string (ByteArray.mk #[111, 117, 116])] 9)).cell? ⟨w.heap.size, i, none⟩ = some (.string (tx l)) := by
  rw [cell_of_row _ w.heap.size i _ _ _ (heap_alloc_new w (.cells #[.string (ByteArray.mk #[63]), .string (ByteArray.mk #[115, 101, 110, 116]), .string (ByteArray.mk #[116, 97, 107, 101, 110]), .string (ByteArray.mk #[115, 101, 115, 115, 105, 111, 110]), .string (ByteArray.mk #[102, 114, 101, 115, 104]), .string (ByteArray.mk #[116, 105, 99, 107]), .string (ByteArray.mk #[97, 99, 107]), .string (ByteArray.mk #[114, 101, 115, 101, 116]), .string (ByteArray.mk #[111, 117, 116])] 9))]
  have e : (#[.string (ByteArray.mk #[63]), .string (ByteArray.mk #[115, 101, 110, 116]), .string (ByteArray.mk #[116, 97, 107, 101, 110]), .string (ByteArray.mk #[115, 101, 115, 115, 105, 111, 110]), .string (ByteArray.mk #[102, 114, 101, 115, 104]), .string (ByteArray.mk #[116, 105, 99, 107]), .string (ByteArray.mk #[97, 99, 107]), .string (ByteArray.mk #[114, 101, 115, 101, 116]), .string (ByteArray.mk #[111, 117, 116])] : Array Value) = (fwn.map fun l => .string (tx l)).toArray := rfl
  rw [e, List.getElem?_toArray, List.getElem?_map, h]
  rfl
theorem fwn_get {k : Int} (h : 1 ≤ k ∧ k ≤ 8) : fwn[k.toNat]? = some (fcW k) := by
  unfold fcW
  rw [if_pos h]
  obtain ⟨j, rfl⟩ : ∃ j : Nat, k = ((j : Nat) : Int) := ⟨k.toNat, by omega⟩
  rw [Int.toNat_natCast]
  have : j = 1 ∨ j = 2 ∨ j = 3 ∨ j = 4 ∨ j = 5 ∨ j = 6 ∨ j = 7 ∨ j = 8 := by omega
  rcases this with rfl | rfl | rfl | rfl | rfl | rfl | rfl | rfl <;> rfl
/-- The line's beginning, and its end. -/
def Fk.j1 (f : Fk) : List UInt8 := fcW f.k ++ [32] ++ Lib.itoa f.c
def Fk.j2 (f : Fk) : List UInt8 := f.j1 ++ (32 :: siW f.s)
theorem Fk.line_eq (f : Fk) : f.line = f.j2 ++ (f.tw.map fun l => 32 :: l).flatten := by
  unfold Fk.line Fk.ws Fk.w1
  have hj : ∀ (t : List (List UInt8)) (a : List UInt8), Lib.join (a :: t) [32] = a ++ (t.map fun l => 32 :: l).flatten := by
    intro t
    induction t with
    | nil => intro a; simp [Lib.join, List.intercalate]
    | cons b t ih =>
      intro a
      have e : Lib.join (a :: b :: t) [32] = a ++ [32] ++ Lib.join (b :: t) [32] := by simp [Lib.join, List.intercalate]
      rw [e, ih]
      simp
  show Lib.join (fcW f.k :: ([Lib.itoa f.c, siW f.s] ++ f.tw)) [32] = _
  rw [hj]
  simp [Fk.j2, Fk.j1]
theorem Fk.j1_len {f : Fk} (h : f.Ok) : f.j1.length ≤ 28 := by
  have h1 := fcW_len f.k
  have h2 := itoa_len h.c.1 h.c.2
  unfold Fk.j1
  simp only [List.length_append, List.length_cons, List.length_nil]
  omega
theorem Fk.j2_len {f : Fk} (h : f.Ok) : f.j2.length ≤ 30 := by
  have h1 := Fk.j1_len h
  have h2 := siW_len f.s
  unfold Fk.j2
  simp only [List.length_append, List.length_cons]
  omega
set_option maxHeartbeats 2000000 in
theorem rfact (f : Fk) (hf : f.Ok) (d : Option Addr) (e : Nat) (w : World) (hr : Row8 w d f.l e f.b) (hl : f.l ≤ 100000) : Calls Tryd.prog 49 #[.agg #[.int .i64 f.k, .int .i64 f.c, .int .i64 f.s, .int .u32 (f.ss : Nat), .int .u32 (f.nn : Nat), .bool f.on, .int .i64 f.cd, .slice d f.l e]] w fun r w' => r = .returned (.string (tx f.line)) ∧ Below w.heap.size w w' := by
  obtain ⟨W, hW⟩ : ∃ W : World, w.alloc (.cells #[.int .i64 f.k, .int .i64 f.c, .int .i64 f.s, .int .u32 (f.ss : Nat), .int .u32 (f.nn : Nat), .bool f.on, .int .i64 f.cd, .slice d f.l e] 91) = W := ⟨_, rfl⟩
  have bW : Below w.heap.size w W := by rw [← hW]; exact belA (Below.refl _ _) _
  have fW : FkW W w.heap.size f d e := by rw [← hW]; exact FkW.new w f d e
  have HW : Hid (_) := And.intro bW (And.intro fW (And.intro (hr.below bW) hf))
  obtain ⟨W2, hW2⟩ : ∃ x, W.alloc (.cells #[.string (ByteArray.mk #[63]), .string (ByteArray.mk #[115, 101, 110, 116]), .string (ByteArray.mk #[116, 97, 107, 101, 110]), .string (ByteArray.mk #[115, 101, 115, 115, 105, 111, 110]), .string (ByteArray.mk #[102, 114, 101, 115, 104]), .string (ByteArray.mk #[116, 105, 99, 107]), .string (ByteArray.mk #[97, 99, 107]), .string (ByteArray.mk #[114, 101, 115, 101, 116]), .string (ByteArray.mk #[111, 117, 116])] 9) = x := ⟨_, rfl⟩
  obtain ⟨g, hg⟩ : ∃ x, W.heap.size = x := ⟨_, rfl⟩
  have b2 : Below W.heap.size W W2 := by rw [← hW2]; exact belA (Below.refl _ _) _
  have HN : Hid (∀ i l, fwn[i]? = some l → W2.cell? ⟨g, i, none⟩ = some (.string (tx l))) := fun i l h => by rw [← hW2, ← hg]; exact fnm W i h
  have cel : Hid (∀ wx, Below W2.heap.size W2 wx → FkW wx w.heap.size f d e ∧ Row8 wx d f.l e f.b) := fun wx bx => ⟨HW.out.2.1.below (belTS bx b2), HW.out.2.2.1.below (belTS bx b2)⟩
  have HB2 : Hid (Below w.heap.size w W2) := HW.out.1.trans (b2.mono HW.out.1.size)
  have bss : -9223372036854775808 ≤ ((f.ss : Nat) : Int) ∧ ((f.ss : Nat) : Int) ≤ 9223372036854775807 := by have := hf.ss; omega
  have bnn : -9223372036854775808 ≤ ((f.nn : Nat) : Int) ∧ ((f.nn : Nat) : Int) ≤ 9223372036854775807 := by have := hf.nn; omega
  have wss : IntKind.i64.wrap ((f.ss : Nat) : Int) = ((f.ss : Nat) : Int) := by have := hf.ss; rw [IntKind.wrap_i64]; omega
  have wnn : IntKind.i64.wrap ((f.nn : Nat) : Int) = ((f.nn : Nat) : Int) := by have := hf.nn; rw [IntKind.wrap_i64]; omega
  obtain ⟨X0, hX0⟩ : ∃ x, tx (fcW f.k) = x := ⟨_, rfl⟩
  obtain ⟨A0, hA0⟩ : ∃ x, tx (Lib.itoa f.c) = x := ⟨_, rfl⟩
  obtain ⟨X2, hX2⟩ : ∃ x, tx f.j1 = x := ⟨_, rfl⟩
  obtain ⟨X3, hX3⟩ : ∃ x, tx f.j2 = x := ⟨_, rfl⟩
  have HX0 : Hid (_) := hX0
  have HX2 : Hid (_) := hX2
  have HX3 : Hid (_) := hX3
  have L2 : X2.size ≤ 28 := by rw [← hX2, tx_size]; exact Fk.j1_len hf
  have L3 : X3.size ≤ 30 := by rw [← hX3, tx_size]; exact Fk.j2_len hf
  have l0 : X0.size ≤ 7 := by rw [← hX0, tx_size]; exact fcW_len f.k
  have lA : A0.size ≤ 20 := by rw [← hA0, tx_size]; exact itoa_len hf.c.1 hf.c.2
  obtain ⟨Y1, p1, t1, z1⟩ := catS hX0 (show tx [32] = ByteArray.mk #[32] from rfl)
  rw [show (ByteArray.mk #[32]).size = 1 from rfl] at z1
  have p2 : Y1 ++ A0 = X2 := by rw [← hX2, ← t1, ← hA0, tx_app]; rfl
  have s1 : ¬ 9223372036854775807 < X0.size + 1 := by omega
  have s2 : ¬ 9223372036854775807 < Y1.size + A0.size := by omega
  have hN0 := ncall f.c hf.c A0 hA0
  obtain ⟨c0, c1, c2, c3, c4, c5, c6, c7⟩ := (cel.out W2 (Below.refl _ _)).1.cells
  clear bW fW hr hf b2 hX0 hA0 hX2 hX3 t1 z1 l0 lA
  go_enter Tryd.func49, Tryd.ntmps49
  obtain ⟨IN, hIN⟩ : ∃ x, decide (1 ≤ f.k ∧ f.k ≤ 8) = x := ⟨_, rfl⟩
  have HIN : Hid (_) := hIN
  clear hIN
  go_upto_region 3 with fail
  try rw [hW]
  try rw [hW2]
  try rw [hg]
  clear hW hW2 hg
  go_cut [13] (fun v wx => v = .bool IN ∧ wx = W2)
  case first =>
    by_cases h1 : 1 ≤ f.k
    · by_cases h8 : f.k ≤ 8
      · have e : IN = true := by rw [← HIN.out]; simp [h1, h8]
        go_wp2_with fail
        go_meet
        exact ⟨by rw [e], rfl⟩
      · have e : IN = false := by rw [← HIN.out]; simp [h8]
        go_wp2_with fail
        go_meet
        exact ⟨by rw [e], rfl⟩
    · have e : IN = false := by rw [← HIN.out]; simp [h1]
      go_wp2_with fail
      go_meet
      exact ⟨by rw [e], rfl⟩
  case rest =>
  obtain ⟨rfl, rfl⟩ := hcut
  go_upto_if 13 with fail
  go_cut [4] (fun v wx => v = .string X0 ∧ wx = wc)
  case first =>
    by_cases hk : 1 ≤ f.k ∧ f.k ≤ 8
    · obtain ⟨kk, hkk⟩ : ∃ kk : Nat, f.k = ((kk : Nat) : Int) := ⟨f.k.toNat, by omega⟩
      have g0 := HN.out kk _ (by have := fwn_get hk; rw [hkk, Int.toNat_natCast] at this; exact this)
      rw [← hkk, HX0.out] at g0
      rw [hkk] at c0
      have e : IN = true := by rw [← HIN.out]; exact decide_eq_true hk
      rw [e]
      have hk0 : (0 : Int) ≤ ((kk : Nat) : Int) := by omega
      have hk9' : ((kk : Nat) : Int) < 9 := by omega
      clear hk hkk e
      go_wp2_with fail
      go_meet
      exact ⟨rfl, rfl⟩
    · have e0 : X0 = ByteArray.mk #[63] := by
        rw [← HX0.out]
        unfold fcW
        rw [if_neg hk]
        rfl
      have e : IN = false := by rw [← HIN.out]; exact decide_eq_false hk
      rw [e]
      clear hk e
      go_wp2_with fail
      go_meet
      exact ⟨by rw [e0], rfl⟩
  case rest =>
    obtain ⟨rfl, rfl⟩ := hcut
    go_wp2_with fail
    refine (hN0 wc wc (Below.refl _ _)).mono ?_
    rintro r v1 ⟨_, rfl, rfl, b1⟩
    have HB3 : Hid (Below wc.heap.size wc v1) := b1
    clear hN0 p1 s1 c0 c1 c2 c3 c4 c5 c6 c7 b1 HN
    obtain ⟨c0, c1, c2, c3, c4, c5, c6, c7⟩ := (cel.out v1 HB3.out).1.cells
    have s3 : ¬ 9223372036854775807 < X2.size + 2 := by omega
    go_upto_block 0 with fail
    clear p2 s2
    go_cut [4] (fun v wx => v = .string X3 ∧ wx = v1)
    case first =>
      by_cases hs1 : f.s = 1
      · have p3 : X2 ++ ByteArray.mk #[32, 104] = X3 := by
          rw [← HX2.out, ← HX3.out]
          unfold Fk.j2 siW
          rw [if_pos hs1, ← tx_app]
          rfl
        have g1 : (f.s == 1) = true := by simpa using hs1
        clear hs1
        go_wp2_with fail
        go_meet
        exact ⟨rfl, rfl⟩
      · have g1 : (f.s == 1) = false := by simpa using hs1
        by_cases hs2 : f.s = 2
        · have p3 : X2 ++ ByteArray.mk #[32, 100] = X3 := by
            rw [← HX2.out, ← HX3.out]
            unfold Fk.j2 siW
            rw [if_neg hs1, if_pos hs2, ← tx_app]
            rfl
          have g2 : (f.s == 2) = true := by simpa using hs2
          clear hs1 hs2
          go_wp2_with fail
          go_meet
          exact ⟨rfl, rfl⟩
        · have g2 : (f.s == 2) = false := by simpa using hs2
          have p3 : X2 ++ ByteArray.mk #[32, 63] = X3 := by
            rw [← HX2.out, ← HX3.out]
            unfold Fk.j2 siW
            rw [if_neg hs1, if_neg hs2, ← tx_app]
            rfl
          clear hs1 hs2
          go_wp2_with fail
          go_meet
          exact ⟨rfl, rfl⟩
    case rest =>
      obtain ⟨rfl, rfl⟩ := hcut
      have HB4 : Hid (Below w.heap.size w wc) := HB2.out.trans (HB3.out.mono HB2.out.size)
      by_cases k12 : f.k = 1 ∨ f.k = 2
      · have HTw : Hid (f.tw = [Lib.itoa ((f.ss : Nat) : Int), Lib.itoa ((f.nn : Nat) : Int), 120 :: hx f.l f.b]) := by
          show f.tw = _
          unfold Fk.tw
          rw [if_pos k12]
        rcases k12 with hk | hk
        · rw [hk] at c0
          clear hk
          obtain ⟨A1, hA1⟩ : ∃ x, tx (Lib.itoa ((f.ss : Nat) : Int)) = x := ⟨_, rfl⟩
          have lA1 := itoa_len bss.1 bss.2
          rw [← tx_size, hA1] at lA1
          have mA1 := ncall ((f.ss : Nat) : Int) bss A1 hA1 wc
          obtain ⟨A2, hA2⟩ : ∃ x, tx (Lib.itoa ((f.nn : Nat) : Int)) = x := ⟨_, rfl⟩
          have lA2 := itoa_len bnn.1 bnn.2
          rw [← tx_size, hA2] at lA2
          have mA2 := ncall ((f.nn : Nat) : Int) bnn A2 hA2 wc
          obtain ⟨Hx, hHx⟩ : ∃ x, tx (hx f.l f.b) = x := ⟨_, rfl⟩
          have lHx := hx_len f.l f.b
          rw [← tx_size, hHx] at lHx
          have mHx : ∀ wx, Below wc.heap.size wc wx → Calls Tryd.prog 61 #[.slice d f.l e] wx fun r w' => ∃ v, r = .returned v ∧ (v = .string Hx ∧ Below wc.heap.size wc w') := fun wx bx => by
            refine (rhex d f.l e f.b wx (cel.out wx (belTS bx HB3.out)).2 hl).mono ?_
            rintro r w' ⟨rfl, b⟩
            exact ⟨_, rfl, by rw [hHx], belTS b bx⟩
          obtain ⟨Y1, p1, t1, z1⟩ := catS HX3.out (show tx [32] = ByteArray.mk #[32] from rfl)
          rw [show (ByteArray.mk #[32]).size = 1 from rfl] at z1
          obtain ⟨Y2, p2, t2, z2⟩ := catS t1 hA1
          obtain ⟨Y3, p3, t3, z3⟩ := catS t2 (show tx [32] = ByteArray.mk #[32] from rfl)
          rw [show (ByteArray.mk #[32]).size = 1 from rfl] at z3
          obtain ⟨Y4, p4, t4, z4⟩ := catS t3 hA2
          obtain ⟨Y5, p5, t5, z5⟩ := catS t4 (show tx [32, 120] = ByteArray.mk #[32, 120] from rfl)
          rw [show (ByteArray.mk #[32, 120]).size = 2 from rfl] at z5
          obtain ⟨Y6, p6, t6, z6⟩ := catS t5 hHx
          have s1 : ¬ 9223372036854775807 < X3.size + 1 := by omega
          have s2 : ¬ 9223372036854775807 < Y1.size + A1.size := by omega
          have s3 : ¬ 9223372036854775807 < Y2.size + 1 := by omega
          have s4 : ¬ 9223372036854775807 < Y3.size + A2.size := by omega
          have s5 : ¬ 9223372036854775807 < Y4.size + 2 := by omega
          have s6 : ¬ 9223372036854775807 < Y5.size + Hx.size := by omega
          have HF : Hid (tx f.line = Y6) := by
            show tx f.line = Y6
            rw [f.line_eq, HTw.out, ← t6]
            simp
          have hS : ∀ wx, Below wc.heap.size wc wx → wx.cell? ⟨w.heap.size, 3, none⟩ = some (.int .u32 (f.ss : Nat)) ∧ wx.cell? ⟨w.heap.size, 4, none⟩ = some (.int .u32 (f.nn : Nat)) ∧ wx.cell? ⟨w.heap.size, 7, none⟩ = some (.slice d f.l e) := fun wx bx => ⟨cellB c3 bx, cellB c4 bx, cellB c7 bx⟩
          have B0 : Below wc.heap.size wc wc.drew := Below.drew (Below.refl _ _)
          have HSd := hS _ B0
          clear hA1 hA2 hHx lA1 lA2 lHx t1 z1 t2 z2 t3 z3 t4 z4 t5 z5 t6 z6
          go_wp2_with fail
          go_region_held3 (fun wx => wx.cell? ⟨w.heap.size, 3, none⟩ = some (.int .u32 (f.ss : Nat)) ∧ wx.cell? ⟨w.heap.size, 4, none⟩ = some (.int .u32 (f.nn : Nat)) ∧ wx.cell? ⟨w.heap.size, 7, none⟩ = some (.slice d f.l e)) (first | assumption | exact hS _ (by assumption)) (first
            | (refine step_callS 59 #[.tmp 46] #[3] rfl (by kernel_rfl) #[.int .i64 ((f.ss : Nat) : Int)] (by kernel_rfl) (mA1 _ (by assumption)) ?_; rintro x v1 ⟨rfl, b1⟩)
            | (refine step_callS 59 #[.tmp 52] #[3] rfl (by kernel_rfl) #[.int .i64 ((f.nn : Nat) : Int)] (by kernel_rfl) (mA2 _ (by assumption)) ?_; rintro x v2 ⟨rfl, b2⟩)
            | (refine step_callS 61 #[.tmp 57] #[27] rfl (by kernel_rfl) #[.slice d f.l e] (by kernel_rfl) (mHx _ (by assumption)) ?_; rintro x v3 ⟨rfl, b3⟩)
            | fail)
          have H9 : Hid (Below wc.heap.size wc v3) := b3
          clear mA1 mA2 mHx hS HSd b1 b2 b3 B0
          go_wp2_with fail
          go_ret
          exact ⟨by rw [HF.out] <;> rfl, HB4.out.trans (H9.out.mono HB4.out.size)⟩
        · rw [hk] at c0
          clear hk
          obtain ⟨A1, hA1⟩ : ∃ x, tx (Lib.itoa ((f.ss : Nat) : Int)) = x := ⟨_, rfl⟩
          have lA1 := itoa_len bss.1 bss.2
          rw [← tx_size, hA1] at lA1
          have mA1 := ncall ((f.ss : Nat) : Int) bss A1 hA1 wc
          obtain ⟨A2, hA2⟩ : ∃ x, tx (Lib.itoa ((f.nn : Nat) : Int)) = x := ⟨_, rfl⟩
          have lA2 := itoa_len bnn.1 bnn.2
          rw [← tx_size, hA2] at lA2
          have mA2 := ncall ((f.nn : Nat) : Int) bnn A2 hA2 wc
          obtain ⟨Hx, hHx⟩ : ∃ x, tx (hx f.l f.b) = x := ⟨_, rfl⟩
          have lHx := hx_len f.l f.b
          rw [← tx_size, hHx] at lHx
          have mHx : ∀ wx, Below wc.heap.size wc wx → Calls Tryd.prog 61 #[.slice d f.l e] wx fun r w' => ∃ v, r = .returned v ∧ (v = .string Hx ∧ Below wc.heap.size wc w') := fun wx bx => by
            refine (rhex d f.l e f.b wx (cel.out wx (belTS bx HB3.out)).2 hl).mono ?_
            rintro r w' ⟨rfl, b⟩
            exact ⟨_, rfl, by rw [hHx], belTS b bx⟩
          obtain ⟨Y1, p1, t1, z1⟩ := catS HX3.out (show tx [32] = ByteArray.mk #[32] from rfl)
          rw [show (ByteArray.mk #[32]).size = 1 from rfl] at z1
          obtain ⟨Y2, p2, t2, z2⟩ := catS t1 hA1
          obtain ⟨Y3, p3, t3, z3⟩ := catS t2 (show tx [32] = ByteArray.mk #[32] from rfl)
          rw [show (ByteArray.mk #[32]).size = 1 from rfl] at z3
          obtain ⟨Y4, p4, t4, z4⟩ := catS t3 hA2
          obtain ⟨Y5, p5, t5, z5⟩ := catS t4 (show tx [32, 120] = ByteArray.mk #[32, 120] from rfl)
          rw [show (ByteArray.mk #[32, 120]).size = 2 from rfl] at z5
          obtain ⟨Y6, p6, t6, z6⟩ := catS t5 hHx
          have s1 : ¬ 9223372036854775807 < X3.size + 1 := by omega
          have s2 : ¬ 9223372036854775807 < Y1.size + A1.size := by omega
          have s3 : ¬ 9223372036854775807 < Y2.size + 1 := by omega
          have s4 : ¬ 9223372036854775807 < Y3.size + A2.size := by omega
          have s5 : ¬ 9223372036854775807 < Y4.size + 2 := by omega
          have s6 : ¬ 9223372036854775807 < Y5.size + Hx.size := by omega
          have HF : Hid (tx f.line = Y6) := by
            show tx f.line = Y6
            rw [f.line_eq, HTw.out, ← t6]
            simp
          have hS : ∀ wx, Below wc.heap.size wc wx → wx.cell? ⟨w.heap.size, 3, none⟩ = some (.int .u32 (f.ss : Nat)) ∧ wx.cell? ⟨w.heap.size, 4, none⟩ = some (.int .u32 (f.nn : Nat)) ∧ wx.cell? ⟨w.heap.size, 7, none⟩ = some (.slice d f.l e) := fun wx bx => ⟨cellB c3 bx, cellB c4 bx, cellB c7 bx⟩
          have B0 : Below wc.heap.size wc wc.drew := Below.drew (Below.refl _ _)
          have HSd := hS _ B0
          clear hA1 hA2 hHx lA1 lA2 lHx t1 z1 t2 z2 t3 z3 t4 z4 t5 z5 t6 z6
          go_wp2_with fail
          go_region_held3 (fun wx => wx.cell? ⟨w.heap.size, 3, none⟩ = some (.int .u32 (f.ss : Nat)) ∧ wx.cell? ⟨w.heap.size, 4, none⟩ = some (.int .u32 (f.nn : Nat)) ∧ wx.cell? ⟨w.heap.size, 7, none⟩ = some (.slice d f.l e)) (first | assumption | exact hS _ (by assumption)) (first
            | (refine step_callS 59 #[.tmp 46] #[3] rfl (by kernel_rfl) #[.int .i64 ((f.ss : Nat) : Int)] (by kernel_rfl) (mA1 _ (by assumption)) ?_; rintro x v1 ⟨rfl, b1⟩)
            | (refine step_callS 59 #[.tmp 52] #[3] rfl (by kernel_rfl) #[.int .i64 ((f.nn : Nat) : Int)] (by kernel_rfl) (mA2 _ (by assumption)) ?_; rintro x v2 ⟨rfl, b2⟩)
            | (refine step_callS 61 #[.tmp 57] #[27] rfl (by kernel_rfl) #[.slice d f.l e] (by kernel_rfl) (mHx _ (by assumption)) ?_; rintro x v3 ⟨rfl, b3⟩)
            | fail)
          have H9 : Hid (Below wc.heap.size wc v3) := b3
          clear mA1 mA2 mHx hS HSd b1 b2 b3 B0
          go_wp2_with fail
          go_ret
          exact ⟨by rw [HF.out] <;> rfl, HB4.out.trans (H9.out.mono HB4.out.size)⟩
      · have n1 : (f.k == 1) = false := by simpa using fun h => k12 (.inl h)
        have n2 : (f.k == 2) = false := by simpa using fun h => k12 (.inr h)
        by_cases k3 : f.k = 3
        · have HTw : Hid (f.tw = [Lib.itoa ((f.ss : Nat) : Int)]) := by
            show f.tw = _
            unfold Fk.tw
            rw [if_neg k12, if_pos k3]
          rw [k3] at c0
          clear k12 n1 n2 k3
          obtain ⟨A1, hA1⟩ : ∃ x, tx (Lib.itoa ((f.ss : Nat) : Int)) = x := ⟨_, rfl⟩
          have lA1 := itoa_len bss.1 bss.2
          rw [← tx_size, hA1] at lA1
          have mA1 := ncall ((f.ss : Nat) : Int) bss A1 hA1 wc
          obtain ⟨Y1, p1, t1, z1⟩ := catS HX3.out (show tx [32] = ByteArray.mk #[32] from rfl)
          rw [show (ByteArray.mk #[32]).size = 1 from rfl] at z1
          obtain ⟨Y2, p2, t2, z2⟩ := catS t1 hA1
          have s1 : ¬ 9223372036854775807 < X3.size + 1 := by omega
          have s2 : ¬ 9223372036854775807 < Y1.size + A1.size := by omega
          have HF : Hid (tx f.line = Y2) := by
            show tx f.line = Y2
            rw [f.line_eq, HTw.out, ← t2]
            simp
          have hN := mA1 wc (Below.refl _ _)
          clear mA1 hA1 lA1 t1 z1 t2 z2
          go_wp2_with fail
          refine hN.mono ?_
          rintro r w9 ⟨_, rfl, rfl, b9⟩
          have H9 : Hid (_) := b9
          clear b9 hN
          go_wp2_with fail
          go_ret
          exact ⟨by rw [HF.out] <;> rfl, HB4.out.trans (H9.out.mono HB4.out.size)⟩
        · have n3 : (f.k == 3) = false := by simpa using k3
          by_cases k5 : f.k = 5
          · have HTw : Hid (f.tw = [Lib.itoa ((f.nn : Nat) : Int)]) := by
              show f.tw = _
              unfold Fk.tw
              rw [if_neg k12, if_neg k3, if_pos k5]
            rw [k5] at c0
            clear k12 n1 n2 k3 n3 k5
            obtain ⟨A1, hA1⟩ : ∃ x, tx (Lib.itoa ((f.nn : Nat) : Int)) = x := ⟨_, rfl⟩
            have lA1 := itoa_len bnn.1 bnn.2
            rw [← tx_size, hA1] at lA1
            have mA1 := ncall ((f.nn : Nat) : Int) bnn A1 hA1 wc
            obtain ⟨Y1, p1, t1, z1⟩ := catS HX3.out (show tx [32] = ByteArray.mk #[32] from rfl)
            rw [show (ByteArray.mk #[32]).size = 1 from rfl] at z1
            obtain ⟨Y2, p2, t2, z2⟩ := catS t1 hA1
            have s1 : ¬ 9223372036854775807 < X3.size + 1 := by omega
            have s2 : ¬ 9223372036854775807 < Y1.size + A1.size := by omega
            have HF : Hid (tx f.line = Y2) := by
              show tx f.line = Y2
              rw [f.line_eq, HTw.out, ← t2]
              simp
            have hN := mA1 wc (Below.refl _ _)
            clear mA1 hA1 lA1 t1 z1 t2 z2
            go_wp2_with fail
            refine hN.mono ?_
            rintro r w9 ⟨_, rfl, rfl, b9⟩
            have H9 : Hid (_) := b9
            clear b9 hN
            go_wp2_with fail
            go_ret
            exact ⟨by rw [HF.out] <;> rfl, HB4.out.trans (H9.out.mono HB4.out.size)⟩
          · have n5 : (f.k == 5) = false := by simpa using k5
            by_cases k8 : f.k = 8
            · have HTw : Hid (f.tw = [onW f.on, Lib.itoa f.cd, 120 :: hx f.l f.b]) := by
                show f.tw = _
                unfold Fk.tw
                rw [if_neg k12, if_neg k3, if_neg k5, if_pos k8]
              rw [k8] at c0
              clear k12 n1 n2 k3 n3 k5 n5 k8
              obtain ⟨A1, hA1⟩ : ∃ x, tx (Lib.itoa f.cd) = x := ⟨_, rfl⟩
              have lA1 := itoa_len HW.out.2.2.2.cd.1 HW.out.2.2.2.cd.2
              rw [← tx_size, hA1] at lA1
              have mA1 := ncall f.cd HW.out.2.2.2.cd A1 hA1 wc
              obtain ⟨Hx, hHx⟩ : ∃ x, tx (hx f.l f.b) = x := ⟨_, rfl⟩
              have lHx := hx_len f.l f.b
              rw [← tx_size, hHx] at lHx
              have mHx : ∀ wx, Below wc.heap.size wc wx → Calls Tryd.prog 61 #[.slice d f.l e] wx fun r w' => ∃ v, r = .returned v ∧ (v = .string Hx ∧ Below wc.heap.size wc w') := fun wx bx => by
                refine (rhex d f.l e f.b wx (cel.out wx (belTS bx HB3.out)).2 hl).mono ?_
                rintro r w' ⟨rfl, b⟩
                exact ⟨_, rfl, by rw [hHx], belTS b bx⟩
              rcases Bool.eq_false_or_eq_true f.on with hh | hh
              · rw [hh] at c5
                obtain ⟨Y1, p1, t1, z1⟩ := catS HX3.out (show tx [32, 111, 110, 32] = ByteArray.mk #[32, 111, 110, 32] from rfl)
                rw [show (ByteArray.mk #[32, 111, 110, 32]).size = 4 from rfl] at z1
                obtain ⟨Y2, p2, t2, z2⟩ := catS t1 hA1
                obtain ⟨Y3, p3, t3, z3⟩ := catS t2 (show tx [32, 120] = ByteArray.mk #[32, 120] from rfl)
                rw [show (ByteArray.mk #[32, 120]).size = 2 from rfl] at z3
                obtain ⟨Y4, p4, t4, z4⟩ := catS t3 hHx
                have s1 : ¬ 9223372036854775807 < X3.size + 4 := by omega
                have s2 : ¬ 9223372036854775807 < Y1.size + A1.size := by omega
                have s3 : ¬ 9223372036854775807 < Y2.size + 2 := by omega
                have s4 : ¬ 9223372036854775807 < Y3.size + Hx.size := by omega
                have HF : Hid (tx f.line = Y4) := by
                  show tx f.line = Y4
                  rw [f.line_eq, HTw.out, ← t4, hh]
                  simp [onW]
                have hS : ∀ wx, Below wc.heap.size wc wx → wx.cell? ⟨w.heap.size, 6, none⟩ = some (.int .i64 f.cd) ∧ wx.cell? ⟨w.heap.size, 7, none⟩ = some (.slice d f.l e) := fun wx bx => ⟨cellB c6 bx, cellB c7 bx⟩
                have B0 : Below wc.heap.size wc wc.drew := Below.drew (Below.refl _ _)
                have HSd := hS _ B0
                clear hh hA1 hHx lA1 lHx t1 z1 t2 z2 t3 z3 t4 z4
                go_wp2_with fail
                go_region_held3 (fun wx => wx.cell? ⟨w.heap.size, 6, none⟩ = some (.int .i64 f.cd) ∧ wx.cell? ⟨w.heap.size, 7, none⟩ = some (.slice d f.l e)) (first | assumption | exact hS _ (by assumption)) (first
                  | (refine step_callS 59 #[.tmp 88] #[3] rfl (by kernel_rfl) #[.int .i64 f.cd] (by kernel_rfl) (mA1 _ (by assumption)) ?_; rintro x v1 ⟨rfl, b1⟩)
                  | (refine step_callS 61 #[.tmp 93] #[27] rfl (by kernel_rfl) #[.slice d f.l e] (by kernel_rfl) (mHx _ (by assumption)) ?_; rintro x v3 ⟨rfl, b3⟩)
                  | fail)
                have H9 : Hid (Below wc.heap.size wc v3) := b3
                clear mA1 mHx hS HSd b1 b3 B0
                go_wp2_with fail
                go_ret
                exact ⟨by rw [HF.out] <;> rfl, HB4.out.trans (H9.out.mono HB4.out.size)⟩
              · rw [hh] at c5
                obtain ⟨Y1, p1, t1, z1⟩ := catS HX3.out (show tx [32, 111, 102, 102, 32] = ByteArray.mk #[32, 111, 102, 102, 32] from rfl)
                rw [show (ByteArray.mk #[32, 111, 102, 102, 32]).size = 5 from rfl] at z1
                obtain ⟨Y2, p2, t2, z2⟩ := catS t1 hA1
                obtain ⟨Y3, p3, t3, z3⟩ := catS t2 (show tx [32, 120] = ByteArray.mk #[32, 120] from rfl)
                rw [show (ByteArray.mk #[32, 120]).size = 2 from rfl] at z3
                obtain ⟨Y4, p4, t4, z4⟩ := catS t3 hHx
                have s1 : ¬ 9223372036854775807 < X3.size + 5 := by omega
                have s2 : ¬ 9223372036854775807 < Y1.size + A1.size := by omega
                have s3 : ¬ 9223372036854775807 < Y2.size + 2 := by omega
                have s4 : ¬ 9223372036854775807 < Y3.size + Hx.size := by omega
                have HF : Hid (tx f.line = Y4) := by
                  show tx f.line = Y4
                  rw [f.line_eq, HTw.out, ← t4, hh]
                  simp [onW]
                have hS : ∀ wx, Below wc.heap.size wc wx → wx.cell? ⟨w.heap.size, 6, none⟩ = some (.int .i64 f.cd) ∧ wx.cell? ⟨w.heap.size, 7, none⟩ = some (.slice d f.l e) := fun wx bx => ⟨cellB c6 bx, cellB c7 bx⟩
                have B0 : Below wc.heap.size wc wc.drew := Below.drew (Below.refl _ _)
                have HSd := hS _ B0
                clear hh hA1 hHx lA1 lHx t1 z1 t2 z2 t3 z3 t4 z4
                go_wp2_with fail
                go_region_held3 (fun wx => wx.cell? ⟨w.heap.size, 6, none⟩ = some (.int .i64 f.cd) ∧ wx.cell? ⟨w.heap.size, 7, none⟩ = some (.slice d f.l e)) (first | assumption | exact hS _ (by assumption)) (first
                  | (refine step_callS 59 #[.tmp 88] #[3] rfl (by kernel_rfl) #[.int .i64 f.cd] (by kernel_rfl) (mA1 _ (by assumption)) ?_; rintro x v1 ⟨rfl, b1⟩)
                  | (refine step_callS 61 #[.tmp 93] #[27] rfl (by kernel_rfl) #[.slice d f.l e] (by kernel_rfl) (mHx _ (by assumption)) ?_; rintro x v3 ⟨rfl, b3⟩)
                  | fail)
                have H9 : Hid (Below wc.heap.size wc v3) := b3
                clear mA1 mHx hS HSd b1 b3 B0
                go_wp2_with fail
                go_ret
                exact ⟨by rw [HF.out] <;> rfl, HB4.out.trans (H9.out.mono HB4.out.size)⟩
            · have n8 : (f.k == 8) = false := by simpa using k8
              have HF : Hid (tx f.line = X3) := by
                show tx f.line = X3
                rw [f.line_eq, ← HX3.out]
                unfold Fk.tw
                rw [if_neg k12, if_neg k3, if_neg k5, if_neg k8]
                simp
              clear k12 k3 k5 k8
              go_wp2_with fail
              go_ret
              exact ⟨by rw [HF.out] <;> rfl, HB4.out⟩
end Go.Proofs.YtbhbjdmdabkomaaDoor
