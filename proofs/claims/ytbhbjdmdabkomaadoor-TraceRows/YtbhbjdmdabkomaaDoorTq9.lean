/- Layer 21: rows as a text: the program's and the document's. (gentq9.py) -/
import Derived.Test.YtbhbjdmdabkomaaDoorTq8
import Derived.Test.YtbhbjdmdabkomaaDoorMid
import Derived.OwnWalk
namespace Go.Proofs.YtbhbjdmdabkomaaDoor
set_option maxRecDepth 100000
open Go.RowKit Go.Maps
set_option maxRecDepth 100000
/-- A row's cells. -/
def Rx.cs (r : Rx) (x : Rd) : List Value := [.int .i64 r.m.k, .int .i64 r.m.c, .int .i64 r.m.s, .int .i64 r.m.f, .int .i64 r.m.a, .int .u32 (r.m.w : Nat), .int .i64 r.m.n, .bool r.m.h, .slice x.a1 r.m.l x.c1, .int .i64 r.cd, .int .i64 r.st, .int .i64 r.h.st, .int .u32 (r.h.se : Nat), .int .u32 (r.h.nu : Nat), .int .u32 (r.h.sn : Nat), .int .i64 r.h.si, .int .i64 r.h.la, .bool r.h.rq, .bool r.h.on, .slice x.a2 r.h.l x.c2, .int .i64 r.v.st, .int .u32 (r.v.se : Nat), .int .u32 (r.v.nu : Nat), .int .u32 (r.v.sn : Nat), .int .i64 r.v.si, .int .i64 r.v.la, .bool r.v.rq, .bool r.v.on, .slice x.a3 r.v.l x.c3]
/-- Rows in a list. -/
def RxRow (w : World) (a : Option Addr) (len : Nat) (R : Nat → Rx) (D : Nat → Rd) : Prop := ∀ i, i < len → ∃ b off, a = some ⟨b, off, none⟩ ∧ w.rangeAt b (off + i * 29) ((R i).cs (D i)) ∧ (R i).Rows (D i) w
theorem RxRow.below {w w' : World} {a : Option Addr} {len : Nat} {R : Nat → Rx} {D : Nat → Rd} (h : RxRow w a len R D) (b : Below w.heap.size w w') : RxRow w' a len R D := fun i hi => by
  obtain ⟨q, off, e, c, r⟩ := h i hi
  exact ⟨q, off, e, rangeB c b, r.below b⟩
/-- A row's cells as they are handed on. -/
def Rx.A (r : Rx) (x : Rd) : Array Value := (r.cs x).toArray
theorem Rx.A_size (r : Rx) (x : Rd) : (r.A x).size = 29 := rfl
theorem Rx.A_list (r : Rx) (x : Rd) : (r.A x).toList = r.cs x := rfl
theorem Rx.A_one (r : Rx) (x : Rd) : (r.A x).all (·.oneCell') = true := all_oneCell_toArray (fun v hv => by
  unfold Rx.cs at hv
  simp only [List.mem_cons, List.not_mem_nil, or_false] at hv
  rcases hv with rfl | rfl | rfl | rfl | rfl | rfl | rfl | rfl | rfl | rfl | rfl | rfl | rfl | rfl | rfl | rfl | rfl | rfl | rfl | rfl | rfl | rfl | rfl | rfl | rfl | rfl | rfl | rfl | rfl <;> rfl)
/-- The text of the first n; the first that has no line. -/
def tT (R : Nat → Rx) : Nat → List UInt8
  | 0 => []
  | n + 1 => tT R n ++ (R n).full ++ [10]
def bad (R : Nat → Rx) : Nat → Option Nat
  | 0 => none
  | n + 1 => match bad R n with
    | some k => some k
    | none => if (R n).m.err = 0 then none else some n
def tV (R : Nat → Rx) (n : Nat) : Value := match bad R n with
  | none => .tuple #[.string (tx (tT R n)), .int .i64 0, .int .i64 0]
  | some k => .tuple #[.string (ByteArray.mk #[]), .int .i64 ((k : Nat) : Int), .int .i64 (R k).m.err]
theorem bad_more {R : Nat → Rx} {k : Nat} : ∀ {n m : Nat}, bad R n = some k → n ≤ m → bad R m = some k := by
  intro n m h hm
  induction m with
  | zero =>
    obtain rfl : n = 0 := by omega
    exact h
  | succ m ih =>
    by_cases e : n = m + 1
    · subst e; exact h
    · have := ih (by omega)
      simp [bad, this]
theorem bad_at {R : Nat → Rx} {n m : Nat} (h : bad R n = none) (he : (R n).m.err ≠ 0) (hm : n < m) : tV R m = .tuple #[.string (ByteArray.mk #[]), .int .i64 ((n : Nat) : Int), .int .i64 (R n).m.err] := by
  have : bad R (n + 1) = some n := by simp [bad, h, he]
  unfold tV
  rw [bad_more this (by omega)]
theorem bad_good {R : Nat → Rx} {n : Nat} (h : bad R n = none) (he : (R n).m.err = 0) : bad R (n + 1) = none := by simp [bad, h, he]
theorem tT_len {R : Nat → Rx} (n : Nat) (ok : ∀ i, i < n → (R i).Ok ∧ (R i).Sh) : (tT R n).length ≤ n * 2003001 := by
  induction n with
  | zero => simp [tT]
  | succ n ih =>
    have h1 := ih (fun i hi => ok i (by omega))
    have h2 := Rx.full_len (ok n (by omega)).1 (ok n (by omega)).2
    have e : (n + 1) * 2003001 = n * 2003001 + 2003001 := by rw [Nat.add_mul, Nat.one_mul]
    rw [e]
    simp only [tT, List.length_append, List.length_cons, List.length_nil]
    omega
theorem tT_len3 {R : Nat → Rx} {n : Nat} (hn : n ≤ 1000) (ok : ∀ i, i < n → (R i).Ok ∧ (R i).Sh) : (tT R n).length ≤ 2003001000 := by
  have h1 := tT_len n ok
  have h2 : n * 2003001 ≤ 1000 * 2003001 := Nat.mul_le_mul_right _ hn
  omega
theorem str_cells (l : List UInt8) : Lib.strCells (tx l) = Lib.byteCells l := by
  rw [Lib.strCells_eq]
  simp [tx]
theorem byte_app (a b : List UInt8) : Lib.byteCells (a ++ b) = Lib.byteCells a ++ Lib.byteCells b := by simp [Lib.byteCells]
theorem size_row : (Tryd.prog.info? 78).map (·.size) = some 29 := by kernel_rfl
theorem tlineA (r : Rx) (hr : r.Ok) (hs : r.Sh) (x : Rd) (w : World) (R : r.Rows x w) (L : Lt w) (K : Lk w) : Calls Tryd.prog 42 #[.agg (r.A x)] w fun q w' => q = .returned (.tuple #[.string (tx r.line), .int .i64 r.m.err]) ∧ Below w.heap.size w w' := tline r hr hs x w R L K
theorem rlineA (r : Rx) (hr : r.Ok) (hs : r.Sh) (x : Rd) (w : World) (R : r.Rows x w) : Calls Tryd.prog 43 #[.agg (r.A x)] w fun q w' => q = .returned (.tuple #[.string (tx r.line), .int .i64 r.m.err]) ∧ Below w.heap.size w w' := rline r hr hs x w R
set_option maxHeartbeats 4000000 in
theorem ttext (a : Option Addr) (len cap : Nat) (R : Nat → Rx) (D : Nat → Rd) (w : World) (hr : RxRow w a len R D) (ok : ∀ i, i < len → (R i).Ok ∧ (R i).Sh) (hlen : len ≤ 1000) (L : Lt w) (K : Lk w) : Calls Tryd.prog 46 #[.slice a len cap] w fun q w' => q = .returned (tV R len) ∧ Below w.heap.size w w' := by
  have HW : Hid (_) := And.intro hr (And.intro ok (And.intro L K))
  clear hr ok L K
  have H0 : Hid (Bl 108 [] w.heap.size w.heap.size (Lib.byteCells (tT R 0)) (w.alloc (.cells #[.pointer none, .slice none 0 0] 108)) ∧ Below w.heap.size w (w.alloc (.cells #[.pointer none, .slice none 0 0] 108))) := by
    refine ⟨.inl ⟨Nat.le_refl _, _, heap_alloc_new _ _, ⟨rfl, .inl ⟨rfl, rfl⟩⟩, by simp [Value.ownBlock]⟩, belA (Below.refl _ _) _⟩
  go_enter Tryd.func46, Tryd.ntmps46
  go_wp2_with fail
  go_loopw [2, 3, 4, 6, 7, 8, 9, 12, 13, 14, 15, 16, 17, 18, 19, 20, 21, 22, 23, 24, 25, 26, 27, 28, 29] (fun _ _ _ _ _ _ _ c _ _ _ _ _ _ _ _ _ _ _ _ _ _ _ _ _ wr => ∃ i : Nat, i ≤ len ∧ c = .int .i64 ((i : Nat) : Int) ∧ Hid (bad R i = none ∧ Bl 108 [] w.heap.size w.heap.size (Lib.byteCells (tT R i)) wr ∧ Below w.heap.size w wr)) (fun _ _ _ _ _ _ _ c _ _ _ _ _ _ _ _ _ _ _ _ _ _ _ _ _ _ => len - natV c)
  case atStart => exact ⟨0, by omega, rfl, rfl, H0⟩
  case round =>
    obtain ⟨i, hi, rfl, HI⟩ := hrel
    clear H0
    by_cases hlt : i < len
    rotate_left
    · obtain rfl : i = len := by omega
      have hlt' : ¬ ((i : Nat) : Int) < ((i : Nat) : Int) := by omega
      have q := Tryd.Builder_String_any w.heap.size w.heap.size (tT R i) wr HI.out.2.1.is HI.out.2.2.size
      have HV : Hid (tV R i = .tuple #[.string (tx (tT R i)), .int .i64 0, .int .i64 0]) := by
        show tV R i = _
        unfold tV
        rw [HI.out.1]
      have HB : Hid (_) := HI.out.2.2
      clear HI
      go_wp2_with fail
      refine q.mono ?_
      rintro r w3 ⟨rfl, b3⟩
      have HB3 : Hid (_) := b3
      clear q b3
      go_wp2_with fail
      go_ret3
      exact ⟨by rw [HV.out] <;> rfl, HB.out.trans HB3.out⟩
    have hlt' : ((i : Nat) : Int) < ((len : Nat) : Int) := by omega
    have hw1 : IntKind.i64.wrap (((i : Nat) : Int) + 1) = ((i + 1 : Nat) : Int) := by rw [IntKind.wrap_i64]; omega
    obtain ⟨q, off, ea, cc, RR⟩ := (HW.out.1.below HI.out.2.2) i hlt
    subst ea
    obtain ⟨r, hR⟩ : ∃ y, R i = y := ⟨_, rfl⟩
    obtain ⟨x, hD⟩ : ∃ y, D i = y := ⟨_, rfl⟩
    rw [hR, hD] at cc RR
    have hok := HW.out.2.1 i hlt
    rw [hR] at hok
    have HR : Hid (_) := And.intro RR (And.intro hok hR)
    obtain ⟨A, hA⟩ : ∃ y, r.A x = y := ⟨_, rfl⟩
    have cA : wr.rangeAt q (off + i * 29) A.toList := by rw [← hA, r.A_list]; exact cc
    have sA : A.size = 29 := by rw [← hA]; rfl
    have oA : A.all (·.oneCell') = true := by rw [← hA]; exact r.A_one x
    have iA : (Tryd.prog.info? 78).map (·.size) = some A.size := by rw [sA]; exact size_row
    clear RR hok cc hR hD
    obtain ⟨wz, hwz⟩ : ∃ y, wr.alloc (.cells #[.int .i64 0, .int .i64 0, .int .i64 0, .int .i64 0, .int .i64 0, .int .u32 0, .int .i64 0, .bool false, .slice none 0 0, .int .i64 0, .int .i64 0, .int .i64 0, .int .u32 0, .int .u32 0, .int .u32 0, .int .i64 0, .int .i64 0, .bool false, .bool false, .slice none 0 0, .int .i64 0, .int .u32 0, .int .u32 0, .int .u32 0, .int .i64 0, .int .i64 0, .bool false, .bool false, .slice none 0 0] 78) = y := ⟨_, rfl⟩
    obtain ⟨g, hg⟩ : ∃ y, wr.heap.size = y := ⟨_, rfl⟩
    have tz : wz.there g 0 A.size := by
      rw [sA, ← hwz, ← hg]
      exact there_new wr #[.int .i64 0, .int .i64 0, .int .i64 0, .int .i64 0, .int .i64 0, .int .u32 0, .int .i64 0, .bool false, .slice none 0 0, .int .i64 0, .int .i64 0, .int .i64 0, .int .u32 0, .int .u32 0, .int .u32 0, .int .i64 0, .int .i64 0, .bool false, .bool false, .slice none 0 0, .int .i64 0, .int .u32 0, .int .u32 0, .int .u32 0, .int .i64 0, .int .i64 0, .bool false, .bool false, .slice none 0 0] 78
    have ba : Below wr.heap.size wr (setA wz g 0 A) := setA_below (by rw [← hwz]; exact belA (Below.refl _ _) _) (by rw [hg]; exact Nat.le_refl _)
    have ra : (setA wz g 0 A).rangeAt g 0 A.toList := range_setA tz
    obtain ⟨wa, hwa⟩ : ∃ y, setA wz g 0 A = y := ⟨_, rfl⟩
    rw [hwa] at ba ra
    have hst : (storeCells ⟨g, 0, none⟩ A.toList).run Tryd.prog wz = .ok () wa := by rw [← hwa]; exact storeA_run tz oA
    have hL := tlineA r HR.out.2.1.1 HR.out.2.1.2 x wa (HR.out.1.below ba) ((HW.out.2.2.1.below HI.out.2.2).below ba) ((HW.out.2.2.2.below HI.out.2.2).below ba)
    rw [hA] at hL
    obtain ⟨E, hE⟩ : ∃ y, r.m.err = y := ⟨_, rfl⟩
    rw [hE] at hL
    obtain ⟨X, hX⟩ : ∃ y, tx r.line = y := ⟨_, rfl⟩
    rw [hX] at hL
    have HA : Hid (Below wr.heap.size wr wa) := ba
    have HX : Hid (_) := And.intro hE hX
    clear hE hX ba hA
    go_upto_region 5 with (first
      | refine wpList_loadA rfl 78 (.tmp 15) rfl q (off + i * 29) rfl A _ cA Tryd.underlying78 rfl iA ?_
      | fail)
    clear hwa hwz hg cA tz oA hst sA
    go_wp2_with (refine wpList_loadA rfl 78 (.tmp 7) rfl g 0 rfl A _ ra Tryd.underlying78 rfl iA ?_)
    refine hL.mono ?_
    rintro z w2 ⟨rfl, b2⟩
    have HB2 : Hid (Below wr.heap.size wr w2) := belTS b2 HA.out
    clear hL b2 ra iA
    by_cases e0 : E = 0
    rotate_left
    · have g0 : (E == 0) = false := by simpa using e0
      have HV : Hid (tV R len = .tuple #[.string (ByteArray.mk #[]), .int .i64 ((i : Nat) : Int), .int .i64 E]) := by
        show tV R len = _
        rw [bad_at HI.out.1 (by rw [HR.out.2.2, HX.out.1]; exact e0) hlt, HR.out.2.2, HX.out.1]
      clear e0
      go_wp2_with fail
      go_ret3
      exact ⟨by rw [HV.out] <;> rfl, HI.out.2.2.trans (HB2.out.mono HI.out.2.2.size)⟩
    have HN : Hid (bad R (i + 1) = none ∧ X = tx (R i).full) := by
      refine ⟨bad_good HI.out.1 (by rw [HR.out.2.2, HX.out.1]; exact e0), ?_⟩
      rw [← HX.out.2, HR.out.2.2]
      unfold Rx.line
      rw [if_pos (by rw [HX.out.1]; exact e0)]
    subst e0
    have hT := tT_len3 (n := i) (by omega) (fun j hj => HW.out.2.1 j (by omega))
    have hF := Rx.full_len (HW.out.2.1 i hlt).1 (HW.out.2.1 i hlt).2
    have lX : X.size ≤ 2003000 := by rw [HN.out.2, tx_size]; exact hF
    have lB : (Lib.byteCells (tT R i)).length ≤ 2003001000 := by rw [Lib.byteCells_length]; exact hT
    have B2 : Below w.heap.size w w2 := HI.out.2.2.trans (HB2.out.mono HI.out.2.2.size)
    have q1 := bstring X w2 blt0 (HI.out.2.1.below HB2.out) (by omega) B2.size
    have HBw : Hid (_) := B2
    have HlX : Hid (_) := And.intro lX lB
    clear hT hF lX lB B2
    go_wp2_with fail
    refine q1.mono ?_
    rintro z w3 ⟨rfl, k3, b3⟩
    have B3 : Below w.heap.size w w3 := HBw.out.trans b3
    have q2 := bbyte 10 w3 blt0 (.inr k3) (by
      have := HlX.out
      rw [List.length_append, Lib.strCells_length]
      omega) B3.size
    have HB3 : Hid (_) := B3
    clear q1 k3 b3 B3
    go_wp2_with fail
    refine q2.mono ?_
    rintro z w4 ⟨rfl, k4, b4⟩
    have HF : Hid (bad R (i + 1) = none ∧ Bl 108 [] w.heap.size w.heap.size (Lib.byteCells (tT R (i + 1))) w4 ∧ Below w.heap.size w w4) := by
      refine ⟨HN.out.1, .inr ?_, HB3.out.trans b4⟩
      have e : Lib.byteCells (tT R (i + 1)) = Lib.byteCells (tT R i) ++ Lib.strCells X ++ [.int .u8 10] := by
        rw [HN.out.2, str_cells]
        show Lib.byteCells (tT R i ++ (R i).full ++ [10]) = _
        rw [byte_app, byte_app]
        rfl
      rw [e]
      exact k4
    clear q2 k4 b4 HB3 HN HlX HBw
    go_wp2_with fail
    go_roundw
    case rel => exact ⟨i + 1, by omega, by first | rfl | go_num, HF⟩
    case measure => simp [natV] <;> omega
end Go.Proofs.YtbhbjdmdabkomaaDoor
