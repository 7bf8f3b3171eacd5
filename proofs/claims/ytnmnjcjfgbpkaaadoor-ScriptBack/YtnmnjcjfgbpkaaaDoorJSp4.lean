/- Layer 20: Print. (gensp4.py) -/
import Derived.Test.YtnmnjcjfgbpkaaaDoorJSp2
namespace Go.Proofs.YtnmnjcjfgbpkaaaDoor
set_option maxRecDepth 100000
open Go.RowKit Go.Maps
set_option maxRecDepth 100000
def wNet : List UInt8 := [110, 101, 116]
def wHost : List UInt8 := [104, 111, 115, 116]
def wDev : List UInt8 := [100, 101, 118, 105, 99, 101]
/-- The text: the net's line, the sets', the moves'. -/
def netT (ms : Nat) : List UInt8 := Lib.join [wNet, Lib.itoa ((ms : Nat) : Int)] [32] ++ [10]
def setT (wd : List UInt8) (P : Nat → Ps) : Nat → List UInt8
  | 0 => []
  | n + 1 => setT wd P n ++ (Lib.join [wd, (P n).line] [32] ++ [10])
def movT (M : Nat → Mv) : Nat → List UInt8
  | 0 => []
  | n + 1 => movT M n ++ ((M n).line ++ [10])
def badM (M : Nat → Mv) : Nat → Option Nat
  | 0 => none
  | n + 1 => match badM M n with
    | some k => some k
    | none => if (M n).err = 0 then none else some n
theorem badM_more {M : Nat → Mv} {k : Nat} : ∀ {n m : Nat}, badM M n = some k → n ≤ m → badM M m = some k := by
  intro n m h hm
  induction m with
  | zero =>
    obtain rfl : n = 0 := by omega
    exact h
  | succ m ih =>
    by_cases e : n = m + 1
    · subst e; exact h
    · have := ih (by omega)
      simp [badM, this]
theorem badM_at {M : Nat → Mv} {n : Nat} (h : badM M n = none) (he : (M n).err ≠ 0) : badM M (n + 1) = some n := by
  unfold badM
  rw [h]
  exact if_neg he
def headT (ms : Nat) (P0 : Nat → Ps) (l0 : Nat) (P1 : Nat → Ps) (l1 : Nat) : List UInt8 := netT ms ++ setT wHost P0 l0 ++ setT wDev P1 l1
def fullT (ms : Nat) (P0 : Nat → Ps) (l0 : Nat) (P1 : Nat → Ps) (l1 : Nat) (M : Nat → Mv) (n : Nat) : List UInt8 := headT ms P0 l0 P1 l1 ++ movT M n
/-- What Print answers. -/
def prS (ms : Nat) (P0 : Nat → Ps) (l0 : Nat) (P1 : Nat → Ps) (l1 : Nat) (M : Nat → Mv) (n : Nat) : ByteArray := if (allLaw P0 l0 && allLaw P1 l1) = true ∧ badM M n = none ∧ (fullT ms P0 l0 P1 l1 M n).length ≤ 262144 then tx (fullT ms P0 l0 P1 l1 M n) else ByteArray.mk #[]
def prE (ms : Nat) (P0 : Nat → Ps) (l0 : Nat) (P1 : Nat → Ps) (l1 : Nat) (M : Nat → Mv) (n : Nat) : Int := if (allLaw P0 l0 && allLaw P1 l1) = true then (match badM M n with | some k => (M k).err | none => if (fullT ms P0 l0 P1 l1 M n).length ≤ 262144 then 0 else 204) else 90
theorem pr_law {ms : Nat} {P0 : Nat → Ps} {l0 : Nat} {P1 : Nat → Ps} {l1 : Nat} {M : Nat → Mv} {n : Nat} (h : (allLaw P0 l0 && allLaw P1 l1) = false) : prS ms P0 l0 P1 l1 M n = ByteArray.mk #[] ∧ prE ms P0 l0 P1 l1 M n = 90 := by
  unfold prS prE
  simp [h]
theorem pr_bad {ms : Nat} {P0 : Nat → Ps} {l0 : Nat} {P1 : Nat → Ps} {l1 : Nat} {M : Nat → Mv} {n k : Nat} (h : (allLaw P0 l0 && allLaw P1 l1) = true) (hb : badM M n = some k) : prS ms P0 l0 P1 l1 M n = ByteArray.mk #[] ∧ prE ms P0 l0 P1 l1 M n = (M k).err := by
  unfold prS prE
  simp [h, hb]
theorem pr_long {ms : Nat} {P0 : Nat → Ps} {l0 : Nat} {P1 : Nat → Ps} {l1 : Nat} {M : Nat → Mv} {n : Nat} (h : (allLaw P0 l0 && allLaw P1 l1) = true) (hb : badM M n = none) (hl : ¬ (fullT ms P0 l0 P1 l1 M n).length ≤ 262144) : prS ms P0 l0 P1 l1 M n = ByteArray.mk #[] ∧ prE ms P0 l0 P1 l1 M n = 204 := by
  unfold prS prE
  simp [h, hb, hl]
theorem pr_good {ms : Nat} {P0 : Nat → Ps} {l0 : Nat} {P1 : Nat → Ps} {l1 : Nat} {M : Nat → Mv} {n : Nat} (h : (allLaw P0 l0 && allLaw P1 l1) = true) (hb : badM M n = none) (hl : (fullT ms P0 l0 P1 l1 M n).length ≤ 262144) : prS ms P0 l0 P1 l1 M n = tx (fullT ms P0 l0 P1 l1 M n) ∧ prE ms P0 l0 P1 l1 M n = 0 := by
  unfold prS prE
  simp [h, hb, hl]
theorem join1 (a : List UInt8) : Lib.join [a] [32] = a := by simp [Lib.join, List.intercalate]
theorem join2 (a b : List UInt8) : Lib.join [a, b] [32] = a ++ [32] ++ b := by simp [Lib.join, List.intercalate]
theorem netT_len {ms : Nat} (h : ms < 4294967296) : (netT ms).length ≤ 25 ∧ (Lib.join [wNet, Lib.itoa ((ms : Nat) : Int)] [32]).length ≤ 24 := by
  have := itoa_len (n := ((ms : Nat) : Int)) (by omega) (by omega)
  unfold netT
  rw [join2]
  simp only [wNet, List.length_append, List.length_cons, List.length_nil]
  omega
theorem setT_len {wd : List UInt8} (hw : wd.length ≤ 6) {P : Nat → Ps} (n : Nat) (ok : ∀ i, i < n → (P i).Ok) : (setT wd P n).length ≤ n * 112 := by
  induction n with
  | zero => simp [setT]
  | succ n ih =>
    have h1 := ih (fun i hi => ok i (by omega))
    have h2 := Ps.len (ok n (by omega))
    simp only [setT, join2, List.length_append, List.length_cons, List.length_nil]
    omega
theorem set_line {wd : List UInt8} (hw : wd.length ≤ 6) {p : Ps} (ok : p.Ok) : (Lib.join [wd, p.line] [32]).length ≤ 111 := by
  have h2 := Ps.len ok
  rw [join2]
  simp only [List.length_append, List.length_cons, List.length_nil]
  omega
theorem movT_len {M : Nat → Mv} (n : Nat) (ok : ∀ i, i < n → (M i).Ok) (hb : badM M n = none) : (movT M n).length ≤ n * 2000001 ∧ ∀ i, i < n → (M i).err = 0 := by
  induction n with
  | zero => exact ⟨by simp [movT], fun i hi => by omega⟩
  | succ n ih =>
    have hn : badM M n = none ∧ (M n).err = 0 := by
      simp only [badM] at hb
      split at hb
      · cases hb
      · next e =>
        split at hb
        · next e2 => exact ⟨e, e2⟩
        · cases hb
    obtain ⟨h1, h1'⟩ := ih (fun i hi => ok i (by omega)) hn.1
    have h2 := (Mv.line_lenL (ok n (by omega)) (fun h => by have := (M n).small hn.2 h; omega)).1
    refine ⟨?_, fun i hi => ?_⟩
    · simp only [movT, List.length_append, List.length_cons, List.length_nil]
      omega
    · by_cases e : i = n
      · subst e; exact hn.2
      · exact h1' i (by omega)
theorem two_ownS (w : World) (a b : List UInt8) {X Y : ByteArray} (hX : tx a = X) (hY : tx b = Y) : (w.alloc (.cells #[.string X, .string Y] 9)).ownsRow w.heap.size 9 1 (.slice (some ⟨w.heap.size, 0, none⟩) 2 2) 2 (wsT [a, b]) := by
  refine ⟨rfl, .inr ⟨w.heap.size, 2, _, rfl, Nat.le_refl _, heap_alloc_new _ _, Nat.le_refl _, by decide, rfl, ?_⟩⟩
  rw [← hX, ← hY]
  rfl
theorem one_ownS (w : World) (a : List UInt8) {X : ByteArray} (hX : tx a = X) : (w.alloc (.cells #[.string X] 9)).ownsRow w.heap.size 9 1 (.slice (some ⟨w.heap.size, 0, none⟩) 1 1) 1 (wsT [a]) := by
  refine ⟨rfl, .inr ⟨w.heap.size, 1, _, rfl, Nat.le_refl _, heap_alloc_new _ _, Nat.le_refl _, by decide, rfl, ?_⟩⟩
  rw [← hX]
  rfl
theorem pa_new (w : World) : Pa (w.alloc (.cells #[.pointer none, .slice none 0 0, .int .i64 0] 72)) w.heap.size w.heap.size [] :=
  ⟨[], .inl ⟨Nat.le_refl _, _, heap_alloc_new _ _, ⟨rfl, .inl ⟨rfl, rfl⟩⟩, by simp [Value.ownBlock]⟩, fun _ => rfl, by simp⟩
set_option maxHeartbeats 4000000 in
theorem pprint (a0 : Option Addr) (l0 c0 : Nat) (P0 : Nat → Ps) (a1 : Option Addr) (l1 c1 : Nat) (P1 : Nat → Ps) (ms : Nat) (am : Option Addr) (n cm : Nat) (M : Nat → Mv) (D : Nat → Md) (w : World) (h0 : PsRow w a0 l0 P0) (h1 : PsRow w a1 l1 P1) (hM : MvRow w am n M D) (ok0 : ∀ i, i < l0 → (P0 i).Ok) (ok1 : ∀ i, i < l1 → (P1 i).Ok) (okM : ∀ i, i < n → (M i).Ok ∧ (M i).l ≤ 140737488355328) (hms : ms < 4294967296) (hl0 : l0 ≤ 1000000) (hl1 : l1 ≤ 1000000) (hn : n ≤ 1000000) (K : Lk w) :
    Calls Tryd.prog 12 #[.agg #[.slice a0 l0 c0, .slice a1 l1 c1, .int .u32 (ms : Nat)], .slice am n cm] w fun r w' => r = .returned (.tuple #[.string (prS ms P0 l0 P1 l1 M n), .int .i64 (prE ms P0 l0 P1 l1 M n)]) ∧ Below w.heap.size w w' := by
  obtain ⟨W, hW⟩ : ∃ W : World, w.alloc (.cells #[.slice a0 l0 c0, .slice a1 l1 c1, .int .u32 (ms : Nat)] 26) = W := ⟨_, rfl⟩
  have bW : Below w.heap.size w W := by rw [← hW]; exact belA (Below.refl _ _) _
  have eB : W.heap[w.heap.size]? = some (.cells #[.slice a0 l0 c0, .slice a1 l1 c1, .int .u32 (ms : Nat)] 26 (0, 0)) := by rw [← hW]; exact heap_alloc_new _ _
  have cel : Hid (∀ wx, Below W.heap.size W wx → wx.cell? ⟨w.heap.size, 0, none⟩ = some (.slice a0 l0 c0) ∧ wx.cell? ⟨w.heap.size, 1, none⟩ = some (.slice a1 l1 c1) ∧ wx.cell? ⟨w.heap.size, 2, none⟩ = some (.int .u32 (ms : Nat)) ∧ PsRow wx a0 l0 P0 ∧ PsRow wx a1 l1 P1 ∧ MvRow wx am n M D ∧ Lk wx) := fun wx bx => by
    have h := (bx.block w.heap.size (by have := (Array.getElem?_eq_some_iff.1 eB).1; exact this)).trans eB
    have bb := belTS bx bW
    exact ⟨cell_of_row wx _ 0 _ _ _ h, cell_of_row wx _ 1 _ _ _ h, cell_of_row wx _ 2 _ _ _ h, h0.below bb, h1.below bb, hM.below bb, K.below bb⟩
  have HW : Hid (_) := And.intro bW (And.intro ok0 (And.intro ok1 okM))
  have q0 := plawful a0 l0 c0 P0 W (cel.out W (Below.refl _ _)).2.2.2.1 hl0
  obtain ⟨r0, r1, r2, _⟩ := cel.out W (Below.refl _ _)
  have wms : IntKind.i64.wrap ((ms : Nat) : Int) = ((ms : Nat) : Int) := by rw [IntKind.wrap_i64]; omega
  clear bW eB h0 h1 hM ok0 ok1 okM K
  go_enter Tryd.func12, Tryd.ntmps12
  go_upto_region 1 with fail
  try rw [hW]
  clear hW
  obtain ⟨A0, hA0⟩ : ∃ y, allLaw P0 l0 = y := ⟨_, rfl⟩
  obtain ⟨A1, hA1⟩ : ∃ y, allLaw P1 l1 = y := ⟨_, rfl⟩
  rw [hA0] at q0
  have HA0 : Hid (_) := hA0
  have HA1 : Hid (_) := hA1
  clear hA0 hA1
  go_cut [24] (fun v wx => v = .bool (!(A0 && A1)) ∧ Hid (Below W.heap.size W wx))
  case first =>
    cases A0 with
    | false =>
      go_wp2_with fail
      refine q0.mono ?_
      rintro r w1 ⟨rfl, b1⟩
      have H1 : Hid (_) := b1
      clear q0 b1 r0 r1 r2
      go_wp2_with fail
      go_meet
      exact ⟨rfl, H1⟩
    | true =>
      go_wp2_with fail
      refine q0.mono ?_
      rintro r w1 ⟨rfl, b1⟩
      have H1 : Hid (Below W.heap.size W w1) := b1
      have q1 := plawful a1 l1 c1 P1 w1 (cel.out w1 b1).2.2.2.2.1 hl1
      rw [HA1.out] at q1
      clear q0 b1 r0 r1 r2
      obtain ⟨r0, r1, r2, _⟩ := cel.out w1 H1.out
      cases A1 with
      | false =>
        go_wp2_with fail
        refine q1.mono ?_
        rintro r w2 ⟨rfl, b2⟩
        have H2 : Hid (Below W.heap.size W w2) := belTS b2 H1.out
        clear q1 b2 r0 r1 r2
        go_wp2_with fail
        go_meet
        exact ⟨rfl, H2⟩
      | true =>
        go_wp2_with fail
        refine q1.mono ?_
        rintro r w2 ⟨rfl, b2⟩
        have H2 : Hid (Below W.heap.size W w2) := belTS b2 H1.out
        clear q1 b2 r0 r1 r2
        go_wp2_with fail
        go_meet
        exact ⟨rfl, H2⟩
  case rest =>
  obtain ⟨rfl, H2⟩ := hcut
  clear q0 r0 r1 r2
  have HAA : Hid ((allLaw P0 l0 && allLaw P1 l1) = (A0 && A1)) := by
    show (allLaw P0 l0 && allLaw P1 l1) = (A0 && A1)
    rw [HA0.out, HA1.out]
  obtain ⟨AA, hAA⟩ : ∃ y, (A0 && A1) = y := ⟨_, rfl⟩
  rw [hAA] at HAA ⊢
  clear hAA HA0 HA1
  cases AA with
  | false =>
    have HRr : Hid (_) := pr_law (ms := ms) (M := M) (n := n) HAA.out
    go_wp2_with fail
    go_ret2
    exact ⟨by rw [HRr.out.1, HRr.out.2] <;> rfl, HW.out.1.trans (H2.out.mono HW.out.1.size)⟩
  | true =>
  have HA : Hid ((allLaw P0 l0 && allLaw P1 l1) = true) := HAA
  obtain ⟨W1, hW1⟩ : ∃ y, wc = y := ⟨_, rfl⟩
  rw [hW1] at H2 ⊢
  clear hW1 wc
  obtain ⟨r0, r1, r2, _⟩ := cel.out W1 H2.out
  go_upto_region 4 with fail
  obtain ⟨b, hb⟩ : ∃ y, W1.heap.size = y := ⟨_, rfl⟩
  obtain ⟨w2, hw2⟩ : ∃ y, W1.alloc (.cells #[.pointer none, .slice none 0 0, .int .i64 0] 72) = y := ⟨_, rfl⟩
  have HP : Hid (Pa w2 b b [] ∧ Below b W1 w2) := by
    rw [← hw2, ← hb]
    exact ⟨pa_new W1, belA (Below.refl _ _) _⟩
  have HBb : Hid (W1.heap.size = b) := hb
  have keep : Hid (∀ wx, Below b W1 wx → Below W.heap.size W wx) := fun wx bx => H2.out.trans (bx.mono (by rw [← HBb.out]; exact H2.out.size))
  have hI := pitoa ((ms : Nat) : Int) (by omega) (by omega) w2 (cel.out w2 (keep.out w2 HP.out.2)).2.2.2.2.2.2
  obtain ⟨X, hX⟩ : ∃ y, tx (Lib.itoa ((ms : Nat) : Int)) = y := ⟨_, rfl⟩
  rw [hX] at hI
  have HX : Hid (_) := hX
  clear r0 r1 r2 hX
  obtain ⟨r0, r1, r2, _⟩ := cel.out w2 (keep.out w2 HP.out.2)
  try rw [hw2]
  try rw [hb]
  clear hw2 hb
  go_wp2_with fail
  refine hI.mono ?_
  rintro r w3 ⟨rfl, b3⟩
  have o3 := two_ownS w3 wNet (Lib.itoa ((ms : Nat) : Int)) (show tx wNet = ByteArray.mk #[110, 101, 116] from rfl) HX.out
  have b3a := belA b3 (.cells #[.string (ByteArray.mk #[110, 101, 116]), .string X] 9)
  have z3 : b ≤ (w3.alloc (.cells #[.string (ByteArray.mk #[110, 101, 116]), .string X] 9)).heap.size := by
    have h1 := HP.out.2.size
    have h2 := b3a.size
    have h3 := HBb.out
    omega
  have q := padd [] [wNet, Lib.itoa ((ms : Nat) : Int)] _ (HP.out.1.below b3a) o3 (by omega) (by have := (netT_len hms).2; omega) (by simp) z3
  have H3 : Hid (Below b W1 (w3.alloc (.cells #[.string (ByteArray.mk #[110, 101, 116]), .string X] 9))) := HP.out.2.trans (b3a.mono (by have := HP.out.2.size; have := HBb.out; omega))
  clear hI b3 o3 b3a z3 HP
  go_wp2_with fail
  refine q.mono ?_
  rintro r w4 ⟨rfl, h4⟩
  have H4 : Hid (Pa w4 b b (netT ms ++ setT wHost P0 0) ∧ Below b W1 w4) := by
    refine ⟨?_, H3.out.trans h4.out.2⟩
    have := h4.out.1
    simpa [netT, setT] using this
  clear q h4 H3 r0 r1 r2
  obtain ⟨r0, r1, r2, _⟩ := cel.out w4 (keep.out w4 H4.out.2)
  go_wp2_with fail
  go_loopw [8, 35, 36, 37, 38, 39, 40, 41, 42, 43] (fun _ c _ _ _ _ _ _ _ _ wr => ∃ i : Nat, i ≤ l0 ∧ c = .int .i64 ((i : Nat) : Int) ∧ Hid (Pa wr b b (netT ms ++ setT wHost P0 i) ∧ Below b W1 wr)) (fun _ c _ _ _ _ _ _ _ _ _ => l0 - natV c)
  case atStart => exact ⟨0, by omega, rfl, H4⟩
  case round =>
    clear H4
    obtain ⟨i, hi, rfl, HI⟩ := hrel
    by_cases hlt : i < l0
    rotate_left
    · have hil : i = l0 := by omega
      rw [hil] at HI ⊢
      have hlt' : ¬ ((l0 : Nat) : Int) < ((l0 : Nat) : Int) := by omega
      clear hlt hi hil i
      have H5 : Hid (Pa wr b b (netT ms ++ setT wHost P0 l0 ++ setT wDev P1 0) ∧ Below b W1 wr) := by
        refine ⟨?_, HI.out.2⟩
        have := HI.out.1
        simpa [setT] using this
      clear HI
      obtain ⟨wA, hwA⟩ : ∃ y, wr = y := ⟨_, rfl⟩
      rw [hwA] at H5 ⊢
      clear hwA wr
      obtain ⟨r0, r1, r2, _⟩ := cel.out wA (keep.out wA H5.out.2)
      go_wp2_with fail
      clear r0 r1 r2
      go_loopw [10, 47, 48, 49, 50, 51, 52, 53, 54, 55] (fun _ c _ _ _ _ _ _ _ _ wr => ∃ i : Nat, i ≤ l1 ∧ c = .int .i64 ((i : Nat) : Int) ∧ Hid (Pa wr b b (netT ms ++ setT wHost P0 l0 ++ setT wDev P1 i) ∧ Below b W1 wr)) (fun _ c _ _ _ _ _ _ _ _ _ => l1 - natV c)
      case atStart => exact ⟨0, by omega, rfl, H5⟩
      case round =>
        clear H5
        obtain ⟨i, hi, rfl, HI⟩ := hrel
        by_cases hlt : i < l1
        rotate_left
        · have hil : i = l1 := by omega
          rw [hil] at HI ⊢
          have hlt' : ¬ ((l1 : Nat) : Int) < ((l1 : Nat) : Int) := by omega
          clear hlt hi hil i
          have H6 : Hid (badM M 0 = none ∧ Pa wr b b (headT ms P0 l0 P1 l1 ++ movT M 0) ∧ Below b W1 wr) := by
            refine ⟨rfl, ?_, HI.out.2⟩
            have := HI.out.1
            simpa [headT, movT] using this
          clear HI
          obtain ⟨wB, hwB⟩ : ∃ y, wr = y := ⟨_, rfl⟩
          rw [hwB] at H6 ⊢
          clear hwB wr
          go_wp2_with fail
          go_loopw [4, 5, 12, 13, 14, 58, 59, 60, 61, 62, 63, 64, 65, 66, 67, 68, 69, 70, 71, 72, 73] (fun _ _ _ _ _ c _ _ _ _ _ _ _ _ _ _ _ _ _ _ _ wr => ∃ i : Nat, i ≤ n ∧ c = .int .i64 ((i : Nat) : Int) ∧ Hid (badM M i = none ∧ Pa wr b b (headT ms P0 l0 P1 l1 ++ movT M i) ∧ Below b W1 wr)) (fun _ _ _ _ _ c _ _ _ _ _ _ _ _ _ _ _ _ _ _ _ _ => n - natV c)
          case atStart => exact ⟨0, by omega, rfl, H6⟩
          case round =>
            clear H6
            obtain ⟨i, hi, rfl, HI⟩ := hrel
            by_cases hlt : i < n
            rotate_left
            · have hil : i = n := by omega
              rw [hil] at HI ⊢
              have hlt' : ¬ ((n : Nat) : Int) < ((n : Nat) : Int) := by omega
              clear hlt hi hil i
              obtain ⟨bs, k1, k2, k3⟩ := HI.out.2.1.ex
              obtain ⟨N, hN⟩ : ∃ y, (headT ms P0 l0 P1 l1 ++ movT M n).length = y := ⟨_, rfl⟩
              rw [hN] at k1 k2
              have cz := k1.cell2.1
              have HK : Hid (_) := And.intro k1 (And.intro k2 hN)
              clear k1 k2 k3 hN
              by_cases hle : N ≤ 262144
              rotate_left
              · have g1 : (262144 : Int) < ((N : Nat) : Int) := by omega
                have HRr : Hid (_) := pr_long (ms := ms) HA.out HI.out.1 (by show ¬ (headT ms P0 l0 P1 l1 ++ movT M n).length ≤ 262144; rw [HK.out.2.2]; exact hle)
                have HB9 : Hid (Below w.heap.size w wr) := HW.out.1.trans ((keep.out wr HI.out.2.2).mono HW.out.1.size)
                clear hle HI HK
                go_wp2_with fail
                go_ret2
                exact ⟨by rw [HRr.out.1, HRr.out.2] <;> rfl, HB9.out⟩
              · have g1 : ¬ (262144 : Int) < ((N : Nat) : Int) := by omega
                have HRr : Hid (_) := pr_good (ms := ms) HA.out HI.out.1 (by show (headT ms P0 l0 P1 l1 ++ movT M n).length ≤ 262144; rw [HK.out.2.2]; exact hle)
                have e9 := HK.out.2.1 hle
                have k9 := HK.out.1
                rw [e9] at k9
                have q9 := bstr (headT ms P0 l0 P1 l1 ++ movT M n) wr k9 (by unfold headT netT; simp [wNet, join2])
                have HB9 : Hid (Below W.heap.size W wr) := keep.out wr HI.out.2.2
                have Hb : Hid (W.heap.size ≤ b) := by
                  have h1 := H2.out.size
                  have h2 := HBb.out
                  show W.heap.size ≤ b
                  omega
                clear hle e9 k9 HI HK
                go_wp2_with fail
                refine q9.mono ?_
                rintro r w9 ⟨rfl, b9⟩
                have H9 : Hid (Below W.heap.size W w9) := HB9.out.trans (b9.mono Hb.out)
                clear q9 b9
                go_wp2_with fail
                go_ret2
                exact ⟨by rw [HRr.out.1, HRr.out.2] <;> rfl, HW.out.1.trans (H9.out.mono HW.out.1.size)⟩
            have hlt' : ((i : Nat) : Int) < ((n : Nat) : Int) := by omega
            have hw1 : IntKind.i64.wrap (((i : Nat) : Int) + 1) = ((i + 1 : Nat) : Int) := by rw [IntKind.wrap_i64]; omega
            have kr := cel.out wr (keep.out wr HI.out.2.2)
            obtain ⟨q, off, ea, cc, RR⟩ := kr.2.2.2.2.2.1 i hlt
            subst ea
            have hok := HW.out.2.2.2 i hlt
            obtain ⟨m, hMm⟩ : ∃ y, M i = y := ⟨_, rfl⟩
            obtain ⟨d, hDd⟩ : ∃ y, D i = y := ⟨_, rfl⟩
            rw [hMm] at hok
            rw [hMm, hDd] at cc RR
            have e0 : wr.cell? ⟨q, off + i * 9, none⟩ = some (.int .i64 m.k) := cc 0 _ rfl
            have e1 : wr.cell? ⟨q, off + i * 9 + 1, none⟩ = some (.int .i64 m.c) := cc 1 _ rfl
            have e2 : wr.cell? ⟨q, off + i * 9 + 2, none⟩ = some (.int .i64 m.s) := cc 2 _ rfl
            have e3 : wr.cell? ⟨q, off + i * 9 + 3, none⟩ = some (.int .i64 m.f) := cc 3 _ rfl
            have e4 : wr.cell? ⟨q, off + i * 9 + 4, none⟩ = some (.int .i64 m.a) := cc 4 _ rfl
            have e5 : wr.cell? ⟨q, off + i * 9 + 5, none⟩ = some (.int .u32 (m.w : Nat)) := cc 5 _ rfl
            have e6 : wr.cell? ⟨q, off + i * 9 + 6, none⟩ = some (.int .i64 m.n) := cc 6 _ rfl
            have e7 : wr.cell? ⟨q, off + i * 9 + 7, none⟩ = some (.bool m.h) := cc 7 _ rfl
            have e8 : wr.cell? ⟨q, off + i * 9 + 8, none⟩ = some (.slice d.a m.l d.c) := cc 8 _ rfl
            have ba := belA (Below.refl _ wr) (.cells #[.int .i64 m.k, .int .i64 m.c, .int .i64 m.s, .int .i64 m.f, .int .i64 m.a, .int .u32 (m.w : Nat), .int .i64 m.n, .bool m.h, .slice d.a m.l d.c] 45)
            have hPp := pmoveL m hok.1 d.a d.c (wr.alloc (.cells #[.int .i64 m.k, .int .i64 m.c, .int .i64 m.s, .int .i64 m.f, .int .i64 m.a, .int .u32 (m.w : Nat), .int .i64 m.n, .bool m.h, .slice d.a m.l d.c] 45)) (RR.below ba) hok.2 (kr.2.2.2.2.2.2.below ba)
            have HO : Hid (_) := And.intro ba (And.intro hok hMm)
            obtain ⟨E, hE⟩ : ∃ y, m.err = y := ⟨_, rfl⟩
            rw [hE] at hPp
            clear cc RR hok hMm hDd ba kr
            by_cases he : E = 0
            rotate_left
            · rw [if_neg he] at hPp
              have g0 : (E == 0) = false := by simpa using he
              have HRr : Hid (prS ms P0 l0 P1 l1 M n = ByteArray.mk #[] ∧ prE ms P0 l0 P1 l1 M n = E) := by
                have hbm : badM M (i + 1) = some i := badM_at HI.out.1 (by rw [HO.out.2.2, hE]; exact he)
                have := pr_bad (ms := ms) (P0 := P0) (l0 := l0) (P1 := P1) (l1 := l1) (M := M) (n := n) (k := i) HA.out (badM_more hbm (by omega))
                rw [HO.out.2.2, hE] at this
                exact this
              clear he hE
              go_wp2_with fail
              clear e0 e1 e2 e3 e4 e5 e6 e7 e8
              refine hPp.mono ?_
              rintro r w5 ⟨rfl, b5⟩
              have H9 : Hid (Below W.heap.size W w5) := belTS (belTS b5 HO.out.1) (keep.out wr HI.out.2.2)
              clear hPp b5
              go_wp2_with fail
              go_ret2
              exact ⟨by rw [HRr.out.1, HRr.out.2] <;> rfl, HW.out.1.trans (H9.out.mono HW.out.1.size)⟩
            rw [if_pos he, he] at hPp
            have HNb : Hid (badM M (i + 1) = none ∧ m.err = 0) := ⟨by simp [badM, HI.out.1, HO.out.2.2, hE, he], by rw [hE, he]⟩
            clear he hE
            obtain ⟨Y, hY⟩ : ∃ y, tx m.line = y := ⟨_, rfl⟩
            rw [hY] at hPp
            have HYy : Hid (_) := hY
            clear hY
            go_wp2_with fail
            clear e0 e1 e2 e3 e4 e5 e6 e7 e8
            refine hPp.mono ?_
            rintro r w5 ⟨rfl, b5⟩
            have o5 := one_ownS w5 m.line HYy.out
            have b5a := belTS (belA b5 (.cells #[.string Y] 9)) HO.out.1
            have zr : b ≤ wr.heap.size := by
              have h1 := HI.out.2.2.size
              have h2 := HBb.out
              omega
            have hT : (headT ms P0 l0 P1 l1 ++ movT M i).length ≤ 9000000000000 := by
              have h1 := (netT_len hms).1
              have h2 := setT_len (wd := wHost) (by decide) l0 HW.out.2.1
              have h3 := setT_len (wd := wDev) (by decide) l1 HW.out.2.2.1
              have h4 := (movT_len i (fun j hj => (HW.out.2.2.2 j (by omega)).1) HI.out.1).1
              unfold headT
              rw [List.length_append, List.length_append, List.length_append]
              omega
            have hL : (Lib.join [m.line] [32]).length ≤ 3000000 := by
              rw [join1]
              have := (Mv.line_lenL HO.out.2.1.1 (fun h => by have := m.small HNb.out.2 h; omega)).1
              omega
            have q2 := padd (headT ms P0 l0 P1 l1 ++ movT M i) [m.line] _ (HI.out.2.1.below b5a) o5 (by omega) hL (by omega) (Nat.le_trans zr b5a.size)
            have H5 : Hid (Below b W1 (w5.alloc (.cells #[.string Y] 9))) := HI.out.2.2.trans (b5a.mono zr)
            clear hPp b5 o5 b5a zr hT hL
            go_wp2_with fail
            refine q2.mono ?_
            rintro r w6 ⟨rfl, h6⟩
            have HF : Hid (badM M (i + 1) = none ∧ Pa w6 b b (headT ms P0 l0 P1 l1 ++ movT M (i + 1)) ∧ Below b W1 w6) := by
              refine ⟨HNb.out.1, ?_, H5.out.trans h6.out.2⟩
              have := h6.out.1
              rw [show headT ms P0 l0 P1 l1 ++ movT M (i + 1) = headT ms P0 l0 P1 l1 ++ movT M i ++ Lib.join [m.line] [32] ++ [10] from by
                show headT ms P0 l0 P1 l1 ++ (movT M i ++ ((M i).line ++ [10])) = _
                rw [HO.out.2.2, join1]
                simp]
              exact this
            clear q2 h6 H5 HO HNb HYy
            go_wp2_with fail
            go_roundw
            case rel => exact ⟨i + 1, by omega, by first | rfl | go_num, HF⟩
            case measure => simp [natV] <;> omega
        have hlt' : ((i : Nat) : Int) < ((l1 : Nat) : Int) := by omega
        have hw1 : IntKind.i64.wrap (((i : Nat) : Int) + 1) = ((i + 1 : Nat) : Int) := by rw [IntKind.wrap_i64]; omega
        have kr := cel.out wr (keep.out wr HI.out.2)
        obtain ⟨q, off, ea, cc⟩ := kr.2.2.2.2.1 i hlt
        subst ea
        have hok := HW.out.2.2.1 i hlt
        obtain ⟨p, hP⟩ : ∃ y, P1 i = y := ⟨_, rfl⟩
        rw [hP] at cc hok
        have e0 : wr.cell? ⟨q, off + i * 5, none⟩ = some (.int .u32 (p.c : Nat)) := cc 0 _ rfl
        have e1 : wr.cell? ⟨q, off + i * 5 + 1, none⟩ = some (.int .i64 p.o) := cc 1 _ rfl
        have e2 : wr.cell? ⟨q, off + i * 5 + 2, none⟩ = some (.int .i64 p.i) := cc 2 _ rfl
        have e3 : wr.cell? ⟨q, off + i * 5 + 3, none⟩ = some (.int .i64 p.t) := cc 3 _ rfl
        have e4 : wr.cell? ⟨q, off + i * 5 + 4, none⟩ = some (.int .u32 (p.n : Nat)) := cc 4 _ rfl
        have ba := belA (Below.refl _ wr) (.cells #[.int .u32 (p.c : Nat), .int .i64 p.o, .int .i64 p.i, .int .i64 p.t, .int .u32 (p.n : Nat)] 50)
        have hPp := pparam p hok (wr.alloc (.cells #[.int .u32 (p.c : Nat), .int .i64 p.o, .int .i64 p.i, .int .i64 p.t, .int .u32 (p.n : Nat)] 50)) (Lk.p (kr.2.2.2.2.2.2.below ba))
        obtain ⟨Y, hY⟩ : ∃ y, tx p.line = y := ⟨_, rfl⟩
        rw [hY] at hPp
        have HO : Hid (_) := And.intro ba (And.intro hok (And.intro hP hY))
        clear cc hok hP hY ba kr
        go_wp2_with fail
        clear e0 e1 e2 e3 e4
        refine hPp.mono ?_
        rintro r w5 ⟨rfl, b5⟩
        have o5 := two_ownS w5 wDev p.line (show tx wDev = ByteArray.mk #[100, 101, 118, 105, 99, 101] from rfl) HO.out.2.2.2
        have b5a := belTS (belA b5 (.cells #[.string (ByteArray.mk #[100, 101, 118, 105, 99, 101]), .string Y] 9)) HO.out.1
        have zr : b ≤ wr.heap.size := by
          have h1 := HI.out.2.size
          have h2 := HBb.out
          omega
        have hT : (netT ms ++ setT wHost P0 l0 ++ setT wDev P1 i).length ≤ 9000000000000 := by
          have h1 := (netT_len hms).1
          have h2 := setT_len (wd := wHost) (by decide) l0 HW.out.2.1
          have h3 := setT_len (wd := wDev) (by decide) i (fun j hj => HW.out.2.2.1 j (by omega))
          rw [List.length_append, List.length_append]
          omega
        have q2 := padd (netT ms ++ setT wHost P0 l0 ++ setT wDev P1 i) [wDev, p.line] _ (HI.out.1.below b5a) o5 (by omega) (by have := set_line (wd := wDev) (by decide) HO.out.2.1; omega) (by omega) (Nat.le_trans zr b5a.size)
        have H5 : Hid (Below b W1 (w5.alloc (.cells #[.string (ByteArray.mk #[100, 101, 118, 105, 99, 101]), .string Y] 9))) := HI.out.2.trans (b5a.mono zr)
        clear hPp b5 o5 b5a zr hT
        go_wp2_with fail
        refine q2.mono ?_
        rintro r w6 ⟨rfl, h6⟩
        have HF : Hid (Pa w6 b b (netT ms ++ setT wHost P0 l0 ++ setT wDev P1 (i + 1)) ∧ Below b W1 w6) := by
          refine ⟨?_, H5.out.trans h6.out.2⟩
          have := h6.out.1
          rw [show netT ms ++ setT wHost P0 l0 ++ setT wDev P1 (i + 1) = netT ms ++ setT wHost P0 l0 ++ setT wDev P1 i ++ Lib.join [wDev, p.line] [32] ++ [10] from by
            show netT ms ++ setT wHost P0 l0 ++ (setT wDev P1 i ++ (Lib.join [wDev, (P1 i).line] [32] ++ [10])) = _
            rw [HO.out.2.2.1]
            simp]
          exact this
        clear q2 h6 H5 HO
        go_wp2_with fail
        go_roundw
        case rel => exact ⟨i + 1, by omega, by first | rfl | go_num, HF⟩
        case measure => simp [natV] <;> omega
    have hlt' : ((i : Nat) : Int) < ((l0 : Nat) : Int) := by omega
    have hw1 : IntKind.i64.wrap (((i : Nat) : Int) + 1) = ((i + 1 : Nat) : Int) := by rw [IntKind.wrap_i64]; omega
    have kr := cel.out wr (keep.out wr HI.out.2)
    obtain ⟨q, off, ea, cc⟩ := kr.2.2.2.1 i hlt
    subst ea
    have hok := HW.out.2.1 i hlt
    obtain ⟨p, hP⟩ : ∃ y, P0 i = y := ⟨_, rfl⟩
    rw [hP] at cc hok
    have e0 : wr.cell? ⟨q, off + i * 5, none⟩ = some (.int .u32 (p.c : Nat)) := cc 0 _ rfl
    have e1 : wr.cell? ⟨q, off + i * 5 + 1, none⟩ = some (.int .i64 p.o) := cc 1 _ rfl
    have e2 : wr.cell? ⟨q, off + i * 5 + 2, none⟩ = some (.int .i64 p.i) := cc 2 _ rfl
    have e3 : wr.cell? ⟨q, off + i * 5 + 3, none⟩ = some (.int .i64 p.t) := cc 3 _ rfl
    have e4 : wr.cell? ⟨q, off + i * 5 + 4, none⟩ = some (.int .u32 (p.n : Nat)) := cc 4 _ rfl
    have ba := belA (Below.refl _ wr) (.cells #[.int .u32 (p.c : Nat), .int .i64 p.o, .int .i64 p.i, .int .i64 p.t, .int .u32 (p.n : Nat)] 50)
    have hPp := pparam p hok (wr.alloc (.cells #[.int .u32 (p.c : Nat), .int .i64 p.o, .int .i64 p.i, .int .i64 p.t, .int .u32 (p.n : Nat)] 50)) (Lk.p (kr.2.2.2.2.2.2.below ba))
    obtain ⟨Y, hY⟩ : ∃ y, tx p.line = y := ⟨_, rfl⟩
    rw [hY] at hPp
    have HO : Hid (_) := And.intro ba (And.intro hok (And.intro hP hY))
    clear cc hok hP hY ba kr
    go_wp2_with fail
    clear e0 e1 e2 e3 e4
    refine hPp.mono ?_
    rintro r w5 ⟨rfl, b5⟩
    have o5 := two_ownS w5 wHost p.line (show tx wHost = ByteArray.mk #[104, 111, 115, 116] from rfl) HO.out.2.2.2
    have b5a := belTS (belA b5 (.cells #[.string (ByteArray.mk #[104, 111, 115, 116]), .string Y] 9)) HO.out.1
    have zr : b ≤ wr.heap.size := by
      have h1 := HI.out.2.size
      have h2 := HBb.out
      omega
    have hT : (netT ms ++ setT wHost P0 i).length ≤ 9000000000000 := by
      have h1 := (netT_len hms).1
      have h2 := setT_len (wd := wHost) (by decide) i (fun j hj => HW.out.2.1 j (by omega))
      rw [List.length_append]
      omega
    have q2 := padd (netT ms ++ setT wHost P0 i) [wHost, p.line] _ (HI.out.1.below b5a) o5 (by omega) (by have := set_line (wd := wHost) (by decide) HO.out.2.1; omega) (by omega) (Nat.le_trans zr b5a.size)
    have H5 : Hid (Below b W1 (w5.alloc (.cells #[.string (ByteArray.mk #[104, 111, 115, 116]), .string Y] 9))) := HI.out.2.trans (b5a.mono zr)
    clear hPp b5 o5 b5a zr hT
    go_wp2_with fail
    refine q2.mono ?_
    rintro r w6 ⟨rfl, h6⟩
    have HF : Hid (Pa w6 b b (netT ms ++ setT wHost P0 (i + 1)) ∧ Below b W1 w6) := by
      refine ⟨?_, H5.out.trans h6.out.2⟩
      have := h6.out.1
      rw [show netT ms ++ setT wHost P0 (i + 1) = netT ms ++ setT wHost P0 i ++ Lib.join [wHost, p.line] [32] ++ [10] from by
        show netT ms ++ (setT wHost P0 i ++ (Lib.join [wHost, (P0 i).line] [32] ++ [10])) = _
        rw [HO.out.2.2.1]
        simp]
      exact this
    clear q2 h6 H5 HO
    go_wp2_with fail
    go_roundw
    case rel => exact ⟨i + 1, by omega, by first | rfl | go_num, HF⟩
    case measure => simp [natV] <;> omega
end Go.Proofs.YtnmnjcjfgbpkaaaDoor
