/- Encode of the program; a unit with its own data. -/
import Derived.Test.YtmleiemlfogffaaGreatUEnc
import Derived.Deep.DeepCutAuto
namespace Go.Proofs.YtmleiemlfogffaaGreat
set_option maxRecDepth 100000
open Go.RowKit
/-- 'copy(own[off:], xs)' as one step of a region that draws: as many as there is room for. -/
theorem step_copy8 {ops : Array Oper} {o : Oper} {a : Act} {w : World} {K : Act → World → Prop} {Q : Exit → Act → World → Prop} {E : Prop} (hgd : o.guard = none) (d s : Operand)
    (ho : o.op = .call { callee := .builtin .copy, args := #[d, s], argTypes := #[25, 25] }) (B g N cap off m c C M : Nat) (dp ao : Option Addr) (f bs : Nat → Nat)
    (hd : a.eval d = .slice dp M C) (hs : a.eval s = .slice ao m c) (hM : M = m) (hdp : 0 < m → dp = some ⟨g, off, none⟩) (hN : off + m ≤ N)
    (hown : w.ownsRow B 5 1 (.slice (some ⟨g, 0, none⟩) N cap) N (CB f N)) (hrow : Row8 w ao m c bs) (w0 : World) (hb : Below B w0 w)
    (h : ∀ w', Hid (w'.ownsRow B 5 1 (.slice (some ⟨g, 0, none⟩) N cap) N (CB (fun i => if off ≤ i ∧ i < off + m then bs (i - off) else f i) N) ∧ Below B w0 w') → K (a.put o.dst (goInt m)) w') :
    if Region.wanted o (yielded ops a.tmps) = true then Oper.wp Tryz.prog o a w K Q else E := by
  subst hM
  rcases hown.2 with ⟨h', _⟩ | ⟨g', cap', cur, h', hbg, hg, hnc, hcm, hcs, htake⟩
  · simp at h'
  · simp only [Value.slice.injEq, Option.some.injEq, Addr.mk.injEq, and_true, true_and] at h'
    obtain ⟨rfl, rfl⟩ := h'
    refine step_copy_splice hgd d s _ _ ho 5 Tryz.underlying25 size_u8 dp ao M C M c hd hs g off cur.toList 5 (by simpa using hg) (CB bs M) (by rw [CB_length]; exact (Nat.min_self M).symm) ?_ (by rw [CB_length, Array.length_toList, hcs]; omega) (CB_one _ _) B w0 hb hbg ?_
    · intro hpos
      rw [CB_length] at hpos
      refine ⟨hdp hpos, ?_⟩
      cases ao with
      | none => have := (hrow.nil rfl).1; omega
      | some ad =>
        refine ⟨ad, rfl, fun j v hj => ?_⟩
        by_cases hlt : j < M
        · rw [CB_get _ _ _ hlt] at hj
          cases hj
          exact hrow.src ad rfl j hlt
        · rw [CB_none _ _ _ (by omega)] at hj; cases hj
    · intro w' hg' hb'
      rw [CB_length]
      refine h w' ⟨⟨by rw [CB_length]; omega, .inr ⟨g, cap, _, rfl, hbg, hg'.out, hnc, hcm, ?_, ?_⟩⟩, hb'⟩
      · rw [List.size_toArray, length_splice _ _ _ (by rw [CB_length, Array.length_toList, hcs]; omega), Array.length_toList, hcs]
      · rw [Nat.mul_one] at htake ⊢
        simp only [splice]
        apply List.ext_getElem?
        intro i
        rw [List.getElem?_take]
        by_cases hi : i < N
        · rw [if_pos hi, CB_get _ N i hi]
          have hcur : cur.toList[i]? = some (.int .u8 (f i)) := by
            have := congrArg (·[i]?) htake
            simp only [List.getElem?_take, if_pos hi, CB_get f N i hi] at this
            exact this
          have hlo : (List.take off cur.toList).length = off := by rw [List.length_take, Array.length_toList, hcs]; omega
          by_cases h1 : i < off
          · rw [if_neg (by omega), List.getElem?_append_left (by omega), List.getElem?_take, if_pos h1, hcur]
          · by_cases h2 : i < off + M
            · rw [if_pos ⟨by omega, h2⟩, List.getElem?_append_right (by omega), hlo, List.getElem?_append_left (by rw [CB_length]; omega), CB_get _ _ _ (by omega)]
            · rw [if_neg (by omega), List.getElem?_append_right (by omega), hlo, List.getElem?_append_right (by rw [CB_length]; omega), CB_length, List.getElem?_drop, show off + M + (i - off - M) = i by omega, hcur]
        · rw [if_neg hi, CB_none _ N i (by omega)]
theorem fr_build (K c s n F len : Nat) (bs : Nat → Nat) (j : Nat) (hj : j < 15 + len) :
    (if 15 ≤ j ∧ j < 15 + len then bs (j - 15) else if j = 14 then len else if j = 13 then F else if 9 ≤ j ∧ j < 9 + 4 then PM.w4 n (j - 9) else if 5 ≤ j ∧ j < 5 + 4 then PM.w4 s (j - 5) else if 1 ≤ j ∧ j < 1 + 4 then PM.w4 c (j - 1) else if j = 0 then K else 0) = fr K c s n F len bs j := by
  unfold fr
  by_cases h0 : j = 0
  · simp (disch := omega) only [if_pos, if_neg]
  · by_cases h1 : j < 5
    · simp (disch := omega) only [if_pos, if_neg]
    · by_cases h2 : j < 9
      · simp (disch := omega) only [if_pos, if_neg]
      · by_cases h3 : j < 13
        · simp (disch := omega) only [if_pos, if_neg]
        · by_cases h4 : j = 13
          · simp (disch := omega) only [if_pos, if_neg]
          · by_cases h5 : j = 14
            · simp (disch := omega) only [if_pos, if_neg]
            · simp (disch := omega) only [if_pos, if_neg]
theorem own_row8s {w : World} {B e g n cap : Nat} {bs : Nat → Nat} (h : w.ownsRow B e 1 (.slice (some ⟨g, 0, none⟩) n cap) n (CB bs n)) (hb : ∀ i, i < n → bs i < 256) : Row8 w (some ⟨g, 0, none⟩) n cap bs := by
  obtain ⟨a, c, e, r⟩ := own_row8 h hb
  simp only [Value.slice.injEq, true_and] at e
  obtain ⟨rfl, rfl⟩ := e
  exact r
/-- A unit laid in memory. -/
structure Box (wx : World) (g : Nat) (k : Int) (c s n : Nat) (f : Int) (v : Value) : Prop where
  c0 : wx.cell? ⟨g, 0, none⟩ = some (.int .i64 k)
  c1 : wx.cell? ⟨g, 1, none⟩ = some (.int .u32 c)
  c2 : wx.cell? ⟨g, 2, none⟩ = some (.int .u32 s)
  c3 : wx.cell? ⟨g, 3, none⟩ = some (.int .u32 n)
  c4 : wx.cell? ⟨g, 4, none⟩ = some (.int .i64 f)
  c5 : wx.cell? ⟨g, 5, none⟩ = some v
theorem box_new (w : World) (k : Int) (c s n : Nat) (f : Int) (v : Value) (wx : World) (hb : Below (w.alloc (.cells #[.int .i64 k, .int .u32 c, .int .u32 s, .int .u32 n, .int .i64 f, v] 57)).heap.size (w.alloc (.cells #[.int .i64 k, .int .u32 c, .int .u32 s, .int .u32 n, .int .i64 f, v] 57)) wx) :
    Box wx w.heap.size k c s n f v := by
  have h : ∀ i, wx.cell? ⟨w.heap.size, i, none⟩ = (w.alloc (.cells #[.int .i64 k, .int .u32 c, .int .u32 s, .int .u32 n, .int .i64 f, v] 57)).cell? ⟨w.heap.size, i, none⟩ := fun i => hb.cell (p := ⟨w.heap.size, i, none⟩) (by simp)
  exact ⟨(h 0).trans (by simp), (h 1).trans (by simp), (h 2).trans (by simp), (h 3).trans (by simp), (h 4).trans (by simp), (h 5).trans (by simp)⟩
set_option maxRecDepth 100000 in
set_option maxHeartbeats 1000000 in
theorem encode_bad (k : Int) (c s n : Nat) (f : Int) (a : Option Addr) (len cap : Nat) (w : World) (hE : LW k c s n f len len ≠ 0) :
    Calls Tryz.prog 200 #[.agg #[.int .i64 k, .int .u32 c, .int .u32 s, .int .u32 n, .int .i64 f, .slice a len cap]] w fun e w' => e = .returned (.tuple #[.slice none 0 0, .int .i64 (LW k c s n f len len)]) ∧ Below w.heap.size w w' := by
  have hb : Below w.heap.size w (w.alloc (.cells #[.int .i64 k, .int .u32 c, .int .u32 s, .int .u32 n, .int .i64 f, .slice a len cap] 57)) := (Below.refl _ _).alloc (Nat.le_refl _) _
  have hF := lawful_any k c s n f a len cap (w.alloc (.cells #[.int .i64 k, .int .u32 c, .int .u32 s, .int .u32 n, .int .i64 f, .slice a len cap] 57))
  generalize LW k c s n f len len = E at *
  have q : (E == 0) = false := by simpa using hE
  go_enter Tryz.func200, Tryz.ntmps200
  go_wp2_with fail
  refine hF.mono ?_
  rintro e w1 ⟨rfl, hb1⟩
  have hb2 := below_all hb hb.size hb1
  clear hb hF hb1
  go_wp2_with fail
  go_ret2
  exact ⟨rfl, hb2⟩
set_option maxRecDepth 100000 in
set_option maxHeartbeats 2000000 in
theorem encode_good (K c s n F : Nat) (a : Option Addr) (len cap : Nat) (bs : Nat → Nat) (w : World) (hr : Row8 w a len cap bs) (hE : LW K c s n F len len = 0) :
    Calls Tryz.prog 200 #[.agg #[.int .i64 K, .int .u32 c, .int .u32 s, .int .u32 n, .int .i64 F, .slice a len cap]] w fun e w' => ∃ v, e = .returned (.tuple #[v, .int .i64 0]) ∧
      Hid (w'.ownsRow w.heap.size 5 1 v (15 + len + 4) (CB (PM.sl (fr K c s n F len bs) (15 + len)) (15 + len + 4)) ∧ Below w.heap.size w w') := by
  obtain ⟨i0, hi, hz0, hz1, hz2⟩ := info_parts info_u8
  obtain ⟨hkk, _, _, hll, hff⟩ := LW_zero hE
  have hA : Below w.heap.size w (w.alloc (.cells #[.int .i64 K, .int .u32 c, .int .u32 s, .int .u32 n, .int .i64 F, .slice a len cap] 57)) := (Below.refl _ _).alloc (Nat.le_refl _) _
  have hL := lawful_any K c s n F a len cap (w.alloc (.cells #[.int .i64 K, .int .u32 c, .int .u32 s, .int .u32 n, .int .i64 F, .slice a len cap] 57))
  rw [hE] at hL
  have hX := box_new w K c s n F (.slice a len cap)
  have hAs : w.heap.size < (w.alloc (.cells #[.int .i64 K, .int .u32 c, .int .u32 s, .int .u32 n, .int .i64 F, .slice a len cap] 57)).heap.size := by simp
  have hrA := hr.below hA
  clear hE
  go_enter Tryz.func200, Tryz.ntmps200
  go_wp2_with fail
  refine hL.mono ?_
  rintro e w1 ⟨rfl, hb1⟩
  generalize w.alloc (.cells #[.int .i64 K, .int .u32 c, .int .u32 s, .int .u32 n, .int .i64 F, .slice a len cap] 57) = wa at *
  have X1 := hX w1 hb1
  obtain ⟨N, hN⟩ : ∃ N, N = 15 + len := ⟨_, rfl⟩
  have HN : Hid (N = 15 + len) := hN
  have hNI : (15 : Int) + (len : Int) = (N : Int) := by omega
  have x5 := X1.c5
  have hs1 := hb1.size
  have hbase : wa.heap.size ≤ w1.heap.size := hs1
  have hN15 : 15 ≤ N := by omega
  have hN23 : N ≤ 23 := by omega
  clear hL X1 hr hN
  go_wp2_with (at_make; refine wpList_make8 _ rfl (.tmp 14) (.tmp 14) 25 rfl wa.heap.size 5 i0 Tryz.underlying25 hi hz0 hz1 hz2 _ _ _ _ N N rfl rfl rfl rfl (Nat.le_refl _) (by omega) hbase ?_)
  intro w2 hown2 hbel2
  have hB2 : Below wa.heap.size wa w2 := hb1.trans hbel2
  have X2 := hX w2 hB2
  have x0 := X2.c0
  have hBg : wa.heap.size ≤ w1.heap.size := hbase
  generalize w1.heap.size = g at *
  have hcx := hown2.cellAt 0 (by omega)
  rw [CB_get _ _ _ (show 0 < N by omega)] at hcx
  have hfx := hown2.frozenAt 0
  have hown3 := (hown2.stored 0 (.int .u8 ((K : Nat) : Int))).1
  rw [CB_set] at hown3
  have hB3 := hB2.setCell (p := ⟨g, 0, none⟩) hBg (.int .u8 ((K : Nat) : Int))
  have hKm : (K : Int) % 256 = (K : Int) := by omega
  have hN0 : (0 : Int) < (N : Int) := by omega
  clear hb1 hbel2 hown2 hB2 X2 hbase hs1 x5
  go_upto_region 6 with fail
  generalize w2.setCell ⟨g, 0, none⟩ (.int .u8 (K : Int)) = w3 at *
  have hN1 : ¬ N = 1 := by omega
  have hN5 : ¬ N = 5 := by omega
  have hN9 : ¬ N = 9 := by omega
  have hI1 : (1 : Int) ≤ (N : Int) := by omega
  have hI5 : (5 : Int) ≤ (N : Int) := by omega
  have hI9 : (9 : Int) ≤ (N : Int) := by omega
  have hI13 : (13 : Int) < (N : Int) := by omega
  have hI14 : (14 : Int) < (N : Int) := by omega
  have hI15 : (15 : Int) ≤ (N : Int) := by omega
  have hne : ¬ w.heap.size = g := by omega
  have hne' : ¬ g = w.heap.size := by omega
  have hFm : (F : Int) % 256 = (F : Int) := by omega
  have hlm : (len : Int) % 256 = (len : Int) := by omega
  clear hcx hfx x0
  have X3 := hX w3 hB3
  have x1 := X3.c1
  have hP := fun L C hL => putWord_own wa.heap.size g N N 1 L C c (fun i => if i = 0 then K else 0) wa w3.drew hown3 hB3.drew hBg (by omega) hL
  go_upto_region 6 with fail
  go_cut [25] (fun _ wx => Hid (wx.ownsRow wa.heap.size 5 1 (.slice (some ⟨g, 0, none⟩) N N) N (CB (fun i => if 1 ≤ i ∧ i < 1 + 4 then PM.w4 c (i - 1) else if i = 0 then K else 0) N) ∧ Below wa.heap.size wa wx))
  case first =>
    go_region_with (go_at_call 218; refine (hP _ _ (by omega)).mono ?_; rintro e w9 ⟨rfl, H9⟩)
    all_goals (go_wp2_with fail; go_meet; exact H9)
  case rest =>
    obtain ⟨w4, rfl⟩ : ∃ x, x = wc := ⟨_, rfl⟩
    obtain ⟨own_w4, bel_w4⟩ := hcut
    clear hP X3 x1 hown3 hB3
    have X4 := hX w4 bel_w4
    have x2 := X4.c2
    have hP := fun L C hL => putWord_own wa.heap.size g N N 5 L C s (fun i => if 1 ≤ i ∧ i < 1 + 4 then PM.w4 c (i - 1) else if i = 0 then K else 0) wa w4.drew own_w4 bel_w4.drew hBg (by omega) hL
    go_upto_region 7 with fail
    go_cut [30] (fun _ wx => Hid (wx.ownsRow wa.heap.size 5 1 (.slice (some ⟨g, 0, none⟩) N N) N (CB (fun i => if 5 ≤ i ∧ i < 5 + 4 then PM.w4 s (i - 5) else if 1 ≤ i ∧ i < 1 + 4 then PM.w4 c (i - 1) else if i = 0 then K else 0) N) ∧ Below wa.heap.size wa wx))
    case first =>
      go_region_with (go_at_call 218; refine (hP _ _ (by omega)).mono ?_; rintro e w9 ⟨rfl, H9⟩)
      all_goals (go_wp2_with fail; go_meet; exact H9)
    case rest =>
      obtain ⟨w5, rfl⟩ : ∃ x, x = wc := ⟨_, rfl⟩
      obtain ⟨own_w5, bel_w5⟩ := hcut
      clear hP X4 x2 own_w4 bel_w4
      have X5 := hX w5 bel_w5
      have x3 := X5.c3
      have hP := fun L C hL => putWord_own wa.heap.size g N N 9 L C n (fun i => if 5 ≤ i ∧ i < 5 + 4 then PM.w4 s (i - 5) else if 1 ≤ i ∧ i < 1 + 4 then PM.w4 c (i - 1) else if i = 0 then K else 0) wa w5.drew own_w5 bel_w5.drew hBg (by omega) hL
      go_upto_region 8 with fail
      go_cut [35] (fun _ wx => Hid (wx.ownsRow wa.heap.size 5 1 (.slice (some ⟨g, 0, none⟩) N N) N (CB (fun i => if 9 ≤ i ∧ i < 9 + 4 then PM.w4 n (i - 9) else if 5 ≤ i ∧ i < 5 + 4 then PM.w4 s (i - 5) else if 1 ≤ i ∧ i < 1 + 4 then PM.w4 c (i - 1) else if i = 0 then K else 0) N) ∧ Below wa.heap.size wa wx))
      case first =>
        go_region_with (go_at_call 218; refine (hP _ _ (by omega)).mono ?_; rintro e w9 ⟨rfl, H9⟩)
        all_goals (go_wp2_with fail; go_meet; exact H9)
      case rest =>
        obtain ⟨w6, rfl⟩ : ∃ x, x = wc := ⟨_, rfl⟩
        obtain ⟨own_w6, bel_w6⟩ := hcut
        clear hP X5 x3 own_w5 bel_w5
        have X6 := hX w6 bel_w6
        have x4 := X6.c4
        have x5 := X6.c5
        have hc13 := own_w6.cellAt 13 (by omega)
        rw [CB_get _ _ _ (show 13 < N by omega)] at hc13
        have hf13 := own_w6.frozenAt 13
        have own_a := (own_w6.stored 13 (.int .u8 ((F : Nat) : Int))).1
        rw [CB_set] at own_a
        have bel_a := bel_w6.setCell (p := ⟨g, 13, none⟩) hBg (.int .u8 ((F : Nat) : Int))
        have hc14 := own_a.cellAt 14 (by omega)
        rw [CB_get _ _ _ (show 14 < N by omega)] at hc14
        have hf14 := own_a.frozenAt 14
        have own_b := (own_a.stored 14 (.int .u8 ((len : Nat) : Int))).1
        rw [CB_set] at own_b
        have bel_b := bel_a.setCell (p := ⟨g, 14, none⟩) hBg (.int .u8 ((len : Nat) : Int))
        clear own_w6 bel_w6 X6 own_a bel_a
        go_upto_region 11 with fail
        generalize (w6.setCell ⟨g, 13, none⟩ (.int .u8 (F : Int))).setCell ⟨g, 14, none⟩ (.int .u8 (len : Int)) = w7 at *
        have X7 := hX w7 bel_b
        have y5 := X7.c5
        have R7 := hrA.below bel_b.drew
        obtain ⟨dp, hif⟩ : ∃ dp, (if N = 15 then some (⟨g, 0, none⟩ : Addr) else some ⟨g, 15, none⟩) = dp := ⟨_, rfl⟩
        have HDP : Hid (0 < len → dp = some ⟨g, 15, none⟩) := fun h => by rw [← hif]; exact if_neg (by have := HN.out; omega)
        go_cut [51] (fun _ wx => Hid (wx.ownsRow wa.heap.size 5 1 (.slice (some ⟨g, 0, none⟩) N N) N (CB (fun i => if 15 ≤ i ∧ i < 15 + len then bs (i - 15) else if i = 14 then len else if i = 13 then F else if 9 ≤ i ∧ i < 9 + 4 then PM.w4 n (i - 9) else if 5 ≤ i ∧ i < 5 + 4 then PM.w4 s (i - 5) else if 1 ≤ i ∧ i < 1 + 4 then PM.w4 c (i - 1) else if i = 0 then K else 0) N) ∧ Below wa.heap.size wa wx))
        case first =>
          go_region_law (refine step_copy8 rfl (.tmp 48) (.tmp 50) rfl wa.heap.size g N N 15 len cap (N - 15) (N - 15) dp a (fun i => if i = 14 then len else if i = 13 then F else if 9 ≤ i ∧ i < 9 + 4 then PM.w4 n (i - 9) else if 5 ≤ i ∧ i < 5 + 4 then PM.w4 s (i - 5) else if 1 ≤ i ∧ i < 1 + 4 then PM.w4 c (i - 1) else if i = 0 then K else 0) bs (by simp [Act.eval]) (by simp [Act.eval]) (by have := HN.out; omega) HDP.out (by have := HN.out; omega) own_b R7 wa bel_b.drew ?_; intro w9 H9)
          all_goals (go_wp2_with fail; go_meet; exact H9)
        case rest =>
          obtain ⟨w8, rfl⟩ : ∃ x, x = wc := ⟨_, rfl⟩
          obtain ⟨own8, bel8⟩ := hcut
          rw [CB_congr _ (fr K c s n F len bs) N (fun j hj => fr_build K c s n F len bs j (by rw [← HN.out]; exact hj))] at own8
          have hby : ∀ i, i < N → fr K c s n F len bs i < 256 := fun i hi => fr_lt (by omega) (by omega) (by omega) hrA.byte i (by rw [← HN.out]; exact hi)
          have R8 := own_row8s own8 hby
          have hS := seal_row _ N N _ w8 R8 (by omega)
          have hs8 := bel8.size
          have hBB : Below w.heap.size w w8 := hA.trans (bel8.mono (Nat.le_of_lt hAs))
          clear own8 bel8 R8 hX X7 y5 R7 own_b bel_b HDP hif hc13 hc14 hf13 hf14 x4 x5 hrA
          go_wp2_with fail
          refine hS.mono ?_
          rintro e w9 ⟨v, rfl, own9, bel9⟩
          clear hS
          go_wp2_with fail
          go_ret2
          refine ⟨v, rfl, ?_, below_all hBB (by omega) bel9⟩
          rw [← HN.out]
          exact own_base own9 (by omega)

end Go.Proofs.YtmleiemlfogffaaGreat
