/- Part 47 of the texts on which the proofs of layer 13 rest: contracts of Go functions. -/
import Derived.Test.YtmleiemlfogffaaGreatPkA00
import Derived.Test.YtmleiemlfogffaaGreatPkA18
import Derived.Test.YtmleiemlfogffaaGreatPkA24
namespace Go.Proofs.YtmleiemlfogffaaGreat
set_option maxRecDepth 100000
open Go.RowKit
set_option maxHeartbeats 6400000 in
theorem dnil_core (c : Nat) (o i t : Int) (n : Nat) (a : Option Addr) (len cap : Nat) (bs : Nat → Nat) (k : Int) (w : World) (R : Row8 w a len cap bs) (hl : len ≤ 140737488351232) (E : Int) (D : Bool) (hN : ∀ w, Calls Tryz.prog 12 #[.agg #[.int .u32 c, .int .i64 o, .int .i64 i, .int .i64 t, .int .u32 n], .pointer none, .int .u32 5] w fun e w' => e = .returned (.tuple #[.pointer none, .int .i64 E]) ∧ Below w.heap.size w w') (hD : decide (okP c o i t n) = D) (hE : (D = true ∧ E = 1) ∨ (D = false ∧ E = 90)) :
    Calls Tryz.prog 8 #[.agg #[.int .u32 c, .int .i64 o, .int .i64 i, .int .i64 t, .int .u32 n], .slice a len cap, .int .i64 k] w fun e w' => e = .returned (.bool true) ∧ Below w.heap.size w w' := by
  have b0 : Below w.heap.size w (w.alloc (.cells #[.int .u32 c, .int .i64 o, .int .i64 i, .int .i64 t, .int .u32 n] 24)) := (Below.refl _ _).alloc (Nat.le_refl _) _
  have hA := awake13 (w.alloc (.cells #[.int .u32 c, .int .i64 o, .int .i64 i, .int .i64 t, .int .u32 n] 24))
  have hX := heap_alloc_new w (.cells #[.int .u32 c, .int .i64 o, .int .i64 i, .int .i64 t, .int .u32 n] 24)
  have hs : (w.alloc (.cells #[.int .u32 c, .int .i64 o, .int .i64 i, .int .i64 t, .int .u32 n] 24)).heap.size = w.heap.size + 1 := by simp
  obtain ⟨i0, hi, hz0, hz1, hz2⟩ := info_parts info_u8
  have hbd := build0D
  have H0 : Hid (_) := And.intro b0 (And.intro hX (And.intro hs R))
  have HD : Hid (_) := hD
  have HN : Hid (_) := hN
  clear b0 hX hs R hD hN
  rcases hE with ⟨rfl, rfl⟩ | ⟨rfl, rfl⟩
  all_goals
    go_enter Tryz.func8, Tryz.ntmps8
    go_wp2_with fail
    refine hA.mono ?_
    rintro e w1 ⟨rfl, b1⟩
    obtain ⟨b0, hX, hs, R⟩ := H0.out
    have hlt : w.heap.size < w1.heap.size := by have := b1.size; omega
    have e1 : w1.heap[w.heap.size]? = _ := (b1.block _ (by omega)).trans hX
    have b01 : Below w.heap.size w w1 := b0.trans (b1.mono (by omega))
    have hbelA : Below w1.heap.size w1 (w1.alloc (.cells #[] 5)) := (Below.refl _ _).alloc (Nat.le_refl _) _
    have R0 := (R.below b01).below hbelA
    have O0 := own0D w1.heap.size bs w1 (Nat.le_refl _)
    have hszA := hbelA.size
    have H1 : Hid (_) := And.intro b01 (And.intro e1 (And.intro hlt R))
    clear b0 hX hs R hlt e1 b01 H0 hA b1
    go_wp2_with (at_builtin; refine wpList_append_row8 rfl (.tmp 19) (.tmp 20) 25 rfl w1.heap.size 5 i0 (.int .u8 0) Tryz.underlying25 hi hz0 hz1 hz2 rfl _ 0 _ rfl O0 a len cap bs rfl R0 (by unfold maxLen; omega) (by omega) hszA ?_)
    intro v2 w2 hown2 hgrow2
    have hbel2 : Below w1.heap.size w1 w2 := hbelA.grown hgrow2 hszA (fun k hk => (O0.lt k hk).1)
    rw [show CB bs 0 = [] from rfl, List.nil_append] at hown2
    obtain ⟨a2, k2, rfl, R2⟩ := own_row8 (by simpa using hown2) (H1.out.2.2.2).byte
    have q1 := receive_nil a2 len k2 w2
    have q2 := log_nil w2
    have e2 := (hbel2.block _ H1.out.2.2.1).trans H1.out.2.1
    have p0 := cell_of_row w2 w.heap.size 0 _ _ _ e2
    have p1 := cell_of_row w2 w.heap.size 1 _ _ _ e2
    have p2 := cell_of_row w2 w.heap.size 2 _ _ _ e2
    have p3 := cell_of_row w2 w.heap.size 3 _ _ _ e2
    have p4 := cell_of_row w2 w.heap.size 4 _ _ _ e2
    have H2 : Hid (_) := And.intro (H1.out.1.trans (hbel2.mono H1.out.1.size)) (And.intro e2 (And.intro (Nat.lt_of_lt_of_le H1.out.2.2.1 hbel2.size) H1.out.2.2.2))
    clear hown2 hgrow2 hbel2 O0 R0 hbelA e2 R2 H1 hszA
    go_wp2_with (first
      | (go_at_call 25; refine q1.mono ?_; rintro e w' ⟨rfl, hw⟩; have hw := hw.symm; subst hw)
      | (go_at_call 24; refine q2.mono ?_; rintro e w' ⟨rfl, hw⟩; have hw := hw.symm; subst hw))
    refine (HN.out w2).mono ?_
    rintro e w3 ⟨rfl, b3⟩
    have e3 := (b3.block _ H2.out.2.2.1).trans H2.out.2.1
    have p0 := cell_of_row w3 w.heap.size 0 _ _ _ e3
    have p1 := cell_of_row w3 w.heap.size 1 _ _ _ e3
    have p2 := cell_of_row w3 w.heap.size 2 _ _ _ e3
    have p3 := cell_of_row w3 w.heap.size 3 _ _ _ e3
    have p4 := cell_of_row w3 w.heap.size 4 _ _ _ e3
    have H3 : Hid (_) := And.intro (H2.out.1.trans (b3.mono H2.out.1.size)) H2.out.2.2.2
    clear q1 q2 e3 b3 H2
    go_wp2_with fail
    refine (rlaw_any c o i t n w3 _ HD.out).mono ?_
    rintro e w4 ⟨rfl, b4⟩
    have b04 := H3.out.1.trans (b4.mono H3.out.1.size)
    have hbelA : Below w4.heap.size w4 (w4.alloc (.cells #[] 5)) := (Below.refl _ _).alloc (Nat.le_refl _) _
    have R0 := (H3.out.2.below b04).below hbelA
    have O0 := own0D w4.heap.size bs w4 (Nat.le_refl _)
    have hszA := hbelA.size
    have H4 : Hid (_) := And.intro b04 H3.out.2
    clear b04 b4 H3 p0 p1 p2 p3 p4
    go_wp2_with (at_builtin; refine wpList_append_row8 rfl (.tmp 64) (.tmp 65) 25 rfl w4.heap.size 5 i0 (.int .u8 0) Tryz.underlying25 hi hz0 hz1 hz2 rfl _ 0 _ rfl O0 a len cap bs rfl R0 (by unfold maxLen; omega) (by omega) hszA ?_)
    intro v5 w5 hown5 hgrow5
    have hbel5 : Below w4.heap.size w4 w5 := hbelA.grown hgrow5 hszA (fun k hk => (O0.lt k hk).1)
    rw [show CB bs 0 = [] from rfl, List.nil_append] at hown5
    obtain ⟨a5, k5, rfl, R5⟩ := own_row8 (by simpa using hown5) (H4.out.2).byte
    have q1 := write_nilD a5 len k5 true w5
    have q2 := tick_nilD k w5
    have q3 := ack_nilD w5
    have q4 := reset_nil k w5
    have q5 := codeD_nil w5
    have q6 := see_nil w5
    have H5 : Hid (_) := H4.out.1.trans (hbel5.mono H4.out.1.size)
    unfold zEnd at q6
    clear hown5 hgrow5 hbel5 O0 R0 hbelA R5 H4 hszA
    go_wp2_with (first
      | (go_at_call 31; refine q1.mono ?_; rintro e w' ⟨rfl, hw⟩; have hw := hw.symm; subst hw)
      | (go_at_call 32; refine q2.mono ?_; rintro e w' ⟨rfl, hw⟩; have hw := hw.symm; subst hw)
      | (go_at_call 33; refine q3.mono ?_; rintro e w' ⟨rfl, hw⟩; have hw := hw.symm; subst hw)
      | (go_at_call 29; refine q4.mono ?_; rintro e w' ⟨rfl, hw⟩; have hw := hw.symm; subst hw)
      | (go_at_call 34; refine q5.mono ?_; rintro e w' ⟨rfl, hw⟩; have hw := hw.symm; subst hw))
    refine q6.mono ?_
    rintro e w6 ⟨rfl, b6⟩
    have q7 := same13_any 0 0 0 0 0 0 false false none none 0 0 0 0 (fun _ => 0) (fun _ => 0) w6 (row_nilX _ _) (row_nilX _ _) rfl
    have H6 : Hid (_) := H5.out.trans (b6.mono H5.out.size)
    clear q1 q2 q3 q4 q5 q6 b6 H5
    go_wp2_with (go_at_call 26; refine q7.mono ?_; rintro e w7 ⟨rfl, b7⟩)
    go_ret
    exact ⟨rfl, H6.out.trans (b7.mono H6.out.size)⟩
theorem nat32D {x : Int} (h : (Lit.int .u32 x).wf = true) : ∃ n : Nat, x = n ∧ n < 4294967296 := by
  have := bounds_u32 h
  exact ⟨x.toNat, by omega, by omega⟩
theorem deviceNil_walk (a0_0 : Int) (a0_1 : Int) (a0_2 : Int) (a0_3 : Int) (a0_4 : Int) (a1 : Option Addr) (len1 cap1 : Nat) (z1 : List Int) (a2 : Int) (w : World) (w0_0 : (Lit.int .u32 a0_0).wf = true) (_ : (Lit.int .i64 a0_1).wf = true) (_ : (Lit.int .i64 a0_2).wf = true) (_ : (Lit.int .i64 a0_3).wf = true) (w0_4 : (Lit.int .u32 a0_4).wf = true) (w1 : BRow .u8 w a1 len1 cap1 z1) (_ : (Lit.int .i64 a2).wf = true) (s1 : len1 ≤ 140737488351232) :
    Calls Tryz.prog 8 #[.agg #[.int .u32 a0_0, .int .i64 a0_1, .int .i64 a0_2, .int .i64 a0_3, .int .u32 a0_4], .slice a1 len1 cap1, .int .i64 a2] w fun e w' => e = .returned (.bool true) ∧ Below w.heap.size w w' := by
  obtain ⟨c, rfl, hc⟩ := nat32D w0_0
  obtain ⟨n, rfl, hn⟩ := nat32D w0_4
  by_cases hE : okP c a0_1 a0_2 a0_3 n
  · exact dnil_core c a0_1 a0_2 a0_3 n a1 len1 cap1 _ a2 w w1.row8 s1 1 true (fun w => newD_nil c a0_1 a0_2 a0_3 n 5 w hE) (decide_eq_true hE) (.inl ⟨rfl, rfl⟩)
  · exact dnil_core c a0_1 a0_2 a0_3 n a1 len1 cap1 _ a2 w w1.row8 s1 90 false (fun w => newD_bad c a0_1 a0_2 a0_3 n none 5 w hE) (decide_eq_false hE) (.inr ⟨rfl, rfl⟩)
end Go.Proofs.YtmleiemlfogffaaGreat
