/- Part 35 of the texts on which the proofs of layer 13 rest: contracts of Go functions. -/
import Derived.Test.YtpgdghjlfdehjaaGreatPkH00
import Derived.Test.YtpgdghjlfdehjaaGreatPkH24
import Derived.Test.YtpgdghjlfdehjaaGreatPkH33
namespace Go.Proofs.YtpgdghjlfdehjaaGreat
set_option maxRecDepth 100000
open Go.RowKit
theorem newH_all (c : Nat) (o i t : Int) (n : Nat) (w : World) (hc : c < 4294967296) (hn : n < 4294967296) :
    Calls Tryz.prog 34 #[.agg #[.int .u32 c, .int .i64 o, .int .i64 i, .int .i64 t, .int .u32 n]] w fun e w' => (okP c o i t n → ∃ d, e = .returned (.tuple #[.pointer (some ⟨d, 0, none⟩), .int .i64 0]) ∧ Below w.heap.size w w') ∧ (¬ okP c o i t n → e = .returned (.tuple #[.pointer none, .int .i64 90]) ∧ Below w.heap.size w w') := by
  by_cases hE : okP c o i t n
  · obtain ⟨o', rfl⟩ : ∃ k : Nat, o = (k : Int) := ⟨o.toNat, by have := hE.2.1; omega⟩
    obtain ⟨i', rfl⟩ : ∃ k : Nat, i = (k : Int) := ⟨i.toNat, by have := hE.2.2.1; omega⟩
    obtain ⟨t', rfl⟩ : ∃ k : Nat, t = (k : Int) := ⟨t.toNat, by have := hE.2.2.2.1; omega⟩
    refine (newH_any ⟨c, o', i', t', n⟩ ⟨hE, hc, hn⟩ w).mono ?_
    rintro e w' ⟨d, rfl, h⟩
    exact ⟨fun _ => ⟨d, rfl, h.out.1⟩, fun k => absurd hE k⟩
  · refine (newH_bad c o i t n w hE).mono ?_
    rintro e w' ⟨rfl, h⟩
    exact ⟨fun k => absurd k hE, fun _ => ⟨rfl, h⟩⟩
set_option maxHeartbeats 6400000 in
theorem hnil_core (c : Nat) (o i t : Int) (n : Nat) (a : Option Addr) (len cap : Nat) (bs : Nat → Nat) (k : Int) (w : World) (R : Row8 w a len cap bs) (hl : len ≤ 140737488351232) (E : Int) (D : Bool) (p : World → World → Option Addr → Prop) (hN : ∀ w, Calls Tryz.prog 34 #[.agg #[.int .u32 c, .int .i64 o, .int .i64 i, .int .i64 t, .int .u32 n]] w fun e w' => ∃ q, e = .returned (.tuple #[.pointer q, .int .i64 E]) ∧ Hid (Below w.heap.size w w' ∧ p w w' q)) (hq : ∀ w w' q, p w w' q → (E = 0 ∧ ∃ d, q = some ⟨d, 0, none⟩) ∨ (E = 90 ∧ q = none)) (hD : decide (okP c o i t n) = D) (hE : (E = 0 ∧ D = true) ∨ (E = 90 ∧ D = false)) :
    Calls Tryz.prog 12 #[.agg #[.int .u32 c, .int .i64 o, .int .i64 i, .int .i64 t, .int .u32 n], .slice a len cap, .int .i64 k] w fun e w' => e = .returned (.bool true) ∧ Below w.heap.size w w' := by
  have b0 : Below w.heap.size w (w.alloc (.cells #[.int .u32 c, .int .i64 o, .int .i64 i, .int .i64 t, .int .u32 n] 26)) := (Below.refl _ _).alloc (Nat.le_refl _) _
  have hA := awake14 (w.alloc (.cells #[.int .u32 c, .int .i64 o, .int .i64 i, .int .i64 t, .int .u32 n] 26))
  have hX := heap_alloc_new w (.cells #[.int .u32 c, .int .i64 o, .int .i64 i, .int .i64 t, .int .u32 n] 26)
  have hs : (w.alloc (.cells #[.int .u32 c, .int .i64 o, .int .i64 i, .int .i64 t, .int .u32 n] 26)).heap.size = w.heap.size + 1 := by simp
  obtain ⟨i0, hi, hz0, hz1, hz2⟩ := info_parts info_u8
  have hbd := build0D
  have H0 : Hid (_) := And.intro b0 (And.intro hX (And.intro hs R))
  have HD : Hid (_) := hD
  have HN : Hid (_) := hN
  have HQ : Hid (_) := hq
  clear b0 hX hs R hD hN hq
  rcases hE with ⟨rfl, rfl⟩ | ⟨rfl, rfl⟩
  all_goals
    go_enter Tryz.func12, Tryz.ntmps12
    go_wp2_with fail
    refine hA.mono ?_
    rintro e w1 ⟨rfl, b1⟩
    obtain ⟨b0, hX, hs, R⟩ := H0.out
    have hlt : w.heap.size < w1.heap.size := by have := b1.size; omega
    have e1 : w1.heap[w.heap.size]? = _ := (b1.block _ (by omega)).trans hX
    have b01 : Below w.heap.size w w1 := b0.trans (b1.mono (by omega))
    have q1 := hsend_nil w1
    have q2 := hlog_nil w1
    have p0 := cell_of_row w1 w.heap.size 0 _ _ _ e1
    have p1 := cell_of_row w1 w.heap.size 1 _ _ _ e1
    have p2 := cell_of_row w1 w.heap.size 2 _ _ _ e1
    have p3 := cell_of_row w1 w.heap.size 3 _ _ _ e1
    have p4 := cell_of_row w1 w.heap.size 4 _ _ _ e1
    have H1 : Hid (_) := And.intro b01 (And.intro e1 (And.intro hlt R))
    clear b0 hX hs R hlt e1 b01 H0 hA b1
    go_wp2_with (first
      | (go_at_call 40; refine q1.mono ?_; rintro e w' ⟨rfl, hw⟩; have hw := hw.symm; subst hw)
      | (go_at_call 44; refine q2.mono ?_; rintro e w' ⟨rfl, hw⟩; have hw := hw.symm; subst hw))
    refine (HN.out w1).mono ?_
    rintro e w3 ⟨q, rfl, h3⟩
    obtain ⟨b3, hp⟩ := h3.out
    have e3 := (b3.block _ H1.out.2.2.1).trans H1.out.2.1
    have p0 := cell_of_row w3 w.heap.size 0 _ _ _ e3
    have p1 := cell_of_row w3 w.heap.size 1 _ _ _ e3
    have p2 := cell_of_row w3 w.heap.size 2 _ _ _ e3
    have p3 := cell_of_row w3 w.heap.size 3 _ _ _ e3
    have p4 := cell_of_row w3 w.heap.size 4 _ _ _ e3
    have H3 : Hid (_) := And.intro (H1.out.1.trans (b3.mono H1.out.1.size)) H1.out.2.2.2
    have hqq := HQ.out _ _ _ hp
    clear q1 q2 e3 b3 hp h3 H1
    rcases hqq with ⟨z0, d, rfl⟩ | ⟨z0, rfl⟩ <;> first | (exfalso; omega) | skip
    clear z0
    go_wp2_with fail
    refine (rlaw_any c o i t n w3 _ HD.out).mono ?_
    rintro e w4 ⟨rfl, b4⟩
    have b04 := H3.out.1.trans (b4.mono H3.out.1.size)
    have hbelA : Below w4.heap.size w4 (w4.alloc (.cells #[] 5)) := (Below.refl _ _).alloc (Nat.le_refl _) _
    have R0 := (H3.out.2.below b04).below hbelA
    have O0 := own0D w4.heap.size bs w4 (Nat.le_refl _)
    have hszA := hbelA.size
    have H4 : Hid (_) := And.intro b04 H3.out.2
    clear b04 b4 H3 p0 p1 p2 p3 p4
    go_wp2_with (at_builtin; refine wpList_let (by kernel_rfl) ?_; refine wpList_append_row8 rfl (.tmp 52) (.tmp 53) 42 rfl w4.heap.size 5 i0 (.int .u8 0) Tryz.underlying42 hi hz0 hz1 hz2 rfl _ 0 _ rfl O0 a len cap bs rfl R0 (by unfold maxLen; omega) (by omega) hszA ?_)
    intro v5 w5 hown5 hgrow5
    have hbel5 : Below w4.heap.size w4 w5 := hbelA.grown hgrow5 hszA (fun k hk => (O0.lt k hk).1)
    rw [show CB bs 0 = [] from rfl, List.nil_append] at hown5
    obtain ⟨a5, k5, rfl, R5⟩ := own_row8 (by simpa using hown5) (H4.out.2).byte
    have q1 := hreceive_nil a5 len k5 w5
    have b05 := H4.out.1.trans (hbel5.mono H4.out.1.size)
    have hbelB : Below w5.heap.size w5 (w5.alloc (.cells #[] 5)) := (Below.refl _ _).alloc (Nat.le_refl _) _
    have R1 := (H4.out.2.below b05).below hbelB
    have O1 := own0D w5.heap.size bs w5 (Nat.le_refl _)
    have hszB := hbelB.size
    have H5 : Hid (_) := And.intro b05 H4.out.2
    clear hown5 hgrow5 hbel5 O0 R0 hbelA R5 H4 hszA b05
    go_wp2_with (first
      | (go_at_call 45; refine q1.mono ?_; rintro e w' ⟨rfl, hw⟩; have hw := hw.symm; subst hw)
      | (at_builtin; refine wpList_append_row8 rfl (.tmp 68) (.tmp 69) 42 rfl w5.heap.size 5 i0 (.int .u8 0) Tryz.underlying42 hi hz0 hz1 hz2 rfl _ 0 _ rfl O1 a len cap bs rfl R1 (by unfold maxLen; omega) (by omega) hszB ?_))
    intro v6 w6 hown6 hgrow6
    have hbel6 : Below w5.heap.size w5 w6 := hbelB.grown hgrow6 hszB (fun k hk => (O1.lt k hk).1)
    rw [show CB bs 0 = [] from rfl, List.nil_append] at hown6
    obtain ⟨a6, k6, rfl, R6⟩ := own_row8 (by simpa using hown6) (H5.out.2).byte
    have q1 := hwrite_nil a6 len k6 true w6
    have q2 := htick_nil k w6
    have q3 := hack_nil w6
    have q4 := hreset_nil w6
    have q5 := hcode_nil w6
    have q6 := hsee_nil w6
    have H6 : Hid (_) := H5.out.1.trans (hbel6.mono H5.out.1.size)
    unfold zEnd at q6
    clear hown6 hgrow6 hbel6 O1 R1 hbelB R6 H5 hszB
    go_wp2_with (first
      | (go_at_call 47; refine q1.mono ?_; rintro e w' ⟨rfl, hw⟩; have hw := hw.symm; subst hw)
      | (go_at_call 48; refine q2.mono ?_; rintro e w' ⟨rfl, hw⟩; have hw := hw.symm; subst hw)
      | (go_at_call 49; refine q3.mono ?_; rintro e w' ⟨rfl, hw⟩; have hw := hw.symm; subst hw)
      | (go_at_call 50; refine q4.mono ?_; rintro e w' ⟨rfl, hw⟩; have hw := hw.symm; subst hw)
      | (go_at_call 51; refine q5.mono ?_; rintro e w' ⟨rfl, hw⟩; have hw := hw.symm; subst hw))
    refine q6.mono ?_
    rintro e w7 ⟨rfl, b7⟩
    have q7 := same13_any 0 0 0 0 0 0 false false none none 0 0 0 0 (fun _ => 0) (fun _ => 0) w7 (row_nilX _ _) (row_nilX _ _) rfl
    have H7 : Hid (_) := H6.out.trans (b7.mono H6.out.size)
    clear q1 q2 q3 q4 q5 q6 b7 H6
    go_wp2_with (go_at_call 32; refine q7.mono ?_; rintro e w8 ⟨rfl, b8⟩)
    go_ret
    exact ⟨rfl, H7.out.trans (b8.mono H7.out.size)⟩
theorem nat32H {x : Int} (h : (Lit.int .u32 x).wf = true) : ∃ n : Nat, x = n ∧ n < 4294967296 := by
  have := bounds_u32 h
  exact ⟨x.toNat, by omega, by omega⟩
theorem hostNil_walk (a0_0 : Int) (a0_1 : Int) (a0_2 : Int) (a0_3 : Int) (a0_4 : Int) (a1 : Option Addr) (len1 cap1 : Nat) (z1 : List Int) (a2 : Int) (w : World) (w0_0 : (Lit.int .u32 a0_0).wf = true) (_ : (Lit.int .i64 a0_1).wf = true) (_ : (Lit.int .i64 a0_2).wf = true) (_ : (Lit.int .i64 a0_3).wf = true) (w0_4 : (Lit.int .u32 a0_4).wf = true) (w1 : BRow .u8 w a1 len1 cap1 z1) (_ : (Lit.int .i64 a2).wf = true) (s1 : len1 ≤ 140737488351232) :
    Calls Tryz.prog 12 #[.agg #[.int .u32 a0_0, .int .i64 a0_1, .int .i64 a0_2, .int .i64 a0_3, .int .u32 a0_4], .slice a1 len1 cap1, .int .i64 a2] w fun e w' => e = .returned (.bool true) ∧ Below w.heap.size w w' := by
  obtain ⟨c, rfl, hc⟩ := nat32H w0_0
  obtain ⟨n, rfl, hn⟩ := nat32H w0_4
  by_cases hE : okP c a0_1 a0_2 a0_3 n
  · exact hnil_core c a0_1 a0_2 a0_3 n a1 len1 cap1 _ a2 w w1.row8 s1 0 true (fun _ _ q => ∃ d, q = some ⟨d, 0, none⟩) (fun w => (newH_all c a0_1 a0_2 a0_3 n w hc hn).mono (fun e w' h => by obtain ⟨d, rfl, b⟩ := h.1 hE; exact ⟨_, rfl, b, d, rfl⟩)) (fun _ _ _ h => .inl ⟨rfl, h⟩) (decide_eq_true hE) (.inl ⟨rfl, rfl⟩)
  · exact hnil_core c a0_1 a0_2 a0_3 n a1 len1 cap1 _ a2 w w1.row8 s1 90 false (fun _ _ q => q = none) (fun w => (newH_all c a0_1 a0_2 a0_3 n w hc hn).mono (fun e w' h => by obtain ⟨rfl, b⟩ := h.2 hE; exact ⟨_, rfl, b, rfl⟩)) (fun _ _ _ h => .inr ⟨rfl, h⟩) (decide_eq_false hE) (.inr ⟨rfl, rfl⟩)
end Go.Proofs.YtpgdghjlfdehjaaGreat
