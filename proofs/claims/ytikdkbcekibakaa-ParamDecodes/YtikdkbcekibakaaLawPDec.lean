/- The walk of the statement ParamDecodes. -/
import Derived.Test.YtikdkbcekibakaaPar4
import Derived.Test.YtikdkbcekibakaaPar5
namespace Go.Proofs.Ytikdkbcekibakaa
open Go.RowKit
set_option maxRecDepth 100000 in
set_option maxHeartbeats 1000000 in
theorem paramDecodes_long (a : Option Addr) (len cap : Nat) (w : World) (h : 1000 < len) :
    Calls Try.prog 4 #[.slice a len cap] w fun e w' => e = .returned (.bool true) ∧ Below w.heap.size w w' := by
  have hw := awake9 w
  have q : decide ((1000 : Int) < (len : Int)) = true := by simp; omega
  clear h
  go_enter Try.func4, Try.ntmps4
  go_wp2_with fail
  refine hw.mono ?_
  rintro e w1 ⟨rfl, hb1⟩
  clear hw
  go_wp2_with fail
  go_ret
  exact ⟨rfl, hb1⟩
/- What no set's bytes are: both say so alike. -/
set_option maxRecDepth 100000 in
set_option maxHeartbeats 2000000 in
theorem paramDecodes_no (a : Option Addr) (len cap : Nat) (bs : Nat → Nat) (w : World) (hr : Row8 w a len cap bs) (h : len ≤ 1000) (E : Int) (hE : (E == 0) = false)
    (hP : ∀ a' c' wx, Row8 wx a' len c' bs → Calls Try.prog 16 #[.slice a' len c'] wx fun e w' => e = .returned (.tuple #[.agg #[.int .u32 0, .int .i64 0, .int .i64 0, .int .i64 0, .int .u32 0], .int .i64 E]) ∧ Below wx.heap.size wx w')
    (hQ : ∀ a' c' wx, Row8 wx a' len c' bs → Calls Try.prog 17 #[.slice a' len c'] wx fun e w' => e = .returned (.tuple #[.agg #[.int .u32 0, .int .i64 0, .int .i64 0, .int .i64 0, .int .u32 0], .int .i64 E]) ∧ Below wx.heap.size wx w') :
    Calls Try.prog 4 #[.slice a len cap] w fun e w' => e = .returned (.bool true) ∧ Below w.heap.size w w' := by
  obtain ⟨i0, hi, hz0, hz1, hz2⟩ := info_parts info_u8
  have hw := awake9 w
  have q : decide ((1000 : Int) < (len : Int)) = false := by simp; omega
  have hby := hr.byte
  go_enter Try.func4, Try.ntmps4
  go_wp2_with fail
  refine hw.mono ?_
  rintro e w1 ⟨rfl, hb1⟩
  clear hw
  have O0 : (w1.alloc (.cells #[] 5)).ownsRow w1.heap.size 5 1 (.slice (some ⟨w1.heap.size, 0, none⟩) 0 0) 0 (CB bs 0) := World.ownsRow_made w1 #[] 0 (Nat.le_refl _) (Nat.zero_le _) rfl
  have hC : Below w1.heap.size w1 (w1.alloc (.cells #[] 5)) := (Below.refl _ _).alloc (Nat.le_refl _) _
  have hsC := hC.size
  have R0 := (hr.below hb1).below hC
  go_wp2_with (at_builtin; refine wpList_append_row8 rfl (.tmp 14) (.tmp 15) 25 rfl w1.heap.size 5 i0 (.int .u8 0) Try.underlying25 hi hz0 hz1 hz2 rfl _ 0 _ rfl O0 _ len _ _ rfl R0 (by unfold maxLen; omega) (by omega) hsC ?_)
  intro v2 w2 own2 G2
  have hb2' : Below w1.heap.size w1 w2 := hC.grown G2 hsC (fun j hj => (O0.lt j hj).1)
  rw [show CB bs 0 = [] from rfl, List.nil_append] at own2
  obtain ⟨a2, c2, rfl, R2⟩ := own_row8 own2 hby
  have hb2 := below_all hb1 hb1.size hb2'
  have hP2 := hP a2 c2 w2 R2
  clear O0 hC hsC R0 G2 own2 R2 hP hb1 hb2'
  go_wp2_with fail
  refine hP2.mono ?_
  rintro e w3 ⟨rfl, hb3'⟩
  have hb3 := below_all hb2 hb2.size hb3'
  have X3 := bx_new w3 0 0 0 0 0
  have hA : Below w3.heap.size w3 (w3.alloc (.cells #[.int .u32 0, .int .i64 0, .int .i64 0, .int .i64 0, .int .u32 0] 24)) := (Below.refl _ _).alloc (Nat.le_refl _) _
  have hAs : w3.heap.size < (w3.alloc (.cells #[.int .u32 0, .int .i64 0, .int .i64 0, .int .i64 0, .int .u32 0] 24)).heap.size := by simp
  have hb4 := below_all hb3 hb3.size hA
  have hQ4 := hQ a cap _ (hr.below hb4)
  clear hP2 hb2 hb3' hb3 hA
  go_wp2_with fail
  generalize w3.alloc (.cells #[.int .u32 0, .int .i64 0, .int .i64 0, .int .i64 0, .int .u32 0] 24) = w4 at *
  refine hQ4.mono ?_
  rintro e w5 ⟨rfl, hb5'⟩
  have hb5 := below_all hb4 hb4.size hb5'
  have hb6' := hb5'.alloc hb5'.size (.cells #[.int .u32 0, .int .i64 0, .int .i64 0, .int .i64 0, .int .u32 0] 24)
  obtain ⟨x0, x1, x2, x3, x4⟩ := X3 _ hb6'
  have hb6 := hb5.alloc hb5.size (.cells #[.int .u32 0, .int .i64 0, .int .i64 0, .int .i64 0, .int .u32 0] 24)
  have HB : Hid (_) := hb6
  have hne : ¬ w3.heap.size = w5.heap.size := by have := hb5'.size; omega
  clear hQ4 hb4 hb5' hb5 hb6' hb6 hQ X3 hAs hr hby
  go_wp2_with fail
  go_ret
  exact ⟨rfl, HB.out⟩
theorem neqSame (c O I T n : Int) (w : World) : (binOp .neq 24 (.agg #[.int .u32 c, .int .i64 O, .int .i64 I, .int .i64 T, .int .u32 n]) (.agg #[.int .u32 c, .int .i64 O, .int .i64 I, .int .i64 T, .int .u32 n])).run Try.prog w = .ok (.bool false) w := by
  simp [go_sem]
/- A set's bytes: both say which, and it has these bytes. -/
set_option maxRecDepth 100000 in
set_option maxHeartbeats 2000000 in
theorem paramDecodes_core (a : Option Addr) (len cap : Nat) (bs PE : Nat → Nat) (c O I T n : Nat) (w : World) (hr : Row8 w a len cap bs) (h : len ≤ 1000)
    (hP : ∀ a' c' wx, Row8 wx a' len c' bs → Calls Try.prog 16 #[.slice a' len c'] wx fun e w' => e = .returned (.tuple #[.agg #[.int .u32 (c : Nat), .int .i64 (O : Nat), .int .i64 (I : Nat), .int .i64 (T : Nat), .int .u32 (n : Nat)], .int .i64 0]) ∧ Below wx.heap.size wx w')
    (hQ : ∀ a' c' wx, Row8 wx a' len c' bs → Calls Try.prog 17 #[.slice a' len c'] wx fun e w' => e = .returned (.tuple #[.agg #[.int .u32 (c : Nat), .int .i64 (O : Nat), .int .i64 (I : Nat), .int .i64 (T : Nat), .int .u32 (n : Nat)], .int .i64 0]) ∧ Below wx.heap.size wx w')
    (hEn : ∀ wx, Calls Try.prog 8 #[.agg #[.int .u32 (c : Nat), .int .i64 (O : Nat), .int .i64 (I : Nat), .int .i64 (T : Nat), .int .u32 (n : Nat)]] wx fun e w' => ∃ g, e = .returned (.tuple #[.slice (some ⟨g, 0, none⟩) 14 14, .int .i64 0]) ∧
      Hid (wx.heap.size ≤ g ∧ w'.ownsRow wx.heap.size 5 1 (.slice (some ⟨g, 0, none⟩) 14 14) 14 (CB PE 14) ∧ Below wx.heap.size wx w'))
    (hbp : ∀ k, k < 14 → PE k < 256) (HBA : Hid (BA PE 14 = BA bs len)) :
    Calls Try.prog 4 #[.slice a len cap] w fun e w' => e = .returned (.bool true) ∧ Below w.heap.size w w' := by
  have q : decide ((1000 : Int) < (len : Int)) = false := by simp; omega
  obtain ⟨i0, hi, hz0, hz1, hz2⟩ := info_parts info_u8
  have hw := awake9 w
  have hby := hr.byte
  go_enter Try.func4, Try.ntmps4
  go_wp2_with fail
  refine hw.mono ?_
  rintro e w1 ⟨rfl, hb1⟩
  clear hw
  have O0 : (w1.alloc (.cells #[] 5)).ownsRow w1.heap.size 5 1 (.slice (some ⟨w1.heap.size, 0, none⟩) 0 0) 0 (CB bs 0) := World.ownsRow_made w1 #[] 0 (Nat.le_refl _) (Nat.zero_le _) rfl
  have hC : Below w1.heap.size w1 (w1.alloc (.cells #[] 5)) := (Below.refl _ _).alloc (Nat.le_refl _) _
  have hsC := hC.size
  have R0 := (hr.below hb1).below hC
  go_wp2_with (at_builtin; refine wpList_append_row8 rfl (.tmp 14) (.tmp 15) 25 rfl w1.heap.size 5 i0 (.int .u8 0) Try.underlying25 hi hz0 hz1 hz2 rfl _ 0 _ rfl O0 _ len _ _ rfl R0 (by unfold maxLen; omega) (by omega) hsC ?_)
  intro v2 w2 own2 G2
  have hb2' : Below w1.heap.size w1 w2 := hC.grown G2 hsC (fun j hj => (O0.lt j hj).1)
  rw [show CB bs 0 = [] from rfl, List.nil_append] at own2
  obtain ⟨a2, c2, rfl, R2⟩ := own_row8 own2 hby
  have hb2 := below_all hb1 hb1.size hb2'
  have hP2 := hP a2 c2 w2 R2
  clear O0 hC hsC R0 G2 own2 R2 hP hb1 hb2'
  go_wp2_with fail
  refine hP2.mono ?_
  rintro e w3 ⟨rfl, hb3'⟩
  have hb3 := below_all hb2 hb2.size hb3'
  have X3 := bx_new w3 c O I T n
  have hA : Below w3.heap.size w3 (w3.alloc (.cells #[.int .u32 (c : Nat), .int .i64 (O : Nat), .int .i64 (I : Nat), .int .i64 (T : Nat), .int .u32 (n : Nat)] 24)) := (Below.refl _ _).alloc (Nat.le_refl _) _
  have hAs : w3.heap.size < (w3.alloc (.cells #[.int .u32 (c : Nat), .int .i64 (O : Nat), .int .i64 (I : Nat), .int .i64 (T : Nat), .int .u32 (n : Nat)] 24)).heap.size := by simp
  have hb4 := below_all hb3 hb3.size hA
  have hQ4 := hQ a cap _ (hr.below hb4)
  clear hP2 hb2 hb3' hb3 hA
  go_wp2_with fail
  generalize w3.alloc (.cells #[.int .u32 (c : Nat), .int .i64 (O : Nat), .int .i64 (I : Nat), .int .i64 (T : Nat), .int .u32 (n : Nat)] 24) = w4 at *
  refine hQ4.mono ?_
  rintro e w5 ⟨rfl, hb5'⟩
  have hb5 := below_all hb4 hb4.size hb5'
  have hb6' := hb5'.alloc hb5'.size (.cells #[.int .u32 (c : Nat), .int .i64 (O : Nat), .int .i64 (I : Nat), .int .i64 (T : Nat), .int .u32 (n : Nat)] 24)
  obtain ⟨x0, x1, x2, x3, x4⟩ := X3 _ hb6'
  have hb6 := hb5.alloc hb5.size (.cells #[.int .u32 (c : Nat), .int .i64 (O : Nat), .int .i64 (I : Nat), .int .i64 (T : Nat), .int .u32 (n : Nat)] 24)
  have hne : ¬ w3.heap.size = w5.heap.size := by have := hb5'.size; omega
  have hs6 := hb6.size
  have hEn6 := hEn (w5.alloc (.cells #[.int .u32 (c : Nat), .int .i64 (O : Nat), .int .i64 (I : Nat), .int .i64 (T : Nat), .int .u32 (n : Nat)] 24))
  have hN := neqSame c O I T n (w5.alloc (.cells #[.int .u32 (c : Nat), .int .i64 (O : Nat), .int .i64 (I : Nat), .int .i64 (T : Nat), .int .u32 (n : Nat)] 24))
  clear hQ4 hb4 hb5' hb5 hb6' hQ X3 hAs hby hEn
  go_wp2_with fail
  generalize w5.alloc (.cells #[.int .u32 (c : Nat), .int .i64 (O : Nat), .int .i64 (I : Nat), .int .i64 (T : Nat), .int .u32 (n : Nat)] 24) = w6 at *
  refine hEn6.mono ?_
  rintro e w7 ⟨g, rfl, H7⟩
  obtain ⟨_, O7, hb7'⟩ := H7.out
  have hb7 := below_all hb6 hs6 hb7'
  obtain ⟨a7, c7, e7, R7⟩ := own_row8 O7 hbp
  simp only [Value.slice.injEq, true_and] at e7
  obtain ⟨rfl, rfl⟩ := e7
  have hc1 := conv_any _ 14 14 PE w7 R7
  have hc2 := conv_any a len cap bs w7 (hr.below hb7)
  rw [HBA.out] at hc1
  generalize BA bs len = X at *
  clear hEn6 hb6 hs6 H7 O7 R7 hb7' hbp HBA hr x0 x1 x2 x3 x4 hne
  go_wp2_with fail
  go_ret
  exact ⟨rfl, hb7⟩
theorem paramDecodes_yes (a : Option Addr) (len cap : Nat) (bs : Nat → Nat) (w : World) (hr : Row8 w a len cap bs) (h14 : len = 14) (hok : okP (w4v bs 0 : Nat) (bs 4 : Nat) (bs 5 : Nat) (w4v bs 6 : Nat) (w4v bs 10 : Nat)) :
    Calls Try.prog 4 #[.slice a len cap] w fun e w' => e = .returned (.bool true) ∧ Below w.heap.size w w' := by
  have hc : w4v bs 0 < 4294967296 := w4v_lt (fun j hj => hr.byte _ (by omega))
  have hn : w4v bs 10 < 4294967296 := w4v_lt (fun j hj => hr.byte _ (by omega))
  have hP : ∀ a' c' wx, Row8 wx a' len c' bs → Calls Try.prog 16 #[.slice a' len c'] wx fun e w' => e = .returned (.tuple #[.agg #[.int .u32 (w4v bs 0 : Nat), .int .i64 (bs 4 : Nat), .int .i64 (bs 5 : Nat), .int .i64 (w4v bs 6 : Nat), .int .u32 (w4v bs 10 : Nat)], .int .i64 0]) ∧ Below wx.heap.size wx w' := by
    rw [h14]
    exact fun a' c' wx q => pdecode_good a' c' bs wx q hok
  have hQ : ∀ a' c' wx, Row8 wx a' len c' bs → Calls Try.prog 17 #[.slice a' len c'] wx fun e w' => e = .returned (.tuple #[.agg #[.int .u32 (w4v bs 0 : Nat), .int .i64 (bs 4 : Nat), .int .i64 (bs 5 : Nat), .int .i64 (w4v bs 6 : Nat), .int .u32 (w4v bs 10 : Nat)], .int .i64 0]) ∧ Below wx.heap.size wx w' := by
    rw [h14]
    exact fun a' c' wx q => rdecode_good a' c' bs wx q hok
  have hEn := fun wx => pencode_good (w4v bs 0) (bs 4) (bs 5) (w4v bs 6) (w4v bs 10) wx hc hn hok
  have hby14 : ∀ k, k < 14 → bs k < 256 := fun k hk => hr.byte k (by omega)
  have hpb := pe_back (bs := bs) hby14
  have HBA : Hid (BA (pe (w4v bs 0) (bs 4) (bs 5) (w4v bs 6) (w4v bs 10)) 14 = BA bs len) := by rw [h14]; exact (BA_eq _ _ 14 (fun k hk => by rw [hpb k hk]; exact hby14 k hk) hby14).2 hpb
  have hbp : ∀ k, k < 14 → pe (w4v bs 0) (bs 4) (bs 5) (w4v bs 6) (w4v bs 10) k < 256 := fun k hk => by rw [hpb k hk]; exact hby14 k hk
  exact paramDecodes_core a len cap bs _ _ _ _ _ _ w hr (by omega) hP hQ hEn hbp HBA
theorem paramDecodes_walk (a0 : Option Addr) (len0 cap0 : Nat) (z0 : List Int) (w : World) (w0 : BRow .u8 w a0 len0 cap0 z0) :
    Calls Try.prog 4 #[.slice a0 len0 cap0] w fun e w' => e = .returned (.bool true) ∧ Below w.heap.size w w' := by
  by_cases h : len0 ≤ 1000
  · by_cases h14 : len0 = 14
    · subst h14
      have hr := w0.row8
      generalize (fun i => _) = bs at hr
      by_cases hok : okP (w4v bs 0 : Nat) (bs 4 : Nat) (bs 5 : Nat) (w4v bs 6 : Nat) (w4v bs 10 : Nat)
      · exact paramDecodes_yes a0 14 cap0 bs w hr rfl hok
      · exact paramDecodes_no a0 14 cap0 bs w hr h 90 rfl (fun a' c' wx q => pdecode_bad a' c' bs wx q hok) (fun a' c' wx q => rdecode_bad a' c' bs wx q hok)
    · exact paramDecodes_no a0 len0 cap0 _ w w0.row8 h 45 rfl (fun a' c' wx _ => pdecode_len a' len0 c' wx h14) (fun a' c' wx _ => rdecode_len a' len0 c' wx h14)
  · exact paramDecodes_long a0 len0 cap0 w (by omega)

end Go.Proofs.Ytikdkbcekibakaa
