/- The walk of the statement UnitOneForm. -/
import Derived.Test.YthddomhlkljlkaaLaw04
import Derived.Test.YthddomhlkljlkaaUSame
namespace Go.Proofs.Ythddomhlkljlkaa
open Go.RowKit
set_option maxHeartbeats 1000000 in
theorem unitOneForm_long (a : Option Addr) (len cap : Nat) (w : World) (h : 1000 < len) :
    Calls Try.prog 7 #[.slice a len cap] w fun e w' => e = .returned (.bool true) ∧ Below w.heap.size w w' := by
  have q : decide ((1000 : Int) < (len : Int)) = true := by simp; omega
  go_enter Try.func7, Try.ntmps7
  go_wp2_with (go_at_call 9; refine (awake4 _).mono ?_; rintro e w' ⟨rfl, hb⟩)
  go_ret
  exact ⟨rfl, hb⟩
theorem row_nil (w : World) (bs : Nat → Nat) : Row8 w none 0 0 bs := ⟨fun i hi => by omega, fun _ => ⟨rfl, rfl⟩, (fun x hx => by cases hx), Nat.le_refl _⟩
set_option maxRecDepth 100000 in
set_option maxHeartbeats 1000000 in
theorem unitOneForm_any (a : Option Addr) (len cap : Nat) (bs : Nat → Nat) (w : World) (hr : Row8 w a len cap bs) (h : len ≤ 1000) :
    Calls Try.prog 7 #[.slice a len cap] w fun e w' => e = .returned (.bool true) ∧ Below w.heap.size w w' := by
  obtain ⟨i0, hi, hz0, hz1, hz2⟩ := info_parts info_u8
  have hbd := build0
  have q : decide ((1000 : Int) < (len : Int)) = false := by simp; omega
  have hby : ∀ i, i < len + 4 → PM.sl bs len i < 256 := PM.ct_lt (k := 4) hr.byte (fun i _ => PM.w4_lt _ i)
  have hSe := fun w1 (hb : Below w.heap.size w w1) => refSeal_row a len cap bs w1 (hr.below hb) (by omega)
  obtain ⟨N, hN⟩ : ∃ N, N = len + 4 := ⟨_, rfl⟩
  rw [← hN] at hby hSe
  have hN2 : N ≤ 1004 := by omega
  generalize PM.sl bs len = SL at *
  clear hr hN
  go_enter Try.func7, Try.ntmps7
  go_wp2_with fail
  refine (awake4 w).mono ?_
  rintro e w1 ⟨rfl, hb1⟩
  have hs1 := hb1.size
  have hS1 := hSe w1 hb1
  clear hSe
  go_wp2_with fail
  refine hS1.mono ?_
  rintro e w2 ⟨v2, rfl, own2, hb2'⟩
  have hb2 := below_all hb1 hs1 hb2'
  have hs2 := hb2.size
  obtain ⟨a2, c2, rfl, R2⟩ := own_row8 own2 hby
  have O0 : (w2.alloc (.cells #[] 5)).ownsRow w2.heap.size 5 1 (.slice (some ⟨w2.heap.size, 0, none⟩) 0 0) 0 (CB SL 0) := World.ownsRow_made w2 #[] 0 (Nat.le_refl _) (Nat.zero_le _) rfl
  have hC : Below w2.heap.size w2 (w2.alloc (.cells #[] 5)) := (Below.refl _ _).alloc (Nat.le_refl _) _
  have hsC := hC.size
  have R0 := R2.below hC
  clear hS1 own2 hb2' hb1
  go_wp2_with (at_builtin; refine wpList_append_row8 rfl (.tmp 15) (.tmp 16) 27 rfl w2.heap.size 5 i0 (.int .u8 0) Try.underlying27 hi hz0 hz1 hz2 rfl _ 0 _ rfl O0 a2 N c2 SL rfl R0 (by unfold maxLen; omega) (by omega) hsC ?_)
  intro v3 w3 own3 G3
  have hb3' : Below w2.heap.size w2 w3 := hC.grown G3 hsC (fun j hj => (O0.lt j hj).1)
  rw [show CB SL 0 = [] from rfl, List.nil_append] at own3
  obtain ⟨a3, c3, rfl, R3⟩ := own_row8 own3 hby
  have hb3 := below_all hb2 hs2 hb3'
  have hs3 := hb3.size
  have R23 := R2.below hb3'
  clear G3 O0 hC hsC R0 own3 hb3' R2 hbd
  by_cases hD : DE SL N = 0
  · have hF := fr_form SL N hby hD
    obtain ⟨h1, h2, _, _⟩ := DE_zero hD
    have hDe := decode_ok a3 N c3 SL w3 R3 hD
    obtain ⟨M, hM⟩ : ∃ M, M = N - 19 := ⟨_, rfl⟩
    rw [← hM] at hF hDe
    have hMN : 15 + M + 4 = N := by omega
    have hM4 : 15 + M = N - 4 := by omega
    have hbM : ∀ i, i < M → SL (15 + i) < 256 := fun i hi => hby _ (by omega)
    have hEn := fun a' c' w hr => encode_good (SL 0) (w4v SL 1) (w4v SL 5) (w4v SL 9) (SL 13) a' M c' (fun i => SL (15 + i)) w hr hF.1
    rw [hMN, hM4] at hEn
    have hbF : ∀ i, i < N → PM.sl (fr (SL 0) (w4v SL 1) (w4v SL 5) (w4v SL 9) (SL 13) M (fun i => SL (15 + i))) (N - 4) i < 256 := fun i hi => by rw [hF.2 i hi]; exact hby i hi
    have hBA : BA (PM.sl (fr (SL 0) (w4v SL 1) (w4v SL 5) (w4v SL 9) (SL 13) M (fun i => SL (15 + i))) (N - 4)) N = BA SL N := (BA_eq _ _ N hbF hby).2 hF.2
    generalize PM.sl (fr (SL 0) (w4v SL 1) (w4v SL 5) (w4v SL 9) (SL 13) M (fun i => SL (15 + i))) (N - 4) = SM at *
    have HH : Hid (_) := And.intro hbF hBA
    have HM : Hid (_) := hbM
    clear hF hD hM hMN hM4 hbF hBA hbM h1 h2
    go_wp2_with fail
    refine hDe.mono ?_
    rintro e w4 ⟨a4, c4, rfl, H4⟩
    have hb4 := below_all hb3 hs3 H4.out.2
    have hs4 := hb4.size
    have R24 := R23.below H4.out.2
    have hb5' : Below w4.heap.size w4 (w4.alloc (.cells #[.int .i64 (SL 0 : Nat), .int .u32 (w4v SL 1 : Nat), .int .u32 (w4v SL 5 : Nat), .int .u32 (w4v SL 9 : Nat), .int .i64 (SL 13 : Nat), .slice a4 M c4] 29)) := (Below.refl _ _).alloc (Nat.le_refl _) _
    have hb5 := below_all hb4 hs4 hb5'
    have hs5 := hb5.size
    obtain ⟨a5, c5, e5, R5⟩ := own_row8 H4.out.1 HM.out
    simp only [Value.slice.injEq, true_and] at e5
    obtain ⟨rfl, rfl⟩ := e5
    have hEn5 := hEn a4 c4 _ (R5.below hb5')
    have R25 := R24.below hb5'
    clear hDe H4 hb3 hb5' R23 R24 R5 R3 hEn
    go_wp2_with fail
    generalize w4.alloc (.cells #[.int .i64 (SL 0 : Nat), .int .u32 (w4v SL 1 : Nat), .int .u32 (w4v SL 5 : Nat), .int .u32 (w4v SL 9 : Nat), .int .i64 (SL 13 : Nat), .slice a4 M c4] 29) = w5 at *
    refine hEn5.mono ?_
    rintro e w6 ⟨v6, rfl, H6⟩
    obtain ⟨a6, c6, rfl, R6⟩ := own_row8 H6.out.1 HH.out.1
    have hb6 := below_all hb5 hs5 H6.out.2
    have hc1 := conv_any a6 N c6 SM w6 R6
    have hc2 := conv_any a2 N c2 SL w6 (R25.below H6.out.2)
    rw [HH.out.2] at hc1
    generalize BA SL N = X at *
    clear hEn5 H6 R6 R25 HH HM hb5 hb4
    go_wp2_with fail
    go_ret
    exact ⟨rfl, hb6⟩
  · have hDe := decode_no a3 N c3 SL w3 R3 hD
    generalize DE SL N = E at *
    have qE : (E == 0) = false := by simpa using hD
    clear R23 R3
    go_wp2_with fail
    refine hDe.mono ?_
    rintro e w4 ⟨rfl, hb4'⟩
    have hb4 := below_all hb3 hs3 hb4'
    have hs4 := hb4.size
    have hb5 := hb4.alloc hs4 (.cells #[.int .i64 0, .int .u32 0, .int .u32 0, .int .u32 0, .int .i64 0, .slice none 0 0] 29)
    have hs5 := hb5.size
    have hSm := same_any 0 0 0 0 0 none none 0 0 0 SL (w4.alloc (.cells #[.int .i64 0, .int .u32 0, .int .u32 0, .int .u32 0, .int .i64 0, .slice none 0 0] 29)) (row_nil _ _) (row_nil _ _)
    clear hDe hb4'
    go_wp2_with fail
    refine hSm.mono ?_
    rintro e w6 ⟨rfl, hb6⟩
    have hb7 := below_all hb5 hs5 hb6
    clear hSm hb6 hb5 hb4
    go_wp2_with fail
    go_ret
    exact ⟨rfl, hb7⟩
theorem unitOneForm_walk (a0 : Option Addr) (len0 cap0 : Nat) (z0 : List Int) (w : World) (w0 : BRow .u8 w a0 len0 cap0 z0) :
    Calls Try.prog 7 #[.slice a0 len0 cap0] w fun e w' => e = .returned (.bool true) ∧ Below w.heap.size w w' := by
  by_cases h : len0 ≤ 1000
  · exact unitOneForm_any a0 len0 cap0 _ w w0.row8 h
  · exact unitOneForm_long a0 len0 cap0 w (by omega)

end Go.Proofs.Ythddomhlkljlkaa
