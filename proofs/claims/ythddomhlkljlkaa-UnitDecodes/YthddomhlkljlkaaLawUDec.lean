/- The walk of the statement UnitDecodes. -/
import Derived.Test.YthddomhlkljlkaaLaw04
import Derived.Test.YthddomhlkljlkaaUSame
import Derived.Test.YthddomhlkljlkaaURDec
namespace Go.Proofs.Ythddomhlkljlkaa
open Go.RowKit
theorem row_nilD (w : World) (bs : Nat → Nat) : Row8 w none 0 0 bs := ⟨fun i hi => by omega, fun _ => ⟨rfl, rfl⟩, (fun x hx => by cases hx), Nat.le_refl _⟩
set_option maxHeartbeats 1000000 in
theorem unitDecodes_long (a : Option Addr) (len cap : Nat) (w : World) (h : 1000 < len) :
    Calls Try.prog 5 #[.slice a len cap] w fun e w' => e = .returned (.bool true) ∧ Below w.heap.size w w' := by
  have q : decide ((1000 : Int) < (len : Int)) = true := by simp; omega
  go_enter Try.func5, Try.ntmps5
  go_wp2_with (go_at_call 9; refine (awake4 _).mono ?_; rintro e w' ⟨rfl, hb⟩)
  go_ret
  exact ⟨rfl, hb⟩
set_option maxRecDepth 100000 in
set_option maxHeartbeats 2000000 in
theorem unitDecodes_any (a : Option Addr) (len cap : Nat) (bs : Nat → Nat) (w : World) (hr : Row8 w a len cap bs) (h : len ≤ 1000) :
    Calls Try.prog 5 #[.slice a len cap] w fun e w' => e = .returned (.bool true) ∧ Below w.heap.size w w' := by
  obtain ⟨i0, hi, hz0, hz1, hz2⟩ := info_parts info_u8
  have hbd := build0
  have q : decide ((1000 : Int) < (len : Int)) = false := by simp; omega
  have hby : ∀ i, i < len + 4 → PM.sl bs len i < 256 := PM.ct_lt (k := 4) hr.byte (fun i _ => PM.w4_lt _ i)
  have hSe := fun w1 (hb : Below w.heap.size w w1) => refSeal_row a len cap bs w1 (hr.below hb) (by omega)
  obtain ⟨N, hN⟩ : ∃ N, N = len + 4 := ⟨_, rfl⟩
  rw [← hN] at hby hSe
  have hN2 : N ≤ 1004 := by omega
  generalize PM.sl bs len = SL at *
  clear hN
  go_enter Try.func5, Try.ntmps5
  go_wp2_with fail
  refine (awake4 w).mono ?_
  rintro e w1 ⟨rfl, hb1⟩
  have hs1 := hb1.size
  have hS1 := hSe w1 hb1
  clear hSe
  go_wp2_with fail
  refine hS1.mono ?_
  rintro e w2 ⟨v2, rfl, own2, hb2'⟩
  have hb2 := below_all hb1 hs1 hb2'
  have hs2 := hb2.size
  obtain ⟨a2, c2, rfl, R2⟩ := own_row8 own2 hby
  have hbL : Below w2.heap.size w2 (w2.alloc (.cells #[.slice a len cap, .slice a2 N c2] 27)) := (Below.refl _ _).alloc (Nat.le_refl _) _
  have hcA : ∀ j v, (#[Value.slice a len cap, .slice a2 N c2] : Array Value)[j]? = some v → (w2.alloc (.cells #[.slice a len cap, .slice a2 N c2] 27)).cell? ⟨w2.heap.size, j, none⟩ = some v := fun j v hv => by
    rw [cell_of_row _ _ _ _ _ _ (heap_alloc_new w2 _)]; exact hv
  have hlL : w2.heap.size < (w2.alloc (.cells #[.slice a len cap, .slice a2 N c2] 27)).heap.size := by simp
  have hb0L := below_all hb2 hs2 hbL
  have H0 : Hid (_) := And.intro (hr.below hb0L) (And.intro (R2.below hbL) (And.intro (hcA 0 _ rfl) (And.intro (hcA 1 _ rfl) (And.intro hlL hb0L))))
  have hby0 := hr.byte
  clear hS1 own2 hb2' hb1 hr R2 hbL hcA hlL hb0L hb2
  go_wp2_with fail
  generalize w2.alloc (.cells #[.slice a len cap, .slice a2 N c2] 27) = wL at *
  generalize w2.heap.size = gl at *
  go_loopw [2, 4, 5, 6, 7, 8, 19] (fun _ _ _ _ _ _ c wr => ∃ j, j ≤ 2 ∧ c = .int .i64 ((j : Nat) : Int) ∧ Below wL.heap.size wL wr) (fun _ _ _ _ _ _ c _ => 2 - (intOf c).toNat)
  case atStart => exact ⟨0, by omega, rfl, Below.refl _ _⟩
  case round =>
    obtain ⟨j, hj, rfl, hbr⟩ := hrel
    by_cases hlt : j < 2
    · obtain ⟨al, ln, cp, bl, hcl, rl, hln⟩ : ∃ al ln cp bl, wr.cell? ⟨gl, j, none⟩ = some (.slice al ln cp) ∧ Row8 wL al ln cp bl ∧ ln ≤ 1004 := by
        rcases (show j = 0 ∨ j = 1 by omega) with rfl | rfl
        · exact ⟨_, _, _, _, (hbr.cell (p := ⟨gl, 0, none⟩) H0.out.2.2.2.2.1).trans H0.out.2.2.1, H0.out.1, by omega⟩
        · exact ⟨_, _, _, _, (hbr.cell (p := ⟨gl, 1, none⟩) H0.out.2.2.2.2.1).trans H0.out.2.2.2.1, H0.out.2.1, hN2⟩
      have hd2 : decide ((j : Int) < 2) = true := by simp; omega
      have hsr := hbr.size
      have hbl := rl.byte
      have O0 : (wr.alloc (.cells #[] 5)).ownsRow wr.heap.size 5 1 (.slice (some ⟨wr.heap.size, 0, none⟩) 0 0) 0 (CB bl 0) := World.ownsRow_made wr #[] 0 (Nat.le_refl _) (Nat.zero_le _) rfl
      have hC : Below wr.heap.size wr (wr.alloc (.cells #[] 5)) := (Below.refl _ _).alloc (Nat.le_refl _) _
      have hsC := hC.size
      have Rr := rl.below hbr
      have R0 := Rr.below hC
      go_wp2_with (at_builtin; refine wpList_append_row8 rfl (.tmp 24) (.tmp 25) 27 rfl wr.heap.size 5 i0 (.int .u8 0) Try.underlying27 hi hz0 hz1 hz2 rfl _ 0 _ rfl O0 al ln cp bl rfl R0 (by unfold maxLen; omega) (by omega) hsC ?_)
      intro v3 w3 own3 G3
      have hb3' : Below wr.heap.size wr w3 := hC.grown G3 hsC (fun j hj => (O0.lt j hj).1)
      rw [show CB bl 0 = [] from rfl, List.nil_append] at own3
      obtain ⟨a3, c3, rfl, R3⟩ := own_row8 own3 hbl
      have hb3 := below_all hbr hsr hb3'
      have hs3 := hb3.size
      have Rl3 := rl.below hb3
      clear G3 O0 hC hsC R0 own3 hb3' Rr hcl
      by_cases hD : DE bl ln = 0
      · obtain ⟨h19, _, _, _⟩ := DE_zero hD
        have hDe := decode_ok a3 ln c3 bl w3 R3 hD
        have hDr := fun w hr => refDec_ok al ln cp bl w hr hD
        obtain ⟨M, hM⟩ : ∃ M, M = ln - 19 := ⟨_, rfl⟩
        rw [← hM] at hDe
        simp only [← hM] at hDr
        have HM : Hid (∀ i, i < M → bl (15 + i) < 256) := fun i hi => hbl _ (by omega)
        clear hM h19
        go_wp2_with fail
        refine hDe.mono ?_
        rintro e w4 ⟨a4, c4, rfl, H4⟩
        have hb4 := below_all hb3 hs3 H4.out.2
        have hs4 := hb4.size
        have hb5' : Below w4.heap.size w4 (w4.alloc (.cells #[.int .i64 (bl 0 : Nat), .int .u32 (w4v bl 1 : Nat), .int .u32 (w4v bl 5 : Nat), .int .u32 (w4v bl 9 : Nat), .int .i64 (bl 13 : Nat), .slice a4 M c4] 29)) := (Below.refl _ _).alloc (Nat.le_refl _) _
        have hb5 := below_all hb4 hs4 hb5'
        have hs5 := hb5.size
        have hs45 : w4.heap.size < (w4.alloc (.cells #[.int .i64 (bl 0 : Nat), .int .u32 (w4v bl 1 : Nat), .int .u32 (w4v bl 5 : Nat), .int .u32 (w4v bl 9 : Nat), .int .i64 (bl 13 : Nat), .slice a4 M c4] 29)).heap.size := by simp
        obtain ⟨a5, c5, e5, R4⟩ := own_row8 H4.out.1 HM.out
        simp only [Value.slice.injEq, true_and] at e5
        obtain ⟨rfl, rfl⟩ := e5
        have R45 := R4.below hb5'
        have hX := box_new w4 (bl 0 : Nat) (w4v bl 1) (w4v bl 5) (w4v bl 9) (bl 13 : Nat) (.slice a4 M c4)
        have hDr5 := hDr _ (rl.below hb5)
        clear hDe hDr H4 hb3 hb4 hb5' R3 Rl3 R4
        go_wp2_with fail
        generalize w4.alloc (.cells #[.int .i64 (bl 0 : Nat), .int .u32 (w4v bl 1 : Nat), .int .u32 (w4v bl 5 : Nat), .int .u32 (w4v bl 9 : Nat), .int .i64 (bl 13 : Nat), .slice a4 M c4] 29) = w5 at *
        refine hDr5.mono ?_
        rintro e w6 ⟨a6, c6, rfl, H6⟩
        have hb6 := below_all hb5 hs5 H6.out.2
        have hs6 := hb6.size
        have hb7' : Below w6.heap.size w6 (w6.alloc (.cells #[.int .i64 (bl 0 : Nat), .int .u32 (w4v bl 1 : Nat), .int .u32 (w4v bl 5 : Nat), .int .u32 (w4v bl 9 : Nat), .int .i64 (bl 13 : Nat), .slice a6 M c6] 29)) := (Below.refl _ _).alloc (Nat.le_refl _) _
        have hb7 := below_all hb6 hs6 hb7'
        have hb57 := below_all H6.out.2 H6.out.2.size hb7'
        obtain ⟨a7, c7, e7, R6⟩ := own_row8 H6.out.1 HM.out
        simp only [Value.slice.injEq, true_and] at e7
        obtain ⟨rfl, rfl⟩ := e7
        obtain ⟨x0, x1, x2, x3, x4, x5⟩ := hX _ hb57
        have hSm := same_any (bl 0 : Nat) (w4v bl 1) (w4v bl 5) (w4v bl 9) (bl 13 : Nat) a4 a6 M c4 c6 _ _ (R45.below hb57) (R6.below hb7')
        have hs7 := hb7.size
        clear hDr5 H6 hX hb5 hb6 hb57 hb7' R45 R6
        generalize w4.heap.size = g4 at *
        go_wp2_with fail
        refine hSm.mono ?_
        rintro e w8 ⟨rfl, hb8'⟩
        have hb8 := below_all hb7 hs7 hb8'
        clear hSm hb8' hb7 x0 x1 x2 x3 x4 x5
        go_wp2_with fail
        go_roundw
        case rel => exact ⟨j + 1, by omega, by go_num, hb8⟩
        case measure => simp [intOf] <;> omega
      · have hDe := decode_no a3 ln c3 bl w3 R3 hD
        have hDr := fun w hr => refDec_no al ln cp bl w hr hD
        generalize DE bl ln = E at *
        go_wp2_with fail
        refine hDe.mono ?_
        rintro e w4 ⟨rfl, hb4'⟩
        have hb4 := below_all hb3 hs3 hb4'
        have hs4 := hb4.size
        have hb5 := hb4.alloc hs4 (.cells #[.int .i64 0, .int .u32 0, .int .u32 0, .int .u32 0, .int .i64 0, .slice none 0 0] 29)
        have hs5 := hb5.size
        have hX := box_zero w4
        have hDr5 := hDr _ (rl.below hb5)
        clear hDe hDr hb3 hb4 hb4' R3 Rl3
        go_wp2_with fail
        generalize w4.alloc (.cells #[.int .i64 0, .int .u32 0, .int .u32 0, .int .u32 0, .int .i64 0, .slice none 0 0] 29) = w5 at *
        refine hDr5.mono ?_
        rintro e w6 ⟨rfl, hb6'⟩
        have hb6 := below_all hb5 hs5 hb6'
        have hs6 := hb6.size
        have hb7' : Below w6.heap.size w6 (w6.alloc (.cells #[.int .i64 0, .int .u32 0, .int .u32 0, .int .u32 0, .int .i64 0, .slice none 0 0] 29)) := (Below.refl _ _).alloc (Nat.le_refl _) _
        have hb7 := below_all hb6 hs6 hb7'
        have hb57 := below_all hb6' hb6'.size hb7'
        obtain ⟨x0, x1, x2, x3, x4, x5⟩ := hX _ hb57
        have hSm := same_any 0 0 0 0 0 none none 0 0 0 SL _ (row_nilD (w6.alloc (.cells #[.int .i64 0, .int .u32 0, .int .u32 0, .int .u32 0, .int .i64 0, .slice none 0 0] 29)) _) (row_nilD _ _)
        have hs7 := hb7.size
        clear hDr5 hX hb5 hb6 hb57 hb7' hb6'
        generalize w4.heap.size = g4 at *
        go_wp2_with fail
        refine hSm.mono ?_
        rintro e w8 ⟨rfl, hb8'⟩
        have hb8 := below_all hb7 hs7 hb8'
        clear hSm hb8' hb7 x0 x1 x2 x3 x4 x5
        go_wp2_with fail
        go_roundw
        case rel => exact ⟨j + 1, by omega, by go_num, hb8⟩
        case measure => simp [intOf] <;> omega
    · have hd2 : decide ((j : Int) < 2) = false := by simp; omega
      go_wp2_with fail
      go_ret
      exact ⟨rfl, below_all H0.out.2.2.2.2.2 H0.out.2.2.2.2.2.size hbr⟩
theorem unitDecodes_walk (a0 : Option Addr) (len0 cap0 : Nat) (z0 : List Int) (w : World) (w0 : BRow .u8 w a0 len0 cap0 z0) :
    Calls Try.prog 5 #[.slice a0 len0 cap0] w fun e w' => e = .returned (.bool true) ∧ Below w.heap.size w w' := by
  by_cases h : len0 ≤ 1000
  · exact unitDecodes_any a0 len0 cap0 _ w w0.row8 h
  · exact unitDecodes_long a0 len0 cap0 w (by omega)

end Go.Proofs.Ythddomhlkljlkaa
