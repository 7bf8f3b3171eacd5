/- The document's cell of layer 8: Word, holds, word, value. -/
import Derived.Test.YtmleiemlfogffaaGreatCell4
import Derived.Test.YtmleiemlfogffaaGreatMmRef
namespace Go.Proofs.YtmleiemlfogffaaGreat
set_option maxRecDepth 100000
open Go.RowKit

theorem or8_add (x y : Nat) (k : Nat) (hx : x % 2 ^ k = 0) (hy : y < 2 ^ k) (h1 : x < 4294967296) (h2 : y < 4294967296) : bits .or .u32 (x : Int) (y : Int) = ((x + y : Nat) : Int) := by
  rw [u32_or_nat x y h1 h2, nat_join k x y hx hy]
theorem wnum8 (x0 x1 x2 x3 : Nat) (h0 : x0 < 256) (h1 : x1 < 256) (h2 : x2 < 256) (h3 : x3 < 256) :
    bits .or .u32 (bits .or .u32 (bits .or .u32 ((x0 : Int) * 16777216) ((x1 : Int) * 65536)) ((x2 : Int) * 256)) (x3 : Int) = ((x0 * 16777216 + x1 * 65536 + x2 * 256 + x3 : Nat) : Int) := by
  have e0 : (x0 : Int) * 16777216 = ((x0 * 16777216 : Nat) : Int) := by omega
  have e1 : (x1 : Int) * 65536 = ((x1 * 65536 : Nat) : Int) := by omega
  have e2 : (x2 : Int) * 256 = ((x2 * 256 : Nat) : Int) := by omega
  rw [e0, e1, e2, or8_add _ _ 24 (by omega) (by omega) (by omega) (by omega), or8_add _ _ 16 (by omega) (by omega) (by omega) (by omega), or8_add _ _ 8 (by omega) (by omega) (by omega) (by omega)]
set_option maxHeartbeats 1000000 in
theorem rWord8 (b off len cap x0 x1 x2 x3 : Nat) (w : World) (hlen : (3 : Int) < (len : Int)) (h0 : x0 < 256) (h1 : x1 < 256) (h2 : x2 < 256) (h3 : x3 < 256)
    (c0 : w.cell? ⟨b, off, none⟩ = some (.int .u8 x0)) (c1 : w.cell? ⟨b, off + 1, none⟩ = some (.int .u8 x1)) (c2 : w.cell? ⟨b, off + 2, none⟩ = some (.int .u8 x2)) (c3 : w.cell? ⟨b, off + 3, none⟩ = some (.int .u8 x3)) :
    Calls Tryz.prog 56 #[.slice (some ⟨b, off, none⟩) len cap] w fun e w' => e = .returned (.int .u32 ((x0 * 16777216 + x1 * 65536 + x2 * 256 + x3 : Nat) : Int)) ∧ ∃ m, w' = w.drewN m := by
  have hn := wnum8 x0 x1 x2 x3 h0 h1 h2 h3
  have l0 : (0 : Int) < (len : Int) := by omega
  have l1 : (1 : Int) < (len : Int) := by omega
  have l2 : (2 : Int) < (len : Int) := by omega
  generalize x0 * 16777216 + x1 * 65536 + x2 * 256 + x3 = y at *
  go_enter Tryz.func56, Tryz.ntmps56
  go_wp2_with fail
  go_quiet (fail)
  go_wp2
  go_ret
  exact ⟨rfl, _, rfl⟩
set_option maxHeartbeats 1000000 in
theorem rholds_any (m g n k : Nat) (s : Ms) (w : World) (h : RR w m g n s) (hk : k < 2) (hn : 10 ≤ n) :
    Calls Tryz.prog 80 #[.pointer (some ⟨m, 0, none⟩), .int .i64 (k : Nat)] w fun e w' => e = .returned (.bool (decide ((s.bs (5 * k) : Int) = 165))) ∧ w' = w := by
  obtain ⟨a, cap, c0, _, hpl, _⟩ := h.cells
  obtain ⟨hgb, rfl⟩ := hpl (by omega)
  obtain ⟨cg, _⟩ := h.held (5 * k) (by omega)
  clear h hpl
  generalize s.bs (5 * k) = x at *
  go_enter Tryz.func80, Tryz.ntmps80
  go_wp2_with fail
  go_ret
  exact ⟨rfl, rfl⟩
theorem rholds_is (m g n k : Nat) (s : Ms) (w : World) (h : RR w m g n s) (hk : k < 2) (hn : 10 ≤ n) (b : Bool) (hb : decide (s.bs (5 * k) = 165) = b) :
    Calls Tryz.prog 80 #[.pointer (some ⟨m, 0, none⟩), .int .i64 (k : Nat)] w fun e w' => e = .returned (.bool b) ∧ w' = w := by
  refine (rholds_any m g n k s w h hk hn).mono ?_
  rintro e w' ⟨rfl, rfl⟩
  refine ⟨?_, rfl⟩
  rw [← hb]
  congr 2
  by_cases h : s.bs (5 * k) = 165
  · simp [h]
  · have : ¬ ((s.bs (5 * k) : Nat) : Int) = 165 := by omega
    simp [h, this]
set_option maxHeartbeats 1000000 in
theorem rcword_any (m g n k : Nat) (s : Ms) (w : World) (h : RR w m g n s) (hk : k < 2) (hn : 10 ≤ n) :
    Calls Tryz.prog 82 #[.pointer (some ⟨m, 0, none⟩), .int .i64 (k : Nat)] w fun e w' => e = .returned (.int .u32 (wz s.bs k : Nat)) ∧ ∃ j, w' = w.drewN j := by
  obtain ⟨a, cap, c0, hr, hpl, _⟩ := h.cells
  obtain ⟨hgb, rfl⟩ := hpl (by omega)
  have hcap := hr.le
  have q := rWord8 g (5 * k + 1) 4 (cap - (5 * k + 1)) _ _ _ _ w (by omega) (h.byte (5 * k + 1) (by omega)) (h.byte (5 * k + 2) (by omega)) (h.byte (5 * k + 3) (by omega)) (h.byte (5 * k + 4) (by omega)) (h.held (5 * k + 1) (by omega)).1 (h.held (5 * k + 2) (by omega)).1 (h.held (5 * k + 3) (by omega)).1 (h.held (5 * k + 4) (by omega)).1
  change Calls _ _ _ _ (fun e w' => e = .returned (.int .u32 (wz s.bs k : Nat)) ∧ ∃ j, w' = w.drewN j) at q
  clear h hpl hr
  generalize wz s.bs k = x at *
  go_enter Tryz.func82, Tryz.ntmps82
  go_wp2_with fail
  refine q.mono ?_
  rintro e w2 ⟨rfl, j, rfl⟩
  go_wp2_with fail
  go_ret
  exact ⟨rfl, j, rfl⟩
theorem RR.drewN {w : World} {b g n : Nat} {s : Ms} (h : RR w b g n s) (k : Nat) : RR (w.drewN k) b g n s := h.off (Off.drewN [] _ k) (by simp) (by simp)
set_option maxRecDepth 100000 in
set_option maxHeartbeats 2000000 in
theorem rvalue_any (m g n : Nat) (s : Ms) (w : World) (h : RR w m g n s) (hn : 10 ≤ n) :
    Calls Tryz.prog 79 #[.pointer (some ⟨m, 0, none⟩)] w fun e w' => e = .returned (.int .u32 (vz s.bs : Nat)) ∧ ∃ j, w' = w.drewN j := by
  rw [← vp_vz]
  obtain ⟨F, hF⟩ : ∃ F : Nat → Nat, F = vp (fun k => s.bs (5 * k)) (wz s.bs) := ⟨_, rfl⟩
  rw [← hF]
  have HF : Hid (_) := hF
  have F0 : F 0 = 0 := by rw [hF]; rfl
  clear hF
  go_enter Tryz.func79, Tryz.ntmps79
  go_wp2_with fail
  go_loopw [3, 4] (fun cv ci wr => ∃ i j : Nat, i ≤ 2 ∧ ci = .int .i64 ((i : Nat) : Int) ∧ cv = .int .u32 (F i : Nat) ∧ wr = w.drewN j) (fun _ ci _ => 2 - (intOf ci).toNat)
  case atStart => exact ⟨0, 0, by omega, rfl, by rw [F0]; rfl, rfl⟩
  case round =>
    obtain ⟨i, j, hi, rfl, rfl, rfl⟩ := hrel
    by_cases hlt : i < 2
    · have q2 := fun j => rcword_any m g n i s (w.drewN j) (h.drewN j) hlt hn
      by_cases hm : s.bs (5 * i) = 165
      · have q1 := rholds_is m g n i s (w.drewN j) (h.drewN j) hlt hn true (by simp [hm])
        have e1 : F (i + 1) = if F i < wz s.bs i then wz s.bs i else F i := by rw [HF.out]; exact if_pos hm
        have HE : Hid (_) := e1
        clear h HF e1 F0
        generalize wz s.bs i = x at *
        obtain ⟨y, hy⟩ : ∃ y, F i = y := ⟨_, rfl⟩
        rw [hy] at HE ⊢
        clear hy
        by_cases hxy : y < x
        · go_wp2_with fail
          refine q1.mono ?_
          rintro e w2 ⟨rfl, rfl⟩
          go_wp2_with fail
          refine (q2 j).mono ?_
          rintro e w2 ⟨rfl, j2, rfl⟩
          rw [World.drewN_drewN]
          go_wp2_with fail
          refine (q2 _).mono ?_
          rintro e w2 ⟨rfl, j3, rfl⟩
          rw [World.drewN_drewN]
          go_wp2_with fail
          go_roundw
          case rel => exact ⟨i + 1, _, by omega, by go_num, by rw [HE.out, if_pos hxy], rfl⟩
          case measure => simp [intOf] <;> omega
        · go_wp2_with fail
          refine q1.mono ?_
          rintro e w2 ⟨rfl, rfl⟩
          go_wp2_with fail
          refine (q2 j).mono ?_
          rintro e w2 ⟨rfl, j2, rfl⟩
          rw [World.drewN_drewN]
          go_wp2_with fail
          go_roundw
          case rel => exact ⟨i + 1, _, by omega, by go_num, by rw [HE.out, if_neg hxy], rfl⟩
          case measure => simp [intOf] <;> omega
      · have q1 := rholds_is m g n i s (w.drewN j) (h.drewN j) hlt hn false (by simp [hm])
        have e1 : F (i + 1) = F i := by rw [HF.out]; exact if_neg hm
        have HE : Hid (_) := e1
        clear h HF e1 F0 q2
        go_wp2_with fail
        refine q1.mono ?_
        rintro e w2 ⟨rfl, rfl⟩
        go_wp2_with fail
        go_roundw
        case rel => exact ⟨i + 1, j, by omega, by go_num, by rw [HE.out], rfl⟩
        case measure => simp [intOf] <;> omega
    · obtain rfl : i = 2 := by omega
      go_wp2_with fail
      go_ret
      exact ⟨rfl, j, rfl⟩

end Go.Proofs.YtmleiemlfogffaaGreat
