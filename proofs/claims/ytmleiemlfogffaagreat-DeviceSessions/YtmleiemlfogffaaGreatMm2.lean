/- The memory of layer 7: Write, Read, Arm, On, Off, Size, Writes. -/
import Derived.Test.YtmleiemlfogffaaGreatMm
namespace Go.Proofs.YtmleiemlfogffaaGreat
set_option maxRecDepth 100000
open Go.RowKit

/-- A byte laid into a place. -/
def lay (bs : Nat → Nat) (j x : Nat) : Nat → Nat := fun i => if i = j then x else bs i
/-- What Write answers, and what is held then. -/
def wrE (s : Ms) (n : Nat) (p : Int) : Int := if rch s n p ≠ 0 then rch s n p else if s.ar = true ∧ s.l = 0 then 70 else 0
def wrS (s : Ms) (n : Nat) (p : Int) (c : Nat) : Ms :=
  if rch s n p ≠ 0 then s else if s.ar = true ∧ s.l = 0 then { s with off := true } else { s with bs := lay s.bs p.toNat c, l := if s.ar then s.l - 1 else s.l, t := s.t + 1 }
theorem rch_zero {s : Ms} {n : Nat} {p : Int} (h : rch s n p = 0) : s.off = false ∧ 0 ≤ p ∧ p < (n : Int) := by
  unfold rch at h
  cases ho : s.off
  · rw [ho, if_neg (by simp)] at h
    by_cases e : p < 0 ∨ (n : Int) ≤ p
    · rw [if_pos e] at h; omega
    · exact ⟨rfl, by omega, by omega⟩
  · rw [ho, if_pos rfl] at h; omega
theorem rch_val (s : Ms) (n : Nat) (p : Int) : rch s n p = 70 ∨ rch s n p = 2 ∨ rch s n p = 0 := by
  unfold rch
  split
  · exact .inl rfl
  · split
    · exact .inr (.inl rfl)
    · exact .inr (.inr rfl)
theorem wr_no {s : Ms} {n : Nat} {p : Int} {c : Nat} (hr : rch s n p ≠ 0) : wrE s n p = rch s n p ∧ wrS s n p c = s := ⟨if_pos hr, if_pos hr⟩
theorem wr_cut {s : Ms} {n : Nat} {p : Int} {c : Nat} (hr : rch s n p = 0) (ha : s.ar = true) (hl : s.l = 0) : wrE s n p = 70 ∧ wrS s n p c = { s with off := true } :=
  ⟨(if_neg (fun k => k hr)).trans (if_pos ⟨ha, hl⟩), (if_neg (fun k => k hr)).trans (if_pos ⟨ha, hl⟩)⟩
theorem wr_free {s : Ms} {n : Nat} {p : Int} {c : Nat} (hr : rch s n p = 0) (ha : s.ar = false) : wrE s n p = 0 ∧ wrS s n p c = { s with bs := lay s.bs p.toNat c, t := s.t + 1 } := by
  refine ⟨(if_neg (fun k => k hr)).trans (if_neg (by simp [ha])), (if_neg (fun k => k hr)).trans ((if_neg (by simp [ha])).trans ?_)⟩
  simp [ha]
theorem wr_left {s : Ms} {n : Nat} {p : Int} {c : Nat} (hr : rch s n p = 0) (ha : s.ar = true) (hl : s.l ≠ 0) : wrE s n p = 0 ∧ wrS s n p c = { s with bs := lay s.bs p.toNat c, l := s.l - 1, t := s.t + 1 } := by
  refine ⟨(if_neg (fun k => k hr)).trans (if_neg (by simp [hl])), (if_neg (fun k => k hr)).trans ((if_neg (by simp [hl])).trans ?_)⟩
  simp [ha]
theorem Off.pair {b g : Nat} {w w' : World} (h : Off [b] w w') : Off [b, g] w w' := h.more (by simp)
theorem Off.pair' {b g : Nat} {w w' : World} (h : Off [g] w w') : Off [b, g] w w' := h.more (by simp)
set_option maxRecDepth 100000 in
set_option maxHeartbeats 2000000 in
theorem write_any (b g n : Nat) (s : Ms) (p : Int) (c : Nat) (w : World) (h : MR w b g n s) (hc : c < 256) (ht : s.t < 9223372036854775807) :
    Calls Tryz.prog 147 #[.pointer (some ⟨b, 0, none⟩), .int .i64 p, .int .u8 (c : Nat)] w fun e w' => e = .returned (.int .i64 (wrE s n p)) ∧ (Off [b, g] w w' ∧ MR w' b g n (wrS s n p c)) := by
  have hR := reach_any b g n s p w h
  by_cases hr : rch s n p = 0
  · rw [hr] at hR
    obtain ⟨hoff, hp0, hpn⟩ := rch_zero hr
    obtain ⟨j, rfl⟩ := Int.eq_ofNat_of_zero_le hp0
    have hj : j < n := by omega
    obtain ⟨a, cap, c0, _, hpl, c1, c2, c3, c4, fz⟩ := h.cells
    obtain ⟨hgb, rfl⟩ := hpl (by omega)
    obtain ⟨cg, fg⟩ := h.held j hj
    have hl0 := h.l0
    have hl1 := h.l1
    have ht0 := h.t0
    have H : Hid (_) := h
    have fz1 := fz 1
    have fz3 := fz 3
    have fz4 := fz 4
    clear h fz hpl
    cases ha : s.ar
    · rw [ha] at c2
      obtain ⟨hE, hS⟩ := wr_free (c := c) hr ha
      rw [hE, hS]
      clear hE hS hr
      go_enter Tryz.func147, Tryz.ntmps147
      go_wp2_with (go_at_call 146; refine hR.mono ?_; rintro e w' ⟨rfl, rfl⟩)
      go_ret
      refine ⟨rfl, (Off.setCell g j _ _).pair'.trans (Off.setCell b 4 _ _).pair, ?_⟩
      exact (H.out.put j c hj hc).upd { s with bs := lay s.bs j c, t := s.t + 1 } (Off.setCell b 4 _ _) (fun v hv => heap_setCell_same _ _ _ _ _ _ hv) rfl hl0 hl1 (by show 0 ≤ s.t + 1; omega)
    · rw [ha] at c2
      by_cases hz : s.l = 0
      · obtain ⟨hE, hS⟩ := wr_cut (c := c) hr ha hz
        rw [hE, hS]
        rw [hz] at c3
        have hst := mstore ⟨b, 1, none⟩ _ true _ c1 fz1
        clear hE hS hr
        go_enter Tryz.func147, Tryz.ntmps147
        go_wp2_with (first | (go_at_call 146; refine hR.mono ?_; rintro e w' ⟨rfl, hw⟩; rw [hw]; clear hw) | (go_at_call 106; refine hst.mono ?_; rintro e w' ⟨rfl, rfl⟩))
        go_ret
        refine ⟨rfl, ((Off.drew [b] _).trans (Off.setCell b 1 _ _)).pair, ?_⟩
        exact H.out.drew.upd { s with off := true } (Off.setCell b 1 _ _) (fun v hv => heap_setCell_same _ _ _ _ _ _ hv) rfl hl0 hl1 ht0
      · obtain ⟨hE, hS⟩ := wr_left (c := c) hr ha hz
        rw [hE, hS]
        clear hE hS hr
        go_enter Tryz.func147, Tryz.ntmps147
        go_wp2_with (go_at_call 146; refine hR.mono ?_; rintro e w' ⟨rfl, rfl⟩)
        go_ret
        refine ⟨rfl, ((Off.setCell b 3 _ _).pair.trans (Off.setCell g j _ _).pair').trans (Off.setCell b 4 _ _).pair, ?_⟩
        have h1 := H.out.upd { s with l := s.l - 1 } (Off.setCell b 3 _ (.int .i64 (s.l - 1))) (fun v hv => heap_setCell_same _ _ _ _ _ _ hv) rfl (by show 0 ≤ s.l - 1; omega) (by show s.l - 1 ≤ _; omega) ht0
        exact (h1.put j c hj hc).upd { s with bs := lay s.bs j c, l := s.l - 1, t := s.t + 1 } (Off.setCell b 4 _ _) (fun v hv => heap_setCell_same _ _ _ _ _ _ hv) rfl (by show 0 ≤ s.l - 1; omega) (by show s.l - 1 ≤ _; omega) (by show 0 ≤ s.t + 1; omega)
  · obtain ⟨hE, hS⟩ := wr_no (c := c) hr
    rw [hE, hS]
    have H : Hid (_) := h
    clear h hE hS
    generalize rch s n p = r at *
    go_enter Tryz.func147, Tryz.ntmps147
    go_wp2_with (go_at_call 146; refine hR.mono ?_; rintro e w' ⟨rfl, rfl⟩)
    go_ret
    exact ⟨rfl, Off.refl _ _, H.out⟩
theorem write_nil (p c : Int) (w : World) :
    Calls Tryz.prog 147 #[.pointer none, .int .i64 p, .int .u8 c] w fun e w' => e = .returned (.int .i64 1) ∧ w' = w := by
  have hR := reach_nil p w
  go_enter Tryz.func147, Tryz.ntmps147
  go_wp2_with (go_at_call 146; refine hR.mono ?_; rintro e w' ⟨rfl, rfl⟩)
  go_ret
  exact ⟨rfl, rfl⟩
/-- The byte that Read answers. -/
def rdB (s : Ms) (n : Nat) (p : Int) : Nat := if rch s n p ≠ 0 then 0 else s.bs p.toNat
set_option maxHeartbeats 1000000 in
theorem read_any (b g n : Nat) (s : Ms) (p : Int) (w : World) (h : MR w b g n s) :
    Calls Tryz.prog 110 #[.pointer (some ⟨b, 0, none⟩), .int .i64 p] w fun e w' => e = .returned (.tuple #[.int .u8 (rdB s n p : Nat), .int .i64 (rch s n p)]) ∧ w' = w := by
  have hR := reach_any b g n s p w h
  unfold rdB
  by_cases hr : rch s n p = 0
  · rw [hr] at hR ⊢
    rw [if_neg (by simp)]
    obtain ⟨hoff, hp0, hpn⟩ := rch_zero hr
    obtain ⟨j, rfl⟩ := Int.eq_ofNat_of_zero_le hp0
    have hj : j < n := by omega
    obtain ⟨a, cap, c0, _, hpl, _⟩ := h.cells
    obtain ⟨hgb, rfl⟩ := hpl (by omega)
    obtain ⟨cg, fg⟩ := h.held j hj
    clear h hpl hr
    rw [Int.toNat_natCast]
    generalize s.bs j = x at *
    go_enter Tryz.func110, Tryz.ntmps110
    go_wp2_with (go_at_call 146; refine hR.mono ?_; rintro e w' ⟨rfl, rfl⟩)
    go_ret2
    exact ⟨rfl, rfl⟩
  · rw [if_pos hr]
    clear h
    generalize rch s n p = r at *
    go_enter Tryz.func110, Tryz.ntmps110
    go_wp2_with (go_at_call 146; refine hR.mono ?_; rintro e w' ⟨rfl, rfl⟩)
    go_ret2
    exact ⟨rfl, rfl⟩
theorem read_nil (p : Int) (w : World) :
    Calls Tryz.prog 110 #[.pointer none, .int .i64 p] w fun e w' => e = .returned (.tuple #[.int .u8 0, .int .i64 1]) ∧ w' = w := by
  have hR := reach_nil p w
  go_enter Tryz.func110, Tryz.ntmps110
  go_wp2_with (go_at_call 146; refine hR.mono ?_; rintro e w' ⟨rfl, rfl⟩)
  go_ret2
  exact ⟨rfl, rfl⟩
/-- What Arm answers, and what is held then. -/
def arE (p : Int) : Int := if p < 0 then 2 else 0
def arS (s : Ms) (p : Int) : Ms := if p < 0 then s else { s with ar := true, l := p }
theorem arm_any (b g n : Nat) (s : Ms) (p : Int) (w : World) (h : MR w b g n s) (hp : p ≤ 9223372036854775807) :
    Calls Tryz.prog 28 #[.pointer (some ⟨b, 0, none⟩), .int .i64 p] w fun e w' => e = .returned (.int .i64 (arE p)) ∧ (Off [b] w w' ∧ MR w' b g n (arS s p)) := by
  obtain ⟨a, cap, c0, _, _, c1, c2, c3, c4, fz⟩ := h.cells
  have fz2 := fz 2
  have fz3 := fz 3
  unfold arE arS
  by_cases hn : p < 0
  · rw [if_pos hn, if_pos hn]
    go_enter Tryz.func28, Tryz.ntmps28
    go_wp2_with fail
    go_ret
    exact ⟨rfl, Off.refl _ _, h⟩
  · rw [if_neg hn, if_neg hn]
    have H : Hid (_) := h
    clear h fz c0 c1 c4
    go_enter Tryz.func28, Tryz.ntmps28
    go_wp2_with fail
    go_ret
    exact ⟨rfl, (Off.setCell b 2 _ _).trans (Off.setCell b 3 _ _), H.out.upd _ ((Off.setCell b 2 _ _).trans (Off.setCell b 3 _ _)) (fun v hv => heap_setCell_same _ _ _ _ _ _ (heap_setCell_same _ _ _ _ _ _ hv)) rfl (by show 0 ≤ p; omega) hp H.out.t0⟩
theorem arm_nil (p : Int) (w : World) :
    Calls Tryz.prog 28 #[.pointer none, .int .i64 p] w fun e w' => e = .returned (.int .i64 1) ∧ w' = w := by
  go_enter Tryz.func28, Tryz.ntmps28
  go_wp2_with fail
  go_ret
  exact ⟨rfl, rfl⟩
theorem on_any (b g n : Nat) (s : Ms) (w : World) (h : MR w b g n s) :
    Calls Tryz.prog 67 #[.pointer (some ⟨b, 0, none⟩)] w fun e w' => e = .returned (.tuple #[]) ∧ (Off [b] w w' ∧ MR w' b g n { s with off := false, ar := false }) := by
  obtain ⟨a, cap, c0, _, _, c1, c2, c3, c4, fz⟩ := h.cells
  have fz2 := fz 2
  have h1 : MR (w.setCell ⟨b, 2, none⟩ (.bool false)) b g n { s with ar := false } := h.upd _ (Off.setCell b 2 _ _) (fun v hv => heap_setCell_same _ _ _ _ _ _ hv) rfl h.l0 h.l1 h.t0
  obtain ⟨_, _, _, _, _, d1, _, _, _, ez⟩ := h1.cells
  have hst := mstore ⟨b, 1, none⟩ _ false _ d1 (ez 1)
  have H : Hid (_) := h1
  clear h h1 fz c0 c1 c3 c4 d1 ez
  go_enter Tryz.func67, Tryz.ntmps67
  go_wp2_with (go_at_call 106; refine hst.mono ?_; rintro e w' ⟨rfl, rfl⟩)
  go_end0
  exact ⟨rfl, ((Off.setCell b 2 _ _).trans (Off.drew _ _)).trans (Off.setCell b 1 _ _), H.out.drew.upd _ (Off.setCell b 1 _ _) (fun v hv => heap_setCell_same _ _ _ _ _ _ hv) rfl H.out.l0 H.out.l1 H.out.t0⟩
theorem on_nil (w : World) :
    Calls Tryz.prog 67 #[.pointer none] w fun e w' => e = .returned (.tuple #[]) ∧ w' = w := by
  go_enter Tryz.func67, Tryz.ntmps67
  go_wp2_with fail
  first | go_end0 | (simp only [Exit.inBlock, Exit.then]; refine bodyPost_ret (results_none rfl _ _ _) rfl ?_) | refine bodyPost_ret (results_none rfl _ _ _) rfl ?_
  exact ⟨rfl, rfl⟩
theorem o32_ne (b : Bool) : (o32 b != 0) = b := by cases b <;> rfl
theorem off_any (b g n : Nat) (s : Ms) (w : World) (h : MR w b g n s) :
    Calls Tryz.prog 213 #[.pointer (some ⟨b, 0, none⟩)] w fun e w' => e = .returned (.bool s.off) ∧ w' = w := by
  obtain ⟨_, _, _, _, _, c1, _⟩ := h.cells
  have hl := mload ⟨b, 1, none⟩ _ w c1
  rw [o32_ne] at hl
  clear h c1
  generalize s.off = x at *
  go_enter Tryz.func213, Tryz.ntmps213
  go_wp2_with (go_at_call 181; refine hl.mono ?_; rintro e w' ⟨rfl, rfl⟩)
  go_ret
  exact ⟨rfl, rfl⟩
theorem off_nil (w : World) :
    Calls Tryz.prog 213 #[.pointer none] w fun e w' => e = .returned (.bool false) ∧ w' = w := by
  go_enter Tryz.func213, Tryz.ntmps213
  go_wp2_with fail
  go_ret
  exact ⟨rfl, rfl⟩
theorem size_any (b g n : Nat) (s : Ms) (w : World) (h : MR w b g n s) :
    Calls Tryz.prog 73 #[.pointer (some ⟨b, 0, none⟩)] w fun e w' => e = .returned (.int .i64 (n : Nat)) ∧ w' = w := by
  obtain ⟨_, _, c0, _⟩ := h.cells
  clear h
  go_enter Tryz.func73, Tryz.ntmps73
  go_wp2_with fail
  go_ret
  exact ⟨rfl, rfl⟩
theorem size_nil (w : World) :
    Calls Tryz.prog 73 #[.pointer none] w fun e w' => e = .returned (.int .i64 0) ∧ w' = w := by
  go_enter Tryz.func73, Tryz.ntmps73
  go_wp2_with fail
  go_ret
  exact ⟨rfl, rfl⟩

end Go.Proofs.YtmleiemlfogffaaGreat
