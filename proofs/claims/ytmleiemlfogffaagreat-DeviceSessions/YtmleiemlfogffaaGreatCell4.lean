/- The cell of layer 8: Value, target, Next, Open. -/
import Derived.Test.YtmleiemlfogffaaGreatCell3
namespace Go.Proofs.YtmleiemlfogffaaGreat
set_option maxRecDepth 100000
open Go.RowKit

/-- The value of the first slots. -/
def vp (mk wd : Nat → Nat) : Nat → Nat
  | 0 => 0
  | i + 1 => if mk i = 165 then (if vp mk wd i < wd i then wd i else vp mk wd i) else vp mk wd i
theorem idx0 (a b : Nat) (w : World) : (Instr.index 133 (.agg #[.int .u32 (a : Nat), .int .u32 (b : Nat)]) (.int .i64 0)).run Tryz.prog w = .ok (.int .u32 (a : Nat)) w := by kernel_rfl
theorem idx1 (a b : Nat) (w : World) : (Instr.index 133 (.agg #[.int .u32 (a : Nat), .int .u32 (b : Nat)]) (.int .i64 1)).run Tryz.prog w = .ok (.int .u32 (b : Nat)) w := by kernel_rfl
set_option maxRecDepth 100000 in
set_option maxHeartbeats 2000000 in
theorem value_any (c m mx : Nat) (mk wd : Nat → Nat) (cut : Bool) (w : World) (hC : CX w c m mx mk wd cut) (hw : ∀ j, j < 2 → wd j < 4294967296) :
    Calls Tryz.prog 214 #[.pointer (some ⟨c, 0, none⟩)] w fun e w' => e = .returned (.int .u32 (vp mk wd 2 : Nat)) ∧ w' = w := by
  have c4 : w.cell? ⟨c, 4, none⟩ = some (.int .u32 (wd 0 : Nat)) := hC.hwd 0 (by omega)
  have c5 : w.cell? ⟨c, 5, none⟩ = some (.int .u32 (wd 1 : Nat)) := hC.hwd 1 (by omega)
  go_enter Tryz.func214, Tryz.ntmps214
  go_wp2_with fail
  go_loopw [3, 4, 5, 12] (fun x _ _ ci wr => ∃ i : Nat, i ≤ 2 ∧ ci = .int .i64 ((i : Nat) : Int) ∧ x = .int .u32 (vp mk wd i : Nat) ∧ wr = w) (fun _ _ _ ci _ => 2 - (intOf ci).toNat)
  case atStart => exact ⟨0, by omega, rfl, rfl, rfl⟩
  case round =>
    obtain ⟨i, hi, rfl, rfl, rfl⟩ := hrel
    by_cases hlt : i < 2
    · have hi2 : i = 0 ∨ i = 1 := by omega
      have h0 := hw 0 (by omega)
      have h1 := hw 1 (by omega)
      clear hw
      rcases hi2 with rfl | rfl
      · by_cases hm : mk 0 = 165
        · have q := holds_zero c m mx mk wd cut true wr hC (by simp [hm])
          have x0 := idx0 (wd 0) (wd 1) wr
          have e : vp mk wd 1 = (if vp mk wd 0 < wd 0 then wd 0 else vp mk wd 0) := if_pos hm
          have HE : Hid (_) := e
          clear hC e hm
          generalize vp mk wd 0 = y at *
          go_wp2_with (go_at_call 112; refine q.mono ?_; rintro e w' ⟨rfl, hw⟩; rw [hw]; clear hw)
          exact ⟨⟨1, by omega, rfl, by rw [HE.out]; split <;> rfl, trivial⟩, by decide⟩
        · have q := holds_zero c m mx mk wd cut false wr hC (by simp [hm])
          have x0 := idx0 (wd 0) (wd 1) wr
          have e : vp mk wd 1 = vp mk wd 0 := if_neg hm
          have HE : Hid (_) := e
          clear hC e hm
          generalize vp mk wd 0 = y at *
          go_wp2_with (go_at_call 112; refine q.mono ?_; rintro e w' ⟨rfl, hw⟩; rw [hw]; clear hw)
          exact ⟨⟨1, by omega, rfl, by rw [HE.out], trivial⟩, by decide⟩
      · by_cases hm : mk 1 = 165
        · have q := holds_one c m mx mk wd cut true wr hC (by simp [hm])
          have x0 := idx1 (wd 0) (wd 1) wr
          have e : vp mk wd 2 = (if vp mk wd 1 < wd 1 then wd 1 else vp mk wd 1) := if_pos hm
          have HE : Hid (_) := e
          clear hC e hm
          generalize vp mk wd 1 = y at *
          go_wp2_with (go_at_call 112; refine q.mono ?_; rintro e w' ⟨rfl, hw⟩; rw [hw]; clear hw)
          exact ⟨⟨2, by omega, rfl, by rw [HE.out]; split <;> rfl, trivial⟩, by decide⟩
        · have q := holds_one c m mx mk wd cut false wr hC (by simp [hm])
          have x0 := idx1 (wd 0) (wd 1) wr
          have e : vp mk wd 2 = vp mk wd 1 := if_neg hm
          have HE : Hid (_) := e
          clear hC e hm
          generalize vp mk wd 1 = y at *
          go_wp2_with (go_at_call 112; refine q.mono ?_; rintro e w' ⟨rfl, hw⟩; rw [hw]; clear hw)
          exact ⟨⟨2, by omega, rfl, by rw [HE.out], trivial⟩, by decide⟩
    · obtain rfl : i = 2 := by omega
      go_wp2_with fail
      go_ret
      exact ⟨rfl, rfl⟩
theorem vp_vz (z : Nat → Nat) : vp (fun k => z (5 * k)) (wz z) 2 = vz z := by
  have e : ∀ i, vp (fun k => z (5 * k)) (wz z) (i + 1) = max (vp (fun k => z (5 * k)) (wz z) i) (hw z i) := fun i => by
    unfold hw
    rw [vp]
    by_cases h : z (5 * i) = 165
    · rw [if_pos h, if_pos h]
      split <;> omega
    · rw [if_neg h, if_neg h]
      omega
  rw [e 1, e 0, show vp (fun k => z (5 * k)) (wz z) 0 = 0 from rfl]
  unfold vz
  omega
set_option maxRecDepth 100000 in
set_option maxHeartbeats 2000000 in
theorem target_any (c m mx : Nat) (z : Nat → Nat) (cut : Bool) (w : World) (hC : CX w c m mx (fun k => z (5 * k)) (wz z) cut) :
    Calls Tryz.prog 215 #[.pointer (some ⟨c, 0, none⟩)] w fun e w' => e = .returned (.int .i64 (tg z : Nat)) ∧ ∃ j, w' = w.drewN j := by
  have c4 : w.cell? ⟨c, 4, none⟩ = some (.int .u32 (wz z 0 : Nat)) := hC.hwd 0 (by omega)
  have c5 : w.cell? ⟨c, 5, none⟩ = some (.int .u32 (wz z 1 : Nat)) := hC.hwd 1 (by omega)
  by_cases h0 : z 0 = 165
  · have q0 := holds_zero c m mx _ _ cut true w hC (by simp [h0])
    by_cases h1 : z 5 = 165
    · have q1 := fun j => holds_one c m mx _ _ cut true (w.drewN j) (hC.drewN j) (by simp [h1])
      have et : tg z = if wz z 1 < wz z 0 then 1 else 0 := by
        unfold tg
        by_cases h : wz z 1 < wz z 0
        · rw [if_pos ⟨h0, .inr h⟩, if_pos h]
        · rw [if_neg (by omega), if_neg h]
      rw [et]
      clear hC et h0 h1
      generalize wz z 0 = x at *
      generalize wz z 1 = y at *
      by_cases hxy : y < x
      · rw [if_pos hxy]
        go_enter Tryz.func215, Tryz.ntmps215
        go_wp2_with fail
        refine q0.mono ?_
        rintro e w' ⟨rfl, hw⟩
        rw [hw]
        clear hw
        go_wp2_with fail
        go_quiet ((go_at_call 112; exact Calls.quiet_of_same (q1 _)))
        go_wp2_with fail
        go_ret
        exact ⟨rfl, _, rfl⟩
      · rw [if_neg hxy]
        go_enter Tryz.func215, Tryz.ntmps215
        go_wp2_with fail
        refine q0.mono ?_
        rintro e w' ⟨rfl, hw⟩
        rw [hw]
        clear hw
        go_wp2_with fail
        go_quiet ((go_at_call 112; exact Calls.quiet_of_same (q1 _)))
        go_wp2_with fail
        go_ret
        exact ⟨rfl, _, rfl⟩
    · have q1 := fun j => holds_one c m mx _ _ cut false (w.drewN j) (hC.drewN j) (by simp [h1])
      rw [show tg z = 1 from if_pos ⟨h0, .inl h1⟩]
      clear hC h0 h1 c4 c5
      go_enter Tryz.func215, Tryz.ntmps215
      go_wp2_with fail
      refine q0.mono ?_
      rintro e w' ⟨rfl, hw⟩
      rw [hw]
      clear hw
      go_wp2_with fail
      go_quiet ((go_at_call 112; exact Calls.quiet_of_same (q1 _)))
      go_wp2_with fail
      go_ret
      exact ⟨rfl, _, rfl⟩
  · have q0 := holds_zero c m mx _ _ cut false w hC (by simp [h0])
    rw [show tg z = 0 from if_neg (fun h => h0 h.1)]
    clear hC h0 c4 c5
    go_enter Tryz.func215, Tryz.ntmps215
    go_wp2_with fail
    refine q0.mono ?_
    rintro e w' ⟨rfl, hw⟩
    rw [hw]
    clear hw
    go_wp2_with fail
    go_ret
    exact ⟨rfl, 0, (World.drewN_zero _).symm⟩
/-- A cell that goes by the bytes z. -/
abbrev CS (w : World) (c m mx : Nat) (z : Nat → Nat) (cut : Bool) : Prop := CX w c m mx (fun k => z (5 * k)) (wz z) cut
theorem next_cut (c m g n mx : Nat) (z : Nat → Nat) (cut : Bool) (s : Ms) (w : World) (hM : MR w m g n s) (hC : CS w c m mx z cut) (h : cut = true ∨ s.off = true) :
    Calls Tryz.prog 197 #[.pointer (some ⟨c, 0, none⟩)] w fun e w' => e = .returned (.tuple #[.int .u32 0, .int .i64 70]) ∧ w' = w := by
  have c0 := hC.mem
  have c6 := hC.hcut
  have q := off_any m g n s w hM
  clear hM hC
  cases cut
  · rw [h.resolve_left (by simp)] at q
    clear h
    go_enter Tryz.func197, Tryz.ntmps197
    go_wp2_with (go_at_call 213; refine q.mono ?_; rintro e w' ⟨rfl, hw⟩; rw [hw]; clear hw)
    go_ret2
    exact ⟨rfl, rfl⟩
  · clear h q
    go_enter Tryz.func197, Tryz.ntmps197
    go_wp2_with fail
    go_ret2
    exact ⟨rfl, rfl⟩
theorem next_full (c m g n mx : Nat) (z : Nat → Nat) (s : Ms) (w : World) (hM : MR w m g n s) (hC : CS w c m mx z false) (hz : Bz z) (ho : s.off = false) (h : mx ≤ vz z) :
    Calls Tryz.prog 197 #[.pointer (some ⟨c, 0, none⟩)] w fun e w' => e = .returned (.tuple #[.int .u32 0, .int .i64 80]) ∧ w' = w := by
  have c0 := hC.mem
  have c1 := hC.max
  have c6 := hC.hcut
  have q := off_any m g n s w hM
  have q2 := value_any c m mx _ _ false w hC (fun j hj => wz_lt hz j hj)
  rw [vp_vz] at q2
  rw [ho] at q
  clear hM hC hz
  generalize vz z = v at *
  go_enter Tryz.func197, Tryz.ntmps197
  go_wp2_with (first | (go_at_call 213; refine q.mono ?_; rintro e w' ⟨rfl, hw⟩; rw [hw]; clear hw) | (go_at_call 214; refine q2.mono ?_; rintro e w' ⟨rfl, hw⟩; rw [hw]; clear hw))
  go_ret2
  exact ⟨rfl, rfl⟩
set_option maxRecDepth 100000 in
set_option maxHeartbeats 2000000 in
theorem next_go (c m g n mx : Nat) (s : Ms) (w : World) (hM : MR w m g n s) (hC : CS w c m mx s.bs false) (hcm : c ≠ m) (hcg : c ≠ g) (hn : 10 ≤ n) (hx : mx < 4294967296) (ho : s.off = false) (h : vz s.bs < mx) (ht : s.t < 9223372036854775000) :
    Calls Tryz.prog 197 #[.pointer (some ⟨c, 0, none⟩)] w fun e w' => e = .returned (.tuple #[.int .u32 ((if sqE n (six (tg s.bs) (vz s.bs + 1)) s = 0 then vz s.bs + 1 else 0 : Nat) : Int), .int .i64 (sqE n (six (tg s.bs) (vz s.bs + 1)) s)]) ∧
      (Off [m, g, c] w w' ∧ MR w' m g n (sqS n (six (tg s.bs) (vz s.bs + 1)) s) ∧ (sqE n (six (tg s.bs) (vz s.bs + 1)) s = 0 → CS w' c m mx (sqS n (six (tg s.bs) (vz s.bs + 1)) s).bs false) ∧ (¬ sqE n (six (tg s.bs) (vz s.bs + 1)) s = 0 → CS w' c m mx s.bs true)) := by
  have hz : Bz s.bs := fun i hi => hM.byte i (by omega)
  have c0 := hC.mem
  have c1 := hC.max
  have c6 := hC.hcut
  have q := off_any m g n s w hM
  have q2 := value_any c m mx _ _ false w hC (fun j hj => wz_lt hz j hj)
  rw [vp_vz] at q2
  rw [ho] at q
  have q3 := target_any c m mx s.bs false w hC
  have hk := tg_lt s.bs
  obtain ⟨v, hv⟩ : ∃ v, vz s.bs + 1 = v := ⟨_, rfl⟩
  have q4 := fun j => cwrite_any c m g n mx _ _ false s (tg s.bs) (vz s.bs + 1) (w.drewN j) (hM.drewN j) (hC.drewN j) hcm hcg hk (by omega) ht
  have hb := fun h => sq_bs (six_in (tg s.bs) (vz s.bs + 1) n hk hn) ho hM.l0 h
  obtain ⟨E, hE⟩ : ∃ E, sqE n (six (tg s.bs) (vz s.bs + 1)) s = E := ⟨_, rfl⟩
  obtain ⟨S, hS⟩ : ∃ S, sqS n (six (tg s.bs) (vz s.bs + 1)) s = S := ⟨_, rfl⟩
  rw [hE, hS]
  rw [hE, hS] at hb
  simp only [hE, hS] at q4
  have HB : Hid (_) := And.intro hb (show vz s.bs + 1 < 4294967296 by omega)
  clear hM hC hz hb hE hS hk hv v
  obtain ⟨V, hV⟩ : ∃ V, vz s.bs = V := ⟨_, rfl⟩
  obtain ⟨k, hk⟩ : ∃ k, tg s.bs = k := ⟨_, rfl⟩
  rw [hV] at HB h q2 q4 ⊢
  rw [hk] at HB q3 q4
  by_cases he : E = 0
  · subst he
    rw [if_pos rfl]
    simp only [if_pos] at q4
    clear hV hk
    go_enter Tryz.func197, Tryz.ntmps197
    go_wp2_with (first | (go_at_call 213; refine q.mono ?_; rintro e w' ⟨rfl, hw⟩; rw [hw]; clear hw) | (go_at_call 214; refine q2.mono ?_; rintro e w' ⟨rfl, hw⟩; rw [hw]; clear hw))
    refine q3.mono ?_
    rintro e w1 ⟨rfl, j, rfl⟩
    go_wp2_with fail
    refine (q4 j).mono ?_
    rintro e w2 ⟨rfl, H2⟩
    have H : Hid (_) := H2
    clear H2 q4 q3 q2 q c0 c1 c6
    go_wp2_with fail
    go_ret2
    obtain ⟨O, M, C⟩ := H.out
    have C' := C.sync HB.out.2
    rw [← HB.out.1 trivial] at C'
    exact ⟨rfl, (Off.drewN _ _ _).trans O, M, fun _ => C', fun h => absurd trivial h⟩
  · rw [if_neg he]
    simp only [if_neg he] at q4
    clear hV hk
    go_enter Tryz.func197, Tryz.ntmps197
    go_wp2_with (first | (go_at_call 213; refine q.mono ?_; rintro e w' ⟨rfl, hw⟩; rw [hw]; clear hw) | (go_at_call 214; refine q2.mono ?_; rintro e w' ⟨rfl, hw⟩; rw [hw]; clear hw))
    refine q3.mono ?_
    rintro e w1 ⟨rfl, j, rfl⟩
    go_wp2_with fail
    refine (q4 j).mono ?_
    rintro e w2 ⟨rfl, H2⟩
    have d6 := H2.2.2.hcut
    have f6 := H2.2.2.fz 6
    have H : Hid (_) := H2
    clear H2 q4 q3 q2 q c0 c1 c6
    go_wp2_with fail
    go_ret2
    obtain ⟨O, M, C⟩ := H.out
    have q1 : Off [c] w2 (w2.setCell ⟨c, 6, none⟩ (.bool true)) := Off.setCell c 6 _ _
    exact ⟨rfl, ((Off.drewN _ _ _).trans O).trans q1.three', M.off q1 (by simp; omega) (by simp; omega), fun h => absurd h he, fun _ => C.setCut true⟩
theorem next_nil (w : World) :
    Calls Tryz.prog 197 #[.pointer none] w fun e w' => e = .returned (.tuple #[.int .u32 0, .int .i64 1]) ∧ w' = w := by
  go_enter Tryz.func197, Tryz.ntmps197
  go_wp2_with fail
  go_ret2
  exact ⟨rfl, rfl⟩
theorem value_nil (w : World) :
    Calls Tryz.prog 214 #[.pointer none] w fun e w' => e = .returned (.int .u32 0) ∧ w' = w := by
  go_enter Tryz.func214, Tryz.ntmps214
  go_wp2_with fail
  go_ret
  exact ⟨rfl, rfl⟩

end Go.Proofs.YtmleiemlfogffaaGreat
