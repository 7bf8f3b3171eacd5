/- Part 5 of the texts on which the proofs of layer 13 rest: contracts of Go functions. -/
import Derived.Laws.BytesString
import Derived.Deep.RegionWith
import Derived.Deep.DeepCutAuto
import Derived.Deep.QuietTactic
import Derived.BigQuiet
import Derived.Deep.RegionHeld3
import Derived.Test.YtpgdghjlfdehjaaGreatPkH02
import Derived.Test.YtpgdghjlfdehjaaGreatPkH03
namespace Go.Proofs.YtpgdghjlfdehjaaGreat
set_option maxRecDepth 100000
open Go.RowKit
def vp (mk wd : Nat → Nat) : Nat → Nat
  | 0 => 0
  | i + 1 => if mk i = 165 then (if vp mk wd i < wd i then wd i else vp mk wd i) else vp mk wd i
theorem idx0 (a b : Nat) (w : World) : (Instr.index 170 (.agg #[.int .u32 (a : Nat), .int .u32 (b : Nat)]) (.int .i64 0)).run Tryz.prog w = .ok (.int .u32 (a : Nat)) w := by kernel_rfl
theorem idx1 (a b : Nat) (w : World) : (Instr.index 170 (.agg #[.int .u32 (a : Nat), .int .u32 (b : Nat)]) (.int .i64 1)).run Tryz.prog w = .ok (.int .u32 (b : Nat)) w := by kernel_rfl
set_option maxRecDepth 100000 in
set_option maxHeartbeats 2000000 in
theorem value_any (c m mx : Nat) (mk wd : Nat → Nat) (cut : Bool) (w : World) (hC : CX w c m mx mk wd cut) (hw : ∀ j, j < 2 → wd j < 4294967296) :
    Calls Tryz.prog 265 #[.pointer (some ⟨c, 0, none⟩)] w fun e w' => e = .returned (.int .u32 (vp mk wd 2 : Nat)) ∧ w' = w := by
  have c4 : w.cell? ⟨c, 4, none⟩ = some (.int .u32 (wd 0 : Nat)) := hC.hwd 0 (by omega)
  have c5 : w.cell? ⟨c, 5, none⟩ = some (.int .u32 (wd 1 : Nat)) := hC.hwd 1 (by omega)
  go_enter Tryz.func265, Tryz.ntmps265
  go_wp2_with fail
  go_loopw [3, 4, 5, 12] (fun x _ _ ci wr => ∃ i : Nat, i ≤ 2 ∧ ci = .int .i64 ((i : Nat) : Int) ∧ x = .int .u32 (vp mk wd i : Nat) ∧ wr = w) (fun _ _ _ ci _ => 2 - (intOf ci).toNat)
  case atStart => exact ⟨0, by omega, rfl, rfl, rfl⟩
  case round =>
    obtain ⟨i, hi, rfl, rfl, rfl⟩ := hrel
    by_cases hlt : i < 2
    · have hi2 : i = 0 ∨ i = 1 := by omega
      have h0 := hw 0 (by omega)
      have h1 := hw 1 (by omega)
      clear hw
      rcases hi2 with rfl | rfl
      · by_cases hm : mk 0 = 165
        · have q := holds_zero c m mx mk wd cut true wr hC (by simp [hm])
          have x0 := idx0 (wd 0) (wd 1) wr
          have e : vp mk wd 1 = (if vp mk wd 0 < wd 0 then wd 0 else vp mk wd 0) := if_pos hm
          have HE : Hid (_) := e
          clear hC e hm
          generalize vp mk wd 0 = y at *
          go_wp2_with (go_at_call 176; refine q.mono ?_; rintro e w' ⟨rfl, hw⟩; rw [hw]; clear hw)
          exact ⟨⟨1, by omega, rfl, by rw [HE.out]; split <;> rfl, trivial⟩, by decide⟩
        · have q := holds_zero c m mx mk wd cut false wr hC (by simp [hm])
          have x0 := idx0 (wd 0) (wd 1) wr
          have e : vp mk wd 1 = vp mk wd 0 := if_neg hm
          have HE : Hid (_) := e
          clear hC e hm
          generalize vp mk wd 0 = y at *
          go_wp2_with (go_at_call 176; refine q.mono ?_; rintro e w' ⟨rfl, hw⟩; rw [hw]; clear hw)
          exact ⟨⟨1, by omega, rfl, by rw [HE.out], trivial⟩, by decide⟩
      · by_cases hm : mk 1 = 165
        · have q := holds_one c m mx mk wd cut true wr hC (by simp [hm])
          have x0 := idx1 (wd 0) (wd 1) wr
          have e : vp mk wd 2 = (if vp mk wd 1 < wd 1 then wd 1 else vp mk wd 1) := if_pos hm
          have HE : Hid (_) := e
          clear hC e hm
          generalize vp mk wd 1 = y at *
          go_wp2_with (go_at_call 176; refine q.mono ?_; rintro e w' ⟨rfl, hw⟩; rw [hw]; clear hw)
          exact ⟨⟨2, by omega, rfl, by rw [HE.out]; split <;> rfl, trivial⟩, by decide⟩
        · have q := holds_one c m mx mk wd cut false wr hC (by simp [hm])
          have x0 := idx1 (wd 0) (wd 1) wr
          have e : vp mk wd 2 = vp mk wd 1 := if_neg hm
          have HE : Hid (_) := e
          clear hC e hm
          generalize vp mk wd 1 = y at *
          go_wp2_with (go_at_call 176; refine q.mono ?_; rintro e w' ⟨rfl, hw⟩; rw [hw]; clear hw)
          exact ⟨⟨2, by omega, rfl, by rw [HE.out], trivial⟩, by decide⟩
    · obtain rfl : i = 2 := by omega
      go_wp2_with fail
      go_ret
      exact ⟨rfl, rfl⟩
theorem vp_vz (z : Nat → Nat) : vp (fun k => z (5 * k)) (wz z) 2 = vz z := by
  have e : ∀ i, vp (fun k => z (5 * k)) (wz z) (i + 1) = max (vp (fun k => z (5 * k)) (wz z) i) (hw z i) := fun i => by
    unfold hw
    rw [vp]
    by_cases h : z (5 * i) = 165
    · rw [if_pos h, if_pos h]
      split <;> omega
    · rw [if_neg h, if_neg h]
      omega
  rw [e 1, e 0, show vp (fun k => z (5 * k)) (wz z) 0 = 0 from rfl]
  unfold vz
  omega
set_option maxRecDepth 100000 in
set_option maxHeartbeats 2000000 in
theorem target_any (c m mx : Nat) (z : Nat → Nat) (cut : Bool) (w : World) (hC : CX w c m mx (fun k => z (5 * k)) (wz z) cut) :
    Calls Tryz.prog 266 #[.pointer (some ⟨c, 0, none⟩)] w fun e w' => e = .returned (.int .i64 (tg z : Nat)) ∧ ∃ j, w' = w.drewN j := by
  have c4 : w.cell? ⟨c, 4, none⟩ = some (.int .u32 (wz z 0 : Nat)) := hC.hwd 0 (by omega)
  have c5 : w.cell? ⟨c, 5, none⟩ = some (.int .u32 (wz z 1 : Nat)) := hC.hwd 1 (by omega)
  by_cases h0 : z 0 = 165
  · have q0 := holds_zero c m mx _ _ cut true w hC (by simp [h0])
    by_cases h1 : z 5 = 165
    · have q1 := fun j => holds_one c m mx _ _ cut true (w.drewN j) (hC.drewN j) (by simp [h1])
      have et : tg z = if wz z 1 < wz z 0 then 1 else 0 := by
        unfold tg
        by_cases h : wz z 1 < wz z 0
        · rw [if_pos ⟨h0, .inr h⟩, if_pos h]
        · rw [if_neg (by omega), if_neg h]
      rw [et]
      clear hC et h0 h1
      generalize wz z 0 = x at *
      generalize wz z 1 = y at *
      by_cases hxy : y < x
      · rw [if_pos hxy]
        go_enter Tryz.func266, Tryz.ntmps266
        go_wp2_with fail
        refine q0.mono ?_
        rintro e w' ⟨rfl, hw⟩
        rw [hw]
        clear hw
        go_wp2_with fail
        go_quiet ((go_at_call 176; exact Calls.quiet_of_same (q1 _)))
        go_wp2_with fail
        go_ret
        exact ⟨rfl, _, rfl⟩
      · rw [if_neg hxy]
        go_enter Tryz.func266, Tryz.ntmps266
        go_wp2_with fail
        refine q0.mono ?_
        rintro e w' ⟨rfl, hw⟩
        rw [hw]
        clear hw
        go_wp2_with fail
        go_quiet ((go_at_call 176; exact Calls.quiet_of_same (q1 _)))
        go_wp2_with fail
        go_ret
        exact ⟨rfl, _, rfl⟩
    · have q1 := fun j => holds_one c m mx _ _ cut false (w.drewN j) (hC.drewN j) (by simp [h1])
      rw [show tg z = 1 from if_pos ⟨h0, .inl h1⟩]
      clear hC h0 h1 c4 c5
      go_enter Tryz.func266, Tryz.ntmps266
      go_wp2_with fail
      refine q0.mono ?_
      rintro e w' ⟨rfl, hw⟩
      rw [hw]
      clear hw
      go_wp2_with fail
      go_quiet ((go_at_call 176; exact Calls.quiet_of_same (q1 _)))
      go_wp2_with fail
      go_ret
      exact ⟨rfl, _, rfl⟩
  · have q0 := holds_zero c m mx _ _ cut false w hC (by simp [h0])
    rw [show tg z = 0 from if_neg (fun h => h0 h.1)]
    clear hC h0 c4 c5
    go_enter Tryz.func266, Tryz.ntmps266
    go_wp2_with fail
    refine q0.mono ?_
    rintro e w' ⟨rfl, hw⟩
    rw [hw]
    clear hw
    go_wp2_with fail
    go_ret
    exact ⟨rfl, 0, (World.drewN_zero _).symm⟩
abbrev CS (w : World) (c m mx : Nat) (z : Nat → Nat) (cut : Bool) : Prop := CX w c m mx (fun k => z (5 * k)) (wz z) cut
theorem next_cut (c m g n mx : Nat) (z : Nat → Nat) (cut : Bool) (s : Ms) (w : World) (hM : MR w m g n s) (hC : CS w c m mx z cut) (h : cut = true ∨ s.off = true) :
    Calls Tryz.prog 252 #[.pointer (some ⟨c, 0, none⟩)] w fun e w' => e = .returned (.tuple #[.int .u32 0, .int .i64 70]) ∧ w' = w := by
  have c0 := hC.mem
  have c6 := hC.hcut
  have q := off_any m g n s w hM
  clear hM hC
  cases cut
  · rw [h.resolve_left (by simp)] at q
    clear h
    go_enter Tryz.func252, Tryz.ntmps252
    go_wp2_with (go_at_call 264; refine q.mono ?_; rintro e w' ⟨rfl, hw⟩; rw [hw]; clear hw)
    go_ret2
    exact ⟨rfl, rfl⟩
  · clear h q
    go_enter Tryz.func252, Tryz.ntmps252
    go_wp2_with fail
    go_ret2
    exact ⟨rfl, rfl⟩
theorem next_full (c m g n mx : Nat) (z : Nat → Nat) (s : Ms) (w : World) (hM : MR w m g n s) (hC : CS w c m mx z false) (hz : Bz z) (ho : s.off = false) (h : mx ≤ vz z) :
    Calls Tryz.prog 252 #[.pointer (some ⟨c, 0, none⟩)] w fun e w' => e = .returned (.tuple #[.int .u32 0, .int .i64 80]) ∧ w' = w := by
  have c0 := hC.mem
  have c1 := hC.max
  have c6 := hC.hcut
  have q := off_any m g n s w hM
  have q2 := value_any c m mx _ _ false w hC (fun j hj => wz_lt hz j hj)
  rw [vp_vz] at q2
  rw [ho] at q
  clear hM hC hz
  generalize vz z = v at *
  go_enter Tryz.func252, Tryz.ntmps252
  go_wp2_with (first | (go_at_call 264; refine q.mono ?_; rintro e w' ⟨rfl, hw⟩; rw [hw]; clear hw) | (go_at_call 265; refine q2.mono ?_; rintro e w' ⟨rfl, hw⟩; rw [hw]; clear hw))
  go_ret2
  exact ⟨rfl, rfl⟩
set_option maxRecDepth 100000 in
set_option maxHeartbeats 2000000 in
theorem next_go (c m g n mx : Nat) (s : Ms) (w : World) (hM : MR w m g n s) (hC : CS w c m mx s.bs false) (hcm : c ≠ m) (hcg : c ≠ g) (hn : 10 ≤ n) (hx : mx < 4294967296) (ho : s.off = false) (h : vz s.bs < mx) (ht : s.t < 9223372036854775000) :
    Calls Tryz.prog 252 #[.pointer (some ⟨c, 0, none⟩)] w fun e w' => e = .returned (.tuple #[.int .u32 ((if sqE n (six (tg s.bs) (vz s.bs + 1)) s = 0 then vz s.bs + 1 else 0 : Nat) : Int), .int .i64 (sqE n (six (tg s.bs) (vz s.bs + 1)) s)]) ∧
      (Off [m, g, c] w w' ∧ MR w' m g n (sqS n (six (tg s.bs) (vz s.bs + 1)) s) ∧ (sqE n (six (tg s.bs) (vz s.bs + 1)) s = 0 → CS w' c m mx (sqS n (six (tg s.bs) (vz s.bs + 1)) s).bs false) ∧ (¬ sqE n (six (tg s.bs) (vz s.bs + 1)) s = 0 → CS w' c m mx s.bs true)) := by
  have hz : Bz s.bs := fun i hi => hM.byte i (by omega)
  have c0 := hC.mem
  have c1 := hC.max
  have c6 := hC.hcut
  have q := off_any m g n s w hM
  have q2 := value_any c m mx _ _ false w hC (fun j hj => wz_lt hz j hj)
  rw [vp_vz] at q2
  rw [ho] at q
  have q3 := target_any c m mx s.bs false w hC
  have hk := tg_lt s.bs
  obtain ⟨v, hv⟩ : ∃ v, vz s.bs + 1 = v := ⟨_, rfl⟩
  have q4 := fun j => cwrite_any c m g n mx _ _ false s (tg s.bs) (vz s.bs + 1) (w.drewN j) (hM.drewN j) (hC.drewN j) hcm hcg hk (by omega) ht
  have hb := fun h => sq_bs (six_in (tg s.bs) (vz s.bs + 1) n hk hn) ho hM.l0 h
  obtain ⟨E, hE⟩ : ∃ E, sqE n (six (tg s.bs) (vz s.bs + 1)) s = E := ⟨_, rfl⟩
  obtain ⟨S, hS⟩ : ∃ S, sqS n (six (tg s.bs) (vz s.bs + 1)) s = S := ⟨_, rfl⟩
  rw [hE, hS]
  rw [hE, hS] at hb
  simp only [hE, hS] at q4
  have HB : Hid (_) := And.intro hb (show vz s.bs + 1 < 4294967296 by omega)
  clear hM hC hz hb hE hS hk hv v
  obtain ⟨V, hV⟩ : ∃ V, vz s.bs = V := ⟨_, rfl⟩
  obtain ⟨k, hk⟩ : ∃ k, tg s.bs = k := ⟨_, rfl⟩
  rw [hV] at HB h q2 q4 ⊢
  rw [hk] at HB q3 q4
  by_cases he : E = 0
  · subst he
    rw [if_pos rfl]
    simp only [if_pos] at q4
    clear hV hk
    go_enter Tryz.func252, Tryz.ntmps252
    go_wp2_with (first | (go_at_call 264; refine q.mono ?_; rintro e w' ⟨rfl, hw⟩; rw [hw]; clear hw) | (go_at_call 265; refine q2.mono ?_; rintro e w' ⟨rfl, hw⟩; rw [hw]; clear hw))
    refine q3.mono ?_
    rintro e w1 ⟨rfl, j, rfl⟩
    go_wp2_with fail
    refine (q4 j).mono ?_
    rintro e w2 ⟨rfl, H2⟩
    have H : Hid (_) := H2
    clear H2 q4 q3 q2 q c0 c1 c6
    go_wp2_with fail
    go_ret2
    obtain ⟨O, M, C⟩ := H.out
    have C' := C.sync HB.out.2
    rw [← HB.out.1 trivial] at C'
    exact ⟨rfl, (Off.drewN _ _ _).trans O, M, fun _ => C', fun h => absurd trivial h⟩
  · rw [if_neg he]
    simp only [if_neg he] at q4
    clear hV hk
    go_enter Tryz.func252, Tryz.ntmps252
    go_wp2_with (first | (go_at_call 264; refine q.mono ?_; rintro e w' ⟨rfl, hw⟩; rw [hw]; clear hw) | (go_at_call 265; refine q2.mono ?_; rintro e w' ⟨rfl, hw⟩; rw [hw]; clear hw))
    refine q3.mono ?_
    rintro e w1 ⟨rfl, j, rfl⟩
    go_wp2_with fail
    refine (q4 j).mono ?_
    rintro e w2 ⟨rfl, H2⟩
    have d6 := H2.2.2.hcut
    have f6 := H2.2.2.fz 6
    have H : Hid (_) := H2
    clear H2 q4 q3 q2 q c0 c1 c6
    go_wp2_with fail
    go_ret2
    obtain ⟨O, M, C⟩ := H.out
    have q1 : Off [c] w2 (w2.setCell ⟨c, 6, none⟩ (.bool true)) := Off.setCell c 6 _ _
    exact ⟨rfl, ((Off.drewN _ _ _).trans O).trans q1.three', M.off q1 (by simp; omega) (by simp; omega), fun h => absurd h he, fun _ => C.setCut true⟩
end Go.Proofs.YtpgdghjlfdehjaaGreat
namespace Go.Proofs.YtpgdghjlfdehjaaGreat
set_option maxRecDepth 100000
open Go.RowKit
theorem open_nil (mx : Int) (w : World) :
    Calls Tryz.prog 57 #[.pointer none, .int .u32 mx] w fun e w' => e = .returned (.tuple #[.pointer none, .int .i64 1]) ∧ w' = w := by
  go_enter Tryz.func57, Tryz.ntmps57
  go_wp2_with fail
  go_ret2
  exact ⟨rfl, rfl⟩
theorem open_no (m g n mx : Nat) (s : Ms) (w : World) (hM : MR w m g n s) (h : mx = 0 ∨ n < 10) :
    Calls Tryz.prog 57 #[.pointer (some ⟨m, 0, none⟩), .int .u32 (mx : Nat)] w fun e w' => e = .returned (.tuple #[.pointer none, .int .i64 2]) ∧ w' = w := by
  have q := size_any m g n s w hM
  clear hM
  by_cases h0 : mx = 0
  · subst h0
    clear h q
    go_enter Tryz.func57, Tryz.ntmps57
    go_wp2_with fail
    go_ret2
    exact ⟨rfl, rfl⟩
  · have h1 : n < 10 := by omega
    have h2 : ¬ (mx : Int) = 0 := by omega
    clear h h0
    go_enter Tryz.func57, Tryz.ntmps57
    go_wp2_with (go_at_call 114; refine q.mono ?_; rintro e w' ⟨rfl, hw⟩; rw [hw]; clear hw)
    go_ret2
    exact ⟨rfl, rfl⟩
set_option maxRecDepth 100000 in
set_option maxHeartbeats 2000000 in
theorem open_off (m g n mx : Nat) (s : Ms) (w : World) (hM : MR w m g n s) (hn : 10 ≤ n) (h0 : mx ≠ 0) (ho : s.off = true) :
    Calls Tryz.prog 57 #[.pointer (some ⟨m, 0, none⟩), .int .u32 (mx : Nat)] w fun e w' => e = .returned (.tuple #[.pointer none, .int .i64 70]) ∧ (Off [m, g] w w' ∧ MR w' m g n s) := by
  have q := size_any m g n s w hM
  have h2 : ((mx : Int) == 0) = false := by simpa using h0
  have h3 : decide ((n : Int) < 10) = false := by simp; omega
  have hA : Off [m, g] w (w.alloc (.cells (CV m mx (fun _ => 0) (fun _ => 0) false) 172)) := Off.alloc _ _ _
  have M1 := hM.off (Off.alloc [] w (.cells (CV m mx (fun _ => 0) (fun _ => 0) false) 172)) (by simp) (by simp)
  have C1 : CX (w.alloc (.cells (CV m mx (fun _ => 0) (fun _ => 0) false) 172)) w.heap.size m mx (fun _ => 0) (fun _ => 0) false := ⟨heap_alloc_new w _⟩
  have q2 := cread_off _ m g n mx _ _ false s _ M1 C1 ho
  have H : Hid (_) := And.intro hA M1
  clear hM hA M1 C1 h0
  go_enter Tryz.func57, Tryz.ntmps57
  go_wp2_with (go_at_call 114; refine q.mono ?_; rintro e w' ⟨rfl, hw⟩; rw [hw]; clear hw)
  refine q2.mono ?_
  rintro e w' ⟨rfl, hw⟩
  rw [hw]
  clear hw
  go_wp2_with fail
  go_ret2
  exact ⟨rfl, H.out⟩
set_option maxRecDepth 100000 in
set_option maxHeartbeats 2000000 in
theorem open_go (m g n mx : Nat) (s : Ms) (w : World) (hM : MR w m g n s) (hn : 10 ≤ n) (h0 : mx ≠ 0) (ho : s.off = false) (ht : s.t < 9223372036854775000) :
    Calls Tryz.prog 57 #[.pointer (some ⟨m, 0, none⟩), .int .u32 (mx : Nat)] w fun e w' =>
      ∃ p, e = .returned (.tuple #[.pointer p, .int .i64 (sqE n (mend s.bs) s)]) ∧ Hid (Off [m, g] w w' ∧ MR w' m g n (sqS n (mend s.bs) s) ∧ (sqE n (mend s.bs) s = 0 → p = some ⟨w.heap.size, 0, none⟩ ∧ CS w' w.heap.size m mx (sqS n (mend s.bs) s).bs false) ∧ (¬ sqE n (mend s.bs) s = 0 → p = none)) := by
  have q := size_any m g n s w hM
  have h2 : ((mx : Int) == 0) = false := by simpa using h0
  have h3 : decide ((n : Int) < 10) = false := by simp; omega
  have lm := hM.lt
  have lg := hM.lg
  have M1 := hM.off (Off.alloc [] w (.cells (CV m mx (fun _ => 0) (fun _ => 0) false) 172)) (by simp) (by simp)
  have C1 : CX (w.alloc (.cells (CV m mx (fun _ => 0) (fun _ => 0) false) 172)) w.heap.size m mx (fun _ => 0) (fun _ => 0) false := ⟨heap_alloc_new w _⟩
  have q2 := cread_any _ m g n mx _ _ false s _ M1 C1 (by omega) (by omega) hn ho
  have hA : Off [m, g, w.heap.size] w (w.alloc (.cells (CV m mx (fun _ => 0) (fun _ => 0) false) 172)) := Off.alloc _ _ _
  have HA : Hid (_) := hA
  have q3 := fun w2 M2 C2 => mend_any w.heap.size m g n mx false s w2 M2 C2 (by omega) (by omega) hn ho ht
  obtain ⟨E, hE⟩ : ∃ E, sqE n (mend s.bs) s = E := ⟨_, rfl⟩
  obtain ⟨S, hS⟩ : ∃ S, sqS n (mend s.bs) s = S := ⟨_, rfl⟩
  rw [hE, hS]
  simp only [hE, hS] at q3
  clear hM M1 C1 h0 hE hS hA
  go_enter Tryz.func57, Tryz.ntmps57
  go_wp2_with (go_at_call 114; refine q.mono ?_; rintro e w' ⟨rfl, hw⟩; rw [hw]; clear hw)
  refine q2.mono ?_
  rintro e w2 ⟨rfl, o2, m2, c2⟩
  have O2 := HA.out.trans o2.three'
  have q4 := q3 w2 m2 c2
  have H2 : Hid (_) := O2
  clear O2 o2 q3 HA m2 c2 q2
  go_wp2_with fail
  refine q4.mono ?_
  rintro e w3 ⟨rfl, H3⟩
  obtain ⟨o3, m3, c3⟩ := H3
  have o4 : Off [m, g] w w3 := (H2.out.trans o3).only (fun k hk hl => by simp only [List.mem_cons, List.not_mem_nil, or_false] at hk ⊢; omega)
  have H : Hid (_) := And.intro o4 (And.intro m3 c3)
  clear o3 o4 m3 c3 H2 q4 q
  by_cases he : E = 0
  · subst he
    go_wp2_with fail
    go_ret2
    obtain ⟨O, M, C⟩ := H.out
    first | exact ⟨_, rfl, O, M, rfl, C trivial⟩ | exact ⟨_, rfl, O, M, rfl, C rfl⟩ | exact ⟨_, rfl, O, M, rfl, C⟩ | exact ⟨_, rfl, ⟨O, M, rfl, C⟩⟩ | exact ⟨_, rfl, ⟨O, M, rfl, C rfl⟩⟩
  · go_wp2_with fail
    go_ret2
    obtain ⟨O, M, C⟩ := H.out
    exact ⟨_, rfl, O, M, fun h => absurd h he, fun _ => rfl⟩
end Go.Proofs.YtpgdghjlfdehjaaGreat
namespace Go.Proofs.YtpgdghjlfdehjaaGreat
set_option maxRecDepth 100000
open Go.RowKit
def S0 (bs : Nat → Nat) : Ms := ⟨bs, false, false, 0, 0⟩
set_option maxHeartbeats 1000000 in
theorem new_ok (n : Nat) (w : World) (hn : n ≤ 4096) :
    Calls Tryz.prog 17 #[.int .i64 (n : Nat)] w fun e w' => ∃ b g, e = .returned (.tuple #[.pointer (some ⟨b, 0, none⟩), .int .i64 0]) ∧ Hid (w.heap.size ≤ b ∧ w.heap.size ≤ g ∧ Off [] w w' ∧ MR w' b g n (S0 fun _ => 0)) := by
  obtain ⟨i0, hi, hz0, hz1, hz2⟩ := info_parts info_u8
  go_enter Tryz.func17, Tryz.ntmps17
  go_wp2_with (at_make; refine wpList_make8 _ rfl (.tmp 10) (.tmp 10) 42 rfl w.heap.size 5 i0 Tryz.underlying42 hi hz0 hz1 hz2 _ _ _ _ n n rfl rfl rfl rfl (Nat.le_refl _) (by omega) (Nat.le_refl _) ?_)
  intro w1 hown1 hbel1
  have H : Hid (_) := And.intro hown1 hbel1
  clear hown1 hbel1
  go_wp2_with fail
  go_ret2
  obtain ⟨hown1, hbel1⟩ := H.out
  have hlt : w.heap.size < w1.heap.size := (hown1.lt _ rfl).2
  refine ⟨_, w.heap.size, rfl, hbel1.size, Nat.le_refl _, (Off.of_below hbel1).trans (Off.alloc _ _ _), ⟨⟨_, heap_alloc_new w1 _, ?_⟩, by intro i _; show 0 < 256; omega, Int.le_refl _, by show (0 : Int) ≤ _; omega, Int.le_refl _, hn⟩⟩
  refine ⟨own_below (own_base hown1 (Nat.zero_le _)) ((Below.refl _ _).alloc (Nat.le_refl _) _), .inr ⟨Nat.ne_of_lt hlt, _, rfl⟩⟩
end Go.Proofs.YtpgdghjlfdehjaaGreat
namespace Go.Proofs.YtpgdghjlfdehjaaGreat
set_option maxRecDepth 100000
open Go.RowKit
theorem bytes_beq (a b : ByteArray) : decide (a = b) = (a.toList == b.toList) := by
  rw [Bool.eq_iff_iff]
  simp only [decide_eq_true_eq, beq_iff_eq, ByteArray.toList_eq]
  constructor
  · intro h; rw [h]
  · intro h
    cases a; cases b
    simp at h
    rw [h]
def BA (bs : Nat → Nat) (n : Nat) : ByteArray := ((List.range n).map fun i => (bs i : Int)).foldl (fun r m => r.push (UInt8.ofNat m.toNat)) ByteArray.empty
theorem foldl_push (l : List Int) : ∀ r : ByteArray, (l.foldl (fun r m => r.push (UInt8.ofNat m.toNat)) r).data.toList = r.data.toList ++ l.map fun m => UInt8.ofNat m.toNat := by
  induction l with
  | nil => intro r; simp
  | cons x l ih =>
    intro r
    rw [List.foldl_cons, ih]
    show (r.data.push _).toList ++ _ = _
    simp
theorem BA_list (bs : Nat → Nat) (n : Nat) : (BA bs n).data.toList = (List.range n).map fun i => UInt8.ofNat (bs i) := by
  unfold BA
  rw [foldl_push, show ByteArray.empty.data.toList = [] from rfl]
  simp [Function.comp_def]
theorem BA_eq (f g : Nat → Nat) (n : Nat) (hf : ∀ i, i < n → f i < 256) (hg : ∀ i, i < n → g i < 256) : BA f n = BA g n ↔ ∀ i, i < n → f i = g i := by
  constructor
  · intro h i hi
    have h1 := congrArg (fun a : ByteArray => a.data.toList[i]?) h
    simp only [BA_list, List.getElem?_map, List.getElem?_range hi, Option.map_some, Option.some.injEq] at h1
    have h2 := congrArg UInt8.toNat h1
    simp only [UInt8.toNat_ofNat'] at h2
    have := hf i hi
    have := hg i hi
    omega
  · intro h
    have : (BA f n).data = (BA g n).data := by
      apply Array.toList_inj.1
      rw [BA_list, BA_list]
      apply List.map_congr_left
      intro i hi
      rw [h i (List.mem_range.1 hi)]
    cases hf : BA f n
    cases hg : BA g n
    rw [hf, hg] at this
    simp at this
    rw [this]
theorem conv_str (b off n cap : Nat) (bs : Nat → Nat) (w : World) (hr : Row8 w (some ⟨b, off, none⟩) n cap bs) :
    (convert 42 9 (.slice (some ⟨b, off, none⟩) n cap)).run Tryz.prog w = .ok (.string (BA bs n)) w := by
  rw [run_convert_bytes_string w 42 9 5 _ n cap Tryz.underlying42 Tryz.underlying5 Tryz.underlying9]
  refine run_bytesToString w ⟨b, off, none⟩ n cap ((List.range n).map fun i => (bs i : Int)) ?_
  have h := run_loadCells_list (P := Tryz.prog) w ⟨b, off, none⟩ (((List.range n).map fun i => (bs i : Int)).map (Value.int .u8)) (fun j v hv => by
    simp only [List.getElem?_map] at hv
    by_cases hj : j < n
    · rw [List.getElem?_range hj] at hv
      simp at hv
      rw [← hv]
      exact hr.src _ rfl j hj
    · rw [List.getElem?_eq_none (by simp; omega)] at hv
      simp at hv)
  simpa using h
theorem conv_any (a : Option Addr) (n cap : Nat) (bs : Nat → Nat) (w : World) (hr : Row8 w a n cap bs) :
    (convert 42 9 (.slice a n cap)).run Tryz.prog w = .ok (.string (BA bs n)) w := by
  cases a with
  | none =>
    obtain ⟨rfl, rfl⟩ := hr.nil rfl
    rw [run_convert_bytes_string w 42 9 5 _ 0 0 Tryz.underlying42 Tryz.underlying5 Tryz.underlying9]
    rfl
  | some x =>
    obtain ⟨b, off, spot⟩ := x
    by_cases h0 : n = 0
    · subst h0
      rw [run_convert_bytes_string w 42 9 5 _ 0 cap Tryz.underlying42 Tryz.underlying5 Tryz.underlying9]
      rfl
    · obtain ⟨b', off', he, _, _⟩ := hr.plain (by omega)
      cases he
      exact conv_str b off n cap bs w hr
theorem any_val {P : Program} {ops : Array Oper} {Q : Exit → Act → World → Prop} {K : Act → World → Prop} {a : Act} {w : World} {i : Nat} {o : Oper} (v : Value) (w' : World) (ho : ops[i]? = some o)
    (hw : Region.wanted o (yielded ops a.tmps) = true) (hrun : (execOp a.eval o).run P w = .ok (.value v) w') (h : K (a.put o.dst v) w') : wpOp P ops Q i K a w := by
  unfold wpOp
  simp only [ho, hw, if_true]
  refine .inl ?_
  unfold Oper.wp
  rw [hrun]
  exact h
theorem any_call {P : Program} {ops : Array Oper} {Q : Exit → Act → World → Prop} {K : Act → World → Prop} {a : Act} {w : World} {i : Nat} {o : Oper} (f : FuncId) (args : Array Value) (ho : ops[i]? = some o)
    (hw : Region.wanted o (yielded ops a.tmps) = true) (hrun : (execOp a.eval o).run P w = .ok (.enter f args) w) (hc : Calls P f args w fun e w'' => ∃ v, e = .returned v ∧ K (a.put o.dst v) w'') : wpOp P ops Q i K a w := by
  unfold wpOp
  simp only [ho, hw, if_true]
  refine .inl ?_
  unfold Oper.wp
  rw [hrun]
  refine hc.mono ?_
  rintro e w'' ⟨v, rfl, h⟩
  exact h
theorem wpAny_at {P : Program} {md : Region.Mode} {ops : Array Oper} {Q : Exit → Act → World → Prop} {fuel : Nat} {l l' : Array Bool} {a a' : Act} {w : World} (ha : a = a') (hl : l = l') (h : wpAny P md ops Q fuel l' a' w) : wpAny P md ops Q fuel l a w := by subst ha; subst hl; exact h
theorem wpAny_one {P : Program} {md : Region.Mode} {ops : Array Oper} {Q : Exit → Act → World → Prop} {fuel : Nat} {l : Array Bool} {a : Act} {w : World} {i : Nat} (hr : Region.ready md ops l = [i]) (h : wpOp P ops Q i (wpAny P md ops Q fuel (l.setIfInBounds i true)) a w) : wpAny P md ops Q (fuel + 1) l a w :=
  wpAny_all hr (by simp) (fun j hj => by obtain rfl := List.mem_singleton.1 hj; exact h)
theorem wpAny_two {P : Program} {md : Region.Mode} {ops : Array Oper} {Q : Exit → Act → World → Prop} {fuel : Nat} {l : Array Bool} {a : Act} {w : World} {i j : Nat} (hr : Region.ready md ops l = [i, j]) (h : wpOp P ops Q i (wpAny P md ops Q fuel (l.setIfInBounds i true)) a w) (h2 : wpOp P ops Q j (wpAny P md ops Q fuel (l.setIfInBounds j true)) a w) : wpAny P md ops Q (fuel + 1) l a w :=
  wpAny_all hr (by simp) (fun k hk => by
    rcases List.mem_cons.1 hk with rfl | hk
    · exact h
    · obtain rfl := List.mem_singleton.1 hk; exact h2)
end Go.Proofs.YtpgdghjlfdehjaaGreat
namespace Go.Proofs.YtpgdghjlfdehjaaGreat
set_option maxRecDepth 100000
open Go.RowKit
end Go.Proofs.YtpgdghjlfdehjaaGreat
namespace Go.Proofs.YtpgdghjlfdehjaaGreat
set_option maxRecDepth 100000
open Go.RowKit
def RC (v : Value) (s : Ms) : Array Value := #[v, .bool s.off, .bool s.ar, .int .i64 s.l, .int .i64 s.t]
structure RR (w : World) (b g n : Nat) (s : Ms) : Prop where
  ex : ∃ v, w.heap[b]? = some (.cells (RC v s) 109 (0, 0)) ∧ Held w b g n s.bs v
  byte : ∀ i, i < n → s.bs i < 256
  l0 : 0 ≤ s.l
  l1 : s.l ≤ 9223372036854775807
  t0 : 0 ≤ s.t
  nn : n ≤ 4096
section
variable {w w' : World} {b g n : Nat} {s : Ms}
theorem RR.lt (h : RR w b g n s) : b < w.heap.size := by
  obtain ⟨v, hv, _⟩ := h.ex
  exact (Array.getElem?_eq_some_iff.1 hv).1
theorem RR.lg (h : RR w b g n s) : g < w.heap.size := by
  obtain ⟨v, hv, hh⟩ := h.ex
  exact hh.lt h.lt
theorem RR.off {l : List Nat} (h : RR w b g n s) (q : Off l w w') (hb : b ∉ l) (hg : g ∉ l) : RR w' b g n s := by
  obtain ⟨v, hv, hh⟩ := h.ex
  exact ⟨⟨v, (q.block b h.lt hb).trans hv, hh.off q hg⟩, h.byte, h.l0, h.l1, h.t0, h.nn⟩
theorem RR.cells (h : RR w b g n s) : ∃ a cap, w.cell? ⟨b, 0, none⟩ = some (.slice a n cap) ∧ Row8 w a n cap s.bs ∧ (0 < n → g ≠ b ∧ a = some ⟨g, 0, none⟩) ∧ w.cell? ⟨b, 1, none⟩ = some (.bool s.off) ∧
    w.cell? ⟨b, 2, none⟩ = some (.bool s.ar) ∧ w.cell? ⟨b, 3, none⟩ = some (.int .i64 s.l) ∧ w.cell? ⟨b, 4, none⟩ = some (.int .i64 s.t) ∧ ∀ j, w.frozen? ⟨b, j, none⟩ = false := by
  obtain ⟨v, hv, hh⟩ := h.ex
  obtain ⟨a, cap, rfl, hr⟩ := hh.row h.byte
  refine ⟨a, cap, cell_of_row w b 0 _ _ _ hv, hr, fun hn => ?_, cell_of_row w b 1 _ _ _ hv, cell_of_row w b 2 _ _ _ hv, cell_of_row w b 3 _ _ _ hv, cell_of_row w b 4 _ _ _ hv, fun j => frozen_of_row w b j _ _ hv⟩
  obtain ⟨hg, cap', he⟩ := hh.plain hn
  simp only [Value.slice.injEq] at he
  exact ⟨hg, he.1⟩
theorem RR.held (h : RR w b g n s) (j : Nat) (hj : j < n) : w.cell? ⟨g, j, none⟩ = some (.int .u8 (s.bs j : Nat)) ∧ w.frozen? ⟨g, j, none⟩ = false := by
  obtain ⟨v, hv, hh⟩ := h.ex
  obtain ⟨hg, cap, rfl⟩ := hh.plain (by omega)
  exact ⟨by rw [hh.own.cellAt j (by omega), CB_get _ _ _ hj], hh.own.frozenAt j⟩
theorem RR.upd (h : RR w b g n s) (s' : Ms) (q : Off [b] w w') (hc : ∀ v, w.heap[b]? = some (.cells (RC v s) 109 (0, 0)) → w'.heap[b]? = some (.cells (RC v s') 109 (0, 0)))
    (hbs : s'.bs = s.bs) (l0 : 0 ≤ s'.l) (l1 : s'.l ≤ 9223372036854775807) (t0 : 0 ≤ s'.t) : RR w' b g n s' := by
  obtain ⟨v, hv, hh⟩ := h.ex
  exact ⟨⟨v, hc v hv, hbs ▸ hh.here q⟩, hbs ▸ h.byte, l0, l1, t0, h.nn⟩
theorem RR.put (h : RR w b g n s) (j x : Nat) (hj : j < n) (hx : x < 256) : RR (w.setCell ⟨g, j, none⟩ (.int .u8 (x : Nat))) b g n { s with bs := fun i => if i = j then x else s.bs i } := by
  obtain ⟨v, hv, hh⟩ := h.ex
  have hg := (hh.plain (by omega)).1
  refine ⟨⟨v, (heap_setCell_other w _ b _ (Ne.symm hg)).trans hv, hh.set j x hj⟩, fun i hi => ?_, h.l0, h.l1, h.t0, h.nn⟩
  by_cases e : i = j
  · simp [e, hx]
  · simp [e, h.byte i hi]
end
end Go.Proofs.YtpgdghjlfdehjaaGreat
namespace Go.Proofs.YtpgdghjlfdehjaaGreat
set_option maxRecDepth 100000
open Go.RowKit
theorem RR.drewN {w : World} {b g n : Nat} {s : Ms} (h : RR w b g n s) (k : Nat) : RR (w.drewN k) b g n s := h.off (Off.drewN [] _ k) (by simp) (by simp)
end Go.Proofs.YtpgdghjlfdehjaaGreat
namespace Go.Proofs.YtpgdghjlfdehjaaGreat
set_option maxRecDepth 100000
open Go.RowKit
def ofs (i : Nat) : Nat := [0, 1, 2, 3, 4, 0].getD i 0
def byt (v i : Nat) : Nat := [0, bt v 0, bt v 1, bt v 2, bt v 3, 165].getD i 0
def A6 : Array Value := #[.int .i64 0, .int .i64 1, .int .i64 2, .int .i64 3, .int .i64 4, .int .i64 0]
def B6 (v : Nat) : Array Value := #[.int .u8 0, .int .u8 (bt v 0 : Nat), .int .u8 (bt v 1 : Nat), .int .u8 (bt v 2 : Nat), .int .u8 (bt v 3 : Nat), .int .u8 165]
structure S6 (w : World) (A B v : Nat) : Prop where
  a : w.heap[A]? = some (.cells A6 3 (0, 0))
  b : w.heap[B]? = some (.cells (B6 v) 5 (0, 0))
theorem S6.off {l : List Nat} {w w' : World} {A B v : Nat} (h : S6 w A B v) (q : Off l w w') (hA : A ∉ l) (hB : B ∉ l) : S6 w' A B v :=
  ⟨(q.block A (Array.getElem?_eq_some_iff.1 h.a).1 hA).trans h.a, (q.block B (Array.getElem?_eq_some_iff.1 h.b).1 hB).trans h.b⟩
theorem S6.cells {w : World} {A B v : Nat} (h : S6 w A B v) (i : Nat) (hi : i < 6) : w.cell? ⟨A, i, none⟩ = some (.int .i64 (ofs i : Nat)) ∧ w.cell? ⟨B, i, none⟩ = some (.int .u8 (byt v i : Nat)) := by
  refine ⟨(cell_of_row w A i _ _ _ h.a).trans ?_, (cell_of_row w B i _ _ _ h.b).trans ?_⟩
  · have : i = 0 ∨ i = 1 ∨ i = 2 ∨ i = 3 ∨ i = 4 ∨ i = 5 := by omega
    rcases this with rfl | rfl | rfl | rfl | rfl | rfl <;> rfl
  · have : i = 0 ∨ i = 1 ∨ i = 2 ∨ i = 3 ∨ i = 4 ∨ i = 5 := by omega
    rcases this with rfl | rfl | rfl | rfl | rfl | rfl <;> rfl
theorem S6.new (w : World) (v : Nat) : S6 ((w.alloc (.cells A6 3)).alloc (.cells (B6 v) 5)) w.heap.size (w.heap.size + 1) v := by
  have e : (w.alloc (.cells A6 3)).heap.size = w.heap.size + 1 := by
    show (w.heap.push _).size = _
    rw [Array.size_push]
  refine ⟨(heap_alloc_old _ _ (by omega)).trans (heap_alloc_new w _), ?_⟩
  have h := heap_alloc_new (w.alloc (.cells A6 3)) (.cells (B6 v) 5)
  rwa [e] at h
end Go.Proofs.YtpgdghjlfdehjaaGreat
