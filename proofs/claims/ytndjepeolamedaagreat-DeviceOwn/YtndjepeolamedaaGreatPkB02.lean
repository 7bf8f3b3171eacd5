/- Part 3 of the texts on which the proofs of layer 13 rest: contracts of Go functions. -/
import Derived.Test.YtndjepeolamedaaGreatProg
import Derived.WalkKit
import Derived.WalkSpells
import Derived.OpenShut
import Derived.Laws.BitsAllLaws
import Derived.Laws.Pointers
import Derived.Laws.LoneSync
import Derived.Laws.NewBlocks
import Derived.Lib.Builder
import Derived.RegionTactic
import Derived.RegionCalls
import Derived.Deep.DeepCutAuto
import Derived.Deep.RegionWith
import Derived.Deep.QuietTactic
import Derived.Test.YtndjepeolamedaaGreatPkB00
import Derived.Test.YtndjepeolamedaaGreatPkB01
namespace Go.Proofs.YtndjepeolamedaaGreat
set_option maxRecDepth 100000
open Go.RowKit
theorem rnext_cut (d m g n mx v : Nat) (dead : Bool) (s : Ms) (w : World) (hM : RR w m g n s) (hC : RX w d m mx v dead) (h : dead = true ∨ s.off = true) :
    Calls Tryz.prog 185 #[.pointer (some ⟨d, 0, none⟩)] w fun e w' => e = .returned (.tuple #[.int .u32 0, .int .i64 70]) ∧ w' = w := by
  obtain ⟨c0, c1, c2, c3, _⟩ := hC.cells
  obtain ⟨_, _, _, _, _, m1, _⟩ := hM.cells
  clear hM hC
  cases dead
  · rw [h.resolve_left (by simp)] at m1
    clear h
    go_enter Tryz.func185, Tryz.ntmps185
    go_wp2_with fail
    go_ret2
    exact ⟨rfl, rfl⟩
  · clear h m1
    go_enter Tryz.func185, Tryz.ntmps185
    go_wp2_with fail
    go_ret2
    exact ⟨rfl, rfl⟩
theorem rnext_full (d m g n mx v : Nat) (s : Ms) (w : World) (hM : RR w m g n s) (hC : RX w d m mx v false) (ho : s.off = false) (h : mx ≤ v) :
    Calls Tryz.prog 185 #[.pointer (some ⟨d, 0, none⟩)] w fun e w' => e = .returned (.tuple #[.int .u32 0, .int .i64 80]) ∧ ∃ j, w' = w.drewN j := by
  obtain ⟨c0, c1, c2, c3, _⟩ := hC.cells
  obtain ⟨_, _, _, _, _, m1, _⟩ := hM.cells
  rw [ho] at m1
  clear hM hC
  go_enter Tryz.func185, Tryz.ntmps185
  go_wp2_with fail
  go_quiet (fail)
  go_wp2_with fail
  go_ret2
  exact ⟨rfl, _, rfl⟩
theorem quiet_more {P : Program} {f : FuncId} {args : Array Value} {w : World} {n : Nat} {v : Value} (h : Calls P f args (w.drewN n) fun e w' => e = .returned v ∧ ∃ j, w' = (w.drewN n).drewN j) :
    Calls P f args (w.drewN n) fun e w'' => e = .returned v ∧ ∃ m, w'' = w.drewN m :=
  h.mono fun _ _ ⟨he, j, hm⟩ => ⟨he, n + j, by rw [hm, World.drewN_drewN]⟩
set_option maxRecDepth 100000 in
set_option maxHeartbeats 4000000 in
theorem rnext_go (d m g n mx v : Nat) (s : Ms) (w : World) (hM : RR w m g n s) (hC : RX w d m mx v false) (hdm : d ≠ m) (hdg : d ≠ g) (hn : 10 ≤ n) (hx : mx < 4294967296) (ho : s.off = false) (h : v < mx) (ht : s.t < 9223372036854775000) :
    Calls Tryz.prog 185 #[.pointer (some ⟨d, 0, none⟩)] w fun e w' => e = .returned (.tuple #[.int .u32 ((if sqE n (six (tg s.bs) (v + 1)) s = 0 then v + 1 else 0 : Nat) : Int), .int .i64 (if sqE n (six (tg s.bs) (v + 1)) s = 0 then 0 else 70)]) ∧
      (Off [m, g, d] w w' ∧ RR w' m g n (sqS n (six (tg s.bs) (v + 1)) s) ∧ (sqE n (six (tg s.bs) (v + 1)) s = 0 → RX w' d m mx (v + 1) false) ∧ (¬ sqE n (six (tg s.bs) (v + 1)) s = 0 → RX w' d m mx v true)) := by
  obtain ⟨c0, c1, c2, c3, _⟩ := hC.cells
  obtain ⟨_, _, _, _, _, m1, _⟩ := hM.cells
  rw [ho] at m1
  have q0 : ∀ b, decide (s.bs 0 = 165) = b → ∀ i j, Calls Tryz.prog 116 #[.pointer (some ⟨m, 0, none⟩), .int .i64 0] ((w.drewN i).drewN j) fun e w' => e = .returned (.bool b) ∧ w' = (w.drewN i).drewN j := fun b hb i j => rholds_is m g n 0 s _ ((hM.drewN i).drewN j) (by omega) hn b hb
  have q1 : ∀ b, decide (s.bs 5 = 165) = b → ∀ i j, Calls Tryz.prog 116 #[.pointer (some ⟨m, 0, none⟩), .int .i64 1] ((w.drewN i).drewN j) fun e w' => e = .returned (.bool b) ∧ w' = (w.drewN i).drewN j := fun b hb i j => rholds_is m g n 1 s _ ((hM.drewN i).drewN j) (by omega) hn b hb
  have q2 : ∀ i j, Calls Tryz.prog 118 #[.pointer (some ⟨m, 0, none⟩), .int .i64 0] ((w.drewN i).drewN j) fun e w' => e = .returned (.int .u32 (wz s.bs 0 : Nat)) ∧ ∃ l, w' = ((w.drewN i).drewN j).drewN l := fun i j => rcword_any m g n 0 s _ ((hM.drewN i).drewN j) (by omega) hn
  have q3 : ∀ i j, Calls Tryz.prog 118 #[.pointer (some ⟨m, 0, none⟩), .int .i64 1] ((w.drewN i).drewN j) fun e w' => e = .returned (.int .u32 (wz s.bs 1 : Nat)) ∧ ∃ l, w' = ((w.drewN i).drewN j).drewN l := fun i j => rcword_any m g n 1 s _ ((hM.drewN i).drewN j) (by omega) hn
  have hk := tg_lt s.bs
  have q6 := fun w' (h : RR w' m g n s) => rsix_any m g n s (tg s.bs) (v + 1) w' h hk (by omega) ht
  obtain ⟨E, hE⟩ : ∃ E, sqE n (six (tg s.bs) (v + 1)) s = E := ⟨_, rfl⟩
  obtain ⟨S, hS⟩ : ∃ S, sqS n (six (tg s.bs) (v + 1)) s = S := ⟨_, rfl⟩
  simp only [hE, hS] at q6 ⊢
  clear hE hS
  obtain ⟨r1, hr1⟩ : ∃ r, (if E = 0 then v + 1 else 0) = r := ⟨_, rfl⟩
  obtain ⟨r2, hr2⟩ : ∃ r, (if E = 0 then (0 : Int) else 70) = r := ⟨_, rfl⟩
  rw [hr1, hr2]
  have HR : Hid (_) := And.intro hr1 hr2
  clear hr1 hr2
  have HC : Hid (_) := hC
  have HT : Hid (tg s.bs = if s.bs 0 = 165 ∧ (s.bs 5 ≠ 165 ∨ wz s.bs 1 < wz s.bs 0) then 1 else 0) := show _ = _ from rfl
  obtain ⟨k, hkk⟩ : ∃ k, tg s.bs = k := ⟨_, rfl⟩
  rw [hkk] at q6 HT hk
  have hp : IntKind.u32.wrap ((v : Int) + 1) = ((v + 1 : Nat) : Int) := by
    rw [IntKind.wrap_u32]
    omega
  have HP : Hid (_) := hp
  have HM : Hid (_) := hM
  clear hM hC hkk hp
  by_cases h0 : s.bs 0 = 165
  · have q0' := q0 true (by simp [h0])
    by_cases h5 : s.bs 5 = 165
    · have q1' := q1 true (by simp [h5])
      generalize wz s.bs 0 = x at *
      generalize wz s.bs 1 = y at *
      by_cases hxy : y < x
      · have hk1 := HT.out
        rw [if_pos ⟨h0, .inr hxy⟩] at hk1
        subst hk1
        clear HT q0 q1 h0 h5 hk
        go_enter Tryz.func185, Tryz.ntmps185
        go_wp2_with fail
        go_quiet (fail)
        go_wp2_with fail
        have Q0 := q0' nq
        have Q1 := q1' nq
        have Q2 := q2 nq
        have Q3 := q3 nq
        have C1 := HC.out.drewN nq
        have M1 := HM.out.drewN nq
        have O1 : Off [m, g, d] w (w.drewN nq) := Off.drewN _ _ _
        clear q0' HC HM c0 c1 c2 c3 m1 q2 q3 q1'
        generalize w.drewN nq = wq at *
        obtain ⟨c0, c1, c2, c3, _⟩ := C1.cells
        go_quiet ((first | (go_at_call_of 116 (Value.int .i64 0); exact Calls.quiet_of_same (Q0 _)) | (go_at_call_of 116 (Value.int .i64 1); exact Calls.quiet_of_same (Q1 _)) | (go_at_call_of 118 (Value.int .i64 0); exact quiet_more (Q2 _)) | (go_at_call_of 118 (Value.int .i64 1); exact quiet_more (Q3 _))))
        go_wp2_with fail
        have C2 := C1.drewN nq
        have M2 := M1.drewN nq
        have O2 : Off [m, g, d] w (wq.drewN nq) := O1.trans (Off.drewN _ _ _)
        clear c0 c1 c2 c3 C1 M1 O1 Q0 Q1 Q2 Q3
        generalize wq.drewN nq = wp at *
        have Q6 : Calls Tryz.prog 117 #[.pointer (some ⟨m, 0, none⟩), .int .i64 1, .int .u32 (IntKind.u32.wrap ((v : Int) + 1))] wp.drew fun e w' => e = .returned (.int .i64 E) ∧ (Off [m, g] wp.drew w' ∧ RR w' m g n S) := by
          rw [HP.out]
          exact q6 _ (M2.off (Off.drew [] wp) (by simp) (by simp))
        have HS : wp.drew.cell? ⟨d, 0, none⟩ = some (.pointer (some ⟨m, 0, none⟩)) ∧ wp.drew.cell? ⟨d, 2, none⟩ = some (.int .u32 (v : Nat)) := ⟨C2.cells.1, C2.cells.2.2.1⟩
        have HC : Hid (_) := And.intro O2 C2
        clear q6 M2 O2 C2
        go_region_held3 (fun w' => w'.cell? ⟨d, 0, none⟩ = some (.pointer (some ⟨m, 0, none⟩)) ∧ w'.cell? ⟨d, 2, none⟩ = some (.int .u32 (v : Nat))) (assumption) (first
          | (go_at_call 117; refine Q6.mono ?_; rintro e w2 ⟨rfl, o2, m2⟩; have C3 := HC.out.2.off ((Off.drew [m, g] wp).trans o2) (by simp; omega); have HT : w2.cell? ⟨d, 0, none⟩ = some (.pointer (some ⟨m, 0, none⟩)) ∧ w2.cell? ⟨d, 2, none⟩ = some (.int .u32 (v : Nat)) := ⟨C3.cells.1, C3.cells.2.2.1⟩; have h1 : Hid (_) := And.intro (HC.out.1.trans ((Off.drew [m, g, d] wp).trans o2.three)) (And.intro m2 C3); clear o2 m2 C3))
        clear HS HT Q6 HC
        obtain ⟨_, _, d2, d3, fz⟩ := h1.out.2.2.cells
        have f2 := fz 2
        have f3 := fz 3
        clear fz
        by_cases he : E = 0
        · subst he
          have hr := HR.out
          rw [if_pos rfl, if_pos rfl] at hr
          obtain ⟨rfl, rfl⟩ := hr
          clear HR
          go_wp2_with fail
          go_ret2
          have q1 : Off [d] w2 (w2.setCell ⟨d, 2, none⟩ (.int .u32 ((v + 1 : Nat) : Int))) := Off.setCell d 2 _ _
          obtain ⟨O, M, C⟩ := h1.out
          exact ⟨rfl, O.trans q1.three', M.off q1 (by simp; omega) (by simp; omega), C.setV (v + 1)⟩
        · have hr := HR.out
          rw [if_neg he, if_neg he] at hr
          obtain ⟨rfl, rfl⟩ := hr
          clear HR
          go_wp2_with fail
          go_ret2
          have q1 : Off [d] w2 (w2.setCell ⟨d, 3, none⟩ (.bool true)) := Off.setCell d 3 _ _
          obtain ⟨O, M, C⟩ := h1.out
          exact ⟨rfl, O.trans q1.three', M.off q1 (by simp; omega) (by simp; omega), fun h => absurd h he, fun _ => C.setD true⟩
      · have hk1 := HT.out
        rw [if_neg (by omega)] at hk1
        subst hk1
        clear HT q0 q1 h0 h5 hk
        go_enter Tryz.func185, Tryz.ntmps185
        go_wp2_with fail
        go_quiet (fail)
        go_wp2_with fail
        have Q0 := q0' nq
        have Q1 := q1' nq
        have Q2 := q2 nq
        have Q3 := q3 nq
        have C1 := HC.out.drewN nq
        have M1 := HM.out.drewN nq
        have O1 : Off [m, g, d] w (w.drewN nq) := Off.drewN _ _ _
        clear q0' HC HM c0 c1 c2 c3 m1 q2 q3 q1'
        generalize w.drewN nq = wq at *
        obtain ⟨c0, c1, c2, c3, _⟩ := C1.cells
        go_quiet ((first | (go_at_call_of 116 (Value.int .i64 0); exact Calls.quiet_of_same (Q0 _)) | (go_at_call_of 116 (Value.int .i64 1); exact Calls.quiet_of_same (Q1 _)) | (go_at_call_of 118 (Value.int .i64 0); exact quiet_more (Q2 _)) | (go_at_call_of 118 (Value.int .i64 1); exact quiet_more (Q3 _))))
        go_wp2_with fail
        have C2 := C1.drewN nq
        have M2 := M1.drewN nq
        have O2 : Off [m, g, d] w (wq.drewN nq) := O1.trans (Off.drewN _ _ _)
        clear c0 c1 c2 c3 C1 M1 O1 Q0 Q1 Q2 Q3
        generalize wq.drewN nq = wp at *
        have Q6 : Calls Tryz.prog 117 #[.pointer (some ⟨m, 0, none⟩), .int .i64 0, .int .u32 (IntKind.u32.wrap ((v : Int) + 1))] wp.drew fun e w' => e = .returned (.int .i64 E) ∧ (Off [m, g] wp.drew w' ∧ RR w' m g n S) := by
          rw [HP.out]
          exact q6 _ (M2.off (Off.drew [] wp) (by simp) (by simp))
        have HS : wp.drew.cell? ⟨d, 0, none⟩ = some (.pointer (some ⟨m, 0, none⟩)) ∧ wp.drew.cell? ⟨d, 2, none⟩ = some (.int .u32 (v : Nat)) := ⟨C2.cells.1, C2.cells.2.2.1⟩
        have HC : Hid (_) := And.intro O2 C2
        clear q6 M2 O2 C2
        go_region_held3 (fun w' => w'.cell? ⟨d, 0, none⟩ = some (.pointer (some ⟨m, 0, none⟩)) ∧ w'.cell? ⟨d, 2, none⟩ = some (.int .u32 (v : Nat))) (assumption) (first
          | (go_at_call 117; refine Q6.mono ?_; rintro e w2 ⟨rfl, o2, m2⟩; have C3 := HC.out.2.off ((Off.drew [m, g] wp).trans o2) (by simp; omega); have HT : w2.cell? ⟨d, 0, none⟩ = some (.pointer (some ⟨m, 0, none⟩)) ∧ w2.cell? ⟨d, 2, none⟩ = some (.int .u32 (v : Nat)) := ⟨C3.cells.1, C3.cells.2.2.1⟩; have h1 : Hid (_) := And.intro (HC.out.1.trans ((Off.drew [m, g, d] wp).trans o2.three)) (And.intro m2 C3); clear o2 m2 C3))
        clear HS HT Q6 HC
        obtain ⟨_, _, d2, d3, fz⟩ := h1.out.2.2.cells
        have f2 := fz 2
        have f3 := fz 3
        clear fz
        by_cases he : E = 0
        · subst he
          have hr := HR.out
          rw [if_pos rfl, if_pos rfl] at hr
          obtain ⟨rfl, rfl⟩ := hr
          clear HR
          go_wp2_with fail
          go_ret2
          have q1 : Off [d] w2 (w2.setCell ⟨d, 2, none⟩ (.int .u32 ((v + 1 : Nat) : Int))) := Off.setCell d 2 _ _
          obtain ⟨O, M, C⟩ := h1.out
          exact ⟨rfl, O.trans q1.three', M.off q1 (by simp; omega) (by simp; omega), C.setV (v + 1)⟩
        · have hr := HR.out
          rw [if_neg he, if_neg he] at hr
          obtain ⟨rfl, rfl⟩ := hr
          clear HR
          go_wp2_with fail
          go_ret2
          have q1 : Off [d] w2 (w2.setCell ⟨d, 3, none⟩ (.bool true)) := Off.setCell d 3 _ _
          obtain ⟨O, M, C⟩ := h1.out
          exact ⟨rfl, O.trans q1.three', M.off q1 (by simp; omega) (by simp; omega), fun h => absurd h he, fun _ => C.setD true⟩
    · have q1' := q1 false (by simp [h5])
      have hk1 := HT.out
      rw [if_pos ⟨h0, .inl h5⟩] at hk1
      subst hk1
      clear HT q0 q1 h0 h5 hk
      go_enter Tryz.func185, Tryz.ntmps185
      go_wp2_with fail
      go_quiet (fail)
      go_wp2_with fail
      have Q0 := q0' nq
      have Q1 := q1' nq
      have C1 := HC.out.drewN nq
      have M1 := HM.out.drewN nq
      have O1 : Off [m, g, d] w (w.drewN nq) := Off.drewN _ _ _
      clear q0' HC HM c0 c1 c2 c3 m1 q2 q3 q1'
      generalize w.drewN nq = wq at *
      obtain ⟨c0, c1, c2, c3, _⟩ := C1.cells
      go_quiet ((first | (go_at_call_of 116 (Value.int .i64 0); exact Calls.quiet_of_same (Q0 _)) | (go_at_call_of 116 (Value.int .i64 1); exact Calls.quiet_of_same (Q1 _))))
      go_wp2_with fail
      have C2 := C1.drewN nq
      have M2 := M1.drewN nq
      have O2 : Off [m, g, d] w (wq.drewN nq) := O1.trans (Off.drewN _ _ _)
      clear c0 c1 c2 c3 C1 M1 O1 Q0 Q1
      generalize wq.drewN nq = wp at *
      have Q6 : Calls Tryz.prog 117 #[.pointer (some ⟨m, 0, none⟩), .int .i64 1, .int .u32 (IntKind.u32.wrap ((v : Int) + 1))] wp.drew fun e w' => e = .returned (.int .i64 E) ∧ (Off [m, g] wp.drew w' ∧ RR w' m g n S) := by
        rw [HP.out]
        exact q6 _ (M2.off (Off.drew [] wp) (by simp) (by simp))
      have HS : wp.drew.cell? ⟨d, 0, none⟩ = some (.pointer (some ⟨m, 0, none⟩)) ∧ wp.drew.cell? ⟨d, 2, none⟩ = some (.int .u32 (v : Nat)) := ⟨C2.cells.1, C2.cells.2.2.1⟩
      have HC : Hid (_) := And.intro O2 C2
      clear q6 M2 O2 C2
      go_region_held3 (fun w' => w'.cell? ⟨d, 0, none⟩ = some (.pointer (some ⟨m, 0, none⟩)) ∧ w'.cell? ⟨d, 2, none⟩ = some (.int .u32 (v : Nat))) (assumption) (first
        | (go_at_call 117; refine Q6.mono ?_; rintro e w2 ⟨rfl, o2, m2⟩; have C3 := HC.out.2.off ((Off.drew [m, g] wp).trans o2) (by simp; omega); have HT : w2.cell? ⟨d, 0, none⟩ = some (.pointer (some ⟨m, 0, none⟩)) ∧ w2.cell? ⟨d, 2, none⟩ = some (.int .u32 (v : Nat)) := ⟨C3.cells.1, C3.cells.2.2.1⟩; have h1 : Hid (_) := And.intro (HC.out.1.trans ((Off.drew [m, g, d] wp).trans o2.three)) (And.intro m2 C3); clear o2 m2 C3))
      clear HS HT Q6 HC
      obtain ⟨_, _, d2, d3, fz⟩ := h1.out.2.2.cells
      have f2 := fz 2
      have f3 := fz 3
      clear fz
      by_cases he : E = 0
      · subst he
        have hr := HR.out
        rw [if_pos rfl, if_pos rfl] at hr
        obtain ⟨rfl, rfl⟩ := hr
        clear HR
        go_wp2_with fail
        go_ret2
        have q1 : Off [d] w2 (w2.setCell ⟨d, 2, none⟩ (.int .u32 ((v + 1 : Nat) : Int))) := Off.setCell d 2 _ _
        obtain ⟨O, M, C⟩ := h1.out
        exact ⟨rfl, O.trans q1.three', M.off q1 (by simp; omega) (by simp; omega), C.setV (v + 1)⟩
      · have hr := HR.out
        rw [if_neg he, if_neg he] at hr
        obtain ⟨rfl, rfl⟩ := hr
        clear HR
        go_wp2_with fail
        go_ret2
        have q1 : Off [d] w2 (w2.setCell ⟨d, 3, none⟩ (.bool true)) := Off.setCell d 3 _ _
        obtain ⟨O, M, C⟩ := h1.out
        exact ⟨rfl, O.trans q1.three', M.off q1 (by simp; omega) (by simp; omega), fun h => absurd h he, fun _ => C.setD true⟩
  · have q0' := q0 false (by simp [h0])
    have hk1 := HT.out
    rw [if_neg (fun h => h0 h.1)] at hk1
    subst hk1
    clear HT q0 q1 h0 hk
    go_enter Tryz.func185, Tryz.ntmps185
    go_wp2_with fail
    go_quiet (fail)
    go_wp2_with fail
    have Q0 := q0' nq
    have C1 := HC.out.drewN nq
    have M1 := HM.out.drewN nq
    have O1 : Off [m, g, d] w (w.drewN nq) := Off.drewN _ _ _
    clear q0' HC HM c0 c1 c2 c3 m1 q2 q3
    generalize w.drewN nq = wq at *
    obtain ⟨c0, c1, c2, c3, _⟩ := C1.cells
    go_quiet (((go_at_call_of 116 (Value.int .i64 0); exact Calls.quiet_of_same (Q0 _))))
    go_wp2_with fail
    have C2 := C1.drewN nq
    have M2 := M1.drewN nq
    have O2 : Off [m, g, d] w (wq.drewN nq) := O1.trans (Off.drewN _ _ _)
    clear c0 c1 c2 c3 C1 M1 O1 Q0
    generalize wq.drewN nq = wp at *
    have Q6 : Calls Tryz.prog 117 #[.pointer (some ⟨m, 0, none⟩), .int .i64 0, .int .u32 (IntKind.u32.wrap ((v : Int) + 1))] wp.drew fun e w' => e = .returned (.int .i64 E) ∧ (Off [m, g] wp.drew w' ∧ RR w' m g n S) := by
      rw [HP.out]
      exact q6 _ (M2.off (Off.drew [] wp) (by simp) (by simp))
    have HS : wp.drew.cell? ⟨d, 0, none⟩ = some (.pointer (some ⟨m, 0, none⟩)) ∧ wp.drew.cell? ⟨d, 2, none⟩ = some (.int .u32 (v : Nat)) := ⟨C2.cells.1, C2.cells.2.2.1⟩
    have HC : Hid (_) := And.intro O2 C2
    clear q6 M2 O2 C2
    go_region_held3 (fun w' => w'.cell? ⟨d, 0, none⟩ = some (.pointer (some ⟨m, 0, none⟩)) ∧ w'.cell? ⟨d, 2, none⟩ = some (.int .u32 (v : Nat))) (assumption) (first
      | (go_at_call 117; refine Q6.mono ?_; rintro e w2 ⟨rfl, o2, m2⟩; have C3 := HC.out.2.off ((Off.drew [m, g] wp).trans o2) (by simp; omega); have HT : w2.cell? ⟨d, 0, none⟩ = some (.pointer (some ⟨m, 0, none⟩)) ∧ w2.cell? ⟨d, 2, none⟩ = some (.int .u32 (v : Nat)) := ⟨C3.cells.1, C3.cells.2.2.1⟩; have h1 : Hid (_) := And.intro (HC.out.1.trans ((Off.drew [m, g, d] wp).trans o2.three)) (And.intro m2 C3); clear o2 m2 C3))
    clear HS HT Q6 HC
    obtain ⟨_, _, d2, d3, fz⟩ := h1.out.2.2.cells
    have f2 := fz 2
    have f3 := fz 3
    clear fz
    by_cases he : E = 0
    · subst he
      have hr := HR.out
      rw [if_pos rfl, if_pos rfl] at hr
      obtain ⟨rfl, rfl⟩ := hr
      clear HR
      go_wp2_with fail
      go_ret2
      have q1 : Off [d] w2 (w2.setCell ⟨d, 2, none⟩ (.int .u32 ((v + 1 : Nat) : Int))) := Off.setCell d 2 _ _
      obtain ⟨O, M, C⟩ := h1.out
      exact ⟨rfl, O.trans q1.three', M.off q1 (by simp; omega) (by simp; omega), C.setV (v + 1)⟩
    · have hr := HR.out
      rw [if_neg he, if_neg he] at hr
      obtain ⟨rfl, rfl⟩ := hr
      clear HR
      go_wp2_with fail
      go_ret2
      have q1 : Off [d] w2 (w2.setCell ⟨d, 3, none⟩ (.bool true)) := Off.setCell d 3 _ _
      obtain ⟨O, M, C⟩ := h1.out
      exact ⟨rfl, O.trans q1.three', M.off q1 (by simp; omega) (by simp; omega), fun h => absurd h he, fun _ => C.setD true⟩
end Go.Proofs.YtndjepeolamedaaGreat
namespace Go.Proofs.YtndjepeolamedaaGreat
set_option maxRecDepth 100000
open Go.RowKit
def opE (mx n : Nat) (s : Ms) : Int := if mx = 0 ∨ n < 10 then 2 else if s.off then 70 else sqE n (mend s.bs) s
def opS (mx n : Nat) (s : Ms) : Ms := if mx = 0 ∨ n < 10 then s else if s.off then s else sqS n (mend s.bs) s
structure Nx where
  v : Nat
  e : Int
  s : Ms
  z : Nat → Nat
  c : Bool
def nx (mx n : Nat) (z : Nat → Nat) (cut : Bool) (s : Ms) : Nx :=
  if cut = true ∨ s.off = true then ⟨0, 70, s, z, cut⟩ else if mx ≤ vz z then ⟨0, 80, s, z, cut⟩ else
  if sqE n (six (tg z) (vz z + 1)) s = 0 then ⟨vz z + 1, 0, sqS n (six (tg z) (vz z + 1)) s, (sqS n (six (tg z) (vz z + 1)) s).bs, false⟩ else ⟨0, 70, sqS n (six (tg z) (vz z + 1)) s, z, true⟩
theorem sqE_val {n : Nat} {l : List (Nat × Nat)} {s : Ms} (hin : ∀ x, x ∈ l → x.1 < n ∧ x.2 < 256) (ho : s.off = false) (hl : 0 ≤ s.l) : sqE n l s = 0 ∨ sqE n l s = 70 := by
  rcases sq_all n l s (fun x hx => (hin x hx).1) ho hl with ⟨h, _⟩ | ⟨h, _⟩
  · exact .inl h
  · exact .inr h
theorem sqS_t {n : Nat} {l : List (Nat × Nat)} {s : Ms} (hin : ∀ x, x ∈ l → x.1 < n ∧ x.2 < 256) (ho : s.off = false) (hl : 0 ≤ s.l) : (sqS n l s).t ≤ s.t + l.length := by
  rcases sq_all n l s (fun x hx => (hin x hx).1) ho hl with ⟨_, h, _⟩ | ⟨_, h, _, h4⟩
  · rw [h]
    exact Int.le_refl _
  · rw [h]
    show s.t + s.l ≤ _
    omega
theorem opS_t (mx n : Nat) (s : Ms) (hl : 0 ≤ s.l) : (opS mx n s).t ≤ s.t + 6 := by
  unfold opS
  split
  · omega
  · split
    · omega
    · have := sqS_t (mend_in s.bs n (by omega)) (by simpa using ‹¬ s.off = true›) hl
      have := mend_len s.bs
      omega
theorem nx_t (mx n : Nat) (z : Nat → Nat) (cut : Bool) (s : Ms) (hn : 10 ≤ n) (hl : 0 ≤ s.l) : (nx mx n z cut s).s.t ≤ s.t + 6 := by
  unfold nx
  split
  · show s.t ≤ s.t + 6; omega
  · split
    · show s.t ≤ s.t + 6; omega
    · rename_i h _
      have ho : s.off = false := by cases hh : s.off <;> simp [hh] at h ⊢
      have := sqS_t (six_in (tg z) (vz z + 1) n (tg_lt z) hn) ho hl
      split
      · exact this
      · exact this
theorem popen (m g n mx : Nat) (s : Ms) (w : World) (hM : MR w m g n s) (ht : s.t < 9223372036854774000) :
    Calls Tryz.prog 50 #[.pointer (some ⟨m, 0, none⟩), .int .u32 (mx : Nat)] w fun e w' => ∃ p, e = .returned (.tuple #[.pointer p, .int .i64 (opE mx n s)]) ∧ Hid (Off [m, g] w w' ∧ MR w' m g n (opS mx n s) ∧
      (opE mx n s = 0 → ∃ c, p = some ⟨c, 0, none⟩ ∧ w.heap.size ≤ c ∧ CS w' c m mx (opS mx n s).bs false) ∧ (¬ opE mx n s = 0 → p = none)) := by
  unfold opE opS
  by_cases h1 : mx = 0 ∨ n < 10
  · rw [if_pos h1, if_pos h1]
    refine (open_no m g n mx s w hM h1).mono ?_
    rintro e w' ⟨rfl, rfl⟩
    exact ⟨_, rfl, Off.refl _ _, hM, fun h => by omega, fun _ => rfl⟩
  · rw [if_neg h1, if_neg h1]
    by_cases ho : s.off = true
    · rw [if_pos ho, if_pos ho]
      refine (open_off m g n mx s w hM (by omega) (by omega) ho).mono ?_
      rintro e w' ⟨rfl, o, M⟩
      exact ⟨_, rfl, o, M, fun h => by omega, fun _ => rfl⟩
    · rw [if_neg ho, if_neg ho]
      refine (open_go m g n mx s w hM (by omega) (by omega) (by simpa using ho) (by omega)).mono ?_
      rintro e w' ⟨p, rfl, H⟩
      obtain ⟨o, M, C, D⟩ := H.out
      exact ⟨p, rfl, o, M, fun h => ⟨_, (C h).1, Nat.le_refl _, (C h).2⟩, D⟩
theorem opened (m g n mx : Nat) (s : Ms) (w : World) (hM : MR w m g n s) (h : opE mx n s = 0) : mx ≠ 0 ∧ 10 ≤ n ∧ vz (opS mx n s).bs = vz s.bs := by
  unfold opE at h
  unfold opS
  by_cases h1 : mx = 0 ∨ n < 10
  · rw [if_pos h1] at h; omega
  · rw [if_neg h1] at h ⊢
    by_cases ho : s.off = true
    · rw [if_pos ho] at h; omega
    · rw [if_neg ho] at h ⊢
      refine ⟨by omega, by omega, ?_⟩
      rw [sq_bs (mend_in s.bs n (by omega)) (by simpa using ho) hM.l0 h]
      have q := vz_mend s.bs 6 (fun i hi => hM.byte i (by omega))
      rwa [List.take_of_length_le (mend_len s.bs)] at q
theorem ropen (m g n mx : Nat) (s : Ms) (w : World) (hM : RR w m g n s) (ht : s.t < 9223372036854774000) :
    Calls Tryz.prog 54 #[.pointer (some ⟨m, 0, none⟩), .int .u32 (mx : Nat)] w fun e w' => ∃ p, e = .returned (.tuple #[.pointer p, .int .i64 (opE mx n s)]) ∧ Hid (Off [m, g] w w' ∧ RR w' m g n (opS mx n s) ∧
      (opE mx n s = 0 → ∃ d, p = some ⟨d, 0, none⟩ ∧ w.heap.size ≤ d ∧ RX w' d m mx (vz s.bs) false) ∧ (¬ opE mx n s = 0 → p = none)) := by
  unfold opE opS
  by_cases h1 : mx = 0 ∨ n < 10
  · rw [if_pos h1, if_pos h1]
    refine (ropen_no m g n mx s w hM h1).mono ?_
    rintro e w' ⟨rfl, rfl⟩
    exact ⟨_, rfl, Off.refl _ _, hM, fun h => by omega, fun _ => rfl⟩
  · rw [if_neg h1, if_neg h1]
    by_cases ho : s.off = true
    · rw [if_pos ho, if_pos ho]
      refine (ropen_off m g n mx s w hM (by omega) (by omega) ho).mono ?_
      rintro e w' ⟨rfl, rfl⟩
      exact ⟨_, rfl, Off.refl _ _, hM, fun h => by omega, fun _ => rfl⟩
    · rw [if_neg ho, if_neg ho]
      exact ropen_go m g n mx s w hM (by omega) (by omega) (by simpa using ho) ht
theorem pnext (c m g n mx : Nat) (z : Nat → Nat) (cut : Bool) (s : Ms) (w : World) (hM : MR w m g n s) (hC : CS w c m mx z cut) (hz : Bz z) (hzs : cut = false → z = s.bs) (hcm : c ≠ m) (hcg : c ≠ g) (hn : 10 ≤ n) (hx : mx < 4294967296) (ht : s.t < 9223372036854774000) :
    Calls Tryz.prog 239 #[.pointer (some ⟨c, 0, none⟩)] w fun e w' => e = .returned (.tuple #[.int .u32 ((nx mx n z cut s).v : Nat), .int .i64 (nx mx n z cut s).e]) ∧
      (Off [m, g, c] w w' ∧ MR w' m g n (nx mx n z cut s).s ∧ CS w' c m mx (nx mx n z cut s).z (nx mx n z cut s).c) := by
  unfold nx
  by_cases h1 : cut = true ∨ s.off = true
  · rw [if_pos h1]
    refine (next_cut c m g n mx z cut s w hM hC h1).mono ?_
    rintro e w' ⟨rfl, rfl⟩
    exact ⟨rfl, Off.refl _ _, hM, hC⟩
  · rw [if_neg h1]
    have hc : cut = false := by cases cut <;> simp at h1 ⊢
    have ho : s.off = false := by cases hh : s.off <;> simp [hh] at h1 ⊢
    subst hc
    by_cases h2 : mx ≤ vz z
    · rw [if_pos h2]
      refine (next_full c m g n mx z s w hM hC hz ho h2).mono ?_
      rintro e w' ⟨rfl, rfl⟩
      exact ⟨rfl, Off.refl _ _, hM, hC⟩
    · rw [if_neg h2]
      obtain rfl := hzs rfl
      have q := next_go c m g n mx s w hM hC hcm hcg hn hx ho (by omega) (by omega)
      by_cases h3 : sqE n (six (tg s.bs) (vz s.bs + 1)) s = 0
      · rw [if_pos h3]
        rw [if_pos h3] at q
        refine q.mono ?_
        rintro e w' ⟨rfl, o, M, C, _⟩
        exact ⟨by rw [h3], o, M, C h3⟩
      · rw [if_neg h3]
        rw [if_neg h3] at q
        have h4 := (sqE_val (six_in (tg s.bs) (vz s.bs + 1) n (tg_lt _) hn) ho hM.l0).resolve_left h3
        refine q.mono ?_
        rintro e w' ⟨rfl, o, M, _, C⟩
        exact ⟨by rw [h4], o, M, C h3⟩
theorem rnext (d m g n mx : Nat) (z : Nat → Nat) (cut : Bool) (s : Ms) (w : World) (hM : RR w m g n s) (hC : RX w d m mx (vz z) cut) (hzs : cut = false → z = s.bs) (hcm : d ≠ m) (hcg : d ≠ g) (hn : 10 ≤ n) (hx : mx < 4294967296) (ht : s.t < 9223372036854774000) :
    Calls Tryz.prog 185 #[.pointer (some ⟨d, 0, none⟩)] w fun e w' => e = .returned (.tuple #[.int .u32 ((nx mx n z cut s).v : Nat), .int .i64 (nx mx n z cut s).e]) ∧
      (Off [m, g, d] w w' ∧ RR w' m g n (nx mx n z cut s).s ∧ RX w' d m mx (vz (nx mx n z cut s).z) (nx mx n z cut s).c) := by
  unfold nx
  by_cases h1 : cut = true ∨ s.off = true
  · rw [if_pos h1]
    refine (rnext_cut d m g n mx (vz z) cut s w hM hC h1).mono ?_
    rintro e w' ⟨rfl, rfl⟩
    exact ⟨rfl, Off.refl _ _, hM, hC⟩
  · rw [if_neg h1]
    have hc : cut = false := by cases cut <;> simp at h1 ⊢
    have ho : s.off = false := by cases hh : s.off <;> simp [hh] at h1 ⊢
    subst hc
    by_cases h2 : mx ≤ vz z
    · rw [if_pos h2]
      refine (rnext_full d m g n mx (vz z) s w hM hC ho h2).mono ?_
      rintro e w' ⟨rfl, j, rfl⟩
      exact ⟨rfl, Off.drewN _ _ _, hM.drewN j, hC.drewN j⟩
    · rw [if_neg h2]
      obtain rfl := hzs rfl
      have q := rnext_go d m g n mx (vz s.bs) s w hM hC hcm hcg hn hx ho (by omega) (by omega)
      by_cases h3 : sqE n (six (tg s.bs) (vz s.bs + 1)) s = 0
      · rw [if_pos h3]
        rw [if_pos h3, if_pos h3] at q
        refine q.mono ?_
        rintro e w' ⟨rfl, o, M, C, _⟩
        refine ⟨rfl, o, M, ?_⟩
        have hb := sq_bs (six_in (tg s.bs) (vz s.bs + 1) n (tg_lt _) hn) ho hM.l0 h3
        have hv := vz_next s.bs (vz s.bs + 1) (by omega) (by omega)
        show RX w' d m mx (vz (sqS n (six (tg s.bs) (vz s.bs + 1)) s).bs) false
        rw [hb, hv]
        exact C h3
      · rw [if_neg h3]
        rw [if_neg h3, if_neg h3] at q
        refine q.mono ?_
        rintro e w' ⟨rfl, o, M, _, C⟩
        exact ⟨rfl, o, M, C h3⟩
end Go.Proofs.YtndjepeolamedaaGreat
namespace Go.Proofs.YtndjepeolamedaaGreat
set_option maxRecDepth 100000
open Go.RowKit
section
variable {P : Program} {f : FuncId} {fn : Func}
end
theorem u64_load (a : Addr) (d : Int) (w : World) (h0 : w.cell? a = some (.int .u64 d)) :
    Calls Tryz.prog 200 #[.pointer (some a)] w fun e w' => e = .returned (.int .u64 d) ∧ w' = w := by
  have hl := run_call_load (P := Tryz.prog) Tryz.func231 (by kernel_rfl) (by kernel_rfl) (by kernel_rfl) .u64 (by kernel_rfl) h0
  go_enter Tryz.func200, Tryz.ntmps200
  go_wp2
  go_ret
  exact ⟨rfl, rfl⟩
theorem u64_cas (a : Addr) (x y : Int) (w : World) (h0 : w.cell? a = some (.int .u64 x)) (hz : w.frozen? a = false) :
    Calls Tryz.prog 222 #[.pointer (some a), .int .u64 x, .int .u64 y] w fun e w' => e = .returned (.bool true) ∧ w' = w.setCell a (.int .u64 y) := by
  have hl := run_call_cas_hit (P := Tryz.prog) Tryz.func240 (by kernel_rfl) (by kernel_rfl) (by kernel_rfl) .u64 (by kernel_rfl) (y := y) h0 hz
  go_enter Tryz.func222, Tryz.ntmps222
  go_wp2
  go_ret
  exact ⟨rfl, rfl⟩
theorem i64_load (a : Addr) (d : Int) (w : World) (h0 : w.cell? a = some (.int .i64 d)) :
    Calls Tryz.prog 131 #[.pointer (some a)] w fun e w' => e = .returned (.int .i64 d) ∧ w' = w := by
  have hl := run_call_load (P := Tryz.prog) Tryz.func188 (by kernel_rfl) (by kernel_rfl) (by kernel_rfl) .i64 (by kernel_rfl) h0
  go_enter Tryz.func131, Tryz.ntmps131
  go_wp2
  go_ret
  exact ⟨rfl, rfl⟩
theorem i64_cas (a : Addr) (x y : Int) (w : World) (h0 : w.cell? a = some (.int .i64 x)) (hz : w.frozen? a = false) :
    Calls Tryz.prog 225 #[.pointer (some a), .int .i64 x, .int .i64 y] w fun e w' => e = .returned (.bool true) ∧ w' = w.setCell a (.int .i64 y) := by
  have hl := run_call_cas_hit (P := Tryz.prog) Tryz.func249 (by kernel_rfl) (by kernel_rfl) (by kernel_rfl) .i64 (by kernel_rfl) (y := y) h0 hz
  go_enter Tryz.func225, Tryz.ntmps225
  go_wp2
  go_ret
  exact ⟨rfl, rfl⟩
theorem i64_store (a : Addr) (x y : Int) (w : World) (h0 : w.cell? a = some (.int .i64 x)) (hz : w.frozen? a = false) :
    Calls Tryz.prog 234 #[.pointer (some a), .int .i64 y] w fun e w' => e = .returned (.tuple #[]) ∧ w' = w.setCell a (.int .i64 y) := by
  have hl := run_call_store (P := Tryz.prog) Tryz.func252 (by kernel_rfl) (by kernel_rfl) (by kernel_rfl) (by kernel_rfl) (k := .i64) (y := y) h0 hz
  go_enter Tryz.func234, Tryz.ntmps234
  go_wp2
  go_end0
  exact ⟨rfl, rfl⟩
end Go.Proofs.YtndjepeolamedaaGreat
namespace Go.Proofs.YtndjepeolamedaaGreat
set_option maxRecDepth 100000
open Go.RowKit
def DC (l c : Nat) : Array Value := #[.int .i64 l, .int .i64 c]
structure DR (w : World) (b l c : Nat) : Prop where
  at_ : w.heap[b]? = some (.cells (DC l c) 202 (0, 0))
  lo : 1 ≤ l
  hi : l ≤ 1048576
  le : c ≤ l
section
variable {w w' : World} {b l c : Nat}
theorem DR.lt (h : DR w b l c) : b < w.heap.size := (Array.getElem?_eq_some_iff.1 h.at_).1
theorem DR.c0 (h : DR w b l c) : w.cell? ⟨b, 0, none⟩ = some (.int .i64 l) := cell_of_row w b 0 _ _ _ h.at_
theorem DR.c1 (h : DR w b l c) : w.cell? ⟨b, 1, none⟩ = some (.int .i64 c) := cell_of_row w b 1 _ _ _ h.at_
theorem DR.fz (h : DR w b l c) (j : Nat) : w.frozen? ⟨b, j, none⟩ = false := frozen_of_row w b j _ _ h.at_
theorem DR.off {m : List Nat} (h : DR w b l c) (q : Off m w w') (hb : b ∉ m) : DR w' b l c := ⟨(q.block b h.lt hb).trans h.at_, h.lo, h.hi, h.le⟩
theorem DR.set (h : DR w b l c) (x : Nat) (hx : x ≤ l) : DR (w.setCell ⟨b, 1, none⟩ (.int .i64 x)) b l x := ⟨heap_setCell_same _ _ _ _ _ _ h.at_, h.lo, h.hi, hx⟩
theorem DR.drewN (h : DR w b l c) (k : Nat) : DR (w.drewN k) b l c := h.off (Off.drewN [] _ k) (by simp)
end
def tk (l c n : Nat) : Nat := c + min n (l - c)
def told (l c n : Nat) : Bool := decide (c < l ∧ l ≤ c + n)
theorem tk_le (l c n : Nat) (h : c ≤ l) : tk l c n ≤ l := by unfold tk; omega
theorem wnew_ok (l : Nat) (w : World) (h1 : 1 ≤ l) (h2 : l ≤ 1048576) :
    Calls Tryz.prog 113 #[.int .i64 l] w fun e w' => e = .returned (.tuple #[.pointer (some ⟨w.heap.size, 0, none⟩), .int .i64 0]) ∧ (Off [] w w' ∧ DR w' w.heap.size l 0) := by
  go_enter Tryz.func113, Tryz.ntmps113
  go_wp2
  go_ret2
  exact ⟨rfl, Off.alloc _ _ _, ⟨heap_alloc_new w _, h1, h2, Nat.zero_le _⟩⟩
set_option maxRecDepth 100000 in
set_option maxHeartbeats 400000 in
theorem goOn_any (l c n b : Nat) (w : World) (h : DR w b l c) (hn : n ≤ 9223372036854775807) :
    Calls Tryz.prog 191 #[.pointer (some ⟨b, 0, none⟩), .int .i64 n] w fun e w' => e = .returned (.bool (told l c n)) ∧ w' = w.setCell ⟨b, 1, none⟩ (.int .i64 (tk l c n : Nat)) := by
  have h0 := h.c0
  have h1 := h.c1
  have hl := i64_load _ _ w h1
  have hc := i64_cas ⟨b, 1, none⟩ c (tk l c n : Nat) w h1 (h.fz 1)
  obtain ⟨_, _, hi, le⟩ := h
  obtain ⟨L, hL⟩ : ∃ L, L = l - c := ⟨_, rfl⟩
  have e1 : IntKind.i64.wrap ((l : Int) - (c : Int)) = ((L : Nat) : Int) := by rw [IntKind.wrap_i64]; omega
  have e4 : told l c n = (decide (0 < L) && decide (L ≤ n)) := by unfold told; rw [Bool.eq_iff_iff]; simp; omega
  have e5 : tk l c n = if L < n then c + L else c + n := by unfold tk; split <;> omega
  generalize told l c n = t at *
  generalize tk l c n = s at *
  rcases Nat.lt_trichotomy L n with g | g | g
  · rw [if_pos g] at e5
    have e3 : IntKind.i64.wrap ((c : Int) + (L : Int)) = (s : Int) := by rw [e5, IntKind.wrap_i64]; omega
    clear e5
    have g2 : L ≤ n := by omega
    by_cases g1 : 0 < L
    · have ht : t = true := by rw [e4]; simp [g1, g2]
      subst ht
      clear e4 hL le hi hn
      go_enter Tryz.func191, Tryz.ntmps191
      go_wp2_with fail
      refine wp_loop_once ?_
      go_wp2_with (first | (go_at_call 131; refine hl.mono ?_; rintro e w' ⟨rfl, rfl⟩) | (go_at_call 225; refine hc.mono ?_; rintro e w' ⟨rfl, rfl⟩))
      go_ret
      exact ⟨rfl, rfl⟩
    · have ht : t = false := by rw [e4]; simp [g1]
      subst ht
      clear e4 hL le hi hn
      go_enter Tryz.func191, Tryz.ntmps191
      go_wp2_with fail
      refine wp_loop_once ?_
      go_wp2_with (first | (go_at_call 131; refine hl.mono ?_; rintro e w' ⟨rfl, rfl⟩) | (go_at_call 225; refine hc.mono ?_; rintro e w' ⟨rfl, rfl⟩))
      go_ret
      exact ⟨rfl, rfl⟩
  · subst g
    rw [if_neg (by omega)] at e5
    have e3 : IntKind.i64.wrap ((c : Int) + (L : Int)) = (s : Int) := by rw [e5, IntKind.wrap_i64]; omega
    clear e5
    by_cases g1 : 0 < L
    · have ht : t = true := by rw [e4]; simp [g1]
      subst ht
      clear e4 hL le hi hn
      go_enter Tryz.func191, Tryz.ntmps191
      go_wp2_with fail
      refine wp_loop_once ?_
      go_wp2_with (first | (go_at_call 131; refine hl.mono ?_; rintro e w' ⟨rfl, rfl⟩) | (go_at_call 225; refine hc.mono ?_; rintro e w' ⟨rfl, rfl⟩))
      go_ret
      exact ⟨rfl, rfl⟩
    · have ht : t = false := by rw [e4]; simp [g1]
      subst ht
      clear e4 hL le hi hn
      go_enter Tryz.func191, Tryz.ntmps191
      go_wp2_with fail
      refine wp_loop_once ?_
      go_wp2_with (first | (go_at_call 131; refine hl.mono ?_; rintro e w' ⟨rfl, rfl⟩) | (go_at_call 225; refine hc.mono ?_; rintro e w' ⟨rfl, rfl⟩))
      go_ret
      exact ⟨rfl, rfl⟩
  · rw [if_neg (by omega)] at e5
    have e3 : IntKind.i64.wrap ((c : Int) + (n : Int)) = (s : Int) := by rw [e5, IntKind.wrap_i64]; omega
    clear e5
    have g1 : 0 < L := by omega
    have ht : t = false := by rw [e4]; simp; omega
    subst ht
    have g2 : ¬ L ≤ n := by omega
    clear e4 hL le hi hn
    go_enter Tryz.func191, Tryz.ntmps191
    go_wp2_with fail
    refine wp_loop_once ?_
    go_wp2_with (first | (go_at_call 131; refine hl.mono ?_; rintro e w' ⟨rfl, rfl⟩) | (go_at_call 225; refine hc.mono ?_; rintro e w' ⟨rfl, rfl⟩))
    go_ret
    exact ⟨rfl, rfl⟩
theorem wticks_any (l c n b : Nat) (w : World) (h : DR w b l c) (hn : n ≤ 9223372036854775807) :
    Calls Tryz.prog 134 #[.pointer (some ⟨b, 0, none⟩), .int .i64 n] w fun e w' => e = .returned (.tuple #[.bool (told l c n), .int .i64 0]) ∧ (Off [b] w w' ∧ DR w' b l (tk l c n)) := by
  have hg := goOn_any l c n b w h hn
  have hk : Hid (Off [b] w (w.setCell ⟨b, 1, none⟩ (.int .i64 (tk l c n : Nat))) ∧ DR (w.setCell ⟨b, 1, none⟩ (.int .i64 (tk l c n : Nat))) b l (tk l c n)) := ⟨Off.setCell _ _ _ _, h.set _ (tk_le l c n h.le)⟩
  generalize told l c n = t at *
  clear h
  go_enter Tryz.func134, Tryz.ntmps134
  go_wp2_with fail
  refine hg.mono ?_
  rintro e w' ⟨rfl, hw⟩
  have hj := hw ▸ hk
  clear hk hg hw
  go_wp2_with fail
  go_ret2
  exact ⟨rfl, hj.out⟩
theorem wticks_neg (n : Int) (b : Nat) (w : World) (hn : n < 0) :
    Calls Tryz.prog 134 #[.pointer (some ⟨b, 0, none⟩), .int .i64 n] w fun e w' => e = .returned (.tuple #[.bool false, .int .i64 2]) ∧ w' = w := by
  go_enter Tryz.func134, Tryz.ntmps134
  go_wp2_with fail
  go_ret2
  exact ⟨rfl, rfl⟩
theorem wfeed_any (l c b : Nat) (w : World) (h : DR w b l c) :
    Calls Tryz.prog 208 #[.pointer (some ⟨b, 0, none⟩)] w fun e w' => e = .returned (.tuple #[]) ∧ (Off [b] w w' ∧ DR w' b l 0) := by
  have hs := i64_store ⟨b, 1, none⟩ c 0 w h.c1 (h.fz 1)
  have hk : Hid (Off [b] w (w.setCell ⟨b, 1, none⟩ (.int .i64 ((0 : Nat) : Int))) ∧ DR (w.setCell ⟨b, 1, none⟩ (.int .i64 ((0 : Nat) : Int))) b l 0) := ⟨Off.setCell _ _ _ _, h.set _ (Nat.zero_le _)⟩
  clear h
  go_enter Tryz.func208, Tryz.ntmps208
  go_wp2_with fail
  refine hs.mono ?_
  rintro e w' ⟨rfl, hw⟩
  have hj : Hid (Off [b] w w' ∧ DR w' b l 0) := by rw [hw]; exact hk
  clear hk hs hw
  go_wp2_with fail
  go_end0
  exact ⟨rfl, hj.out⟩
theorem wsince_any (l c b : Nat) (w : World) (h : DR w b l c) :
    Calls Tryz.prog 63 #[.pointer (some ⟨b, 0, none⟩)] w fun e w' => e = .returned (.int .i64 c) ∧ w' = w := by
  have hl := i64_load _ _ w h.c1
  clear h
  go_enter Tryz.func63, Tryz.ntmps63
  go_wp2_with (go_at_call 131; refine hl.mono ?_; rintro e w' ⟨rfl, rfl⟩)
  go_ret
  exact ⟨rfl, rfl⟩
end Go.Proofs.YtndjepeolamedaaGreat
