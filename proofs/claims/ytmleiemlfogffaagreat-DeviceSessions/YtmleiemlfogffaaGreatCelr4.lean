/- The document's cell of layer 8: Next. -/
import Derived.Test.YtmleiemlfogffaaGreatCelr3
namespace Go.Proofs.YtmleiemlfogffaaGreat
set_option maxRecDepth 100000
open Go.RowKit

theorem rnext_cut (d m g n mx v : Nat) (dead : Bool) (s : Ms) (w : World) (hM : RR w m g n s) (hC : RX w d m mx v dead) (h : dead = true ∨ s.off = true) :
    Calls Tryz.prog 150 #[.pointer (some ⟨d, 0, none⟩)] w fun e w' => e = .returned (.tuple #[.int .u32 0, .int .i64 70]) ∧ w' = w := by
  obtain ⟨c0, c1, c2, c3, _⟩ := hC.cells
  obtain ⟨_, _, _, _, _, m1, _⟩ := hM.cells
  clear hM hC
  cases dead
  · rw [h.resolve_left (by simp)] at m1
    clear h
    go_enter Tryz.func150, Tryz.ntmps150
    go_wp2_with fail
    go_ret2
    exact ⟨rfl, rfl⟩
  · clear h m1
    go_enter Tryz.func150, Tryz.ntmps150
    go_wp2_with fail
    go_ret2
    exact ⟨rfl, rfl⟩
theorem rnext_full (d m g n mx v : Nat) (s : Ms) (w : World) (hM : RR w m g n s) (hC : RX w d m mx v false) (ho : s.off = false) (h : mx ≤ v) :
    Calls Tryz.prog 150 #[.pointer (some ⟨d, 0, none⟩)] w fun e w' => e = .returned (.tuple #[.int .u32 0, .int .i64 80]) ∧ ∃ j, w' = w.drewN j := by
  obtain ⟨c0, c1, c2, c3, _⟩ := hC.cells
  obtain ⟨_, _, _, _, _, m1, _⟩ := hM.cells
  rw [ho] at m1
  clear hM hC
  go_enter Tryz.func150, Tryz.ntmps150
  go_wp2_with fail
  go_quiet (fail)
  go_wp2_with fail
  go_ret2
  exact ⟨rfl, _, rfl⟩
/-- In a region that draws its order. -/
theorem quiet_more {P : Program} {f : FuncId} {args : Array Value} {w : World} {n : Nat} {v : Value} (h : Calls P f args (w.drewN n) fun e w' => e = .returned v ∧ ∃ j, w' = (w.drewN n).drewN j) :
    Calls P f args (w.drewN n) fun e w'' => e = .returned v ∧ ∃ m, w'' = w.drewN m :=
  h.mono fun _ _ ⟨he, j, hm⟩ => ⟨he, n + j, by rw [hm, World.drewN_drewN]⟩
set_option maxRecDepth 100000 in
set_option maxHeartbeats 4000000 in
theorem rnext_go (d m g n mx v : Nat) (s : Ms) (w : World) (hM : RR w m g n s) (hC : RX w d m mx v false) (hdm : d ≠ m) (hdg : d ≠ g) (hn : 10 ≤ n) (hx : mx < 4294967296) (ho : s.off = false) (h : v < mx) (ht : s.t < 9223372036854775000) :
    Calls Tryz.prog 150 #[.pointer (some ⟨d, 0, none⟩)] w fun e w' => e = .returned (.tuple #[.int .u32 ((if sqE n (six (tg s.bs) (v + 1)) s = 0 then v + 1 else 0 : Nat) : Int), .int .i64 (if sqE n (six (tg s.bs) (v + 1)) s = 0 then 0 else 70)]) ∧
      (Off [m, g, d] w w' ∧ RR w' m g n (sqS n (six (tg s.bs) (v + 1)) s) ∧ (sqE n (six (tg s.bs) (v + 1)) s = 0 → RX w' d m mx (v + 1) false) ∧ (¬ sqE n (six (tg s.bs) (v + 1)) s = 0 → RX w' d m mx v true)) := by
  obtain ⟨c0, c1, c2, c3, _⟩ := hC.cells
  obtain ⟨_, _, _, _, _, m1, _⟩ := hM.cells
  rw [ho] at m1
  have q0 : ∀ b, decide (s.bs 0 = 165) = b → ∀ i j, Calls Tryz.prog 80 #[.pointer (some ⟨m, 0, none⟩), .int .i64 0] ((w.drewN i).drewN j) fun e w' => e = .returned (.bool b) ∧ w' = (w.drewN i).drewN j := fun b hb i j => rholds_is m g n 0 s _ ((hM.drewN i).drewN j) (by omega) hn b hb
  have q1 : ∀ b, decide (s.bs 5 = 165) = b → ∀ i j, Calls Tryz.prog 80 #[.pointer (some ⟨m, 0, none⟩), .int .i64 1] ((w.drewN i).drewN j) fun e w' => e = .returned (.bool b) ∧ w' = (w.drewN i).drewN j := fun b hb i j => rholds_is m g n 1 s _ ((hM.drewN i).drewN j) (by omega) hn b hb
  have q2 : ∀ i j, Calls Tryz.prog 82 #[.pointer (some ⟨m, 0, none⟩), .int .i64 0] ((w.drewN i).drewN j) fun e w' => e = .returned (.int .u32 (wz s.bs 0 : Nat)) ∧ ∃ l, w' = ((w.drewN i).drewN j).drewN l := fun i j => rcword_any m g n 0 s _ ((hM.drewN i).drewN j) (by omega) hn
  have q3 : ∀ i j, Calls Tryz.prog 82 #[.pointer (some ⟨m, 0, none⟩), .int .i64 1] ((w.drewN i).drewN j) fun e w' => e = .returned (.int .u32 (wz s.bs 1 : Nat)) ∧ ∃ l, w' = ((w.drewN i).drewN j).drewN l := fun i j => rcword_any m g n 1 s _ ((hM.drewN i).drewN j) (by omega) hn
  have hk := tg_lt s.bs
  have q6 := fun w' (h : RR w' m g n s) => rsix_any m g n s (tg s.bs) (v + 1) w' h hk (by omega) ht
  obtain ⟨E, hE⟩ : ∃ E, sqE n (six (tg s.bs) (v + 1)) s = E := ⟨_, rfl⟩
  obtain ⟨S, hS⟩ : ∃ S, sqS n (six (tg s.bs) (v + 1)) s = S := ⟨_, rfl⟩
  simp only [hE, hS] at q6 ⊢
  clear hE hS
  obtain ⟨r1, hr1⟩ : ∃ r, (if E = 0 then v + 1 else 0) = r := ⟨_, rfl⟩
  obtain ⟨r2, hr2⟩ : ∃ r, (if E = 0 then (0 : Int) else 70) = r := ⟨_, rfl⟩
  rw [hr1, hr2]
  have HR : Hid (_) := And.intro hr1 hr2
  clear hr1 hr2
  have HC : Hid (_) := hC
  have HT : Hid (tg s.bs = if s.bs 0 = 165 ∧ (s.bs 5 ≠ 165 ∨ wz s.bs 1 < wz s.bs 0) then 1 else 0) := show _ = _ from rfl
  obtain ⟨k, hkk⟩ : ∃ k, tg s.bs = k := ⟨_, rfl⟩
  rw [hkk] at q6 HT hk
  have hp : IntKind.u32.wrap ((v : Int) + 1) = ((v + 1 : Nat) : Int) := by
    rw [IntKind.wrap_u32]
    omega
  have HP : Hid (_) := hp
  have HM : Hid (_) := hM
  clear hM hC hkk hp
  by_cases h0 : s.bs 0 = 165
  · have q0' := q0 true (by simp [h0])
    by_cases h5 : s.bs 5 = 165
    · have q1' := q1 true (by simp [h5])
      generalize wz s.bs 0 = x at *
      generalize wz s.bs 1 = y at *
      by_cases hxy : y < x
      · have hk1 := HT.out
        rw [if_pos ⟨h0, .inr hxy⟩] at hk1
        subst hk1
        clear HT q0 q1 h0 h5 hk
        go_enter Tryz.func150, Tryz.ntmps150
        go_wp2_with fail
        go_quiet (fail)
        go_wp2_with fail
        have Q0 := q0' nq
        have Q1 := q1' nq
        have Q2 := q2 nq
        have Q3 := q3 nq
        have C1 := HC.out.drewN nq
        have M1 := HM.out.drewN nq
        have O1 : Off [m, g, d] w (w.drewN nq) := Off.drewN _ _ _
        clear q0' HC HM c0 c1 c2 c3 m1 q2 q3 q1'
        generalize w.drewN nq = wq at *
        obtain ⟨c0, c1, c2, c3, _⟩ := C1.cells
        go_quiet ((first | (go_at_call_of 80 (Value.int .i64 0); exact Calls.quiet_of_same (Q0 _)) | (go_at_call_of 80 (Value.int .i64 1); exact Calls.quiet_of_same (Q1 _)) | (go_at_call_of 82 (Value.int .i64 0); exact quiet_more (Q2 _)) | (go_at_call_of 82 (Value.int .i64 1); exact quiet_more (Q3 _))))
        go_wp2_with fail
        have C2 := C1.drewN nq
        have M2 := M1.drewN nq
        have O2 : Off [m, g, d] w (wq.drewN nq) := O1.trans (Off.drewN _ _ _)
        clear c0 c1 c2 c3 C1 M1 O1 Q0 Q1 Q2 Q3
        generalize wq.drewN nq = wp at *
        have Q6 : Calls Tryz.prog 81 #[.pointer (some ⟨m, 0, none⟩), .int .i64 1, .int .u32 (IntKind.u32.wrap ((v : Int) + 1))] wp.drew fun e w' => e = .returned (.int .i64 E) ∧ (Off [m, g] wp.drew w' ∧ RR w' m g n S) := by
          rw [HP.out]
          exact q6 _ (M2.off (Off.drew [] wp) (by simp) (by simp))
        have HS : wp.drew.cell? ⟨d, 0, none⟩ = some (.pointer (some ⟨m, 0, none⟩)) ∧ wp.drew.cell? ⟨d, 2, none⟩ = some (.int .u32 (v : Nat)) := ⟨C2.cells.1, C2.cells.2.2.1⟩
        have HC : Hid (_) := And.intro O2 C2
        clear q6 M2 O2 C2
        go_region_held3 (fun w' => w'.cell? ⟨d, 0, none⟩ = some (.pointer (some ⟨m, 0, none⟩)) ∧ w'.cell? ⟨d, 2, none⟩ = some (.int .u32 (v : Nat))) (assumption) (first
          | (go_at_call 81; refine Q6.mono ?_; rintro e w2 ⟨rfl, o2, m2⟩; have C3 := HC.out.2.off ((Off.drew [m, g] wp).trans o2) (by simp; omega); have HT : w2.cell? ⟨d, 0, none⟩ = some (.pointer (some ⟨m, 0, none⟩)) ∧ w2.cell? ⟨d, 2, none⟩ = some (.int .u32 (v : Nat)) := ⟨C3.cells.1, C3.cells.2.2.1⟩; have h1 : Hid (_) := And.intro (HC.out.1.trans ((Off.drew [m, g, d] wp).trans o2.three)) (And.intro m2 C3); clear o2 m2 C3))
        clear HS HT Q6 HC
        obtain ⟨_, _, d2, d3, fz⟩ := h1.out.2.2.cells
        have f2 := fz 2
        have f3 := fz 3
        clear fz
        by_cases he : E = 0
        · subst he
          have hr := HR.out
          rw [if_pos rfl, if_pos rfl] at hr
          obtain ⟨rfl, rfl⟩ := hr
          clear HR
          go_wp2_with fail
          go_ret2
          have q1 : Off [d] w2 (w2.setCell ⟨d, 2, none⟩ (.int .u32 ((v + 1 : Nat) : Int))) := Off.setCell d 2 _ _
          obtain ⟨O, M, C⟩ := h1.out
          exact ⟨rfl, O.trans q1.three', M.off q1 (by simp; omega) (by simp; omega), C.setV (v + 1)⟩
        · have hr := HR.out
          rw [if_neg he, if_neg he] at hr
          obtain ⟨rfl, rfl⟩ := hr
          clear HR
          go_wp2_with fail
          go_ret2
          have q1 : Off [d] w2 (w2.setCell ⟨d, 3, none⟩ (.bool true)) := Off.setCell d 3 _ _
          obtain ⟨O, M, C⟩ := h1.out
          exact ⟨rfl, O.trans q1.three', M.off q1 (by simp; omega) (by simp; omega), fun h => absurd h he, fun _ => C.setD true⟩
      · have hk1 := HT.out
        rw [if_neg (by omega)] at hk1
        subst hk1
        clear HT q0 q1 h0 h5 hk
        go_enter Tryz.func150, Tryz.ntmps150
        go_wp2_with fail
        go_quiet (fail)
        go_wp2_with fail
        have Q0 := q0' nq
        have Q1 := q1' nq
        have Q2 := q2 nq
        have Q3 := q3 nq
        have C1 := HC.out.drewN nq
        have M1 := HM.out.drewN nq
        have O1 : Off [m, g, d] w (w.drewN nq) := Off.drewN _ _ _
        clear q0' HC HM c0 c1 c2 c3 m1 q2 q3 q1'
        generalize w.drewN nq = wq at *
        obtain ⟨c0, c1, c2, c3, _⟩ := C1.cells
        go_quiet ((first | (go_at_call_of 80 (Value.int .i64 0); exact Calls.quiet_of_same (Q0 _)) | (go_at_call_of 80 (Value.int .i64 1); exact Calls.quiet_of_same (Q1 _)) | (go_at_call_of 82 (Value.int .i64 0); exact quiet_more (Q2 _)) | (go_at_call_of 82 (Value.int .i64 1); exact quiet_more (Q3 _))))
        go_wp2_with fail
        have C2 := C1.drewN nq
        have M2 := M1.drewN nq
        have O2 : Off [m, g, d] w (wq.drewN nq) := O1.trans (Off.drewN _ _ _)
        clear c0 c1 c2 c3 C1 M1 O1 Q0 Q1 Q2 Q3
        generalize wq.drewN nq = wp at *
        have Q6 : Calls Tryz.prog 81 #[.pointer (some ⟨m, 0, none⟩), .int .i64 0, .int .u32 (IntKind.u32.wrap ((v : Int) + 1))] wp.drew fun e w' => e = .returned (.int .i64 E) ∧ (Off [m, g] wp.drew w' ∧ RR w' m g n S) := by
          rw [HP.out]
          exact q6 _ (M2.off (Off.drew [] wp) (by simp) (by simp))
        have HS : wp.drew.cell? ⟨d, 0, none⟩ = some (.pointer (some ⟨m, 0, none⟩)) ∧ wp.drew.cell? ⟨d, 2, none⟩ = some (.int .u32 (v : Nat)) := ⟨C2.cells.1, C2.cells.2.2.1⟩
        have HC : Hid (_) := And.intro O2 C2
        clear q6 M2 O2 C2
        go_region_held3 (fun w' => w'.cell? ⟨d, 0, none⟩ = some (.pointer (some ⟨m, 0, none⟩)) ∧ w'.cell? ⟨d, 2, none⟩ = some (.int .u32 (v : Nat))) (assumption) (first
          | (go_at_call 81; refine Q6.mono ?_; rintro e w2 ⟨rfl, o2, m2⟩; have C3 := HC.out.2.off ((Off.drew [m, g] wp).trans o2) (by simp; omega); have HT : w2.cell? ⟨d, 0, none⟩ = some (.pointer (some ⟨m, 0, none⟩)) ∧ w2.cell? ⟨d, 2, none⟩ = some (.int .u32 (v : Nat)) := ⟨C3.cells.1, C3.cells.2.2.1⟩; have h1 : Hid (_) := And.intro (HC.out.1.trans ((Off.drew [m, g, d] wp).trans o2.three)) (And.intro m2 C3); clear o2 m2 C3))
        clear HS HT Q6 HC
        obtain ⟨_, _, d2, d3, fz⟩ := h1.out.2.2.cells
        have f2 := fz 2
        have f3 := fz 3
        clear fz
        by_cases he : E = 0
        · subst he
          have hr := HR.out
          rw [if_pos rfl, if_pos rfl] at hr
          obtain ⟨rfl, rfl⟩ := hr
          clear HR
          go_wp2_with fail
          go_ret2
          have q1 : Off [d] w2 (w2.setCell ⟨d, 2, none⟩ (.int .u32 ((v + 1 : Nat) : Int))) := Off.setCell d 2 _ _
          obtain ⟨O, M, C⟩ := h1.out
          exact ⟨rfl, O.trans q1.three', M.off q1 (by simp; omega) (by simp; omega), C.setV (v + 1)⟩
        · have hr := HR.out
          rw [if_neg he, if_neg he] at hr
          obtain ⟨rfl, rfl⟩ := hr
          clear HR
          go_wp2_with fail
          go_ret2
          have q1 : Off [d] w2 (w2.setCell ⟨d, 3, none⟩ (.bool true)) := Off.setCell d 3 _ _
          obtain ⟨O, M, C⟩ := h1.out
          exact ⟨rfl, O.trans q1.three', M.off q1 (by simp; omega) (by simp; omega), fun h => absurd h he, fun _ => C.setD true⟩
    · have q1' := q1 false (by simp [h5])
      have hk1 := HT.out
      rw [if_pos ⟨h0, .inl h5⟩] at hk1
      subst hk1
      clear HT q0 q1 h0 h5 hk
      go_enter Tryz.func150, Tryz.ntmps150
      go_wp2_with fail
      go_quiet (fail)
      go_wp2_with fail
      have Q0 := q0' nq
      have Q1 := q1' nq
      have C1 := HC.out.drewN nq
      have M1 := HM.out.drewN nq
      have O1 : Off [m, g, d] w (w.drewN nq) := Off.drewN _ _ _
      clear q0' HC HM c0 c1 c2 c3 m1 q2 q3 q1'
      generalize w.drewN nq = wq at *
      obtain ⟨c0, c1, c2, c3, _⟩ := C1.cells
      go_quiet ((first | (go_at_call_of 80 (Value.int .i64 0); exact Calls.quiet_of_same (Q0 _)) | (go_at_call_of 80 (Value.int .i64 1); exact Calls.quiet_of_same (Q1 _))))
      go_wp2_with fail
      have C2 := C1.drewN nq
      have M2 := M1.drewN nq
      have O2 : Off [m, g, d] w (wq.drewN nq) := O1.trans (Off.drewN _ _ _)
      clear c0 c1 c2 c3 C1 M1 O1 Q0 Q1
      generalize wq.drewN nq = wp at *
      have Q6 : Calls Tryz.prog 81 #[.pointer (some ⟨m, 0, none⟩), .int .i64 1, .int .u32 (IntKind.u32.wrap ((v : Int) + 1))] wp.drew fun e w' => e = .returned (.int .i64 E) ∧ (Off [m, g] wp.drew w' ∧ RR w' m g n S) := by
        rw [HP.out]
        exact q6 _ (M2.off (Off.drew [] wp) (by simp) (by simp))
      have HS : wp.drew.cell? ⟨d, 0, none⟩ = some (.pointer (some ⟨m, 0, none⟩)) ∧ wp.drew.cell? ⟨d, 2, none⟩ = some (.int .u32 (v : Nat)) := ⟨C2.cells.1, C2.cells.2.2.1⟩
      have HC : Hid (_) := And.intro O2 C2
      clear q6 M2 O2 C2
      go_region_held3 (fun w' => w'.cell? ⟨d, 0, none⟩ = some (.pointer (some ⟨m, 0, none⟩)) ∧ w'.cell? ⟨d, 2, none⟩ = some (.int .u32 (v : Nat))) (assumption) (first
        | (go_at_call 81; refine Q6.mono ?_; rintro e w2 ⟨rfl, o2, m2⟩; have C3 := HC.out.2.off ((Off.drew [m, g] wp).trans o2) (by simp; omega); have HT : w2.cell? ⟨d, 0, none⟩ = some (.pointer (some ⟨m, 0, none⟩)) ∧ w2.cell? ⟨d, 2, none⟩ = some (.int .u32 (v : Nat)) := ⟨C3.cells.1, C3.cells.2.2.1⟩; have h1 : Hid (_) := And.intro (HC.out.1.trans ((Off.drew [m, g, d] wp).trans o2.three)) (And.intro m2 C3); clear o2 m2 C3))
      clear HS HT Q6 HC
      obtain ⟨_, _, d2, d3, fz⟩ := h1.out.2.2.cells
      have f2 := fz 2
      have f3 := fz 3
      clear fz
      by_cases he : E = 0
      · subst he
        have hr := HR.out
        rw [if_pos rfl, if_pos rfl] at hr
        obtain ⟨rfl, rfl⟩ := hr
        clear HR
        go_wp2_with fail
        go_ret2
        have q1 : Off [d] w2 (w2.setCell ⟨d, 2, none⟩ (.int .u32 ((v + 1 : Nat) : Int))) := Off.setCell d 2 _ _
        obtain ⟨O, M, C⟩ := h1.out
        exact ⟨rfl, O.trans q1.three', M.off q1 (by simp; omega) (by simp; omega), C.setV (v + 1)⟩
      · have hr := HR.out
        rw [if_neg he, if_neg he] at hr
        obtain ⟨rfl, rfl⟩ := hr
        clear HR
        go_wp2_with fail
        go_ret2
        have q1 : Off [d] w2 (w2.setCell ⟨d, 3, none⟩ (.bool true)) := Off.setCell d 3 _ _
        obtain ⟨O, M, C⟩ := h1.out
        exact ⟨rfl, O.trans q1.three', M.off q1 (by simp; omega) (by simp; omega), fun h => absurd h he, fun _ => C.setD true⟩
  · have q0' := q0 false (by simp [h0])
    have hk1 := HT.out
    rw [if_neg (fun h => h0 h.1)] at hk1
    subst hk1
    clear HT q0 q1 h0 hk
    go_enter Tryz.func150, Tryz.ntmps150
    go_wp2_with fail
    go_quiet (fail)
    go_wp2_with fail
    have Q0 := q0' nq
    have C1 := HC.out.drewN nq
    have M1 := HM.out.drewN nq
    have O1 : Off [m, g, d] w (w.drewN nq) := Off.drewN _ _ _
    clear q0' HC HM c0 c1 c2 c3 m1 q2 q3
    generalize w.drewN nq = wq at *
    obtain ⟨c0, c1, c2, c3, _⟩ := C1.cells
    go_quiet (((go_at_call_of 80 (Value.int .i64 0); exact Calls.quiet_of_same (Q0 _))))
    go_wp2_with fail
    have C2 := C1.drewN nq
    have M2 := M1.drewN nq
    have O2 : Off [m, g, d] w (wq.drewN nq) := O1.trans (Off.drewN _ _ _)
    clear c0 c1 c2 c3 C1 M1 O1 Q0
    generalize wq.drewN nq = wp at *
    have Q6 : Calls Tryz.prog 81 #[.pointer (some ⟨m, 0, none⟩), .int .i64 0, .int .u32 (IntKind.u32.wrap ((v : Int) + 1))] wp.drew fun e w' => e = .returned (.int .i64 E) ∧ (Off [m, g] wp.drew w' ∧ RR w' m g n S) := by
      rw [HP.out]
      exact q6 _ (M2.off (Off.drew [] wp) (by simp) (by simp))
    have HS : wp.drew.cell? ⟨d, 0, none⟩ = some (.pointer (some ⟨m, 0, none⟩)) ∧ wp.drew.cell? ⟨d, 2, none⟩ = some (.int .u32 (v : Nat)) := ⟨C2.cells.1, C2.cells.2.2.1⟩
    have HC : Hid (_) := And.intro O2 C2
    clear q6 M2 O2 C2
    go_region_held3 (fun w' => w'.cell? ⟨d, 0, none⟩ = some (.pointer (some ⟨m, 0, none⟩)) ∧ w'.cell? ⟨d, 2, none⟩ = some (.int .u32 (v : Nat))) (assumption) (first
      | (go_at_call 81; refine Q6.mono ?_; rintro e w2 ⟨rfl, o2, m2⟩; have C3 := HC.out.2.off ((Off.drew [m, g] wp).trans o2) (by simp; omega); have HT : w2.cell? ⟨d, 0, none⟩ = some (.pointer (some ⟨m, 0, none⟩)) ∧ w2.cell? ⟨d, 2, none⟩ = some (.int .u32 (v : Nat)) := ⟨C3.cells.1, C3.cells.2.2.1⟩; have h1 : Hid (_) := And.intro (HC.out.1.trans ((Off.drew [m, g, d] wp).trans o2.three)) (And.intro m2 C3); clear o2 m2 C3))
    clear HS HT Q6 HC
    obtain ⟨_, _, d2, d3, fz⟩ := h1.out.2.2.cells
    have f2 := fz 2
    have f3 := fz 3
    clear fz
    by_cases he : E = 0
    · subst he
      have hr := HR.out
      rw [if_pos rfl, if_pos rfl] at hr
      obtain ⟨rfl, rfl⟩ := hr
      clear HR
      go_wp2_with fail
      go_ret2
      have q1 : Off [d] w2 (w2.setCell ⟨d, 2, none⟩ (.int .u32 ((v + 1 : Nat) : Int))) := Off.setCell d 2 _ _
      obtain ⟨O, M, C⟩ := h1.out
      exact ⟨rfl, O.trans q1.three', M.off q1 (by simp; omega) (by simp; omega), C.setV (v + 1)⟩
    · have hr := HR.out
      rw [if_neg he, if_neg he] at hr
      obtain ⟨rfl, rfl⟩ := hr
      clear HR
      go_wp2_with fail
      go_ret2
      have q1 : Off [d] w2 (w2.setCell ⟨d, 3, none⟩ (.bool true)) := Off.setCell d 3 _ _
      obtain ⟨O, M, C⟩ := h1.out
      exact ⟨rfl, O.trans q1.three', M.off q1 (by simp; omega) (by simp; omega), fun h => absurd h he, fun _ => C.setD true⟩

end Go.Proofs.YtmleiemlfogffaaGreat
