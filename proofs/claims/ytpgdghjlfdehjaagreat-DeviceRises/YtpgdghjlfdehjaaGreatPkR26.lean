/- Part 27 of the texts on which the proofs of layer 13 rest: contracts of Go functions. -/
import Derived.Test.YtpgdghjlfdehjaaGreatPkR25
namespace Go.Proofs.YtpgdghjlfdehjaaGreat
set_option maxRecDepth 100000
open Go.RowKit
def dnew (ms : Ms) : Sd := ⟨ms, [], 0, vnew, 1, 0, 0, 0, 0, fun _ => 0, false⟩
theorem DX.made {w2 w3 w4 : World} {m g n mx c : Nat} {P : Pm} {ms : Ms} {db vb vg ga b : Nat} (hP : Pok P) (hn : 10 ≤ n) (hx0 : mx ≠ 0) (hx : mx < 4294967296) (hM : MR w2 m g n ms) (hC : CS w2 c m mx ms.bs false) (hoff : ms.off = false)
    (hm : m < c) (hg : g < c) (q : Off [] w2 w3) (hD : DG w3 (b + 2) [b, b + 1, b + 2] []) (hb : w2.heap.size ≤ b) (hN : NL w3 w4 P db vb vg ga) :
    DX (w4.alloc (.cells (DVC P m mx (.pointer (some ⟨c, 0, none⟩)) (b + 2) db vb (dnew ms) (.slice (some ⟨ga, 0, none⟩) P.i P.i)) 122)) w4.heap.size m g n mx P [w4.heap.size, m, g, c, db, vb, vg, ga, b, b + 1, b + 2] (dnew ms)
      ⟨c, b + 2, db, vb, vg, [], [b, b + 1, b + 2], .pointer (some ⟨c, 0, none⟩), .slice (some ⟨ga, 0, none⟩) P.i P.i, fun k => if k = w4.heap.size then 0 else if k = m ∨ k = g then 1 else if k = c then 2 else if k = db then 3 else if k = vb ∨ k = vg then 4 else if k = ga then 6 else 5⟩ True := by
  obtain ⟨q1, q2, q3, q4, q5, q6, q7, q8, q9, q10⟩ := hN
  have hc := hC.lt
  have s2 := q.size
  have s3 := q4.size
  have d3 : b + 2 < w3.heap.size := hD.ult _ (by simp)
  have o34 : Off [] w3 w4 := Off.of_below q4
  have oA : Off [] w4 (w4.alloc (.cells (DVC P m mx (.pointer (some ⟨c, 0, none⟩)) (b + 2) db vb (dnew ms) (.slice (some ⟨ga, 0, none⟩) P.i P.i)) 122)) := Off.alloc _ _ _
  have oB := (q.trans o34).trans oA
  refine ⟨heap_alloc_new w4 _, hM.off oB (by simp) (by simp), fun _ => ⟨rfl, hC.off oB (by simp), hoff⟩, q1.off oA (by simp), q2.off oA (by simp) (by simp) (by simp), hD.off (o34.trans oA) (by simp), own_offk (own_base q3 (Nat.zero_le _)) oA (by simp), fun i _ => (by show 0 < 256; omega), ?_, ?_, ?_, ?_, ?_, ?_, ?_, ?_, fun k hk => (by simp at hk), ?_, ?_, hP, hn, hx0, hx⟩
  · intro k hk
    rw [World.size_alloc]
    simp at hk
    omega
  · exact ⟨if_pos rfl, by simp⟩
  · exact ⟨by dsimp only; rw [if_neg (by omega), if_pos (.inl rfl)], by simp⟩
  · exact ⟨by dsimp only; rw [if_neg (by omega), if_pos (.inr rfl)], by simp⟩
  · exact ⟨by dsimp only; rw [if_neg (by omega), if_neg (by omega), if_pos rfl], by simp⟩
  · exact ⟨by dsimp only; rw [if_neg (by omega), if_neg (by omega), if_neg (by omega), if_pos rfl], by simp⟩
  · exact ⟨by dsimp only; rw [if_neg (by omega), if_neg (by omega), if_neg (by omega), if_neg (by omega), if_pos (.inl rfl)], by simp⟩
  · exact ⟨by dsimp only; rw [if_neg (by omega), if_neg (by omega), if_neg (by omega), if_neg (by omega), if_pos (.inr rfl)], by simp⟩
  · intro k hk
    refine ⟨?_, by simp at hk ⊢; omega⟩
    dsimp only
    simp at hk
    rw [if_neg (by omega), if_neg (by omega), if_neg (by omega), if_neg (by omega), if_neg (by omega), if_neg (by omega)]
  · intro k hk
    cases hk
    exact ⟨by dsimp only; rw [if_neg (by omega), if_neg (by omega), if_neg (by omega), if_neg (by omega), if_neg (by omega), if_pos rfl], by simp⟩
set_option maxHeartbeats 1600000 in
theorem newD_bad (c : Nat) (o i t : Int) (n : Nat) (p : Option Addr) (x : Int) (w : World) (hE : ¬ okP c o i t n) :
    Calls Tryz.prog 19 #[.agg #[.int .u32 c, .int .i64 o, .int .i64 i, .int .i64 t, .int .u32 n], .pointer p, .int .u32 x] w fun e w' => e = .returned (.tuple #[.pointer none, .int .i64 90]) ∧ Below w.heap.size w w' := by
  have hb : Below w.heap.size w (w.alloc (.cells #[.int .u32 c, .int .i64 o, .int .i64 i, .int .i64 t, .int .u32 n] 26)) := (Below.refl _ _).alloc (Nat.le_refl _) _
  have hC := check_any c o i t n (w.alloc (.cells #[.int .u32 c, .int .i64 o, .int .i64 i, .int .i64 t, .int .u32 n] 26)) 90 (if_neg hE)
  clear hE
  go_enter Tryz.func19, Tryz.ntmps19
  go_wp2_with (go_at_call 56; refine hC.mono ?_; rintro e w2 ⟨rfl, b2⟩)
  go_ret2
  exact ⟨rfl, hb.trans (b2.mono hb.size)⟩
set_option maxHeartbeats 1600000 in
theorem newD_nil (c : Nat) (o i t : Int) (n : Nat) (x : Int) (w : World) (hE : okP c o i t n) :
    Calls Tryz.prog 19 #[.agg #[.int .u32 c, .int .i64 o, .int .i64 i, .int .i64 t, .int .u32 n], .pointer none, .int .u32 x] w fun e w' => e = .returned (.tuple #[.pointer none, .int .i64 1]) ∧ Below w.heap.size w w' := by
  have hb : Below w.heap.size w (w.alloc (.cells #[.int .u32 c, .int .i64 o, .int .i64 i, .int .i64 t, .int .u32 n] 26)) := (Below.refl _ _).alloc (Nat.le_refl _) _
  have hC := check_any c o i t n (w.alloc (.cells #[.int .u32 c, .int .i64 o, .int .i64 i, .int .i64 t, .int .u32 n] 26)) 0 (if_pos hE)
  have hO := fun wx => open_nil x wx
  clear hE
  go_enter Tryz.func19, Tryz.ntmps19
  go_wp2_with (first | (go_at_call 56; refine hC.mono ?_; rintro e w2 ⟨rfl, b2⟩) | (go_at_call 57; refine (hO _).mono ?_; rintro e w' ⟨rfl, hw⟩; have hw := hw.symm; subst hw))
  go_ret2
  exact ⟨rfl, hb.trans (b2.mono hb.size)⟩
set_option maxHeartbeats 3200000 in
theorem newD_any (m g n mx : Nat) (P : Pm) (hP : Pok P) (ms : Ms) (w : World) (hM : MR w m g n ms) (hx : mx < 4294967296) (ht : ms.t < 9223372036854774000) :
    Calls Tryz.prog 19 #[.agg #[.int .u32 (P.c : Nat), .int .i64 (P.o : Nat), .int .i64 (P.i : Nat), .int .i64 (P.t : Nat), .int .u32 (P.n : Nat)], .pointer (some ⟨m, 0, none⟩), .int .u32 (mx : Nat)] w fun e w' => ∃ p, e = .returned (.tuple #[.pointer p, .int .i64 (opE mx n ms)]) ∧ Hid (Off [m, g] w w' ∧ MR w' m g n (opS mx n ms) ∧
      (opE mx n ms = 0 → ∃ d U, p = some ⟨d, 0, none⟩ ∧ DV w' d m g n mx P U (dnew (opS mx n ms)) ∧ (∀ k, k ∈ U → k = m ∨ k = g ∨ w.heap.size ≤ k)) ∧ (¬ opE mx n ms = 0 → p = none)) := by
  have hb : Below w.heap.size w (w.alloc (.cells #[.int .u32 (P.c : Nat), .int .i64 (P.o : Nat), .int .i64 (P.i : Nat), .int .i64 (P.t : Nat), .int .u32 (P.n : Nat)] 26)) := (Below.refl _ _).alloc (Nat.le_refl _) _
  have hs : (w.alloc (.cells #[.int .u32 (P.c : Nat), .int .i64 (P.o : Nat), .int .i64 (P.i : Nat), .int .i64 (P.t : Nat), .int .u32 (P.n : Nat)] 26)).heap.size = w.heap.size + 1 := by simp
  have hx0 := heap_alloc_new w (.cells #[.int .u32 (P.c : Nat), .int .i64 (P.o : Nat), .int .i64 (P.i : Nat), .int .i64 (P.t : Nat), .int .u32 (P.n : Nat)] 26)
  have hC := check_any P.c P.o P.i P.t P.n (w.alloc (.cells #[.int .u32 (P.c : Nat), .int .i64 (P.o : Nat), .int .i64 (P.i : Nat), .int .i64 (P.t : Nat), .int .u32 (P.n : Nat)] 26)) 0 (if_pos hP.ok)
  obtain ⟨E, hE⟩ : ∃ x, opE mx n ms = x := ⟨_, rfl⟩
  rw [hE]
  have hO : ∀ wx, MR wx m g n ms → Calls Tryz.prog 57 #[.pointer (some ⟨m, 0, none⟩), .int .u32 (mx : Nat)] wx fun e w' => ∃ p, e = .returned (.tuple #[.pointer p, .int .i64 E]) ∧ Hid (Off [m, g] wx w' ∧ MR w' m g n (opS mx n ms) ∧
      (E = 0 → ∃ c, p = some ⟨c, 0, none⟩ ∧ wx.heap.size ≤ c ∧ CS w' c m mx (opS mx n ms).bs false) ∧ (¬ E = 0 → p = none)) := by
    intro wx hMx
    subst hE
    exact popen m g n mx ms wx hMx ht
  have HO : Hid (_) := hO
  have HH : Hid (_) := And.intro hb (And.intro hs (And.intro hx0 (And.intro hM (And.intro hE (And.intro hP hx)))))
  clear hO hb hs hx0 hM hE hP hx ht
  go_enter Tryz.func19, Tryz.ntmps19
  go_wp2_with (first | (go_at_call 56; refine hC.mono ?_; rintro e w1 ⟨rfl, b1⟩))
  obtain ⟨hb, hs, hx0, hM, _⟩ := HH.out
  have bb := hb.trans (b1.mono hb.size)
  refine (HO.out w1 (hM.off (Off.of_below (l := []) bb) (by simp) (by simp))).mono ?_
  rintro e w2 ⟨p, rfl, h2⟩
  have e2 : w2.heap[w.heap.size]? = some (.cells #[.int .u32 (P.c : Nat), .int .i64 (P.o : Nat), .int .i64 (P.i : Nat), .int .i64 (P.t : Nat), .int .u32 (P.n : Nat)] 26 (0, 0)) := by
    have l1 := hM.lt
    have l2 := hM.lg
    have l3 := b1.size
    rw [h2.out.1.block w.heap.size (by omega) (by simp; omega), b1.block _ (by omega)]
    exact hx0
  have H2 : Hid (_) := And.intro bb (And.intro h2.out (And.intro HH.out (by have := b1.size; omega : w.heap.size < w1.heap.size)))
  by_cases he : E = 0
  · have e0 : (E != 0) = false := by simp [he]
    obtain ⟨c, rfl, hc, hC2⟩ := h2.out.2.2.1 he
    have HE : Hid (_) := And.intro he (And.intro hc hC2)
    have HS : w2.drew.cell? ⟨w.heap.size, 0, none⟩ = some (.int .u32 (P.c : Nat)) ∧ w2.drew.cell? ⟨w.heap.size, 1, none⟩ = some (.int .i64 (P.o : Nat)) ∧ w2.drew.cell? ⟨w.heap.size, 2, none⟩ = some (.int .i64 (P.i : Nat)) ∧ w2.drew.cell? ⟨w.heap.size, 3, none⟩ = some (.int .i64 (P.t : Nat)) ∧ w2.drew.cell? ⟨w.heap.size, 4, none⟩ = some (.int .u32 (P.n : Nat)) :=
      ⟨cell_of_row w2 _ 0 _ _ _ e2, cell_of_row w2 _ 1 _ _ _ e2, cell_of_row w2 _ 2 _ _ _ e2, cell_of_row w2 _ 3 _ _ _ e2, cell_of_row w2 _ 4 _ _ _ e2⟩
    have hN := dnew_any w2.drew
    clear hC b1 hb hs hx0 hM bb h2 e2 he hc hC2 HO
    go_wp2_with fail
    go_region_held3 (fun w' => w'.cell? ⟨w.heap.size, 0, none⟩ = some (.int .u32 (P.c : Nat)) ∧ w'.cell? ⟨w.heap.size, 1, none⟩ = some (.int .i64 (P.o : Nat)) ∧ w'.cell? ⟨w.heap.size, 2, none⟩ = some (.int .i64 (P.i : Nat)) ∧ w'.cell? ⟨w.heap.size, 3, none⟩ = some (.int .i64 (P.t : Nat)) ∧ w'.cell? ⟨w.heap.size, 4, none⟩ = some (.int .u32 (P.n : Nat))) (first | with_reducible assumption | exact ⟨(belA _).cell hwl |>.trans HU.1, (belA _).cell hwl |>.trans HU.2.1, (belA _).cell hwl |>.trans HU.2.2.1, (belA _).cell hwl |>.trans HU.2.2.2.1, (belA _).cell hwl |>.trans HU.2.2.2.2⟩) (first
      | (go_at_call 58; refine hN.mono ?_; rintro e w3 ⟨rfl, h3⟩; have hL := newLife_any P H2.out.2.2.1.2.2.2.2.2.1 w3; have hl3 : w.heap.size < w2.drew.heap.size := (Nat.lt_of_lt_of_le H2.out.2.2.2 H2.out.2.1.1.size); have HT : w3.cell? ⟨w.heap.size, 0, none⟩ = some (.int .u32 (P.c : Nat)) ∧ w3.cell? ⟨w.heap.size, 1, none⟩ = some (.int .i64 (P.o : Nat)) ∧ w3.cell? ⟨w.heap.size, 2, none⟩ = some (.int .i64 (P.i : Nat)) ∧ w3.cell? ⟨w.heap.size, 3, none⟩ = some (.int .i64 (P.t : Nat)) ∧ w3.cell? ⟨w.heap.size, 4, none⟩ = some (.int .u32 (P.n : Nat)) := ⟨(h3.out.1.cell hl3).trans HS.1, (h3.out.1.cell hl3).trans HS.2.1, (h3.out.1.cell hl3).trans HS.2.2.1, (h3.out.1.cell hl3).trans HS.2.2.2.1, (h3.out.1.cell hl3).trans HS.2.2.2.2⟩; have hl4 : w.heap.size < w3.heap.size := (Nat.lt_of_lt_of_le hl3 h3.out.1.size); clear hN)
      | (go_at_call 59; refine hL.mono ?_; rintro e w4 ⟨db, vb, vg, ga, rfl, h4⟩; have HU : w4.cell? ⟨w.heap.size, 0, none⟩ = some (.int .u32 (P.c : Nat)) ∧ w4.cell? ⟨w.heap.size, 1, none⟩ = some (.int .i64 (P.o : Nat)) ∧ w4.cell? ⟨w.heap.size, 2, none⟩ = some (.int .i64 (P.i : Nat)) ∧ w4.cell? ⟨w.heap.size, 3, none⟩ = some (.int .i64 (P.t : Nat)) ∧ w4.cell? ⟨w.heap.size, 4, none⟩ = some (.int .u32 (P.n : Nat)) := ⟨(h4.out.bel.cell hl4).trans HT.1, (h4.out.bel.cell hl4).trans HT.2.1, (h4.out.bel.cell hl4).trans HT.2.2.1, (h4.out.bel.cell hl4).trans HT.2.2.2.1, (h4.out.bel.cell hl4).trans HT.2.2.2.2⟩; have hwl : w.heap.size < w4.heap.size := (Nat.lt_of_lt_of_le hl4 h4.out.bel.size); have belA : ∀ o, Below w4.heap.size w4 (w4.alloc o) := (fun o => (Below.refl _ _).alloc (Nat.le_refl _) o); clear hL))
    all_goals
      go_wp2_with fail
      go_ret2
      obtain ⟨bb, ⟨o2, m2, _, _⟩, ⟨_, hs, _, hM, hE, hP, hx⟩, hw1⟩ := H2.out
      obtain ⟨he, hc, hC2⟩ := HE.out
      subst he
      obtain ⟨mx0, n10, _⟩ := opened m g n mx ms w hM hE
      have l1 := hM.lt
      have l2 := hM.lg
      have hoff := opS_off hM.l0 hE
      have q3 : Off [] w2.drew w3 := Off.of_below h3.out.1
      have X := DX.made hP n10 mx0 hx (m2.off (Off.drew [] w2) (by simp) (by simp)) (hC2.off (Off.drew [] w2) (by simp)) hoff (by omega) (by omega) q3 h3.out.2.2 (Nat.le_refl _) h4.out
      have hcl := hC2.lt
      have s3 := q3.size
      have s2 : w2.drew.heap.size = w2.heap.size := rfl
      have k1 := h4.out.h1
      have k2 := h4.out.h2
      have k3 := h4.out.h3
      have k4 := h4.out.h4
      have k6 := h4.out.h6
      have k7 := o2.size
      refine ⟨_, rfl, ?_, ?_, fun _ => ⟨w4.heap.size, _, rfl, ⟨_, { X with cel := fun _ => X.cel trivial }⟩, ?_⟩, fun h => absurd rfl h⟩
      · exact ((Off.of_below bb).trans o2).trans ((((Off.drew _ w2).trans (q3.more (by simp))).trans (Off.of_below h4.out.bel)).trans (Off.alloc _ _ _))
      · exact X.mem
      · intro k hk
        simp at hk
        omega
  · have e0 : (E != 0) = true := by simp [he]
    obtain rfl := h2.out.2.2.2 he
    have HE : Hid (_) := he
    clear he hC b1 hb hs hx0 hM bb h2 e2
    go_wp2_with fail
    go_ret2
    obtain ⟨bb, ⟨o2, m2, _, _⟩, hh, _⟩ := H2.out
    exact ⟨none, rfl, (Off.of_below bb).trans o2, m2, fun h => absurd h HE.out, fun _ => rfl⟩
end Go.Proofs.YtpgdghjlfdehjaaGreat
