/- Part 15 of the texts on which the proofs of layer 13 rest: contracts of Go functions. -/
import Derived.Test.YtndjepeolamedaaGreatPkA07
import Derived.Test.YtndjepeolamedaaGreatPkA11
import Derived.Test.YtndjepeolamedaaGreatPkA13
namespace Go.Proofs.YtndjepeolamedaaGreat
set_option maxRecDepth 100000
open Go.RowKit
end Go.Proofs.YtndjepeolamedaaGreat
namespace Go.Proofs.YtndjepeolamedaaGreat
set_option maxRecDepth 100000
open Go.RowKit
end Go.Proofs.YtndjepeolamedaaGreat
namespace Go.Proofs.YtndjepeolamedaaGreat
set_option maxRecDepth 100000
open Go.RowKit
def dnew (ms : Ms) : Sd := ⟨ms, [], 0, vnew, 1, 0, 0, 0, 0, fun _ => 0, false⟩
theorem DX.made {w2 w3 w4 : World} {m g n mx c : Nat} {P : Pm} {ms : Ms} {db vb vg ga b : Nat} (hP : Pok P) (hn : 10 ≤ n) (hx0 : mx ≠ 0) (hx : mx < 4294967296) (hM : MR w2 m g n ms) (hC : CS w2 c m mx ms.bs false) (hoff : ms.off = false)
    (hm : m < c) (hg : g < c) (q : Off [] w2 w3) (hD : DG w3 (b + 2) [b, b + 1, b + 2] []) (hb : w2.heap.size ≤ b) (hN : NL w3 w4 P db vb vg ga) :
    DX (w4.alloc (.cells (DVC P m mx (.pointer (some ⟨c, 0, none⟩)) (b + 2) db vb (dnew ms) (.slice (some ⟨ga, 0, none⟩) P.i P.i)) 116)) w4.heap.size m g n mx P [w4.heap.size, m, g, c, db, vb, vg, ga, b, b + 1, b + 2] (dnew ms)
      ⟨c, b + 2, db, vb, vg, [], [b, b + 1, b + 2], .pointer (some ⟨c, 0, none⟩), .slice (some ⟨ga, 0, none⟩) P.i P.i, fun k => if k = w4.heap.size then 0 else if k = m ∨ k = g then 1 else if k = c then 2 else if k = db then 3 else if k = vb ∨ k = vg then 4 else if k = ga then 6 else 5⟩ True := by
  obtain ⟨q1, q2, q3, q4, q5, q6, q7, q8, q9, q10⟩ := hN
  have hc := hC.lt
  have s2 := q.size
  have s3 := q4.size
  have d3 : b + 2 < w3.heap.size := hD.ult _ (by simp)
  have o34 : Off [] w3 w4 := Off.of_below q4
  have oA : Off [] w4 (w4.alloc (.cells (DVC P m mx (.pointer (some ⟨c, 0, none⟩)) (b + 2) db vb (dnew ms) (.slice (some ⟨ga, 0, none⟩) P.i P.i)) 116)) := Off.alloc _ _ _
  have oB := (q.trans o34).trans oA
  refine ⟨heap_alloc_new w4 _, hM.off oB (by simp) (by simp), fun _ => ⟨rfl, hC.off oB (by simp), hoff⟩, q1.off oA (by simp), q2.off oA (by simp) (by simp) (by simp), hD.off (o34.trans oA) (by simp), own_offk (own_base q3 (Nat.zero_le _)) oA (by simp), fun i _ => (by show 0 < 256; omega), ?_, ?_, ?_, ?_, ?_, ?_, ?_, ?_, fun k hk => (by simp at hk), ?_, ?_, hP, hn, hx0, hx⟩
  · intro k hk
    rw [World.size_alloc]
    simp at hk
    omega
  · exact ⟨if_pos rfl, by simp⟩
  · exact ⟨by dsimp only; rw [if_neg (by omega), if_pos (.inl rfl)], by simp⟩
  · exact ⟨by dsimp only; rw [if_neg (by omega), if_pos (.inr rfl)], by simp⟩
  · exact ⟨by dsimp only; rw [if_neg (by omega), if_neg (by omega), if_pos rfl], by simp⟩
  · exact ⟨by dsimp only; rw [if_neg (by omega), if_neg (by omega), if_neg (by omega), if_pos rfl], by simp⟩
  · exact ⟨by dsimp only; rw [if_neg (by omega), if_neg (by omega), if_neg (by omega), if_neg (by omega), if_pos (.inl rfl)], by simp⟩
  · exact ⟨by dsimp only; rw [if_neg (by omega), if_neg (by omega), if_neg (by omega), if_neg (by omega), if_pos (.inr rfl)], by simp⟩
  · intro k hk
    refine ⟨?_, by simp at hk ⊢; omega⟩
    dsimp only
    simp at hk
    rw [if_neg (by omega), if_neg (by omega), if_neg (by omega), if_neg (by omega), if_neg (by omega), if_neg (by omega)]
  · intro k hk
    cases hk
    exact ⟨by dsimp only; rw [if_neg (by omega), if_neg (by omega), if_neg (by omega), if_neg (by omega), if_neg (by omega), if_pos rfl], by simp⟩
end Go.Proofs.YtndjepeolamedaaGreat
namespace Go.Proofs.YtndjepeolamedaaGreat
set_option maxRecDepth 100000
open Go.RowKit
set_option maxRecDepth 100000 in
set_option maxHeartbeats 2000000 in
theorem refLawful_1 (c s n : Nat) (f : Int) (a : Option Addr) (len cap : Nat) (w : World) :
    Calls Tryz.prog 77 #[.agg #[.int .i64 1, .int .u32 c, .int .u32 s, .int .u32 n, .int .i64 f, .slice a len cap]] w fun e w' => e = .returned (.int .i64 (LW 1 c s n f len len)) ∧ Below w.heap.size w w' := by
  have hH := refHost_any 1
  have hD := refDevice_any 1
  have hM := refData_any 1 len
  unfold LW
  rw [show hostK 1 = true from rfl] at hH ⊢
  rw [show devK 1 = false from rfl] at hD ⊢
  rw [show hNum 1 = false from rfl, show mFl 1 = 0 from rfl]
  generalize mData 1 len = D at *
  have hb : Below w.heap.size w (w.alloc (.cells #[.int .i64 1, .int .u32 c, .int .u32 s, .int .u32 n, .int .i64 f, .slice a len cap] 67)) := (Below.refl _ _).alloc (Nat.le_refl _) _
  rw [if_neg (by simp)]
  by_cases hc : (c : Int) = 0
  · rw [if_pos hc, hc]
    rw [hc] at hb
    go_enter Tryz.func77, Tryz.ntmps77
    go_wp2_with (first | (go_at_call 59; refine (hH _).mono ?_; rintro e w' ⟨rfl, rfl⟩) | (go_at_call 103; refine (hD _).mono ?_; rintro e w' ⟨rfl, rfl⟩) | (go_at_call 142; refine (hM _).mono ?_; rintro e w' ⟨rfl, rfl⟩))
    go_ret
    exact ⟨rfl, hb⟩
  · rw [if_neg hc]
    have qc : ((c : Int) == 0) = false := by simpa using hc
    cases D
    · rw [if_pos (Or.inr rfl)]
      go_enter Tryz.func77, Tryz.ntmps77
      go_wp2_with (first | (go_at_call 59; refine (hH _).mono ?_; rintro e w' ⟨rfl, rfl⟩) | (go_at_call 103; refine (hD _).mono ?_; rintro e w' ⟨rfl, rfl⟩) | (go_at_call 142; refine (hM _).mono ?_; rintro e w' ⟨rfl, rfl⟩))
      go_ret
      exact ⟨rfl, hb⟩
    · rw [if_neg (by simp)]
      by_cases hs : (s : Int) = 0
      · rw [if_neg (by simp [mSess, hs]), hs]
        rw [hs] at hb
        by_cases hn : (n : Int) = 0
        · rw [if_neg (by simp [hn]), hn]
          rw [hn] at hb
          by_cases hf : f < 0
          · rw [if_pos (Or.inl hf)]
            have qf : decide (f < 0) = true := decide_eq_true hf
            go_enter Tryz.func77, Tryz.ntmps77
            go_wp2_with (first | (go_at_call 59; refine (hH _).mono ?_; rintro e w' ⟨rfl, rfl⟩) | (go_at_call 103; refine (hD _).mono ?_; rintro e w' ⟨rfl, rfl⟩) | (go_at_call 142; refine (hM _).mono ?_; rintro e w' ⟨rfl, rfl⟩))
            go_ret
            exact ⟨rfl, hb⟩
          · have qf : decide (f < 0) = false := decide_eq_false hf
            by_cases h15 : 15 < f
            · rw [if_pos (by omega)]
              have q15 : decide (15 < f) = true := decide_eq_true h15
              go_enter Tryz.func77, Tryz.ntmps77
              go_wp2_with (first | (go_at_call 59; refine (hH _).mono ?_; rintro e w' ⟨rfl, rfl⟩) | (go_at_call 103; refine (hD _).mono ?_; rintro e w' ⟨rfl, rfl⟩) | (go_at_call 142; refine (hM _).mono ?_; rintro e w' ⟨rfl, rfl⟩))
              go_ret
              exact ⟨rfl, hb⟩
            · have q15 : decide (15 < f) = false := decide_eq_false h15
              by_cases h0 : f = 0
              · rw [if_neg (by omega)]
                subst h0
                go_enter Tryz.func77, Tryz.ntmps77
                go_wp2_with (first | (go_at_call 59; refine (hH _).mono ?_; rintro e w' ⟨rfl, rfl⟩) | (go_at_call 103; refine (hD _).mono ?_; rintro e w' ⟨rfl, rfl⟩) | (go_at_call 142; refine (hM _).mono ?_; rintro e w' ⟨rfl, rfl⟩))
                go_ret
                exact ⟨rfl, hb⟩
              · rw [if_pos (by omega)]
                have q0 : (f == 0) = false := by simpa using h0
                go_enter Tryz.func77, Tryz.ntmps77
                go_wp2_with (first | (go_at_call 59; refine (hH _).mono ?_; rintro e w' ⟨rfl, rfl⟩) | (go_at_call 103; refine (hD _).mono ?_; rintro e w' ⟨rfl, rfl⟩) | (go_at_call 142; refine (hM _).mono ?_; rintro e w' ⟨rfl, rfl⟩))
                go_ret
                exact ⟨rfl, hb⟩
        · rw [if_pos (by simpa using hn)]
          have qn : ((n : Int) == 0) = false := by simpa using hn
          have qn2 : ((n : Int) != 0) = true := by simpa using hn
          go_enter Tryz.func77, Tryz.ntmps77
          go_wp2_with (first | (go_at_call 59; refine (hH _).mono ?_; rintro e w' ⟨rfl, rfl⟩) | (go_at_call 103; refine (hD _).mono ?_; rintro e w' ⟨rfl, rfl⟩) | (go_at_call 142; refine (hM _).mono ?_; rintro e w' ⟨rfl, rfl⟩))
          go_ret
          exact ⟨rfl, hb⟩
      · rw [if_pos (by simpa [mSess] using hs)]
        have qs : ((s : Int) == 0) = false := by simpa using hs
        go_enter Tryz.func77, Tryz.ntmps77
        go_wp2_with (first | (go_at_call 59; refine (hH _).mono ?_; rintro e w' ⟨rfl, rfl⟩) | (go_at_call 103; refine (hD _).mono ?_; rintro e w' ⟨rfl, rfl⟩) | (go_at_call 142; refine (hM _).mono ?_; rintro e w' ⟨rfl, rfl⟩))
        go_ret
        exact ⟨rfl, hb⟩
set_option maxRecDepth 100000 in
set_option maxHeartbeats 2000000 in
theorem refLawful_22 (c s n : Nat) (f : Int) (a : Option Addr) (len cap : Nat) (w : World) :
    Calls Tryz.prog 77 #[.agg #[.int .i64 22, .int .u32 c, .int .u32 s, .int .u32 n, .int .i64 f, .slice a len cap]] w fun e w' => e = .returned (.int .i64 (LW 22 c s n f len len)) ∧ Below w.heap.size w w' := by
  have hH := refHost_any 22
  have hD := refDevice_any 22
  have hM := refData_any 22 len
  unfold LW
  rw [show hostK 22 = false from rfl] at hH ⊢
  rw [show devK 22 = true from rfl] at hD ⊢
  rw [show hNum 22 = false from rfl, show mFl 22 = 0 from rfl]
  generalize mData 22 len = D at *
  have hb : Below w.heap.size w (w.alloc (.cells #[.int .i64 22, .int .u32 c, .int .u32 s, .int .u32 n, .int .i64 f, .slice a len cap] 67)) := (Below.refl _ _).alloc (Nat.le_refl _) _
  rw [if_neg (by simp)]
  by_cases hc : (c : Int) = 0
  · rw [if_pos hc, hc]
    rw [hc] at hb
    go_enter Tryz.func77, Tryz.ntmps77
    go_wp2_with (first | (go_at_call 59; refine (hH _).mono ?_; rintro e w' ⟨rfl, rfl⟩) | (go_at_call 103; refine (hD _).mono ?_; rintro e w' ⟨rfl, rfl⟩) | (go_at_call 142; refine (hM _).mono ?_; rintro e w' ⟨rfl, rfl⟩))
    go_ret
    exact ⟨rfl, hb⟩
  · rw [if_neg hc]
    have qc : ((c : Int) == 0) = false := by simpa using hc
    cases D
    · rw [if_pos (Or.inr rfl)]
      go_enter Tryz.func77, Tryz.ntmps77
      go_wp2_with (first | (go_at_call 59; refine (hH _).mono ?_; rintro e w' ⟨rfl, rfl⟩) | (go_at_call 103; refine (hD _).mono ?_; rintro e w' ⟨rfl, rfl⟩) | (go_at_call 142; refine (hM _).mono ?_; rintro e w' ⟨rfl, rfl⟩))
      go_ret
      exact ⟨rfl, hb⟩
    · rw [if_neg (by simp)]
      rw [if_neg (by simp [mSess])]
      by_cases hn : (n : Int) = 0
      · rw [if_neg (by simp [hn]), hn]
        rw [hn] at hb
        by_cases hf : f < 0
        · rw [if_pos (Or.inl hf)]
          have qf : decide (f < 0) = true := decide_eq_true hf
          go_enter Tryz.func77, Tryz.ntmps77
          go_wp2_with (first | (go_at_call 59; refine (hH _).mono ?_; rintro e w' ⟨rfl, rfl⟩) | (go_at_call 103; refine (hD _).mono ?_; rintro e w' ⟨rfl, rfl⟩) | (go_at_call 142; refine (hM _).mono ?_; rintro e w' ⟨rfl, rfl⟩))
          go_ret
          exact ⟨rfl, hb⟩
        · have qf : decide (f < 0) = false := decide_eq_false hf
          by_cases h15 : 15 < f
          · rw [if_pos (by omega)]
            have q15 : decide (15 < f) = true := decide_eq_true h15
            go_enter Tryz.func77, Tryz.ntmps77
            go_wp2_with (first | (go_at_call 59; refine (hH _).mono ?_; rintro e w' ⟨rfl, rfl⟩) | (go_at_call 103; refine (hD _).mono ?_; rintro e w' ⟨rfl, rfl⟩) | (go_at_call 142; refine (hM _).mono ?_; rintro e w' ⟨rfl, rfl⟩))
            go_ret
            exact ⟨rfl, hb⟩
          · have q15 : decide (15 < f) = false := decide_eq_false h15
            by_cases h0 : f = 0
            · rw [if_neg (by omega)]
              subst h0
              go_enter Tryz.func77, Tryz.ntmps77
              go_wp2_with (first | (go_at_call 59; refine (hH _).mono ?_; rintro e w' ⟨rfl, rfl⟩) | (go_at_call 103; refine (hD _).mono ?_; rintro e w' ⟨rfl, rfl⟩) | (go_at_call 142; refine (hM _).mono ?_; rintro e w' ⟨rfl, rfl⟩))
              go_ret
              exact ⟨rfl, hb⟩
            · rw [if_pos (by omega)]
              have q0 : (f == 0) = false := by simpa using h0
              go_enter Tryz.func77, Tryz.ntmps77
              go_wp2_with (first | (go_at_call 59; refine (hH _).mono ?_; rintro e w' ⟨rfl, rfl⟩) | (go_at_call 103; refine (hD _).mono ?_; rintro e w' ⟨rfl, rfl⟩) | (go_at_call 142; refine (hM _).mono ?_; rintro e w' ⟨rfl, rfl⟩))
              go_ret
              exact ⟨rfl, hb⟩
      · rw [if_pos (by simpa using hn)]
        have qn : ((n : Int) == 0) = false := by simpa using hn
        have qn2 : ((n : Int) != 0) = true := by simpa using hn
        go_enter Tryz.func77, Tryz.ntmps77
        go_wp2_with (first | (go_at_call 59; refine (hH _).mono ?_; rintro e w' ⟨rfl, rfl⟩) | (go_at_call 103; refine (hD _).mono ?_; rintro e w' ⟨rfl, rfl⟩) | (go_at_call 142; refine (hM _).mono ?_; rintro e w' ⟨rfl, rfl⟩))
        go_ret
        exact ⟨rfl, hb⟩
set_option maxRecDepth 100000 in
set_option maxHeartbeats 2000000 in
theorem refLawful_4 (c s n : Nat) (f : Int) (a : Option Addr) (len cap : Nat) (w : World) :
    Calls Tryz.prog 77 #[.agg #[.int .i64 4, .int .u32 c, .int .u32 s, .int .u32 n, .int .i64 f, .slice a len cap]] w fun e w' => e = .returned (.int .i64 (LW 4 c s n f len len)) ∧ Below w.heap.size w w' := by
  have hH := refHost_any 4
  have hD := refDevice_any 4
  have hM := refData_any 4 len
  unfold LW
  rw [show hostK 4 = true from rfl] at hH ⊢
  rw [show devK 4 = false from rfl] at hD ⊢
  rw [show hNum 4 = true from rfl, show mFl 4 = 15 from rfl]
  have hS : mSess 4 s = decide ((s : Int) ≠ 0) := rfl
  generalize mData 4 len = D at *
  have hb : Below w.heap.size w (w.alloc (.cells #[.int .i64 4, .int .u32 c, .int .u32 s, .int .u32 n, .int .i64 f, .slice a len cap] 67)) := (Below.refl _ _).alloc (Nat.le_refl _) _
  rw [if_neg (by simp)]
  by_cases hc : (c : Int) = 0
  · rw [if_pos hc, hc]
    rw [hc] at hb
    go_enter Tryz.func77, Tryz.ntmps77
    go_wp2_with (first | (go_at_call 59; refine (hH _).mono ?_; rintro e w' ⟨rfl, rfl⟩) | (go_at_call 103; refine (hD _).mono ?_; rintro e w' ⟨rfl, rfl⟩) | (go_at_call 142; refine (hM _).mono ?_; rintro e w' ⟨rfl, rfl⟩))
    go_ret
    exact ⟨rfl, hb⟩
  · rw [if_neg hc]
    have qc : ((c : Int) == 0) = false := by simpa using hc
    cases D
    · rw [if_pos (Or.inr rfl)]
      go_enter Tryz.func77, Tryz.ntmps77
      go_wp2_with (first | (go_at_call 59; refine (hH _).mono ?_; rintro e w' ⟨rfl, rfl⟩) | (go_at_call 103; refine (hD _).mono ?_; rintro e w' ⟨rfl, rfl⟩) | (go_at_call 142; refine (hM _).mono ?_; rintro e w' ⟨rfl, rfl⟩))
      go_ret
      exact ⟨rfl, hb⟩
    · rw [if_neg (by simp)]
      by_cases hs : (s : Int) = 0
      · rw [if_pos (by rw [hS]; simpa using hs), hs]
        rw [hs] at hb
        go_enter Tryz.func77, Tryz.ntmps77
        go_wp2_with (first | (go_at_call 59; refine (hH _).mono ?_; rintro e w' ⟨rfl, rfl⟩) | (go_at_call 103; refine (hD _).mono ?_; rintro e w' ⟨rfl, rfl⟩) | (go_at_call 142; refine (hM _).mono ?_; rintro e w' ⟨rfl, rfl⟩))
        go_ret
        exact ⟨rfl, hb⟩
      · rw [if_neg (by rw [hS]; simpa using hs)]
        have qs : ((s : Int) == 0) = false := by simpa using hs
        by_cases hn : (n : Int) = 0
        · rw [if_pos (by simp [hn]), hn]
          rw [hn] at hb
          go_enter Tryz.func77, Tryz.ntmps77
          go_wp2_with (first | (go_at_call 59; refine (hH _).mono ?_; rintro e w' ⟨rfl, rfl⟩) | (go_at_call 103; refine (hD _).mono ?_; rintro e w' ⟨rfl, rfl⟩) | (go_at_call 142; refine (hM _).mono ?_; rintro e w' ⟨rfl, rfl⟩))
          go_ret
          exact ⟨rfl, hb⟩
        · rw [if_neg (by simpa using hn)]
          have qn : ((n : Int) == 0) = false := by simpa using hn
          have qn2 : ((n : Int) != 0) = true := by simpa using hn
          by_cases hf : f < 0
          · rw [if_pos (Or.inl hf)]
            have qf : decide (f < 0) = true := decide_eq_true hf
            go_enter Tryz.func77, Tryz.ntmps77
            go_wp2_with (first | (go_at_call 59; refine (hH _).mono ?_; rintro e w' ⟨rfl, rfl⟩) | (go_at_call 103; refine (hD _).mono ?_; rintro e w' ⟨rfl, rfl⟩) | (go_at_call 142; refine (hM _).mono ?_; rintro e w' ⟨rfl, rfl⟩))
            go_ret
            exact ⟨rfl, hb⟩
          · have qf : decide (f < 0) = false := decide_eq_false hf
            by_cases h15 : 15 < f
            · rw [if_pos (by omega)]
              have q15 : decide (15 < f) = true := decide_eq_true h15
              go_enter Tryz.func77, Tryz.ntmps77
              go_wp2_with (first | (go_at_call 59; refine (hH _).mono ?_; rintro e w' ⟨rfl, rfl⟩) | (go_at_call 103; refine (hD _).mono ?_; rintro e w' ⟨rfl, rfl⟩) | (go_at_call 142; refine (hM _).mono ?_; rintro e w' ⟨rfl, rfl⟩))
              go_ret
              exact ⟨rfl, hb⟩
            · have q15 : decide (15 < f) = false := decide_eq_false h15
              rw [if_neg (by omega)]
              go_enter Tryz.func77, Tryz.ntmps77
              go_wp2_with (first | (go_at_call 59; refine (hH _).mono ?_; rintro e w' ⟨rfl, rfl⟩) | (go_at_call 103; refine (hD _).mono ?_; rintro e w' ⟨rfl, rfl⟩) | (go_at_call 142; refine (hM _).mono ?_; rintro e w' ⟨rfl, rfl⟩))
              go_ret
              exact ⟨rfl, hb⟩
set_option maxRecDepth 100000 in
set_option maxHeartbeats 2000000 in
theorem refLawful_20 (c s n : Nat) (f : Int) (a : Option Addr) (len cap : Nat) (w : World) :
    Calls Tryz.prog 77 #[.agg #[.int .i64 20, .int .u32 c, .int .u32 s, .int .u32 n, .int .i64 f, .slice a len cap]] w fun e w' => e = .returned (.int .i64 (LW 20 c s n f len len)) ∧ Below w.heap.size w w' := by
  have hH := refHost_any 20
  have hD := refDevice_any 20
  have hM := refData_any 20 len
  unfold LW
  rw [show hostK 20 = false from rfl] at hH ⊢
  rw [show devK 20 = true from rfl] at hD ⊢
  rw [show hNum 20 = true from rfl, show mFl 20 = 15 from rfl]
  have hS : mSess 20 s = decide ((s : Int) ≠ 0) := rfl
  generalize mData 20 len = D at *
  have hb : Below w.heap.size w (w.alloc (.cells #[.int .i64 20, .int .u32 c, .int .u32 s, .int .u32 n, .int .i64 f, .slice a len cap] 67)) := (Below.refl _ _).alloc (Nat.le_refl _) _
  rw [if_neg (by simp)]
  by_cases hc : (c : Int) = 0
  · rw [if_pos hc, hc]
    rw [hc] at hb
    go_enter Tryz.func77, Tryz.ntmps77
    go_wp2_with (first | (go_at_call 59; refine (hH _).mono ?_; rintro e w' ⟨rfl, rfl⟩) | (go_at_call 103; refine (hD _).mono ?_; rintro e w' ⟨rfl, rfl⟩) | (go_at_call 142; refine (hM _).mono ?_; rintro e w' ⟨rfl, rfl⟩))
    go_ret
    exact ⟨rfl, hb⟩
  · rw [if_neg hc]
    have qc : ((c : Int) == 0) = false := by simpa using hc
    cases D
    · rw [if_pos (Or.inr rfl)]
      go_enter Tryz.func77, Tryz.ntmps77
      go_wp2_with (first | (go_at_call 59; refine (hH _).mono ?_; rintro e w' ⟨rfl, rfl⟩) | (go_at_call 103; refine (hD _).mono ?_; rintro e w' ⟨rfl, rfl⟩) | (go_at_call 142; refine (hM _).mono ?_; rintro e w' ⟨rfl, rfl⟩))
      go_ret
      exact ⟨rfl, hb⟩
    · rw [if_neg (by simp)]
      by_cases hs : (s : Int) = 0
      · rw [if_pos (by rw [hS]; simpa using hs), hs]
        rw [hs] at hb
        go_enter Tryz.func77, Tryz.ntmps77
        go_wp2_with (first | (go_at_call 59; refine (hH _).mono ?_; rintro e w' ⟨rfl, rfl⟩) | (go_at_call 103; refine (hD _).mono ?_; rintro e w' ⟨rfl, rfl⟩) | (go_at_call 142; refine (hM _).mono ?_; rintro e w' ⟨rfl, rfl⟩))
        go_ret
        exact ⟨rfl, hb⟩
      · rw [if_neg (by rw [hS]; simpa using hs)]
        have qs : ((s : Int) == 0) = false := by simpa using hs
        by_cases hn : (n : Int) = 0
        · rw [if_pos (by simp [hn]), hn]
          rw [hn] at hb
          go_enter Tryz.func77, Tryz.ntmps77
          go_wp2_with (first | (go_at_call 59; refine (hH _).mono ?_; rintro e w' ⟨rfl, rfl⟩) | (go_at_call 103; refine (hD _).mono ?_; rintro e w' ⟨rfl, rfl⟩) | (go_at_call 142; refine (hM _).mono ?_; rintro e w' ⟨rfl, rfl⟩))
          go_ret
          exact ⟨rfl, hb⟩
        · rw [if_neg (by simpa using hn)]
          have qn : ((n : Int) == 0) = false := by simpa using hn
          have qn2 : ((n : Int) != 0) = true := by simpa using hn
          by_cases hf : f < 0
          · rw [if_pos (Or.inl hf)]
            have qf : decide (f < 0) = true := decide_eq_true hf
            go_enter Tryz.func77, Tryz.ntmps77
            go_wp2_with (first | (go_at_call 59; refine (hH _).mono ?_; rintro e w' ⟨rfl, rfl⟩) | (go_at_call 103; refine (hD _).mono ?_; rintro e w' ⟨rfl, rfl⟩) | (go_at_call 142; refine (hM _).mono ?_; rintro e w' ⟨rfl, rfl⟩))
            go_ret
            exact ⟨rfl, hb⟩
          · have qf : decide (f < 0) = false := decide_eq_false hf
            by_cases h15 : 15 < f
            · rw [if_pos (by omega)]
              have q15 : decide (15 < f) = true := decide_eq_true h15
              go_enter Tryz.func77, Tryz.ntmps77
              go_wp2_with (first | (go_at_call 59; refine (hH _).mono ?_; rintro e w' ⟨rfl, rfl⟩) | (go_at_call 103; refine (hD _).mono ?_; rintro e w' ⟨rfl, rfl⟩) | (go_at_call 142; refine (hM _).mono ?_; rintro e w' ⟨rfl, rfl⟩))
              go_ret
              exact ⟨rfl, hb⟩
            · have q15 : decide (15 < f) = false := decide_eq_false h15
              rw [if_neg (by omega)]
              go_enter Tryz.func77, Tryz.ntmps77
              go_wp2_with (first | (go_at_call 59; refine (hH _).mono ?_; rintro e w' ⟨rfl, rfl⟩) | (go_at_call 103; refine (hD _).mono ?_; rintro e w' ⟨rfl, rfl⟩) | (go_at_call 142; refine (hM _).mono ?_; rintro e w' ⟨rfl, rfl⟩))
              go_ret
              exact ⟨rfl, hb⟩
set_option maxRecDepth 100000 in
set_option maxHeartbeats 2000000 in
theorem refLawful_5 (c s n : Nat) (f : Int) (a : Option Addr) (len cap : Nat) (w : World) :
    Calls Tryz.prog 77 #[.agg #[.int .i64 5, .int .u32 c, .int .u32 s, .int .u32 n, .int .i64 f, .slice a len cap]] w fun e w' => e = .returned (.int .i64 (LW 5 c s n f len len)) ∧ Below w.heap.size w w' := by
  have hH := refHost_any 5
  have hD := refDevice_any 5
  have hM := refData_any 5 len
  unfold LW
  rw [show hostK 5 = true from rfl] at hH ⊢
  rw [show devK 5 = false from rfl] at hD ⊢
  rw [show hNum 5 = true from rfl, show mFl 5 = 0 from rfl]
  have hS : mSess 5 s = decide ((s : Int) ≠ 0) := rfl
  generalize mData 5 len = D at *
  have hb : Below w.heap.size w (w.alloc (.cells #[.int .i64 5, .int .u32 c, .int .u32 s, .int .u32 n, .int .i64 f, .slice a len cap] 67)) := (Below.refl _ _).alloc (Nat.le_refl _) _
  rw [if_neg (by simp)]
  by_cases hc : (c : Int) = 0
  · rw [if_pos hc, hc]
    rw [hc] at hb
    go_enter Tryz.func77, Tryz.ntmps77
    go_wp2_with (first | (go_at_call 59; refine (hH _).mono ?_; rintro e w' ⟨rfl, rfl⟩) | (go_at_call 103; refine (hD _).mono ?_; rintro e w' ⟨rfl, rfl⟩) | (go_at_call 142; refine (hM _).mono ?_; rintro e w' ⟨rfl, rfl⟩))
    go_ret
    exact ⟨rfl, hb⟩
  · rw [if_neg hc]
    have qc : ((c : Int) == 0) = false := by simpa using hc
    cases D
    · rw [if_pos (Or.inr rfl)]
      go_enter Tryz.func77, Tryz.ntmps77
      go_wp2_with (first | (go_at_call 59; refine (hH _).mono ?_; rintro e w' ⟨rfl, rfl⟩) | (go_at_call 103; refine (hD _).mono ?_; rintro e w' ⟨rfl, rfl⟩) | (go_at_call 142; refine (hM _).mono ?_; rintro e w' ⟨rfl, rfl⟩))
      go_ret
      exact ⟨rfl, hb⟩
    · rw [if_neg (by simp)]
      by_cases hs : (s : Int) = 0
      · rw [if_pos (by rw [hS]; simpa using hs), hs]
        rw [hs] at hb
        go_enter Tryz.func77, Tryz.ntmps77
        go_wp2_with (first | (go_at_call 59; refine (hH _).mono ?_; rintro e w' ⟨rfl, rfl⟩) | (go_at_call 103; refine (hD _).mono ?_; rintro e w' ⟨rfl, rfl⟩) | (go_at_call 142; refine (hM _).mono ?_; rintro e w' ⟨rfl, rfl⟩))
        go_ret
        exact ⟨rfl, hb⟩
      · rw [if_neg (by rw [hS]; simpa using hs)]
        have qs : ((s : Int) == 0) = false := by simpa using hs
        by_cases hn : (n : Int) = 0
        · rw [if_pos (by simp [hn]), hn]
          rw [hn] at hb
          go_enter Tryz.func77, Tryz.ntmps77
          go_wp2_with (first | (go_at_call 59; refine (hH _).mono ?_; rintro e w' ⟨rfl, rfl⟩) | (go_at_call 103; refine (hD _).mono ?_; rintro e w' ⟨rfl, rfl⟩) | (go_at_call 142; refine (hM _).mono ?_; rintro e w' ⟨rfl, rfl⟩))
          go_ret
          exact ⟨rfl, hb⟩
        · rw [if_neg (by simpa using hn)]
          have qn : ((n : Int) == 0) = false := by simpa using hn
          have qn2 : ((n : Int) != 0) = true := by simpa using hn
          by_cases hf : f < 0
          · rw [if_pos (Or.inl hf)]
            have qf : decide (f < 0) = true := decide_eq_true hf
            go_enter Tryz.func77, Tryz.ntmps77
            go_wp2_with (first | (go_at_call 59; refine (hH _).mono ?_; rintro e w' ⟨rfl, rfl⟩) | (go_at_call 103; refine (hD _).mono ?_; rintro e w' ⟨rfl, rfl⟩) | (go_at_call 142; refine (hM _).mono ?_; rintro e w' ⟨rfl, rfl⟩))
            go_ret
            exact ⟨rfl, hb⟩
          · have qf : decide (f < 0) = false := decide_eq_false hf
            by_cases h15 : 15 < f
            · rw [if_pos (by omega)]
              have q15 : decide (15 < f) = true := decide_eq_true h15
              go_enter Tryz.func77, Tryz.ntmps77
              go_wp2_with (first | (go_at_call 59; refine (hH _).mono ?_; rintro e w' ⟨rfl, rfl⟩) | (go_at_call 103; refine (hD _).mono ?_; rintro e w' ⟨rfl, rfl⟩) | (go_at_call 142; refine (hM _).mono ?_; rintro e w' ⟨rfl, rfl⟩))
              go_ret
              exact ⟨rfl, hb⟩
            · have q15 : decide (15 < f) = false := decide_eq_false h15
              by_cases h0 : f = 0
              · rw [if_neg (by omega)]
                subst h0
                go_enter Tryz.func77, Tryz.ntmps77
                go_wp2_with (first | (go_at_call 59; refine (hH _).mono ?_; rintro e w' ⟨rfl, rfl⟩) | (go_at_call 103; refine (hD _).mono ?_; rintro e w' ⟨rfl, rfl⟩) | (go_at_call 142; refine (hM _).mono ?_; rintro e w' ⟨rfl, rfl⟩))
                go_ret
                exact ⟨rfl, hb⟩
              · rw [if_pos (by omega)]
                have q0 : (f == 0) = false := by simpa using h0
                go_enter Tryz.func77, Tryz.ntmps77
                go_wp2_with (first | (go_at_call 59; refine (hH _).mono ?_; rintro e w' ⟨rfl, rfl⟩) | (go_at_call 103; refine (hD _).mono ?_; rintro e w' ⟨rfl, rfl⟩) | (go_at_call 142; refine (hM _).mono ?_; rintro e w' ⟨rfl, rfl⟩))
                go_ret
                exact ⟨rfl, hb⟩
set_option maxRecDepth 100000 in
set_option maxHeartbeats 2000000 in
theorem refLawful_21 (c s n : Nat) (f : Int) (a : Option Addr) (len cap : Nat) (w : World) :
    Calls Tryz.prog 77 #[.agg #[.int .i64 21, .int .u32 c, .int .u32 s, .int .u32 n, .int .i64 f, .slice a len cap]] w fun e w' => e = .returned (.int .i64 (LW 21 c s n f len len)) ∧ Below w.heap.size w w' := by
  have hH := refHost_any 21
  have hD := refDevice_any 21
  have hM := refData_any 21 len
  unfold LW
  rw [show hostK 21 = false from rfl] at hH ⊢
  rw [show devK 21 = true from rfl] at hD ⊢
  rw [show hNum 21 = true from rfl, show mFl 21 = 0 from rfl]
  have hS : mSess 21 s = decide ((s : Int) ≠ 0) := rfl
  generalize mData 21 len = D at *
  have hb : Below w.heap.size w (w.alloc (.cells #[.int .i64 21, .int .u32 c, .int .u32 s, .int .u32 n, .int .i64 f, .slice a len cap] 67)) := (Below.refl _ _).alloc (Nat.le_refl _) _
  rw [if_neg (by simp)]
  by_cases hc : (c : Int) = 0
  · rw [if_pos hc, hc]
    rw [hc] at hb
    go_enter Tryz.func77, Tryz.ntmps77
    go_wp2_with (first | (go_at_call 59; refine (hH _).mono ?_; rintro e w' ⟨rfl, rfl⟩) | (go_at_call 103; refine (hD _).mono ?_; rintro e w' ⟨rfl, rfl⟩) | (go_at_call 142; refine (hM _).mono ?_; rintro e w' ⟨rfl, rfl⟩))
    go_ret
    exact ⟨rfl, hb⟩
  · rw [if_neg hc]
    have qc : ((c : Int) == 0) = false := by simpa using hc
    cases D
    · rw [if_pos (Or.inr rfl)]
      go_enter Tryz.func77, Tryz.ntmps77
      go_wp2_with (first | (go_at_call 59; refine (hH _).mono ?_; rintro e w' ⟨rfl, rfl⟩) | (go_at_call 103; refine (hD _).mono ?_; rintro e w' ⟨rfl, rfl⟩) | (go_at_call 142; refine (hM _).mono ?_; rintro e w' ⟨rfl, rfl⟩))
      go_ret
      exact ⟨rfl, hb⟩
    · rw [if_neg (by simp)]
      by_cases hs : (s : Int) = 0
      · rw [if_pos (by rw [hS]; simpa using hs), hs]
        rw [hs] at hb
        go_enter Tryz.func77, Tryz.ntmps77
        go_wp2_with (first | (go_at_call 59; refine (hH _).mono ?_; rintro e w' ⟨rfl, rfl⟩) | (go_at_call 103; refine (hD _).mono ?_; rintro e w' ⟨rfl, rfl⟩) | (go_at_call 142; refine (hM _).mono ?_; rintro e w' ⟨rfl, rfl⟩))
        go_ret
        exact ⟨rfl, hb⟩
      · rw [if_neg (by rw [hS]; simpa using hs)]
        have qs : ((s : Int) == 0) = false := by simpa using hs
        by_cases hn : (n : Int) = 0
        · rw [if_pos (by simp [hn]), hn]
          rw [hn] at hb
          go_enter Tryz.func77, Tryz.ntmps77
          go_wp2_with (first | (go_at_call 59; refine (hH _).mono ?_; rintro e w' ⟨rfl, rfl⟩) | (go_at_call 103; refine (hD _).mono ?_; rintro e w' ⟨rfl, rfl⟩) | (go_at_call 142; refine (hM _).mono ?_; rintro e w' ⟨rfl, rfl⟩))
          go_ret
          exact ⟨rfl, hb⟩
        · rw [if_neg (by simpa using hn)]
          have qn : ((n : Int) == 0) = false := by simpa using hn
          have qn2 : ((n : Int) != 0) = true := by simpa using hn
          by_cases hf : f < 0
          · rw [if_pos (Or.inl hf)]
            have qf : decide (f < 0) = true := decide_eq_true hf
            go_enter Tryz.func77, Tryz.ntmps77
            go_wp2_with (first | (go_at_call 59; refine (hH _).mono ?_; rintro e w' ⟨rfl, rfl⟩) | (go_at_call 103; refine (hD _).mono ?_; rintro e w' ⟨rfl, rfl⟩) | (go_at_call 142; refine (hM _).mono ?_; rintro e w' ⟨rfl, rfl⟩))
            go_ret
            exact ⟨rfl, hb⟩
          · have qf : decide (f < 0) = false := decide_eq_false hf
            by_cases h15 : 15 < f
            · rw [if_pos (by omega)]
              have q15 : decide (15 < f) = true := decide_eq_true h15
              go_enter Tryz.func77, Tryz.ntmps77
              go_wp2_with (first | (go_at_call 59; refine (hH _).mono ?_; rintro e w' ⟨rfl, rfl⟩) | (go_at_call 103; refine (hD _).mono ?_; rintro e w' ⟨rfl, rfl⟩) | (go_at_call 142; refine (hM _).mono ?_; rintro e w' ⟨rfl, rfl⟩))
              go_ret
              exact ⟨rfl, hb⟩
            · have q15 : decide (15 < f) = false := decide_eq_false h15
              by_cases h0 : f = 0
              · rw [if_neg (by omega)]
                subst h0
                go_enter Tryz.func77, Tryz.ntmps77
                go_wp2_with (first | (go_at_call 59; refine (hH _).mono ?_; rintro e w' ⟨rfl, rfl⟩) | (go_at_call 103; refine (hD _).mono ?_; rintro e w' ⟨rfl, rfl⟩) | (go_at_call 142; refine (hM _).mono ?_; rintro e w' ⟨rfl, rfl⟩))
                go_ret
                exact ⟨rfl, hb⟩
              · rw [if_pos (by omega)]
                have q0 : (f == 0) = false := by simpa using h0
                go_enter Tryz.func77, Tryz.ntmps77
                go_wp2_with (first | (go_at_call 59; refine (hH _).mono ?_; rintro e w' ⟨rfl, rfl⟩) | (go_at_call 103; refine (hD _).mono ?_; rintro e w' ⟨rfl, rfl⟩) | (go_at_call 142; refine (hM _).mono ?_; rintro e w' ⟨rfl, rfl⟩))
                go_ret
                exact ⟨rfl, hb⟩
set_option maxRecDepth 100000 in
set_option maxHeartbeats 2000000 in
theorem refLawful_other (k : Int) (h1 : k ≠ 1) (h22 : k ≠ 22) (h4 : k ≠ 4) (h20 : k ≠ 20) (h5 : k ≠ 5) (h21 : k ≠ 21) (c s n : Nat) (f : Int) (a : Option Addr) (len cap : Nat) (w : World) :
    Calls Tryz.prog 77 #[.agg #[.int .i64 k, .int .u32 c, .int .u32 s, .int .u32 n, .int .i64 f, .slice a len cap]] w fun e w' => e = .returned (.int .i64 (LW k c s n f len len)) ∧ Below w.heap.size w w' := by
  have hH := refHost_any k
  have hD := refDevice_any k
  have hM := refData_any k len
  have hc0 : ¬ cont k = 2 := by
    intro e
    unfold cont at e
    by_cases g1 : k = 1 ∨ k = 2 ∨ k = 17
    · rw [if_pos g1] at e; omega
    · rw [if_neg g1, if_neg (by omega)] at e; omega
  have hN : hNum k = false := decide_eq_false (by omega)
  have hF : mFl k = 0 := if_neg hc0
  have q1 : (k == 1) = false := by simpa using h1
  have q22 : (k == 22) = false := by simpa using h22
  have p1 : (k != 1) = true := by simpa using h1
  have p22 : (k != 22) = true := by simpa using h22
  have q4 : (k == 4) = false := by simpa using h4
  have q20 : (k == 20) = false := by simpa using h20
  have q5 : (k == 5) = false := by simpa using h5
  have q21 : (k == 21) = false := by simpa using h21
  have hS : mSess k s = decide ((s : Int) ≠ 0) := by unfold mSess; rw [if_neg h1, if_neg h22]
  unfold LW
  rw [hS, hF, hN]
  clear hF hN hc0 h1 h22 h4 h20 h5 h21
  generalize hostK k = A at *
  generalize devK k = B at *
  generalize mData k len = D at *
  generalize mSess k s = S at *
  have hb : Below w.heap.size w (w.alloc (.cells #[.int .i64 k, .int .u32 c, .int .u32 s, .int .u32 n, .int .i64 f, .slice a len cap] 67)) := (Below.refl _ _).alloc (Nat.le_refl _) _
  by_cases h0 : A = false ∧ B = false
  · obtain ⟨rfl, rfl⟩ := h0
    rw [if_pos ⟨rfl, rfl⟩]
    clear hS
    go_enter Tryz.func77, Tryz.ntmps77
    go_wp2_with (first | (go_at_call 59; refine (hH _).mono ?_; rintro e w' ⟨rfl, rfl⟩) | (go_at_call 103; refine (hD _).mono ?_; rintro e w' ⟨rfl, rfl⟩) | (go_at_call 142; refine (hM _).mono ?_; rintro e w' ⟨rfl, rfl⟩))
    go_ret
    exact ⟨rfl, hb⟩
  · rw [if_neg h0]
    have h1 : A = true ∨ (A = false ∧ B = true) := by
      cases A
      · cases B
        · exact absurd ⟨rfl, rfl⟩ h0
        · exact Or.inr ⟨rfl, rfl⟩
      · exact Or.inl rfl
    clear h0
    by_cases hc : (c : Int) = 0
    · rw [if_pos hc, hc]
      rw [hc] at hb
      clear hS
      rcases h1 with rfl | ⟨rfl, rfl⟩
      all_goals
        go_enter Tryz.func77, Tryz.ntmps77
        go_wp2_with (first | (go_at_call 59; refine (hH _).mono ?_; rintro e w' ⟨rfl, rfl⟩) | (go_at_call 103; refine (hD _).mono ?_; rintro e w' ⟨rfl, rfl⟩) | (go_at_call 142; refine (hM _).mono ?_; rintro e w' ⟨rfl, rfl⟩))
        go_ret
        exact ⟨rfl, hb⟩
    · rw [if_neg hc]
      have qc : ((c : Int) == 0) = false := by simpa using hc
      cases D
      · rw [if_pos (Or.inr rfl)]
        clear hS
        rcases h1 with rfl | ⟨rfl, rfl⟩
        all_goals
          go_enter Tryz.func77, Tryz.ntmps77
          go_wp2_with (first | (go_at_call 59; refine (hH _).mono ?_; rintro e w' ⟨rfl, rfl⟩) | (go_at_call 103; refine (hD _).mono ?_; rintro e w' ⟨rfl, rfl⟩) | (go_at_call 142; refine (hM _).mono ?_; rintro e w' ⟨rfl, rfl⟩))
          go_ret
          exact ⟨rfl, hb⟩
      · rw [if_neg (by simp)]
        by_cases hs : (s : Int) = 0
        · rw [if_pos (by simp [hs]), hs]
          rw [hs] at hb
          rcases h1 with rfl | ⟨rfl, rfl⟩
          all_goals
            go_enter Tryz.func77, Tryz.ntmps77
            go_wp2_with (first | (go_at_call 59; refine (hH _).mono ?_; rintro e w' ⟨rfl, rfl⟩) | (go_at_call 103; refine (hD _).mono ?_; rintro e w' ⟨rfl, rfl⟩) | (go_at_call 142; refine (hM _).mono ?_; rintro e w' ⟨rfl, rfl⟩))
            go_ret
            exact ⟨rfl, hb⟩
        · rw [if_neg (by simpa using hs)]
          have qs : ((s : Int) == 0) = false := by simpa using hs
          by_cases hn : (n : Int) = 0
          · rw [if_neg (by simp [hn]), hn]
            rw [hn] at hb
            by_cases hf : f < 0
            · rw [if_pos (Or.inl hf)]
              have qf : decide (f < 0) = true := decide_eq_true hf
              rcases h1 with rfl | ⟨rfl, rfl⟩
              all_goals
                go_enter Tryz.func77, Tryz.ntmps77
                go_wp2_with (first | (go_at_call 59; refine (hH _).mono ?_; rintro e w' ⟨rfl, rfl⟩) | (go_at_call 103; refine (hD _).mono ?_; rintro e w' ⟨rfl, rfl⟩) | (go_at_call 142; refine (hM _).mono ?_; rintro e w' ⟨rfl, rfl⟩))
                go_ret
                exact ⟨rfl, hb⟩
            · have qf : decide (f < 0) = false := decide_eq_false hf
              by_cases h15 : 15 < f
              · rw [if_pos (by omega)]
                have q15 : decide (15 < f) = true := decide_eq_true h15
                rcases h1 with rfl | ⟨rfl, rfl⟩
                all_goals
                  go_enter Tryz.func77, Tryz.ntmps77
                  go_wp2_with (first | (go_at_call 59; refine (hH _).mono ?_; rintro e w' ⟨rfl, rfl⟩) | (go_at_call 103; refine (hD _).mono ?_; rintro e w' ⟨rfl, rfl⟩) | (go_at_call 142; refine (hM _).mono ?_; rintro e w' ⟨rfl, rfl⟩))
                  go_ret
                  exact ⟨rfl, hb⟩
              · have q15 : decide (15 < f) = false := decide_eq_false h15
                by_cases h0 : f = 0
                · rw [if_neg (by omega)]
                  subst h0
                  rcases h1 with rfl | ⟨rfl, rfl⟩
                  all_goals
                    go_enter Tryz.func77, Tryz.ntmps77
                    go_wp2_with (first | (go_at_call 59; refine (hH _).mono ?_; rintro e w' ⟨rfl, rfl⟩) | (go_at_call 103; refine (hD _).mono ?_; rintro e w' ⟨rfl, rfl⟩) | (go_at_call 142; refine (hM _).mono ?_; rintro e w' ⟨rfl, rfl⟩))
                    go_ret
                    exact ⟨rfl, hb⟩
                · rw [if_pos (by omega)]
                  have q0 : (f == 0) = false := by simpa using h0
                  rcases h1 with rfl | ⟨rfl, rfl⟩
                  all_goals
                    go_enter Tryz.func77, Tryz.ntmps77
                    go_wp2_with (first | (go_at_call 59; refine (hH _).mono ?_; rintro e w' ⟨rfl, rfl⟩) | (go_at_call 103; refine (hD _).mono ?_; rintro e w' ⟨rfl, rfl⟩) | (go_at_call 142; refine (hM _).mono ?_; rintro e w' ⟨rfl, rfl⟩))
                    go_ret
                    exact ⟨rfl, hb⟩
          · rw [if_pos (by simpa using hn)]
            have qn : ((n : Int) == 0) = false := by simpa using hn
            have qn2 : ((n : Int) != 0) = true := by simpa using hn
            rcases h1 with rfl | ⟨rfl, rfl⟩
            all_goals
              go_enter Tryz.func77, Tryz.ntmps77
              go_wp2_with (first | (go_at_call 59; refine (hH _).mono ?_; rintro e w' ⟨rfl, rfl⟩) | (go_at_call 103; refine (hD _).mono ?_; rintro e w' ⟨rfl, rfl⟩) | (go_at_call 142; refine (hM _).mono ?_; rintro e w' ⟨rfl, rfl⟩))
              go_ret
              exact ⟨rfl, hb⟩
theorem refLawful_any (k : Int) (c s n : Nat) (f : Int) (a : Option Addr) (len cap : Nat) (w : World) :
    Calls Tryz.prog 77 #[.agg #[.int .i64 k, .int .u32 c, .int .u32 s, .int .u32 n, .int .i64 f, .slice a len cap]] w fun e w' => e = .returned (.int .i64 (LW k c s n f len len)) ∧ Below w.heap.size w w' := by
  by_cases h1 : k = 1
  · subst h1; exact refLawful_1 c s n f a len cap w
  by_cases h22 : k = 22
  · subst h22; exact refLawful_22 c s n f a len cap w
  by_cases h4 : k = 4
  · subst h4; exact refLawful_4 c s n f a len cap w
  by_cases h20 : k = 20
  · subst h20; exact refLawful_20 c s n f a len cap w
  by_cases h5 : k = 5
  · subst h5; exact refLawful_5 c s n f a len cap w
  by_cases h21 : k = 21
  · subst h21; exact refLawful_21 c s n f a len cap w
  exact refLawful_other k h1 h22 h4 h20 h5 h21 c s n f a len cap w
end Go.Proofs.YtndjepeolamedaaGreat
namespace Go.Proofs.YtndjepeolamedaaGreat
set_option maxRecDepth 100000
open Go.RowKit
theorem fr_build2 (K c s n F len : Nat) (bs : Nat → Nat) (i : Nat) (_ : i < 15 + len) :
    (if i < 15 then (if i < 13 then (if i < 9 then (if i < 5 then (if i = 0 then K else PM.w4 c (i - 1)) else PM.w4 s (i - 5)) else PM.w4 n (i - 9)) else (if i - 13 = 0 then F else len)) else bs (i - 15)) = fr K c s n F len bs i := by
  unfold fr
  by_cases h0 : i = 0
  · simp (disch := omega) only [if_pos]
  · by_cases h1 : i < 5
    · simp (disch := omega) only [if_pos, if_neg]
    · by_cases h2 : i < 9
      · simp (disch := omega) only [if_pos, if_neg]
      · by_cases h3 : i < 13
        · simp (disch := omega) only [if_pos, if_neg]
        · by_cases h4 : i = 13
          · simp (disch := omega) only [if_pos, if_neg]
          · by_cases h5 : i = 14
            · simp (disch := omega) only [if_pos, if_neg]
            · simp (disch := omega) only [if_pos, if_neg]
theorem row2 (w : World) (x y : Nat) (hx : x < 256) (hy : y < 256) : Row8 (w.alloc (.cells #[.int .u8 (x : Int), .int .u8 (y : Int)] 5)) (some ⟨w.heap.size, 0, none⟩) 2 2 (fun i => if i = 0 then x else y) := by
  refine row8_new w _ _ _ 2 (fun i _ => ?_) (fun i hi => ?_)
  · by_cases h : i = 0
    · rw [if_pos h]; exact hx
    · rw [if_neg h]; exact hy
  · rcases (show i = 0 ∨ i = 1 by omega) with rfl | rfl <;> rfl
set_option maxRecDepth 100000 in
set_option maxHeartbeats 1000000 in
theorem refEncode_bad (k : Int) (c s n : Nat) (f : Int) (a : Option Addr) (len cap : Nat) (w : World) (hE : LW k c s n f len len ≠ 0) :
    Calls Tryz.prog 96 #[.agg #[.int .i64 k, .int .u32 c, .int .u32 s, .int .u32 n, .int .i64 f, .slice a len cap]] w fun e w' => e = .returned (.tuple #[.slice none 0 0, .int .i64 (LW k c s n f len len)]) ∧ Below w.heap.size w w' := by
  have hb : Below w.heap.size w (w.alloc (.cells #[.int .i64 k, .int .u32 c, .int .u32 s, .int .u32 n, .int .i64 f, .slice a len cap] 67)) := (Below.refl _ _).alloc (Nat.le_refl _) _
  have hF := refLawful_any k c s n f a len cap (w.alloc (.cells #[.int .i64 k, .int .u32 c, .int .u32 s, .int .u32 n, .int .i64 f, .slice a len cap] 67))
  generalize LW k c s n f len len = E at *
  have q : (E == 0) = false := by simpa using hE
  go_enter Tryz.func96, Tryz.ntmps96
  go_wp2_with fail
  refine hF.mono ?_
  rintro e w1 ⟨rfl, hb1⟩
  have hb2 := below_all hb hb.size hb1
  clear hb hF hb1
  go_wp2_with fail
  go_ret2
  exact ⟨rfl, hb2⟩
set_option maxRecDepth 100000 in
set_option maxHeartbeats 2000000 in
theorem refEncode_good (K c s n F : Nat) (a : Option Addr) (len cap : Nat) (bs : Nat → Nat) (w : World) (hr : Row8 w a len cap bs) (hc : c < 4294967296) (hs : s < 4294967296) (hn : n < 4294967296) (hE : LW K c s n F len len = 0) :
    Calls Tryz.prog 96 #[.agg #[.int .i64 K, .int .u32 c, .int .u32 s, .int .u32 n, .int .i64 F, .slice a len cap]] w fun e w' => ∃ v, e = .returned (.tuple #[v, .int .i64 0]) ∧
      Hid (w'.ownsRow w.heap.size 5 1 v (15 + len + 4) (CB (PM.sl (fr K c s n F len bs) (15 + len)) (15 + len + 4)) ∧ Below w.heap.size w w') := by
  obtain ⟨i0, hi, hz0, hz1, hz2⟩ := info_parts info_u8
  obtain ⟨hkk, _, _, hll, hff⟩ := LW_zero hE
  have hA : Below w.heap.size w (w.alloc (.cells #[.int .i64 K, .int .u32 c, .int .u32 s, .int .u32 n, .int .i64 F, .slice a len cap] 67)) := (Below.refl _ _).alloc (Nat.le_refl _) _
  have hL := refLawful_any K c s n F a len cap (w.alloc (.cells #[.int .i64 K, .int .u32 c, .int .u32 s, .int .u32 n, .int .i64 F, .slice a len cap] 67))
  rw [hE] at hL
  have hX := box_new w K c s n F (.slice a len cap)
  have hAs : w.heap.size < (w.alloc (.cells #[.int .i64 K, .int .u32 c, .int .u32 s, .int .u32 n, .int .i64 F, .slice a len cap] 67)).heap.size := by simp
  have hrA := hr.below hA
  clear hE hr
  go_enter Tryz.func96, Tryz.ntmps96
  go_wp2_with fail
  refine hL.mono ?_
  rintro e w1 ⟨rfl, hb1⟩
  generalize w.alloc (.cells #[.int .i64 K, .int .u32 c, .int .u32 s, .int .u32 n, .int .i64 F, .slice a len cap] 67) = wa at *
  have hs1 := hb1.size
  have hb2 := hb1.alloc hs1 (.cells #[.int .u8 (K : Int)] 5)
  have O2 : (w1.alloc (.cells #[.int .u8 (K : Int)] 5)).ownsRow wa.heap.size 5 1 (.slice (some ⟨w1.heap.size, 0, none⟩) 1 1) 1 (CB (fun _ => K) 1) := ⟨rfl, .inr ⟨w1.heap.size, 1, _, rfl, hs1, heap_alloc_new w1 _, Nat.le_refl _, by unfold maxLen; omega, rfl, rfl⟩⟩
  have hKm : (K : Int) % 256 = (K : Int) := by omega
  have hFm : (F : Int) % 256 = (F : Int) := by omega
  have hlm : (len : Int) % 256 = (len : Int) := by omega
  have x0 := (hX w1 hb1).c0
  have x1 := (hX _ hb2).c1
  clear hL
  go_wp2_with fail
  generalize w1.alloc (.cells #[.int .u8 (K : Int)] 5) = w2 at *
  refine (refWord_any c _ hc).mono ?_
  rintro e u3 ⟨rfl, rfl⟩
  have R3 := row4 w2 c hc
  have P3 := O2.alloc (.cells #[.int .u8 ((c : Int) / 16777216), .int .u8 ((c : Int) / 65536 % 256), .int .u8 ((c : Int) / 256 % 256), .int .u8 ((c : Int) % 256)] 5)
  have hs3 : wa.heap.size ≤ w2.heap.size := hb2.size
  have B3 := hb2.alloc hs3 (.cells #[.int .u8 ((c : Int) / 16777216), .int .u8 ((c : Int) / 65536 % 256), .int .u8 ((c : Int) / 256 % 256), .int .u8 ((c : Int) % 256)] 5)
  have ht3 := B3.size
  clear O2 hb2
  go_wp2_with (at_builtin; refine wpList_append_row8 rfl (.tmp 15) (.tmp 18) 22 rfl wa.heap.size 5 i0 (.int .u8 0) Tryz.underlying22 hi hz0 hz1 hz2 rfl _ 1 _ rfl P3 _ 4 4 (PM.w4 c) rfl R3 (by unfold maxLen; omega) (by omega) ht3 ?_)
  intro v3 w3 O3 G3
  have C3 : Below wa.heap.size wa w3 := B3.grown G3 ht3 (fun j hj => (P3.lt j hj).1)
  rw [CB_append] at O3
  clear R3 P3 B3 G3
  have x2 := (hX w3 C3).c2
  go_wp2_with fail
  refine (refWord_any s _ hs).mono ?_
  rintro e u4 ⟨rfl, rfl⟩
  have R4 := row4 (w3) s hs
  have P4 := O3.alloc (.cells #[.int .u8 ((s : Int) / 16777216), .int .u8 ((s : Int) / 65536 % 256), .int .u8 ((s : Int) / 256 % 256), .int .u8 ((s : Int) % 256)] 5)
  have hs4 : wa.heap.size ≤ (w3).heap.size := C3.size
  have B4 := C3.alloc hs4 (.cells #[.int .u8 ((s : Int) / 16777216), .int .u8 ((s : Int) / 65536 % 256), .int .u8 ((s : Int) / 256 % 256), .int .u8 ((s : Int) % 256)] 5)
  have ht4 := B4.size
  clear O3 C3
  go_wp2_with (at_builtin; refine wpList_append_row8 rfl (.tmp 20) (.tmp 23) 22 rfl wa.heap.size 5 i0 (.int .u8 0) Tryz.underlying22 hi hz0 hz1 hz2 rfl _ 5 _ rfl P4 _ 4 4 (PM.w4 s) rfl R4 (by unfold maxLen; omega) (by omega) ht4 ?_)
  intro v4 w4 O4 G4
  have C4 : Below wa.heap.size wa w4 := B4.grown G4 ht4 (fun j hj => (P4.lt j hj).1)
  rw [CB_append] at O4
  clear R4 P4 B4 G4
  have x3 := (hX w4 C4).c3
  go_wp2_with fail
  refine (refWord_any n _ hn).mono ?_
  rintro e u5 ⟨rfl, rfl⟩
  have R5 := row4 (w4) n hn
  have P5 := O4.alloc (.cells #[.int .u8 ((n : Int) / 16777216), .int .u8 ((n : Int) / 65536 % 256), .int .u8 ((n : Int) / 256 % 256), .int .u8 ((n : Int) % 256)] 5)
  have hs5 : wa.heap.size ≤ (w4).heap.size := C4.size
  have B5 := C4.alloc hs5 (.cells #[.int .u8 ((n : Int) / 16777216), .int .u8 ((n : Int) / 65536 % 256), .int .u8 ((n : Int) / 256 % 256), .int .u8 ((n : Int) % 256)] 5)
  have ht5 := B5.size
  clear O4 C4
  go_wp2_with (at_builtin; refine wpList_append_row8 rfl (.tmp 25) (.tmp 28) 22 rfl wa.heap.size 5 i0 (.int .u8 0) Tryz.underlying22 hi hz0 hz1 hz2 rfl _ 9 _ rfl P5 _ 4 4 (PM.w4 n) rfl R5 (by unfold maxLen; omega) (by omega) ht5 ?_)
  intro v5 w5 O5 G5
  have C5 : Below wa.heap.size wa w5 := B5.grown G5 ht5 (fun j hj => (P5.lt j hj).1)
  rw [CB_append] at O5
  clear R5 P5 B5 G5
  have x4 := (hX w5 C5).c4
  have x5 := (hX w5 C5).c5
  have R6 := row2 w5 F len (by omega) (by omega)
  have P6 := O5.alloc (.cells #[.int .u8 (F : Int), .int .u8 (len : Int)] 5)
  have hs6 := C5.size
  have B6 := C5.alloc hs6 (.cells #[.int .u8 (F : Int), .int .u8 (len : Int)] 5)
  have ht6 := B6.size
  clear O5 C5
  go_wp2_with (at_builtin; refine wpList_append_row8 rfl (.tmp 30) (.tmp 38) 22 rfl wa.heap.size 5 i0 (.int .u8 0) Tryz.underlying22 hi hz0 hz1 hz2 rfl _ 13 _ rfl P6 _ 2 2 (fun i => if i = 0 then F else len) rfl R6 (by unfold maxLen; omega) (by omega) ht6 ?_)
  intro v6 w6 O6 G6
  have C6 : Below wa.heap.size wa w6 := B6.grown G6 ht6 (fun j hj => (P6.lt j hj).1)
  rw [CB_append] at O6
  clear R6 P6 B6 G6
  have x6 := (hX w6 C6).c5
  have R7 := hrA.below C6
  have ht7 := C6.size
  go_wp2_with (at_builtin; refine wpList_append_row8 rfl (.tmp 40) (.tmp 42) 22 rfl wa.heap.size 5 i0 (.int .u8 0) Tryz.underlying22 hi hz0 hz1 hz2 rfl _ 15 _ rfl O6 a len cap bs rfl R7 (by unfold maxLen; omega) (by omega) ht7 ?_)
  intro v7 w7 O7 G7
  have C7 : Below wa.heap.size wa w7 := C6.grown G7 ht7 (fun j hj => (O6.lt j hj).1)
  rw [CB_append, CB_congr _ (fr K c s n F len bs) _ (fun j hj => fr_build2 K c s n F len bs j (by omega))] at O7
  have hby : ∀ i, i < 15 + len → fr K c s n F len bs i < 256 := fr_lt (by omega) (by omega) (by omega) hrA.byte
  obtain ⟨a8, c8, rfl, R8⟩ := own_row8 O7 hby
  have hS := refSeal_row a8 (15 + len) c8 _ w7 R8 (by omega)
  have hs8 := C7.size
  have hBB : Below w.heap.size w w7 := hA.trans (C7.mono (Nat.le_of_lt hAs))
  clear O6 C6 R7 G7 O7 R8 hX x0 x1 x2 x3 x4 x5 x6 hrA
  go_wp2_with fail
  refine hS.mono ?_
  rintro e w9 ⟨v, rfl, own9, bel9⟩
  clear hS
  go_wp2_with fail
  go_ret2
  exact ⟨v, rfl, own_base own9 (by omega), below_all hBB (by omega) bel9⟩
end Go.Proofs.YtndjepeolamedaaGreat
