/- Safety units as numbers: what may be, a frame's bytes, there and back. -/
import Derived.Test.YtmleiemlfogffaaGreatCSeal
namespace Go.Proofs.YtmleiemlfogffaaGreat
set_option maxRecDepth 100000
open Go.RowKit

/-- What data a kind has: 1 a signature, 2 a value, 0 nothing. -/
def cont (k : Int) : Nat := if k = 1 ∨ k = 2 ∨ k = 17 then 1 else if k = 4 ∨ k = 20 then 2 else 0
def hostK (k : Int) : Bool := decide (1 ≤ k ∧ k ≤ 5)
def devK (k : Int) : Bool := decide (17 ≤ k ∧ k ≤ 22)
def mData (k n : Int) : Bool := if cont k = 1 then decide (n = 4) else if cont k = 2 then decide (1 ≤ n ∧ n ≤ 8) else decide (n = 0)
def mSess (k s : Int) : Bool := if k = 1 then decide (s = 0) else if k = 22 then true else decide (s ≠ 0)
def hNum (k : Int) : Bool := decide (cont k = 2 ∨ k = 5 ∨ k = 21)
def mFl (k : Int) : Int := if cont k = 2 then 15 else 0
/-- The first thing that is wrong. -/
def LW (k c s n f len said : Int) : Int :=
  if hostK k = false ∧ devK k = false then 43 else if c = 0 then 44 else if said ≠ len ∨ mData k said = false then 45 else if mSess k s = false then 46
  else if hNum k ≠ decide (n ≠ 0) then 47 else if f < 0 ∨ mFl k < f then 48 else 0
theorem LW_zero {k c s n f len said : Int} (h : LW k c s n f len said = 0) : (1 ≤ k ∧ k ≤ 22) ∧ c ≠ 0 ∧ said = len ∧ (0 ≤ len ∧ len ≤ 8) ∧ (0 ≤ f ∧ f ≤ 15) := by
  unfold LW at h
  by_cases h1 : hostK k = false ∧ devK k = false
  · rw [if_pos h1] at h; omega
  · rw [if_neg h1] at h
    have hk : 1 ≤ k ∧ k ≤ 22 := by
      unfold hostK devK at h1
      simp only [decide_eq_false_iff_not] at h1
      omega
    by_cases h2 : c = 0
    · rw [if_pos h2] at h; omega
    · rw [if_neg h2] at h
      by_cases h3 : said ≠ len ∨ mData k said = false
      · rw [if_pos h3] at h; omega
      · rw [if_neg h3] at h
        have hs : said = len := by omega
        have hd : 0 ≤ len ∧ len ≤ 8 := by
          have h4 : mData k said = true := by
            cases e : mData k said
            · exact absurd (Or.inr e) h3
            · rfl
          unfold mData at h4
          rw [hs] at h4
          by_cases c1 : cont k = 1
          · rw [if_pos c1] at h4; simp only [decide_eq_true_eq] at h4; omega
          · rw [if_neg c1] at h4
            by_cases c2 : cont k = 2
            · rw [if_pos c2] at h4; simp only [decide_eq_true_eq] at h4; omega
            · rw [if_neg c2] at h4; simp only [decide_eq_true_eq] at h4; omega
        by_cases h5 : mSess k s = false
        · rw [if_pos h5] at h; omega
        · rw [if_neg h5] at h
          by_cases h6 : hNum k ≠ decide (n ≠ 0)
          · rw [if_pos h6] at h; omega
          · rw [if_neg h6] at h
            by_cases h7 : f < 0 ∨ mFl k < f
            · rw [if_pos h7] at h; omega
            · have : mFl k ≤ 15 := by
                unfold mFl
                by_cases c2 : cont k = 2
                · rw [if_pos c2]; omega
                · rw [if_neg c2]; omega
              exact ⟨hk, h2, hs, hd, by omega⟩
/-- What is said of the data's length stands between the code and the session. -/
theorem LW_said (k c s n f len said : Int) : LW k c s n f len said = if LW k c s n f len len ≠ 43 ∧ LW k c s n f len len ≠ 44 ∧ said ≠ len then 45 else LW k c s n f len len := by
  by_cases hs : said = len
  · subst hs; rw [if_neg (fun h => h.2.2 rfl)]
  · unfold LW
    by_cases h1 : hostK k = false ∧ devK k = false
    · simp [h1]
    · simp only [if_neg h1]
      by_cases h2 : c = 0
      · simp [h2]
      · simp only [if_neg h2]
        rw [if_pos (Or.inl hs), if_pos]
        refine ⟨?_, ?_, hs⟩ <;> (repeat' (split <;> try omega))
/-- Four bytes as a number. -/
def w4v (bs : Nat → Nat) (i : Nat) : Nat := bs i * 16777216 + bs (i + 1) * 65536 + bs (i + 2) * 256 + bs (i + 3)
theorem w4v_lt {bs : Nat → Nat} {i : Nat} (h : ∀ j, j < 4 → bs (i + j) < 256) : w4v bs i < 4294967296 := by
  have h0 := h 0 (by omega); have h1 := h 1 (by omega); have h2 := h 2 (by omega); have h3 := h 3 (by omega)
  rw [Nat.add_zero] at h0
  unfold w4v
  omega
theorem w4_w4v {bs : Nat → Nat} {i : Nat} (h : ∀ j, j < 4 → bs (i + j) < 256) (j : Nat) (hj : j < 4) : PM.w4 (w4v bs i) j = bs (i + j) := by
  have h0 := h 0 (by omega)
  rw [Nat.add_zero] at h0
  exact ((w4_iff bs i (w4v bs i) (w4v_lt h) h0 (h 1 (by omega)) (h 2 (by omega)) (h 3 (by omega))).2 rfl j hj).symm
theorem w4v_w4 {bs : Nat → Nat} {i k : Nat} (hk : k < 4294967296) (h : ∀ j, j < 4 → bs (i + j) = PM.w4 k j) : w4v bs i = k := by
  have hb : ∀ j, j < 4 → bs (i + j) < 256 := fun j hj => by rw [h j hj]; exact PM.w4_lt _ _
  have h0 := hb 0 (by omega)
  rw [Nat.add_zero] at h0
  exact (w4_iff bs i k hk h0 (hb 1 (by omega)) (hb 2 (by omega)) (hb 3 (by omega))).1 h
/-- A frame's bytes without the check. -/
def fr (K c s n F len : Nat) (bs : Nat → Nat) (i : Nat) : Nat :=
  if i = 0 then K else if i < 5 then PM.w4 c (i - 1) else if i < 9 then PM.w4 s (i - 5) else if i < 13 then PM.w4 n (i - 9) else if i = 13 then F else if i = 14 then len else bs (i - 15)
theorem fr_lt {K c s n F len : Nat} {bs : Nat → Nat} (hK : K < 256) (hF : F < 256) (hl : len < 256) (hb : ∀ i, i < len → bs i < 256) : ∀ i, i < 15 + len → fr K c s n F len bs i < 256 := by
  intro i hi
  unfold fr
  by_cases h0 : i = 0
  · rw [if_pos h0]; exact hK
  · rw [if_neg h0]
    by_cases h1 : i < 5
    · rw [if_pos h1]; exact PM.w4_lt _ _
    · rw [if_neg h1]
      by_cases h2 : i < 9
      · rw [if_pos h2]; exact PM.w4_lt _ _
      · rw [if_neg h2]
        by_cases h3 : i < 13
        · rw [if_pos h3]; exact PM.w4_lt _ _
        · rw [if_neg h3]
          by_cases h4 : i = 13
          · rw [if_pos h4]; exact hF
          · rw [if_neg h4]
            by_cases h5 : i = 14
            · rw [if_pos h5]; exact hl
            · rw [if_neg h5]; exact hb _ (by omega)
theorem fr_0 (K c s n F len : Nat) (bs : Nat → Nat) : fr K c s n F len bs 0 = K := rfl
theorem fr_c (K c s n F len : Nat) (bs : Nat → Nat) (j : Nat) (hj : j < 4) : fr K c s n F len bs (1 + j) = PM.w4 c j := by
  unfold fr
  rw [if_neg (by omega), if_pos (by omega), show 1 + j - 1 = j by omega]
theorem fr_s (K c s n F len : Nat) (bs : Nat → Nat) (j : Nat) (hj : j < 4) : fr K c s n F len bs (5 + j) = PM.w4 s j := by
  unfold fr
  rw [if_neg (by omega), if_neg (by omega), if_pos (by omega), show 5 + j - 5 = j by omega]
theorem fr_n (K c s n F len : Nat) (bs : Nat → Nat) (j : Nat) (hj : j < 4) : fr K c s n F len bs (9 + j) = PM.w4 n j := by
  unfold fr
  rw [if_neg (by omega), if_neg (by omega), if_neg (by omega), if_pos (by omega), show 9 + j - 9 = j by omega]
theorem fr_f (K c s n F len : Nat) (bs : Nat → Nat) : fr K c s n F len bs 13 = F := rfl
theorem fr_l (K c s n F len : Nat) (bs : Nat → Nat) : fr K c s n F len bs 14 = len := rfl
theorem fr_d (K c s n F len : Nat) (bs : Nat → Nat) (j : Nat) : fr K c s n F len bs (15 + j) = bs j := by
  unfold fr
  rw [if_neg (by omega), if_neg (by omega), if_neg (by omega), if_neg (by omega), if_neg (by omega), if_neg (by omega), show 15 + j - 15 = j by omega]
/-- Is the check right? -/
def vld (bs : Nat → Nat) (N : Nat) : Prop := PM.R PM.g 32 (PM.V (PM.fb bs) (8 * N)) = 0
instance (bs : Nat → Nat) (N : Nat) : Decidable (vld bs N) := inferInstanceAs (Decidable (_ = _))
/-- What Decode says of bytes. -/
def DE (bs : Nat → Nat) (N : Nat) : Int :=
  if N < 19 then 40 else if 27 < N then 41 else if ¬ vld bs N then 42 else LW (bs 0) (w4v bs 1) (w4v bs 5) (w4v bs 9) (bs 13) ((N - 19 : Nat) : Int) (bs 14)
/-- The fields that it answers. -/
def dF (bs : Nat → Nat) (N x : Nat) : Nat := if DE bs N = 0 then x else 0
theorem DE_zero {bs : Nat → Nat} {N : Nat} (h : DE bs N = 0) : 19 ≤ N ∧ N ≤ 27 ∧ vld bs N ∧ LW (bs 0) (w4v bs 1) (w4v bs 5) (w4v bs 9) (bs 13) ((N - 19 : Nat) : Int) (bs 14) = 0 := by
  unfold DE at h
  by_cases h1 : N < 19
  · rw [if_pos h1] at h; omega
  · rw [if_neg h1] at h
    by_cases h2 : 27 < N
    · rw [if_pos h2] at h; omega
    · rw [if_neg h2] at h
      by_cases h3 : vld bs N
      · rw [if_neg (fun e => e h3)] at h
        exact ⟨by omega, by omega, h3, h⟩
      · rw [if_pos h3] at h; omega
theorem DE_check {bs : Nat → Nat} {N : Nat} (h1 : 19 ≤ N) (h2 : N ≤ 27) (h3 : ¬ vld bs N) : DE bs N = 42 := by
  unfold DE
  rw [if_neg (by omega), if_neg (by omega), if_pos h3]
/-- Decode of a sealed frame. -/
theorem DE_back (K c s n F len : Nat) (bs : Nat → Nat) (hc : c < 4294967296) (hs : s < 4294967296) (hn : n < 4294967296) (hl : len ≤ 8) (h : LW K c s n F len len = 0) :
    DE (PM.sl (fr K c s n F len bs) (15 + len)) (15 + len + 4) = 0 ∧ PM.sl (fr K c s n F len bs) (15 + len) 0 = K ∧ w4v (PM.sl (fr K c s n F len bs) (15 + len)) 1 = c ∧ w4v (PM.sl (fr K c s n F len bs) (15 + len)) 5 = s ∧ w4v (PM.sl (fr K c s n F len bs) (15 + len)) 9 = n ∧
      PM.sl (fr K c s n F len bs) (15 + len) 13 = F ∧ ∀ j, j < len → PM.sl (fr K c s n F len bs) (15 + len) (15 + j) = bs j := by
  have hsl : ∀ i, i < 15 + len → PM.sl (fr K c s n F len bs) (15 + len) i = fr K c s n F len bs i := fun i hi => by
    unfold PM.sl PM.ct
    rw [if_pos hi]
  have hV : vld (PM.sl (fr K c s n F len bs) (15 + len)) (15 + len + 4) := PM.V_sl _ _
  have e0 : PM.sl (fr K c s n F len bs) (15 + len) 0 = K := hsl 0 (by omega)
  have e1 : w4v (PM.sl (fr K c s n F len bs) (15 + len)) 1 = c := w4v_w4 hc fun j hj => by rw [hsl _ (by omega), fr_c _ _ _ _ _ _ _ _ hj]
  have e2 : w4v (PM.sl (fr K c s n F len bs) (15 + len)) 5 = s := w4v_w4 hs fun j hj => by rw [hsl _ (by omega), fr_s _ _ _ _ _ _ _ _ hj]
  have e3 : w4v (PM.sl (fr K c s n F len bs) (15 + len)) 9 = n := w4v_w4 hn fun j hj => by rw [hsl _ (by omega), fr_n _ _ _ _ _ _ _ _ hj]
  have e4 : PM.sl (fr K c s n F len bs) (15 + len) 13 = F := hsl 13 (by omega)
  have e5 : PM.sl (fr K c s n F len bs) (15 + len) 14 = len := hsl 14 (by omega)
  refine ⟨?_, e0, e1, e2, e3, e4, fun j hj => by rw [hsl _ (by omega), fr_d]⟩
  unfold DE
  rw [if_neg (by omega), if_neg (by omega), if_neg (fun e => e hV), e0, e1, e2, e3, e4, e5, show 15 + len + 4 - 19 = len by omega]
  exact h
/-- Encode of what Decode takes. -/
theorem fr_form (bs : Nat → Nat) (N : Nat) (hb : ∀ i, i < N → bs i < 256) (h : DE bs N = 0) :
    LW (bs 0) (w4v bs 1) (w4v bs 5) (w4v bs 9) (bs 13) ((N - 19 : Nat) : Int) ((N - 19 : Nat) : Int) = 0 ∧
      ∀ i, i < N → PM.sl (fr (bs 0) (w4v bs 1) (w4v bs 5) (w4v bs 9) (bs 13) (N - 19) (fun i => bs (15 + i))) (N - 4) i = bs i := by
  obtain ⟨h1, h2, h3, h4⟩ := DE_zero h
  obtain ⟨_, _, h5, _, _⟩ := LW_zero h4
  have h14 : bs 14 = N - 19 := by omega
  rw [h5] at h4
  refine ⟨h4, ?_⟩
  have hfr : ∀ i, i < N - 4 → fr (bs 0) (w4v bs 1) (w4v bs 5) (w4v bs 9) (bs 13) (N - 19) (fun i => bs (15 + i)) i = bs i := fun i hi => by
    by_cases q0 : i = 0
    · subst q0; rfl
    · by_cases q1 : i < 5
      · obtain ⟨j, rfl⟩ : ∃ j, i = 1 + j := ⟨i - 1, by omega⟩
        rw [fr_c _ _ _ _ _ _ _ _ (by omega), w4_w4v (fun j hj => hb _ (by omega)) _ (by omega)]
      · by_cases q2 : i < 9
        · obtain ⟨j, rfl⟩ : ∃ j, i = 5 + j := ⟨i - 5, by omega⟩
          rw [fr_s _ _ _ _ _ _ _ _ (by omega), w4_w4v (fun j hj => hb _ (by omega)) _ (by omega)]
        · by_cases q3 : i < 13
          · obtain ⟨j, rfl⟩ : ∃ j, i = 9 + j := ⟨i - 9, by omega⟩
            rw [fr_n _ _ _ _ _ _ _ _ (by omega), w4_w4v (fun j hj => hb _ (by omega)) _ (by omega)]
          · by_cases q4 : i = 13
            · subst q4; rfl
            · by_cases q5 : i = 14
              · subst q5; rw [fr_l, h14]
              · obtain ⟨j, rfl⟩ : ∃ j, i = 15 + j := ⟨i - 15, by omega⟩
                rw [fr_d]
  intro i hi
  unfold PM.sl PM.ct
  by_cases hlt : i < N - 4
  · rw [if_pos hlt, hfr i hlt]
  · rw [if_neg hlt]
    obtain ⟨n, hn⟩ : ∃ n, N = n + 4 := ⟨N - 4, by omega⟩
    subst hn
    have hk := PM.K_lt bs n
    have hv := (PM.valid_iff bs n hb).2 h3
    rw [show n + 4 - 4 = n by omega] at hlt hfr ⊢
    rw [PM.K_congr _ bs n hfr]
    have := (w4_iff bs n (PM.K bs n) hk (hb _ (by omega)) (hb _ (by omega)) (hb _ (by omega)) (hb _ (by omega))).2 hv (i - n) (by omega)
    rw [← this, show n + (i - n) = i by omega]
end Go.Proofs.YtmleiemlfogffaaGreat
