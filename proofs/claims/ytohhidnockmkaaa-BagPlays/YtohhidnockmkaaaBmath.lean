/- Patterns of bits: their places, the first, the last, how many are 1; the bits of a word laid from a place on. Nothing of the program is named here. -/
import Derived.Test.YtohhidnockmkaaaMath
namespace Go.Proofs.Ytohhidnockmkaaa.PM

/-- How many of the first n are so. -/
def cnt (p : Nat → Bool) : Nat → Nat
  | 0 => 0
  | n + 1 => cnt p n + (p n).toNat
theorem cnt_succ (p : Nat → Bool) (n : Nat) : cnt p (n + 1) = cnt p n + (p n).toNat := rfl
theorem cnt_le (p : Nat → Bool) (n : Nat) : cnt p n ≤ n := by
  induction n with
  | zero => exact Nat.le_refl _
  | succ n ih => rw [cnt_succ]; have := Bool.toNat_le (p n); omega
theorem cnt_congr (p q : Nat → Bool) (n : Nat) (h : ∀ i, i < n → p i = q i) : cnt p n = cnt q n := by
  induction n with
  | zero => rfl
  | succ n ih => rw [cnt_succ, cnt_succ, ih (fun i hi => h i (by omega)), h n (by omega)]
theorem cnt_none (p : Nat → Bool) (n : Nat) (h : ∀ i, i < n → p i = false) : cnt p n = 0 := by
  induction n with
  | zero => rfl
  | succ n ih => rw [cnt_succ, ih (fun i hi => h i (by omega)), h n (by omega)]; rfl
theorem cnt_add (p : Nat → Bool) (n m : Nat) : cnt p (n + m) = cnt p n + cnt (fun i => p (n + i)) m := by
  induction m with
  | zero => rfl
  | succ m ih => rw [← Nat.add_assoc, cnt_succ, ih, cnt_succ]; omega
theorem cnt_front (p : Nat → Bool) (n : Nat) : cnt p (n + 1) = (p 0).toNat + cnt (fun i => p (i + 1)) n := by
  rw [Nat.add_comm n 1, cnt_add, cnt_congr (fun i => p (1 + i)) (fun i => p (i + 1)) n (fun i _ => by rw [Nat.add_comm])]
  simp [cnt]
theorem cnt_rev (n : Nat) : ∀ p : Nat → Bool, cnt (fun i => p (n - 1 - i)) n = cnt p n := by
  induction n with
  | zero => intro p; rfl
  | succ n ih =>
    intro p
    rw [cnt_front, cnt_succ, ← ih p, cnt_congr (fun i => p (n + 1 - 1 - (i + 1))) (fun i => p (n - 1 - i)) n (fun i _ => by congr 1; omega)]
    simp; omega
theorem cnt_wt (x n : Nat) : cnt (fun k => x.testBit k) n = wt x n := by
  induction n with
  | zero => rfl
  | succ n ih =>
    rw [cnt_succ, ih, Nat.toNat_testBit]; rfl
theorem wt_high (x n m : Nat) (h : x < 2 ^ n) : wt x (n + m) = wt x n := by
  rw [← cnt_wt, ← cnt_wt, cnt_add, cnt_none (fun i => x.testBit (n + i)) m (fun i _ => Nat.testBit_lt_two_pow (Nat.lt_of_lt_of_le h (Nat.pow_le_pow_right (by omega) (by omega))))]
  omega

/-- The places that are so, rising. -/
def PT (p : Nat → Bool) (n : Nat) : List Nat := (List.range n).filter p
theorem PT_true {p : Nat → Bool} {n : Nat} (h : p n = true) : PT p (n + 1) = PT p n ++ [n] := by
  unfold PT; rw [List.range_succ, List.filter_append]; simp [h]
theorem PT_false {p : Nat → Bool} {n : Nat} (h : p n = false) : PT p (n + 1) = PT p n := by
  unfold PT; rw [List.range_succ, List.filter_append]; simp [h]
theorem PT_length (p : Nat → Bool) (n : Nat) : (PT p n).length = cnt p n := by
  induction n with
  | zero => rfl
  | succ n ih =>
    cases h : p n
    · rw [PT_false h, ih, cnt_succ, h]; rfl
    · rw [PT_true h, List.length_append, ih, cnt_succ, h]; rfl
theorem PT_skip (p : Nat → Bool) (a d : Nat) (h : ∀ i, a ≤ i → i < a + d → p i = false) : PT p (a + d) = PT p a := by
  induction d with
  | zero => rfl
  | succ d ih => rw [← Nat.add_assoc, PT_false (h (a + d) (by omega) (by omega)), ih (fun i h1 h2 => h i h1 (by omega))]
theorem PT_lt (p : Nat → Bool) (n : Nat) : ∀ x ∈ PT p n, x < n := fun x hx => by
  unfold PT at hx
  exact List.mem_range.1 (List.mem_filter.1 hx).1

/-- The first, the last that is so; -1: none is. -/
def IsFirst (p : Nat → Bool) (n : Nat) (r : Int) : Prop :=
  (r = -1 ∧ ∀ j, j < n → p j = false) ∨ ∃ j : Nat, r = j ∧ j < n ∧ p j = true ∧ ∀ i, i < j → p i = false
def IsLast (p : Nat → Bool) (n : Nat) (r : Int) : Prop :=
  (r = -1 ∧ ∀ j, j < n → p j = false) ∨ ∃ j : Nat, r = j ∧ j < n ∧ p j = true ∧ ∀ i, j < i → i < n → p i = false
theorem IsFirst.one {p : Nat → Bool} {n : Nat} {r s : Int} (h : IsFirst p n r) (k : IsFirst p n s) : r = s := by
  rcases h with ⟨e, h⟩ | ⟨j, e, h1, h2, h3⟩ <;> rcases k with ⟨e', k⟩ | ⟨j', e', k1, k2, k3⟩
  · rw [e, e']
  · rw [h j' k1] at k2; cases k2
  · rw [k j h1] at h2; cases h2
  · rcases Nat.lt_trichotomy j j' with l | l | l
    · rw [k3 j l] at h2; cases h2
    · rw [e, e', l]
    · rw [h3 j' l] at k2; cases k2
theorem IsLast.one {p : Nat → Bool} {n : Nat} {r s : Int} (h : IsLast p n r) (k : IsLast p n s) : r = s := by
  rcases h with ⟨e, h⟩ | ⟨j, e, h1, h2, h3⟩ <;> rcases k with ⟨e', k⟩ | ⟨j', e', k1, k2, k3⟩
  · rw [e, e']
  · rw [h j' k1] at k2; cases k2
  · rw [k j h1] at h2; cases h2
  · rcases Nat.lt_trichotomy j j' with l | l | l
    · rw [h3 j' l k1] at k2; cases k2
    · rw [e, e', l]
    · rw [k3 j l h1] at h2; cases h2
theorem IsFirst.neg {p : Nat → Bool} {n : Nat} {r s : Int} (h : IsFirst p n r) (k : IsLast p n s) : (r < 0 ↔ s < 0) ∧ -1 ≤ r ∧ r < n ∧ -1 ≤ s ∧ s < n ∧ (0 ≤ r → r ≤ s) := by
  rcases h with ⟨e, h⟩ | ⟨j, e, h1, h2, h3⟩ <;> rcases k with ⟨e', k⟩ | ⟨j', e', k1, k2, k3⟩
  · omega
  · rw [h j' k1] at k2; cases k2
  · rw [k j h1] at h2; cases h2
  · have : j ≤ j' := by
      rcases Nat.lt_or_ge j' j with l | l
      · rw [k3 j l h1] at h2; cases h2
      · exact l
    omega
theorem IsFirst.congr {p q : Nat → Bool} {n : Nat} {r : Int} (h : IsFirst p n r) (e : ∀ i, i < n → p i = q i) : IsFirst q n r := by
  rcases h with ⟨e1, h⟩ | ⟨j, e1, h1, h2, h3⟩
  · exact .inl ⟨e1, fun j hj => by rw [← e j hj]; exact h j hj⟩
  · exact .inr ⟨j, e1, h1, by rw [← e j h1]; exact h2, fun i hi => by rw [← e i (by omega)]; exact h3 i hi⟩
theorem IsLast.congr {p q : Nat → Bool} {n : Nat} {r : Int} (h : IsLast p n r) (e : ∀ i, i < n → p i = q i) : IsLast q n r := by
  rcases h with ⟨e1, h⟩ | ⟨j, e1, h1, h2, h3⟩
  · exact .inl ⟨e1, fun j hj => by rw [← e j hj]; exact h j hj⟩
  · exact .inr ⟨j, e1, h1, by rw [← e j h1]; exact h2, fun i hi hn => by rw [← e i hn]; exact h3 i hi hn⟩

/-- What the list of places tells. -/
theorem PT_first (p : Nat → Bool) (n : Nat) : (PT p n = [] ∧ IsFirst p n (-1)) ∨ ∃ j : Nat, (PT p n)[0]? = some j ∧ IsFirst p n j := by
  induction n with
  | zero => exact .inl ⟨rfl, .inl ⟨rfl, fun j hj => by omega⟩⟩
  | succ n ih =>
    rcases ih with ⟨e, h⟩ | ⟨j, e, h⟩
    · rcases h with ⟨_, h⟩ | ⟨j, e', _⟩
      · cases hp : p n
        · exact .inl ⟨by rw [PT_false hp, e], .inl ⟨rfl, fun j hj => by
            by_cases x : j = n
            · rw [x, hp]
            · exact h j (by omega)⟩⟩
        · exact .inr ⟨n, by rw [PT_true hp, e]; rfl, .inr ⟨n, rfl, by omega, hp, h⟩⟩
      · omega
    · rcases h with ⟨e', _⟩ | ⟨j', e', h1, h2, h3⟩
      · omega
      · obtain rfl : j = j' := by omega
        refine .inr ⟨j, ?_, .inr ⟨j, rfl, by omega, h2, h3⟩⟩
        cases hp : p n
        · rw [PT_false hp, e]
        · rw [PT_true hp, List.getElem?_append_left (by
            rcases Nat.eq_zero_or_pos (PT p n).length with z | z
            · rw [List.length_eq_zero_iff] at z; rw [z] at e; cases e
            · exact z), e]
theorem PT_last (p : Nat → Bool) (n : Nat) : (PT p n = [] ∧ IsLast p n (-1)) ∨ ∃ j : Nat, (PT p n)[(PT p n).length - 1]? = some j ∧ IsLast p n j := by
  induction n with
  | zero => exact .inl ⟨rfl, .inl ⟨rfl, fun j hj => by omega⟩⟩
  | succ n ih =>
    cases hp : p n
    · rw [PT_false hp]
      rcases ih with ⟨e, h⟩ | ⟨j, e, h⟩
      · rcases h with ⟨_, h⟩ | ⟨j, e', _⟩
        · exact .inl ⟨e, .inl ⟨rfl, fun j hj => by
            by_cases x : j = n
            · rw [x, hp]
            · exact h j (by omega)⟩⟩
        · omega
      · rcases h with ⟨e', _⟩ | ⟨j', e', h1, h2, h3⟩
        · omega
        · exact .inr ⟨j, e, .inr ⟨j', e', by omega, h2, fun i hi hn => by
            by_cases x : i = n
            · rw [x, hp]
            · exact h3 i hi (by omega)⟩⟩
    · refine .inr ⟨n, ?_, .inr ⟨n, rfl, by omega, hp, fun i h1 h2 => by omega⟩⟩
      rw [PT_true hp, List.length_append, List.getElem?_append_right (by simp)]
      simp

/-- Byte by byte. -/
theorem fb_byte (f : Nat → Nat) (i k : Nat) (h1 : 8 * i ≤ k) (h2 : k < 8 * i + 8) : fb f k = (f i).testBit (7 - (k - 8 * i)) := by
  have := fb_at f i (k - 8 * i) (by omega)
  rw [show 8 * i + (k - 8 * i) = k by omega] at this
  exact this
theorem cnt_byte (f : Nat → Nat) (i : Nat) : cnt (fb f) (8 * (i + 1)) = cnt (fb f) (8 * i) + wt (f i) 8 := by
  rw [Nat.mul_add, cnt_add, ← cnt_wt, ← cnt_rev 8 (fun k => (f i).testBit k)]
  congr 1
  exact cnt_congr _ _ 8 (fun k hk => fb_at f i k hk)
theorem fb_zero {f : Nat → Nat} {i : Nat} (h : f i = 0) (k : Nat) (h1 : 8 * i ≤ k) (h2 : k < 8 * i + 8) : fb f k = false := by
  rw [fb_byte f i k h1 h2, h, Nat.zero_testBit]
theorem bit_top {x : Nat} (h : x ≠ 0) : x.testBit (bl x - 1) = true := by
  rw [bl_pos h, Nat.add_sub_cancel]; exact (deg_log2 h).top
theorem bit_over {x k : Nat} (h : bl x ≤ k) : x.testBit k = false := Nat.testBit_lt_two_pow (Nat.lt_of_lt_of_le (lt_bl x) (Nat.pow_le_pow_right (by omega) h))
/-- The first bit of a byte that isn't 0, in the whole. -/
theorem first_byte {f : Nat → Nat} {i n : Nat} (hi : i < n) (h0 : ∀ j, j < i → f j = 0) (hx : f i ≠ 0) (hb : f i < 256) : IsFirst (fb f) (8 * n) (8 * (i : Int) + (8 - (bl (f i) : Int))) := by
  have hl : bl (f i) ≤ 8 := bl_le (k := 8) hb
  have hp : 0 < bl (f i) := by rw [bl_pos hx]; omega
  refine .inr ⟨8 * i + (8 - bl (f i)), by omega, by omega, ?_, fun k hk => ?_⟩
  · rw [fb_byte f i _ (by omega) (by omega), show 7 - (8 * i + (8 - bl (f i)) - 8 * i) = bl (f i) - 1 by omega]
    exact bit_top hx
  · by_cases hlt : k < 8 * i
    · exact fb_zero (i := k / 8) (h0 (k / 8) (by omega)) k (by omega) (by omega)
    · rw [fb_byte f i k (by omega) (by omega)]
      exact bit_over (by omega)
theorem first_none {f : Nat → Nat} {n : Nat} (h0 : ∀ j, j < n → f j = 0) : IsFirst (fb f) (8 * n) (-1) :=
  .inl ⟨rfl, fun k hk => fb_zero (i := k / 8) (h0 (k / 8) (by omega)) k (by omega) (by omega)⟩
theorem last_none {f : Nat → Nat} {n : Nat} (h0 : ∀ j, j < n → f j = 0) : IsLast (fb f) (8 * n) (-1) :=
  .inl ⟨rfl, fun k hk => fb_zero (i := k / 8) (h0 (k / 8) (by omega)) k (by omega) (by omega)⟩
/-- The last one. -/
theorem last_byte {f : Nat → Nat} {i n t : Nat} (hi : i < n) (h0 : ∀ j, i < j → j < n → f j = 0) (ht : t < 8) (hb : (f i).testBit t = true) (hz : ∀ k, k < t → (f i).testBit k = false) : IsLast (fb f) (8 * n) (8 * (i : Int) + 7 - (t : Int)) := by
  refine .inr ⟨8 * i + (7 - t), by omega, by omega, ?_, fun k hk hn => ?_⟩
  · rw [fb_byte f i _ (by omega) (by omega), show 7 - (8 * i + (7 - t) - 8 * i) = t by omega]
    exact hb
  · by_cases hlt : k < 8 * i + 8
    · rw [fb_byte f i k (by omega) hlt]
      exact hz _ (by omega)
    · exact fb_zero (i := k / 8) (h0 (k / 8) (by omega) (by omega)) k (by omega) (by omega)
/-- The next place in a byte whose first q bits are done. -/
theorem mod_bit (x q k : Nat) (h : k < q) : (x % 2 ^ q).testBit k = x.testBit k := by rw [Nat.testBit_mod_two_pow]; simp [h]
theorem part_next {f : Nat → Nat} {i q y : Nat} (hq : q ≤ 8) (hy : y = f i % 2 ^ (8 - q)) (h0 : y ≠ 0) :
    bl y ≤ 8 - q ∧ 0 < bl y ∧ PT (fb f) (8 * i + (8 - bl y) + 1) = PT (fb f) (8 * i + q) ++ [8 * i + (8 - bl y)] := by
  have hl : bl y ≤ 8 - q := bl_le (by rw [hy]; exact Nat.mod_lt _ (Nat.two_pow_pos _))
  have hp : 0 < bl y := by rw [bl_pos h0]; omega
  refine ⟨hl, hp, ?_⟩
  rw [PT_true]
  · congr 1
    have h := PT_skip (fb f) (8 * i + q) (8 - bl y - q) (fun k h1 h2 => by
      rw [fb_byte f i k (by omega) (by omega), ← mod_bit (f i) (8 - q) _ (by omega), ← hy]
      exact bit_over (by omega))
    rw [← h]
    congr 1; omega
  · rw [fb_byte f i _ (by omega) (by omega), show 7 - (8 * i + (8 - bl y) - 8 * i) = bl y - 1 by omega, ← mod_bit (f i) (8 - q) _ (by omega), ← hy]
    exact bit_top h0
theorem part_end {f : Nat → Nat} {i q : Nat} (hq : q ≤ 8) (hy : f i % 2 ^ (8 - q) = 0) : PT (fb f) (8 * (i + 1)) = PT (fb f) (8 * i + q) := by
  have h := PT_skip (fb f) (8 * i + q) (8 - q) (fun k h1 h2 => by
    rw [fb_byte f i k (by omega) (by omega), ← mod_bit (f i) (8 - q) _ (by omega), hy, Nat.zero_testBit])
  rw [← h]
  congr 1; omega
/-- A byte without its highest 1. -/
theorem drop_top (y : Nat) (h : y ≠ 0) : y - 2 ^ (bl y - 1) = y % 2 ^ (bl y - 1) := by
  have h1 : 2 ^ (bl y - 1) ≤ y := by rw [bl_pos h, Nat.add_sub_cancel]; exact Nat.log2_self_le h
  have h2 : y < 2 ^ (bl y - 1) * 2 := by
    have := lt_bl y
    rw [← Nat.pow_succ, show (bl y - 1).succ = bl y by rw [bl_pos h]; omega]; exact this
  generalize 2 ^ (bl y - 1) = z at *
  rw [Nat.mod_eq_sub_mod h1, Nat.mod_eq_of_lt (by omega)]

/-- Bytes are told by their bits. -/
theorem byte_ext {f g : Nat → Nat} {n : Nat} (hf : ∀ i, i < n → f i < 256) (hg : ∀ i, i < n → g i < 256) (h : ∀ k, k < 8 * n → fb f k = fb g k) : ∀ i, i < n → f i = g i := by
  intro i hi
  apply Nat.eq_of_testBit_eq
  intro k
  by_cases hk : k < 8
  · have := h (8 * i + (7 - k)) (by omega)
    rw [fb_at f i _ (by omega), fb_at g i _ (by omega), show 7 - (7 - k) = k by omega] at this
    exact this
  · have hp : 2 ^ 8 ≤ 2 ^ k := Nat.pow_le_pow_right (by omega) (by omega)
    rw [Nat.testBit_lt_two_pow (Nat.lt_of_lt_of_le (hf i hi) hp), Nat.testBit_lt_two_pow (Nat.lt_of_lt_of_le (hg i hi) hp)]

/-- The first i of the s bits of a word x, laid from the place a on. -/
def ly (a s x i k : Nat) : Bool := decide (a ≤ k ∧ k < a + i) && x.testBit (s - 1 - (k - a))
theorem ly_zero (a s x k : Nat) : ly a s x 0 k = false := by
  unfold ly; rw [decide_eq_false (by omega)]; rfl
theorem ly_succ (a s x i k : Nat) : ly a s x (i + 1) k = (ly a s x i k || (decide (k = a + i) && x.testBit (s - 1 - i))) := by
  unfold ly
  by_cases e : k = a + i
  · subst e
    rw [decide_eq_true (show a ≤ a + i ∧ a + i < a + (i + 1) by omega), decide_eq_false (show ¬ (a ≤ a + i ∧ a + i < a + i) by omega), show a + i - a = i by omega]
    simp
  · rw [decide_eq_false e, Bool.false_and, Bool.or_false]
    congr 1
    rw [decide_eq_decide]; omega
/-- Bit number k laid over. -/
def ol (f : Nat → Nat) (k : Nat) (b : Bool) (q : Nat) : Nat := if q = k / 8 then f (k / 8) ||| b.toNat * 2 ^ (7 - k % 8) else f q
theorem ol_lt {f : Nat → Nat} {n : Nat} (hf : ∀ i, i < n → f i < 256) (k : Nat) (b : Bool) (hk : k / 8 < n) : ∀ i, i < n → ol f k b i < 256 := by
  intro i hi
  unfold ol
  by_cases h : i = k / 8
  · rw [if_pos h]
    refine Nat.or_lt_two_pow (n := 8) (hf _ hk) ?_
    have : 2 ^ (7 - k % 8) < 2 ^ 8 := Nat.pow_lt_pow_right (by omega) (by omega)
    cases b
    · simp
    · simpa using this
  · rw [if_neg h]; exact hf i hi
theorem ol_fb (f : Nat → Nat) (k : Nat) (b : Bool) (n : Nat) : fb (ol f k b) n = (fb f n || (decide (n = k) && b)) := by
  unfold fb ol
  by_cases h : n / 8 = k / 8
  · rw [if_pos h, Nat.testBit_or, h]
    congr 1
    cases b
    · simp
    · rw [Bool.toNat_true, Nat.one_mul, Nat.testBit_two_pow, Bool.and_true, decide_eq_decide]
      omega
  · rw [if_neg h, decide_eq_false (fun e => h (by rw [e])), Bool.false_and, Bool.or_false]
/-- What laid bits look like. -/
theorem ly_first {a x n : Nat} (hx : x ≠ 0) (h : a + bl x ≤ n) : IsFirst (ly a (bl x) x (bl x)) n a := by
  have hp : 0 < bl x := by rw [bl_pos hx]; omega
  refine .inr ⟨a, rfl, by omega, ?_, fun i hi => ?_⟩
  · unfold ly
    rw [decide_eq_true (by omega), Nat.sub_self, Nat.sub_zero, bit_top hx]; rfl
  · unfold ly
    rw [decide_eq_false (by omega)]; rfl
theorem ly_last {a x n low : Nat} (h : a + bl x ≤ n) (hb : x.testBit low = true) (hz : ∀ k, k < low → x.testBit k = false) : low < bl x ∧ IsLast (ly a (bl x) x (bl x)) n ((a : Int) + ((bl x : Int) - 1 - low)) := by
  have hl : low < bl x := by
    rcases Nat.lt_or_ge low (bl x) with l | l
    · exact l
    · rw [bit_over l] at hb; cases hb
  refine ⟨hl, .inr ⟨a + (bl x - 1 - low), by omega, by omega, ?_, fun i h1 h2 => ?_⟩⟩
  · unfold ly
    rw [decide_eq_true (by omega), show bl x - 1 - (a + (bl x - 1 - low) - a) = low by omega, hb]; rfl
  · unfold ly
    by_cases e : i < a + bl x
    · rw [hz _ (by omega), Bool.and_false]
    · rw [decide_eq_false (by omega)]; rfl
theorem ly_cnt {a x n : Nat} (h : a + bl x ≤ n) (hx : x < 4294967296) : cnt (ly a (bl x) x (bl x)) n = wt x 32 := by
  obtain ⟨d, rfl⟩ : ∃ d, n = a + bl x + d := ⟨n - (a + bl x), by omega⟩
  have hl : bl x ≤ 32 := bl_le (k := 32) hx
  obtain ⟨e, he⟩ : ∃ e, 32 = bl x + e := ⟨32 - bl x, by omega⟩
  rw [cnt_add, cnt_add, he, wt_high x (bl x) e (lt_bl x), ← cnt_wt]
  rw [cnt_none (ly a (bl x) x (bl x)) a (fun i hi => by unfold ly; rw [decide_eq_false (by omega)]; rfl)]
  rw [cnt_none _ d (fun i hi => by unfold ly; rw [decide_eq_false (by omega)]; rfl), Nat.zero_add, Nat.add_zero, ← cnt_rev (bl x) (fun k => x.testBit k)]
  exact cnt_congr _ _ _ (fun i hi => by unfold ly; rw [decide_eq_true (by omega), Bool.true_and, show a + i - a = i by omega])
/-- Two bits that lie as one byte and the next. -/
theorem xor_lt8 {a b : Nat} (ha : a < 256) (hb : b < 256) : a ^^^ b < 256 := Nat.xor_lt_two_pow (n := 8) ha hb

end Go.Proofs.Ytohhidnockmkaaa.PM
