/- The check's plain mathematics: the generator, the check of bytes, lists one behind the other, sums, bursts, odd numbers of bits. Nothing of the program is named here. -/
import Derived.Test.YtohhidnockmkaaaMath
namespace Go.Proofs.Ytohhidnockmkaaa.PM

/-- The generator. -/
abbrev g : Nat := 4812730177
theorem degG : Deg g 32 := ⟨by decide, by decide⟩
theorem g_log2 : Nat.log2 4812730177 = 32 := degG.log2

theorem V_xor (f h : Nat → Bool) (n : Nat) : V (fun i => xor (f i) (h i)) n = V f n ^^^ V h n := by
  induction n with
  | zero => simp [V]
  | succ n ih =>
    show 2 * V (fun i => xor (f i) (h i)) n + (xor (f n) (h n)).toNat = (2 * V f n + (f n).toNat) ^^^ (2 * V h n + (h n).toNat)
    rw [ih, dbl_xor _ _ _ _ (by have := Bool.toNat_le (f n); omega) (by have := Bool.toNat_le (h n); omega)]
    congr 1
    cases f n <;> cases h n <;> rfl

/-- A byte's bits are the byte. -/
theorem V_byte (bs : Nat → Nat) (i : Nat) (h : bs i < 256) : V (fun j => fb bs (8 * i + j)) 8 = bs i := by
  have e : ∀ j, j < 8 → fb bs (8 * i + j) = (bs i).testBit (7 - j) := fun j hj => fb_at bs i j hj
  have hx : ∀ z : Fin 256, V (fun j => z.val.testBit (7 - j)) 8 = z.val := by decide +kernel
  rw [V_congr _ (fun j => (bs i).testBit (7 - j)) 8 e]
  exact hx ⟨bs i, h⟩
theorem V_succ8 (bs : Nat → Nat) (i : Nat) (h : bs i < 256) : V (fb bs) (8 * (i + 1)) = C (V (fb bs) (8 * i)) (2 ^ 8) ^^^ bs i := by
  rw [show 8 * (i + 1) = 8 * i + 8 by omega, V_add, V_byte bs i h]
theorem V_bytes_congr (f h : Nat → Nat) (n : Nat) (e : ∀ i, i < n → f i = h i) : V (fb f) (8 * n) = V (fb h) (8 * n) := by
  apply V_congr
  intro i hi
  unfold fb
  rw [e _ (by omega)]
theorem V_bytes_zero (n : Nat) : V (fb fun _ => 0) n = 0 := by
  induction n with
  | zero => rfl
  | succ n ih => show 2 * V (fb fun _ => 0) n + _ = 0
                 rw [ih]; simp [fb]
theorem V_bytes_xor (f h : Nat → Nat) (n : Nat) : V (fb fun i => f i ^^^ h i) n = V (fb f) n ^^^ V (fb h) n := by
  rw [← V_xor]
  apply V_congr
  intro i _
  unfold fb
  rw [Nat.testBit_xor]

/-- The first n of f, then h. -/
def ct (f h : Nat → Nat) (n i : Nat) : Nat := if i < n then f i else h (i - n)
theorem V_ct (f h : Nat → Nat) (n k : Nat) : V (fb (ct f h n)) (8 * (n + k)) = C (V (fb f) (8 * n)) (2 ^ (8 * k)) ^^^ V (fb h) (8 * k) := by
  rw [Nat.mul_add, V_add]
  congr 1
  · congr 1
    apply V_congr
    intro i hi
    unfold fb ct
    rw [if_pos (by omega)]
  · apply V_congr
    intro i hi
    unfold fb ct
    rw [if_neg (by omega), show (8 * n + i) / 8 - n = i / 8 by omega, show (8 * n + i) % 8 = i % 8 by omega]
theorem ct_lt {f h : Nat → Nat} {n k : Nat} (hf : ∀ i, i < n → f i < 256) (hh : ∀ i, i < k → h i < 256) : ∀ i, i < n + k → ct f h n i < 256 := by
  intro i hi
  unfold ct
  by_cases e : i < n
  · rw [if_pos e]; exact hf i e
  · rw [if_neg e]; exact hh _ (by omega)

/-- The check of a polynomial; of n bytes. -/
def E (v : Nat) : Nat := R g 32 (C v (2 ^ 32))
def K (bs : Nat → Nat) (n : Nat) : Nat := E (V (fb bs) (8 * n))
theorem E_lt (v : Nat) : E v < 4294967296 := R_lt degG _
theorem K_lt (bs : Nat → Nat) (n : Nat) : K bs n < 4294967296 := E_lt _
theorem E_xor (a b : Nat) : E (a ^^^ b) = E a ^^^ E b := by unfold E; rw [C_xor_left, R_xor]
theorem E_zero : E 0 = 0 := by unfold E; rw [C_zero_left, R_zero]
theorem K_zero (bs : Nat → Nat) : K bs 0 = 0 := E_zero
theorem K_congr (f h : Nat → Nat) (n : Nat) (e : ∀ i, i < n → f i = h i) : K f n = K h n := by unfold K; rw [V_bytes_congr f h n e]

/-- The remainder by the generator of a word times x. -/
def tx (s : Nat) : Nat := stp g 32 (2 * s)
theorem tx_R (n : Nat) : tx (R g 32 n) = R g 32 (2 * n) := (R_dbl0 g 32 n).symm
theorem tx_lt {s : Nat} (h : s < 4294967296) : tx s < 4294967296 := stp_lt (t := 2 * s) degG (show 2 * s < 2 ^ 33 by omega)
theorem add_top (t : Nat) (h : t < 2 ^ 32) : t + 2 ^ 32 = t ^^^ 2 ^ 32 := by
  apply Nat.eq_of_testBit_eq
  intro i
  rw [Nat.testBit_xor, show t + 2 ^ 32 = 2 ^ 32 * 1 + t by omega, Nat.testBit_two_pow_mul_add _ h, Nat.testBit_two_pow]
  by_cases hi : i < 32
  · simp [hi, show ¬ 32 = i by omega]
  · rw [if_neg hi, Nat.testBit_lt_two_pow (Nat.lt_of_lt_of_le h (Nat.pow_le_pow_right (show 2 > 0 by omega) (show 32 ≤ i by omega)))]
    by_cases e : i = 32
    · subst e; simp
    · rw [Nat.testBit_lt_two_pow (show 1 < 2 ^ (i - 32) from Nat.lt_of_lt_of_le (show 1 < 2 ^ 1 by omega) (Nat.pow_le_pow_right (by omega) (by omega)))]
      simp [show ¬ 32 = i by omega]
theorem tx_hi {s : Nat} (h : s < 4294967296) (hb : 2147483648 ≤ s) : tx s = (2 * s - 4294967296) ^^^ 517762881 := by
  obtain ⟨t, ht⟩ : ∃ t, 2 * s = t + 2 ^ 32 := ⟨2 * s - 2 ^ 32, by omega⟩
  have ht2 : t < 2 ^ 32 := by omega
  have hbit : (2 * s).testBit 32 = true := by
    rw [Nat.testBit_eq_decide_div_mod_eq]
    simp; omega
  unfold tx stp
  rw [if_pos hbit, ht, show t + 2 ^ 32 - 4294967296 = t by omega, add_top t ht2, Nat.xor_assoc]
  congr 1
theorem tx_lo {s : Nat} (hb : s < 2147483648) : tx s = 2 * s := stp_small (show 2 * s < 2 ^ 32 by omega)

/-- k times. -/
def txs : Nat → Nat → Nat
  | 0, s => s
  | k + 1, s => tx (txs k s)
theorem txs_lt {s : Nat} (h : s < 4294967296) (k : Nat) : txs k s < 4294967296 := by
  induction k with
  | zero => exact h
  | succ k ih => exact tx_lt ih
theorem txs_R {s : Nat} (h : s < 4294967296) (k : Nat) : txs k s = R g 32 (C s (2 ^ k)) := by
  induction k with
  | zero => rw [Nat.pow_zero, C_one_right, R_small g 32 s h]; rfl
  | succ k ih => show tx (txs k s) = _
                 rw [ih, tx_R, Nat.pow_succ, Nat.mul_comm (2 ^ k) 2, C_two_right]

/-- A byte more. -/
theorem R_more (v x : Nat) : R g 32 (C (E v ^^^ C x (2 ^ 24)) (2 ^ 8)) = E (C v (2 ^ 8) ^^^ x) := by
  rw [C_xor_left, R_xor, C_assoc, C_pow_pow, E_xor]
  unfold E
  rw [R_C_left degG, C_assoc, C_assoc, C_comm (2 ^ 32)]
theorem K_succ (bs : Nat → Nat) (i : Nat) (h : bs i < 256) : K bs (i + 1) = txs 8 (K bs i ^^^ bs i * 16777216) := by
  have e : bs i * 16777216 = C (bs i) (2 ^ 24) := (C_pow_right (bs i) 24).symm
  have hl : K bs i ^^^ bs i * 16777216 < 4294967296 := Nat.xor_lt_two_pow (n := 32) (K_lt bs i) (by omega)
  rw [txs_R hl, e]
  unfold K
  rw [R_more, V_succ8 bs i h]
/-- By table: the upper byte and the new one looked up. -/
theorem E_byte (s x : Nat) : R g 32 (C (s ^^^ x * 16777216) (2 ^ 8)) = (s % 16777216 * 256) ^^^ E (s / 16777216 ^^^ x) := by
  have e : s ^^^ x * 16777216 = s % 16777216 ^^^ (s / 16777216 ^^^ x) * 16777216 := by
    have h1 : s = s % 2 ^ 24 ^^^ (s / 2 ^ 24) * 2 ^ 24 := by
      apply Nat.eq_of_testBit_eq
      intro i
      rw [Nat.testBit_xor, Nat.testBit_mod_two_pow, Nat.mul_comm, Nat.testBit_two_pow_mul, Nat.testBit_div_two_pow]
      by_cases hi : i < 24
      · simp [hi, show ¬ 24 ≤ i by omega]
      · simp [hi, show 24 ≤ i by omega, show i - 24 + 24 = i by omega]
    have h2 : (s / 2 ^ 24 ^^^ x) * 2 ^ 24 = s / 2 ^ 24 * 2 ^ 24 ^^^ x * 2 ^ 24 := by
      rw [← Nat.shiftLeft_eq, ← Nat.shiftLeft_eq, ← Nat.shiftLeft_eq, Nat.shiftLeft_xor_distrib]
    show s ^^^ x * 2 ^ 24 = s % 2 ^ 24 ^^^ (s / 2 ^ 24 ^^^ x) * 2 ^ 24
    rw [h2, ← Nat.xor_assoc, ← h1]
  rw [e, show (s / 16777216 ^^^ x) * 16777216 = C (s / 16777216 ^^^ x) (2 ^ 24) from (C_pow_right _ 24).symm, C_xor_left, R_xor, C_assoc, C_pow_pow]
  unfold E
  congr 1
  rw [C_pow_right]
  exact R_small g 32 _ (by omega)
theorem K_table (bs : Nat → Nat) (i : Nat) (h : bs i < 256) : K bs (i + 1) = (K bs i % 16777216 * 256) ^^^ E (K bs i / 16777216 ^^^ bs i) := by
  have hl : K bs i ^^^ bs i * 16777216 < 4294967296 := Nat.xor_lt_two_pow (n := 32) (K_lt bs i) (by omega)
  rw [K_succ bs i h, txs_R hl, E_byte]

/-- One behind the other. -/
theorem K_ct (f h : Nat → Nat) (n k : Nat) : K (ct f h n) (n + k) = R g 32 (C (K f n) (2 ^ (8 * k))) ^^^ K h k := by
  unfold K
  rw [V_ct, E_xor]
  congr 1
  unfold E
  rw [R_C_left degG, C_assoc, C_assoc, C_comm (2 ^ 32)]

/-- The four bytes of a word, highest first. -/
def w4 (s i : Nat) : Nat := if i = 0 then s / 16777216 % 256 else if i = 1 then s / 65536 % 256 else if i = 2 then s / 256 % 256 else s % 256
theorem w4_lt (s i : Nat) : w4 s i < 256 := by
  unfold w4
  by_cases h0 : i = 0
  · rw [if_pos h0]; omega
  · rw [if_neg h0]
    by_cases h1 : i = 1
    · rw [if_pos h1]; omega
    · rw [if_neg h1]
      by_cases h2 : i = 2
      · rw [if_pos h2]; omega
      · rw [if_neg h2]; omega
theorem V4 (f : Nat → Nat) (hf : ∀ i, i < 4 → f i < 256) : V (fb f) 32 = f 0 * 16777216 + f 1 * 65536 + f 2 * 256 + f 3 := by
  have s1 : ∀ a b, b < 256 → C a (2 ^ 8) ^^^ b = a * 256 + b := by
    intro a b hb
    rw [C_pow_right]
    apply Nat.eq_of_testBit_eq
    intro i
    rw [show a * 256 + b = 2 ^ 8 * a + b by omega, Nat.testBit_two_pow_mul_add _ (show b < 2 ^ 8 from hb), Nat.mul_comm a, Nat.testBit_xor, Nat.testBit_two_pow_mul]
    by_cases hi : i < 8
    · simp [hi, show ¬ 8 ≤ i by omega]
    · simp [hi, show 8 ≤ i by omega, Nat.testBit_lt_two_pow (Nat.lt_of_lt_of_le (show b < 2 ^ 8 from hb) (Nat.pow_le_pow_right (show 2 > 0 by omega) (show 8 ≤ i by omega)))]
  have h0 := V_succ8 f 0 (hf 0 (by omega))
  have h1 := V_succ8 f 1 (hf 1 (by omega))
  have h2 := V_succ8 f 2 (hf 2 (by omega))
  have h3 := V_succ8 f 3 (hf 3 (by omega))
  rw [s1 _ _ (hf 0 (by omega))] at h0
  rw [s1 _ _ (hf 1 (by omega))] at h1
  rw [s1 _ _ (hf 2 (by omega))] at h2
  rw [s1 _ _ (hf 3 (by omega))] at h3
  have e0 : V (fb f) (8 * 0) = 0 := rfl
  rw [e0] at h0
  simp only [Nat.zero_add, Nat.reduceAdd, Nat.reduceMul, Nat.zero_mul] at h0 h1 h2 h3
  rw [h3, h2, h1, h0]
  clear h0 h1 h2 h3 e0 s1
  generalize f 0 = a; generalize f 1 = b; generalize f 2 = c; generalize f 3 = d
  omega
theorem V_w4 (s : Nat) (hs : s < 4294967296) : V (fb (w4 s)) 32 = s := by
  rw [V4 _ (fun i _ => w4_lt s i), show w4 s 0 = s / 16777216 % 256 from rfl, show w4 s 1 = s / 65536 % 256 from rfl, show w4 s 2 = s / 256 % 256 from rfl, show w4 s 3 = s % 256 from rfl]
  omega

/-- Sealed. -/
def sl (bs : Nat → Nat) (n : Nat) : Nat → Nat := ct bs (w4 (K bs n)) n
theorem V_sl (bs : Nat → Nat) (n : Nat) : R g 32 (V (fb (sl bs n)) (8 * (n + 4))) = 0 := by
  unfold sl
  rw [V_ct, show 8 * 4 = 32 from rfl, V_w4 _ (K_lt bs n), R_xor, R_small g 32 (K bs n) (K_lt bs n)]
  exact Nat.xor_self _
/-- The last four bytes are the check just if the generator divides. -/
theorem valid_iff (bs : Nat → Nat) (n : Nat) (h : ∀ i, i < n + 4 → bs i < 256) :
    bs n * 16777216 + bs (n + 1) * 65536 + bs (n + 2) * 256 + bs (n + 3) = K bs n ↔ R g 32 (V (fb bs) (8 * (n + 4))) = 0 := by
  have hw := V4 (fun i => bs (n + i)) (fun i hi => h _ (by omega))
  have e : V (fb bs) (8 * (n + 4)) = C (V (fb bs) (8 * n)) (2 ^ 32) ^^^ V (fb fun i => bs (n + i)) 32 := by
    rw [show 8 * (n + 4) = 8 * n + 32 by omega, V_add]
    congr 1
    apply V_congr
    intro i _
    unfold fb
    rw [show (8 * n + i) / 8 = n + i / 8 by omega, show (8 * n + i) % 8 = i % 8 by omega]
  rw [e, R_xor, hw]
  simp only [Nat.add_zero]
  rw [R_small g 32 (bs n * 16777216 + bs (n + 1) * 65536 + bs (n + 2) * 256 + bs (n + 3)) (by have := h n (by omega); have := h (n + 1) (by omega); have := h (n + 2) (by omega); have := h (n + 3) (by omega); omega)]
  show _ = K bs n ↔ K bs n ^^^ _ = 0
  constructor
  · intro h; rw [h]; exact Nat.xor_self _
  · intro h; exact (xor_eq_zero h).symm

theorem K_of_R (bs : Nat → Nat) (n : Nat) (h : R g 32 (V (fb bs) (8 * n)) = 0) : K bs n = 0 := by
  unfold K E
  rw [← R_C_left degG, h, C_zero_left, R_zero]

/-- x divides nothing off the generator. -/
theorem R_half (n : Nat) (h : R g 32 (2 * n) = 0) : R g 32 n = 0 := by
  rw [R_dbl0] at h
  have hr := R_lt degG n
  generalize R g 32 n = r at *
  unfold stp at h
  split at h
  · have e := xor_eq_zero h
    have : (2 * r) % 2 = 4812730177 % 2 := by rw [e]
    omega
  · omega
theorem R_shift (n k : Nat) (h : R g 32 (C n (2 ^ k)) = 0) : R g 32 n = 0 := by
  induction k with
  | zero => rwa [Nat.pow_zero, C_one_right] at h
  | succ k ih => rw [Nat.pow_succ, Nat.mul_comm (2 ^ k) 2, C_two_right] at h
                 exact ih (R_half _ h)
theorem burst (n k : Nat) (hn : n < 4294967296) (h : R g 32 (C n (2 ^ k)) = 0) : n = 0 := by
  have := R_shift n k h
  rwa [R_small g 32 n hn] at this

/-- What divides the divisor. -/
theorem rm_thru {m d : Nat} (hm : Deg m d) (h : R m d g = 0) (k : Nat) : ∀ n, R m d (rm g 32 k n) = R m d (rm m d k n) := by
  induction k with
  | zero => intro n; rfl
  | succ k ih =>
    intro n
    have key : ∀ t, R m d (stp g 32 t) = R m d t := by
      intro t
      unfold stp
      split
      · rw [R_xor, h, Nat.xor_zero]
      · rfl
    show R m d (stp g 32 (2 * rm g 32 k (n / 2) + n % 2)) = R m d (stp m d (2 * rm m d k (n / 2) + n % 2))
    rw [key, R_dbl m d _ _ (by omega), ih, R_R_aux hm k (n / 2)]
    rw [R_small m d (stp m d (2 * rm m d k (n / 2) + n % 2)) (stp_lt hm (by have := rm_lt hm k (n / 2); rw [Nat.pow_succ]; omega))]
where
  R_R_aux {m d : Nat} (hm : Deg m d) (k n : Nat) : R m d (rm m d k n) = rm m d k n := R_small m d _ (rm_lt hm k n)
theorem R3_g : R 3 1 g = 0 := by
  rw [R3 g 33 (by decide)]
  decide +kernel
theorem odd_seen (n k : Nat) (hk : n < 2 ^ k) (h : R g 32 n = 0) : wt n k % 2 = 0 := by
  have h1 := rm_thru deg3 R3_g n n
  rw [show rm g 32 n n = R g 32 n from rfl, h, R_zero, show rm 3 1 n n = R 3 1 n from rfl, R_R deg3, R3 n k hk] at h1
  exact h1.symm

end Go.Proofs.Ytohhidnockmkaaa.PM
namespace Go.Proofs.Ytohhidnockmkaaa.PM
/-- The check, byte by byte: for numbers. -/
def Kr (bs : Nat → Nat) : Nat → Nat
  | 0 => 0
  | i + 1 => txs 8 (Kr bs i ^^^ bs i * 16777216)
theorem K_Kr (bs : Nat → Nat) (n : Nat) (h : ∀ i, i < n → bs i < 256) : K bs n = Kr bs n := by
  induction n with
  | zero => exact K_zero bs
  | succ n ih => rw [K_succ bs n (h n (by omega)), ih (fun i hi => h i (by omega))]; rfl
/-- x to the bits of n bytes. -/
theorem sq3 (n : Nat) : ∀ k, R g 32 (C (R g 32 (2 ^ (n * 2 ^ k))) (R g 32 (2 ^ (n * 2 ^ k)))) = R g 32 (2 ^ (n * 2 ^ (k + 1))) := by
  intro k
  rw [R_pow_add degG, Nat.pow_succ, ← Nat.mul_assoc]
  congr 2
  omega
end Go.Proofs.Ytohhidnockmkaaa.PM
