/- Plain mathematics of polynomials over two elements as natural numbers (bit i: the coefficient of x to the i): carryless products, remainders, quotients, common divisors. Nothing of the program is named here. -/
namespace Go.Proofs.Ytohhidnockmkaaa.PM

theorem xor_cancel (a b : Nat) : a ^^^ b ^^^ b = a := by rw [Nat.xor_assoc, Nat.xor_self, Nat.xor_zero]
theorem xor_cancel_left (a b : Nat) : a ^^^ (a ^^^ b) = b := by rw [← Nat.xor_assoc, Nat.xor_self, Nat.zero_xor]
theorem xor_four (a b c d : Nat) : (a ^^^ b) ^^^ (c ^^^ d) = (a ^^^ c) ^^^ (b ^^^ d) := by
  rw [Nat.xor_assoc, Nat.xor_assoc, ← Nat.xor_assoc b c d, Nat.xor_comm b c, Nat.xor_assoc c b d]
theorem xor_eq_zero {a b : Nat} (h : a ^^^ b = 0) : a = b := by
  have := xor_cancel a b; rw [h, Nat.zero_xor] at this; exact this.symm

theorem two_mul_xor (a b : Nat) : 2 * (a ^^^ b) = 2 * a ^^^ 2 * b := by
  have := @Nat.shiftLeft_xor_distrib 1 a b
  simpa [Nat.shiftLeft_eq, Nat.mul_comm] using this

theorem dbl_add (a x : Nat) (hx : x < 2) : 2 * a + x = 2 * a ^^^ x := by
  apply Nat.eq_of_testBit_eq
  intro i
  cases i with
  | zero =>
    rw [Nat.testBit_xor]
    simp only [Nat.testBit_zero]
    have h1 : (2 * a + x) % 2 = x := by omega
    have h2 : (2 * a) % 2 = 0 := by omega
    have h3 : x % 2 = x := by omega
    rw [h1, h2, h3]; simp
  | succ i =>
    rw [Nat.testBit_xor, Nat.testBit_succ, Nat.testBit_succ, Nat.testBit_succ]
    have h1 : (2 * a + x) / 2 = a := by omega
    have h2 : (2 * a) / 2 = a := by omega
    have h3 : x / 2 = 0 := by omega
    rw [h1, h2, h3]; simp

theorem lt_two_xor {x y : Nat} (hx : x < 2) (hy : y < 2) : x ^^^ y < 2 := @Nat.xor_lt_two_pow x y 1 hx hy

theorem dbl_xor (a b x y : Nat) (hx : x < 2) (hy : y < 2) : (2 * a + x) ^^^ (2 * b + y) = 2 * (a ^^^ b) + (x ^^^ y) := by
  rw [dbl_add a x hx, dbl_add b y hy, dbl_add (a ^^^ b) _ (lt_two_xor hx hy), two_mul_xor, xor_four]

theorem xor_mod2 (a b : Nat) : (a ^^^ b) % 2 = (a % 2 ^^^ b % 2) := by
  have := dbl_xor (a / 2) (b / 2) (a % 2) (b % 2) (by omega) (by omega)
  have h1 : 2 * (a / 2) + a % 2 = a := by omega
  have h2 : 2 * (b / 2) + b % 2 = b := by omega
  rw [h1, h2] at this
  have := lt_two_xor (x := a % 2) (y := b % 2) (by omega) (by omega)
  omega

/-- One step of a reduction: the modulus m of degree d is taken off where the word has x to the d. -/
def stp (m d t : Nat) : Nat := if t.testBit d then t ^^^ m else t

theorem stp_zero (m d : Nat) : stp m d 0 = 0 := by simp [stp]

theorem stp_xor (m d s t : Nat) : stp m d (s ^^^ t) = stp m d s ^^^ stp m d t := by
  unfold stp
  rw [Nat.testBit_xor]
  cases s.testBit d <;> cases t.testBit d <;> simp
  · exact Nat.xor_assoc _ _ _
  · rw [Nat.xor_assoc, Nat.xor_comm t m, ← Nat.xor_assoc]
  · rw [xor_four, Nat.xor_self, Nat.xor_zero]

theorem lt_of_bits {x n : Nat} (h : x < 2 ^ (n + 1)) (hb : x.testBit n = false) : x < 2 ^ n := by
  apply Nat.lt_pow_two_of_testBit
  intro i hi
  by_cases e : i = n
  · subst e; exact hb
  · exact Nat.testBit_lt_two_pow (Nat.lt_of_lt_of_le h (Nat.pow_le_pow_right (by omega) (by omega)))

structure Deg (m d : Nat) : Prop where
  lt : m < 2 ^ (d + 1)
  top : m.testBit d = true

theorem Deg.pos {m d : Nat} (h : Deg m d) : m ≠ 0 := by
  intro e; have := h.top; rw [e] at this; simp at this

theorem Deg.le {m d : Nat} (h : Deg m d) : 2 ^ d ≤ m := Nat.ge_two_pow_of_testBit h.top

theorem deg_log2 {m : Nat} (h : m ≠ 0) : Deg m m.log2 := by
  have h1 := Nat.log2_self_le h
  have h2 := @Nat.lt_log2_self m
  refine ⟨h2, ?_⟩
  cases hb : m.testBit m.log2
  · exact absurd (lt_of_bits h2 hb) (by omega)
  · rfl

theorem Deg.log2 {m d : Nat} (h : Deg m d) : m.log2 = d := (Nat.log2_eq_iff h.pos).2 ⟨h.le, h.lt⟩

theorem stp_lt {m d t : Nat} (hm : Deg m d) (ht : t < 2 ^ (d + 1)) : stp m d t < 2 ^ d := by
  unfold stp
  split
  · rename_i h
    apply lt_of_bits (Nat.xor_lt_two_pow ht hm.lt)
    rw [Nat.testBit_xor, h, hm.top]; rfl
  · rename_i h
    exact lt_of_bits ht (by simpa using h)

theorem stp_small {m d t : Nat} (ht : t < 2 ^ d) : stp m d t = t := by
  unfold stp; rw [Nat.testBit_lt_two_pow ht]; rfl

/-- The remainder, with k bits looked at. -/
def rm (m d : Nat) : Nat → Nat → Nat
  | 0, _ => 0
  | k + 1, n => stp m d (2 * rm m d k (n / 2) + n % 2)

/-- The remainder of n by m, whose degree is d. -/
def R (m d n : Nat) : Nat := rm m d n n

theorem rm_zero (m d k : Nat) : rm m d k 0 = 0 := by
  induction k with
  | zero => rfl
  | succ k ih => simp [rm, ih, stp_zero]

theorem rm_lt {m d : Nat} (hm : Deg m d) (k n : Nat) : rm m d k n < 2 ^ d := by
  cases k with
  | zero => exact Nat.two_pow_pos d
  | succ k =>
    refine stp_lt hm ?_
    have := rm_lt hm k (n / 2)
    rw [Nat.pow_succ]; omega

theorem rm_succ (m d : Nat) (k : Nat) : ∀ n, n < 2 ^ k → rm m d (k + 1) n = rm m d k n := by
  induction k with
  | zero => intro n hn; have : n = 0 := by omega
            subst this; simp [rm, stp_zero]
  | succ k ih =>
    intro n hn
    show stp m d (2 * rm m d (k + 1) (n / 2) + n % 2) = stp m d (2 * rm m d k (n / 2) + n % 2)
    rw [ih (n / 2) (by rw [Nat.pow_succ] at hn; omega)]

theorem rm_stable (m d k n : Nat) (hn : n < 2 ^ k) (j : Nat) : rm m d (k + j) n = rm m d k n := by
  induction j with
  | zero => rfl
  | succ j ih =>
    rw [← Nat.add_assoc, rm_succ m d (k + j) n (Nat.lt_of_lt_of_le hn (Nat.pow_le_pow_right (by omega) (by omega))), ih]

theorem lt_pow_self (n : Nat) : n < 2 ^ n := Nat.lt_two_pow_self

theorem rm_eq_R (m d k n : Nat) (hn : n < 2 ^ k) : rm m d k n = R m d n := by
  unfold R
  rcases Nat.le_total k n with h | h
  · obtain ⟨j, rfl⟩ := Nat.exists_eq_add_of_le h
    exact (rm_stable m d k _ hn j).symm
  · obtain ⟨j, rfl⟩ := Nat.exists_eq_add_of_le h
    exact rm_stable m d n n (lt_pow_self n) j

theorem R_lt {m d : Nat} (hm : Deg m d) (n : Nat) : R m d n < 2 ^ d := rm_lt hm n n
theorem R_zero (m d : Nat) : R m d 0 = 0 := rfl

theorem R_dbl (m d n b : Nat) (hb : b < 2) : R m d (2 * n + b) = stp m d (2 * R m d n + b) := by
  have h1 : 2 * n + b < 2 ^ (n + 1) := by
    have := lt_pow_self n; rw [Nat.pow_succ]; omega
  rw [← rm_eq_R m d (n + 1) _ h1]
  show stp m d (2 * rm m d n ((2 * n + b) / 2) + (2 * n + b) % 2) = _
  have e1 : (2 * n + b) / 2 = n := by omega
  have e2 : (2 * n + b) % 2 = b := by omega
  rw [e1, e2]; rfl

theorem R_dbl0 (m d n : Nat) : R m d (2 * n) = stp m d (2 * R m d n) := R_dbl m d n 0 (by omega)

theorem rm_xor (m d : Nat) (k : Nat) : ∀ a b, rm m d k (a ^^^ b) = rm m d k a ^^^ rm m d k b := by
  induction k with
  | zero => intro a b; simp [rm]
  | succ k ih =>
    intro a b
    show stp m d (2 * rm m d k ((a ^^^ b) / 2) + (a ^^^ b) % 2) = _
    rw [Nat.xor_div_two, xor_mod2, ih, ← dbl_xor _ _ _ _ (by omega) (by omega), stp_xor]
    rfl

theorem R_xor (m d a b : Nat) : R m d (a ^^^ b) = R m d a ^^^ R m d b := by
  have ha : a < 2 ^ (a + b) := Nat.lt_of_lt_of_le (lt_pow_self a) (Nat.pow_le_pow_right (by omega) (by omega))
  have hb : b < 2 ^ (a + b) := Nat.lt_of_lt_of_le (lt_pow_self b) (Nat.pow_le_pow_right (by omega) (by omega))
  rw [← rm_eq_R m d _ _ (Nat.xor_lt_two_pow ha hb), rm_xor, rm_eq_R m d _ _ ha, rm_eq_R m d _ _ hb]

theorem rm_small (m d : Nat) (k : Nat) : ∀ n, n < 2 ^ d → n < 2 ^ k → rm m d k n = n := by
  induction k with
  | zero => intro n _ hn; have : n = 0 := by omega
            subst this; rfl
  | succ k ih =>
    intro n hd hn
    show stp m d (2 * rm m d k (n / 2) + n % 2) = n
    rw [ih (n / 2) (by omega) (by rw [Nat.pow_succ] at hn; omega)]
    have e : 2 * (n / 2) + n % 2 = n := by omega
    rw [e, stp_small hd]

theorem R_small (m d n : Nat) (h : n < 2 ^ d) : R m d n = n := rm_small m d n n h (lt_pow_self n)
theorem R_R {m d : Nat} (hm : Deg m d) (n : Nat) : R m d (R m d n) = R m d n := R_small m d _ (R_lt hm n)

theorem R_self {m d : Nat} (hm : Deg m d) : R m d m = 0 := by
  have e : 2 * (m / 2) + m % 2 = m := by omega
  have h := R_dbl m d (m / 2) (m % 2) (by omega)
  have hl := hm.lt
  rw [R_small m d (m / 2) (by rw [Nat.pow_succ] at hl; omega), e] at h
  rw [h]; unfold stp; rw [hm.top]; simp

/-- The product without carry: the places of b from 0 to k - 1. -/
def cl (a b : Nat) : Nat → Nat
  | 0 => 0
  | k + 1 => cl a b k ^^^ (if b.testBit k then a <<< k else 0)

/-- The product without carry. -/
def C (a b : Nat) : Nat := cl a b b

theorem cl_stable (a b k : Nat) (hb : b < 2 ^ k) (j : Nat) : cl a b (k + j) = cl a b k := by
  induction j with
  | zero => rfl
  | succ j ih =>
    show cl a b (k + j) ^^^ (if b.testBit (k + j) then a <<< (k + j) else 0) = _
    rw [Nat.testBit_lt_two_pow (Nat.lt_of_lt_of_le hb (Nat.pow_le_pow_right (by omega) (by omega))), ih]
    simp

theorem cl_eq_C (a b k : Nat) (hb : b < 2 ^ k) : cl a b k = C a b := by
  unfold C
  rcases Nat.le_total k b with h | h
  · obtain ⟨j, e⟩ := Nat.exists_eq_add_of_le h
    rw [e]; rw [e] at hb
    exact (cl_stable a _ k hb j).symm
  · obtain ⟨j, rfl⟩ := Nat.exists_eq_add_of_le h
    exact cl_stable a b b (lt_pow_self b) j

theorem C_zero (a : Nat) : C a 0 = 0 := rfl

theorem cl_zero_left (b k : Nat) : cl 0 b k = 0 := by
  induction k with
  | zero => rfl
  | succ k ih => simp [cl, ih]
theorem C_zero_left (b : Nat) : C 0 b = 0 := cl_zero_left b b

theorem cl_xor_left (a c b k : Nat) : cl (a ^^^ c) b k = cl a b k ^^^ cl c b k := by
  induction k with
  | zero => simp [cl]
  | succ k ih =>
    show cl (a ^^^ c) b k ^^^ _ = (cl a b k ^^^ _) ^^^ (cl c b k ^^^ _)
    rw [ih]
    cases b.testBit k
    · simp
    · simp [Nat.shiftLeft_xor_distrib]; rw [xor_four]
theorem C_xor_left (a c b : Nat) : C (a ^^^ c) b = C a b ^^^ C c b := cl_xor_left a c b b

theorem cl_xor_right (a b c k : Nat) : cl a (b ^^^ c) k = cl a b k ^^^ cl a c k := by
  induction k with
  | zero => simp [cl]
  | succ k ih =>
    show cl a (b ^^^ c) k ^^^ _ = (cl a b k ^^^ _) ^^^ (cl a c k ^^^ _)
    rw [ih, Nat.testBit_xor]
    cases b.testBit k <;> cases c.testBit k
    · simp
    · simp [Nat.xor_assoc]
    · simp; rw [Nat.xor_assoc, Nat.xor_assoc, Nat.xor_comm (a <<< k)]
    · simp; rw [xor_four, Nat.xor_self, Nat.xor_zero]
theorem C_xor_right (a b c : Nat) : C a (b ^^^ c) = C a b ^^^ C a c := by
  have hb : b < 2 ^ (b + c) := Nat.lt_of_lt_of_le (lt_pow_self b) (Nat.pow_le_pow_right (by omega) (by omega))
  have hc : c < 2 ^ (b + c) := Nat.lt_of_lt_of_le (lt_pow_self c) (Nat.pow_le_pow_right (by omega) (by omega))
  rw [← cl_eq_C a _ _ (Nat.xor_lt_two_pow hb hc), cl_xor_right, cl_eq_C a _ _ hb, cl_eq_C a _ _ hc]

theorem shl_two (a k : Nat) : (2 * a) <<< k = 2 * (a <<< k) := by
  rw [Nat.shiftLeft_eq, Nat.shiftLeft_eq, Nat.mul_assoc]
theorem shl_succ (a k : Nat) : a <<< (k + 1) = 2 * (a <<< k) := by
  rw [Nat.shiftLeft_eq, Nat.shiftLeft_eq, Nat.pow_succ, ← Nat.mul_assoc, Nat.mul_comm]

theorem cl_two_left (a b k : Nat) : cl (2 * a) b k = 2 * cl a b k := by
  induction k with
  | zero => rfl
  | succ k ih =>
    show cl (2 * a) b k ^^^ _ = 2 * (cl a b k ^^^ _)
    rw [ih, two_mul_xor]
    cases b.testBit k <;> simp [shl_two]
theorem C_two_left (a b : Nat) : C (2 * a) b = 2 * C a b := cl_two_left a b b

theorem cl_two_right (a b k : Nat) : cl a (2 * b) (k + 1) = 2 * cl a b k := by
  induction k with
  | zero =>
    show cl a (2 * b) 0 ^^^ _ = 0
    have : (2 * b).testBit 0 = false := by simp
    rw [this]; simp [cl]
  | succ k ih =>
    show cl a (2 * b) (k + 1) ^^^ (if (2 * b).testBit (k + 1) then a <<< (k + 1) else 0) = 2 * (cl a b k ^^^ _)
    have e : (2 * b).testBit (k + 1) = b.testBit k := by
      rw [Nat.testBit_succ]; congr 1; omega
    rw [ih, two_mul_xor, e]
    cases b.testBit k <;> simp [shl_succ]
theorem C_two_right (a b : Nat) : C a (2 * b) = 2 * C a b := by
  have h : 2 * b < 2 ^ (b + 1) := by have := lt_pow_self b; rw [Nat.pow_succ]; omega
  rw [← cl_eq_C a _ _ h, cl_two_right]; rfl

theorem C_one_right (a : Nat) : C a 1 = a := by
  show cl a 1 0 ^^^ _ = a
  have : (1 : Nat).testBit 0 = true := rfl
  rw [this]; simp [cl]

theorem C_bit (a b : Nat) (h : b < 2) : C a b = if b = 1 then a else 0 := by
  have : b = 0 ∨ b = 1 := by omega
  rcases this with rfl | rfl
  · rfl
  · rw [C_one_right]; rfl

theorem C_dbl (a b x : Nat) (hx : x < 2) : C a (2 * b + x) = 2 * C a b ^^^ (if x = 1 then a else 0) := by
  rw [dbl_add b x hx, C_xor_right, C_two_right, C_bit a x hx]

theorem C_one_left_aux (k : Nat) : ∀ b, b < 2 ^ k → C 1 b = b := by
  induction k with
  | zero => intro b hb; have : b = 0 := by omega
            subst this; rfl
  | succ k ih =>
    intro b hb
    have e : 2 * (b / 2) + b % 2 = b := by omega
    rw [← e, C_dbl 1 _ _ (by omega), ih (b / 2) (by rw [Nat.pow_succ] at hb; omega), dbl_add _ _ (by omega)]
    congr 1
    split <;> omega
theorem C_one_left (b : Nat) : C 1 b = b := C_one_left_aux b b (lt_pow_self b)

theorem C_bit_left (a b : Nat) (h : a < 2) : C a b = if a = 1 then b else 0 := by
  have : a = 0 ∨ a = 1 := by omega
  rcases this with rfl | rfl
  · rw [C_zero_left]; rfl
  · rw [C_one_left]; rfl

theorem C_comm_aux (k : Nat) : ∀ a b, b < 2 ^ k → C a b = C b a := by
  induction k with
  | zero => intro a b hb; have : b = 0 := by omega
            subst this; rw [C_zero, C_zero_left]
  | succ k ih =>
    intro a b hb
    have e : 2 * (b / 2) + b % 2 = b := by omega
    rw [← e, C_dbl a _ _ (by omega), dbl_add _ _ (by omega), C_xor_left, C_two_left, C_bit_left (b % 2) a (by omega), ih a (b / 2) (by rw [Nat.pow_succ] at hb; omega)]
theorem C_comm (a b : Nat) : C a b = C b a := C_comm_aux b a b (lt_pow_self b)

theorem C_assoc_aux (k : Nat) : ∀ a b c, c < 2 ^ k → C (C a b) c = C a (C b c) := by
  induction k with
  | zero => intro a b c hc; have : c = 0 := by omega
            subst this; rfl
  | succ k ih =>
    intro a b c hc
    have e : 2 * (c / 2) + c % 2 = c := by omega
    rw [← e, C_dbl _ _ _ (by omega), C_dbl _ _ _ (by omega), C_xor_right, C_two_right, ih a b (c / 2) (by rw [Nat.pow_succ] at hc; omega)]
    congr 1
    split <;> rfl
theorem C_assoc (a b c : Nat) : C (C a b) c = C a (C b c) := C_assoc_aux c a b c (lt_pow_self c)

theorem C_pow_right (a k : Nat) : C a (2 ^ k) = a * 2 ^ k := by
  induction k with
  | zero => simp [C_one_right]
  | succ k ih => rw [Nat.pow_succ, Nat.mul_comm (2 ^ k) 2, C_two_right, ih]; rw [Nat.mul_left_comm]

theorem C_pow_pow (a b : Nat) : C (2 ^ a) (2 ^ b) = 2 ^ (a + b) := by rw [C_pow_right, Nat.pow_add]

/-- The product's remainder hangs on the first factor's remainder alone. -/
theorem R_C_dbl (m d a b x : Nat) (hx : x < 2) : R m d (C a (2 * b + x)) = stp m d (2 * R m d (C a b)) ^^^ (if x = 1 then R m d a else 0) := by
  rw [C_dbl a b x hx, R_xor, R_dbl0]
  congr 1
  split
  · rfl
  · rfl

theorem R_C_left_aux {m d : Nat} (hm : Deg m d) (k : Nat) : ∀ a b, b < 2 ^ k → R m d (C (R m d a) b) = R m d (C a b) := by
  induction k with
  | zero => intro a b hb; have : b = 0 := by omega
            subst this; rfl
  | succ k ih =>
    intro a b hb
    have e : 2 * (b / 2) + b % 2 = b := by omega
    rw [← e, R_C_dbl m d _ _ _ (by omega), R_C_dbl m d _ _ _ (by omega), ih a (b / 2) (by rw [Nat.pow_succ] at hb; omega), R_R hm]
theorem R_C_left {m d : Nat} (hm : Deg m d) (a b : Nat) : R m d (C (R m d a) b) = R m d (C a b) := R_C_left_aux hm b a b (lt_pow_self b)
theorem R_C_right {m d : Nat} (hm : Deg m d) (a b : Nat) : R m d (C a (R m d b)) = R m d (C a b) := by
  rw [C_comm, R_C_left hm, C_comm]
theorem R_C_both {m d : Nat} (hm : Deg m d) (a b : Nat) : R m d (C (R m d a) (R m d b)) = R m d (C a b) := by
  rw [R_C_left hm, R_C_right hm]
theorem R_C_self {m d : Nat} (hm : Deg m d) (b : Nat) : R m d (C m b) = 0 := by
  rw [← R_C_left hm, R_self hm, C_zero_left, R_zero]
theorem R_C_zero {m d : Nat} (hm : Deg m d) (a b : Nat) (h : R m d a = 0) : R m d (C a b) = 0 := by
  rw [← R_C_left hm, h, C_zero_left, R_zero]

/-- Long division from the place d + k - 1 on: quotient and rest. -/
def dv (q d : Nat) : Nat → Nat → Nat → Nat × Nat
  | 0, a, r => (a, r)
  | k + 1, a, r => if r.testBit (d + k) then dv q d k (a ||| 2 ^ k) (r ^^^ q <<< k) else dv q d k a r

theorem dv_true {q d k j l x y : Nat} {Z : Nat × Nat} (h : dv q d k x y = Z) (hb : y.testBit (d + j) = true) (hk : k = j + 1) (hl : l = j) : dv q d l (x ||| 2 ^ j) (y ^^^ q <<< j) = Z := by
  subst hk hl
  rw [← h]
  show _ = if y.testBit (d + l) then _ else _
  rw [hb]; rfl
theorem dv_false {q d k j l x y : Nat} {Z : Nat × Nat} (h : dv q d k x y = Z) (hb : y.testBit (d + j) = false) (hk : k = j + 1) (hl : l = j) : dv q d l x y = Z := by
  subst hk hl
  rw [← h]
  show _ = if y.testBit (d + l) then _ else _
  rw [hb]; rfl

theorem dv_skip (q d k a r : Nat) (hr : r < 2 ^ (d + k)) : dv q d (k + 1) a r = dv q d k a r := by
  show (if r.testBit (d + k) then _ else _) = _
  rw [Nat.testBit_lt_two_pow hr]; rfl

theorem dv_skips (q d k a r : Nat) (hr : r < 2 ^ (d + k)) (j : Nat) : dv q d (k + j) a r = dv q d k a r := by
  induction j with
  | zero => rfl
  | succ j ih =>
    rw [← Nat.add_assoc, dv_skip q d (k + j) a r (Nat.lt_of_lt_of_le hr (Nat.pow_le_pow_right (by omega) (by omega))), ih]

theorem shl_lt {q d : Nat} (hq : Deg q d) (k : Nat) : q <<< k < 2 ^ (d + k + 1) := by
  rw [Nat.shiftLeft_eq, show d + k + 1 = (d + 1) + k by omega, Nat.pow_add]
  exact Nat.mul_lt_mul_of_pos_right hq.lt (Nat.two_pow_pos k)

theorem shl_deg {q d : Nat} (hq : Deg q d) (k : Nat) : Deg (q <<< k) (d + k) := by
  refine ⟨shl_lt hq k, ?_⟩
  rw [Nat.testBit_shiftLeft]
  simp [hq.top]

theorem dv_step_lt {q d k r : Nat} (hq : Deg q d) (hr : r < 2 ^ (d + k + 1)) (hb : r.testBit (d + k) = true) : r ^^^ q <<< k < 2 ^ (d + k) := by
  apply lt_of_bits (Nat.xor_lt_two_pow hr (shl_lt hq k))
  rw [Nat.testBit_xor, hb, (shl_deg hq k).top]; rfl

theorem or_eq_xor (a k : Nat) (h : a % 2 ^ (k + 1) = 0) : a ||| 2 ^ k = a ^^^ 2 ^ k := by
  apply Nat.eq_of_testBit_eq
  intro i
  rw [Nat.testBit_or, Nat.testBit_xor, Nat.testBit_two_pow]
  by_cases e : k = i
  · subst e
    have hz : a.testBit k = false := by
      have h1 := Nat.testBit_mod_two_pow a (k + 1) k
      rw [h] at h1
      simpa using h1.symm
    rw [hz]; simp
  · simp [e]

theorem or_lt (a k K : Nat) (h : a < 2 ^ K) (hk : k < K) : a ||| 2 ^ k < 2 ^ K :=
  Nat.or_lt_two_pow h (Nat.pow_lt_pow_right (by omega) hk)

theorem or_mod (a k : Nat) (h : a % 2 ^ (k + 1) = 0) : (a ||| 2 ^ k) % 2 ^ k = 0 := by
  rw [or_eq_xor a k h, Nat.xor_mod_two_pow]
  have : a % 2 ^ k = 0 := by
    have h2 : 2 ^ k ∣ 2 ^ (k + 1) := Nat.pow_dvd_pow 2 (by omega)
    exact Nat.mod_eq_zero_of_dvd (Nat.dvd_trans h2 (Nat.dvd_of_mod_eq_zero h))
  rw [this]; simp

theorem mod_half (a k : Nat) (h : a % 2 ^ (k + 1) = 0) : a % 2 ^ k = 0 :=
  Nat.mod_eq_zero_of_dvd (Nat.dvd_trans (Nat.pow_dvd_pow 2 (by omega)) (Nat.dvd_of_mod_eq_zero h))

theorem C_shl (q k : Nat) : C q (2 ^ k) = q <<< k := by rw [C_pow_right, Nat.shiftLeft_eq]

theorem dv_spec {q d : Nat} (hq : Deg q d) (K : Nat) (k : Nat) : ∀ a r, k ≤ K → a % 2 ^ k = 0 → a < 2 ^ K → r < 2 ^ (d + k) →
    (dv q d k a r).2 < 2 ^ d ∧ (dv q d k a r).1 < 2 ^ K ∧ C q (dv q d k a r).1 ^^^ (dv q d k a r).2 = C q a ^^^ r := by
  induction k with
  | zero => intro a r _ _ ha hr; exact ⟨hr, ha, rfl⟩
  | succ k ih =>
    intro a r hk hm ha hr
    show (if r.testBit (d + k) then _ else _ : Nat × Nat).2 < _ ∧ (if r.testBit (d + k) then _ else _ : Nat × Nat).1 < _ ∧ C q (if r.testBit (d + k) then _ else _ : Nat × Nat).1 ^^^ (if r.testBit (d + k) then _ else _ : Nat × Nat).2 = _
    cases hb : r.testBit (d + k)
    · simp only [Bool.false_eq_true, if_false]
      exact ih a r (by omega) (mod_half a k hm) ha (lt_of_bits (by simpa [Nat.add_assoc] using hr) hb)
    · simp only [if_true]
      obtain ⟨h1, h2, h3⟩ := ih (a ||| 2 ^ k) (r ^^^ q <<< k) (by omega) (or_mod a k hm) (or_lt a k K ha (by omega)) (dv_step_lt hq (by simpa [Nat.add_assoc] using hr) hb)
      refine ⟨h1, h2, ?_⟩
      rw [h3, or_eq_xor a k hm, C_xor_right, C_shl, xor_four, Nat.xor_self, Nat.xor_zero]

/-- Quotient and remainder of words of 64 bits. -/
def Q (q p : Nat) : Nat := (dv q q.log2 (64 - q.log2) 0 p).1

theorem log2_lt64 {q : Nat} (h0 : q ≠ 0) (h : q < 2 ^ 64) : q.log2 < 64 := (Nat.log2_lt h0).2 h

theorem dv_all {q p : Nat} (h0 : q ≠ 0) (h : q < 2 ^ 64) (hp : p < 2 ^ 64) :
    dv q q.log2 (64 - q.log2) 0 p = (Q q p, R q q.log2 p) ∧ Q q p < 2 ^ (64 - q.log2) ∧ C q (Q q p) ^^^ R q q.log2 p = p := by
  have hl := log2_lt64 h0 h
  obtain ⟨h1, h2, h3⟩ := dv_spec (deg_log2 h0) (64 - q.log2) (64 - q.log2) 0 p (by omega) (by simp) (Nat.two_pow_pos _) (by rw [show q.log2 + (64 - q.log2) = 64 by omega]; exact hp)
  rw [C_zero, Nat.zero_xor] at h3
  have e : (dv q q.log2 (64 - q.log2) 0 p).2 = R q q.log2 p := by
    have := congrArg (R q q.log2) h3
    rw [R_xor, R_C_self (deg_log2 h0), Nat.zero_xor, R_small _ _ _ h1] at this
    exact this
  refine ⟨by rw [← e]; rfl, h2, ?_⟩
  rw [← e]; exact h3

theorem dv_short {q p k : Nat} (h0 : q ≠ 0) (h : q < 2 ^ 64) (hp : p < 2 ^ 64) (hk : p < 2 ^ (q.log2 + k)) (hk2 : q.log2 + k ≤ 64) :
    dv q q.log2 k 0 p = (Q q p, R q q.log2 p) := by
  have := dv_skips q q.log2 k 0 p hk (64 - q.log2 - k)
  rw [show k + (64 - q.log2 - k) = 64 - q.log2 by omega, (dv_all h0 h hp).1] at this
  exact this.symm

/-- Euclid's way, with at most k steps. -/
def gc : Nat → Nat → Nat → Nat
  | 0, p, _ => p
  | k + 1, p, q => if q = 0 then p else gc k q (R q q.log2 p)

/-- How many bits a word has. -/
def bl (n : Nat) : Nat := if n = 0 then 0 else n.log2 + 1

theorem bl_zero : bl 0 = 0 := rfl
theorem bl_pos {n : Nat} (h : n ≠ 0) : bl n = n.log2 + 1 := by simp [bl, h]
theorem bl_le {n k : Nat} (h : n < 2 ^ k) : bl n ≤ k := by
  unfold bl
  split
  · omega
  · rename_i h0; have := (Nat.log2_lt h0).2 h; omega
theorem lt_bl (n : Nat) : n < 2 ^ bl n := by
  unfold bl
  split
  · subst_vars; decide
  · exact Nat.lt_log2_self

theorem bl_R {q : Nat} (h : q ≠ 0) (p : Nat) : bl (R q q.log2 p) + 1 ≤ bl q := by
  have := bl_le (R_lt (deg_log2 h) p)
  rw [bl_pos h]; omega

theorem gc_zero (k p : Nat) : gc k p 0 = p := by cases k <;> rfl
theorem gc_fuel (k : Nat) : ∀ j p q, bl q ≤ k → bl q ≤ j → gc k p q = gc j p q := by
  induction k with
  | zero =>
    intro j p q hk _
    have : q = 0 := by
      by_cases h : q = 0
      · exact h
      · rw [bl_pos h] at hk; omega
    subst this; rw [gc_zero, gc_zero]
  | succ k ih =>
    intro j p q hk hj
    by_cases h : q = 0
    · subst h; rw [gc_zero, gc_zero]
    · have h1 := bl_R h p
      cases j with
      | zero => rw [bl_pos h] at hj; omega
      | succ j =>
        show (if q = 0 then p else _) = (if q = 0 then p else _)
        rw [if_neg h, if_neg h]
        exact ih j q _ (by omega) (by omega)

/-- The greatest common divisor. -/
def G (p q : Nat) : Nat := gc (bl q) p q
theorem gc_eq_G (k p q : Nat) (h : bl q ≤ k) : gc k p q = G p q := gc_fuel k _ p q h (Nat.le_refl _)
theorem G_zero (p : Nat) : G p 0 = p := rfl
theorem G_step {q : Nat} (h : q ≠ 0) (p : Nat) : G p q = G q (R q q.log2 p) := by
  have h1 := bl_R h p
  rw [← gc_eq_G (bl (R q q.log2 p) + (bl q - 1 - bl (R q q.log2 p)) + 1) p q (by rw [bl_pos h]; omega)]
  show (if q = 0 then p else gc _ q _) = _
  rw [if_neg h]
  exact gc_eq_G _ _ _ (by omega)

theorem G_lt (k : Nat) (K : Nat) : ∀ p q, bl q ≤ k → p < 2 ^ K → q < 2 ^ K → G p q < 2 ^ K := by
  induction k with
  | zero =>
    intro p q hk hp _
    have : q = 0 := by
      by_cases h : q = 0
      · exact h
      · rw [bl_pos h] at hk; omega
    subst this; rw [G_zero]; exact hp
  | succ k ih =>
    intro p q hk hp hq
    by_cases h : q = 0
    · subst h; rw [G_zero]; exact hp
    · have h1 := bl_R h p
      rw [G_step h]
      refine ih q _ (by omega) hq ?_
      have h2 := R_lt (deg_log2 h) p
      have h3 := (deg_log2 h).le
      omega

theorem G_comm (p q : Nat) : G p q = G q p := by
  by_cases hp : p = 0
  · subst hp
    by_cases hq : q = 0
    · subst hq; rfl
    · rw [G_step hq, R_zero]
  · by_cases hq : q = 0
    · subst hq; rw [G_step hp, R_zero]
    · have dp := deg_log2 hp
      have dq := deg_log2 hq
      rcases Nat.lt_trichotomy p.log2 q.log2 with h | h | h
      · rw [G_step hq p, R_small _ _ p (Nat.lt_of_lt_of_le dp.lt (Nat.pow_le_pow_right (by omega) (by omega)))]
      · have r1 : R q q.log2 p = p ^^^ q := by
          have h1 : p ^^^ q < 2 ^ q.log2 := by
            apply lt_of_bits (Nat.xor_lt_two_pow (by rw [← h]; exact dp.lt) dq.lt)
            have := dp.top; rw [h] at this
            rw [Nat.testBit_xor, this, dq.top]; rfl
          have h2 := R_xor q q.log2 (p ^^^ q) q
          rw [xor_cancel, R_self dq, Nat.xor_zero, R_small _ _ _ h1] at h2
          exact h2
        have r2 : R p p.log2 q = p ^^^ q := by
          have h1 : p ^^^ q < 2 ^ p.log2 := by
            apply lt_of_bits (Nat.xor_lt_two_pow dp.lt (by rw [h]; exact dq.lt))
            have := dq.top; rw [← h] at this
            rw [Nat.testBit_xor, this, dp.top]; rfl
          have h2 := R_xor p p.log2 p (p ^^^ q)
          rw [xor_cancel_left, R_self dp, Nat.zero_xor, R_small _ _ _ h1] at h2
          exact h2
        rw [G_step hq p, G_step hp q, r1, r2]
        by_cases hx : p ^^^ q = 0
        · rw [hx, xor_eq_zero hx]
        · rw [G_step hx, G_step hx]
          congr 1
          have h2 := R_xor (p ^^^ q) (p ^^^ q).log2 p q
          rw [R_self (deg_log2 hx)] at h2
          exact (xor_eq_zero h2.symm).symm
      · rw [G_step hp q, R_small _ _ q (Nat.lt_of_lt_of_le dq.lt (Nat.pow_le_pow_right (by omega) (by omega)))]

/-- A common divisor's remainders. -/
theorem G_div {d e : Nat} (hd : Deg d e) (k : Nat) : ∀ p q, bl q ≤ k → q < 2 ^ 64 → p < 2 ^ 64 → ((R d e p = 0 ∧ R d e q = 0) ↔ R d e (G p q) = 0) := by
  induction k with
  | zero =>
    intro p q hk _ _
    have : q = 0 := by
      by_cases h : q = 0
      · exact h
      · rw [bl_pos h] at hk; omega
    subst this; rw [G_zero, R_zero]; simp
  | succ k ih =>
    intro p q hk hq hp
    by_cases h : q = 0
    · subst h; rw [G_zero, R_zero]; simp
    · have h1 := bl_R h p
      have h2 := R_lt (deg_log2 h) p
      have h3 := (deg_log2 h).le
      rw [G_step h, ← ih q _ (by omega) (by omega) hq]
      obtain ⟨_, _, h4⟩ := dv_all h hq hp
      have h5 : R d e p = R d e (C q (Q q p)) ^^^ R d e (R q q.log2 p) := by rw [← R_xor, h4]
      constructor
      · rintro ⟨a, b⟩
        rw [a, R_C_zero hd _ _ b, Nat.zero_xor] at h5
        exact ⟨b, h5.symm⟩
      · rintro ⟨a, b⟩
        rw [R_C_zero hd _ _ a, b, Nat.xor_zero] at h5
        exact ⟨h5, a⟩

/-- How many of the places 0 to k - 1 are taken. -/
def wt (n : Nat) : Nat → Nat
  | 0 => 0
  | k + 1 => wt n k + (n / 2 ^ k) % 2

theorem wt_le (n k : Nat) : wt n k ≤ k := by
  induction k with
  | zero => exact Nat.le_refl _
  | succ k ih => show wt n k + _ ≤ _; omega

theorem wt_dbl (n : Nat) (k : Nat) : wt n (k + 1) = wt (n / 2) k + n % 2 := by
  induction k with
  | zero => simp [wt]
  | succ k ih =>
    show wt n (k + 1) + (n / 2 ^ (k + 1)) % 2 = (wt (n / 2) k + (n / 2 / 2 ^ k) % 2) + n % 2
    rw [ih, Nat.div_div_eq_div_mul, Nat.pow_succ, Nat.mul_comm 2 (2 ^ k)]; omega

theorem deg3 : Deg 3 1 := ⟨by decide, by decide⟩

theorem stp3 (t : Nat) (h : t < 4) : stp 3 1 t = (t / 2 + t % 2) % 2 := by
  have : t = 0 ∨ t = 1 ∨ t = 2 ∨ t = 3 := by omega
  rcases this with rfl | rfl | rfl | rfl <;> decide

/-- x + 1 leaves the weight's parity. -/
theorem rm3 (k : Nat) : ∀ n, rm 3 1 k n = wt n k % 2 := by
  induction k with
  | zero => intro n; rfl
  | succ k ih =>
    intro n
    rw [wt_dbl]
    show stp 3 1 (2 * rm 3 1 k (n / 2) + n % 2) = _
    rw [ih, stp3 _ (by omega)]; omega

theorem R3 (n k : Nat) (h : n < 2 ^ k) : R 3 1 n = wt n k % 2 := by rw [← rm_eq_R 3 1 k n h, rm3]

theorem R_pow_add {m d : Nat} (hm : Deg m d) (a b : Nat) : R m d (C (R m d (2 ^ a)) (R m d (2 ^ b))) = R m d (2 ^ (a + b)) := by
  rw [R_C_both hm, C_pow_pow]

theorem shr_step (q k j : Nat) (h : j = k + 1) : q >>> k = 2 * (q >>> j) + (q.testBit k).toNat := by
  subst h
  rw [Nat.toNat_testBit, Nat.shiftRight_eq_div_pow, Nat.shiftRight_eq_div_pow, Nat.pow_succ, ← Nat.div_div_eq_div_mul]
  omega
theorem shr_true {q k j : Nat} (hb : q.testBit k = true) (h : j = k + 1) : q >>> k = 2 * (q >>> j) + 1 := by
  rw [shr_step q k j h, hb]; rfl
theorem shr_false {q k j : Nat} (hb : q.testBit k = false) (h : j = k + 1) : q >>> k = 2 * (q >>> j) := by
  rw [shr_step q k j h, hb]; rfl
theorem shr_bl (q : Nat) : q >>> bl q = 0 := by
  rw [Nat.shiftRight_eq_div_pow]; exact Nat.div_eq_of_lt (lt_bl q)

theorem mul_true {m d p q i : Nat} (hi : i < bl q) (hb : q.testBit (bl q - 1 - i) = true) :
    stp m d (2 * R m d (C p (q >>> (bl q - i)))) ^^^ R m d p = R m d (C p (q >>> (bl q - (i + 1)))) := by
  rw [show bl q - (i + 1) = bl q - 1 - i by omega, shr_true hb (j := bl q - i) (by omega), R_C_dbl m d p _ 1 (by omega), if_pos rfl]
theorem mul_false {m d p q i : Nat} (hi : i < bl q) (hb : q.testBit (bl q - 1 - i) = false) :
    stp m d (2 * R m d (C p (q >>> (bl q - i)))) = R m d (C p (q >>> (bl q - (i + 1)))) := by
  rw [show bl q - (i + 1) = bl q - 1 - i by omega, shr_false hb (j := bl q - i) (by omega), C_two_right, R_dbl0]

theorem pow_dbl {m d : Nat} (hm : Deg m d) (e : Nat) : R m d (C (R m d (2 ^ e)) (R m d (2 ^ e))) = R m d (2 ^ (2 * e)) := by
  rw [R_C_both hm, C_pow_pow]; congr 2; omega
theorem pow_true {m d : Nat} {n i : Nat} (hi : i < bl n) (hb : n.testBit (bl n - 1 - i) = true) :
    stp m d (2 * R m d (2 ^ (2 * (n >>> (bl n - i))))) = R m d (2 ^ (n >>> (bl n - (i + 1)))) := by
  rw [show bl n - (i + 1) = bl n - 1 - i by omega, shr_true hb (j := bl n - i) (by omega), ← R_dbl0, Nat.pow_succ, Nat.mul_comm 2 (2 ^ _)]
theorem pow_false {m d : Nat} {n i : Nat} (hi : i < bl n) (hb : n.testBit (bl n - 1 - i) = false) :
    R m d (2 ^ (2 * (n >>> (bl n - i)))) = R m d (2 ^ (n >>> (bl n - (i + 1)))) := by
  rw [show bl n - (i + 1) = bl n - 1 - i by omega, shr_false hb (j := bl n - i) (by omega)]

theorem cl_lt {a b A : Nat} (ha : a < 2 ^ A) (k : Nat) : cl a b k < 2 ^ (A + k) := by
  induction k with
  | zero => exact Nat.two_pow_pos _
  | succ k ih =>
    show cl a b k ^^^ _ < _
    refine Nat.xor_lt_two_pow (Nat.lt_of_lt_of_le ih (Nat.pow_le_pow_right (by omega) (by omega))) ?_
    split
    · rw [Nat.shiftLeft_eq, Nat.pow_add]
      exact Nat.mul_lt_mul'' ha (Nat.pow_lt_pow_right (by omega) (by omega))
    · exact Nat.two_pow_pos _
theorem cl_true {a b k : Nat} (hb : b.testBit k = true) : cl a b (k + 1) = cl a b k ^^^ a <<< k := by
  show cl a b k ^^^ (if b.testBit k then a <<< k else 0) = _
  rw [hb]; rfl
theorem cl_false {a b k : Nat} (hb : b.testBit k = false) : cl a b (k + 1) = cl a b k := by
  show cl a b k ^^^ (if b.testBit k then a <<< k else 0) = _
  rw [hb]; simp

theorem R_pow_succ (m d n : Nat) : R m d (2 ^ (n + 1)) = stp m d (2 * R m d (2 ^ n)) := by
  rw [Nat.pow_succ, Nat.mul_comm, R_dbl0]

theorem wt_add (n j k : Nat) : wt n (j + k) = wt n j + wt (n / 2 ^ j) k := by
  induction k with
  | zero => rfl
  | succ k ih =>
    show wt n (j + k) + (n / 2 ^ (j + k)) % 2 = wt n j + (wt (n / 2 ^ j) k + (n / 2 ^ j / 2 ^ k) % 2)
    rw [ih, Nat.div_div_eq_div_mul, ← Nat.pow_add]; omega

/-- A byte's function, byte by byte. -/
def bm (f : Nat → Nat) : Nat → Nat → Nat
  | 0, _ => 0
  | k + 1, x => 256 * bm f k (x / 256) + f (x % 256)
/-- A byte, k times. -/
def mk (c : Nat) : Nat → Nat
  | 0 => 0
  | k + 1 => 256 * mk c k + c
def s1 (b : Nat) : Nat := (b / 2 &&& 85) + (b &&& 85)
def s2 (b : Nat) : Nat := (b / 4 &&& 51) + (b &&& 51)
def s3 (b : Nat) : Nat := (b / 16 + b) % 16

theorem and_split (u m c : Nat) (hc : c < 256) : u &&& (256 * m + c) = 256 * (u / 256 &&& m) + (u % 256 &&& c) := by
  have h1 : (u &&& (256 * m + c)) % 2 ^ 8 = u % 2 ^ 8 &&& (256 * m + c) % 2 ^ 8 := Nat.and_mod_two_pow
  have h2 : (u &&& (256 * m + c)) / 2 ^ 8 = u / 2 ^ 8 &&& (256 * m + c) / 2 ^ 8 := Nat.and_div_two_pow
  rw [show (256 * m + c) % 2 ^ 8 = c by omega] at h1
  rw [show (256 * m + c) / 2 ^ 8 = m by omega] at h2
  rw [show (2 : Nat) ^ 8 = 256 from rfl] at h1 h2
  omega

theorem f512 : ∀ z : Fin 512, (z.val / 2 &&& 85) = (z.val % 256 / 2 &&& 85) := by decide +kernel
theorem f1024 : ∀ z : Fin 1024, (z.val / 4 % 256 &&& 51) = (z.val % 256 / 4 &&& 51) := by decide +kernel
theorem fpop : ∀ z : Fin 256, s3 (s2 (s1 z.val)) = wt z.val 8 := by decide +kernel
theorem fs1 : ∀ z : Fin 256, s1 z.val < 256 := by decide +kernel
theorem fs2 : ∀ z : Fin 256, s2 (s1 z.val) < 256 ∧ s2 (s1 z.val) % 16 ≤ 4 ∧ s2 (s1 z.val) / 16 ≤ 4 := by decide +kernel

theorem S1 (k : Nat) : ∀ x, (x / 2 &&& mk 85 k) + (x &&& mk 85 k) = bm s1 k x := by
  induction k with
  | zero => intro x; simp [mk, bm]
  | succ k ih =>
    intro x
    show (x / 2 &&& (256 * mk 85 k + 85)) + (x &&& (256 * mk 85 k + 85)) = 256 * bm s1 k (x / 256) + s1 (x % 256)
    rw [and_split _ _ 85 (by omega), and_split _ _ 85 (by omega), ← ih, show x / 2 / 256 = x / 256 / 2 by omega]
    have h := f512 ⟨x % 512, by omega⟩
    simp only at h
    rw [show x % 512 / 2 = x / 2 % 256 by omega, show x % 512 % 256 = x % 256 by omega] at h
    rw [h]; unfold s1; omega
theorem S2 (k : Nat) : ∀ x, (x / 4 &&& mk 51 k) + (x &&& mk 51 k) = bm s2 k x := by
  induction k with
  | zero => intro x; simp [mk, bm]
  | succ k ih =>
    intro x
    show (x / 4 &&& (256 * mk 51 k + 51)) + (x &&& (256 * mk 51 k + 51)) = 256 * bm s2 k (x / 256) + s2 (x % 256)
    rw [and_split _ _ 51 (by omega), and_split _ _ 51 (by omega), ← ih, show x / 4 / 256 = x / 256 / 4 by omega]
    have h := f1024 ⟨x % 1024, by omega⟩
    simp only at h
    rw [show x % 1024 / 4 % 256 = x / 4 % 256 by omega, show x % 1024 % 256 = x % 256 by omega] at h
    rw [h]; unfold s2; omega
theorem bm_low (g : Nat → Nat) (hg : ∀ b, b < 256 → g b % 16 ≤ 4) (k y : Nat) : bm g k y % 16 ≤ 4 := by
  cases k with
  | zero => show 0 % 16 ≤ 4; omega
  | succ k => show (256 * bm g k (y / 256) + g (y % 256)) % 16 ≤ 4
              have := hg (y % 256) (by omega); omega
theorem bm_low2 (g : Nat → Nat) (hg : ∀ b, b < 256 → g b < 256) (k y : Nat) : bm g (k + 1) y % 256 = g (y % 256) ∧ bm g (k + 1) y / 256 = bm g k (y / 256) := by
  show (256 * bm g k (y / 256) + g (y % 256)) % 256 = _ ∧ (256 * bm g k (y / 256) + g (y % 256)) / 256 = _
  have := hg (y % 256) (by omega); omega
theorem bm_comp (f g : Nat → Nat) (hg : ∀ b, b < 256 → g b < 256) (k : Nat) : ∀ y, bm f k (bm g k y) = bm (fun b => f (g b)) k y := by
  induction k with
  | zero => intro y; rfl
  | succ k ih =>
    intro y
    show 256 * bm f k (bm g (k + 1) y / 256) + f (bm g (k + 1) y % 256) = _
    rw [(bm_low2 g hg k y).1, (bm_low2 g hg k y).2, ih]; rfl
theorem S3 (g : Nat → Nat) (hg : ∀ b, b < 256 → g b < 256 ∧ g b % 16 ≤ 4 ∧ g b / 16 ≤ 4) (k : Nat) : ∀ y, ((bm g k y / 16 + bm g k y) &&& mk 15 k) = bm (fun b => s3 (g b)) k y := by
  induction k with
  | zero => intro y; simp [mk, bm]
  | succ k ih =>
    intro y
    show (((256 * bm g k (y / 256) + g (y % 256)) / 16 + (256 * bm g k (y / 256) + g (y % 256))) &&& (256 * mk 15 k + 15)) = 256 * bm (fun b => s3 (g b)) k (y / 256) + s3 (g (y % 256))
    have h1 := bm_low g (fun b h => (hg b h).2.1) k (y / 256)
    have h2 := hg (y % 256) (by omega)
    rw [and_split _ _ 15 (by omega), ← ih]
    generalize bm g k (y / 256) = B at *
    generalize g (y % 256) = z at *
    rw [show ((256 * B + z) / 16 + (256 * B + z)) / 256 = B / 16 + B by omega]
    have h3 : ((256 * B + z) / 16 + (256 * B + z)) % 256 &&& 15 = (z / 16 + z) % 16 := by
      rw [show ∀ t : Nat, t &&& 15 = t % 16 from fun t => Nat.and_two_pow_sub_one_eq_mod t 4]; omega
    rw [h3]; rfl

theorem bm_congr (f g : Nat → Nat) (h : ∀ b, b < 256 → f b = g b) (k : Nat) : ∀ y, bm f k y = bm g k y := by
  induction k with
  | zero => intro y; rfl
  | succ k ih =>
    intro y
    show 256 * bm f k (y / 256) + f (y % 256) = 256 * bm g k (y / 256) + g (y % 256)
    rw [ih, h _ (by omega)]

theorem mk85 : mk 85 8 = 6148914691236517205 := by decide
theorem mk51 : mk 51 8 = 3689348814741910323 := by decide
theorem mk15 : mk 15 8 = 1085102592571150095 := by decide

theorem wt_byte (x : Nat) : wt x 8 = wt (x % 256) 8 := by
  simp only [wt]; omega

/-- The sum of the bytes' weights. -/
theorem bytes_wt (x c : Nat) (hc : c = bm (fun b => wt b 8) 8 x) :
    c < 18446744073709551616 / 16 ∧ ((c + c / 256 + (c + c / 256) / 65536 + (c + c / 256 + (c + c / 256) / 65536) / 4294967296) % 128 = wt x 64) := by
  have e : wt x 64 = wt x 8 + (wt (x / 256) 8 + (wt (x / 256 / 256) 8 + (wt (x / 256 / 256 / 256) 8 + (wt (x / 256 / 256 / 256 / 256) 8 + (wt (x / 256 / 256 / 256 / 256 / 256) 8 + (wt (x / 256 / 256 / 256 / 256 / 256 / 256) 8 + wt (x / 256 / 256 / 256 / 256 / 256 / 256 / 256) 8)))))) := by
    rw [show (64 : Nat) = 8 + (8 + (8 + (8 + (8 + (8 + (8 + 8)))))) from rfl, wt_add, wt_add, wt_add, wt_add, wt_add, wt_add, wt_add]
  rw [e]
  rw [wt_byte x, wt_byte (x / 256), wt_byte (x / 256 / 256), wt_byte (x / 256 / 256 / 256), wt_byte (x / 256 / 256 / 256 / 256), wt_byte (x / 256 / 256 / 256 / 256 / 256), wt_byte (x / 256 / 256 / 256 / 256 / 256 / 256), wt_byte (x / 256 / 256 / 256 / 256 / 256 / 256 / 256)]
  simp only [bm] at hc
  have b0 := wt_le (x % 256) 8
  have b1 := wt_le (x / 256 % 256) 8
  have b2 := wt_le (x / 256 / 256 % 256) 8
  have b3 := wt_le (x / 256 / 256 / 256 % 256) 8
  have b4 := wt_le (x / 256 / 256 / 256 / 256 % 256) 8
  have b5 := wt_le (x / 256 / 256 / 256 / 256 / 256 % 256) 8
  have b6 := wt_le (x / 256 / 256 / 256 / 256 / 256 / 256 % 256) 8
  have b7 := wt_le (x / 256 / 256 / 256 / 256 / 256 / 256 / 256 % 256) 8
  generalize wt (x % 256) 8 = p0 at *
  generalize wt (x / 256 % 256) 8 = p1 at *
  generalize wt (x / 256 / 256 % 256) 8 = p2 at *
  generalize wt (x / 256 / 256 / 256 % 256) 8 = p3 at *
  generalize wt (x / 256 / 256 / 256 / 256 % 256) 8 = p4 at *
  generalize wt (x / 256 / 256 / 256 / 256 / 256 % 256) 8 = p5 at *
  generalize wt (x / 256 / 256 / 256 / 256 / 256 / 256 % 256) 8 = p6 at *
  generalize wt (x / 256 / 256 / 256 / 256 / 256 / 256 / 256 % 256) 8 = p7 at *
  clear e
  have q1 : c / 256 = p1 + 256 * (p2 + 256 * (p3 + 256 * (p4 + 256 * (p5 + 256 * (p6 + 256 * p7))))) := by omega
  rw [q1]
  have q2 : (c + (p1 + 256 * (p2 + 256 * (p3 + 256 * (p4 + 256 * (p5 + 256 * (p6 + 256 * p7))))))) / 65536 = (p2 + p3) + 256 * ((p3 + p4) + 256 * ((p4 + p5) + 256 * ((p5 + p6) + 256 * ((p6 + p7) + 256 * p7)))) := by omega
  rw [q2]
  have q3 : (c + (p1 + 256 * (p2 + 256 * (p3 + 256 * (p4 + 256 * (p5 + 256 * (p6 + 256 * p7)))))) + ((p2 + p3) + 256 * ((p3 + p4) + 256 * ((p4 + p5) + 256 * ((p5 + p6) + 256 * ((p6 + p7) + 256 * p7)))))) / 4294967296 = (p4 + p5 + p6 + p7) + 256 * ((p5 + p6 + p7) + 256 * ((p6 + p7) + 256 * p7)) := by omega
  rw [q3]
  clear q1 q2 q3
  refine ⟨by omega, ?_⟩
  subst hc
  omega

/-- The three halving steps of a word. -/
theorem pop_bytes (x a b c : Nat) (ha : a = (x / 2 &&& 6148914691236517205) + (x &&& 6148914691236517205))
    (hb : b = (a / 4 &&& 3689348814741910323) + (a &&& 3689348814741910323)) (hc : c = (b / 16 + b) &&& 1085102592571150095) :
    c = bm (fun b => wt b 8) 8 x := by
  have h1 := S1 8 x
  rw [mk85] at h1
  rw [h1] at ha
  have h2 := S2 8 a
  rw [mk51] at h2
  rw [h2, ha, bm_comp s2 s1 (fun z h => fs1 ⟨z, h⟩)] at hb
  have h3 := S3 (fun b => s2 (s1 b)) (fun z h => fs2 ⟨z, h⟩) 8 x
  rw [mk15, ← hb, ← hc] at h3
  rw [h3]
  exact bm_congr _ _ (fun z h => fpop ⟨z, h⟩) 8 x

theorem mod_step (p i : Nat) : p % 2 ^ (i + 1) = p % 2 ^ i + 2 ^ i * (p.testBit i).toNat := by
  rw [Nat.toNat_testBit, Nat.pow_succ, Nat.mod_mul]
theorem mod_true {p i : Nat} (h : p.testBit i = true) : p % 2 ^ (i + 1) = p % 2 ^ i + 2 ^ i := by
  rw [mod_step, h]; simp
theorem mod_false {p i : Nat} (h : p.testBit i = false) : p % 2 ^ (i + 1) = p % 2 ^ i := by
  rw [mod_step, h]; simp
theorem bl_mod_true {p i : Nat} (h : p.testBit i = true) : bl (p % 2 ^ (i + 1)) = i + 1 := by
  have h1 : p % 2 ^ (i + 1) < 2 ^ (i + 1) := Nat.mod_lt _ (Nat.two_pow_pos _)
  have h2 := mod_true h
  have h0 : p % 2 ^ (i + 1) ≠ 0 := by have := Nat.two_pow_pos i; omega
  have h3 : (p % 2 ^ (i + 1)).log2 = i := (Nat.log2_eq_iff h0).2 ⟨by omega, h1⟩
  rw [bl_pos h0, h3]
theorem bl_mod_false {p i : Nat} (h : p.testBit i = false) : bl (p % 2 ^ (i + 1)) = bl (p % 2 ^ i) := by rw [mod_false h]
theorem bl_mod_le (p i : Nat) : bl (p % 2 ^ i) ≤ i := bl_le (Nat.mod_lt _ (Nat.two_pow_pos _))

theorem shl_mod_true {p i k : Nat} (h : p.testBit k = true) : (p % 2 ^ (k + 1)) <<< i = (p % 2 ^ k) <<< i ^^^ 2 ^ (i + k) := by
  have e : p % 2 ^ (k + 1) = p % 2 ^ k ^^^ 2 ^ k := by
    apply Nat.eq_of_testBit_eq
    intro j
    rw [Nat.testBit_xor, Nat.testBit_mod_two_pow, Nat.testBit_mod_two_pow, Nat.testBit_two_pow]
    rcases Nat.lt_trichotomy j k with hj | hj | hj
    · simp [show j < k + 1 by omega, hj, show ¬ k = j by omega]
    · subst hj; simp [h]
    · simp [show ¬ j < k + 1 by omega, show ¬ j < k by omega, show ¬ k = j by omega]
  rw [e, Nat.shiftLeft_xor_distrib, Nat.shiftLeft_eq (2 ^ k), ← Nat.pow_add, Nat.add_comm k i]

/-- The number whose first i coefficients, the highest first, f gives. -/
def V (f : Nat → Bool) : Nat → Nat
  | 0 => 0
  | i + 1 => 2 * V f i + (f i).toNat

theorem V_lt (f : Nat → Bool) (i : Nat) : V f i < 2 ^ i := by
  induction i with
  | zero => exact Nat.two_pow_pos 0
  | succ i ih => show 2 * V f i + (f i).toNat < 2 ^ (i + 1)
                 have := Bool.toNat_le (f i); rw [Nat.pow_succ]; omega
theorem V_congr (f g : Nat → Bool) (n : Nat) (h : ∀ i, i < n → f i = g i) : V f n = V g n := by
  induction n with
  | zero => rfl
  | succ n ih =>
    show 2 * V f n + (f n).toNat = 2 * V g n + (g n).toNat
    rw [ih (fun i hi => h i (by omega)), h n (by omega)]
theorem R_V (m d : Nat) (f : Nat → Bool) (i : Nat) : R m d (V f (i + 1)) = stp m d (2 * R m d (V f i) + (f i).toNat) := by
  show R m d (2 * V f i + (f i).toNat) = _
  exact R_dbl m d _ _ (by have := Bool.toNat_le (f i); omega)
theorem top_bit (r d b : Nat) (hb : b < 2) (hd : 0 < d) : (2 * r + b).testBit d = r.testBit (d - 1) := by
  obtain ⟨e, rfl⟩ : ∃ e, d = e + 1 := ⟨d - 1, by omega⟩
  rw [Nat.testBit_succ]; congr 1; omega

/-- Turning one coefficient. -/
theorem V_flip (f : Nat → Bool) (n j : Nat) (hj : j < n) : V (fun i => if i = j then !f i else f i) n = V f n ^^^ 2 ^ (n - 1 - j) := by
  induction n with
  | zero => omega
  | succ n ih =>
    show 2 * V (fun i => if i = j then !f i else f i) n + (if n = j then !f n else f n).toNat = (2 * V f n + (f n).toNat) ^^^ 2 ^ (n + 1 - 1 - j)
    by_cases e : n = j
    · subst e
      rw [V_congr (fun i => if i = n then !f i else f i) f n (fun i hi => by simp [show ¬ i = n by omega]), if_pos rfl, show n + 1 - 1 - n = 0 by omega]
      have h := dbl_xor (V f n) 0 ((f n).toNat) 1 (by have := Bool.toNat_le (f n); omega) (by omega)
      simp only [Nat.mul_zero, Nat.zero_add, Nat.xor_zero] at h
      rw [Nat.pow_zero, h]
      cases f n <;> rfl
    · rw [if_neg e, ih (by omega), show n + 1 - 1 - j = (n - 1 - j) + 1 by omega, Nat.pow_succ, Nat.mul_comm (2 ^ _) 2]
      have h := dbl_xor (V f n) (2 ^ (n - 1 - j)) ((f n).toNat) 0 (by have := Bool.toNat_le (f n); omega) (by omega)
      simp only [Nat.add_zero, Nat.xor_zero] at h
      rw [h]

/-- The bits of bytes, each byte's highest first. -/
def fb (bs : Nat → Nat) (n : Nat) : Bool := (bs (n / 8)).testBit (7 - n % 8)
theorem fb_at (bs : Nat → Nat) (i j : Nat) (hj : j < 8) : fb bs (8 * i + j) = (bs i).testBit (7 - j) := by
  unfold fb
  rw [show (8 * i + j) / 8 = i by omega, show (8 * i + j) % 8 = j by omega]
theorem V_add (f : Nat → Bool) (n k : Nat) : V f (n + k) = C (V f n) (2 ^ k) ^^^ V (fun i => f (n + i)) k := by
  induction k with
  | zero => rw [Nat.pow_zero, C_one_right]; exact (Nat.xor_zero _).symm
  | succ k ih =>
    show 2 * V f (n + k) + (f (n + k)).toNat = C (V f n) (2 ^ (k + 1)) ^^^ (2 * V (fun i => f (n + i)) k + (f (n + k)).toNat)
    have hb : (f (n + k)).toNat < 2 := by have := Bool.toNat_le (f (n + k)); omega
    rw [ih, Nat.pow_succ, Nat.mul_comm (2 ^ k) 2, C_two_right]
    have h := dbl_xor (C (V f n) (2 ^ k)) (V (fun i => f (n + i)) k) 0 ((f (n + k)).toNat) (by omega) hb
    simp only [Nat.add_zero, Nat.zero_xor] at h
    rw [h]

end Go.Proofs.Ytohhidnockmkaaa.PM
