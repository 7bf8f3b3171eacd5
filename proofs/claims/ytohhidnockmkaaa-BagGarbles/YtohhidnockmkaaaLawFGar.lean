/- BagGarbles: a garbled copy of a sealed frame isn't valid; garbled again it is the frame. -/
import Derived.Test.YtohhidnockmkaaaAw15
namespace Go.Proofs.Ytohhidnockmkaaa
open Go.RowKit Go.Maps

theorem V_congrB (f g : Nat → Bool) (n : Nat) (h : ∀ k, k < n → f k = g k) : PM.V f n = PM.V g n := by
  induction n with
  | zero => rfl
  | succ n ih => show 2 * PM.V f n + (f n).toNat = 2 * PM.V g n + (g n).toNat; rw [ih (fun k hk => h k (by omega)), h n (by omega)]
theorem V_zeroB (f : Nat → Bool) (n : Nat) (h : ∀ k, k < n → f k = false) : PM.V f n = 0 := by
  induction n with
  | zero => rfl
  | succ n ih => show 2 * PM.V f n + (f n).toNat = 0; rw [ih (fun k hk => h k (by omega)), h n (by omega)]; rfl
theorem V_topB (x s : Nat) (hx : x < 2 ^ s) (i : Nat) (hi : i ≤ s) : PM.V (fun k => x.testBit (s - 1 - k)) i = x >>> (s - i) := by
  induction i with
  | zero => show 0 = _; rw [Nat.shiftRight_eq_div_pow, Nat.sub_zero, Nat.div_eq_of_lt hx]
  | succ i ih =>
    show 2 * PM.V (fun k => x.testBit (s - 1 - k)) i + (x.testBit (s - 1 - i)).toNat = _
    rw [ih (by omega), PM.shr_step x (s - (i + 1)) (s - i) (by omega), show s - 1 - i = s - (i + 1) by omega]
theorem ly_VB {at_ x n : Nat} (h : at_ + PM.bl x ≤ n) : PM.V (PM.ly at_ (PM.bl x) x (PM.bl x)) n = PM.C x (2 ^ (n - at_ - PM.bl x)) := by
  obtain ⟨d, rfl⟩ : ∃ d, n = at_ + PM.bl x + d := ⟨n - at_ - PM.bl x, by omega⟩
  rw [PM.V_add, PM.V_add, V_zeroB (PM.ly at_ (PM.bl x) x (PM.bl x)) at_ (fun k hk => by unfold PM.ly; rw [decide_eq_false (by omega)]; rfl),
    V_zeroB (fun i => PM.ly at_ (PM.bl x) x (PM.bl x) (at_ + PM.bl x + i)) d (fun k hk => by unfold PM.ly; rw [decide_eq_false (by omega)]; rfl),
    V_congrB (fun i => PM.ly at_ (PM.bl x) x (PM.bl x) (at_ + i)) (fun k => x.testBit (PM.bl x - 1 - k)) (PM.bl x) (fun k hk => by unfold PM.ly; rw [decide_eq_true (by omega), Bool.true_and, show at_ + k - at_ = k by omega]),
    V_topB x (PM.bl x) (PM.lt_bl x) (PM.bl x) (Nat.le_refl _), Nat.sub_self, Nat.shiftRight_zero, Nat.xor_zero, show at_ + PM.bl x + d - at_ - PM.bl x = d by omega, PM.C_pow_right 0, Nat.zero_mul, Nat.zero_xor]
/-- A burst in a valid list: not valid. -/
theorem garb_not {f q : Nat → Nat} {n at_ x : Nat} (hx : x < 4294967296) (hx0 : x ≠ 0) (hfit : at_ + PM.bl x ≤ 8 * n) (hq : ∀ k, k < 8 * n → PM.fb q k = PM.ly at_ (PM.bl x) x (PM.bl x) k) (hf : PM.R PM.g 32 (PM.V (PM.fb f) (8 * n)) = 0) :
    ¬ PM.R PM.g 32 (PM.V (PM.fb (xr f q)) (8 * n)) = 0 := by
  intro h
  rw [show xr f q = fun i => f i ^^^ q i from rfl, PM.V_bytes_xor, PM.R_xor, hf, Nat.zero_xor, V_congrB (PM.fb q) _ _ hq, ly_VB hfit] at h
  exact hx0 (PM.burst x _ hx h)
set_option maxRecDepth 100000 in
set_option maxHeartbeats 2000000 in
theorem garb_long (a0 : Option Addr) (len0 cap0 : Nat) (a1 a2 : Int) (w : World) (h : 20 < len0) :
    Calls Try.prog 4 #[.slice a0 len0 cap0, .int .i64 a1, .int .u32 a2] w fun e w' => e = .returned (.bool true) ∧ Below w.heap.size w w' := by
  have hJ : (20 : Int) < (len0 : Int) := by omega
  go_enter Try.func4, Try.ntmps4
  go_wp2_with fail
  refine (awake15 _).mono ?_
  rintro e w1 ⟨rfl, b1⟩
  have B1 : Hid (_) := b1
  clear b1
  go_wp2_with fail
  go_ret
  exact ⟨rfl, B1.out⟩
set_option maxRecDepth 100000 in
set_option maxHeartbeats 1000000 in
theorem garb_any (a0 : Option Addr) (len0 cap0 : Nat) (bs : Nat → Nat) (a1 : Int) (x : Nat) (w : World) (R : Row8 w a0 len0 cap0 bs) (h20 : len0 ≤ 20) (ha : -9223372036854775808 ≤ a1 ∧ a1 < 9223372036854775808) (hx : x < 4294967296) :
    Calls Try.prog 4 #[.slice a0 len0 cap0, .int .i64 a1, .int .u32 (x : Nat)] w fun e w' => e = .returned (.bool true) ∧ Below w.heap.size w w' := by
  obtain ⟨i0, hi, hz0, hz1, hz2⟩ := info_parts info_u8
  have hbd := build0B
  have hJ : ¬ (20 : Int) < (len0 : Int) := by omega
  have hby := R.byte
  go_enter Try.func4, Try.ntmps4
  go_wp2_with fail
  refine (awake15 _).mono ?_
  rintro e w1 ⟨rfl, b1⟩
  have R1 : Row8 w1 a0 len0 cap0 bs := R.below b1
  have hbelA : Below w1.heap.size w1 (w1.alloc (.cells #[] 5)) := (Below.refl _ _).alloc (Nat.le_refl _) _
  have R0 := R1.below hbelA
  have O0 := own0B w1.heap.size bs w1 (Nat.le_refl _)
  have hszA := hbelA.size
  have B1 : Hid (_) := b1
  clear b1 R R1
  go_wp2_with (at_builtin; refine wpList_append_row8 rfl (.tmp 18) (.tmp 19) 31 rfl w1.heap.size 5 i0 (.int .u8 0) Try.underlying31 hi hz0 hz1 hz2 rfl _ 0 _ rfl O0 a0 len0 cap0 bs rfl R0 (by unfold maxLen; omega) (by omega) hszA ?_)
  intro v2 w2 hown2 hgrow2
  have hbel2 : Below w1.heap.size w1 w2 := hbelA.grown hgrow2 hszA (fun k hk => (O0.lt k hk).1)
  replace hown2 : w2.ownsRow w1.heap.size 5 1 v2 len0 (CB bs len0) := by simpa [CB] using hown2
  obtain ⟨a2, k2, rfl, R2⟩ := own_row8 hown2 hby
  have hS := seal_row a2 len0 k2 bs w2 R2 (by omega)
  have B2 : Hid (Below w.heap.size w w2) := B1.out.trans (hbel2.mono B1.out.size)
  clear hown2 hgrow2 hbel2 O0 R0 R2 hbelA B1 hszA
  go_wp2_with fail
  refine hS.mono ?_
  rintro e w3 ⟨v3, rfl, o3, b3⟩
  have hV := PM.V_sl bs len0
  have fby : ∀ i, i < len0 + 4 → PM.sl bs len0 i < 256 := PM.ct_lt (k := 4) hby (fun i _ => PM.w4_lt _ i)
  obtain ⟨N, eN⟩ : ∃ N, N = len0 + 4 := ⟨_, rfl⟩
  rw [← eN] at o3 hV fby
  have hN : N ≤ 24 := by omega
  have h4 : 4 ≤ N := by omega
  obtain ⟨f, ef⟩ : ∃ f, f = PM.sl bs len0 := ⟨_, rfl⟩
  rw [← ef] at o3 hV fby
  obtain ⟨a3, k3, rfl, R3⟩ := own_row8 o3 fby
  have HV : Hid (_) := hV
  clear hV
  have B3 : Hid (Below w.heap.size w w3) := B2.out.trans (b3.mono B2.out.size)
  clear hS b3 B2 o3 ef eN hby
  go_wp2_with fail
  refine (bnew_any w3).mono ?_
  rintro e w4 ⟨rfl, H4⟩
  obtain ⟨b, eb⟩ : ∃ b, b = w3.heap.size + 1 := ⟨_, rfl⟩
  obtain ⟨m, em⟩ : ∃ m, m = w3.heap.size := ⟨_, rfl⟩
  rw [← eb]
  have K4 : Hid (Below w.heap.size w w4 ∧ Bg m w4 b m (.slice none 0 0) [] none [] ∧ w.heap.size ≤ m ∧ m < w4.heap.size) := by
    obtain ⟨c1, c2, c3⟩ := H4.out
    refine ⟨B3.out.trans (c1.mono B3.out.size), by rw [eb, em]; exact c2, by rw [em]; exact B3.out.size, by omega⟩
  have R4 : Row8 w4 a3 N k3 f := R3.below H4.out.1
  have hbelA : Below w4.heap.size w4 (w4.alloc (.cells #[] 5)) := (Below.refl _ _).alloc (Nat.le_refl _) _
  have R0 := R4.below hbelA
  have O0 := own0B w4.heap.size f w4 (Nat.le_refl _)
  have hszA := hbelA.size
  have na3 : ∀ y, a3 = some y → y.block < m := by
    intro y hy
    have h0 := R3.src y hy 0 (by omega)
    have := World.block_lt_of_cell? w3 _ h0
    have e : (y.add 0).block = y.block := by unfold Addr.add; split <;> rfl
    rw [e] at this
    omega
  clear H4 B3 R3 eb em
  go_wp2_with (at_builtin; refine wpList_append_row8 rfl (.tmp 24) (.tmp 25) 31 rfl w4.heap.size 5 i0 (.int .u8 0) Try.underlying31 hi hz0 hz1 hz2 rfl _ 0 _ rfl O0 a3 N k3 f rfl R0 (by unfold maxLen; omega) (by omega) hszA ?_)
  intro v5 w5 hown5 hgrow5
  have hbel5 : Below w4.heap.size w4 w5 := hbelA.grown hgrow5 hszA (fun k hk => (O0.lt k hk).1)
  replace hown5 : w5.ownsRow w4.heap.size 5 1 v5 N (CB f N) := by simpa [CB] using hown5
  obtain ⟨a5, k5, rfl, R5⟩ := own_row8 hown5 fby
  have na5 : ∀ y, a5 = some y → y.block ≠ m := by
    intro y hy
    rcases hown5.2 with ⟨e, _⟩ | ⟨g, c, cur, e, hg, _⟩
    · simp at e; rw [e.1] at hy; cases hy
    · simp at e; rw [e.1] at hy; cases hy; have := K4.out.2.2.2; show g ≠ m; omega
  have G5 := K4.out.2.1.below hbel5
  have hP := bput_any m b m _ _ _ _ a5 N k5 f w5 G5 R5 na5 (by omega) (by simp) (by have := K4.out.2.2.2; have := hbel5.size; omega)
  have K5 : Hid (Below w.heap.size w w5 ∧ Bg m w5 b m (.slice none 0 0) [] none [] ∧ w.heap.size ≤ m ∧ m < w5.heap.size ∧ Row8 w5 a3 N k3 f) := ⟨K4.out.1.trans (hbel5.mono K4.out.1.size), G5, K4.out.2.2.1, Nat.lt_of_lt_of_le K4.out.2.2.2 hbel5.size, R4.below hbel5⟩
  clear hown5 hgrow5 hbel5 O0 R0 R5 R4 hbelA K4 hszA G5 na5
  go_wp2_with fail
  refine hP.mono ?_
  rintro e w6 ⟨rfl, H6⟩
  simp only [List.length_nil, Nat.zero_add, List.nil_append] at H6
  obtain ⟨g6, cap6, x6, p6, o6, G6, _⟩ := H6.out
  have K6 : Hid (Below w.heap.size w w6 ∧ Bg m w6 b m (.slice (some ⟨g6, 0, none⟩) 1 cap6) [x6] p6 [(N, f)] ∧ w.heap.size ≤ m ∧ m < w6.heap.size) := by
    obtain ⟨c1, c2, c3, c4, _⟩ := K5.out
    have b6 : Below m w5 w6 := c2.after o6 (Below.refl _ _) (Nat.le_of_lt c4)
    exact ⟨c1.trans (b6.mono c3), G6, c3, Nat.lt_of_lt_of_le c4 b6.size⟩
  have R6 : Row8 w6 a3 N k3 f := by
    obtain ⟨c1, c2, c3, c4, c5⟩ := K5.out
    refine c5.offB o6 (fun y hy hm => ?_)
    have := na3 y hy
    simp only [Value.ownBlock, Option.toList_none, List.mem_cons, List.not_mem_nil, or_false] at hm
    rcases hm with e | e
    · have := c2.bB; omega
    · omega
  have hc6 := fun wx (hx : Below w6.heap.size w6 wx) => conv_any a3 N k3 f wx (R6.below hx)
  have HC : Hid (_) := hc6
  have HR : Hid (Row8 w6 a3 N k3 f ∧ ∀ y, a3 = some y → y.block < m) := ⟨R6, na3⟩
  clear hP H6 o6 G6 hc6 R6 K5 na3
  by_cases hE : mkErr N a1 x = 0
  · have hnr : ¬ ((N : Int) < 0 ∨ 65536 < (N : Int)) := by omega
    have hbr : ¬ (x = 0 ∨ a1 < 0 ∨ 8 * (N : Int) < a1 + PM.bl x) := fun h => by rw [mkErr_burst hnr h] at hE; omega
    obtain ⟨A, rfl⟩ : ∃ A : Nat, a1 = A := ⟨a1.toNat, by omega⟩
    have hx0 : x ≠ 0 := by omega
    have hfit : A + PM.bl x ≤ 8 * N := by omega
    have hG := bgarb_good m b m _ _ _ _ 0 (N, f) A x w6 K6.out.2.1 rfl hx hx0 hfit
    have HF : Hid (x ≠ 0 ∧ A + PM.bl x ≤ 8 * N) := ⟨hx0, hfit⟩
    clear hE hnr hbr hx0 hfit ha
    go_wp2_with fail
    refine hG.mono ?_
    rintro e w7 ⟨g7, c7, rfl, H7⟩
    obtain ⟨b7, ⟨q, oq, qb, ql⟩, lg7⟩ := H7.out
    have G7 := K6.out.2.1.below b7
    have hG2 := bget_any m b m _ _ _ _ 0 (N, f) w7 G7 rfl
    have nv := garb_not hx HF.out.1 HF.out.2 ql HV.out
    have xb := xr_lt fby qb
    obtain ⟨ay, cy, ey, R7⟩ := own_row8 oq xb
    simp only [Value.slice.injEq, true_and] at ey
    obtain ⟨rfl, rfl⟩ := ey
    have K7 : Hid (Below w.heap.size w w7 ∧ Bg m w7 b m (.slice (some ⟨g6, 0, none⟩) 1 cap6) [x6] p6 [(N, f)] ∧ w.heap.size ≤ m ∧ m < g7 ∧ Row8 w7 (some ⟨g7, 0, none⟩) N c7 (xr f q) ∧ Below w6.heap.size w6 w7) := ⟨K6.out.1.trans (b7.mono K6.out.1.size), G7, K6.out.2.2.1, Nat.lt_of_lt_of_le K6.out.2.2.2 lg7, R7, b7⟩
    have HQ : Hid ((∀ i, i < N → q i < 256) ∧ (∀ k, k < 8 * N → PM.fb q k = PM.ly A (PM.bl x) x (PM.bl x) k) ∧ ¬ PM.R PM.g 32 (PM.V (PM.fb (xr f q)) (8 * N)) = 0 ∧ ∀ i, i < N → xr f q i < 256) := ⟨qb, ql, nv, xb⟩
    clear hG H7 K6 b7 oq qb ql G7 R7 nv xb lg7
    go_wp2_with fail
    refine hG2.mono ?_
    rintro e w8 ⟨a8, c8, rfl, H8⟩
    obtain ⟨b8, o8⟩ := H8.out
    obtain ⟨ay, cy, ey, R8⟩ := own_row8 o8 fby
    simp only [Value.slice.injEq, true_and] at ey
    obtain ⟨rfl, rfl⟩ := ey
    have k1 := conv_any _ _ _ _ w8 R8
    have k2 := HC.out w8 (K7.out.2.2.2.2.2.trans (b8.mono K7.out.2.2.2.2.2.size))
    have v1 := fun n => valid_row _ _ _ _ (w8.drewN n) ((K7.out.2.2.2.2.1.below b8).drewN n) (by omega)
    have v0 := valid_row _ _ _ _ w8 (K7.out.2.2.2.2.1.below b8) (by omega)
    rw [decide_eq_false (fun h => HQ.out.2.2.1 h.2)] at v0
    have v2 := fun n => valid_row _ _ _ _ (w8.drewN n) (R8.drewN n) (by omega)
    have hdt : decide (4 ≤ N ∧ PM.R PM.g 32 (PM.V (PM.fb f) (8 * N)) = 0) = true := decide_eq_true ⟨h4, HV.out⟩
    have v3 : ∀ n, Calls Try.prog 20 #[.slice a8 N c8] (w8.drewN n) fun e w' => e = .returned (.bool true) ∧ ∃ m, w' = (w8.drewN n).drewN m := fun n => by
      have := v2 n
      rw [hdt] at this
      exact this
    have K8 : Hid (Below w.heap.size w w8 ∧ Bg m w8 b m (.slice (some ⟨g6, 0, none⟩) 1 cap6) [x6] p6 [(N, f)] ∧ w.heap.size ≤ m ∧ m < g7 ∧ Row8 w8 (some ⟨g7, 0, none⟩) N c7 (xr f q) ∧ Below w6.heap.size w6 w8) := by
      obtain ⟨d1, d2, d3, d4, d5, d6⟩ := K7.out
      exact ⟨d1.trans (b8.mono d1.size), d2.below b8, d3, d4, d5.below b8, d6.trans (b8.mono d6.size)⟩
    clear hG2 H8 b8 o8 R8 v1 v2 hdt K7
    obtain ⟨X, hX⟩ : ∃ X, BA f N = X := ⟨_, rfl⟩
    rw [hX] at k1 k2
    go_wp2_with fail
    refine v0.mono ?_
    rintro e w9 ⟨rfl, n9, rfl⟩
    clear v0
    go_wp2_with fail
    refine (v3 n9).mono ?_
    rintro e w10 ⟨rfl, n10, hw10⟩
    have d10 : Below w8.heap.size w8 w10 := by rw [hw10]; exact below_drewN (below_drewN (Below.refl _ _) _) _
    clear hw10 v3 k1 k2
    have G10 := K8.out.2.1.below d10
    have hP2 := bput_any m b m _ _ _ _ _ N c7 (xr f q) w10 G10 (K8.out.2.2.2.2.1.below d10) (fun y hy => by cases hy; have := K8.out.2.2.2.1; show g7 ≠ m; omega) (by omega) (by simp) (by have := G10.met.lt; omega)
    have K10 : Hid (Below w.heap.size w w10 ∧ Bg m w10 b m (.slice (some ⟨g6, 0, none⟩) 1 cap6) [x6] p6 [(N, f)] ∧ w.heap.size ≤ m ∧ m ≤ w10.heap.size ∧ Row8 w10 a3 N k3 f) := by
      obtain ⟨d1, d2, d3, d4, d5, d6⟩ := K8.out
      exact ⟨d1.trans (d10.mono d1.size), G10, d3, Nat.le_of_lt G10.met.lt, (HR.out.1.below d6).below d10⟩
    clear K8 d10 G10 HC
    go_wp2_with fail
    refine hP2.mono ?_
    rintro e w11 ⟨rfl, H11⟩
    simp only [List.length_cons, List.length_nil, Nat.zero_add, Nat.reduceAdd, List.cons_append, List.nil_append] at H11
    obtain ⟨g11, cap11, x11, p11, o11, G11, _⟩ := H11.out
    have K11 : Hid (Below w.heap.size w w11 ∧ Row8 w11 a3 N k3 f) := by
      obtain ⟨d1, d2, d3, d4, d5⟩ := K10.out
      have b11 : Below m w10 w11 := d2.after o11 (Below.refl _ _) d4
      refine ⟨d1.trans (b11.mono d3), d5.offB o11 (fun y hy hm => ?_)⟩
      have h1 := HR.out.2 y hy
      have h2 := d2.bB
      have h3 := (d2.fl.rows.lt g6 rfl).1
      simp only [Value.ownBlock, Option.toList_some, List.mem_cons, List.not_mem_nil, or_false] at hm
      omega
    have hG3 := bgarb_good m b m _ _ _ _ 1 (N, xr f q) A x w11 G11 rfl hx HF.out.1 HF.out.2
    clear hP2 H11 o11 G11 K10 HR
    go_wp2_with fail
    refine hG3.mono ?_
    rintro e w12 ⟨g12, c12, rfl, H12⟩
    obtain ⟨b12, ⟨q', oq, qb, ql⟩, _⟩ := H12.out
    have eb : BA (xr (xr f q) q') N = X := by
      rw [← hX]
      have hq : ∀ i, i < N → q' i = q i := PM.byte_ext qb HQ.out.1 (fun k hk => (ql k hk).trans (HQ.out.2.1 k hk).symm)
      rw [BA_eq _ _ N (xr_lt HQ.out.2.2.2 qb) fby]
      intro i hi
      show (f i ^^^ q i) ^^^ q' i = f i
      rw [hq i hi, Nat.xor_assoc, Nat.xor_self, Nat.xor_zero]
    obtain ⟨ay, cy, ey, R12⟩ := own_row8 oq (xr_lt HQ.out.2.2.2 qb)
    simp only [Value.slice.injEq, true_and] at ey
    obtain ⟨rfl, rfl⟩ := ey
    have k1 := conv_any _ _ _ _ w12 R12
    rw [eb] at k1
    have k2 := conv_any _ _ _ _ w12 (K11.out.2.below b12)
    rw [hX] at k2
    have HB : Hid (Below w.heap.size w w12) := K11.out.1.trans (b12.mono K11.out.1.size)
    clear hG3 H12 b12 oq qb ql R12 K11 eb hX HQ
    go_wp2_with fail
    go_ret
    exact ⟨by simp, HB.out⟩
  · have e30 : mkErr N a1 x = 30 := by
      have hnr : ¬ ((N : Int) < 0 ∨ 65536 < (N : Int)) := by omega
      rcases mkErr_cases hE with h | h
      · exact absurd h hnr
      · exact mkErr_burst h.1 h.2
    have hG := bgarb_bad m b m _ _ _ _ 0 (N, f) a1 x w6 K6.out.2.1 rfl hx ha hE
    rw [show mkErr ((N, f) : Bfm).1 a1 x = 30 from e30] at hG
    clear hE e30
    go_wp2_with fail
    refine hG.mono ?_
    rintro e w7 ⟨rfl, H7⟩
    have HB : Hid (Below w.heap.size w w7) := K6.out.1.trans (H7.out.mono K6.out.1.size)
    clear hG H7 K6
    go_wp2_with fail
    go_ret
    exact ⟨rfl, HB.out⟩
theorem bagGarbles_walk (a0 : Option Addr) (len0 cap0 : Nat) (z0 : List Int) (a1 : Int) (a2 : Int) (w : World) (w0 : BRow .u8 w a0 len0 cap0 z0) (w1 : (Lit.int .i64 a1).wf = true) (w2 : (Lit.int .u32 a2).wf = true) :
    Calls Try.prog 4 #[.slice a0 len0 cap0, .int .i64 a1, .int .u32 a2] w fun e w' => e = .returned (.bool true) ∧ Below w.heap.size w w' := by
  have e1 : IntKind.i64.min = -9223372036854775808 := by decide
  have e2 : IntKind.i64.max = 9223372036854775807 := by decide
  have e3 : IntKind.u32.min = 0 := by decide
  have e4 : IntKind.u32.max = 4294967295 := by decide
  simp [Lit.wf, e1, e2] at w1
  simp [Lit.wf, e3, e4] at w2
  obtain ⟨x, rfl⟩ : ∃ x : Nat, a2 = x := ⟨a2.toNat, by omega⟩
  by_cases h : len0 ≤ 20
  · exact garb_any a0 len0 cap0 _ a1 x w w0.row8 h (by omega) (by omega)
  · exact garb_long a0 len0 cap0 a1 _ w (by omega)
end Go.Proofs.Ytohhidnockmkaaa
