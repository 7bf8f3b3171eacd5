/- Part 51 of the texts on which the proofs of layer 13 rest: contracts of Go functions. -/
import Derived.Test.YtpgdghjlfdehjaaGreatPkR29
import Derived.Test.YtpgdghjlfdehjaaGreatPkR30
import Derived.Test.YtpgdghjlfdehjaaGreatPkR49
namespace Go.Proofs.YtpgdghjlfdehjaaGreat
set_option maxRecDepth 100000
open Go.RowKit
theorem enc_kind {k c s n : Nat} {f : Int} {len : Nat} {bs : Nat → Nat} (h : DE (encI k c s n f len bs).2 (encI k c s n f len bs).1 = 0) : (encI k c s n f len bs).2 0 = k := by
  unfold encI at *
  by_cases hE : LW k c s n f len len = 0
  · rw [if_pos hE]
    show PM.sl (fr k c s n f.toNat len bs) (15 + len) 0 = k
    unfold PM.sl PM.ct
    rw [if_pos (by omega)]
    rfl
  · rw [if_neg hE] at h
    exact absurd h (by show DE (fun _ => 0) 0 ≠ 0; decide)
theorem fo_same {P : Pm} {s s' : Sd} {K N fl : Int} {odd : Bool} {len : Nat} {bs : Nat → Nat} {x : Nat} {f1 f2 : Fm} (hK : 1 ≤ K ∧ K ≤ 7) (h1 : Fo P s K N fl odd len bs x f1) (h2 : Fo P s K N fl odd len bs x f2) (ha : Ac P s s' f2.1 f2.2) : f1 = f2 := by
  obtain ⟨a1, a2, a3, a4, a5, a6, a7, a8, a9⟩ := h1
  obtain ⟨b1, b2, b3, b4, b5, b6, b7, b8, b9⟩ := h2
  have : K = 1 ∨ K = 2 ∨ K = 3 ∨ K = 4 ∨ K = 5 ∨ K = 6 ∨ K = 7 := by omega
  rcases this with rfl | rfl | rfl | rfl | rfl | rfl | rfl
  · rw [a1 rfl, b1 rfl]
  · exfalso
    obtain ⟨so, sg, e⟩ := b6 rfl
    have hd := ha.de
    have hk := ha.kd
    rw [e] at hd hk
    have := enc_kind hd
    omega
  · rw [a3 rfl, b3 rfl]
  · rw [a4 rfl, b4 rfl]
  · rw [a5 rfl, b5 rfl]
  · rw [a7 rfl, b7 rfl]
  · by_cases hb : x ≠ 0 ∧ PM.bl x ≤ 8 * (encI 4 P.c (oses s odd) (onum s N) fl len bs).1
    · exfalso
      have h1 := b8 rfl hb
      have h2 := ha.de
      omega
    · rw [a9 rfl hb, b9 rfl hb]
def Tk (K : Int) (s s' : Sd) (f : Fm) : Prop := (1 ≤ K ∧ K ≤ 7) ∧ DE f.2 f.1 = 0 ∧ s'.ss = s.ss ∧ s'.nm ≠ s.nm
theorem rise_step {L : Pl} {s s' : Sd} {K N fl : Int} {odd : Bool} {len : Nat} {bs : Nat → Nat} {x : Nat} {f : Fm} {a b : Nat} (hv : Iv L.P s) (M : Mo L.mx L.n s) (hl : Lh s a b) (ho : Osx L s K N fl odd len bs x s') (hf : 1 ≤ K ∧ K ≤ 7 → Fo L.P s K N fl odd len bs x f) :
    (Tk K s s' f → (a < s'.ss ∨ a = s'.ss ∧ b < s'.nm) ∧ w4v f.2 5 = s'.ss ∧ w4v f.2 9 = s'.nm ∧ (von s'.v = true → f.1 - 19 = L.P.o ∧ s'.v.bs = fun i => f.2 (15 + i)) ∧ Lh s' s'.ss s'.nm) ∧
    (¬ Tk K s s' f → Ak s.v s'.v ∧ Lh s' a b) := by
  have nt : Nt s s' → (Tk K s s' f → (a < s'.ss ∨ a = s'.ss ∧ b < s'.nm) ∧ w4v f.2 5 = s'.ss ∧ w4v f.2 9 = s'.nm ∧ (von s'.v = true → f.1 - 19 = L.P.o ∧ s'.v.bs = fun i => f.2 (15 + i)) ∧ Lh s' s'.ss s'.nm) ∧ (¬ Tk K s s' f → Ak s.v s'.v ∧ Lh s' a b) :=
    fun n => ⟨fun t => absurd (n.nm t.2.2.1) t.2.2.2, fun _ => ⟨n.ak, hl.nt n⟩⟩
  obtain ⟨o1, o8, o9, o10, o11, o12, oN⟩ := ho
  by_cases h7 : 1 ≤ K ∧ K ≤ 7
  · obtain ⟨f2, _, fo2, e⟩ := o1 h7
    have hr := rise_recv (mx := L.mx) (n := L.n) hv M f2.1 f2.2
    rw [← e] at hr
    rcases hr with n | ac
    · exact nt n
    · have hs := fo_same h7 (hf h7) fo2 ac
      subst hs
      have q := hl.ac hv ac
      refine ⟨fun _ => ⟨q.1, ac.w5, ac.w9, ac.out, q.2⟩, fun t => absurd (⟨h7, ac.de, ac.ss, ?_⟩ : Tk K s s' f) t⟩
      have := ac.nm
      omega
  · by_cases h12 : 1 ≤ K ∧ K ≤ 12
    · have : K = 8 ∨ K = 9 ∨ K = 10 ∨ K = 11 ∨ K = 12 := by omega
      rcases this with e | e | e | e | e
      · exact nt (by rw [o8 e]; exact Nt.tick s N)
      · exact nt (by rw [o9 e]; exact Nt.write s len bs odd)
      · exact nt (by rw [o10 e]; exact Nt.ack s)
      · exact nt (by rw [o11 e]; exact Nt.reset hv M N)
      · exact nt (by rw [o12 e]; exact Nt.arm s N)
    · exact nt (by rw [oN h12]; exact Nt.refl s)
theorem lh_new (ms : Ms) : Lh (dnew ms) 0 0 := ⟨Nat.zero_le _, fun h => absurd rfl h⟩
theorem frame_all13 (d m g n mx : Nat) (P : Pm) (U : List Nat) (s : Sd) (K N fl : Int) (odd : Bool) (a : Option Addr) (len cap : Nat) (bs : Nat → Nat) (p : Int) (x : Nat) (w : World) (h : RW w d m g n mx P U s) (hr : Row8 w a len cap bs) (ha : ∀ y, a = some y → 0 < len → y.block < w.heap.size) (hss : s.ss < 4294967296) (hx : x < 4294967296) (hlen : len ≤ 140737488351232) :
    Calls Tryz.prog 22 #[.pointer (some ⟨d, 0, none⟩), .agg #[.int .i64 K, .int .i64 N, .int .i64 fl, .bool odd, .slice a len cap, .int .i64 p, .int .u32 (x : Nat)]] w fun e w' => ∃ (av : Option Addr) (f : Fm) (cv : Nat) (ib : Bool), e = .returned (.tuple #[.slice av f.1 cv, .bool ib]) ∧ Hid (ib = decide (1 ≤ K ∧ K ≤ 7) ∧ Row8 w' av f.1 cv f.2 ∧ Below w.heap.size w w' ∧ (∀ y, av = some y → w.heap.size ≤ y.block ∧ y.block < w'.heap.size) ∧ (1 ≤ K ∧ K ≤ 7 → Fo P s K N fl odd len bs x f) ∧ (¬ (1 ≤ K ∧ K ≤ 7) → DE f.2 f.1 ≠ 0)) := by
  by_cases hK : 1 ≤ K ∧ K ≤ 7
  · refine (frame_op d m g n mx P U s K N fl odd a len cap bs p x w h hr ha hss hx hlen hK).mono ?_
    rintro e w' ⟨v, rfl, h2⟩
    obtain ⟨b2, f, F2, y2, l2, fo⟩ := h2.out
    obtain ⟨av, cv, rfl, rv⟩ := F2.row y2
    exact ⟨av, f, cv, true, rfl, (decide_eq_true hK).symm, rv, b2, fun y hy => own_far F2 y hy, fun _ => fo, fun k => absurd hK k⟩
  · refine (frameN_any d m g n mx P U s K N fl odd a len cap bs p x w h hr ha hss hK).mono ?_
    rintro e w' ⟨rfl, b2⟩
    exact ⟨none, fm0, 0, false, rfl, (decide_eq_false hK).symm, row_nilX _ _, b2, (fun y hy => by cases hy), fun k => absurd k hK, fun _ => by show DE (fun _ => 0) 0 ≠ 0; decide⟩
end Go.Proofs.YtpgdghjlfdehjaaGreat
