/- Part 50 of the texts on which the proofs of layer 13 rest: contracts of Go functions. -/
import Derived.Test.YtndjepeolamedaaGreatPkA15
import Derived.Test.YtndjepeolamedaaGreatPkA41
import Derived.Test.YtndjepeolamedaaGreatPkA46
namespace Go.Proofs.YtndjepeolamedaaGreat
set_option maxRecDepth 100000
open Go.RowKit
theorem fh_same {P : Pm} {s : Sh} {K N fl : Int} {odd : Bool} {len : Nat} {bs : Nat → Nat} {x : Nat} {f1 f2 : Fm} (hK : 1 ≤ K ∧ K ≤ 7) (h1 : Fh P s K N fl odd len bs x f1) (h2 : Fh P s K N fl odd len bs x f2) (hd : DE f2.2 f2.1 = 0) : f1 = f2 := by
  obtain ⟨a1, a2, a3, a4, a5, a6, a7, a8⟩ := h1
  obtain ⟨b1, b2, b3, b4, b5, b6, b7, b8⟩ := h2
  have : K = 1 ∨ K = 2 ∨ K = 3 ∨ K = 4 ∨ K = 5 ∨ K = 6 ∨ K = 7 := by omega
  rcases this with rfl | rfl | rfl | rfl | rfl | rfl | rfl
  · rw [a1 rfl, b1 rfl]
  · rw [a2 rfl, b2 rfl]
  · rw [a3 rfl, b3 rfl]
  · rw [a4 rfl, b4 rfl]
  · rw [a5 rfl, b5 rfl]
  · rw [a6 rfl, b6 rfl]
  · by_cases hb : x ≠ 0 ∧ PM.bl x ≤ 8 * (encI 20 P.c (hses s odd) (hnum s N) fl len bs).1
    · exfalso
      have h1 := b7 rfl hb
      omega
    · rw [a8 rfl hb, b8 rfl hb]
section
variable {P : Pm} {s : Sh}
theorem hsend_more (P : Pm) (s : Sh) : (hsendS P s).ss = s.ss ∧ Ak s.v (hsendS P s).v ∧ (((hsendS P s).st = s.st ∧ (hsendS P s).nm = s.nm) ∨ (hsendS P s).st = 1 ∨ (hsendS P s).st = 5) := by
  by_cases h5 : s.st = 5
  · have e : hsendS P s = s := by unfold hsendS; rw [if_pos h5]
    rw [e]; exact ⟨rfl, Ak.refl _, .inl ⟨rfl, rfl⟩⟩
  · have eS : hsendS P s = { (hnext P (hmiss s)).1 with wt := true } := by unfold hsendS; rw [if_neg h5]
    have hmc := hmiss_cases s
    rw [eS]
    generalize hmiss s = m at *
    have hmss : m.ss = s.ss := by rcases hmc with h | h <;> exact h.2.1
    have hak : Ak s.v m.v := by
      rcases hmc with h | h
      · rw [h.2.2.2.1]; exact Ak.refl _
      · exact Ak.off h.2.2.2
    have hst : (m.st = s.st ∧ m.nm = s.nm) ∨ m.st = 1 := by
      rcases hmc with h | h
      · exact .inl ⟨h.1, h.2.2.2.2.2.2⟩
      · exact .inr h.1
    have fin : ∀ t : Sh, t.ss = m.ss → t.v = m.v → t.st = m.st → t.nm = m.nm → t.ss = s.ss ∧ Ak s.v t.v ∧ ((t.st = s.st ∧ t.nm = s.nm) ∨ t.st = 1 ∨ t.st = 5) := fun t h1 h2 h3 h4 => by
      rw [h1, h2, h3, h4]
      refine ⟨hmss, hak, ?_⟩
      rcases hst with h | h
      · exact .inl h
      · exact .inr (.inl h)
    unfold hnext
    split
    · exact fin { m with wt := true } rfl rfl rfl rfl
    · split
      · exact fin { m with wt := true } rfl rfl rfl rfl
      · split
        · exact fin { m with wt := true } rfl rfl rfl rfl
        · split
          · obtain ⟨f1, f2, f3, f4, f5⟩ := hexh_flds { m with sn := m.sn + 1 }
            exact ⟨f2.trans hmss, Ak.off f5, .inr (.inr f1)⟩
          · exact fin { m with sn := m.sn + 1, wt := true } rfl rfl rfl rfl
structure Lr (s : Sh) (A B : Nat) : Prop where
  le : A ≤ s.ss
  lt : s.st = 2 ∨ s.st = 3 → A < s.ss
  rn : s.st = 4 → A = s.ss → B ≤ s.nm
theorem Lr.new_ : Lr hnew 0 0 := ⟨Nat.zero_le _, fun h => by have h : (1 : Nat) = 2 ∨ (1 : Nat) = 3 := h; omega, fun h => by have h : (1 : Nat) = 4 := h; omega⟩
theorem Lr.life (s : Sh) : Lr (hlife s) 0 0 := ⟨Nat.zero_le _, fun h => by have h : (1 : Nat) = 2 ∨ (1 : Nat) = 3 := h; omega, fun h => by have h : (1 : Nat) = 4 := h; omega⟩
theorem Lr.same {s s' : Sh} {A B : Nat} (h : Lr s A B) (h1 : s'.st = s.st) (h2 : s'.ss = s.ss) (h3 : s'.nm = s.nm) : Lr s' A B := ⟨by rw [h2]; exact h.le, by rw [h1, h2]; exact h.lt, by rw [h1, h2, h3]; exact h.rn⟩
theorem Lr.send {A B : Nat} (h : Lr s A B) : Lr (hsendS P s) A B := by
  obtain ⟨h1, _, h3⟩ := hsend_more P s
  rcases h3 with ⟨a, b⟩ | a | a
  · exact h.same a h1 b
  · exact ⟨by rw [h1]; exact h.le, fun k => by omega, fun k => by omega⟩
  · exact ⟨by rw [h1]; exact h.le, fun k => by omega, fun k => by omega⟩
def Tkh (K : Int) (s s' : Sh) (f : Fm) : Prop := (1 ≤ K ∧ K ≤ 7) ∧ DE f.2 f.1 = 0 ∧ s'.ss = s.ss ∧ s.nm < s'.nm
theorem take_onH (h : Ih P s) (hk : Vok s.v) (h4 : s.st = 4) (o : Bool) (bs : Nat → Nat) (ho : von (vtake (vhold (vfresh s.v) o) bs) = true) : (vtake (vhold (vfresh s.v) o) bs).bs = bs := by
  have hr : s.v.run = true := by rw [h.vr, h4]; rfl
  revert ho
  unfold vtake
  split
  · exact fun _ => rfl
  · rename_i hh
    intro ho
    exfalso
    have hl := hk.sm (von_run ho).2
    exact hh ⟨hr, hl⟩
theorem hrise_step {s' : Sh} {K N fl : Int} {odd : Bool} {len : Nat} {bs : Nat → Nat} {x : Nat} {f : Fm} {A B : Nat} (hv : Ih P s) (hk : Vok s.v) (hl : Lr s A B) (ho : Osh P s K N fl odd len bs x s') (hf : 1 ≤ K ∧ K ≤ 7 → Fh P s K N fl odd len bs x f) :
    (Tkh K s s' f → (A < s'.ss ∨ A = s'.ss ∧ B < s'.nm) ∧ w4v f.2 5 = s'.ss ∧ w4v f.2 9 = s'.nm ∧ (von s'.v = true → f.1 - 19 = P.i ∧ s'.v.bs = fun i => f.2 (15 + i)) ∧ Lr s' s'.ss s'.nm) ∧
    (¬ Tkh K s s' f → Ak s.v s'.v ∧ (K = 11 → Lr s' 0 0) ∧ (K ≠ 11 → Lr s' A B)) := by
  have nt : ¬ Tkh K s s' f → K ≠ 11 → Ak s.v s'.v → Lr s' A B → (Tkh K s s' f → (A < s'.ss ∨ A = s'.ss ∧ B < s'.nm) ∧ w4v f.2 5 = s'.ss ∧ w4v f.2 9 = s'.nm ∧ (von s'.v = true → f.1 - 19 = P.i ∧ s'.v.bs = fun i => f.2 (15 + i)) ∧ Lr s' s'.ss s'.nm) ∧ (¬ Tkh K s s' f → Ak s.v s'.v ∧ (K = 11 → Lr s' 0 0) ∧ (K ≠ 11 → Lr s' A B)) :=
    fun n h11 a l => ⟨fun t => absurd t n, fun _ => ⟨a, fun e => absurd e h11, fun _ => l⟩⟩
  obtain ⟨o1, o8, o9, o10, o11, o12, oN⟩ := ho
  have hle := hl.le
  by_cases h7 : 1 ≤ K ∧ K ≤ 7
  · obtain ⟨f2, _, fo2, e⟩ := o1 h7
    rcases hrecv_cases P s f2.1 f2.2 with ⟨_, e2⟩ | ⟨_, hd, ⟨_, c1, c2, e2⟩ | ⟨_, c1, c2, e2⟩ | ⟨_, c1, c2, e2⟩ | ⟨_, c1, c2, c3, c4, c5, e2⟩ | ⟨_, c1, c2, c3, c4, e2⟩⟩
    · rw [e2] at e
      subst e
      exact nt (fun t => by have h := t.2.2.2; have h : s.nm < s.nm := h; omega) (by omega) (Ak.refl _) (hl.same rfl rfl rfl)
    · rw [e2] at e
      subst e
      exact nt (fun t => by have h := t.2.2.1; have h : w4v f2.2 5 = s.ss := h; omega) (by omega) (ak_fresh _) ⟨by show A ≤ w4v f2.2 5; omega, fun _ => by show A < w4v f2.2 5; omega, fun k => by have k : (2 : Nat) = 4 := k; omega⟩
    · rw [e2] at e
      subst e
      exact nt (fun t => by have h := t.2.2.2; have h : s.nm < s.nm := h; omega) (by omega) (ak_fresh _) ⟨hle, fun _ => hl.lt (.inl c1), fun k => by have k : (3 : Nat) = 4 := k; omega⟩
    · rw [e2] at e
      subst e
      exact nt (fun t => by have h := t.2.2.2; have h : s.nm < s.nm := h; omega) (by omega) ((ak_run s.v true).trans (ak_fresh _)) ⟨hle, fun k => by have k : (4 : Nat) = 2 ∨ (4 : Nat) = 3 := k; omega, fun _ k => by have := hl.lt (.inr c1); have k : A = s.ss := k; omega⟩
    · have hs := fh_same h7 (hf h7) fo2 hd
      subst hs
      rw [e2] at e
      subst e
      refine ⟨fun _ => ⟨?_, c2, rfl, fun ho => ⟨c5, take_onH hv hk c1 _ _ ho⟩, ⟨Nat.le_refl _, fun k => by have k : s.st = 2 ∨ s.st = 3 := k; omega, fun _ _ => Nat.le_refl _⟩⟩, fun t => absurd (⟨h7, hd, rfl, c3⟩ : Tkh K s { hon { s with nm := w4v f.2 9 } with v := vtake (vhold (vfresh s.v) (decide (8 ≤ f.2 13))) (fun i => f.2 (15 + i)) } f) t⟩
      show A < s.ss ∨ A = s.ss ∧ B < w4v f.2 9
      by_cases hA : A = s.ss
      · have := hl.rn c1 hA
        exact .inr ⟨hA, by omega⟩
      · exact .inl (by omega)
    · have hs := fh_same h7 (hf h7) fo2 hd
      subst hs
      rw [e2] at e
      obtain ⟨f1, f2, f3, f4, f5⟩ := hexh_flds (hon { s with nm := w4v f.2 9 })
      rw [← e] at f1 f2 f3 f4 f5
      have f2 : s'.ss = s.ss := f2
      have f3 : s'.nm = w4v f.2 9 := f3
      refine ⟨fun _ => ⟨?_, ?_, f3.symm, fun ho => ?_, ⟨Nat.le_refl _, fun k => by omega, fun k => by omega⟩⟩, fun t => absurd (⟨h7, hd, f2, by omega⟩ : Tkh K s s' f) t⟩
      · rw [f2, f3]
        by_cases hA : A = s.ss
        · have := hl.rn c1 hA
          exact .inr ⟨hA, by omega⟩
        · exact .inl (by omega)
      · rw [f2]; exact c2
      · rw [f5] at ho; cases ho
  · have nk : ¬ Tkh K s s' f := fun t => h7 t.1
    by_cases h12 : 1 ≤ K ∧ K ≤ 12
    · have : K = 8 ∨ K = 9 ∨ K = 10 ∨ K = 11 ∨ K = 12 := by omega
      rcases this with e | e | e | e | e
      · have q := o8 e
        refine nt nk (by omega) ?_ ?_
        · rw [q]
          unfold htickS
          split
          · exact Ak.refl _
          · split
            · rw [hlatch_v]; exact ak_trip _ _
            · exact Ak.refl _
        · rw [q]
          unfold htickS
          split
          · exact hl
          · split
            · obtain ⟨f1, f2, f3, _⟩ := hlatch_flds { s with dc := tk P.t s.dc N.toNat } 100
              exact hl.same f1 f2 f3
            · exact hl.same rfl rfl rfl
      · have q := o9 e
        refine nt nk (by omega) ?_ ?_
        · rw [q]
          unfold hwriteS
          split <;> exact Ak.refl _
        · rw [q]
          unfold hwriteS
          split
          · exact hl.same rfl rfl rfl
          · exact hl
      · have q := o10 e
        exact nt nk (by omega) (by rw [q]; exact ak_ack _) (by rw [q]; exact hl.same rfl rfl rfl)
      · have q := o11 e
        refine ⟨fun t => absurd t nk, fun _ => ⟨by rw [q]; exact Ak.off von_new, fun _ => by rw [q]; exact Lr.life s, fun h => absurd e h⟩⟩
      · have q := o12 e
        exact nt nk (by omega) (by rw [q]; exact (hsend_more P s).2.1) (by rw [q]; exact hl.send)
    · have q := oN h12
      exact nt nk (by omega) (by rw [q]; exact Ak.refl _) (by rw [q]; exact hl)
end
theorem HV.vok {w : World} {d : Nat} {P : Pm} {U : List Nat} {s : Sh} (h : RVh w d P U s) : Vok s.v := by
  obtain ⟨B, x⟩ := h
  exact x.vok
theorem hframe_all14 (d : Nat) (P : Pm) (U : List Nat) (s : Sh) (K N fl : Int) (odd : Bool) (a : Option Addr) (len cap : Nat) (bs : Nat → Nat) (p : Int) (x : Nat) (w : World) (h : RVh w d P U s) (hr : Row8 w a len cap bs) (ha : ∀ y, a = some y → 0 < len → y.block < w.heap.size) (hss : s.ss < 4294967296) (hx : x < 4294967296) (hlen : len ≤ 140737488351232) :
    Calls Tryz.prog 37 #[.pointer (some ⟨d, 0, none⟩), .agg #[.int .i64 K, .int .i64 N, .int .i64 fl, .bool odd, .slice a len cap, .int .i64 p, .int .u32 (x : Nat)]] w fun e w' => ∃ (av : Option Addr) (f : Fm) (cv : Nat) (ib : Bool), e = .returned (.tuple #[.slice av f.1 cv, .bool ib]) ∧ Hid (ib = decide (1 ≤ K ∧ K ≤ 7) ∧ Row8 w' av f.1 cv f.2 ∧ Below w.heap.size w w' ∧ (∀ y, av = some y → w.heap.size ≤ y.block ∧ y.block < w'.heap.size) ∧ (1 ≤ K ∧ K ≤ 7 → Fh P s K N fl odd len bs x f) ∧ (¬ (1 ≤ K ∧ K ≤ 7) → DE f.2 f.1 ≠ 0)) := by
  by_cases hK : 1 ≤ K ∧ K ≤ 7
  · refine (hframe_op d P U s K N fl odd a len cap bs p x w h hr ha hss hx hlen hK).mono ?_
    rintro e w' ⟨v, rfl, h2⟩
    obtain ⟨b2, f, F2, y2, l2, fo⟩ := h2.out
    obtain ⟨av, cv, rfl, rv⟩ := F2.row y2
    exact ⟨av, f, cv, true, rfl, (decide_eq_true hK).symm, rv, b2, fun y hy => own_far F2 y hy, fun _ => fo, fun k => absurd hK k⟩
  · refine (hframeN_any d P U s K N fl odd a len cap bs p x w h hr ha hss hK).mono ?_
    rintro e w' ⟨rfl, b2⟩
    exact ⟨none, fm0, 0, false, rfl, (decide_eq_false hK).symm, row_nilX _ _, b2, (fun y hy => by cases hy), fun k => absurd k hK, fun _ => by show DE (fun _ => 0) 0 ≠ 0; decide⟩
end Go.Proofs.YtndjepeolamedaaGreat
