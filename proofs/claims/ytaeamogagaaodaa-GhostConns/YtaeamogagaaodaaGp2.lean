/- Layer 18: a judge's pure story: two connections. -/
import Derived.Test.YtaeamogagaaodaaGp
namespace Go.Proofs.Ytaeamogagaaodaa
open Go.RowKit Go.Maps

noncomputable def seeL (J : Ju) (l : List Fa) : Ju := l.foldl Ju.see J
theorem sees_L (J : Ju) (F : Nat → Fa) : ∀ n, sees J F n = seeL J ((List.range n).map F)
  | 0 => rfl
  | n + 1 => by
    unfold sees seeL
    rw [List.range_succ, List.map_append, List.foldl_append, sees_L J F n]
    rfl
theorem seeL_app (J : Ju) (l : List Fa) (f : Fa) : seeL J (l ++ [f]) = (seeL J l).see f := by
  unfold seeL
  rw [List.foldl_append]
  rfl
/-- Of connection i both know the same. -/
structure Same1 (i : Nat) (J K : Ju) : Prop where
  len : J.cs.length = K.cs.length
  con : J.cs[i]? = K.cs[i]?
  snt : ∀ (t : TK) n x, t.c = ((i : Nat) : Int) → (J.S t n x ↔ K.S t n x)
theorem Same1.bad {i : Nat} {J K : Ju} (h : Same1 i J K) (f : Fa) : J.bad f ↔ K.bad f := by
  unfold Ju.bad
  rw [h.len]
theorem Same1.rule {i : Nat} {J K : Ju} (h : Same1 i J K) {f : Fa} (hf : f.c = ((i : Nat) : Int)) : J.rule f = K.rule f := by
  unfold Ju.rule
  rw [hf, Int.toNat_natCast, ← h.con]
  by_cases hb : J.bad f
  · rw [if_pos hb, if_pos ((h.bad f).1 hb)]
  · rw [if_neg hb, if_neg (fun q => hb ((h.bad f).2 q))]
    cases J.cs[i]? with
    | none => rfl
    | some c =>
      show J.rul c f = K.rul c f
      unfold Ju.rul Ju.tak
      have e : J.S ⟨f.c, oth f.s, f.ss⟩ f.nn f.x ↔ K.S ⟨f.c, oth f.s, f.ss⟩ f.nn f.x := h.snt _ _ _ hf
      have eS : J.S ⟨f.c, oth f.s, f.ss⟩ f.nn f.x = K.S ⟨f.c, oth f.s, f.ss⟩ f.nn f.x := propext e
      rw [eS]
theorem Same1.lrn {i : Nat} {J K : Ju} (h : Same1 i J K) {f : Fa} (hf : f.c = ((i : Nat) : Int)) : Same1 i (J.lrn f) (K.lrn f) := by
  unfold Ju.lrn
  rw [hf, Int.toNat_natCast, ← h.con]
  have hl := h.len
  have hs := h.snt
  cases hc : J.cs[i]? with
  | none => exact h
  | some c =>
    have hi := (List.getElem?_eq_some_iff.1 hc).1
    have hi' : i < K.cs.length := by omega
    have st : ∀ c', (J.cs.set i c')[i]? = (K.cs.set i c')[i]? := fun c' => by simp [hi, hi']
    have hcon := h.con
    dsimp only
    repeat' split
    all_goals
      first
        | exact ⟨hl, hcon, fun t n x ht => by simp only [hs t n x ht]⟩
        | exact ⟨by simp [hl], st _, fun t n x ht => by simp only [hs t n x ht]⟩
theorem Same1.other {i : Nat} {J K : Ju} (h : Same1 i J K) {f : Fa} {j : Nat} (hf : f.c = ((j : Nat) : Int)) (hij : i ≠ j) : Same1 i (J.lrn f) K := by
  unfold Ju.lrn
  rw [hf, Int.toNat_natCast]
  have hl := h.len
  have hs := h.snt
  have hcon := h.con
  cases J.cs[j]? with
  | none => exact h
  | some c =>
    have st : ∀ c', (J.cs.set j c')[i]? = K.cs[i]? := fun c' => by rw [List.getElem?_set_ne (Ne.symm hij)]; exact hcon
    have nt : ∀ (t : TK) (s : Int) (ss : Nat), t.c = ((i : Nat) : Int) → t ≠ ⟨((j : Nat) : Int), s, ss⟩ := fun t s ss ht e => by
      rw [e] at ht
      have : ((j : Nat) : Int) = ((i : Nat) : Int) := ht
      omega
    dsimp only
    repeat' split
    all_goals
      first
        | exact ⟨hl, hcon, fun t n x ht => ⟨fun q => (hs t n x ht).1 (q.resolve_right (fun k => nt t _ _ ht k.1)), fun q => .inl ((hs t n x ht).2 q)⟩⟩
        | exact ⟨by simp [hl], st _, fun t n x ht => ⟨fun q => (hs t n x ht).1 q.1, fun q => ⟨(hs t n x ht).2 q, nt t _ _ ht⟩⟩⟩
        | exact ⟨by simp [hl], st _, hs⟩
theorem Same1.num {i : Nat} {J K : Ju} (h : Same1 i J K) (m n : Nat) : Same1 i { J with n := m } { K with n := n } := ⟨h.len, h.con, h.snt⟩
theorem see_good {J : Ju} (h : J.r = 0) {f : Fa} (hr : J.rule f = 0) : J.see f = { J.lrn f with n := J.n + 1 } := by
  unfold Ju.see
  rw [if_neg (by simp [h]), if_neg (by simp [hr])]
theorem see_badr {J : Ju} (h : J.r = 0) {f : Fa} (hr : J.rule f ≠ 0) : (J.see f).r ≠ 0 := by
  unfold Ju.see
  rw [if_neg (by simp [h]), if_pos hr]
  exact hr
theorem see_keep {J : Ju} (h : J.r ≠ 0) (f : Fa) : (J.see f).r ≠ 0 := by rw [see_stuck h]; exact h
theorem seeL_stuck {J : Ju} (h : J.r ≠ 0) : ∀ l : List Fa, (seeL J l).r ≠ 0
  | [] => h
  | f :: l => by
    show (seeL (J.see f) l).r ≠ 0
    exact seeL_stuck (see_keep h f) l
/-- A history of two connections is good just if each one's facts are good by themselves. -/
theorem conns_pure : ∀ (l : List Fa), (∀ f, f ∈ l → f.c = 0 ∨ f.c = 1) → ∀ J A B : Ju, J.r = 0 → A.r = 0 → B.r = 0 → Same1 0 J A → Same1 1 J B → ((seeL J l).r = 0 ↔ (seeL A (l.filter (fun f => f.c == 0))).r = 0 ∧ (seeL B (l.filter (fun f => f.c == 1))).r = 0)
  | [], _, J, A, B, hJ, hA, hB, _, _ => ⟨fun _ => ⟨hA, hB⟩, fun _ => hJ⟩
  | f :: l, hl, J, A, B, hJ, hA, hB, sA, sB => by
    have hl' : ∀ g, g ∈ l → g.c = 0 ∨ g.c = 1 := fun g hg => hl g (List.mem_cons_of_mem _ hg)
    rcases hl f (List.mem_cons_self ..) with hc | hc
    · have e0 : (f :: l).filter (fun f => f.c == 0) = f :: l.filter (fun f => f.c == 0) := by simp [hc]
      have e1 : (f :: l).filter (fun f => f.c == 1) = l.filter (fun f => f.c == 1) := by simp [hc]
      rw [e0, e1]
      show (seeL (J.see f) l).r = 0 ↔ (seeL (A.see f) _).r = 0 ∧ _
      have hc' : f.c = ((0 : Nat) : Int) := hc
      have er := sA.rule hc'
      by_cases hr : J.rule f = 0
      · have hr' : A.rule f = 0 := er ▸ hr
        rw [see_good hJ hr, see_good hA hr']
        exact conns_pure l hl' _ _ _ ((lrn_rest J f).1.trans hJ) ((lrn_rest A f).1.trans hA) hB ((sA.lrn hc').num _ _) ((sB.other hc' (by omega)).num _ B.n)
      · have hr' : A.rule f ≠ 0 := er ▸ hr
        have k1 := seeL_stuck (see_badr hJ hr) l
        have k2 := seeL_stuck (see_badr hA hr') (l.filter (fun f => f.c == 0))
        exact ⟨fun q => absurd q k1, fun q => absurd q.1 k2⟩
    · have e0 : (f :: l).filter (fun f => f.c == 0) = l.filter (fun f => f.c == 0) := by simp [hc]
      have e1 : (f :: l).filter (fun f => f.c == 1) = f :: l.filter (fun f => f.c == 1) := by simp [hc]
      rw [e0, e1]
      show (seeL (J.see f) l).r = 0 ↔ _ ∧ (seeL (B.see f) _).r = 0
      have hc' : f.c = ((1 : Nat) : Int) := hc
      have er := sB.rule hc'
      by_cases hr : J.rule f = 0
      · have hr' : B.rule f = 0 := er ▸ hr
        rw [see_good hJ hr, see_good hB hr']
        exact conns_pure l hl' _ _ _ ((lrn_rest J f).1.trans hJ) hA ((lrn_rest B f).1.trans hB) ((sA.other hc' (by omega)).num _ A.n) ((sB.lrn hc').num _ _)
      · have hr' : B.rule f ≠ 0 := er ▸ hr
        have k1 := seeL_stuck (see_badr hJ hr) l
        have k2 := seeL_stuck (see_badr hB hr') (l.filter (fun f => f.c == 1))
        exact ⟨fun q => absurd q k1, fun q => absurd q.2 k2⟩
theorem lrn_len (J : Ju) (f : Fa) : (J.lrn f).cs.length = J.cs.length := by
  unfold Ju.lrn
  split
  · rfl
  · repeat' split
    all_goals simp
theorem see_len (J : Ju) (f : Fa) : (J.see f).cs.length = J.cs.length := by
  unfold Ju.see
  split
  · rfl
  · split
    · rfl
    · exact lrn_len J f
/-- A fact of a connection that isn't makes a history bad. -/
theorem conn_bad : ∀ (l : List Fa) (J : Ju), (∃ f, f ∈ l ∧ (f.c < 0 ∨ (J.cs.length : Int) ≤ f.c)) → (seeL J l).r ≠ 0
  | [], _, h => by obtain ⟨f, hf, _⟩ := h; cases hf
  | f :: l, J, h => by
    show (seeL (J.see f) l).r ≠ 0
    by_cases hJ : J.r = 0
    · obtain ⟨g, hg, hb⟩ := h
      rcases List.mem_cons.1 hg with rfl | hg
      · refine seeL_stuck (see_badr hJ ?_) l
        unfold Ju.rule
        have : J.bad g := by
          rcases hb with h | h
          · exact .inr (.inl h)
          · exact .inr (.inr (.inl h))
        rw [if_pos this]
        decide
      · exact conn_bad l (J.see f) ⟨g, hg, by rw [see_len]; exact hb⟩
    · exact seeL_stuck (see_keep hJ f) l
end Go.Proofs.Ytaeamogagaaodaa
