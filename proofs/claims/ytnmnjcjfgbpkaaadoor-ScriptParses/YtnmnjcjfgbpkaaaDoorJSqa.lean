/- Layer 20: what is printed is read as what it was (no walk in this text). -/
import Derived.Test.YtnmnjcjfgbpkaaaDoorJSq0
import Derived.Test.YtnmnjcjfgbpkaaaDoorJSp4
import Derived.Test.YtnmnjcjfgbpkaaaDoorJSv7
namespace Go.Proofs.YtnmnjcjfgbpkaaaDoor
set_option maxRecDepth 100000
open Go.RowKit Go.Maps
set_option maxRecDepth 100000
set_option linter.unusedVariables false
/- words -/
/-- May bytes be a word of a line? -/
def okW (l : List UInt8) : Prop := l ≠ [] ∧ ∀ c ∈ l, gapB c = false ∧ c ≠ 35 ∧ c ≠ 10
theorem tw_none {c : UInt8} : ∀ {l : List UInt8}, c ∉ l → tw c l = l
  | [], _ => rfl
  | b :: r, h => by
    have hb : b ≠ c := fun e => h (by rw [e]; exact List.mem_cons_self)
    rw [tw, if_neg hb, tw_none (fun q => h (List.mem_cons_of_mem _ q))]
theorem join_cons2 (a b : List UInt8) (r : List (List UInt8)) (s : List UInt8) : Lib.join (a :: b :: r) s = a ++ (s ++ Lib.join (b :: r) s) := by
  simp [Lib.join, List.intercalate, List.intersperse]
theorem join_one (a s : List UInt8) : Lib.join [a] s = a := by simp [Lib.join, List.intercalate]
theorem mem_join {c : UInt8} {s : List UInt8} : ∀ {ws : List (List UInt8)}, c ∈ Lib.join ws s → c ∈ s ∨ ∃ w ∈ ws, c ∈ w
  | [], h => by simp [Lib.join, List.intercalate] at h
  | [a], h => by
    rw [join_one] at h
    exact .inr ⟨a, List.mem_cons_self, h⟩
  | a :: b :: r, h => by
    rw [join_cons2] at h
    rcases List.mem_append.1 h with q | q
    · exact .inr ⟨a, List.mem_cons_self, q⟩
    · rcases List.mem_append.1 q with q | q
      · exact .inl q
      · rcases mem_join q with q | ⟨w, hw, q⟩
        · exact .inl q
        · exact .inr ⟨w, List.mem_cons_of_mem _ hw, q⟩
theorem wsGo_word : ∀ (x r cur : List UInt8) (out : List (List UInt8)), (∀ c ∈ x, gapB c = false) → wsGo (x ++ r) cur out = wsGo r (cur ++ x) out
  | [], r, cur, out, _ => by simp
  | c :: x, r, cur, out, h => by
    have hc : gapB c = false := h c List.mem_cons_self
    rw [List.cons_append, wsGo, hc]
    simp only [Bool.false_eq_true, if_false]
    rw [wsGo_word x r (cur ++ [c]) out (fun d hd => h d (List.mem_cons_of_mem _ hd))]
    simp
theorem wsGo_join : ∀ (ws : List (List UInt8)) (out : List (List UInt8)), ws ≠ [] → (∀ w ∈ ws, okW w) → wsGo (Lib.join ws [32]) [] out = out ++ ws
  | [], _, h, _ => absurd rfl h
  | [a], out, _, h => by
    have ha := h a List.mem_cons_self
    have := wsGo_word a [] [] out (fun c hc => (ha.2 c hc).1)
    rw [join_one]
    simp only [List.append_nil, List.nil_append] at this
    rw [this, wsGo, addW, if_neg ha.1]
  | a :: b :: r, out, _, h => by
    have ha := h a List.mem_cons_self
    rw [join_cons2, wsGo_word a _ [] out (fun c hc => (ha.2 c hc).1)]
    have e : ([32] ++ Lib.join (b :: r) [32] : List UInt8) = 32 :: Lib.join (b :: r) [32] := rfl
    rw [e, wsGo]
    have g : gapB 32 = true := by decide
    rw [g, if_pos rfl, List.nil_append, addW, if_neg ha.1, wsGo_join (b :: r) _ (by simp) (fun w hw => h w (List.mem_cons_of_mem _ hw))]
    simp
/-- A line of words reads as them. -/
theorem ws_join {ws : List (List UInt8)} (h0 : ws ≠ []) (h : ∀ w ∈ ws, okW w) : wsOf (Lib.join ws [32]) = ws := by
  unfold wsOf
  rw [tw_none, wsGo_join ws [] h0 h]
  · simp
  · intro q
    rcases mem_join q with q | ⟨w, hw, q⟩
    · simp at q
    · exact (((h w hw).2 _ q).2.1) rfl
theorem join_no10 {ws : List (List UInt8)} (h : ∀ w ∈ ws, okW w) : (10 : UInt8) ∉ Lib.join ws [32] := fun q => by
  rcases mem_join q with q | ⟨w, hw, q⟩
  · simp at q
  · exact (((h w hw).2 _ q).2.2) rfl
theorem join_in (a : List UInt8) : ∀ (ws : List (List UInt8)), ws ≠ [] → Lib.join [a, Lib.join ws [32]] [32] = Lib.join (a :: ws) [32]
  | [], h => absurd rfl h
  | b :: r, _ => by rw [join_cons2, join_one, join_cons2]
/- lines -/
theorem lnGo_skip : ∀ (x r cur : List UInt8) (out : List (List UInt8)), (10 : UInt8) ∉ x → lnGo (x ++ r) cur out = lnGo r (cur ++ x) out
  | [], r, cur, out, _ => by simp
  | c :: x, r, cur, out, h => by
    have hc : c ≠ 10 := fun e => h (by rw [e]; exact List.mem_cons_self)
    rw [List.cons_append, lnGo, if_neg hc, lnGo_skip x r (cur ++ [c]) out (fun q => h (List.mem_cons_of_mem _ q))]
    simp
/-- Lines, each with its end. -/
def catT : List (List UInt8) → List UInt8
  | [] => []
  | l :: r => l ++ ([10] ++ catT r)
theorem catT_app : ∀ (a b : List (List UInt8)), catT (a ++ b) = catT a ++ catT b
  | [], b => rfl
  | x :: a, b => by simp [catT, catT_app a b]
theorem lnGo_cat : ∀ (ls : List (List UInt8)) (out : List (List UInt8)), (∀ x ∈ ls, (10 : UInt8) ∉ x) → lnGo (catT ls) [] out = out ++ ls ++ [[]]
  | [], out, _ => by simp [catT, lnGo]
  | x :: r, out, h => by
    rw [catT, lnGo_skip x _ [] out (h x List.mem_cons_self)]
    have e : ([10] ++ catT r : List UInt8) = 10 :: catT r := rfl
    rw [e, lnGo, if_pos rfl, lnGo_cat r _ (fun y hy => h y (List.mem_cons_of_mem _ hy))]
    simp
theorem lnOf_cat {ls : List (List UInt8)} (h : ∀ x ∈ ls, (10 : UInt8) ∉ x) : lnOf (catT ls) = ls ++ [[]] := by
  unfold lnOf
  rw [lnGo_cat ls [] h]
  simp
/- numbers -/
theorem dig_isD : ∀ (u : Nat), (Lib.decDigits u).all isD = true := fun u => by
  induction u using Nat.strongRecOn with
  | _ u ih =>
    by_cases h : u < 10
    · rw [dig_small h]
      simp [isD]
      omega
    · rw [dig_big h, List.all_append, ih (u / 10) (by omega)]
      simp [isD]
      omega
theorem dv_dig : ∀ (u : Nat), dv (Lib.decDigits u) = u := fun u => by
  induction u using Nat.strongRecOn with
  | _ u ih =>
    by_cases h : u < 10
    · rw [dig_small h]
      simp [dv, dvF]
      omega
    · have := ih (u / 10) (by omega)
      unfold dv at this ⊢
      rw [dig_big h, dvF_snoc, this]
      simp
      omega
theorem dig_pos (u : Nat) : 1 ≤ (Lib.decDigits u).length := by
  have := decDigits_ne u
  cases e : Lib.decDigits u with
  | nil => exact absurd e this
  | cons a r => simp
theorem dig_10 {u : Nat} (h : u < 4294967296) : (Lib.decDigits u).length ≤ 10 := dig_len 9 u (by omega)
theorem vlO_dig {u : Nat} (h : u < 4294967296) : vlO (Lib.decDigits u) = true := by
  unfold vlO
  simp only [Bool.and_eq_true, decide_eq_true_eq, Bool.not_eq_true']
  exact ⟨⟨⟨⟨dig_pos u, dig_10 h⟩, hdZ_dec u⟩, dig_isD u⟩, by rw [dv_dig]; omega⟩
theorem vlV_dig {u : Nat} (h : u < 4294967296) : vlV (Lib.decDigits u) = u := by
  unfold vlV
  rw [vlO_dig h, if_pos rfl, dv_dig]
theorem itoa_of {z : Int} (h : 0 ≤ z) : Lib.itoa z = Lib.decDigits z.toNat := by
  obtain ⟨n, rfl⟩ := Int.eq_ofNat_of_zero_le h
  exact itoa_nat n
theorem fitI_iff {z : Int} : fitI z = true ↔ 0 ≤ z ∧ z < 4294967296 := by simp [fitI]
theorem vl_itoa {z : Int} (h : fitI z = true) : vlO (Lib.itoa z) = true ∧ ((vlV (Lib.itoa z) : Nat) : Int) = z ∧ (Lib.itoa z).length ≤ 10 := by
  have h := fitI_iff.1 h
  rw [itoa_of h.1]
  exact ⟨vlO_dig (by omega), by rw [vlV_dig (by omega)]; omega, dig_10 (by omega)⟩
theorem okW_dig (u : Nat) : okW (Lib.decDigits u) := ⟨decDigits_ne u, fun c hc => by
  have := List.all_eq_true.1 (dig_isD u) c hc
  simp only [isD, Bool.and_eq_true, decide_eq_true_eq] at this
  refine ⟨?_, ?_, ?_⟩
  · simp only [gapB, Bool.or_eq_false_iff, beq_eq_false_iff_ne]
    refine ⟨⟨?_, ?_⟩, ?_⟩ <;> (rintro rfl; simp at this)
  · rintro rfl
    simp at this
  · rintro rfl
    simp at this⟩
theorem okW_itoa {z : Int} (h : 0 ≤ z) : okW (Lib.itoa z) := by
  rw [itoa_of h]
  exact okW_dig _
/- data -/
theorem dg_fin : ∀ x : Fin 16, dgI (dg x.val) = ((x.val : Nat) : Int) ∧ gapB (dg x.val) = false ∧ dg x.val ≠ 35 ∧ dg x.val ≠ 10 := by decide +kernel
theorem dgI_dg {x : Nat} (h : x < 16) : dgI (dg x) = ((x : Nat) : Int) := (dg_fin ⟨x, h⟩).1
theorem hx_get (n : Nat) (b : Nat → Nat) : ∀ j, j < n → (hx n b).getD (2 * j) 0 = dg (b j / 16) ∧ (hx n b).getD (2 * j + 1) 0 = dg (b j % 16) := by
  induction n with
  | zero => intro j h; omega
  | succ n ih =>
    intro j h
    rw [hx_succ]
    by_cases e : j = n
    · subst e
      constructor
      · rw [List.getD_eq_getElem?_getD, List.getElem?_append_right (by rw [hx_len]; omega), hx_len]
        simp
      · rw [List.getD_eq_getElem?_getD, List.getElem?_append_right (by rw [hx_len]; omega), hx_len]
        rw [show 2 * j + 1 - 2 * j = 1 by omega]
        simp
    · have := ih j (by omega)
      constructor
      · rw [List.getD_eq_getElem?_getD, List.getElem?_append_left (by rw [hx_len]; omega), ← List.getD_eq_getElem?_getD]
        exact this.1
      · rw [List.getD_eq_getElem?_getD, List.getElem?_append_left (by rw [hx_len]; omega), ← List.getD_eq_getElem?_getD]
        exact this.2
theorem trim_x (l : List UInt8) : Lib.trimPrefix (120 :: l) [120] = l := by
  simp [Lib.trimPrefix, Lib.hasPrefix]
theorem pr_hx {n : Nat} {b : Nat → Nat} {j : Nat} (hj : j < n) (hb : b j < 256) : pr (hx n b) j = b j ∧ prOk (hx n b) j := by
  have h := hx_get n b j hj
  unfold pr prOk
  rw [h.1, h.2, dgI_dg (by omega), dgI_dg (by omega)]
  omega
theorem dt_hx {n : Nat} {b : Nat → Nat} (hn : n ≤ 8) (hb : ∀ j, j < n → b j < 256) : dtO (120 :: hx n b) = true ∧ dtN (120 :: hx n b) = n ∧ ∀ j, j < n → dtB (120 :: hx n b) j = b j := by
  have h1 : dtO (120 :: hx n b) = true := by
    unfold dtO
    rw [trim_x, hx_len]
    simp only [Bool.and_eq_true, decide_eq_true_eq]
    refine ⟨⟨⟨by simp [Lib.hasPrefix], by omega⟩, by omega⟩, ?_⟩
    rw [List.all_eq_true]
    intro j hj
    have : j < n := by have := List.mem_range.1 hj; omega
    exact decide_eq_true (pr_hx this (hb j this)).2
  refine ⟨h1, ?_, fun j hj => ?_⟩
  · unfold dtN
    rw [h1, if_pos rfl, trim_x, hx_len]
    omega
  · unfold dtB
    rw [trim_x]
    exact (pr_hx hj (hb j hj)).1
theorem hx_ok {n : Nat} {b : Nat → Nat} (hb : ∀ j, j < n → b j < 256) : ∀ c ∈ hx n b, gapB c = false ∧ c ≠ 35 ∧ c ≠ 10 := fun c hc => by
  unfold hx at hc
  obtain ⟨j, hj, q⟩ := List.mem_flatMap.1 hc
  have hj := List.mem_range.1 hj
  have := hb j hj
  simp only [List.mem_cons, List.not_mem_nil, or_false] at q
  rcases q with rfl | rfl
  · exact (dg_fin ⟨b j / 16, by omega⟩).2
  · exact (dg_fin ⟨b j % 16, by omega⟩).2
theorem okW_data {n : Nat} {b : Nat → Nat} (hb : ∀ j, j < n → b j < 256) : okW (120 :: hx n b) := ⟨by simp, fun c hc => by
  rcases List.mem_cons.1 hc with rfl | q
  · decide
  · exact hx_ok hb c q⟩
/- moves -/
/-- The same move, its data byte by byte. -/
def Mv.same (m x : Mv) : Prop := m.k = x.k ∧ m.c = x.c ∧ m.s = x.s ∧ m.f = x.f ∧ m.a = x.a ∧ m.w = x.w ∧ m.n = x.n ∧ m.h = x.h ∧ m.l = x.l ∧ ∀ j, j < m.l → m.b j = x.b j
theorem Mv.same_refl (m : Mv) : m.same m := ⟨rfl, rfl, rfl, rfl, rfl, rfl, rfl, rfl, rfl, fun _ _ => rfl⟩
theorem Mv.same_symm {m x : Mv} (h : m.same x) : x.same m := by
  obtain ⟨h1, h2, h3, h4, h5, h6, h7, h8, h9, h10⟩ := h
  exact ⟨h1.symm, h2.symm, h3.symm, h4.symm, h5.symm, h6.symm, h7.symm, h8.symm, h9.symm, fun j hj => (h10 j (by omega)).symm⟩
theorem Mv.same_trans {m x y : Mv} (h : m.same x) (g : x.same y) : m.same y := by
  obtain ⟨h1, h2, h3, h4, h5, h6, h7, h8, h9, h10⟩ := h
  obtain ⟨g1, g2, g3, g4, g5, g6, g7, g8, g9, g10⟩ := g
  exact ⟨h1.trans g1, h2.trans g2, h3.trans g3, h4.trans g4, h5.trans g5, h6.trans g6, h7.trans g7, h8.trans g8, h9.trans g9, fun j hj => (h10 j hj).trans (g10 j (by omega))⟩
/-- What its kind uses. -/
def Mv.bare (m : Mv) : Mv := ⟨m.k, m.c, if sided m.k then m.s else 0, if m.k = 3 ∨ m.k = 4 then m.f else 0, if m.k = 4 then m.a else 0, if m.k = 4 then m.w else 0, if m.k = 5 ∨ m.k = 7 ∨ m.k = 8 then m.n else 0, if m.k = 1 then m.h else false, if m.k = 1 then m.l else 0, if m.k = 1 then m.b else fun _ => 0⟩
theorem Mv.err0 {m : Mv} (h : m.err = 0) : fitI m.c = true ∧ m.ns.all fitI = true ∧ (sided m.k = true → m.s = 1 ∨ m.s = 2) ∧ (m.k = 1 → m.l ≤ 8) ∧ 1 ≤ m.k ∧ m.k ≤ 8 := by
  unfold Mv.err at h
  split at h
  · cases h
  · rename_i h1
    split at h
    · cases h
    · rename_i h2
      split at h
      · cases h
      · rename_i h3
        split at h
        · cases h
        · rename_i h4
          refine ⟨?_, ?_, fun q => ?_, fun q => ?_, by omega, by omega⟩
          · cases e : fitI m.c with
            | true => rfl
            | false => exact absurd (.inl e) h1
          · cases e : m.ns.all fitI with
            | true => rfl
            | false => exact absurd (.inr e) h1
          · rcases Decidable.em (m.s = 1) with e | e
            · exact .inl e
            · rcases Decidable.em (m.s = 2) with f | f
              · exact .inr f
              · exact absurd ⟨q, e, f⟩ h2
          · rcases Nat.lt_or_ge 8 m.l with e | e
            · exact absurd ⟨q, e⟩ h3
            · exact e
theorem kws_ok : ∀ i : Fin 8, okW (kws.getD (i.val + 1) []) ∧ fmK (kws.getD (i.val + 1) []) = i.val + 1 ∧ hdW (kws.getD (i.val + 1) []) = false := by
  intro i
  refine ⟨⟨?_, ?_⟩, ?_⟩
  · revert i; decide
  · revert i; decide
  · revert i; decide
/-- Every word of a move that has a line is one. -/
theorem Mv.ws_ok {m : Mv} (h : m.err = 0) (hb : ∀ j, j < m.l → m.b j < 256) : ∀ w ∈ m.ws, okW w := by
  obtain ⟨h1, h2, h3, h4, h5, h6⟩ := Mv.err0 h
  intro w hw
  unfold Mv.ws Mv.w1 Mv.w2 Mv.w3 Mv.w4 at hw
  simp only [List.mem_append] at hw
  rcases hw with ((q | q) | q) | q
  · simp only [List.mem_cons, List.not_mem_nil, or_false] at q
    rcases q with rfl | rfl
    · have := (kws_ok ⟨m.k.toNat - 1, by omega⟩).1
      simp only at this
      rw [show m.k.toNat - 1 + 1 = m.k.toNat by omega] at this
      exact this
    · exact okW_itoa (fitI_iff.1 h1).1
  · split at q
    · simp only [List.mem_cons, List.not_mem_nil, or_false] at q
      rw [q]
      split
      · exact ⟨by simp, by decide⟩
      · exact ⟨by simp, by decide⟩
    · cases q
  · split at q
    · rcases List.mem_cons.1 q with rfl | q
      · exact okW_data hb
      · split at q
        · simp only [List.mem_cons, List.not_mem_nil, or_false] at q
          rw [q]
          exact ⟨by simp, by decide⟩
        · cases q
    · cases q
  · obtain ⟨z, hz, rfl⟩ := List.mem_map.1 q
    exact okW_itoa (fitI_iff.1 (List.all_eq_true.1 h2 z hz)).1
theorem kw_k (k : Int) (h1 : 1 ≤ k) (h8 : k ≤ 8) : ∃ i : Fin 8, k = ((i.val + 1 : Nat) : Int) := ⟨⟨k.toNat - 1, by omega⟩, by simp; omega⟩
theorem side_ok : ∀ s : Int, s = 1 ∨ s = 2 → ∃ S : List UInt8, (if s = 1 then ([104] : List UInt8) else [100]) = S ∧ (¬ S = [104] → S = [100]) ∧ (if S = [100] then (2 : Int) else 1) = s := by
  rintro s (rfl | rfl)
  · exact ⟨_, rfl, by simp, by simp⟩
  · exact ⟨_, rfl, by simp, by simp⟩
/-- Kind 1. -/
theorem read_1 (c s f a n : Int) (w : Nat) (hh : Bool) (l : Nat) (b : Nat → Nat) (h : (Mv.mk 1 c s f a w n hh l b).err = 0) (hw : w < 4294967296) (hb : ∀ j, j < l → b j < 256) : rdEr (Mv.mk 1 c s f a w n hh l b).ws.length (wsL (Mv.mk 1 c s f a w n hh l b).ws) = 0 ∧ (rdM (Mv.mk 1 c s f a w n hh l b).ws.length (wsL (Mv.mk 1 c s f a w n hh l b).ws)).same (Mv.mk 1 c s f a w n hh l b).bare ∧ hdIs (Mv.mk 1 c s f a w n hh l b).ws.length (wsL (Mv.mk 1 c s f a w n hh l b).ws) = false := by
  obtain ⟨h1, h2, h3, h4, h5, h6⟩ := Mv.err0 h
  have vc := vl_itoa h1
  have kk : fmK [119, 114, 105, 116, 101] = 1 := by decide
  have d := dt_hx (h4 rfl) hb
  obtain ⟨S, hS, s1, s2⟩ := side_ok s (h3 rfl)
  have e : (Mv.mk 1 c s f a w n hh l b).ws = [[119, 114, 105, 116, 101], Lib.itoa c, if s = 1 then [104] else [100], 120 :: hx l b] ++ (if hh then [[104, 111, 108, 100]] else []) := by simp [Mv.ws, Mv.w1, Mv.w2, Mv.w3, Mv.w4, Mv.ns, sided, kws]
  rw [e]
  obtain ⟨C, hC⟩ : ∃ x, Lib.itoa c = x := ⟨_, rfl⟩
  rw [hC] at vc ⊢
  rw [hS]
  obtain ⟨X, hX⟩ : ∃ x, 120 :: hx l b = x := ⟨_, rfl⟩
  rw [hX] at d ⊢
  cases hh with
  | true =>
    have er : rdEr ([[119, 114, 105, 116, 101], C, S, X] ++ (if true = true then [[104, 111, 108, 100]] else [])).length (wsL ([[119, 114, 105, 116, 101], C, S, X] ++ (if true = true then [[104, 111, 108, 100]] else []))) = 0 := by
      simp [rdEr, wsL, kk, plL, plM, okF, ltr, fmF, lwO, vc.1, d.1]
      exact s1
    refine ⟨er, ?_, by simp [hdIs, wsL, hdW]⟩
    unfold rdM
    rw [if_pos er]
    simp [wsL, kk, mvF, fmF, ltr, Mv.put, Mv.z, Mv.same, Mv.bare, sided, vc.2.1, d.2.1, s2]
    exact d.2.2
  | false =>
    have er : rdEr ([[119, 114, 105, 116, 101], C, S, X] ++ (if false = true then [[104, 111, 108, 100]] else [])).length (wsL ([[119, 114, 105, 116, 101], C, S, X] ++ (if false = true then [[104, 111, 108, 100]] else []))) = 0 := by
      simp [rdEr, wsL, kk, plL, plM, okF, ltr, fmF, lwO, vc.1, d.1]
      exact s1
    refine ⟨er, ?_, by simp [hdIs, wsL, hdW]⟩
    unfold rdM
    rw [if_pos er]
    simp [wsL, kk, mvF, fmF, ltr, Mv.put, Mv.z, Mv.same, Mv.bare, sided, vc.2.1, d.2.1, s2]
    exact d.2.2
/-- Kind 2. -/
theorem read_2 (c s f a n : Int) (w : Nat) (hh : Bool) (l : Nat) (b : Nat → Nat) (h : (Mv.mk 2 c s f a w n hh l b).err = 0) (hw : w < 4294967296) (hb : ∀ j, j < l → b j < 256) : rdEr (Mv.mk 2 c s f a w n hh l b).ws.length (wsL (Mv.mk 2 c s f a w n hh l b).ws) = 0 ∧ (rdM (Mv.mk 2 c s f a w n hh l b).ws.length (wsL (Mv.mk 2 c s f a w n hh l b).ws)).same (Mv.mk 2 c s f a w n hh l b).bare ∧ hdIs (Mv.mk 2 c s f a w n hh l b).ws.length (wsL (Mv.mk 2 c s f a w n hh l b).ws) = false := by
  obtain ⟨h1, h2, h3, h4, h5, h6⟩ := Mv.err0 h
  have vc := vl_itoa h1
  have kk : fmK [115, 101, 110, 100] = 2 := by decide
  have e : (Mv.mk 2 c s f a w n hh l b).ws = [[115, 101, 110, 100], Lib.itoa c] := by simp [Mv.ws, Mv.w1, Mv.w2, Mv.w3, Mv.w4, Mv.ns, sided, kws]
  rw [e]
  obtain ⟨C, hC⟩ : ∃ x, Lib.itoa c = x := ⟨_, rfl⟩
  rw [hC] at vc ⊢
  have er : rdEr ([[115, 101, 110, 100], C]).length (wsL ([[115, 101, 110, 100], C])) = 0 := by
    simp [rdEr, wsL, kk, plL, plM, okF, ltr, fmF, lwO, vc.1]
  refine ⟨er, ?_, by simp [hdIs, wsL, hdW]⟩
  unfold rdM
  rw [if_pos er]
  simp [wsL, kk, mvF, fmF, ltr, Mv.put, Mv.z, Mv.same, Mv.bare, sided, vc.2.1]
/-- Kind 3. -/
theorem read_3 (c s f a n : Int) (w : Nat) (hh : Bool) (l : Nat) (b : Nat → Nat) (h : (Mv.mk 3 c s f a w n hh l b).err = 0) (hw : w < 4294967296) (hb : ∀ j, j < l → b j < 256) : rdEr (Mv.mk 3 c s f a w n hh l b).ws.length (wsL (Mv.mk 3 c s f a w n hh l b).ws) = 0 ∧ (rdM (Mv.mk 3 c s f a w n hh l b).ws.length (wsL (Mv.mk 3 c s f a w n hh l b).ws)).same (Mv.mk 3 c s f a w n hh l b).bare ∧ hdIs (Mv.mk 3 c s f a w n hh l b).ws.length (wsL (Mv.mk 3 c s f a w n hh l b).ws) = false := by
  obtain ⟨h1, h2, h3, h4, h5, h6⟩ := Mv.err0 h
  have vc := vl_itoa h1
  have kk : fmK [100, 101, 108, 105, 118, 101, 114] = 3 := by decide
  simp [Mv.ns] at h2
  have vf := vl_itoa (z := f) h2
  obtain ⟨S, hS, s1, s2⟩ := side_ok s (h3 rfl)
  have e : (Mv.mk 3 c s f a w n hh l b).ws = [[100, 101, 108, 105, 118, 101, 114], Lib.itoa c, if s = 1 then [104] else [100], Lib.itoa f] := by simp [Mv.ws, Mv.w1, Mv.w2, Mv.w3, Mv.w4, Mv.ns, sided, kws]
  rw [e]
  obtain ⟨C, hC⟩ : ∃ x, Lib.itoa c = x := ⟨_, rfl⟩
  rw [hC] at vc ⊢
  rw [hS]
  obtain ⟨Nf, hNf⟩ : ∃ x, Lib.itoa f = x := ⟨_, rfl⟩
  rw [hNf] at vf ⊢
  have er : rdEr ([[100, 101, 108, 105, 118, 101, 114], C, S, Nf]).length (wsL ([[100, 101, 108, 105, 118, 101, 114], C, S, Nf])) = 0 := by
    simp [rdEr, wsL, kk, plL, plM, okF, ltr, fmF, lwO, vc.1, vf.1]
    exact s1
  refine ⟨er, ?_, by simp [hdIs, wsL, hdW]⟩
  unfold rdM
  rw [if_pos er]
  simp [wsL, kk, mvF, fmF, ltr, Mv.put, Mv.z, Mv.same, Mv.bare, sided, vc.2.1, vf.2.1, s2]
/-- Kind 4. -/
theorem read_4 (c s f a n : Int) (w : Nat) (hh : Bool) (l : Nat) (b : Nat → Nat) (h : (Mv.mk 4 c s f a w n hh l b).err = 0) (hw : w < 4294967296) (hb : ∀ j, j < l → b j < 256) : rdEr (Mv.mk 4 c s f a w n hh l b).ws.length (wsL (Mv.mk 4 c s f a w n hh l b).ws) = 0 ∧ (rdM (Mv.mk 4 c s f a w n hh l b).ws.length (wsL (Mv.mk 4 c s f a w n hh l b).ws)).same (Mv.mk 4 c s f a w n hh l b).bare ∧ hdIs (Mv.mk 4 c s f a w n hh l b).ws.length (wsL (Mv.mk 4 c s f a w n hh l b).ws) = false := by
  obtain ⟨h1, h2, h3, h4, h5, h6⟩ := Mv.err0 h
  have vc := vl_itoa h1
  have kk : fmK [103, 97, 114, 98, 108, 101] = 4 := by decide
  simp [Mv.ns] at h2
  have vf := vl_itoa (z := f) h2.1
  have va := vl_itoa (z := a) h2.2.1
  have vw := vl_itoa (z := ((w : Nat) : Int)) h2.2.2
  obtain ⟨S, hS, s1, s2⟩ := side_ok s (h3 rfl)
  have e : (Mv.mk 4 c s f a w n hh l b).ws = [[103, 97, 114, 98, 108, 101], Lib.itoa c, if s = 1 then [104] else [100], Lib.itoa f, Lib.itoa a, Lib.itoa ((w : Nat) : Int)] := by simp [Mv.ws, Mv.w1, Mv.w2, Mv.w3, Mv.w4, Mv.ns, sided, kws]
  rw [e]
  obtain ⟨C, hC⟩ : ∃ x, Lib.itoa c = x := ⟨_, rfl⟩
  rw [hC] at vc ⊢
  rw [hS]
  obtain ⟨Nf, hNf⟩ : ∃ x, Lib.itoa f = x := ⟨_, rfl⟩
  rw [hNf] at vf ⊢
  obtain ⟨Na, hNa⟩ : ∃ x, Lib.itoa a = x := ⟨_, rfl⟩
  rw [hNa] at va ⊢
  obtain ⟨Nw, hNw⟩ : ∃ x, Lib.itoa ((w : Nat) : Int) = x := ⟨_, rfl⟩
  rw [hNw] at vw ⊢
  have er : rdEr ([[103, 97, 114, 98, 108, 101], C, S, Nf, Na, Nw]).length (wsL ([[103, 97, 114, 98, 108, 101], C, S, Nf, Na, Nw])) = 0 := by
    simp [rdEr, wsL, kk, plL, plM, okF, ltr, fmF, lwO, vc.1, vf.1, va.1, vw.1]
    exact s1
  refine ⟨er, ?_, by simp [hdIs, wsL, hdW]⟩
  unfold rdM
  rw [if_pos er]
  simp [wsL, kk, mvF, fmF, ltr, Mv.put, Mv.z, Mv.same, Mv.bare, sided, vc.2.1, vf.2.1, va.2.1, s2]
  exact Int.ofNat.inj vw.2.1
/-- Kind 5. -/
theorem read_5 (c s f a n : Int) (w : Nat) (hh : Bool) (l : Nat) (b : Nat → Nat) (h : (Mv.mk 5 c s f a w n hh l b).err = 0) (hw : w < 4294967296) (hb : ∀ j, j < l → b j < 256) : rdEr (Mv.mk 5 c s f a w n hh l b).ws.length (wsL (Mv.mk 5 c s f a w n hh l b).ws) = 0 ∧ (rdM (Mv.mk 5 c s f a w n hh l b).ws.length (wsL (Mv.mk 5 c s f a w n hh l b).ws)).same (Mv.mk 5 c s f a w n hh l b).bare ∧ hdIs (Mv.mk 5 c s f a w n hh l b).ws.length (wsL (Mv.mk 5 c s f a w n hh l b).ws) = false := by
  obtain ⟨h1, h2, h3, h4, h5, h6⟩ := Mv.err0 h
  have vc := vl_itoa h1
  have kk : fmK [116, 105, 99, 107] = 5 := by decide
  simp [Mv.ns] at h2
  have vn := vl_itoa (z := n) h2
  obtain ⟨S, hS, s1, s2⟩ := side_ok s (h3 rfl)
  have e : (Mv.mk 5 c s f a w n hh l b).ws = [[116, 105, 99, 107], Lib.itoa c, if s = 1 then [104] else [100], Lib.itoa n] := by simp [Mv.ws, Mv.w1, Mv.w2, Mv.w3, Mv.w4, Mv.ns, sided, kws]
  rw [e]
  obtain ⟨C, hC⟩ : ∃ x, Lib.itoa c = x := ⟨_, rfl⟩
  rw [hC] at vc ⊢
  rw [hS]
  obtain ⟨Nn, hNn⟩ : ∃ x, Lib.itoa n = x := ⟨_, rfl⟩
  rw [hNn] at vn ⊢
  have er : rdEr ([[116, 105, 99, 107], C, S, Nn]).length (wsL ([[116, 105, 99, 107], C, S, Nn])) = 0 := by
    simp [rdEr, wsL, kk, plL, plM, okF, ltr, fmF, lwO, vc.1, vn.1]
    exact s1
  refine ⟨er, ?_, by simp [hdIs, wsL, hdW]⟩
  unfold rdM
  rw [if_pos er]
  simp [wsL, kk, mvF, fmF, ltr, Mv.put, Mv.z, Mv.same, Mv.bare, sided, vc.2.1, vn.2.1, s2]
/-- Kind 6. -/
theorem read_6 (c s f a n : Int) (w : Nat) (hh : Bool) (l : Nat) (b : Nat → Nat) (h : (Mv.mk 6 c s f a w n hh l b).err = 0) (hw : w < 4294967296) (hb : ∀ j, j < l → b j < 256) : rdEr (Mv.mk 6 c s f a w n hh l b).ws.length (wsL (Mv.mk 6 c s f a w n hh l b).ws) = 0 ∧ (rdM (Mv.mk 6 c s f a w n hh l b).ws.length (wsL (Mv.mk 6 c s f a w n hh l b).ws)).same (Mv.mk 6 c s f a w n hh l b).bare ∧ hdIs (Mv.mk 6 c s f a w n hh l b).ws.length (wsL (Mv.mk 6 c s f a w n hh l b).ws) = false := by
  obtain ⟨h1, h2, h3, h4, h5, h6⟩ := Mv.err0 h
  have vc := vl_itoa h1
  have kk : fmK [97, 99, 107] = 6 := by decide
  obtain ⟨S, hS, s1, s2⟩ := side_ok s (h3 rfl)
  have e : (Mv.mk 6 c s f a w n hh l b).ws = [[97, 99, 107], Lib.itoa c, if s = 1 then [104] else [100]] := by simp [Mv.ws, Mv.w1, Mv.w2, Mv.w3, Mv.w4, Mv.ns, sided, kws]
  rw [e]
  obtain ⟨C, hC⟩ : ∃ x, Lib.itoa c = x := ⟨_, rfl⟩
  rw [hC] at vc ⊢
  rw [hS]
  have er : rdEr ([[97, 99, 107], C, S]).length (wsL ([[97, 99, 107], C, S])) = 0 := by
    simp [rdEr, wsL, kk, plL, plM, okF, ltr, fmF, lwO, vc.1]
    exact s1
  refine ⟨er, ?_, by simp [hdIs, wsL, hdW]⟩
  unfold rdM
  rw [if_pos er]
  simp [wsL, kk, mvF, fmF, ltr, Mv.put, Mv.z, Mv.same, Mv.bare, sided, vc.2.1, s2]
/-- Kind 7. -/
theorem read_7 (c s f a n : Int) (w : Nat) (hh : Bool) (l : Nat) (b : Nat → Nat) (h : (Mv.mk 7 c s f a w n hh l b).err = 0) (hw : w < 4294967296) (hb : ∀ j, j < l → b j < 256) : rdEr (Mv.mk 7 c s f a w n hh l b).ws.length (wsL (Mv.mk 7 c s f a w n hh l b).ws) = 0 ∧ (rdM (Mv.mk 7 c s f a w n hh l b).ws.length (wsL (Mv.mk 7 c s f a w n hh l b).ws)).same (Mv.mk 7 c s f a w n hh l b).bare ∧ hdIs (Mv.mk 7 c s f a w n hh l b).ws.length (wsL (Mv.mk 7 c s f a w n hh l b).ws) = false := by
  obtain ⟨h1, h2, h3, h4, h5, h6⟩ := Mv.err0 h
  have vc := vl_itoa h1
  have kk : fmK [114, 101, 115, 101, 116] = 7 := by decide
  simp [Mv.ns] at h2
  have vn := vl_itoa (z := n) h2
  obtain ⟨S, hS, s1, s2⟩ := side_ok s (h3 rfl)
  have e : (Mv.mk 7 c s f a w n hh l b).ws = [[114, 101, 115, 101, 116], Lib.itoa c, if s = 1 then [104] else [100], Lib.itoa n] := by simp [Mv.ws, Mv.w1, Mv.w2, Mv.w3, Mv.w4, Mv.ns, sided, kws]
  rw [e]
  obtain ⟨C, hC⟩ : ∃ x, Lib.itoa c = x := ⟨_, rfl⟩
  rw [hC] at vc ⊢
  rw [hS]
  obtain ⟨Nn, hNn⟩ : ∃ x, Lib.itoa n = x := ⟨_, rfl⟩
  rw [hNn] at vn ⊢
  have er : rdEr ([[114, 101, 115, 101, 116], C, S, Nn]).length (wsL ([[114, 101, 115, 101, 116], C, S, Nn])) = 0 := by
    simp [rdEr, wsL, kk, plL, plM, okF, ltr, fmF, lwO, vc.1, vn.1]
    exact s1
  refine ⟨er, ?_, by simp [hdIs, wsL, hdW]⟩
  unfold rdM
  rw [if_pos er]
  simp [wsL, kk, mvF, fmF, ltr, Mv.put, Mv.z, Mv.same, Mv.bare, sided, vc.2.1, vn.2.1, s2]
/-- Kind 8. -/
theorem read_8 (c s f a n : Int) (w : Nat) (hh : Bool) (l : Nat) (b : Nat → Nat) (h : (Mv.mk 8 c s f a w n hh l b).err = 0) (hw : w < 4294967296) (hb : ∀ j, j < l → b j < 256) : rdEr (Mv.mk 8 c s f a w n hh l b).ws.length (wsL (Mv.mk 8 c s f a w n hh l b).ws) = 0 ∧ (rdM (Mv.mk 8 c s f a w n hh l b).ws.length (wsL (Mv.mk 8 c s f a w n hh l b).ws)).same (Mv.mk 8 c s f a w n hh l b).bare ∧ hdIs (Mv.mk 8 c s f a w n hh l b).ws.length (wsL (Mv.mk 8 c s f a w n hh l b).ws) = false := by
  obtain ⟨h1, h2, h3, h4, h5, h6⟩ := Mv.err0 h
  have vc := vl_itoa h1
  have kk : fmK [99, 117, 116] = 8 := by decide
  simp [Mv.ns] at h2
  have vn := vl_itoa (z := n) h2
  have e : (Mv.mk 8 c s f a w n hh l b).ws = [[99, 117, 116], Lib.itoa c, Lib.itoa n] := by simp [Mv.ws, Mv.w1, Mv.w2, Mv.w3, Mv.w4, Mv.ns, sided, kws]
  rw [e]
  obtain ⟨C, hC⟩ : ∃ x, Lib.itoa c = x := ⟨_, rfl⟩
  rw [hC] at vc ⊢
  obtain ⟨Nn, hNn⟩ : ∃ x, Lib.itoa n = x := ⟨_, rfl⟩
  rw [hNn] at vn ⊢
  have er : rdEr ([[99, 117, 116], C, Nn]).length (wsL ([[99, 117, 116], C, Nn])) = 0 := by
    simp [rdEr, wsL, kk, plL, plM, okF, ltr, fmF, lwO, vc.1, vn.1]
  refine ⟨er, ?_, by simp [hdIs, wsL, hdW]⟩
  unfold rdM
  rw [if_pos er]
  simp [wsL, kk, mvF, fmF, ltr, Mv.put, Mv.z, Mv.same, Mv.bare, sided, vc.2.1, vn.2.1]
/-- A move that has a line is read out of its words. -/
theorem Mv.read {m : Mv} (h : m.err = 0) (hw : m.w < 4294967296) (hb : ∀ j, j < m.l → m.b j < 256) : rdEr m.ws.length (wsL m.ws) = 0 ∧ (rdM m.ws.length (wsL m.ws)).same m.bare ∧ hdIs m.ws.length (wsL m.ws) = false := by
  obtain ⟨h1, h2, h3, h4, h5, h6⟩ := Mv.err0 h
  obtain ⟨k, c, s, f, a, w, n, hh, l, b⟩ := m
  simp only at *
  obtain rfl | rfl | rfl | rfl | rfl | rfl | rfl | rfl : k = 1 ∨ k = 2 ∨ k = 3 ∨ k = 4 ∨ k = 5 ∨ k = 6 ∨ k = 7 ∨ k = 8 := by omega
  · exact read_1 c s f a n w hh l b h hw hb
  · exact read_2 c s f a n w hh l b h hw hb
  · exact read_3 c s f a n w hh l b h hw hb
  · exact read_4 c s f a n w hh l b h hw hb
  · exact read_5 c s f a n w hh l b h hw hb
  · exact read_6 c s f a n w hh l b h hw hb
  · exact read_7 c s f a n w hh l b h hw hb
  · exact read_8 c s f a n w hh l b h hw hb
/-- How long a move's line is. -/
theorem Mv.line_short {m : Mv} (h : m.err = 0) (hw : m.w < 4294967296) : m.line.length ≤ (if m.k = 1 then 90 else 66) ∧ m.ws ≠ [] := by
  obtain ⟨h1, h2, h3, h4, h5, h6⟩ := Mv.err0 h
  have q1 := (vl_itoa h1).2.2
  have q2 := kws_len m.k.toNat
  have q3 : ∀ z ∈ m.ns, (Lib.itoa z).length ≤ 10 := fun z hz => (vl_itoa (List.all_eq_true.1 h2 z hz)).2.2
  refine ⟨?_, by simp [Mv.ws, Mv.w1]⟩
  by_cases e : m.k = 1
  · rw [if_pos e]
    have n0 : m.ns = [] := by simp [Mv.ns, e]
    have hl := h4 e
    have ew : m.ws = [kws.getD m.k.toNat [], Lib.itoa m.c, if m.s = 1 then [104] else [100], 120 :: hx m.l m.b] ++ (if m.h then [[104, 111, 108, 100]] else []) := by
      simp [Mv.ws, Mv.w1, Mv.w2, Mv.w3, Mv.w4, n0, e, sided]
    have hx := hx_len m.l m.b
    refine Nat.le_trans (join_len 17 m.ws fun l hl' => ?_) ?_
    · rw [ew] at hl'
      rcases List.mem_append.1 hl' with q | q
      · simp only [List.mem_cons, List.not_mem_nil, or_false] at q
        rcases q with rfl | rfl | rfl | rfl
        · omega
        · omega
        · split <;> simp
        · simp only [List.length_cons]
          omega
      · split at q
        · rw [List.mem_singleton.1 q]
          simp
        · cases q
    · rw [ew]
      rcases Bool.eq_false_or_eq_true m.h with q | q <;> simp [q]
  · rw [if_neg e]
    have n3 : m.ns.length ≤ 3 := by
      unfold Mv.ns
      repeat' split
      all_goals simp
    have w3 : m.w3 = [] := by simp [Mv.w3, e]
    have ew : m.ws = m.w1 ++ m.w2 ++ m.w4 := by simp [Mv.ws, w3]
    refine Nat.le_trans (join_len 10 m.ws fun l hl' => ?_) ?_
    · rw [ew] at hl'
      rcases List.mem_append.1 hl' with q | q
      · rcases List.mem_append.1 q with q | q
        · unfold Mv.w1 at q
          simp only [List.mem_cons, List.not_mem_nil, or_false] at q
          rcases q with rfl | rfl
          · omega
          · omega
        · unfold Mv.w2 at q
          split at q
          · rw [List.mem_singleton.1 q]
            split <;> simp
          · cases q
      · unfold Mv.w4 at q
        obtain ⟨z, hz, rfl⟩ := List.mem_map.1 q
        exact q3 z hz
    · rw [ew]
      have : m.w2.length ≤ 1 := by
        unfold Mv.w2
        split <;> simp
      have e4 : m.w4.length = m.ns.length := by simp [Mv.w4]
      have e1 : m.w1.length = 2 := by simp [Mv.w1]
      simp only [List.length_append]
      omega
/- sets -/
theorem Ps.law_fit {p : Ps} (h : p.law = true) (ok : p.Ok) : fitI ((p.c : Nat) : Int) = true ∧ fitI p.o = true ∧ fitI p.i = true ∧ fitI p.t = true ∧ fitI ((p.n : Nat) : Int) = true := by
  have := of_decide_eq_true h
  unfold okP at this
  have := ok.c
  have := ok.n
  simp only [fitI_iff]
  omega
theorem net_read {ms : Nat} (h : ms < 4294967296) (Z : Nt) : hdIs 2 (wsL [wNet, Lib.itoa ((ms : Nat) : Int)]) = true ∧ hdEr 2 (wsL [wNet, Lib.itoa ((ms : Nat) : Int)]) = 0 ∧ Z.hd 2 (wsL [wNet, Lib.itoa ((ms : Nat) : Int)]) = { Z with ms := ms } := by
  have v := vl_itoa (z := ((ms : Nat) : Int)) (fitI_iff.2 (by omega))
  obtain ⟨X, hX⟩ : ∃ x, Lib.itoa ((ms : Nat) : Int) = x := ⟨_, rfl⟩
  rw [hX] at v ⊢
  have i : hdIs 2 (wsL [wNet, X]) = true := by simp [hdIs, wsL, hdW, wNet]
  have e : hdE 1 (wsL [wNet, X]) = 0 := by simp [hdE, hdA, wsL, wNet, allV, v.1]
  refine ⟨i, ?_, ?_⟩
  · unfold hdEr
    rw [i, if_pos rfl]
    exact e
  · unfold Nt.hd Nt.put
    rw [i, if_pos rfl, if_pos e, if_pos (by simp [wsL, wNet])]
    have : vlV (wsL [wNet, X] 1) = ms := by
      show vlV X = ms
      omega
    rw [this]
theorem set_read {p : Ps} (h : p.law = true) (ok : p.Ok) (wd : List UInt8) (hwd : wd = wHost ∨ wd = wDev) : hdIs 6 (wsL (wd :: p.ws)) = true ∧ hdE 5 (wsL (wd :: p.ws)) = 0 ∧ stP (fun i => wsL (wd :: p.ws) (i + 1)) = p := by
  obtain ⟨f1, f2, f3, f4, f5⟩ := Ps.law_fit h ok
  have v1 := vl_itoa f1
  have v2 := vl_itoa f2
  have v3 := vl_itoa f3
  have v4 := vl_itoa f4
  have v5 := vl_itoa f5
  obtain ⟨c, o, i, t, n⟩ := p
  simp only [Ps.ws] at *
  obtain ⟨X1, hX1⟩ : ∃ x, Lib.itoa ((c : Nat) : Int) = x := ⟨_, rfl⟩
  obtain ⟨X2, hX2⟩ : ∃ x, Lib.itoa o = x := ⟨_, rfl⟩
  obtain ⟨X3, hX3⟩ : ∃ x, Lib.itoa i = x := ⟨_, rfl⟩
  obtain ⟨X4, hX4⟩ : ∃ x, Lib.itoa t = x := ⟨_, rfl⟩
  obtain ⟨X5, hX5⟩ : ∃ x, Lib.itoa ((n : Nat) : Int) = x := ⟨_, rfl⟩
  rw [hX1] at v1 ⊢
  rw [hX2] at v2 ⊢
  rw [hX3] at v3 ⊢
  rw [hX4] at v4 ⊢
  rw [hX5] at v5 ⊢
  refine ⟨?_, ?_, ?_⟩
  · rcases hwd with rfl | rfl <;> simp [hdIs, wsL, hdW, wHost, wDev]
  · rcases hwd with rfl | rfl <;> simp [hdE, hdA, wsL, wHost, wDev, allV, v1.1, v2.1, v3.1, v4.1, v5.1]
  · show (⟨vlV X1, ((vlV X2 : Nat) : Int), ((vlV X3 : Nat) : Int), ((vlV X4 : Nat) : Int), vlV X5⟩ : Ps) = ⟨c, o, i, t, n⟩
    rw [v2.2.1, v3.2.1, v4.2.1, Int.ofNat.inj v1.2.1, Int.ofNat.inj v5.2.1]
/- what is printed is read -/
structure Got (ms : Nat) (P0 : Nat → Ps) (k0 : Nat) (P1 : Nat → Ps) (k1 : Nat) (M : Nat → Mv) (n : Nat) (s : Sn) : Prop where
  ms : s.Z.ms = ms
  l0 : s.Z.l0 = k0
  p0 : ∀ i, i < k0 → s.Z.P0 i = P0 i
  l1 : s.Z.l1 = k1
  p1 : ∀ i, i < k1 → s.Z.P1 i = P1 i
  cnt : s.M.length = n
  mvs : ∀ i, i < n → (mvL s.M i).same (M i).bare
theorem Sn.head_line {s : Sn} {l : List UInt8} {ws : List (List UInt8)} (hs : s.M.length = 0) (hl : l.length ≤ 1024) (hw : wsOf l = ws) (h0 : ws.length ≠ 0) (hi : hdIs ws.length (wsL ws) = true) (he : hdEr ws.length (wsL ws) = 0) : s.err l = 0 ∧ s.next l = ⟨s.Z.hd ws.length (wsL ws), s.M⟩ := by
  unfold Sn.err Sn.next
  rw [hw, if_neg (by omega), if_neg h0, if_pos ⟨hs, hi⟩, if_neg h0, if_pos ⟨hs, hi⟩]
  exact ⟨he, rfl⟩
theorem Sn.move_line {s : Sn} {l : List UInt8} {ws : List (List UInt8)} (hl : l.length ≤ 1024) (hw : wsOf l = ws) (h0 : ws.length ≠ 0) (hi : hdIs ws.length (wsL ws) = false) (he : rdEr ws.length (wsL ws) = 0) : s.err l = 0 ∧ s.next l = ⟨s.Z, s.M ++ [rdM ws.length (wsL ws)]⟩ := by
  have hn : ¬ (s.M.length = 0 ∧ hdIs ws.length (wsL ws) = true) := by rw [hi]; simp
  unfold Sn.err Sn.next
  rw [hw, if_neg (by omega), if_neg h0, if_neg hn, if_neg h0, if_neg hn]
  exact ⟨he, rfl⟩
def netL (ms : Nat) : List UInt8 := Lib.join [wNet, Lib.itoa ((ms : Nat) : Int)] [32]
def setL (wd : List UInt8) (p : Ps) : List UInt8 := Lib.join [wd, p.line] [32]
theorem setL_eq (wd : List UInt8) (p : Ps) : setL wd p = Lib.join (wd :: p.ws) [32] := by
  unfold setL Ps.line
  exact join_in wd p.ws (by simp [Ps.ws])
theorem Ps.ws_ok {p : Ps} (h : p.law = true) (ok : p.Ok) : ∀ w ∈ p.ws, okW w := by
  obtain ⟨f1, f2, f3, f4, f5⟩ := Ps.law_fit h ok
  intro w hw
  simp only [Ps.ws, List.mem_cons, List.not_mem_nil, or_false] at hw
  rcases hw with rfl | rfl | rfl | rfl | rfl
  · exact okW_itoa (fitI_iff.1 f1).1
  · exact okW_itoa (fitI_iff.1 f2).1
  · exact okW_itoa (fitI_iff.1 f3).1
  · exact okW_itoa (fitI_iff.1 f4).1
  · exact okW_itoa (fitI_iff.1 f5).1
theorem okW_wd {wd : List UInt8} (h : wd = wHost ∨ wd = wDev ∨ wd = wNet) : okW wd := by
  rcases h with rfl | rfl | rfl <;> exact ⟨by decide, by decide⟩
theorem set_ws {p : Ps} (h : p.law = true) (ok : p.Ok) {wd : List UInt8} (hwd : wd = wHost ∨ wd = wDev) : wsOf (setL wd p) = wd :: p.ws ∧ (10 : UInt8) ∉ setL wd p ∧ (setL wd p).length ≤ 1024 := by
  have hk : ∀ w ∈ wd :: p.ws, okW w := fun w hw => by
    rcases List.mem_cons.1 hw with rfl | q
    · exact okW_wd (by rcases hwd with e | e <;> simp [e])
    · exact Ps.ws_ok h ok w q
  refine ⟨?_, ?_, ?_⟩
  · rw [setL_eq]
    exact ws_join (by simp) hk
  · rw [setL_eq]
    exact join_no10 hk
  · have := set_line (wd := wd) (by rcases hwd with rfl | rfl <;> decide) ok
    unfold setL
    omega
theorem got_net {ms : Nat} {P0 : Nat → Ps} {P1 : Nat → Ps} {M : Nat → Mv} (hms : ms < 4294967296) : Sn.zero.err (netL ms) = 0 ∧ Got ms P0 0 P1 0 M 0 (Sn.zero.next (netL ms)) := by
  have hk : ∀ w ∈ [wNet, Lib.itoa ((ms : Nat) : Int)], okW w := fun w hw => by
    simp only [List.mem_cons, List.not_mem_nil, or_false] at hw
    rcases hw with rfl | rfl
    · exact okW_wd (by simp)
    · exact okW_itoa (by omega)
  have r := net_read hms Sn.zero.Z
  have h := Sn.head_line (s := Sn.zero) (l := netL ms) rfl (by have := (netT_len hms).2; unfold netL; omega) (ws_join (by simp) hk) (by simp) r.1 r.2.1
  refine ⟨h.1, ?_⟩
  rw [h.2]
  have e : Sn.zero.Z.hd [wNet, Lib.itoa ((ms : Nat) : Int)].length (wsL [wNet, Lib.itoa ((ms : Nat) : Int)]) = { Sn.zero.Z with ms := ms } := r.2.2
  rw [e]
  exact ⟨rfl, rfl, fun i hi => by omega, rfl, fun i hi => by omega, rfl, fun i hi => by omega⟩
theorem got_host {ms : Nat} {P0 : Nat → Ps} {P1 : Nat → Ps} {M : Nat → Mv} {k : Nat} {s : Sn} (h : Got ms P0 k P1 0 M 0 s) (hl : (P0 k).law = true) (ok : (P0 k).Ok) : s.err (setL wHost (P0 k)) = 0 ∧ Got ms P0 (k + 1) P1 0 M 0 (s.next (setL wHost (P0 k))) := by
  have w := set_ws hl ok (wd := wHost) (.inl rfl)
  have r := set_read hl ok wHost (.inl rfl)
  have he : hdEr 6 (wsL (wHost :: (P0 k).ws)) = 0 := by
    unfold hdEr
    rw [r.1, if_pos rfl]
    exact r.2.1
  have q := Sn.head_line (s := s) h.cnt w.2.2 w.1 (by simp) r.1 he
  refine ⟨q.1, ?_⟩
  rw [q.2]
  have e : s.Z.hd (wHost :: (P0 k).ws).length (wsL (wHost :: (P0 k).ws)) = { s.Z with l0 := s.Z.l0 + 1, P0 := fun i => if i = s.Z.l0 then P0 k else s.Z.P0 i } := by
    show s.Z.hd 6 _ = _
    unfold Nt.hd Nt.put
    rw [r.1, if_pos rfl, if_pos r.2.1, if_neg (show ¬ wsL (wHost :: (P0 k).ws) 0 = [110, 101, 116] by show ¬ wHost = [110, 101, 116]; decide), if_pos (show wsL (wHost :: (P0 k).ws) 0 = [104, 111, 115, 116] by show wHost = [104, 111, 115, 116]; decide), r.2.2]
  rw [e]
  refine ⟨h.ms, by simp [h.l0], fun i hi => ?_, h.l1, fun i hi => by omega, h.cnt, fun i hi => by omega⟩
  simp only
  rw [h.l0]
  by_cases e : i = k
  · rw [if_pos e, e]
  · rw [if_neg e]
    exact h.p0 i (by omega)
theorem got_dev {ms : Nat} {P0 : Nat → Ps} {P1 : Nat → Ps} {M : Nat → Mv} {k0 k : Nat} {s : Sn} (h : Got ms P0 k0 P1 k M 0 s) (hl : (P1 k).law = true) (ok : (P1 k).Ok) : s.err (setL wDev (P1 k)) = 0 ∧ Got ms P0 k0 P1 (k + 1) M 0 (s.next (setL wDev (P1 k))) := by
  have w := set_ws hl ok (wd := wDev) (.inr rfl)
  have r := set_read hl ok wDev (.inr rfl)
  have he : hdEr 6 (wsL (wDev :: (P1 k).ws)) = 0 := by
    unfold hdEr
    rw [r.1, if_pos rfl]
    exact r.2.1
  have q := Sn.head_line (s := s) h.cnt w.2.2 w.1 (by simp) r.1 he
  refine ⟨q.1, ?_⟩
  rw [q.2]
  have e : s.Z.hd (wDev :: (P1 k).ws).length (wsL (wDev :: (P1 k).ws)) = { s.Z with l1 := s.Z.l1 + 1, P1 := fun i => if i = s.Z.l1 then P1 k else s.Z.P1 i } := by
    show s.Z.hd 6 _ = _
    unfold Nt.hd Nt.put
    rw [r.1, if_pos rfl, if_pos r.2.1, if_neg (show ¬ wsL (wDev :: (P1 k).ws) 0 = [110, 101, 116] by show ¬ wDev = [110, 101, 116]; decide), if_neg (show ¬ wsL (wDev :: (P1 k).ws) 0 = [104, 111, 115, 116] by show ¬ wDev = [104, 111, 115, 116]; decide), r.2.2]
  rw [e]
  refine ⟨h.ms, h.l0, h.p0, by simp [h.l1], fun i hi => ?_, h.cnt, fun i hi => by omega⟩
  simp only
  rw [h.l1]
  by_cases e : i = k
  · rw [if_pos e, e]
  · rw [if_neg e]
    exact h.p1 i (by omega)
/-- What a move needs for its line to be read. -/
def Mv.fine (m : Mv) : Prop := m.err = 0 ∧ m.w < 4294967296 ∧ ∀ j, j < m.l → m.b j < 256
theorem got_move {ms : Nat} {P0 : Nat → Ps} {P1 : Nat → Ps} {M : Nat → Mv} {k0 k1 k : Nat} {s : Sn} (h : Got ms P0 k0 P1 k1 M k s) (hm : (M k).fine) : s.err (M k).line = 0 ∧ Got ms P0 k0 P1 k1 M (k + 1) (s.next (M k).line) := by
  have hl := Mv.line_short hm.1 hm.2.1
  have r := Mv.read hm.1 hm.2.1 hm.2.2
  have hw : wsOf (M k).line = (M k).ws := ws_join hl.2 (Mv.ws_ok hm.1 hm.2.2)
  have q := Sn.move_line (s := s) (by have := hl.1; split at this <;> omega) hw (fun e => hl.2 (List.length_eq_zero_iff.1 e)) r.2.2 r.1
  refine ⟨q.1, ?_⟩
  rw [q.2]
  refine ⟨h.ms, h.l0, h.p0, h.l1, h.p1, by simp [h.cnt], fun i hi => ?_⟩
  simp only
  by_cases e : i = k
  · subst e
    have := mvL_last s.M (rdM (M i).ws.length (wsL (M i).ws))
    rw [h.cnt] at this
    rw [this]
    exact r.2.1
  · rw [mvL_app _ _ _ (by rw [h.cnt]; omega)]
    exact h.mvs i (by omega)
/-- All lines of a text that is printed. -/
def hdLs (ms : Nat) (P0 : Nat → Ps) (l0 : Nat) (P1 : Nat → Ps) (l1 : Nat) : List (List UInt8) := [netL ms] ++ (List.range l0).map (fun i => setL wHost (P0 i)) ++ (List.range l1).map (fun i => setL wDev (P1 i))
def prLs (ms : Nat) (P0 : Nat → Ps) (l0 : Nat) (P1 : Nat → Ps) (l1 : Nat) (M : Nat → Mv) (n : Nat) : List (List UInt8) := hdLs ms P0 l0 P1 l1 ++ (List.range n).map fun i => (M i).line
theorem setT_cat (wd : List UInt8) (P : Nat → Ps) (n : Nat) : setT wd P n = catT ((List.range n).map fun i => setL wd (P i)) := by
  induction n with
  | zero => rfl
  | succ n ih =>
    rw [setT, ih, List.range_succ, List.map_append, catT_app]
    simp [catT, setL]
theorem movT_cat (M : Nat → Mv) (n : Nat) : movT M n = catT ((List.range n).map fun i => (M i).line) := by
  induction n with
  | zero => rfl
  | succ n ih =>
    rw [movT, ih, List.range_succ, List.map_append, catT_app]
    simp [catT]
theorem headT_cat {ms : Nat} {P0 : Nat → Ps} {P1 : Nat → Ps} (l0 l1 : Nat) : headT ms P0 l0 P1 l1 = catT (hdLs ms P0 l0 P1 l1) := by
  unfold headT hdLs
  rw [setT_cat, setT_cat, catT_app, catT_app]
  simp [catT, netT, netL]
theorem fullT_cat {ms : Nat} {P0 : Nat → Ps} {P1 : Nat → Ps} {M : Nat → Mv} (l0 l1 n : Nat) : fullT ms P0 l0 P1 l1 M n = catT (prLs ms P0 l0 P1 l1 M n) := by
  unfold fullT prLs
  rw [headT_cat, movT_cat, catT_app]
theorem okA_snoc {s : Sn} {a : List (List UInt8)} {l : List UInt8} (h : s.okA a = true) (e : (s.all a).err l = 0) : s.okA (a ++ [l]) = true ∧ s.all (a ++ [l]) = (s.all a).next l := by
  rw [Sn.okA_app, Sn.all_app, h]
  simp [Sn.okA, Sn.all, e]
theorem got_heads {ms : Nat} {P0 : Nat → Ps} {P1 : Nat → Ps} {M : Nat → Mv} {l0 l1 : Nat} (hms : ms < 4294967296) (ok0 : ∀ i, i < l0 → (P0 i).Ok ∧ (P0 i).law = true) (ok1 : ∀ i, i < l1 → (P1 i).Ok ∧ (P1 i).law = true) : Sn.zero.okA (hdLs ms P0 l0 P1 l1) = true ∧ Got ms P0 l0 P1 l1 M 0 (Sn.zero.all (hdLs ms P0 l0 P1 l1)) := by
  have a0 : ∀ k, k ≤ l0 → Sn.zero.okA ([netL ms] ++ (List.range k).map (fun i => setL wHost (P0 i))) = true ∧ Got ms P0 k P1 0 M 0 (Sn.zero.all ([netL ms] ++ (List.range k).map (fun i => setL wHost (P0 i)))) := by
    intro k
    induction k with
    | zero =>
      intro _
      have := got_net (P0 := P0) (P1 := P1) (M := M) hms
      exact ⟨by simp [Sn.okA, this.1], this.2⟩
    | succ k ih =>
      intro hk
      obtain ⟨i1, i2⟩ := ih (by omega)
      have g := got_host i2 (ok0 k (by omega)).2 (ok0 k (by omega)).1
      rw [List.range_succ, List.map_append, ← List.append_assoc]
      have z := okA_snoc i1 g.1
      exact ⟨z.1, by rw [List.map_singleton, z.2]; exact g.2⟩
  have a1 : ∀ k, k ≤ l1 → Sn.zero.okA (hdLs ms P0 l0 P1 k) = true ∧ Got ms P0 l0 P1 k M 0 (Sn.zero.all (hdLs ms P0 l0 P1 k)) := by
    intro k
    induction k with
    | zero =>
      intro _
      have := a0 l0 (Nat.le_refl _)
      unfold hdLs
      simpa using this
    | succ k ih =>
      intro hk
      obtain ⟨i1, i2⟩ := ih (by omega)
      have g := got_dev i2 (ok1 k (by omega)).2 (ok1 k (by omega)).1
      have e : hdLs ms P0 l0 P1 (k + 1) = hdLs ms P0 l0 P1 k ++ [setL wDev (P1 k)] := by
        unfold hdLs
        rw [List.range_succ, List.map_append]
        simp
      rw [e]
      have z := okA_snoc i1 g.1
      exact ⟨z.1, by rw [z.2]; exact g.2⟩
  exact a1 l1 (Nat.le_refl _)
theorem got_all {ms : Nat} {P0 : Nat → Ps} {P1 : Nat → Ps} {M : Nat → Mv} {l0 l1 n : Nat} (hms : ms < 4294967296) (ok0 : ∀ i, i < l0 → (P0 i).Ok ∧ (P0 i).law = true) (ok1 : ∀ i, i < l1 → (P1 i).Ok ∧ (P1 i).law = true) (okM : ∀ i, i < n → (M i).fine) : Sn.zero.okA (prLs ms P0 l0 P1 l1 M n) = true ∧ Got ms P0 l0 P1 l1 M n (Sn.zero.all (prLs ms P0 l0 P1 l1 M n)) := by
  have a2 : ∀ k, k ≤ n → Sn.zero.okA (prLs ms P0 l0 P1 l1 M k) = true ∧ Got ms P0 l0 P1 l1 M k (Sn.zero.all (prLs ms P0 l0 P1 l1 M k)) := by
    intro k
    induction k with
    | zero =>
      intro _
      have := got_heads (M := M) hms ok0 ok1
      unfold prLs
      simpa using this
    | succ k ih =>
      intro hk
      obtain ⟨i1, i2⟩ := ih (by omega)
      have g := got_move i2 (okM k (by omega))
      have e : prLs ms P0 l0 P1 l1 M (k + 1) = prLs ms P0 l0 P1 l1 M k ++ [(M k).line] := by
        unfold prLs
        rw [List.range_succ, List.map_append]
        simp
      rw [e]
      have z := okA_snoc i1 g.1
      exact ⟨z.1, by rw [z.2]; exact g.2⟩
  exact a2 n (Nat.le_refl _)
theorem prLs_no10 {ms : Nat} {P0 : Nat → Ps} {P1 : Nat → Ps} {M : Nat → Mv} {l0 l1 n : Nat} (ok0 : ∀ i, i < l0 → (P0 i).Ok ∧ (P0 i).law = true) (ok1 : ∀ i, i < l1 → (P1 i).Ok ∧ (P1 i).law = true) (okM : ∀ i, i < n → (M i).fine) : ∀ x ∈ prLs ms P0 l0 P1 l1 M n, (10 : UInt8) ∉ x := by
  intro x hx
  unfold prLs hdLs at hx
  simp only [List.mem_append, List.mem_map, List.mem_range, List.mem_singleton] at hx
  rcases hx with ((rfl | ⟨i, hi, rfl⟩) | ⟨i, hi, rfl⟩) | ⟨i, hi, rfl⟩
  · refine join_no10 (fun w hw => ?_)
    simp only [List.mem_cons, List.not_mem_nil, or_false] at hw
    rcases hw with rfl | rfl
    · exact okW_wd (by simp)
    · exact okW_itoa (by omega)
  · exact (set_ws (ok0 i hi).2 (ok0 i hi).1 (.inl rfl)).2.1
  · exact (set_ws (ok1 i hi).2 (ok1 i hi).1 (.inr rfl)).2.1
  · exact join_no10 (Mv.ws_ok (okM i hi).1 (okM i hi).2.2)
/-- THERE AND BACK: what is printed is read as what it was. -/
theorem back {ms : Nat} {P0 : Nat → Ps} {P1 : Nat → Ps} {M : Nat → Mv} {l0 l1 n : Nat} (hms : ms < 4294967296) (ok0 : ∀ i, i < l0 → (P0 i).Ok ∧ (P0 i).law = true) (ok1 : ∀ i, i < l1 → (P1 i).Ok ∧ (P1 i).law = true) (okM : ∀ i, i < n → (M i).fine) (hL : (fullT ms P0 l0 P1 l1 M n).length ≤ 262144) : psBad (fullT ms P0 l0 P1 l1 M n) = (0, 0) ∧ Got ms P0 l0 P1 l1 M n (psSn (fullT ms P0 l0 P1 l1 M n)) := by
  have hg := got_all hms ok0 ok1 okM
  have hc := fullT_cat (ms := ms) (P0 := P0) (P1 := P1) (M := M) l0 l1 n
  have hln : lnOf (fullT ms P0 l0 P1 l1 M n) = prLs ms P0 l0 P1 l1 M n ++ [[]] := by
    rw [hc]
    exact lnOf_cat (prLs_no10 ok0 ok1 okM)
  have w0 : (wsOf []).length = 0 := by decide
  have e0 : ∀ s : Sn, s.err [] = 0 ∧ s.next [] = s := fun s => by
    unfold Sn.err Sn.next
    rw [if_neg (by simp), if_pos w0, if_pos w0]
    exact ⟨rfl, rfl⟩
  have z := okA_snoc hg.1 (e0 _).1
  rw [(e0 _).2] at z
  have g := good_end hL (by rw [hln]; exact z.1)
  refine ⟨g.1, ?_⟩
  rw [g.2, hln, z.2]
  exact hg.2
end Go.Proofs.YtnmnjcjfgbpkaaaDoor
namespace Go.Proofs.YtnmnjcjfgbpkaaaDoor
set_option maxRecDepth 100000
open Go.RowKit Go.Maps
set_option maxRecDepth 100000
set_option linter.unusedVariables false
/- what is read has a line -/
theorem fit_vl (l : List UInt8) : fitI ((vlV l : Nat) : Int) = true := fitI_iff.2 ⟨by omega, by have := vlV_lt l; omega⟩
theorem fmK_word {l : List UInt8} (h : fmK l ≠ 0) : l = kws.getD (fmK l) [] := by
  unfold fmK at h ⊢
  repeat' split
  all_goals first | assumption | skip
  all_goals simp_all
theorem rd_parts {N : Nat} {L : Nat → List UInt8} (h : rdEr N L = 0) : 1 ≤ fmK (L 0) ∧ fmK (L 0) ≤ 8 ∧ plL (fmK (L 0)) + 1 ≤ N ∧ N ≤ plM (fmK (L 0)) + 1 ∧ okF (fmF (fmK (L 0))) (fun i => L (i + 1)) (N - 1) = true ∧ rdM N L = mvF (fmF (fmK (L 0))) (fun i => L (i + 1)) (Mv.z ((fmK (L 0) : Nat) : Int)) (N - 1) := by
  have e : rdM N L = mvF (fmF (fmK (L 0))) (fun i => L (i + 1)) (Mv.z ((fmK (L 0) : Nat) : Int)) (N - 1) := by
    unfold rdM
    rw [if_pos h]
  unfold rdEr at h
  split at h
  · cases h
  · split at h
    · cases h
    · split at h
      · cases h
      · split at h
        · cases h
        · split at h
          · next h1 h2 h3 h4 h5 => exact ⟨by omega, fmK_le _, by omega, by omega, h5, e⟩
          · cases h
theorem dt_small {l : List UInt8} : dtN l ≤ 8 := by
  unfold dtN
  split
  · next h =>
    unfold dtO at h
    simp only [Bool.and_eq_true, decide_eq_true_eq] at h
    omega
  · omega
theorem fine_1 {N : Nat} {L : Nat → List UInt8} (hk : fmK (L 0) = 1) (h : rdEr N L = 0) : (rdM N L).fine ∧ (rdM N L).same (rdM N L).bare ∧ (rdM N L).k = 1 := by
  obtain ⟨_, _, h3, h4, h5, h6⟩ := rd_parts h
  rw [hk] at h3 h4 h5 h6
  simp only [plL, plM] at h3 h4
  rw [h6]
  have hN : N = 4 ∨ N = 5 := by
    simp at h3 h4
    omega
  have hd := dt_small (l := L 3)
  rcases hN with rfl | rfl
  · simp [okF, fmF, ltr, lwO] at h5
    by_cases q : L 2 = [100] <;> simp [mvF, fmF, ltr, Mv.put, Mv.z, Mv.fine, Mv.err, Mv.ns, Mv.same, Mv.bare, sided, fit_vl, q, hd, dtB, pr_lt]
  · simp [okF, fmF, ltr, lwO] at h5
    by_cases q : L 2 = [100] <;> simp [mvF, fmF, ltr, Mv.put, Mv.z, Mv.fine, Mv.err, Mv.ns, Mv.same, Mv.bare, sided, fit_vl, q, hd, dtB, pr_lt]
theorem fine_2 {N : Nat} {L : Nat → List UInt8} (hk : fmK (L 0) = 2) (h : rdEr N L = 0) : (rdM N L).fine ∧ (rdM N L).same (rdM N L).bare ∧ (rdM N L).k = 2 := by
  obtain ⟨_, _, h3, h4, h5, h6⟩ := rd_parts h
  rw [hk] at h3 h4 h5 h6
  simp only [plL, plM] at h3 h4
  rw [h6]
  obtain rfl : N = 2 := by
    simp at h3 h4
    omega
  simp [mvF, fmF, ltr, Mv.put, Mv.z, Mv.fine, Mv.err, Mv.ns, Mv.same, Mv.bare, sided, fit_vl]
theorem fine_3 {N : Nat} {L : Nat → List UInt8} (hk : fmK (L 0) = 3) (h : rdEr N L = 0) : (rdM N L).fine ∧ (rdM N L).same (rdM N L).bare ∧ (rdM N L).k = 3 := by
  obtain ⟨_, _, h3, h4, h5, h6⟩ := rd_parts h
  rw [hk] at h3 h4 h5 h6
  simp only [plL, plM] at h3 h4
  rw [h6]
  obtain rfl : N = 4 := by
    simp at h3 h4
    omega
  by_cases q : L 2 = [100] <;> simp [mvF, fmF, ltr, Mv.put, Mv.z, Mv.fine, Mv.err, Mv.ns, Mv.same, Mv.bare, sided, fit_vl, q]
theorem fine_4 {N : Nat} {L : Nat → List UInt8} (hk : fmK (L 0) = 4) (h : rdEr N L = 0) : (rdM N L).fine ∧ (rdM N L).same (rdM N L).bare ∧ (rdM N L).k = 4 := by
  obtain ⟨_, _, h3, h4, h5, h6⟩ := rd_parts h
  rw [hk] at h3 h4 h5 h6
  simp only [plL, plM] at h3 h4
  rw [h6]
  obtain rfl : N = 6 := by
    simp at h3 h4
    omega
  by_cases q : L 2 = [100] <;> simp [mvF, fmF, ltr, Mv.put, Mv.z, Mv.fine, Mv.err, Mv.ns, Mv.same, Mv.bare, sided, fit_vl, vlV_lt, q]
theorem fine_5 {N : Nat} {L : Nat → List UInt8} (hk : fmK (L 0) = 5) (h : rdEr N L = 0) : (rdM N L).fine ∧ (rdM N L).same (rdM N L).bare ∧ (rdM N L).k = 5 := by
  obtain ⟨_, _, h3, h4, h5, h6⟩ := rd_parts h
  rw [hk] at h3 h4 h5 h6
  simp only [plL, plM] at h3 h4
  rw [h6]
  obtain rfl : N = 4 := by
    simp at h3 h4
    omega
  by_cases q : L 2 = [100] <;> simp [mvF, fmF, ltr, Mv.put, Mv.z, Mv.fine, Mv.err, Mv.ns, Mv.same, Mv.bare, sided, fit_vl, q]
theorem fine_6 {N : Nat} {L : Nat → List UInt8} (hk : fmK (L 0) = 6) (h : rdEr N L = 0) : (rdM N L).fine ∧ (rdM N L).same (rdM N L).bare ∧ (rdM N L).k = 6 := by
  obtain ⟨_, _, h3, h4, h5, h6⟩ := rd_parts h
  rw [hk] at h3 h4 h5 h6
  simp only [plL, plM] at h3 h4
  rw [h6]
  obtain rfl : N = 3 := by
    simp at h3 h4
    omega
  by_cases q : L 2 = [100] <;> simp [mvF, fmF, ltr, Mv.put, Mv.z, Mv.fine, Mv.err, Mv.ns, Mv.same, Mv.bare, sided, fit_vl, q]
theorem fine_7 {N : Nat} {L : Nat → List UInt8} (hk : fmK (L 0) = 7) (h : rdEr N L = 0) : (rdM N L).fine ∧ (rdM N L).same (rdM N L).bare ∧ (rdM N L).k = 7 := by
  obtain ⟨_, _, h3, h4, h5, h6⟩ := rd_parts h
  rw [hk] at h3 h4 h5 h6
  simp only [plL, plM] at h3 h4
  rw [h6]
  obtain rfl : N = 4 := by
    simp at h3 h4
    omega
  by_cases q : L 2 = [100] <;> simp [mvF, fmF, ltr, Mv.put, Mv.z, Mv.fine, Mv.err, Mv.ns, Mv.same, Mv.bare, sided, fit_vl, q]
theorem fine_8 {N : Nat} {L : Nat → List UInt8} (hk : fmK (L 0) = 8) (h : rdEr N L = 0) : (rdM N L).fine ∧ (rdM N L).same (rdM N L).bare ∧ (rdM N L).k = 8 := by
  obtain ⟨_, _, h3, h4, h5, h6⟩ := rd_parts h
  rw [hk] at h3 h4 h5 h6
  simp only [plL, plM] at h3 h4
  rw [h6]
  obtain rfl : N = 3 := by
    simp at h3 h4
    omega
  simp [mvF, fmF, ltr, Mv.put, Mv.z, Mv.fine, Mv.err, Mv.ns, Mv.same, Mv.bare, sided, fit_vl]
theorem rd_fine {N : Nat} {L : Nat → List UInt8} (h : rdEr N L = 0) : (rdM N L).fine ∧ (rdM N L).same (rdM N L).bare ∧ (rdM N L).k = ((fmK (L 0) : Nat) : Int) := by
  obtain ⟨h1, h2, _⟩ := rd_parts h
  obtain e | e | e | e | e | e | e | e : fmK (L 0) = 1 ∨ fmK (L 0) = 2 ∨ fmK (L 0) = 3 ∨ fmK (L 0) = 4 ∨ fmK (L 0) = 5 ∨ fmK (L 0) = 6 ∨ fmK (L 0) = 7 ∨ fmK (L 0) = 8 := by omega
  · rw [e]; exact fine_1 e h
  · rw [e]; exact fine_2 e h
  · rw [e]; exact fine_3 e h
  · rw [e]; exact fine_4 e h
  · rw [e]; exact fine_5 e h
  · rw [e]; exact fine_6 e h
  · rw [e]; exact fine_7 e h
  · rw [e]; exact fine_8 e h
/-- How many bytes a move's words have at least. -/
theorem rd_bytes {N : Nat} {L : Nat → List UInt8} (h : rdEr N L = 0) : 2 ≤ N ∧ (if (rdM N L).k = 1 then 8 else 5) ≤ (L 0).length + (N - 1) := by
  have hk := (rd_fine h).2.2
  obtain ⟨h1, h2, h3, _⟩ := rd_parts h
  have hw := fmK_word (l := L 0) (by omega)
  have q : ∀ k : Fin 8, 1 ≤ plL (k.val + 1) ∧ (if ((k.val + 1 : Nat) : Int) = 1 then 8 else 5) ≤ (kws.getD (k.val + 1) []).length + plL (k.val + 1) := by decide
  have q := q ⟨fmK (L 0) - 1, by omega⟩
  simp only at q
  rw [show fmK (L 0) - 1 + 1 = fmK (L 0) by omega, ← hw] at q
  rw [hk]
  exact ⟨by omega, by omega⟩
/-- All bytes of some words. -/
def sumL : List (List UInt8) → Nat
  | [] => 0
  | l :: r => l.length + sumL r
theorem sumL_app : ∀ (a b : List (List UInt8)), sumL (a ++ b) = sumL a + sumL b
  | [], b => by simp [sumL]
  | x :: a, b => by simp [sumL, sumL_app a b]; omega
theorem addW_sum (out : List (List UInt8)) (cur : List UInt8) : sumL (addW out cur) = sumL out + cur.length := by
  unfold addW
  split
  · next h => simp [h]
  · rw [sumL_app]
    simp [sumL]
theorem wsGo_sum : ∀ (l cur : List UInt8) (out : List (List UInt8)), sumL (wsGo l cur out) ≤ sumL out + cur.length + l.length
  | [], cur, out => by simp [wsGo, addW_sum]
  | c :: r, cur, out => by
    unfold wsGo
    split
    · have := wsGo_sum r [] (addW out cur)
      rw [addW_sum] at this
      simp at this ⊢
      omega
    · have := wsGo_sum r (cur ++ [c]) out
      simp at this ⊢
      omega
theorem addW_ne {out : List (List UInt8)} {cur : List UInt8} (h : ∀ w ∈ out, w ≠ []) : ∀ w ∈ addW out cur, w ≠ [] := by
  unfold addW
  split
  · exact h
  · next e =>
    intro w hw
    rcases List.mem_append.1 hw with q | q
    · exact h w q
    · rw [List.mem_singleton.1 q]
      exact e
theorem wsGo_ne : ∀ (l cur : List UInt8) (out : List (List UInt8)), (∀ w ∈ out, w ≠ []) → ∀ w ∈ wsGo l cur out, w ≠ []
  | [], cur, out, h => addW_ne h
  | c :: r, cur, out, h => by
    unfold wsGo
    split
    · exact wsGo_ne r [] _ (addW_ne h)
    · exact wsGo_ne r _ out h
theorem sum_ge : ∀ (ws : List (List UInt8)), (∀ w ∈ ws, w ≠ []) → ws.length ≤ sumL ws
  | [], _ => by simp [sumL]
  | a :: r, h => by
    have := sum_ge r (fun w hw => h w (List.mem_cons_of_mem _ hw))
    have h0 : 1 ≤ a.length := by
      have := h a List.mem_cons_self
      cases a with
      | nil => exact absurd rfl this
      | cons x y => simp
    simp [sumL]
    omega
/-- A line has the bytes of its words at least. -/
theorem ws_bytes (l : List UInt8) (h : (wsOf l).length ≠ 0) : (wsL (wsOf l) 0).length + ((wsOf l).length - 1) ≤ l.length := by
  have h1 := wsGo_sum (tw 35 l) [] []
  have h2 := wsGo_ne (tw 35 l) [] [] (fun w hw => by cases hw)
  have h3 := tw_len 35 l
  have h4 : sumL (wsOf l) ≤ l.length := by
    unfold wsOf
    simp [sumL] at h1
    omega
  have h5 : ∀ w ∈ wsOf l, w ≠ [] := h2
  cases e : wsOf l with
  | nil => rw [e] at h; simp at h
  | cons a r =>
    rw [e] at h4 h5
    have := sum_ge r (fun w hw => h5 w (List.mem_cons_of_mem _ hw))
    simp [sumL] at h4
    simp [wsL]
    omega
theorem setT_congr {wd : List UInt8} {P Q : Nat → Ps} : ∀ {n : Nat}, (∀ i, i < n → P i = Q i) → setT wd P n = setT wd Q n
  | 0, _ => rfl
  | n + 1, h => by rw [setT, setT, setT_congr (fun i hi => h i (by omega)), h n (by omega)]
theorem movT_congr {P Q : Nat → Mv} : ∀ {n : Nat}, (∀ i, i < n → P i = Q i) → movT P n = movT Q n
  | 0, _ => rfl
  | n + 1, h => by rw [movT, movT, movT_congr (fun i hi => h i (by omega)), h n (by omega)]
/-- How long what has been said prints, but for the net's own line. -/
def Sn.out (s : Sn) : Nat := (setT wHost s.Z.P0 s.Z.l0).length + (setT wDev s.Z.P1 s.Z.l1).length + (movT (mvL s.M) s.M.length).length
structure Sn.Fine (s : Sn) : Prop where
  ms : s.Z.ms < 4294967296
  p0 : ∀ i, i < s.Z.l0 → (s.Z.P0 i).Ok
  p1 : ∀ i, i < s.Z.l1 → (s.Z.P1 i).Ok
  mv : ∀ i, i < s.M.length → (mvL s.M i).fine ∧ (mvL s.M i).same (mvL s.M i).bare
theorem stP_ok (R : Nat → List UInt8) : (stP R).Ok := by
  have h0 := vlV_lt (R 0)
  have h1 := vlV_lt (R 1)
  have h2 := vlV_lt (R 2)
  have h3 := vlV_lt (R 3)
  have h4 := vlV_lt (R 4)
  unfold stP
  exact ⟨h0, h4, ⟨by simp only; omega, by simp only; omega⟩, ⟨by simp only; omega, by simp only; omega⟩, ⟨by simp only; omega, by simp only; omega⟩⟩
theorem hd_parts {N : Nat} {L : Nat → List UInt8} (hi : hdIs N L = true) (he : hdEr N L = 0) : hdE (N - 1) L = 0 ∧ N - 1 = hdA (L 0) ∧ 0 < N ∧ hdW (L 0) = true := by
  unfold hdEr at he
  rw [hi, if_pos rfl] at he
  unfold hdIs at hi
  simp only [Bool.and_eq_true, decide_eq_true_eq] at hi
  refine ⟨he, ?_, hi⟩
  unfold hdE at he
  split at he
  · cases he
  · split at he
    · cases he
    · omega
theorem Sn.step {s : Sn} (hs : s.Fine) {l : List UInt8} (he : s.err l = 0) : (s.next l).Fine ∧ (s.next l).out ≤ s.out + 12 * (l.length + 1) := by
  unfold Sn.err at he
  rw [if_neg (by split at he <;> simp_all)] at he
  unfold Sn.next
  by_cases h0 : (wsOf l).length = 0
  · rw [if_pos h0]
    exact ⟨hs, by omega⟩
  rw [if_neg h0] at he ⊢
  have hb := ws_bytes l h0
  by_cases h1 : s.M.length = 0 ∧ hdIs (wsOf l).length (wsL (wsOf l)) = true
  · rw [if_pos h1] at he ⊢
    obtain ⟨e1, e2, e3, e4⟩ := hd_parts h1.2 he
    obtain ⟨N, hN⟩ : ∃ y, (wsOf l).length = y := ⟨_, rfl⟩
    obtain ⟨L, hL⟩ : ∃ y, wsL (wsOf l) = y := ⟨_, rfl⟩
    rw [hN, hL] at h1 e1 e2 hb ⊢
    rw [hN] at e3
    rw [hL] at e4
    unfold Nt.hd Nt.put
    rw [h1.2, if_pos rfl, if_pos e1]
    have m0 : s.M = [] := List.length_eq_zero_iff.1 h1.1
    by_cases w1 : L 0 = [110, 101, 116]
    · rw [if_pos w1]
      refine ⟨⟨vlV_lt _, hs.p0, hs.p1, hs.mv⟩, ?_⟩
      simp only [Sn.out]
      omega
    · rw [if_neg w1]
      have hA : hdA (L 0) = 5 := by
        unfold hdA
        rw [if_neg w1]
      by_cases w2 : L 0 = [104, 111, 115, 116]
      · rw [if_pos w2]
        have eq : ∀ i, i < s.Z.l0 → (fun i => if i = s.Z.l0 then stP (fun i => L (i + 1)) else s.Z.P0 i) i = s.Z.P0 i := fun i hi => by simp only; rw [if_neg (by omega)]
        refine ⟨⟨hs.ms, fun i hi => ?_, hs.p1, hs.mv⟩, ?_⟩
        · simp only at hi ⊢
          split
          · exact stP_ok _
          · exact hs.p0 i (by omega)
        · have hl : (L 0).length = 4 := by rw [w2]; rfl
          have hq := set_line (wd := wHost) (by decide) (stP_ok (fun i => L (i + 1)))
          simp only [Sn.out, setT, if_true]
          rw [setT_congr eq]
          simp only [List.length_append, List.length_cons, List.length_nil]
          omega
      · rw [if_neg w2]
        have eq : ∀ i, i < s.Z.l1 → (fun i => if i = s.Z.l1 then stP (fun i => L (i + 1)) else s.Z.P1 i) i = s.Z.P1 i := fun i hi => by simp only; rw [if_neg (by omega)]
        have w3 : L 0 = [100, 101, 118, 105, 99, 101] := by
          unfold hdW at e4
          simp only [Bool.or_eq_true, beq_iff_eq] at e4
          rcases e4 with (q | q) | q
          · exact absurd q w1
          · exact absurd q w2
          · exact q
        refine ⟨⟨hs.ms, hs.p0, fun i hi => ?_, hs.mv⟩, ?_⟩
        · simp only at hi ⊢
          split
          · exact stP_ok _
          · exact hs.p1 i (by omega)
        · have hl : (L 0).length = 6 := by rw [w3]; rfl
          have hq := set_line (wd := wDev) (by decide) (stP_ok (fun i => L (i + 1)))
          simp only [Sn.out, setT, if_true]
          rw [setT_congr eq]
          simp only [List.length_append, List.length_cons, List.length_nil]
          omega
  · rw [if_neg h1] at he ⊢
    have f := rd_fine he
    have b := rd_bytes he
    have hl := Mv.line_short f.1.1 f.1.2.1
    obtain ⟨N, hN⟩ : ∃ y, (wsOf l).length = y := ⟨_, rfl⟩
    obtain ⟨L, hL⟩ : ∃ y, wsL (wsOf l) = y := ⟨_, rfl⟩
    rw [hN, hL] at f b hb hl ⊢
    obtain ⟨m, hm⟩ : ∃ y, rdM N L = y := ⟨_, rfl⟩
    rw [hm] at f b hl ⊢
    have eq : ∀ i, i < s.M.length → mvL (s.M ++ [m]) i = mvL s.M i := fun i hi => mvL_app _ _ _ hi
    refine ⟨⟨hs.ms, hs.p0, hs.p1, fun i hi => ?_⟩, ?_⟩
    · simp only [List.length_append, List.length_cons, List.length_nil] at hi
      by_cases e : i = s.M.length
      · subst e
        simp only
        rw [mvL_last]
        exact ⟨f.1, f.2.1⟩
      · simp only
        rw [eq i (by omega)]
        exact hs.mv i (by omega)
    · simp only [Sn.out, List.length_append, List.length_cons, List.length_nil, movT]
      rw [movT_congr eq, mvL_last]
      have z1 := hl.1
      have z2 := b.2
      by_cases e : m.k = 1
      · rw [if_pos e] at z1 z2
        omega
      · rw [if_neg e] at z1 z2
        omega
theorem Sn.steps : ∀ {ls : List (List UInt8)} {s : Sn}, s.Fine → s.okA ls = true → (s.all ls).Fine ∧ (s.all ls).out ≤ s.out + 12 * (sumL ls + ls.length)
  | [], s, hs, _ => ⟨hs, by simp [Sn.all]⟩
  | l :: r, s, hs, h => by
    simp only [Sn.okA, Bool.and_eq_true, decide_eq_true_eq] at h
    have h1 := Sn.step hs h.1
    have h2 := Sn.steps h1.1 h.2
    refine ⟨h2.1, ?_⟩
    have := h1.2
    have := h2.2
    simp only [Sn.all, sumL, List.length_cons]
    omega
theorem lnGo_sum : ∀ (l cur : List UInt8) (out : List (List UInt8)), sumL (lnGo l cur out) + (lnGo l cur out).length = sumL out + out.length + cur.length + l.length + 1
  | [], cur, out => by
    simp [lnGo, sumL_app, sumL]
    omega
  | c :: r, cur, out => by
    unfold lnGo
    split
    · rw [lnGo_sum r [] (out ++ [cur])]
      simp [sumL_app, sumL]
      omega
    · rw [lnGo_sum r (cur ++ [c]) out]
      simp
      omega
theorem Sn.zero_fine : Sn.zero.Fine := ⟨by decide, fun i hi => by simp [Sn.zero, Nt.zero] at hi, fun i hi => by simp [Sn.zero, Nt.zero] at hi, fun i hi => by simp [Sn.zero] at hi⟩
theorem okA_of_bad : ∀ {ls : List (List UInt8)} {s : Sn} {n : Nat}, (s.bad n ls).2 = 0 → s.okA ls = true
  | [], s, n, _ => rfl
  | l :: r, s, n, h => by
    unfold Sn.bad at h
    split at h
    · next e =>
      simp only [Sn.okA, Bool.and_eq_true, decide_eq_true_eq]
      exact ⟨e, okA_of_bad h⟩
    · next e => exact absurd h e
/-- What is read out of a text: it is fine, and prints no longer than this. -/
theorem ps_fine {l : List UInt8} (h : (psBad l).2 = 0) (hl : l.length ≤ 262144) : (psSn l).Fine ∧ (psSn l).out ≤ 12 * (l.length + 1) := by
  have h' := h
  unfold psBad at h'
  rw [if_neg (by omega)] at h'
  have ok := okA_of_bad h'
  have q := Sn.steps Sn.zero_fine ok
  unfold psSn
  rw [if_pos h]
  refine ⟨q.1, ?_⟩
  have e := lnGo_sum l [] []
  have e0 : Sn.zero.out = 0 := by decide
  have := q.2
  unfold lnOf at this ⊢
  simp [sumL] at e
  rw [e0] at this
  omega
theorem badM_none {M : Nat → Mv} : ∀ {n : Nat}, (∀ i, i < n → (M i).err = 0) → badM M n = none
  | 0, _ => rfl
  | n + 1, h => by rw [badM, badM_none (fun i hi => h i (by omega))]; simp [h n (by omega)]
/- remarks -/
/-- A line with blanks ahead and a remark behind. -/
def decL (sd l : List UInt8) : List UInt8 := [32, 9] ++ (l ++ ([32, 13, 35, 32] ++ sd))
theorem tw_app {c : UInt8} : ∀ (l r : List UInt8), tw c (l ++ r) = if c ∈ l then tw c l else l ++ tw c r
  | [], r => by simp
  | b :: l, r => by
    rw [List.cons_append, tw]
    by_cases h : b = c
    · rw [if_pos h, if_pos (by simp [h]), tw, if_pos h]
    · rw [if_neg h, tw_app l r]
      by_cases h2 : c ∈ l
      · rw [if_pos h2, if_pos (List.mem_cons_of_mem _ h2), tw, if_neg h]
      · have : c ∉ b :: l := by
          intro q
          rcases List.mem_cons.1 q with e | e
          · exact h e.symm
          · exact h2 e
        rw [if_neg h2, if_neg this, List.cons_append]
theorem addW_nil (out : List (List UInt8)) : addW out [] = out := by simp [addW]
theorem wsGo_tail : ∀ (x cur : List UInt8) (out : List (List UInt8)), wsGo (x ++ [32, 13]) cur out = wsGo x cur out
  | [], cur, out => by
    have g1 : gapB 32 = true := by decide
    have g2 : gapB 13 = true := by decide
    have e : wsGo ([] : List UInt8) cur out = addW out cur := rfl
    rw [e, List.nil_append, wsGo, if_pos g1, wsGo, if_pos g2, wsGo, addW_nil, addW_nil]
  | c :: x, cur, out => by
    rw [List.cons_append, wsGo, wsGo]
    split
    · exact wsGo_tail x [] _
    · exact wsGo_tail x _ out
theorem ws_dec (sd l : List UInt8) : wsOf (decL sd l) = wsOf l := by
  unfold wsOf decL
  have h1 : tw 35 ([32, 9] ++ (l ++ ([32, 13, 35, 32] ++ sd))) = [32, 9] ++ tw 35 (l ++ ([32, 13, 35, 32] ++ sd)) := by
    rw [tw_app, if_neg (by decide)]
  have g1 : gapB 32 = true := by decide
  have g2 : gapB 9 = true := by decide
  have h2 : ∀ x : List UInt8, wsGo ([32, 9] ++ x) [] [] = wsGo x [] [] := fun x => by
    show wsGo (32 :: 9 :: x) [] [] = _
    rw [wsGo, if_pos g1, wsGo, if_pos g2, addW_nil, addW_nil]
  rw [h1, h2, tw_app]
  split
  · rfl
  · next h =>
    have h3 : tw 35 ([32, 13, 35, 32] ++ sd) = [32, 13] := by
      rw [tw_app, if_pos (by decide)]
      decide
    rw [h3, wsGo_tail, tw_none h]
/-- Lines, an end between two. -/
def jnL : List (List UInt8) → List UInt8
  | [] => []
  | [l] => l
  | l :: m :: r => l ++ ([10] ++ jnL (m :: r))
theorem jnL_snoc : ∀ (ls : List (List UInt8)) (l : List UInt8), ls ≠ [] → jnL (ls ++ [l]) = jnL ls ++ ([10] ++ l)
  | [], _, h => absurd rfl h
  | [a], l, _ => by simp [jnL]
  | a :: b :: r, l, _ => by
    have := jnL_snoc (b :: r) l (by simp)
    simp only [List.cons_append, jnL] at this ⊢
    rw [this]
    simp
theorem lnGo_jn : ∀ (ls : List (List UInt8)) (out : List (List UInt8)), ls ≠ [] → (∀ x ∈ ls, (10 : UInt8) ∉ x) → lnGo (jnL ls) [] out = out ++ ls
  | [], _, h, _ => absurd rfl h
  | [a], out, _, h => by
    have := lnGo_skip a [] [] out (h a List.mem_cons_self)
    simp only [List.append_nil, List.nil_append] at this
    rw [jnL, this, lnGo]
  | a :: b :: r, out, _, h => by
    rw [jnL, lnGo_skip a _ [] out (h a List.mem_cons_self)]
    have e : ([10] ++ jnL (b :: r) : List UInt8) = 10 :: jnL (b :: r) := rfl
    rw [e, lnGo, if_pos rfl, lnGo_jn (b :: r) _ (by simp) (fun y hy => h y (List.mem_cons_of_mem _ hy))]
    simp
theorem lnOf_jn {ls : List (List UInt8)} (h0 : ls ≠ []) (h : ∀ x ∈ ls, (10 : UInt8) ∉ x) : lnOf (jnL ls) = ls := by
  unfold lnOf
  rw [lnGo_jn ls [] h0 h]
  simp
theorem jnL_len : ∀ (ls : List (List UInt8)), ls ≠ [] → (jnL ls).length + 1 = sumL ls + ls.length
  | [], h => absurd rfl h
  | [a], _ => by simp [jnL, sumL]
  | a :: b :: r, _ => by
    have := jnL_len (b :: r) (by simp)
    simp [jnL, sumL] at this ⊢
    omega
theorem lnGo_ne : ∀ (l cur : List UInt8) (out : List (List UInt8)), lnGo l cur out ≠ []
  | [], cur, out => by simp [lnGo]
  | c :: r, cur, out => by
    unfold lnGo
    split
    · exact lnGo_ne r _ _
    · exact lnGo_ne r _ _
theorem lnGo_no10 : ∀ (l cur : List UInt8) (out : List (List UInt8)), (10 : UInt8) ∉ cur → (∀ x ∈ out, (10 : UInt8) ∉ x) → ∀ x ∈ lnGo l cur out, (10 : UInt8) ∉ x
  | [], cur, out, hc, ho => by
    unfold lnGo
    intro x hx
    rcases List.mem_append.1 hx with q | q
    · exact ho x q
    · rw [List.mem_singleton.1 q]
      exact hc
  | c :: r, cur, out, hc, ho => by
    unfold lnGo
    split
    · refine lnGo_no10 r [] _ (by simp) (fun x hx => ?_)
      rcases List.mem_append.1 hx with q | q
      · exact ho x q
      · rw [List.mem_singleton.1 q]
        exact hc
    · next h =>
      refine lnGo_no10 r _ out (fun q => ?_) ho
      rcases List.mem_append.1 q with q | q
      · exact hc q
      · exact h (List.mem_singleton.1 q).symm
theorem ln_no10 (l : List UInt8) : ∀ x ∈ lnOf l, (10 : UInt8) ∉ x := lnGo_no10 l [] [] (by simp) (fun x hx => by cases hx)
theorem dec_no10 {sd l : List UInt8} (hs : (10 : UInt8) ∉ sd) (hl : (10 : UInt8) ∉ l) : (10 : UInt8) ∉ decL sd l := by
  unfold decL
  simp [hs, hl]
theorem sum_dec (sd : List UInt8) : ∀ (ls : List (List UInt8)), sumL (ls.map (decL sd)) = sumL ls + ls.length * (6 + sd.length)
  | [] => by simp [sumL]
  | l :: r => by
    have := sum_dec sd r
    simp only [List.map_cons, sumL, List.length_cons, this, decL, List.length_append, List.length_nil]
    rw [Nat.add_mul]
    omega
theorem Sn.dec {sd : List UInt8} (hs : sd.length ≤ 100) (s : Sn) {l : List UInt8} (hl : l.length ≤ 800) : s.err (decL sd l) = s.err l ∧ s.next (decL sd l) = s.next l := by
  have h1 : ¬ 1024 < (decL sd l).length := by
    unfold decL
    simp
    omega
  unfold Sn.err Sn.next
  have h2 : ¬ 1024 < l.length := by omega
  rw [ws_dec, if_neg h1, if_neg h2]
  exact ⟨rfl, rfl⟩
theorem Sn.decs {sd : List UInt8} (hs : sd.length ≤ 100) : ∀ (ls : List (List UInt8)) (s : Sn) (n : Nat), (∀ x ∈ ls, x.length ≤ 800) → s.bad n (ls.map (decL sd)) = s.bad n ls ∧ s.all (ls.map (decL sd)) = s.all ls
  | [], s, n, _ => ⟨rfl, rfl⟩
  | l :: r, s, n, h => by
    have h1 := s.dec hs (h l List.mem_cons_self)
    have h2 := Sn.decs hs r (s.next l) (n + 1) (fun x hx => h x (List.mem_cons_of_mem _ hx))
    simp only [List.map_cons, Sn.bad, Sn.all, h1.1, h1.2, h2.1, h2.2]
    exact ⟨trivial, trivial⟩
/-- A text whose lines bear blanks and remarks is read as the text. -/
theorem ps_dec {l sd : List UInt8} (hl : l.length ≤ 16384) (hs : sd.length ≤ 100) (h10 : (10 : UInt8) ∉ sd) (hn : (lnOf l).length ≤ 1000) (h8 : ∀ x ∈ lnOf l, x.length ≤ 800) : psBad (jnL ((lnOf l).map (decL sd))) = psBad l ∧ psSn (jnL ((lnOf l).map (decL sd))) = psSn l ∧ (jnL ((lnOf l).map (decL sd))).length ≤ 262144 := by
  have ne : lnOf l ≠ [] := lnGo_ne l [] []
  have ne2 : (lnOf l).map (decL sd) ≠ [] := by simpa using ne
  have hln : lnOf (jnL ((lnOf l).map (decL sd))) = (lnOf l).map (decL sd) := lnOf_jn ne2 (fun x hx => by
    obtain ⟨y, hy, rfl⟩ := List.mem_map.1 hx
    exact dec_no10 h10 (ln_no10 l y hy))
  have hlen : (jnL ((lnOf l).map (decL sd))).length ≤ 262144 := by
    have e1 := jnL_len _ ne2
    rw [sum_dec, List.length_map] at e1
    have e2 := lnGo_sum l [] []
    have e3 : sumL (lnOf l) + (lnOf l).length = l.length + 1 := by
      unfold lnOf
      simp [sumL] at e2
      omega
    have e4 : (lnOf l).length * (6 + sd.length) ≤ 1000 * 106 := Nat.mul_le_mul hn (by omega)
    omega
  have d := Sn.decs hs (lnOf l) Sn.zero 1 h8
  have hb : psBad (jnL ((lnOf l).map (decL sd))) = psBad l := by
    unfold psBad
    rw [if_neg (by omega), if_neg (by omega), hln, d.1]
  refine ⟨hb, ?_, hlen⟩
  unfold psSn
  rw [hb, hln, d.2]
end Go.Proofs.YtnmnjcjfgbpkaaaDoor
namespace Go.Proofs.YtnmnjcjfgbpkaaaDoor
set_option maxRecDepth 100000
open Go.RowKit Go.Maps
set_option maxRecDepth 100000
set_option linter.unusedVariables false
theorem Row8.same {w : World} {a : Option Addr} {l c : Nat} {b b' : Nat → Nat} (h : Row8 w a l c b) (e : ∀ j, j < l → b j = b' j) : Row8 w a l c b' :=
  ⟨fun i hi => by rw [← e i hi]; exact h.byte i hi, h.nil, fun x hx i hi => by rw [← e i hi]; exact h.src x hx i hi, h.le⟩
theorem MvRow.to {w : World} {a : Option Addr} {n : Nat} {M M' : Nat → Mv} {D : Nat → Md} (h : MvRow w a n M D) (e : ∀ i, i < n → (M i).same (M' i)) : MvRow w a n M' D := fun i hi => by
  obtain ⟨q, off, ea, cc, RR⟩ := h i hi
  obtain ⟨h1, h2, h3, h4, h5, h6, h7, h8, h9, h10⟩ := e i hi
  refine ⟨q, off, ea, ?_, ?_⟩
  · have : (M i).ls (D i) = (M' i).ls (D i) := by
      unfold Mv.ls Mv.cs
      rw [h1, h2, h3, h4, h5, h6, h7, h8, h9]
    rw [← this]
    exact cc
  · rw [← h9]
    exact RR.same h10
set_option maxHeartbeats 4000000 in
theorem rsameMs (a a' : Option Addr) (n c c' : Nat) (M : Nat → Mv) (D D' : Nat → Md) (w : World) (h : MvRow w a n M D) (h' : MvRow w a' n M D') (hn : n ≤ 1000000) : Calls Tryd.prog 11 #[.slice a n c, .slice a' n c'] w fun r w' => r = .returned (.bool true) ∧ Below w.heap.size w w' := by
  have HW : Hid (MvRow w a n M D ∧ MvRow w a' n M D') := ⟨h, h'⟩
  clear h h'
  have q0 : (((n : Nat) : Int) != ((n : Nat) : Int)) = false := by simp
  go_enter Tryd.func11, Tryd.ntmps11
  go_wp2_with fail
  clear q0
  go_loopw [5, 11, 12, 13, 14, 15, 16, 17, 18, 19, 20, 21, 22, 23, 24, 25, 26] (fun c _ _ _ _ _ _ _ _ _ _ _ _ _ _ _ _ wr => ∃ i : Nat, i ≤ n ∧ c = .int .i64 ((i : Nat) : Int) ∧ Hid (Below w.heap.size w wr)) (fun c _ _ _ _ _ _ _ _ _ _ _ _ _ _ _ _ _ => n - natV c)
  case atStart => exact ⟨0, by omega, rfl, Below.refl _ _⟩
  case round =>
    obtain ⟨i, hi, rfl, HI⟩ := hrel
    by_cases hlt : i < n
    · have hlt' : ((i : Nat) : Int) < ((n : Nat) : Int) := by omega
      have hw1 : IntKind.i64.wrap (((i : Nat) : Int) + 1) = ((i + 1 : Nat) : Int) := by rw [IntKind.wrap_i64]; omega
      obtain ⟨x, xo, ex, rx, Rx⟩ := (HW.out.1.below HI.out) i hlt
      obtain ⟨y, yo, ey, ry, Ry⟩ := (HW.out.2.below HI.out) i hlt
      subst ex ey
      obtain ⟨m, hM⟩ : ∃ z, M i = z := ⟨_, rfl⟩
      obtain ⟨d, hD⟩ : ∃ z, D i = z := ⟨_, rfl⟩
      obtain ⟨e, hE⟩ : ∃ z, D' i = z := ⟨_, rfl⟩
      rw [hM, hD] at rx Rx
      rw [hM, hE] at ry Ry
      clear hM hD hE
      have HR : Hid (wr.rangeAt x (xo + i * 9) (m.ls d) ∧ wr.rangeAt y (yo + i * 9) (m.ls e) ∧ Row8 wr d.a m.l d.c m.b ∧ Row8 wr e.a m.l e.c m.b) := ⟨rx, ry, Rx, Ry⟩
      clear rx ry Rx Ry
      have hS : ∀ wx, Below wr.heap.size wr wx → wx.cell? ⟨x, xo + i * 9, none⟩ = some (.int .i64 m.k) ∧ wx.cell? ⟨x, xo + i * 9 + 1, none⟩ = some (.int .i64 m.c) ∧ wx.cell? ⟨x, xo + i * 9 + 2, none⟩ = some (.int .i64 m.s) ∧ wx.cell? ⟨x, xo + i * 9 + 3, none⟩ = some (.int .i64 m.f) ∧ wx.cell? ⟨x, xo + i * 9 + 4, none⟩ = some (.int .i64 m.a) ∧ wx.cell? ⟨x, xo + i * 9 + 5, none⟩ = some (.int .u32 (m.w : Nat)) ∧ wx.cell? ⟨x, xo + i * 9 + 6, none⟩ = some (.int .i64 m.n) ∧ wx.cell? ⟨x, xo + i * 9 + 7, none⟩ = some (.bool m.h) ∧ wx.cell? ⟨x, xo + i * 9 + 8, none⟩ = some (.slice d.a m.l d.c) ∧ wx.cell? ⟨y, yo + i * 9, none⟩ = some (.int .i64 m.k) ∧ wx.cell? ⟨y, yo + i * 9 + 1, none⟩ = some (.int .i64 m.c) ∧ wx.cell? ⟨y, yo + i * 9 + 2, none⟩ = some (.int .i64 m.s) ∧ wx.cell? ⟨y, yo + i * 9 + 3, none⟩ = some (.int .i64 m.f) ∧ wx.cell? ⟨y, yo + i * 9 + 4, none⟩ = some (.int .i64 m.a) ∧ wx.cell? ⟨y, yo + i * 9 + 5, none⟩ = some (.int .u32 (m.w : Nat)) ∧ wx.cell? ⟨y, yo + i * 9 + 6, none⟩ = some (.int .i64 m.n) ∧ wx.cell? ⟨y, yo + i * 9 + 7, none⟩ = some (.bool m.h) ∧ wx.cell? ⟨y, yo + i * 9 + 8, none⟩ = some (.slice e.a m.l e.c) := fun wx bx => by
        have p := rangeB HR.out.1 bx
        have q := rangeB HR.out.2.1 bx
        exact ⟨p 0 _ rfl, p 1 _ rfl, p 2 _ rfl, p 3 _ rfl, p 4 _ rfl, p 5 _ rfl, p 6 _ rfl, p 7 _ rfl, p 8 _ rfl, q 0 _ rfl, q 1 _ rfl, q 2 _ rfl, q 3 _ rfl, q 4 _ rfl, q 5 _ rfl, q 6 _ rfl, q 7 _ rfl, q 8 _ rfl⟩
      have hC : ∀ wx, Below wr.heap.size wr wx → Calls Tryd.prog 15 #[.agg #[.int .i64 m.k, .int .i64 m.c, .int .i64 m.s, .int .i64 m.f, .int .i64 m.a, .int .u32 (m.w : Nat), .int .i64 m.n, .bool m.h, .slice d.a m.l d.c], .agg #[.int .i64 m.k, .int .i64 m.c, .int .i64 m.s, .int .i64 m.f, .int .i64 m.a, .int .u32 (m.w : Nat), .int .i64 m.n, .bool m.h, .slice e.a m.l e.c]] wx fun r w' => ∃ v, r = .returned v ∧ (v = .bool true ∧ Below wr.heap.size wr w') := fun wx bx => by
        refine (rsameM m d.a e.a d.c e.c wx (HR.out.2.2.1.below bx) (HR.out.2.2.2.below bx)).mono ?_
        rintro r w' ⟨rfl, b⟩
        exact ⟨_, rfl, rfl, bx.trans (b.mono bx.size)⟩
      have HSd := hS wr (Below.refl _ _)
      have B0 : Below wr.heap.size wr wr.drew := Below.drew (Below.refl _ _)
      have HSe := hS _ B0
      go_upto_region 6 with fail
      go_cut [26] (fun z wx => z = .bool false ∧ Hid (Below w.heap.size w wx))
      case first =>
        go_region_held3 (fun wx => wx.cell? ⟨x, xo + i * 9, none⟩ = some (.int .i64 m.k) ∧ wx.cell? ⟨x, xo + i * 9 + 1, none⟩ = some (.int .i64 m.c) ∧ wx.cell? ⟨x, xo + i * 9 + 2, none⟩ = some (.int .i64 m.s) ∧ wx.cell? ⟨x, xo + i * 9 + 3, none⟩ = some (.int .i64 m.f) ∧ wx.cell? ⟨x, xo + i * 9 + 4, none⟩ = some (.int .i64 m.a) ∧ wx.cell? ⟨x, xo + i * 9 + 5, none⟩ = some (.int .u32 (m.w : Nat)) ∧ wx.cell? ⟨x, xo + i * 9 + 6, none⟩ = some (.int .i64 m.n) ∧ wx.cell? ⟨x, xo + i * 9 + 7, none⟩ = some (.bool m.h) ∧ wx.cell? ⟨x, xo + i * 9 + 8, none⟩ = some (.slice d.a m.l d.c) ∧ wx.cell? ⟨y, yo + i * 9, none⟩ = some (.int .i64 m.k) ∧ wx.cell? ⟨y, yo + i * 9 + 1, none⟩ = some (.int .i64 m.c) ∧ wx.cell? ⟨y, yo + i * 9 + 2, none⟩ = some (.int .i64 m.s) ∧ wx.cell? ⟨y, yo + i * 9 + 3, none⟩ = some (.int .i64 m.f) ∧ wx.cell? ⟨y, yo + i * 9 + 4, none⟩ = some (.int .i64 m.a) ∧ wx.cell? ⟨y, yo + i * 9 + 5, none⟩ = some (.int .u32 (m.w : Nat)) ∧ wx.cell? ⟨y, yo + i * 9 + 6, none⟩ = some (.int .i64 m.n) ∧ wx.cell? ⟨y, yo + i * 9 + 7, none⟩ = some (.bool m.h) ∧ wx.cell? ⟨y, yo + i * 9 + 8, none⟩ = some (.slice e.a m.l e.c)) (first | assumption | exact hS _ (by assumption)) (first
          | (refine step_callS 15 #[.tmp 20, .tmp 24] #[45, 45] rfl (by kernel_rfl) #[.agg #[.int .i64 m.k, .int .i64 m.c, .int .i64 m.s, .int .i64 m.f, .int .i64 m.a, .int .u32 (m.w : Nat), .int .i64 m.n, .bool m.h, .slice d.a m.l d.c], .agg #[.int .i64 m.k, .int .i64 m.c, .int .i64 m.s, .int .i64 m.f, .int .i64 m.a, .int .u32 (m.w : Nat), .int .i64 m.n, .bool m.h, .slice e.a m.l e.c]] (by kernel_rfl) (hC _ (by assumption)) ?_; rintro z v1 ⟨rfl, b1⟩)
          | fail)
        all_goals ((try go_wp2_with fail); go_meet; exact ⟨by first | rfl | simp, HI.out.trans (b1.mono HI.out.size)⟩)
      case rest =>
        obtain ⟨rfl, HJ⟩ := hcut
        clear hS hC HSd HSe B0 HR HI
        go_wp2_with fail
        go_roundw
        case rel => exact ⟨i + 1, by omega, by first | rfl | go_num, HJ⟩
        case measure => simp [natV] <;> omega
    · obtain rfl : i = n := by omega
      have hlt' : ¬ ((i : Nat) : Int) < ((i : Nat) : Int) := by omega
      go_wp2_with fail
      go_ret
      exact ⟨rfl, HI.out⟩
end Go.Proofs.YtnmnjcjfgbpkaaaDoor
