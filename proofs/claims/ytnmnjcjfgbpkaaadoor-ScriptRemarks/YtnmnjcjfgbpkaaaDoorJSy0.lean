/- Layer 20: a line's words: by bytes, and as the library cuts them (no walk in this text). -/
import Derived.Test.YtnmnjcjfgbpkaaaDoorJSx1
import Derived.Lib.FieldsP
import Derived.Lib.SpaceUEq
import Derived.Lib.IndexLaws
import Derived.Lib.IndexBytes
namespace Go.Proofs.YtnmnjcjfgbpkaaaDoor
set_option maxRecDepth 100000
open Go.RowKit Go.Maps
set_option maxRecDepth 100000
set_option linter.unusedVariables false
/-- What stands ahead of the first of a byte. -/
def tw (c : UInt8) : List UInt8 → List UInt8
  | [] => []
  | b :: r => if b = c then [] else b :: tw c r
theorem tw_len (c : UInt8) : ∀ l, (tw c l).length ≤ l.length
  | [] => Nat.le_refl _
  | b :: r => by
    unfold tw
    split
    · simp
    · have := tw_len c r
      simp
      exact this
theorem tw_at (c : UInt8) : ∀ (l : List UInt8) (i : Nat), i < (tw c l).length → l.getD i 0 = (tw c l).getD i 0 ∧ l.getD i 0 ≠ c
  | [], i, h => by simp [tw] at h
  | b :: r, i, h => by
    unfold tw at h ⊢
    by_cases hb : b = c
    · rw [if_pos hb] at h
      simp at h
    · rw [if_neg hb] at h ⊢
      cases i with
      | zero => exact ⟨rfl, hb⟩
      | succ i => exact tw_at c r i (by simpa using h)
theorem tw_end (c : UInt8) : ∀ (l : List UInt8), (tw c l).length < l.length → l.getD (tw c l).length 0 = c
  | [], h => by simp at h
  | b :: r, h => by
    unfold tw at h ⊢
    by_cases hb : b = c
    · rw [if_pos hb]
      exact hb
    · rw [if_neg hb] at h ⊢
      exact tw_end c r (by simpa using h)
theorem index_tw (c : UInt8) : ∀ (l : List UInt8), (Lib.index l [c] = -1 ∧ tw c l = l) ∨ (Lib.index l [c] = (((tw c l).length : Nat) : Int) ∧ (tw c l).length < l.length)
  | [] => .inl ⟨by simp [Lib.index], rfl⟩
  | b :: r => by
    unfold Lib.index tw
    by_cases hb : b = c
    · subst hb
      simp [List.isPrefixOf]
    · have hp : List.isPrefixOf [c] (b :: r) = false := by
        simp [List.isPrefixOf]
        exact fun e => hb e.symm
      rw [hp, if_neg hb]
      simp only [Bool.false_eq_true, if_false]
      rcases index_tw c r with ⟨h1, h2⟩ | ⟨h1, h2⟩
      · left
        rw [h1, h2]
        simp
      · right
        rw [h1]
        have : ((((tw c r).length : Nat) : Int) == -1) = false := beq_eq_false_iff_ne.2 (by omega)
        rw [this]
        simp only [Bool.false_eq_true, if_false, List.length_cons]
        refine ⟨by omega, by omega⟩
theorem tw_take (c : UInt8) : ∀ (l : List UInt8), l.take (tw c l).length = tw c l
  | [] => rfl
  | b :: r => by
    unfold tw
    by_cases hb : b = c
    · rw [if_pos hb]
      rfl
    · rw [if_neg hb]
      simp [tw_take c r]
theorem cut_tw (c : UInt8) (l : List UInt8) : (Lib.cut l [c]).1 = tw c l := by
  unfold Lib.cut
  rcases index_tw c l with ⟨h1, h2⟩ | ⟨h1, h2⟩
  · rw [if_neg (by omega), h2]
  · rw [if_pos (by omega), h1]
    exact tw_take c l
/-- The three that part words. -/
def gapB (c : UInt8) : Bool := (c == 32) || (c == 9) || (c == 13)
def addW (out : List (List UInt8)) (cur : List UInt8) : List (List UInt8) := if cur = [] then out else out ++ [cur]
def wsGo : List UInt8 → List UInt8 → List (List UInt8) → List (List UInt8)
  | [], cur, out => addW out cur
  | c :: r, cur, out => if gapB c = true then wsGo r [] (addW out cur) else wsGo r (cur ++ [c]) out
/-- A line's words. -/
def wsOf (l : List UInt8) : List (List UInt8) := wsGo (tw 35 l) [] []
theorem wsGo_skip : ∀ (k : Nat) (l cur : List UInt8) (out : List (List UInt8)), k ≤ l.length → (∀ j, j < k → gapB (l.getD j 0) = false) → wsGo l cur out = wsGo (l.drop k) (cur ++ l.take k) out
  | 0, l, cur, out, _, _ => by simp
  | k + 1, [], cur, out, h, _ => by simp at h
  | k + 1, b :: t, cur, out, h, hz => by
    have h0 : gapB b = false := hz 0 (by omega)
    rw [wsGo, h0]
    simp only [Bool.false_eq_true, if_false]
    rw [wsGo_skip k t (cur ++ [b]) out (by simp at h; omega) (fun j hj => by have := hz (j + 1) (by omega); simpa using this)]
    simp
/-- The same of a rune. -/
def gapR (r : Nat) : Bool := decide (r = 32) || decide (r = 9) || decide (r = 13)
theorem gapB_R (b : UInt8) : gapB b = gapR b.toNat := by
  have : ∀ x : Fin 256, gapB (UInt8.ofNat x.val) = gapR x.val := by decide +kernel
  have := this ⟨b.toNat, b.toNat_lt⟩
  simpa using this
theorem gapB_hi {b : UInt8} (h : 128 ≤ b.toNat) : gapB b = false := by
  rw [gapB_R]
  simp [gapR]
  omega
theorem gapR_hi {r : Nat} (h : 128 ≤ r) : gapR r = false := by
  simp [gapR]
  omega
theorem get_tx (l : List UInt8) (i : Nat) : (tx l).get! i = l.getD i 0 := by
  unfold tx ByteArray.get!
  simp
  by_cases h : i < l.length
  · simp [h]
  · simp [h]
    rfl
theorem ext_tx (l : List UInt8) (a b : Nat) : (tx l).extract a b = tx ((l.take b).drop a) := by
  apply ByteArray.ext
  apply Array.ext'
  simp [tx]
  rw [List.drop_take]
/-- What one decoding says: an ASCII byte, or bytes that are none of the three. -/
theorem dec_step (l : List UInt8) (pos : Nat) (h : pos < l.length) : ((Utf8.decode (tx l) pos) = ((l.getD pos 0).toNat, 1) ∧ (l.getD pos 0).toNat < 128) ∨ (gapR (Utf8.decode (tx l) pos).1 = false ∧ 1 ≤ (Utf8.decode (tx l) pos).2 ∧ pos + (Utf8.decode (tx l) pos).2 ≤ l.length ∧ ∀ j, j < (Utf8.decode (tx l) pos).2 → gapB (l.getD (pos + j) 0) = false) := by
  have e := Lib.decode_at (tx l) pos
  rw [get_tx, get_tx, get_tx, get_tx, tx_size] at e
  have hc := Lib.decodeN_conts (l.length - pos) (l.getD pos 0).toNat (l.getD (pos + 1) 0).toNat (l.getD (pos + 2) 0).toNat (l.getD (pos + 3) 0).toNat
  have hq := Lib.decodeN_cases (l.length - pos) (l.getD pos 0).toNat (l.getD (pos + 1) 0).toNat (l.getD (pos + 2) 0).toNat (l.getD (pos + 3) 0).toNat
  rw [← e] at hc hq
  by_cases h128 : (l.getD pos 0).toNat < 128
  · left
    refine ⟨?_, h128⟩
    rw [e]
    unfold Lib.decodeN
    rw [if_pos h128]
  · right
    have hi : gapB (l.getD pos 0) = false := gapB_hi (by omega)
    have c1 : ∀ {b : UInt8}, b.toNat / 64 = 2 → gapB b = false := fun hb => gapB_hi (by omega)
    have r1 : gapR (Utf8.decode (tx l) pos).1 = false ∧ 1 ≤ (Utf8.decode (tx l) pos).2 := by
      rcases hq with ⟨q, _⟩ | ⟨_, _, _, q, r⟩ | ⟨_, _, _, _, q, r⟩ | ⟨q, r⟩ | r
      · omega
      · rw [r]
        exact ⟨gapR_hi q, Nat.le_succ 1⟩
      · rw [r]
        exact ⟨gapR_hi (Nat.le_trans (by decide) q), Nat.succ_le_succ (Nat.zero_le 2)⟩
      · exact ⟨gapR_hi (by omega), by omega⟩
      · rw [r]
        exact ⟨by decide, by decide⟩
    refine ⟨r1.1, r1.2, ?_, fun j hj => ?_⟩
    · have := hc.1
      have := hc.2.1
      have := hc.2.2.1
      have := hc.2.2.2
      omega
    · have h4 := hc.2.2.2
      have : j = 0 ∨ j = 1 ∨ j = 2 ∨ j = 3 := by omega
      rcases this with rfl | rfl | rfl | rfl
      · exact hi
      · exact c1 (hc.1 (by omega)).1
      · exact c1 (hc.2.1 (by omega)).1
      · exact c1 (hc.2.2.1 (by omega)).1
/-- The open piece at a place. -/
def curS (l : List UInt8) (pos : Nat) : Option Nat → List UInt8
  | none => []
  | some a => (l.take pos).drop a
def outS (l : List UInt8) (acc : List (Nat × Nat)) : List (List UInt8) := acc.map fun x => (l.take x.2).drop x.1
theorem curS_ne {l : List UInt8} {pos a : Nat} (h : a < pos) (hp : pos ≤ l.length) : curS l pos (some a) ≠ [] := by
  intro e
  have := congrArg List.length e
  simp [curS] at this
  omega
theorem take_more (l : List UInt8) (pos k a : Nat) (h : pos + k ≤ l.length) (ha : a ≤ pos) : (l.take pos).drop a ++ (l.drop pos).take k = (l.take (pos + k)).drop a := by
  rw [List.take_add, List.drop_append_of_le_length (by simp; omega)]
theorem spans_ws (l : List UInt8) : ∀ (f pos : Nat) (st : Option Nat) (acc : List (Nat × Nat)), pos ≤ l.length → l.length ≤ pos + f → (∀ a, st = some a → a < pos) → outS l (Lib.closeSpans (tx l) (Lib.spansFromP gapR (tx l) f pos st acc)) = wsGo (l.drop pos) (curS l pos st) (outS l acc) := by
  intro f
  induction f with
  | zero =>
    intro pos st acc h1 h2 h3
    obtain rfl : pos = l.length := by omega
    rw [Lib.spansFromP, List.drop_length]
    unfold Lib.closeSpans wsGo addW
    cases st with
    | none => simp [curS]
    | some a =>
      rw [if_neg (curS_ne (h3 a rfl) (Nat.le_refl _))]
      simp [outS, curS, tx_size]
  | succ f ih =>
    intro pos st acc h1 h2 h3
    unfold Lib.spansFromP
    by_cases hp : pos < l.length
    · rw [if_pos (by rw [tx_size]; exact hp)]
      have hd : l.drop pos = l.getD pos 0 :: l.drop (pos + 1) := by
        rw [List.drop_eq_getElem_cons hp, List.getD_eq_getElem?_getD, List.getElem?_eq_getElem hp]
        rfl
      rcases dec_step l pos hp with ⟨e, h128⟩ | ⟨e1, e2, e3, e4⟩
      · rw [e]
        simp only
        rw [← gapB_R]
        rw [hd, wsGo]
        cases hg : gapB (l.getD pos 0) with
        | true =>
          simp only [if_true]
          cases st with
          | none =>
            have := ih (pos + 1) none acc (by omega) (by omega) (fun a q => by cases q)
            simpa [curS, addW] using this
          | some a =>
            have := ih (pos + 1) none (acc ++ [(a, pos)]) (by omega) (by omega) (fun a q => by cases q)
            simp only
            rw [this]
            unfold addW
            rw [if_neg (curS_ne (h3 a rfl) h1)]
            simp [outS, curS]
        | false =>
          simp only [Bool.false_eq_true, if_false]
          have tk : (l.drop pos).take 1 = [l.getD pos 0] := by rw [hd]; rfl
          cases st with
          | none =>
            have := ih (pos + 1) (some pos) acc (by omega) (by omega) (fun a q => by cases q; omega)
            simp only
            rw [this]
            have hc := take_more l pos 1 pos (by omega) (Nat.le_refl _)
            rw [tk] at hc
            simp only [curS]
            rw [← hc]
            simp
          | some a =>
            have := ih (pos + 1) (some a) acc (by omega) (by omega) (fun b q => by cases q; have := h3 a rfl; omega)
            simp only
            rw [this]
            have hc := take_more l pos 1 a (by omega) (by have := h3 a rfl; omega)
            rw [tk] at hc
            simp only [curS]
            rw [← hc]
      · rw [e1]
        simp only [Bool.false_eq_true, if_false]
        obtain ⟨k, hk⟩ : ∃ k, (Utf8.decode (tx l) pos).2 = k := ⟨_, rfl⟩
        rw [hk] at e2 e3 e4 ⊢
        have hs := fun cur out => wsGo_skip k (l.drop pos) cur out (by simp; omega) (fun j hj => by
          have := e4 j hj
          rw [List.getD_eq_getElem?_getD, List.getElem?_drop, ← List.getD_eq_getElem?_getD]
          exact this)
        rw [hs, List.drop_drop]
        cases st with
        | none =>
          have := ih (pos + k) (some pos) acc (by omega) (by omega) (fun a q => by cases q; omega)
          simp only
          rw [this]
          have hc := take_more l pos k pos (by omega) (Nat.le_refl _)
          simp only [curS]
          rw [← hc]
          simp
        | some a =>
          have := ih (pos + k) (some a) acc (by omega) (by omega) (fun b q => by cases q; have := h3 a rfl; omega)
          simp only
          rw [this]
          have hc := take_more l pos k a (by omega) (by have := h3 a rfl; omega)
          simp only [curS]
          rw [← hc]
    · rw [if_neg (by rw [tx_size]; exact hp)]
      obtain rfl : pos = l.length := by omega
      rw [List.drop_length]
      unfold Lib.closeSpans wsGo addW
      cases st with
      | none => simp [curS]
      | some a =>
        rw [if_neg (curS_ne (h3 a rfl) (Nat.le_refl _))]
        simp [outS, curS, tx_size]
theorem fields_ws (l : List UInt8) : Lib.goFieldsP gapR (tx l) = (wsGo l [] []).map tx := by
  have h := spans_ws l l.length 0 none [] (by omega) (by omega) (fun a q => by cases q)
  rw [List.drop_zero] at h
  unfold Lib.goFieldsP Lib.spansOfP
  rw [tx_size]
  rw [show curS l 0 none = [] from rfl, show outS l [] = [] from rfl] at h
  rw [← h]
  unfold outS
  rw [List.map_map]
  refine List.map_congr_left (fun x _ => ?_)
  exact ext_tx l x.1 x.2
end Go.Proofs.YtnmnjcjfgbpkaaaDoor
namespace Go.Proofs.YtnmnjcjfgbpkaaaDoor
set_option maxRecDepth 100000
open Go.RowKit Go.Maps
set_option maxRecDepth 100000
set_option linter.unusedVariables false
/-- Words as values. -/
def txV (ws : List (List UInt8)) : List Value := ws.map fun l => .string (tx l)
def wsL (ws : List (List UInt8)) (i : Nat) : List UInt8 := ws.getD i []
theorem txV_ws (ws : List (List UInt8)) : txV ws = wsV ws.length (wsL ws) := by
  unfold txV wsV wsL
  apply List.ext_getElem?
  intro i
  by_cases h : i < ws.length
  · simp [h]
  · rw [List.getElem?_eq_none (by simp; omega), List.getElem?_eq_none (by simp; omega)]
theorem own_txV {w : World} {B n : Nat} {a : Option Addr} {c : Nat} {ws : List (List UInt8)} (hn : n = ws.length) (h : w.ownsRow B 9 1 (.slice a n c) n (txV ws)) : WsRow w a n (wsL ws) ∧ n ≤ c ∧ c ≤ 9223372036854775807 ∧ (a = none → n = 0 ∧ c = 0) := by
  subst hn
  rw [txV_ws] at h
  rcases h.2 with ⟨e, e0⟩ | ⟨g, cap, cur, e, _, _, h1, h2, _⟩
  · simp only [Value.slice.injEq] at e
    obtain ⟨rfl, e1, rfl⟩ := e
    exact ⟨fun i hi => by rw [e1] at hi; omega, by omega, by omega, fun _ => ⟨e1, rfl⟩⟩
  · cases e
    exact ⟨own_ws h, h1, by unfold maxLen at h2; omega, fun q => by cases q⟩
theorem wsL_len {ws : List (List UInt8)} {k : Nat} (h : ∀ l ∈ ws, l.length ≤ k) (i : Nat) : (wsL ws i).length ≤ k := by
  unfold wsL
  by_cases hi : i < ws.length
  · rw [List.getD_eq_getElem?_getD, List.getElem?_eq_getElem hi]
    exact h _ (List.getElem_mem _)
  · rw [List.getD_eq_getElem?_getD, List.getElem?_eq_none (by omega)]
    simp
theorem wsGo_size : ∀ (l cur : List UInt8) (out : List (List UInt8)) (k : Nat), cur.length + l.length ≤ k → (∀ x ∈ out, x.length ≤ k) → (∀ x ∈ wsGo l cur out, x.length ≤ k) ∧ (wsGo l cur out).length ≤ out.length + l.length + 1
  | [], cur, out, k, h, ho => by
    unfold wsGo addW
    split
    · exact ⟨ho, by omega⟩
    · refine ⟨fun x hx => ?_, by simp⟩
      rcases List.mem_append.1 hx with q | q
      · exact ho x q
      · rw [List.mem_singleton.1 q]; simp at h; exact h
  | c :: r, cur, out, k, h, ho => by
    unfold wsGo
    simp only [List.length_cons] at h
    split
    · have ha : (∀ x ∈ addW out cur, x.length ≤ k) ∧ (addW out cur).length ≤ out.length + 1 := by
        unfold addW
        split
        · exact ⟨ho, by omega⟩
        · refine ⟨fun x hx => ?_, by simp⟩
          rcases List.mem_append.1 hx with q | q
          · exact ho x q
          · rw [List.mem_singleton.1 q]; omega
      have := wsGo_size r [] (addW out cur) k (by simp; omega) ha.1
      refine ⟨this.1, ?_⟩
      have := this.2
      simp only [List.length_cons]
      omega
    · have := wsGo_size r (cur ++ [c]) out k (by simp; omega) ho
      refine ⟨this.1, ?_⟩
      have := this.2
      simp only [List.length_cons]
      omega
theorem wsOf_size (l : List UInt8) : (∀ x ∈ wsOf l, x.length ≤ l.length) ∧ (wsOf l).length ≤ l.length + 1 := by
  have h := wsGo_size (tw 35 l) [] [] l.length (by have := tw_len 35 l; simpa using this) (fun x hx => by cases hx)
  have := tw_len 35 l
  refine ⟨h.1, ?_⟩
  have := h.2
  unfold wsOf
  simp at this
  omega
set_option maxHeartbeats 1000000 in
theorem pgap (x : Nat) (hx : x ≤ 1114111) (w : World) : Calls Tryd.prog 62 #[.int .i32 ((x : Nat) : Int)] w fun r w' => r = .returned (.bool (gapR x)) ∧ w' = w := by
  by_cases h1 : x = 32
  · subst h1
    go_enter Tryd.func62, Tryd.ntmps62
    go_wp2_with fail
    go_ret
    exact ⟨rfl, rfl⟩
  have q1 : (((x : Nat) : Int) == 32) = false := beq_eq_false_iff_ne.2 (by omega)
  by_cases h2 : x = 9
  · subst h2
    clear q1 h1
    go_enter Tryd.func62, Tryd.ntmps62
    go_wp2_with fail
    go_ret
    exact ⟨rfl, rfl⟩
  have q2 : (((x : Nat) : Int) == 9) = false := beq_eq_false_iff_ne.2 (by omega)
  by_cases h3 : x = 13
  · subst h3
    clear q1 q2 h1 h2
    go_enter Tryd.func62, Tryd.ntmps62
    go_wp2_with fail
    go_ret
    exact ⟨rfl, rfl⟩
  have q3 : (((x : Nat) : Int) == 13) = false := beq_eq_false_iff_ne.2 (by omega)
  have e : gapR x = false := by simp [gapR, h1, h2, h3]
  rw [e]
  clear e h1 h2 h3
  go_enter Tryd.func62, Tryd.ntmps62
  go_wp2_with fail
  go_ret
  exact ⟨rfl, rfl⟩
/-- What Words leaves. -/
def WoP (ws : List (List UInt8)) (w : World) (r : Ending) (w' : World) : Prop := ∃ a c, r = .returned (.slice a ws.length c) ∧ Hid (w'.ownsRow w.heap.size 9 1 (.slice a ws.length c) ws.length (txV ws) ∧ Below w.heap.size w w')
set_option maxHeartbeats 1000000 in
theorem pwords (l : List UInt8) (hl : l.length ≤ 1000000000) (w : World) (mx : Int) (hm : w.cell? ⟨1, 0, none⟩ = some (.int .i64 mx)) : Calls Tryd.prog 45 #[.string (tx l)] w (WoP (wsOf l) w) := by
  have hc := Tryd.strings_Cut (tx l) (ByteArray.mk #[35]) mx w (by rw [tx_size]; omega) hm
  rw [show (tx l).data.toList = l by simp [tx], show (ByteArray.mk #[35]).data.toList = [35] from rfl, cut_tw] at hc
  have hf : ∀ wx, Calls Tryd.prog 61 #[.string (tx (tw 35 l)), .func (.func 62) #[] #[]] wx (WoP (wsOf l) wx) := fun wx => by
    refine (Tryd.strings_FieldsFunc_runes 62 #[] (fun _ _ => rfl) gapR (tx (tw 35 l)) wx (by rw [tx_size]; have := tw_len 35 l; omega) (fun W x hx _ => ?_)).mono ?_
    · refine (pgap x hx W).mono ?_
      rintro r w' ⟨rfl, rfl⟩
      exact ⟨rfl, 0, rfl⟩
    · rintro r w' ⟨A, rfl, _, ow, bl⟩
      rw [fields_ws] at ow ⊢
      rw [show wsGo (tw 35 l) [] [] = wsOf l from rfl] at ow ⊢
      rw [List.length_map, List.map_map] at ow
      rw [List.length_map]
      exact ⟨_, _, rfl, ow, bl⟩
  have hf2 : ∀ wx, Calls Tryd.prog 61 #[.string (tx (tw 35 l)), .func (.func 62) #[] #[]] wx fun r w' => ∃ a c, r = .returned (.slice a (wsOf l).length c) ∧ Hid (w'.ownsRow wx.heap.size 9 1 (.slice a (wsOf l).length c) (wsOf l).length (txV (wsOf l)) ∧ Below wx.heap.size wx w') := hf
  obtain ⟨ws, hws⟩ : ∃ y, wsOf l = y := ⟨_, rfl⟩
  rw [hws] at hf2 ⊢
  obtain ⟨nn, hnn⟩ : ∃ y, ws.length = y := ⟨_, rfl⟩
  have post : ∀ a c w', w'.ownsRow w.heap.size 9 1 (.slice a nn c) nn (txV ws) ∧ Below w.heap.size w w' → WoP ws w (.returned (.slice a nn c)) w' := fun a c w' q => by
    subst hnn
    exact ⟨a, c, rfl, q⟩
  rw [hnn] at hf2
  obtain ⟨X, hX⟩ : ∃ y, tx l = y := ⟨_, rfl⟩
  rw [hX] at hc ⊢
  obtain ⟨Y, hY⟩ : ∃ y, tx (tw 35 l) = y := ⟨_, rfl⟩
  have hc' : Calls Tryd.prog 44 #[.string X, .string (ByteArray.mk #[35])] w fun r w' => ∃ v1 v2, r = .returned (.tuple #[.string Y, .string v1, .bool v2]) ∧ Hid (∃ n, w' = w.drewN n) := by
    refine hc.mono ?_
    rintro r w' ⟨rfl, q⟩
    rw [← hY]
    exact ⟨_, _, rfl, q⟩
  rw [hY] at hf2
  clear hc hf hX hY hws hnn hl hm
  go_enter Tryd.func45, Tryd.ntmps45
  go_wp2_with fail
  refine hc'.mono ?_
  rintro r w1 ⟨v1, v2, rfl, H1⟩
  have b1 : Below w.heap.size w w1 := by
    obtain ⟨n, rfl⟩ := H1.out
    exact ⟨rfl, rfl, rfl, Nat.le_refl _, fun _ _ => rfl⟩
  have HB : Hid (_) := b1
  clear hc' H1 b1
  go_wp2_with fail
  refine (hf2 _).mono ?_
  rintro r w2 ⟨a, c, rfl, H2⟩
  clear hf2
  go_wp2_with fail
  go_ret
  exact post a c w2 ⟨own_baseS H2.out.1 HB.out.size, HB.out.trans (H2.out.2.mono HB.out.size)⟩
end Go.Proofs.YtnmnjcjfgbpkaaaDoor

namespace Go.Proofs.YtnmnjcjfgbpkaaaDoor
set_option maxRecDepth 100000
open Go.RowKit Go.Maps
set_option maxRecDepth 100000
set_option linter.unusedVariables false
theorem txV_add (ws : List (List UInt8)) (l : List UInt8) : txV (ws ++ [l]) = txV ws ++ [.string (tx l)] := by simp [txV]
theorem wsGo_gap {l : List UInt8} {i : Nat} (h : i < l.length) (cur : List UInt8) (out : List (List UInt8)) (hg : gapB (l.getD i 0) = true) : wsGo (l.drop i) cur out = wsGo (l.drop (i + 1)) [] (addW out cur) := by
  rw [List.drop_eq_getElem_cons h, wsGo]
  rw [List.getD_eq_getElem?_getD, List.getElem?_eq_getElem h] at hg
  rw [show gapB l[i] = true from hg]
  simp
theorem wsGo_byte {l : List UInt8} {i : Nat} (h : i < l.length) (cur : List UInt8) (out : List (List UInt8)) (hg : gapB (l.getD i 0) = false) : wsGo (l.drop i) cur out = wsGo (l.drop (i + 1)) (cur ++ [l.getD i 0]) out := by
  rw [List.getD_eq_getElem?_getD, List.getElem?_eq_getElem h] at hg ⊢
  rw [List.drop_eq_getElem_cons h, wsGo]
  rw [show gapB l[i] = false from hg]
  simp
/-- The state of the document's loop. -/
def WdS (l : List UInt8) (w wr : World) (v : Value) (i : Nat) (cur : List UInt8) (out : List (List UInt8)) : Prop := wsGo ((tw 35 l).drop i) cur out = wsOf l ∧ i ≤ (tw 35 l).length ∧ cur.length ≤ i ∧ out.length ≤ i ∧ wr.ownsRow w.heap.size 9 1 v out.length (txV out) ∧ Below w.heap.size w wr
set_option maxHeartbeats 4000000 in
theorem rwords (l : List UInt8) (hl : l.length ≤ 1000000000) (w : World) : Calls Tryd.prog 23 #[.string (tx l)] w (WoP (wsOf l) w) := by
  have hs := sidx l
  have hXs : (tx l).size = l.length := tx_size l
  obtain ⟨X, hX⟩ : ∃ x, tx l = x := ⟨_, rfl⟩
  rw [hX] at hs hXs ⊢
  have HX : Hid (X.size = l.length ∧ (tw 35 l).length ≤ l.length) := ⟨hXs, tw_len 35 l⟩
  have HS : Hid (_) := hs
  have post : ∀ v w' (out : List (List UInt8)), out = wsOf l → w'.ownsRow w.heap.size 9 1 v out.length (txV out) → Below w.heap.size w w' → WoP (wsOf l) w (.returned v) w' := fun v w' out e o b => by
    subst e
    rcases o.2 with ⟨e1, e2⟩ | ⟨g, cap, cur, e1, _⟩
    · refine ⟨none, 0, by rw [e1, e2], ?_, b⟩
      rw [e1] at o
      rw [show (wsOf l).length = 0 from e2] at o ⊢
      exact o
    · exact ⟨_, _, by rw [e1], by rw [e1] at o; exact o, b⟩
  have HP : Hid (_) := post
  clear hX hs hXs post
  go_enter Tryd.func23, Tryd.ntmps23
  go_wp2_with fail
  go_loopw [3, 4, 5, 6, 7, 8, 9, 10, 11, 12, 13, 14, 15, 16, 17, 18, 19, 20, 21, 22, 23, 24, 25, 26, 27, 28, 29, 30, 31, 32, 33, 34, 35, 36, 37, 38, 39, 40, 41, 42] (fun v s c _ _ _ _ _ _ _ _ _ _ _ _ _ _ _ _ _ _ _ _ _ _ _ _ _ _ _ _ _ _ _ _ _ _ _ _ _ wr => ∃ (i : Nat) (cur : List UInt8) (out : List (List UInt8)), s = .string (tx cur) ∧ c = .int .i64 ((i : Nat) : Int) ∧ Hid (WdS l w wr v i cur out)) (fun _ _ c _ _ _ _ _ _ _ _ _ _ _ _ _ _ _ _ _ _ _ _ _ _ _ _ _ _ _ _ _ _ _ _ _ _ _ _ _ _ => l.length - natV c)
  case atStart => exact ⟨0, [], [], rfl, rfl, rfl, by omega, by simp, by simp, ⟨rfl, .inl ⟨rfl, rfl⟩⟩, Below.refl _ _⟩
  case round =>
    obtain ⟨i, cur, out, rfl, rfl, HI⟩ := hrel
    by_cases hlt : i < (tw 35 l).length
    · have hil : i < l.length := by have := HX.out; omega
      have hlt' : ((i : Nat) : Int) < ((X.size : Nat) : Int) := by have := HX.out; omega
      have s1 := HS.out i hil
      obtain ⟨t1, t2⟩ := tw_at 35 l i hlt
      have hb35 : (l.getD i 0).toNat ≠ 35 := fun q => t2 (UInt8.toNat_inj.1 q)
      have ebt : UInt8.ofNat (l.getD i 0).toNat = l.getD i 0 := by simp
      have hg : gapB (l.getD i 0) = gapR (l.getD i 0).toNat := gapB_R _
      have hgap : gapB (l.getD i 0) = true → wsGo ((tw 35 l).drop i) cur out = wsGo ((tw 35 l).drop (i + 1)) [] (addW out cur) := fun q => wsGo_gap hlt cur out (by rw [← t1]; exact q)
      have hbyt : gapB (l.getD i 0) = false → wsGo ((tw 35 l).drop i) cur out = wsGo ((tw 35 l).drop (i + 1)) (cur ++ [l.getD i 0]) out := fun q => by
        have := wsGo_byte hlt cur out (by rw [← t1]; exact q)
        rw [← t1] at this
        exact this
      obtain ⟨b, hb⟩ : ∃ y, (l.getD i 0).toNat = y := ⟨_, rfl⟩
      have hb256 : b < 256 := by rw [← hb]; exact UInt8.toNat_lt _
      rw [hb] at s1 hb35 ebt hg
      have q35 : (((b : Nat) : Int) == 35) = false := beq_eq_false_iff_ne.2 (by omega)
      obtain ⟨i1, hi1⟩ : ∃ y, i + 1 = y := ⟨_, rfl⟩
      have hadd : IntKind.i64.wrap (((i : Nat) : Int) + 1) = ((i1 : Nat) : Int) := by rw [IntKind.wrap_i64]; omega
      have HJ : Hid (_) := And.intro hgap (And.intro hbyt (And.intro hg (And.intro ebt (And.intro hi1 (And.intro hlt hil)))))
      clear hgap hbyt hg ebt hi1 hlt hil t1 t2 hb hb35
      by_cases hgp : b = 32 ∨ b = 9 ∨ b = 13
      · have HG : Hid (gapB (l.getD i 0) = true) := by
          show gapB (l.getD i 0) = true
          rw [HJ.out.2.2.1]
          rcases hgp with r | r | r <;> rw [r] <;> rfl
        by_cases hc : cur = []
        · have HN : Hid (∀ v wr, WdS l w wr v i cur out → WdS l w wr v i1 [] out) := fun v wr q => by
            obtain ⟨r1, r2, r3, r4, r5, r6⟩ := q
            have e := HJ.out.1 HG.out
            unfold addW at e
            rw [if_pos hc] at e
            rw [← HJ.out.2.2.2.2.1]
            exact ⟨e.symm.trans r1, HJ.out.2.2.2.2.2.1, by simp, by omega, r5, r6⟩
          subst hc
          rw [show tx [] = ByteArray.mk #[] from rfl]
          rcases hgp with rfl | rfl | rfl
          all_goals
            go_wp2_with fail
            go_roundw
            case rel => exact ⟨i1, [], out, rfl, rfl, HN.out _ _ HI.out⟩
            case measure =>
              have := HJ.out.2.2.2.2.1
              have := HJ.out.2.2.2.2.2.2
              simp [natV]
              omega
        · have eC : ((tx cur).toList.isEmpty) = false := by rw [tx_list]; simpa using hc
          have eC2 : ((tx cur).toList == []) = false := by rw [tx_list]; simpa using hc
          obtain ⟨r1, r2, r3, r4, r5, r6⟩ := HI.out
          have HN : Hid (∀ v' w', w'.ownsRow w.heap.size 9 1 v' (out.length + 1) (txV out ++ [.string (tx cur)]) → Below w.heap.size w w' → WdS l w w' v' i1 [] (out ++ [cur])) := fun v' w' p1 p2 => by
            have e := HJ.out.1 HG.out
            unfold addW at e
            rw [if_neg hc] at e
            rw [← HJ.out.2.2.2.2.1]
            refine ⟨e.symm.trans r1, HJ.out.2.2.2.2.2.1, by simp, by simp; omega, ?_, p2⟩
            rw [txV_add, List.length_append]
            exact p1
          obtain ⟨Y, hY⟩ : ∃ y, tx cur = y := ⟨_, rfl⟩
          rw [hY] at eC eC2 HN ⊢
          have O3 := ownB r5 (belA (Below.refl _ wr) (.cells #[.string Y] 9))
          have B3 : w.heap.size ≤ (wr.alloc (.cells #[.string Y] 9)).heap.size := Nat.le_trans r6.size (belA (Below.refl _ wr) (.cells #[.string Y] 9)).size
          have N3 := one_str wr Y
          have M3 := one_strO Y
          obtain ⟨i0, hIn, hz0, hz1, hz2⟩ := info_parts info_str
          have HK : Hid (Below w.heap.size w (wr.alloc (.cells #[.string Y] 9))) := belA r6 _
          obtain ⟨nn, hnn⟩ : ∃ y, out.length = y := ⟨_, rfl⟩
          rw [hnn] at O3 HN r4
          have hb9 : nn ≤ 1000000000 := by have := HJ.out.2.2.2.2.2.2; omega
          clear r1 r2 r3 r4 r5 r6 hY hc hnn
          rcases hgp with rfl | rfl | rfl
          all_goals
            go_wp2_with (at_builtin; refine wpList_append_own_at _ rfl _ _ 51 rfl w.heap.size 9 i0 (.string (ByteArray.mk #[])) 1 16 Tryd.underlying51 hIn hz0 hz1 hz2 rfl (by decide) u3 nn (txV out) rfl O3 ⟨wr.heap.size, 0, none⟩ 1 1 [.string Y] rfl rfl N3 M3 (by unfold maxLen; omega) (by omega) B3 ?_)
            intro v7 w7 O7 G7 _ _
            obtain ⟨x7, y7, rfl, _⟩ := own_slcS O7
            have HF := HN.out _ _ O7 (HK.out.grown G7 HK.out.size (fun k hk => (O3.lt k hk).1))
            have HF2 : Hid (_) := HF
            clear O7 G7 O3 B3 N3 M3 HI hIn hz0 hz1 hz2 HF HN
            go_wp2_with fail
            go_roundw
            case rel => exact ⟨i1, [], _, rfl, rfl, HF2⟩
            case measure =>
              have := HJ.out.2.2.2.2.1
              have := HJ.out.2.2.2.2.2.2
              simp [natV]
              omega
      · have q32 : (((b : Nat) : Int) == 32) = false := beq_eq_false_iff_ne.2 (by omega)
        have q9 : (((b : Nat) : Int) == 9) = false := beq_eq_false_iff_ne.2 (by omega)
        have q13 : (((b : Nat) : Int) == 13) = false := beq_eq_false_iff_ne.2 (by omega)
        have p32 : (((b : Nat) : Int) != 32) = true := by rw [bne_iff_ne]; omega
        have p9 : (((b : Nat) : Int) != 9) = true := by rw [bne_iff_ne]; omega
        have p13 : (((b : Nat) : Int) != 13) = true := by rw [bne_iff_ne]; omega
        have HG : Hid (gapB (l.getD i 0) = false) := by
          show gapB (l.getD i 0) = false
          rw [HJ.out.2.2.1]
          simp [gapR]
          omega
        have cv := conv_one wr b hb256
        have HB : Hid (∀ v, WdS l w wr v i cur out → WdS l w (wr.alloc (.cells #[.int .u8 ((b : Nat) : Int)] 5)) v i1 (cur ++ [l.getD i 0]) out) := fun v q => by
          obtain ⟨r1, r2, r3, r4, r5, r6⟩ := q
          rw [← HJ.out.2.2.2.2.1]
          exact ⟨(HJ.out.2.1 HG.out).symm.trans r1, HJ.out.2.2.2.2.2.1, by simp; omega, by omega, ownB r5 (belA (Below.refl _ _) _), belA r6 _⟩
        have lc : cur.length ≤ 1000000000 := by have := HI.out.2.2.1; have := HJ.out.2.2.2.2.2.2; omega
        obtain ⟨Y, hY⟩ : ∃ Y, tx [UInt8.ofNat b] = Y := ⟨_, rfl⟩
        obtain ⟨U, hU⟩ : ∃ U, tx cur = U := ⟨_, rfl⟩
        rw [hY] at cv
        rw [hU]
        have hsz : ¬ 9223372036854775807 < U.size + Y.size := by
          rw [← hY, ← hU, tx_size, tx_size]
          simp
          omega
        have HU : Hid (U ++ Y = tx (cur ++ [l.getD i 0])) := by
          show U ++ Y = tx (cur ++ [l.getD i 0])
          rw [← hY, ← hU, tx_app, HJ.out.2.2.2.1]
        clear hY hU lc hgp hb256
        go_wp2_with fail
        go_roundw
        case rel => exact ⟨i1, cur ++ [l.getD i 0], out, by rw [HU.out], rfl, HB.out _ HI.out⟩
        case measure =>
          have := HJ.out.2.2.2.2.1
          have := HJ.out.2.2.2.2.2.2
          simp [natV]
          omega
    · obtain ⟨r1, r2, r3, r4, r5, r6⟩ := HI.out
      obtain rfl : i = (tw 35 l).length := by omega
      have e0 : addW out cur = wsOf l := by
        rw [List.drop_length] at r1
        exact r1
      obtain ⟨i, hi⟩ : ∃ y, (tw 35 l).length = y := ⟨_, rfl⟩
      have two : ¬ ((i : Nat) : Int) < ((X.size : Nat) : Int) ∨ (((i : Nat) : Int) < ((X.size : Nat) : Int) ∧ ∀ w, (Instr.index 9 (.string X) (.int .i64 ((i : Nat) : Int))).run Tryd.prog w = .ok (.int .u8 35) w) := by
        have hx := HX.out
        by_cases q : (tw 35 l).length < l.length
        · right
          refine ⟨by omega, ?_⟩
          have := HS.out i (by omega)
          rw [← hi, tw_end 35 l q] at this
          rw [← hi]
          exact this
        · left
          omega
      rw [hi]
      have hb9 : out.length ≤ 1000000000 := by have := HX.out; omega
      have HQ : Hid (_) := And.intro e0 (And.intro r5 r6)
      clear r1 r2 r3 r4 r5 r6 hlt HI hi e0
      by_cases hc : cur = []
      · have HE : Hid (out = wsOf l) := by
          have := HQ.out.1
          unfold addW at this
          rw [if_pos hc] at this
          exact this
        subst hc
        rw [show tx [] = ByteArray.mk #[] from rfl]
        rcases two with q | ⟨q, q2⟩
        all_goals
          go_wp2_with fail
          go_ret
          exact HP.out _ _ out HE.out HQ.out.2.1 HQ.out.2.2
      · have eC : ((tx cur).toList.isEmpty) = false := by rw [tx_list]; simpa using hc
        have eC2 : ((tx cur).toList == []) = false := by rw [tx_list]; simpa using hc
        have HE : Hid (out ++ [cur] = wsOf l) := by
          have := HQ.out.1
          unfold addW at this
          rw [if_neg hc] at this
          exact this
        have HT : Hid (txV (out ++ [cur]) = txV out ++ [.string (tx cur)]) := txV_add out cur
        obtain ⟨Y, hY⟩ : ∃ y, tx cur = y := ⟨_, rfl⟩
        rw [hY] at eC eC2 HT ⊢
        have O3 := ownB HQ.out.2.1 (belA (Below.refl _ wr) (.cells #[.string Y] 9))
        have B3 : w.heap.size ≤ (wr.alloc (.cells #[.string Y] 9)).heap.size := Nat.le_trans HQ.out.2.2.size (belA (Below.refl _ wr) (.cells #[.string Y] 9)).size
        have N3 := one_str wr Y
        have M3 := one_strO Y
        obtain ⟨i0, hIn, hz0, hz1, hz2⟩ := info_parts info_str
        have HK : Hid (Below w.heap.size w (wr.alloc (.cells #[.string Y] 9))) := belA HQ.out.2.2 _
        clear hY hc HQ
        rcases two with q | ⟨q, q2⟩
        all_goals
          go_wp2_with (at_builtin; refine wpList_append_own_at _ rfl _ _ 51 rfl w.heap.size 9 i0 (.string (ByteArray.mk #[])) 1 16 Tryd.underlying51 hIn hz0 hz1 hz2 rfl (by decide) u3 out.length (txV out) rfl O3 ⟨wr.heap.size, 0, none⟩ 1 1 [.string Y] rfl rfl N3 M3 (by unfold maxLen; omega) (by omega) B3 ?_)
          intro v7 w7 O7 G7 _ _
          have HF : Hid (w7.ownsRow w.heap.size 9 1 v7 (out ++ [cur]).length (txV (out ++ [cur])) ∧ Below w.heap.size w w7) := ⟨by rw [HT.out, List.length_append]; exact O7, HK.out.grown G7 HK.out.size (fun k hk => (O3.lt k hk).1)⟩
          obtain ⟨x7, y7, rfl, _⟩ := own_slcS O7
          clear O7 G7 O3 B3 N3 M3 hIn hz0 hz1 hz2
          go_wp2_with fail
          go_ret
          exact HP.out _ _ _ HE.out HF.out.1 HF.out.2
end Go.Proofs.YtnmnjcjfgbpkaaaDoor

