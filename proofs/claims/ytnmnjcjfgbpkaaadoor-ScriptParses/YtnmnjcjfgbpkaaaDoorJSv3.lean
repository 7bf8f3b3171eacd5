/- Layer 20: the document's form; the reader's data and hold. (genSv3.py) -/
import Derived.Test.YtnmnjcjfgbpkaaaDoorJSv2
import Derived.Test.YtnmnjcjfgbpkaaaDoorJRowv
import Derived.Test.YtnmnjcjfgbpkaaaDoorJSrd
namespace Go.Proofs.YtnmnjcjfgbpkaaaDoor
set_option maxRecDepth 100000
open Go.RowKit Go.Maps
set_option maxRecDepth 100000
set_option linter.unusedVariables false
/-- What letters stand behind a kind. -/
def fmF (k : Nat) : List UInt8 := [[], [99, 115, 120, 104], [99], [99, 115, 102], [99, 115, 102, 97, 119], [99, 115, 110], [99, 115], [99, 115, 110], [99, 110]].getD k []
/-- A word's kind; 0. -/
def fmK (l : List UInt8) : Nat := if l = kws.getD 1 [] then 1 else if l = kws.getD 2 [] then 2 else if l = kws.getD 3 [] then 3 else if l = kws.getD 4 [] then 4 else if l = kws.getD 5 [] then 5 else if l = kws.getD 6 [] then 6 else if l = kws.getD 7 [] then 7 else if l = kws.getD 8 [] then 8 else 0

set_option maxHeartbeats 1000000 in
theorem rform (l : List UInt8) (w : World) : Calls Tryd.prog 49 #[.string (tx l)] w fun r w' => r = .returned (.tuple #[.int .i64 ((fmK l : Nat) : Int), .string (tx (fmF (fmK l)))]) ∧ w' = w := by
  by_cases h1 : l = [119, 114, 105, 116, 101]
  · have e : fmK l = 1 := by rw [h1]; decide
    rw [e, h1, show tx [119, 114, 105, 116, 101] = ByteArray.mk #[119, 114, 105, 116, 101] from rfl, show tx (fmF 1) = ByteArray.mk #[99, 115, 120, 104] from rfl]
    clear e h1
    go_enter Tryd.func49, Tryd.ntmps49
    go_wp2_with fail
    go_ret2
    exact ⟨rfl, rfl⟩
  by_cases h2 : l = [115, 101, 110, 100]
  · have e : fmK l = 2 := by rw [h2]; decide
    rw [e, h2, show tx [115, 101, 110, 100] = ByteArray.mk #[115, 101, 110, 100] from rfl, show tx (fmF 2) = ByteArray.mk #[99] from rfl]
    clear e h2 h1
    go_enter Tryd.func49, Tryd.ntmps49
    go_wp2_with fail
    go_ret2
    exact ⟨rfl, rfl⟩
  by_cases h3 : l = [100, 101, 108, 105, 118, 101, 114]
  · have e : fmK l = 3 := by rw [h3]; decide
    rw [e, h3, show tx [100, 101, 108, 105, 118, 101, 114] = ByteArray.mk #[100, 101, 108, 105, 118, 101, 114] from rfl, show tx (fmF 3) = ByteArray.mk #[99, 115, 102] from rfl]
    clear e h3 h1 h2
    go_enter Tryd.func49, Tryd.ntmps49
    go_wp2_with fail
    go_ret2
    exact ⟨rfl, rfl⟩
  by_cases h4 : l = [103, 97, 114, 98, 108, 101]
  · have e : fmK l = 4 := by rw [h4]; decide
    rw [e, h4, show tx [103, 97, 114, 98, 108, 101] = ByteArray.mk #[103, 97, 114, 98, 108, 101] from rfl, show tx (fmF 4) = ByteArray.mk #[99, 115, 102, 97, 119] from rfl]
    clear e h4 h1 h2 h3
    go_enter Tryd.func49, Tryd.ntmps49
    go_wp2_with fail
    go_ret2
    exact ⟨rfl, rfl⟩
  by_cases h5 : l = [116, 105, 99, 107]
  · have e : fmK l = 5 := by rw [h5]; decide
    rw [e, h5, show tx [116, 105, 99, 107] = ByteArray.mk #[116, 105, 99, 107] from rfl, show tx (fmF 5) = ByteArray.mk #[99, 115, 110] from rfl]
    clear e h5 h1 h2 h3 h4
    go_enter Tryd.func49, Tryd.ntmps49
    go_wp2_with fail
    go_ret2
    exact ⟨rfl, rfl⟩
  by_cases h6 : l = [97, 99, 107]
  · have e : fmK l = 6 := by rw [h6]; decide
    rw [e, h6, show tx [97, 99, 107] = ByteArray.mk #[97, 99, 107] from rfl, show tx (fmF 6) = ByteArray.mk #[99, 115] from rfl]
    clear e h6 h1 h2 h3 h4 h5
    go_enter Tryd.func49, Tryd.ntmps49
    go_wp2_with fail
    go_ret2
    exact ⟨rfl, rfl⟩
  by_cases h7 : l = [114, 101, 115, 101, 116]
  · have e : fmK l = 7 := by rw [h7]; decide
    rw [e, h7, show tx [114, 101, 115, 101, 116] = ByteArray.mk #[114, 101, 115, 101, 116] from rfl, show tx (fmF 7) = ByteArray.mk #[99, 115, 110] from rfl]
    clear e h7 h1 h2 h3 h4 h5 h6
    go_enter Tryd.func49, Tryd.ntmps49
    go_wp2_with fail
    go_ret2
    exact ⟨rfl, rfl⟩
  by_cases h8 : l = [99, 117, 116]
  · have e : fmK l = 8 := by rw [h8]; decide
    rw [e, h8, show tx [99, 117, 116] = ByteArray.mk #[99, 117, 116] from rfl, show tx (fmF 8) = ByteArray.mk #[99, 110] from rfl]
    clear e h8 h1 h2 h3 h4 h5 h6 h7
    go_enter Tryd.func49, Tryd.ntmps49
    go_wp2_with fail
    go_ret2
    exact ⟨rfl, rfl⟩
  have e : fmK l = 0 := by
    unfold fmK
    rw [if_neg (show ¬ l = kws.getD 1 [] from h1), if_neg (show ¬ l = kws.getD 2 [] from h2), if_neg (show ¬ l = kws.getD 3 [] from h3), if_neg (show ¬ l = kws.getD 4 [] from h4), if_neg (show ¬ l = kws.getD 5 [] from h5), if_neg (show ¬ l = kws.getD 6 [] from h6), if_neg (show ¬ l = kws.getD 7 [] from h7), if_neg (show ¬ l = kws.getD 8 [] from h8)]
  rw [e, show tx (fmF 0) = ByteArray.mk #[] from rfl]
  have n1 : ((tx l).toList == [119, 114, 105, 116, 101]) = false := by rw [tx_list]; simpa using h1
  have n2 : ((tx l).toList == [115, 101, 110, 100]) = false := by rw [tx_list]; simpa using h2
  have n3 : ((tx l).toList == [100, 101, 108, 105, 118, 101, 114]) = false := by rw [tx_list]; simpa using h3
  have n4 : ((tx l).toList == [103, 97, 114, 98, 108, 101]) = false := by rw [tx_list]; simpa using h4
  have n5 : ((tx l).toList == [116, 105, 99, 107]) = false := by rw [tx_list]; simpa using h5
  have n6 : ((tx l).toList == [97, 99, 107]) = false := by rw [tx_list]; simpa using h6
  have n7 : ((tx l).toList == [114, 101, 115, 101, 116]) = false := by rw [tx_list]; simpa using h7
  have n8 : ((tx l).toList == [99, 117, 116]) = false := by rw [tx_list]; simpa using h8
  obtain ⟨X, hX⟩ : ∃ x, tx l = x := ⟨_, rfl⟩
  rw [hX] at n1 n2 n3 n4 n5 n6 n7 n8 ⊢
  clear hX e h1 h2 h3 h4 h5 h6 h7 h8
  go_enter Tryd.func49, Tryd.ntmps49
  go_wp2_with fail
  go_ret2
  exact ⟨rfl, rfl⟩
theorem fmK_le (l : List UInt8) : fmK l ≤ 8 := by
  unfold fmK
  repeat' split
  all_goals decide
theorem fmK_some {l : List UInt8} (h : fmK l ≠ 0) : kws[fmK l]? = some l := by
  unfold fmK at h ⊢
  repeat' split
  all_goals first | (rename_i q; rw [q]; rfl) | skip
  simp_all
theorem fmK_none {l : List UInt8} (h : fmK l = 0) : ∀ k, 1 ≤ k → k ≤ 8 → kws[k]? ≠ some l := by
  intro k h1 h8 hk
  have : ∀ k : Fin 9, k.val = 0 ∨ fmK (kws.getD k.val []) = k.val := by decide +kernel
  have hq := this ⟨k, by omega⟩
  have e : kws.getD k [] = l := by rw [List.getD_eq_getElem?_getD, hk]; rfl
  simp only [e] at hq
  omega
/-- The kind of a word, as the program finds it. -/
theorem pkindG (l : List UInt8) (w : World) (L : Lw w) : Calls Tryd.prog 39 #[.string (tx l)] w fun r w' => r = .returned (.tuple #[.int .i64 ((fmK l : Nat) : Int), .bool (fmK l != 0)]) ∧ w' = w := by
  by_cases h : fmK l = 0
  · rw [h]
    exact pkind_none l (fmK_none h) w L
  · have := pkind (fmK l) ⟨by omega, fmK_le l⟩ l (fmK_some h) w L
    rw [show (fmK l != 0) = true by simpa using h]
    exact this
theorem Row8.offS {l : List Nat} {w w' : World} {a : Option Addr} {len cap : Nat} {bs : Nat → Nat} (h : Row8 w a len cap bs) (q : Off l w w') (hl : ∀ x, a = some x → 0 < len → x.block ∉ l) : Row8 w' a len cap bs := by
  refine ⟨h.byte, h.nil, fun x hx i hi => ?_, h.le⟩
  have h1 := h.src x hx i hi
  have hlt := World.block_lt_of_cell? w _ h1
  have hb : (x.add i).block = x.block := by unfold Addr.add; split <;> rfl
  have he : w'.heap[(x.add i).block]? = w.heap[(x.add i).block]? := q.block _ hlt (by rw [hb]; exact hl x hx (by omega))
  rw [← h1]
  unfold World.cell?
  rw [he]
/-- How many bytes a word writes, and which. -/
def dtN (l : List UInt8) : Nat := if dtO l then (Lib.trimPrefix l [120]).length / 2 else 0
def dtB (l : List UInt8) : Nat → Nat := pr (Lib.trimPrefix l [120])
theorem data_row {w w' : World} {v : Value} {l : List UInt8} (h : (dtO l = false → v = .slice none 0 0) ∧ (dtO l = true → w'.ownsRow w.heap.size 5 1 v ((Lib.trimPrefix l [120]).length / 2) (CB (pr (Lib.trimPrefix l [120])) ((Lib.trimPrefix l [120]).length / 2))) ∧ Below w.heap.size w w') : ∃ a cc, v = .slice a (dtN l) cc ∧ Row8 w' a (dtN l) cc (dtB l) ∧ ∀ y, a = some y → 0 < dtN l → w.heap.size ≤ y.block := by
  unfold dtN dtB
  cases e : dtO l with
  | false =>
    exact ⟨none, 0, h.1 e, ⟨(fun i hi => by simp at hi), (fun _ => ⟨rfl, rfl⟩), (fun x hx => by cases hx), Nat.le_refl _⟩, (fun y hy => by cases hy)⟩
  | true =>
    have o := h.2.1 e
    obtain ⟨a, cc, rfl, R⟩ := own_row8 o (fun i hi => pr_lt)
    refine ⟨a, cc, rfl, R, fun y hy hn => ?_⟩
    rcases o.2 with ⟨e0, _⟩ | ⟨g, cap, cur, e0, hg, _⟩
    · simp only [Value.slice.injEq] at e0
      rw [e0.1] at hy
      cases hy
    · simp only [Value.slice.injEq] at e0
      rw [e0.1] at hy
      cases hy
      exact hg
/-- What the reader's data leave. -/
def DatP (b : Nat) (v0 : Value) (x : Bool) (l : List UInt8) (w : World) (r : Ending) (w' : World) : Prop := ∃ a cc, r = .returned (.slice a (dtN l) cc) ∧ Hid (Row8 w' a (dtN l) cc (dtB l) ∧ (∀ y, a = some y → 0 < dtN l → w.heap.size ≤ y.block) ∧ RB w' b v0 (x || !dtO l) ∧ Off [b] w w')
set_option maxHeartbeats 1000000 in
theorem pdataR (b g o n c : Nat) (x : Bool) (l : List UInt8) (w : World) (h : RB w b (.slice (some ⟨g, o, none⟩) (n + 1) (c + 1)) x) (hw : w.cell? ⟨g, o, none⟩ = some (.string (tx l))) (hc : n ≤ c) (hc2 : c ≤ 9223372036854775807) : Calls Tryd.prog 58 #[.pointer (some ⟨b, 0, none⟩)] w (DatP b (.slice (some ⟨g, adv o c, none⟩) n c) x l w) := by
  have h1 := pnext b g o n c x (tx l) w h hw hc hc2
  have h2 : ∀ wx, Calls Tryd.prog 74 #[.string (tx l)] wx fun r w' => ∃ v, r = .returned (.tuple #[v, .bool (dtO l)]) ∧ Hid ((∃ a cc, v = .slice a (dtN l) cc ∧ Row8 w' a (dtN l) cc (dtB l) ∧ ∀ y, a = some y → 0 < dtN l → wx.heap.size ≤ y.block) ∧ Below wx.heap.size wx w') := fun wx => by
    refine (pdataOf l wx).mono ?_
    rintro r w' ⟨v, rfl, hv⟩
    exact ⟨v, rfl, data_row hv.out, hv.out.2.2⟩
  have hb0 := h.c.2.2.2.2
  obtain ⟨X, hX⟩ : ∃ y, tx l = y := ⟨_, rfl⟩
  rw [hX] at h1 h2
  have HB : Hid (b < w.heap.size) := hb0
  have post : ∀ a cc w', Row8 w' a (dtN l) cc (dtB l) ∧ (∀ y, a = some y → 0 < dtN l → w.heap.size ≤ y.block) ∧ RB w' b (.slice (some ⟨g, adv o c, none⟩) n c) (x || !dtO l) ∧ Off [b] w w' → DatP b (.slice (some ⟨g, adv o c, none⟩) n c) x l w (.returned (.slice a (dtN l) cc)) w' := fun a cc w' q => ⟨a, cc, rfl, q⟩
  obtain ⟨O, hO⟩ : ∃ y, dtO l = y := ⟨_, rfl⟩
  obtain ⟨N, hN⟩ : ∃ y, dtN l = y := ⟨_, rfl⟩
  obtain ⟨D, hD⟩ : ∃ y, dtB l = y := ⟨_, rfl⟩
  rw [hO, hN, hD] at h2
  rw [hO, hN, hD] at post
  clear hX h hw hO hN hD hb0
  go_enter Tryd.func58, Tryd.ntmps58
  go_wp2_with fail
  refine h1.mono ?_
  rintro r w1 ⟨rfl, r1, o1⟩
  have H1 : Hid (_) := And.intro r1 o1
  clear h1 r1 o1
  go_wp2_with fail
  refine (h2 w1).mono ?_
  rintro r w2 ⟨v, rfl, H2⟩
  obtain ⟨a, cc, rfl, R2⟩ := H2.out.1
  have h3 := pexpect b _ x O w2 (RB.below H1.out.1 H2.out.2)
  have HR : Hid (_) := And.intro R2 H2.out.2
  clear h2 H2 R2
  go_wp2_with fail
  refine h3.mono ?_
  rintro r w3 ⟨rfl, r3, o3⟩
  have H3 : Hid (_) := And.intro r3 o3
  clear h3 r3 o3
  go_wp2_with fail
  go_ret
  have hs1 := H1.out.2.size
  refine post _ _ _ ⟨HR.out.1.1.offS H3.out.2 (fun y hy hn => ?_), fun y hy hn => ?_, H3.out.1, (H1.out.2.trans (Off.of_below HR.out.2)).trans H3.out.2⟩
  · have := HR.out.1.2 y hy hn
    have := HB.out
    simp
    omega
  · have := HR.out.1.2 y hy hn
    omega
set_option maxHeartbeats 1000000 in
theorem pholdR0 (b c : Nat) (a : Option Addr) (x : Bool) (w : World) (h : RB w b (.slice a 0 c) x) : Calls Tryd.prog 59 #[.pointer (some ⟨b, 0, none⟩)] w fun r w' => r = .returned (.bool false) ∧ w' = w := by
  obtain ⟨c0, c1, f0, f1, _⟩ := h.c
  clear h
  go_enter Tryd.func59, Tryd.ntmps59
  go_wp2_with fail
  go_ret
  exact ⟨rfl, rfl⟩
set_option maxHeartbeats 1000000 in
theorem pholdR (b g o n c : Nat) (x : Bool) (l : List UInt8) (w : World) (h : RB w b (.slice (some ⟨g, o, none⟩) (n + 1) (c + 1)) x) (hw : w.cell? ⟨g, o, none⟩ = some (.string (tx l))) (hc : n ≤ c) (hc2 : c ≤ 9223372036854775807) : Calls Tryd.prog 59 #[.pointer (some ⟨b, 0, none⟩)] w fun r w' => r = .returned (.bool true) ∧ RB w' b (.slice (some ⟨g, adv o c, none⟩) n c) (x || !(l == [104, 111, 108, 100])) ∧ Off [b] w w' := by
  have h1 := pnext b g o n c x (tx l) w h hw hc hc2
  obtain ⟨c0, c1, f0, f1, _⟩ := h.c
  have q0 : (((n + 1 : Nat) : Int) == 0) = false := beq_eq_false_iff_ne.2 (by omega)
  have eq : ((tx l).toList == [104, 111, 108, 100]) = (l == [104, 111, 108, 100]) := by rw [tx_list]
  obtain ⟨X, hX⟩ : ∃ y, tx l = y := ⟨_, rfl⟩
  obtain ⟨O, hO⟩ : ∃ y, (l == [104, 111, 108, 100]) = y := ⟨_, rfl⟩
  rw [hX] at h1 eq
  rw [hO] at eq ⊢
  clear hX hO h hw
  go_enter Tryd.func59, Tryd.ntmps59
  go_wp2_with fail
  refine h1.mono ?_
  rintro r w1 ⟨rfl, r1, o1⟩
  have h3 := pexpect b _ x O w1 r1
  have H1 : Hid (_) := o1
  clear h1 r1 o1 c0 c1 f0 f1
  go_wp2_with fail
  refine h3.mono ?_
  rintro r w3 ⟨rfl, r3, o3⟩
  have H3 : Hid (_) := And.intro r3 (H1.out.trans o3)
  clear h3 r3 o3
  go_wp2_with fail
  go_ret
  exact ⟨rfl, H3.out.1, H3.out.2⟩
end Go.Proofs.YtnmnjcjfgbpkaaaDoor
namespace Go.Proofs.YtnmnjcjfgbpkaaaDoor
set_option maxRecDepth 100000
open Go.RowKit Go.Maps
set_option maxRecDepth 100000
set_option linter.unusedVariables false
/-- Words in a list. -/
def WsRow (w : World) (a : Option Addr) (len : Nat) (L : Nat → List UInt8) : Prop := ∀ i, i < len → ∃ g o, a = some ⟨g, o, none⟩ ∧ w.cell? ⟨g, o + i, none⟩ = some (.string (tx (L i)))
theorem WsRow.below {w w' : World} {a : Option Addr} {len : Nat} {L : Nat → List UInt8} (h : WsRow w a len L) (b : Below w.heap.size w w') : WsRow w' a len L := fun i hi => by
  obtain ⟨g, o, e, c⟩ := h i hi
  exact ⟨g, o, e, cellB c b⟩
/-- Why words make no reader; 0. -/
def rdE (n least most : Nat) : Int := if n < least then 202 else if most < n then 201 else 0
def rdV (n least most : Nat) (v : Value) : Value := if n < least then .slice none 0 0 else if most < n then .slice none 0 0 else v
set_option maxHeartbeats 1000000 in
theorem preaderG (g o n c least most : Nat) (hc : n ≤ c) (hc2 : c ≤ 9223372036854775807) (w : World) : Calls Tryd.prog 41 #[.slice (some ⟨g, o, none⟩) (n + 1) (c + 1), .int .i64 ((least : Nat) : Int), .int .i64 ((most : Nat) : Int)] w fun r w' => r = .returned (.tuple #[.agg #[rdV n least most (.slice (some ⟨g, adv o c, none⟩) n c), .bool false], .int .i64 (rdE n least most)]) ∧ Below w.heap.size w w' := by
  have two : (c = 0 ∧ adv o c = o) ∨ (¬ c = 0 ∧ adv o c = o + 1) := by
    unfold adv
    by_cases h : c = 0
    · exact .inl ⟨h, if_pos h⟩
    · exact .inr ⟨h, if_neg h⟩
  by_cases h1 : n < least
  · have q1 : ((n : Nat) : Int) < ((least : Nat) : Int) := by omega
    have e1 : rdE n least most = 202 := by unfold rdE; rw [if_pos h1]
    have e2 : rdV n least most (.slice (some ⟨g, adv o c, none⟩) n c) = .slice none 0 0 := by unfold rdV; rw [if_pos h1]
    rw [e1, e2]
    clear e1 e2
    go_enter Tryd.func41, Tryd.ntmps41
    go_wp2_with fail
    all_goals
      refine bodyPost_ret (v := .tuple #[.agg #[.slice none 0 0, .bool false], .int .i64 202]) (by simp [results, Tryd.results41, go_sem]) rfl ⟨rfl, ?_⟩
      exact belA (Below.refl _ _) _
  have q1 : ¬ ((n : Nat) : Int) < ((least : Nat) : Int) := by omega
  by_cases h2 : most < n
  · have q2 : ((most : Nat) : Int) < ((n : Nat) : Int) := by omega
    have e1 : rdE n least most = 201 := by unfold rdE; rw [if_neg h1, if_pos h2]
    have e2 : rdV n least most (.slice (some ⟨g, adv o c, none⟩) n c) = .slice none 0 0 := by unfold rdV; rw [if_neg h1, if_pos h2]
    rw [e1, e2]
    clear e1 e2
    go_enter Tryd.func41, Tryd.ntmps41
    go_wp2_with fail
    all_goals
      refine bodyPost_ret (v := .tuple #[.agg #[.slice none 0 0, .bool false], .int .i64 201]) (by simp [results, Tryd.results41, go_sem]) rfl ⟨rfl, ?_⟩
      exact belA (Below.refl _ _) _
  have q2 : ¬ ((most : Nat) : Int) < ((n : Nat) : Int) := by omega
  have e1 : rdE n least most = 0 := by unfold rdE; rw [if_neg h1, if_neg h2]
  have e2 : rdV n least most (.slice (some ⟨g, adv o c, none⟩) n c) = .slice (some ⟨g, adv o c, none⟩) n c := by unfold rdV; rw [if_neg h1, if_neg h2]
  rw [e1, e2]
  clear e1 e2
  rcases two with ⟨rfl, ea⟩ | ⟨h0, ea⟩
  · rw [ea]
    clear ea
    obtain rfl : n = 0 := by omega
    go_enter Tryd.func41, Tryd.ntmps41
    go_wp2_with fail
    all_goals
      refine bodyPost_ret (v := .tuple #[.agg #[.slice (some ⟨g, o, none⟩) 0 0, .bool false], .int .i64 0]) (by simp [results, Tryd.results41, go_sem]) rfl ⟨rfl, ?_⟩
      exact belA (Below.refl _ _) _
  · rw [ea]
    clear ea
    go_enter Tryd.func41, Tryd.ntmps41
    go_wp2_with fail
    all_goals
      refine bodyPost_ret (v := .tuple #[.agg #[.slice (some ⟨g, o + 1, none⟩) n c, .bool false], .int .i64 0]) (by simp [results, Tryd.results41, go_sem]) rfl ⟨rfl, ?_⟩
      exact belA (Below.refl _ _) _
end Go.Proofs.YtnmnjcjfgbpkaaaDoor
namespace Go.Proofs.YtnmnjcjfgbpkaaaDoor
set_option maxRecDepth 100000
open Go.RowKit Go.Maps
set_option maxRecDepth 100000
set_option linter.unusedVariables false
/-- Is it a word of a net's line? -/
def hdW (l : List UInt8) : Bool := (l == [110, 101, 116]) || (l == [104, 111, 115, 116]) || (l == [100, 101, 118, 105, 99, 101])
set_option maxHeartbeats 1000000 in
theorem pisHead0 (a : Option Addr) (c : Nat) (w : World) : Calls Tryd.prog 46 #[.slice a 0 c] w fun r w' => r = .returned (.bool false) ∧ w' = w := by
  go_enter Tryd.func46, Tryd.ntmps46
  go_wp2_with fail
  go_ret
  exact ⟨rfl, rfl⟩
set_option maxHeartbeats 1000000 in
theorem pisHead (g o n c : Nat) (l : List UInt8) (w : World) (hw : w.cell? ⟨g, o, none⟩ = some (.string (tx l))) : Calls Tryd.prog 46 #[.slice (some ⟨g, o, none⟩) (n + 1) c] w fun r w' => r = .returned (.bool (hdW l)) ∧ w' = w := by
  have e1 : ((tx l).toList == [110, 101, 116]) = (l == [110, 101, 116]) := by rw [tx_list]
  have e2 : ((tx l).toList == [104, 111, 115, 116]) = (l == [104, 111, 115, 116]) := by rw [tx_list]
  have e3 : ((tx l).toList == [100, 101, 118, 105, 99, 101]) = (l == [100, 101, 118, 105, 99, 101]) := by rw [tx_list]
  have eH : hdW l = ((l == [110, 101, 116]) || (l == [104, 111, 115, 116]) || (l == [100, 101, 118, 105, 99, 101])) := rfl
  obtain ⟨X, hX⟩ : ∃ x, tx l = x := ⟨_, rfl⟩
  obtain ⟨b1, h1⟩ : ∃ x, (l == [110, 101, 116]) = x := ⟨_, rfl⟩
  obtain ⟨b2, h2⟩ : ∃ x, (l == [104, 111, 115, 116]) = x := ⟨_, rfl⟩
  obtain ⟨b3, h3⟩ : ∃ x, (l == [100, 101, 118, 105, 99, 101]) = x := ⟨_, rfl⟩
  rw [hX] at hw e1 e2 e3
  rw [h1] at e1
  rw [h2] at e2
  rw [h3] at e3
  rw [eH, h1, h2, h3]
  have q0 : (0 : Int) < ((n + 1 : Nat) : Int) := by omega
  clear hX h1 h2 h3 eH
  cases b1 <;> cases b2 <;> cases b3
  all_goals
    go_enter Tryd.func46, Tryd.ntmps46
    go_wp2_with fail
    go_ret
    exact ⟨rfl, rfl⟩
end Go.Proofs.YtnmnjcjfgbpkaaaDoor
namespace Go.Proofs.YtnmnjcjfgbpkaaaDoor
set_option maxRecDepth 100000
open Go.RowKit Go.Maps
set_option maxRecDepth 100000
set_option linter.unusedVariables false
set_option maxHeartbeats 2000000 in
theorem rsameM (m : Mv) (a a' : Option Addr) (c c' : Nat) (w : World) (hr : Row8 w a m.l c m.b) (hr' : Row8 w a' m.l c' m.b) : Calls Tryd.prog 15 #[.agg #[.int .i64 m.k, .int .i64 m.c, .int .i64 m.s, .int .i64 m.f, .int .i64 m.a, .int .u32 (m.w : Nat), .int .i64 m.n, .bool m.h, .slice a m.l c], .agg #[.int .i64 m.k, .int .i64 m.c, .int .i64 m.s, .int .i64 m.f, .int .i64 m.a, .int .u32 (m.w : Nat), .int .i64 m.n, .bool m.h, .slice a' m.l c']] w fun r w' => r = .returned (.bool true) ∧ Below w.heap.size w w' := by
  have ba : Below w.heap.size w (w.alloc (.cells #[.int .i64 m.k, .int .i64 m.c, .int .i64 m.s, .int .i64 m.f, .int .i64 m.a, .int .u32 (m.w : Nat), .int .i64 m.n, .bool m.h, .slice a m.l c] 45)) := belA (Below.refl _ _) _
  have bb : Below w.heap.size w ((w.alloc (.cells #[.int .i64 m.k, .int .i64 m.c, .int .i64 m.s, .int .i64 m.f, .int .i64 m.a, .int .u32 (m.w : Nat), .int .i64 m.n, .bool m.h, .slice a m.l c] 45)).alloc (.cells #[.int .i64 m.k, .int .i64 m.c, .int .i64 m.s, .int .i64 m.f, .int .i64 m.a, .int .u32 (m.w : Nat), .int .i64 m.n, .bool m.h, .slice a' m.l c'] 45)) := belA ba _
  have c1 := conv_any a m.l c m.b _ (hr.below bb)
  have c2 := conv_any a' m.l c' m.b _ (hr'.below bb)
  have k1 : Bk ((w.alloc (.cells #[.int .i64 m.k, .int .i64 m.c, .int .i64 m.s, .int .i64 m.f, .int .i64 m.a, .int .u32 (m.w : Nat), .int .i64 m.n, .bool m.h, .slice a m.l c] 45)).alloc (.cells #[.int .i64 m.k, .int .i64 m.c, .int .i64 m.s, .int .i64 m.f, .int .i64 m.a, .int .u32 (m.w : Nat), .int .i64 m.n, .bool m.h, .slice a' m.l c'] 45)) w.heap.size #[.int .i64 m.k, .int .i64 m.c, .int .i64 m.s, .int .i64 m.f, .int .i64 m.a, .int .u32 (m.w : Nat), .int .i64 m.n, .bool m.h, .slice a m.l c] 45 := (Bk.new w _ _).off (l := []) (Off.alloc _ _ _) (by simp)
  have k2 := Bk.new (w.alloc (.cells #[.int .i64 m.k, .int .i64 m.c, .int .i64 m.s, .int .i64 m.f, .int .i64 m.a, .int .u32 (m.w : Nat), .int .i64 m.n, .bool m.h, .slice a m.l c] 45)) #[.int .i64 m.k, .int .i64 m.c, .int .i64 m.s, .int .i64 m.f, .int .i64 m.a, .int .u32 (m.w : Nat), .int .i64 m.n, .bool m.h, .slice a' m.l c'] 45
  have sz : (w.alloc (.cells #[.int .i64 m.k, .int .i64 m.c, .int .i64 m.s, .int .i64 m.f, .int .i64 m.a, .int .u32 (m.w : Nat), .int .i64 m.n, .bool m.h, .slice a m.l c] 45)).heap.size = w.heap.size + 1 := by simp
  rw [sz] at k2
  obtain ⟨W, hW⟩ : ∃ x, (w.alloc (.cells #[.int .i64 m.k, .int .i64 m.c, .int .i64 m.s, .int .i64 m.f, .int .i64 m.a, .int .u32 (m.w : Nat), .int .i64 m.n, .bool m.h, .slice a m.l c] 45)).alloc (.cells #[.int .i64 m.k, .int .i64 m.c, .int .i64 m.s, .int .i64 m.f, .int .i64 m.a, .int .u32 (m.w : Nat), .int .i64 m.n, .bool m.h, .slice a' m.l c'] 45) = x := ⟨_, rfl⟩
  rw [hW] at bb c1 c2 k1 k2
  have p0 : W.cell? ⟨w.heap.size, 0, none⟩ = some (.int .i64 m.k) := k1.cell 0
  have p1 : W.cell? ⟨w.heap.size, 1, none⟩ = some (.int .i64 m.c) := k1.cell 1
  have p2 : W.cell? ⟨w.heap.size, 2, none⟩ = some (.int .i64 m.s) := k1.cell 2
  have p3 : W.cell? ⟨w.heap.size, 3, none⟩ = some (.int .i64 m.f) := k1.cell 3
  have p4 : W.cell? ⟨w.heap.size, 4, none⟩ = some (.int .i64 m.a) := k1.cell 4
  have p5 : W.cell? ⟨w.heap.size, 5, none⟩ = some (.int .u32 (m.w : Nat)) := k1.cell 5
  have p6 : W.cell? ⟨w.heap.size, 6, none⟩ = some (.int .i64 m.n) := k1.cell 6
  have p7 : W.cell? ⟨w.heap.size, 7, none⟩ = some (.bool m.h) := k1.cell 7
  have p8 : W.cell? ⟨w.heap.size, 8, none⟩ = some (.slice a m.l c) := k1.cell 8
  have q0 : W.cell? ⟨w.heap.size + 1, 0, none⟩ = some (.int .i64 m.k) := k2.cell 0
  have q1 : W.cell? ⟨w.heap.size + 1, 1, none⟩ = some (.int .i64 m.c) := k2.cell 1
  have q2 : W.cell? ⟨w.heap.size + 1, 2, none⟩ = some (.int .i64 m.s) := k2.cell 2
  have q3 : W.cell? ⟨w.heap.size + 1, 3, none⟩ = some (.int .i64 m.f) := k2.cell 3
  have q4 : W.cell? ⟨w.heap.size + 1, 4, none⟩ = some (.int .i64 m.a) := k2.cell 4
  have q5 : W.cell? ⟨w.heap.size + 1, 5, none⟩ = some (.int .u32 (m.w : Nat)) := k2.cell 5
  have q6 : W.cell? ⟨w.heap.size + 1, 6, none⟩ = some (.int .i64 m.n) := k2.cell 6
  have q7 : W.cell? ⟨w.heap.size + 1, 7, none⟩ = some (.bool m.h) := k2.cell 7
  have q8 : W.cell? ⟨w.heap.size + 1, 8, none⟩ = some (.slice a' m.l c') := k2.cell 8
  have HB : Hid (_) := bb
  clear ba bb k1 k2 sz hr hr'
  go_enter Tryd.func15, Tryd.ntmps15
  go_upto_region 1 with fail
  try rw [hW]
  clear hW
  go_wp2_with fail
  go_ret
  exact ⟨rfl, HB.out⟩
end Go.Proofs.YtnmnjcjfgbpkaaaDoor
