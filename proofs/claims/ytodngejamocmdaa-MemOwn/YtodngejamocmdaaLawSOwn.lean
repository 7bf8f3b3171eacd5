/- Layer 7: MemOwn: what is handed in stays, what is answered is new memory. -/
import Derived.Test.YtodngejamocmdaaMm4
import Derived.Test.YtodngejamocmdaaNap3
namespace Go.Proofs.Ytodngejamocmdaa
open Go.RowKit
theorem Held.kept {w w' : World} {b g n : Nat} {bs : Nat → Nat} {v : Value} (h : Held w b g n bs v) (hg : w'.heap[g]? = w.heap[g]?) : Held w' b g n bs v := by
  refine ⟨⟨h.own.1, ?_⟩, h.at_⟩
  rcases h.own.2 with hn | ⟨g', cap, cur, hv, hg0, hgg, rest⟩
  · exact .inl hn
  · rcases h.at_ with ⟨hv', _⟩ | ⟨_, cap', hv'⟩
    · rw [hv] at hv'; simp at hv'
    · rw [hv] at hv'
      simp only [Value.slice.injEq, Option.some.injEq, Addr.mk.injEq, and_true, true_and] at hv'
      obtain ⟨rfl, rfl⟩ := hv'
      exact .inr ⟨_, _, cur, hv, hg0, hg.trans hgg, rest⟩
theorem MR.kept {w w' : World} {b g n : Nat} {s : Ms} (h : MR w b g n s) (hb : w'.heap[b]? = w.heap[b]?) (hg : w'.heap[g]? = w.heap[g]?) : MR w' b g n s := by
  obtain ⟨v, hv, hh⟩ := h.ex
  exact ⟨⟨v, hb.trans hv, hh.kept hg⟩, h.byte, h.l0, h.l1, h.t0, h.nn⟩
theorem Lst.ofRowU {B g n c : Nat} {w : World} {xs : List Value} (h : w.ownsRow B 5 1 (.slice (some ⟨g, 0, none⟩) n c) n xs) (hn : n ≤ 1000000) : Lst B w (some g) n c := by
  obtain ⟨o, c', e, hl⟩ := Lst.ofOwn h hn
  cases o with
  | none => simp [sa] at e
  | some b =>
    simp only [sa, Option.map_some, Value.slice.injEq, Option.some.injEq, Addr.mk.injEq, and_true, true_and] at e
    obtain ⟨rfl, rfl⟩ := e
    exact hl.out
def tri {α : Type} (a b c : α) (i : Nat) : α := if i = 0 then a else if i = 1 then b else c
theorem trip {p : Nat → Prop} (h0 : p 0) (h1 : p 1) (h2 : p 2) : ∀ i, i < 3 → p i := fun i hi => by
  match i, hi with
  | 0, _ => exact h0
  | 1, _ => exact h1
  | 2, _ => exact h2
/-- Three lists, each made behind the one ahead of it. -/
theorem tri_apart (o p q : Option Nat) (s t : Nat) (h0 : ∀ x, o = some x → x < s) (h1 : ∀ x, p = some x → s ≤ x ∧ x < t) (h2 : ∀ x, q = some x → t ≤ x) (hst : s ≤ t) :
    ∀ i j, i < 3 → j < 3 → i ≠ j → ∀ x, tri o p q i = some x → tri o p q j ≠ some x := by
  intro i j hi hj hne x hx hy
  have ei : i = 0 ∨ i = 1 ∨ i = 2 := by omega
  have ej : j = 0 ∨ j = 1 ∨ j = 2 := by omega
  rcases ei with rfl | rfl | rfl <;> rcases ej with rfl | rfl | rfl
  · exact hne rfl
  · have := h0 x hx; have := h1 x hy; omega
  · have := h0 x hx; have := h2 x hy; omega
  · have := h1 x hx; have := h0 x hy; omega
  · exact hne rfl
  · have := h1 x hx; have := h2 x hy; omega
  · have := h2 x hx; have := h0 x hy; omega
  · have := h2 x hx; have := h1 x hy; omega
  · exact hne rfl
set_option maxRecDepth 100000 in
set_option maxHeartbeats 2000000 in
theorem memOwn_long (a : Option Addr) (len cap : Nat) (bs : Nat → Nat) (w : World) (R : Row8 w a len cap bs) (hs : len ≤ 140737488351232) (hL : 4096 < len) :
    Calls Try.prog 6 #[.slice a len cap] w fun e w' => e = .returned (.bool true) ∧ Below w.heap.size w w' := by
  have hLI : (4096 : Int) < (len : Int) := by omega
  go_enter Try.func6, Try.ntmps6
  go_wp2_with fail
  refine (awake7 w).mono ?_
  rintro e w1 ⟨rfl, b1⟩
  have k1 := b1.size
  go_wp2_with fail
  refine (spare_row a len cap bs w1 (R.below b1) hs).mono ?_
  rintro e w2 ⟨rfl, H2⟩
  have b2 := b1.trans (H2.out.2.mono k1)
  go_wp2_with fail
  refine (load_no _ len _ w2 hL).mono ?_
  rintro e w3 ⟨rfl, rfl⟩
  have hK := kept_row w1.heap.size a len cap bs w3 (R.below b2) hs (by
    obtain ⟨a3, c3, e3, R3⟩ := own_row8 H2.out.1 (fun i _ => sp_lt R.byte i)
    simp only [Value.slice.injEq, true_and] at e3
    obtain ⟨rfl, rfl⟩ := e3
    exact R3)
  clear H2
  generalize w1.heap.size = g1 at *
  go_wp2_with fail
  refine hK.mono ?_
  rintro e w4 ⟨rfl, m, rfl⟩
  clear hK
  go_wp2_with fail
  go_ret
  exact ⟨rfl, below_drewN b2 m⟩
set_option maxRecDepth 100000 in
set_option maxHeartbeats 4000000 in
theorem memOwn_good (a : Option Addr) (len cap : Nat) (bs : Nat → Nat) (w : World) (R : Row8 w a len cap bs) (hL : len ≤ 4096) :
    Calls Try.prog 6 #[.slice a len cap] w fun e w' => e = .returned (.bool true) ∧ Below w.heap.size w w' := by
  have hby := R.byte
  go_enter Try.func6, Try.ntmps6
  go_wp2_with fail
  refine (awake7 w).mono ?_
  rintro e w1 ⟨rfl, b1⟩
  have k1 := b1.size
  go_wp2_with fail
  refine (spare_row a len cap bs w1 (R.below b1) (by omega)).mono ?_
  rintro e w2 ⟨rfl, H2⟩
  have l2 : w1.heap.size < w2.heap.size := (H2.out.1.lt _ rfl).2
  have r2 : Row8 w2 (some ⟨w1.heap.size, 0, none⟩) (len + 9) (len + 9) (sp bs len) := by
    obtain ⟨a3, c3, e3, R3⟩ := own_row8 H2.out.1 (fun i _ => sp_lt hby i)
    simp only [Value.slice.injEq, true_and] at e3
    obtain ⟨rfl, rfl⟩ := e3
    exact R3
  have r3 : Row8 w2 (some ⟨w1.heap.size, 0, none⟩) len (len + 9) bs := (r2.upto len (by omega)).congr (fun i hi => by unfold sp; rw [if_pos hi])
  have L2 := Lst.ofRowU H2.out.1 (by omega)
  have HL : Hid (Row8 w2 (some ⟨w1.heap.size, 0, none⟩) (len + 9) (len + 9) (sp bs len) ∧ Lst 0 w2 (some w1.heap.size) len (len + 9)) := ⟨r2, ⟨by omega, by omega, L2.cmax, (fun e => by cases e), fun x hx => ⟨Nat.zero_le _, (L2.row x hx).2⟩⟩⟩
  have b2 := b1.trans (H2.out.2.mono k1)
  clear H2 r2 L2 b1
  generalize w1.heap.size = g1 at *
  go_wp2_with fail
  refine (load_ok _ len _ bs w2 r3 hL).mono ?_
  rintro e w3 ⟨b, g, rfl, H3⟩
  obtain ⟨lb, lg, o3, m3⟩ := H3.out
  have d3 : Below w2.heap.size w2 w3 := o3.below (Below.refl _ _) (by simp) (Nat.le_refl _)
  have k3 := d3.size
  have hb3 := m3.lt
  have hg3 := m3.lg
  clear H3 o3 r3
  go_wp2_with fail
  refine (bytes_any b g len _ w3 m3).mono ?_
  rintro e w4 ⟨v4, rfl, H4⟩
  obtain ⟨o4, c4, rfl, L4⟩ := Lst.ofOwn H4.out.1 (by omega)
  have d4 := H4.out.2
  have k4 := d4.size
  have m4 := m3.off (Off.of_below (l := []) d4) (by simp) (by simp)
  clear H4 m3
  go_wp2_with fail
  refine (bytes_any b g len _ w4 m4).mono ?_
  rintro e w5 ⟨v5, rfl, H5⟩
  obtain ⟨o5, c5, rfl, L5⟩ := Lst.ofOwn H5.out.1 (by omega)
  have d5 := H5.out.2
  have k5 := d5.size
  have m5 := m4.off (Off.of_below (l := []) d5) (by simp) (by simp)
  have d24 := d3.trans (d4.mono k3)
  have d25 := d24.trans (d5.mono (by omega))
  have b5 := b2.trans (d25.mono b2.size)
  have hK := kept_row g1 a len cap bs w5 (R.below b5) (by omega) (HL.out.1.below d25)
  clear H5 m4
  go_wp2_with fail
  refine hK.mono ?_
  rintro e w6 ⟨rfl, m, hw6⟩
  have d6 : Below w5.heap.size w5 w6 := by rw [hw6]; exact below_drewN (Below.refl _ _) m
  have k6 := d6.size
  have b6 := b5.trans (d6.mono b5.size)
  have m6 := m5.off (Off.of_below (l := []) d6) (by simp) (by simp)
  have x0 : ∀ x, (some g1 : Option Nat) = some x → x < w3.heap.size := fun x hx => by cases hx; omega
  have x1 : ∀ x, o4 = some x → w3.heap.size ≤ x ∧ x < w4.heap.size := fun x hx => L4.out.lt hx
  have x2 : ∀ x, o5 = some x → w4.heap.size ≤ x := fun x hx => (L5.out.lt hx).1
  have hAp := apart_keep (fun k => k < w.heap.size ∨ k = b ∨ k = g) 3 (tri (some g1) o4 o5) (tri len len len) (tri (len + 9) c4 c5) #[.slice (some ⟨g1, 0, none⟩) len (len + 9), .slice (sa o4) len c4, .slice (sa o5) len c5] w6 w6 rfl
    (trip ((HL.out.2.below d25).below d6) (((L4.out.base (Nat.zero_le _)).below d5).below d6) ((L5.out.base (Nat.zero_le _)).below d6))
    (tri_apart _ _ _ w3.heap.size w4.heap.size x0 x1 x2 k4) (by omega) (by omega)
    (trip (p := fun i => ∀ x, tri (some g1) o4 o5 i = some x → ¬ (x < w.heap.size ∨ x = b ∨ x = g)) (fun x hx => by have : x = g1 := (Option.some.inj hx).symm; omega) (fun x hx => by have := x1 x hx; omega) (fun x hx => by have := x2 x hx; omega))
    (Kp.refl _ _) (fun k hk => by have := b6.size; omega)
  have HM : Hid (_) := And.intro m6 b6
  have HG : Hid (b < w6.heap.size ∧ g < w6.heap.size) := ⟨m6.lt, m6.lg⟩
  clear hK hw6 m5 m6 L4 L5 HL d3 d4 d5 d6 d24 d25 b2 b5 b6 x0 x1 x2 k3 k4 k5 k6 lb lg hb3 hg3 l2 k1
  generalize sa o4 = s4 at *
  generalize sa o5 = s5 at *
  go_wp2_with fail
  refine hAp.mono ?_
  rintro e w7 ⟨rfl, q7⟩
  have m7 : MR w7.drew b g len (S0 bs) := (HM.out.1.kept (q7.block b (.inr (.inl rfl))) (q7.block g (.inr (.inr rfl)))).drew
  have b7 : Below w.heap.size w w7 := HM.out.2.trans ⟨q7.os, q7.tape, q7.output, q7.size, fun k hk => q7.block k (.inl hk)⟩
  have qB := bytes_any b g len _ w7.drew m7
  have R7 : Row8 w7.drew a len cap bs := R.below b7.drew
  have hc7 := conv_any a len cap bs _ R7
  have HB : Hid (_) := And.intro b7 R7
  obtain ⟨X, hX⟩ : ∃ X, BA bs len = X := ⟨_, rfl⟩
  rw [hX] at hc7
  clear hAp q7 HM HG m7 b7 R7 R
  go_wp2_with fail
  go_region_with (go_at_call 18; refine qB.mono ?_; rintro e w8 ⟨v8, rfl, H8⟩; obtain ⟨a8, c8, rfl, R8⟩ := own_row8 H8.out.1 hby; have k8 := conv_any a8 len c8 _ _ R8; have k9 := conv_any a len cap bs _ (HB.out.2.below H8.out.2); rw [show BA (S0 bs).bs len = X from hX] at k8; rw [hX] at k9; have HE : Hid (_) := H8.out.2; clear R8 H8)
  all_goals
    go_wp2_with fail
    go_ret
    exact ⟨by simp [Act.put], HB.out.1.drew.trans (HE.out.mono HB.out.1.drew.size)⟩
theorem memOwn_walk (a0 : Option Addr) (len0 cap0 : Nat) (z0 : List Int) (w : World) (w0 : BRow .u8 w a0 len0 cap0 z0) (s0 : len0 ≤ 140737488351232) :
    Calls Try.prog 6 #[.slice a0 len0 cap0] w fun e w' => e = .returned (.bool true) ∧ Below w.heap.size w w' := by
  by_cases h : len0 ≤ 4096
  · exact memOwn_good a0 len0 cap0 _ w w0.row8 h
  · exact memOwn_long a0 len0 cap0 _ w w0.row8 s0 (by omega)

end Go.Proofs.Ytodngejamocmdaa
