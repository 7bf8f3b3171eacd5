/- Layer 11: PassiveOwn: what is handed in stays, what is answered is new memory. -/
import Derived.Test.YtjdedopijplblaaAw11
import Derived.Test.YtjdedopijplblaaNap3
namespace Go.Proofs.Ytjdedopijplblaa
open Go.RowKit
/-- Its own blocks are kept: the valve's, its gate's, and those from M on that were there. -/
theorem VR.kept {w w' : World} {b g M n : Nat} {s : Vs} (h : VR w b g M n s) (hk : ∀ k, k = b ∨ k = g ∨ (M ≤ k ∧ k < w.heap.size) → w'.heap[k]? = w.heap[k]?) (hs : w.heap.size ≤ w'.heap.size) : VR w' b g M n s := by
  obtain ⟨v, t, e, G, V⟩ := h.ex
  refine ⟨⟨v, t, (hk b (.inl rfl)).trans e, ⟨(hk g (.inr (.inl rfl))).trans G.at_⟩, ?_⟩, h.bM, h.gM, h.ne, Nat.le_trans h.sz hs, h.n1, h.n8⟩
  rcases V with V | ⟨h1, h2, h3⟩
  · exact .inl V
  · refine .inr ⟨h1, ⟨h2.1, ?_⟩, h3⟩
    rcases h2.2 with hn | ⟨p, cap, cur, rfl, hp, hpp, rest⟩
    · exact .inl hn
    · exact .inr ⟨p, cap, cur, rfl, hp, (hk p (.inr (.inr ⟨hp, (Array.getElem?_eq_some_iff.1 hpp).1⟩))).trans hpp, rest⟩
theorem Lst.ofRowU {B g n c : Nat} {w : World} {xs : List Value} (h : w.ownsRow B 5 1 (.slice (some ⟨g, 0, none⟩) n c) n xs) (hn : n ≤ 1000000) : Lst B w (some g) n c := by
  obtain ⟨o, c', e, hl⟩ := Lst.ofOwn h hn
  cases o with
  | none => simp [sa] at e
  | some b =>
    simp only [sa, Option.map_some, Value.slice.injEq, Option.some.injEq, Addr.mk.injEq, and_true, true_and] at e
    obtain ⟨rfl, rfl⟩ := e
    exact hl.out
def tri {α : Type} (a b c : α) (i : Nat) : α := if i = 0 then a else if i = 1 then b else c
theorem trip {p : Nat → Prop} (h0 : p 0) (h1 : p 1) (h2 : p 2) : ∀ i, i < 3 → p i := fun i hi => by
  match i, hi with
  | 0, _ => exact h0
  | 1, _ => exact h1
  | 2, _ => exact h2
/-- Three lists, each made behind the one ahead of it. -/
theorem tri_apart (o p q : Option Nat) (s t : Nat) (h0 : ∀ x, o = some x → x < s) (h1 : ∀ x, p = some x → s ≤ x ∧ x < t) (h2 : ∀ x, q = some x → t ≤ x) (hst : s ≤ t) :
    ∀ i j, i < 3 → j < 3 → i ≠ j → ∀ x, tri o p q i = some x → tri o p q j ≠ some x := by
  intro i j hi hj hne x hx hy
  have ei : i = 0 ∨ i = 1 ∨ i = 2 := by omega
  have ej : j = 0 ∨ j = 1 ∨ j = 2 := by omega
  rcases ei with rfl | rfl | rfl <;> rcases ej with rfl | rfl | rfl
  · exact hne rfl
  · have := h0 x hx; have := h1 x hy; omega
  · have := h0 x hx; have := h2 x hy; omega
  · have := h1 x hx; have := h0 x hy; omega
  · exact hne rfl
  · have := h1 x hx; have := h2 x hy; omega
  · have := h2 x hx; have := h0 x hy; omega
  · have := h2 x hx; have := h1 x hy; omega
  · exact hne rfl
set_option maxRecDepth 100000 in
set_option maxHeartbeats 2000000 in
theorem vown_out (a : Option Addr) (len cap : Nat) (w : World) (h : len < 1 ∨ 8 < len) :
    Calls Try.prog 7 #[.slice a len cap] w fun e w' => e = .returned (.bool true) ∧ Below w.heap.size w w' := by
  by_cases h1 : len < 1
  · have hI : (len : Int) < 1 := by omega
    clear h
    go_enter Try.func7, Try.ntmps7
    go_wp2_with fail
    refine (awake11 w).mono ?_
    rintro e w1 ⟨rfl, b1⟩
    have B1 : Hid (_) := b1
    clear b1
    go_wp2_with fail
    go_ret
    exact ⟨rfl, B1.out⟩
  · have hI : ¬ (len : Int) < 1 := by omega
    have hJ : (8 : Int) < (len : Int) := by omega
    clear h h1
    go_enter Try.func7, Try.ntmps7
    go_wp2_with fail
    refine (awake11 w).mono ?_
    rintro e w1 ⟨rfl, b1⟩
    have B1 : Hid (_) := b1
    clear b1
    go_wp2_with fail
    go_ret
    exact ⟨rfl, B1.out⟩
set_option maxRecDepth 100000 in
set_option maxHeartbeats 4000000 in
theorem vown_in (a : Option Addr) (len cap : Nat) (bs : Nat → Nat) (w : World) (R : Row8 w a len cap bs) (h1 : 1 ≤ len) (h8 : len ≤ 8) :
    Calls Try.prog 7 #[.slice a len cap] w fun e w' => e = .returned (.bool true) ∧ Below w.heap.size w w' := by
  have hby := R.byte
  have hI : ¬ (len : Int) < 1 := by omega
  have hJ : ¬ (8 : Int) < (len : Int) := by omega
  go_enter Try.func7, Try.ntmps7
  go_wp2_with fail
  refine (awake11 w).mono ?_
  rintro e w1 ⟨rfl, b1⟩
  have B1 : Hid (_) := b1
  clear b1
  go_wp2_with fail
  refine (vnew_ok len w1 h1 h8).mono ?_
  rintro e w2 ⟨b, g, rfl, H2⟩
  obtain ⟨lb, lg, o2, m2⟩ := H2.out
  have b2 : Below w.heap.size w w2 := o2.below B1.out (by simp) B1.out.size
  have HB0 : ∀ k, k ∈ [b, g] → w.heap.size ≤ k := by have := B1.out.size; simp; omega
  have HB : Hid (_) := HB0
  have K2 : Hid (_) := And.intro m2 b2
  clear m2 b2 o2 H2 B1 lb lg HB0
  go_wp2_with fail
  refine (vrun_any b g w2.heap.size len _ true w2 K2.out.1).mono ?_
  rintro e w3 ⟨rfl, H3⟩
  obtain ⟨o3, m3⟩ := H3.out
  rw [show vrun vnew true = ⟨true, false, false, 0, false, fun _ => 0⟩ from rfl] at m3
  have b3 := o3.below K2.out.2 HB.out K2.out.2.size
  have K3 : Hid (_) := And.intro m3 b3
  clear m3 b3 o3 H3 K2
  go_wp2_with fail
  refine (spare_row a len cap bs w3 (R.below K3.out.2) (by omega)).mono ?_
  rintro e w4 ⟨rfl, H4⟩
  have l4 : w3.heap.size < w4.heap.size := (H4.out.1.lt _ rfl).2
  have r4 : Row8 w4 (some ⟨w3.heap.size, 0, none⟩) (len + 9) (len + 9) (sp bs len) := by
    obtain ⟨a3, c3, e3, R3⟩ := own_row8 H4.out.1 (fun i _ => sp_lt hby i)
    simp only [Value.slice.injEq, true_and] at e3
    obtain ⟨rfl, rfl⟩ := e3
    exact R3
  have r5 : Row8 w4 (some ⟨w3.heap.size, 0, none⟩) len (len + 9) bs := (r4.upto len (by omega)).congr (fun i hi => by unfold sp; rw [if_pos hi])
  have L4 := Lst.ofRowU H4.out.1 (by omega)
  have L4' : Lst 0 w4 (some w3.heap.size) len (len + 9) := ⟨by omega, by omega, L4.cmax, (fun e => by cases e), fun x hx => ⟨Nat.zero_le _, (L4.row x hx).2⟩⟩
  have b4 := K3.out.2.trans (H4.out.2.mono K3.out.2.size)
  have m4 : VR w4 b g w4.heap.size len ⟨true, false, false, 0, false, fun _ => 0⟩ := (K3.out.1.new_ (Off.of_below H4.out.2)).raise rfl (Nat.le_trans K3.out.1.sz (Nat.le_of_lt l4)) (Nat.le_refl _)
  have mb := K3.out.1.bM
  have mg := K3.out.1.gM
  have ms := K3.out.1.sz
  have lb3 : b < w3.heap.size := by omega
  have lg3 : g < w3.heap.size := by omega
  have q5 := vtake_any b g w4.heap.size len _ _ len (len + 9) bs w4 m4 r5
  rw [show vtakeE len len = 0 from if_pos rfl, if_pos rfl, show vtake ⟨true, false, false, 0, false, fun _ => 0⟩ bs = ⟨true, false, false, 0, true, bs⟩ from rfl] at q5
  have K4 : Hid (_) := And.intro r4 (And.intro L4' (And.intro b4 (And.intro l4 (And.intro lb3 lg3))))
  clear r4 r5 L4 L4' b4 m4 H4 K3 l4 mb mg ms lb3 lg3
  obtain ⟨g1, hg1⟩ : ∃ g1, w3.heap.size = g1 := ⟨_, rfl⟩
  rw [hg1] at q5 K4 ⊢
  clear hg1
  obtain ⟨r4, L4, b4, l4, lb3, lg3⟩ := K4.out
  clear K4
  go_wp2_with fail
  refine q5.mono ?_
  rintro e w5 ⟨rfl, H5⟩
  obtain ⟨o5, m5⟩ := H5.out
  have b5 := o5.below b4 HB.out b4.size
  have hn1 : g1 ∉ [b, g] := by simp; omega
  have r5 : Row8 w5 (some ⟨g1, 0, none⟩) (len + 9) (len + 9) (sp bs len) := r4.off o5 (fun x hx => by cases hx; exact hn1)
  have L5 : Lst 0 w5 (some g1) len (len + 9) := ⟨L4.le, L4.small, L4.cmax, L4.nil, fun x hx => by
    obtain ⟨h, cs, hc, hs⟩ := L4.row x hx
    exact ⟨h, cs, (o5.block x (Array.getElem?_eq_some_iff.1 hc).1 (by cases hx; exact hn1)).trans hc, hs⟩⟩
  have k5 := o5.size
  have hK := kept_row g1 a len cap bs w5 (R.below b5) (by omega) r5
  have K5 : Hid (_) := And.intro m5 (And.intro b5 L5)
  clear m5 b5 L5 r5 r4 L4 b4 q5 H5 o5
  go_wp2_with fail
  refine hK.mono ?_
  rintro e w6 ⟨rfl, m, hw6⟩
  have d6 : Below w5.heap.size w5 w6 := by rw [hw6]; exact below_drewN (Below.refl _ _) m
  have k6 := d6.size
  have m6 := K5.out.1.new_ (Off.of_below d6)
  have K6 : Hid (_) := d6
  clear hK hw6 d6
  go_wp2_with fail
  refine (vout_any b g w4.heap.size len _ w6 m6).mono ?_
  rintro e w7 ⟨v7, rfl, H7⟩
  obtain ⟨o7, c7, rfl, L7⟩ := Lst.ofOwn H7.out.1 (by omega)
  have d7 := H7.out.2
  have k7 := d7.size
  have m7 := m6.new_ (Off.of_below d7)
  have K7 : Hid (_) := d7
  clear H7 m6 d7
  go_wp2_with fail
  refine (vout_any b g w4.heap.size len _ w7 m7).mono ?_
  rintro e w8 ⟨v8, rfl, H8⟩
  obtain ⟨o8, c8, rfl, L8⟩ := Lst.ofOwn H8.out.1 (by omega)
  have d8 := H8.out.2
  have k8 := d8.size
  have d58 : Below w5.heap.size w5 w8 := (K6.out.trans (K7.out.mono k6)).trans (d8.mono (Nat.le_trans k6 k7))
  have b8 := K5.out.2.1.trans (d58.mono K5.out.2.1.size)
  have x0 : ∀ x, (some g1 : Option Nat) = some x → x < w6.heap.size := fun x hx => by cases hx; omega
  have x1 : ∀ x, o7 = some x → w6.heap.size ≤ x ∧ x < w7.heap.size := fun x hx => L7.out.lt hx
  have x2 : ∀ x, o8 = some x → w7.heap.size ≤ x := fun x hx => (L8.out.lt hx).1
  have hwg : w.heap.size ≤ g1 := by have := HB.out b (by simp); omega
  have hAp := apart_keep (fun k => k < w.heap.size ∨ k = b ∨ k = g ∨ (w4.heap.size ≤ k ∧ k < w5.heap.size)) 3 (tri (some g1) o7 o8) (tri len len len) (tri (len + 9) c7 c8) #[.slice (some ⟨g1, 0, none⟩) len (len + 9), .slice (sa o7) len c7, .slice (sa o8) len c8] w8 w8 rfl
    (trip (K5.out.2.2.below d58) (((L7.out.base (Nat.zero_le _)).below d8)) (L8.out.base (Nat.zero_le _)))
    (tri_apart _ _ _ w6.heap.size w7.heap.size x0 x1 x2 k7) (by omega) (by omega)
    (trip (p := fun i => ∀ x, tri (some g1) o7 o8 i = some x → ¬ (x < w.heap.size ∨ x = b ∨ x = g ∨ (w4.heap.size ≤ x ∧ x < w5.heap.size))) (fun x hx => by have : x = g1 := (Option.some.inj hx).symm; omega) (fun x hx => by have := x1 x hx; omega) (fun x hx => by have := x2 x hx; omega))
    (Kp.refl _ _) (fun k hk => by have := b8.size; omega)
  have HM : Hid (_) := And.intro K5.out.1 (And.intro d58 b8)
  clear m7 L7 L8 d8 d58 b8 x0 x1 x2 K5 K6 K7 H8
  generalize sa o7 = s7 at *
  generalize sa o8 = s8 at *
  rw [show von ⟨true, false, false, 0, true, bs⟩ = true from rfl]
  go_wp2_with fail
  refine hAp.mono ?_
  rintro e w9 ⟨rfl, q9⟩
  obtain ⟨m5, d58, b8⟩ := HM.out
  have m9 : VR w9 b g w4.heap.size len ⟨true, false, false, 0, true, bs⟩ := m5.kept (fun k hk => by
    have hk5 : k < w5.heap.size := by rcases hk with rfl | rfl | hk <;> omega
    exact (q9.block k (.inr hk)).trans (d58.block k hk5)) (Nat.le_trans d58.size q9.size)
  have b9 : Below w.heap.size w w9 := b8.trans ⟨q9.os, q9.tape, q9.output, q9.size, fun k hk => q9.block k (.inl hk)⟩
  have K9 : Hid (_) := And.intro m9 b9
  clear hAp q9 HM m5 d58 b8 m9 b9
  go_wp2_with fail
  refine (vout_any b g w4.heap.size len _ w9 K9.out.1).mono ?_
  rintro e w10 ⟨v, rfl, H10⟩
  have b10 := (Off.of_below (l := []) H10.out.2).below K9.out.2 (by simp) K9.out.2.size
  have O10 : w10.ownsRow w9.heap.size 5 1 v len (CB bs len) := H10.out.1
  obtain ⟨a10, c10, rfl, R10⟩ := own_row8 O10 hby
  have e1 := conv_any a10 len c10 bs w10 R10
  have e2 := conv_any a len cap bs w10 (R.below b10)
  have K10 : Hid (_) := b10
  generalize BA bs len = X at e1 e2
  rw [show von ⟨true, false, false, 0, true, bs⟩ = true from rfl]
  clear b10 O10 R10 H10 K9 R
  go_wp2_with fail
  go_ret
  exact ⟨by simp, K10.out⟩
theorem passiveOwn_walk (a0 : Option Addr) (len0 cap0 : Nat) (z0 : List Int) (w : World) (w0 : BRow .u8 w a0 len0 cap0 z0) :
    Calls Try.prog 7 #[.slice a0 len0 cap0] w fun e w' => e = .returned (.bool true) ∧ Below w.heap.size w w' := by
  by_cases h : len0 < 1 ∨ 8 < len0
  · exact vown_out a0 len0 cap0 w h
  · exact vown_in a0 len0 cap0 _ w w0.row8 (by omega) (by omega)

end Go.Proofs.Ytjdedopijplblaa
