/- BagOwn: what is handed in stays, what is answered is new memory. -/
import Derived.Test.YtohhidnockmkaaaAw15
import Derived.Test.YtohhidnockmkaaaNap3
namespace Go.Proofs.Ytohhidnockmkaaa
open Go.RowKit Go.Maps

theorem Fl.low {B : Nat} {w w' : World} {v : Value} {vs : List Value} {L : List Bfm} (h : Fl B w v vs L) {l : List Nat} (k : Off l w w') (hl : ∀ x, x ∈ l → x < B) : Fl B w' v vs L := by
  have kk : ∀ {e : TypeId} {s n : Nat} {x : Value} {xs : List Value}, w.ownsRow B e s x n xs → w'.ownsRow B e s x n xs := by
    intro e s n x xs ho
    refine own_keep ho fun g eg => ?_
    have h1 := ho.lt g eg
    exact k.block g h1.2 (fun hm => by have := hl g hm; omega)
  exact ⟨kk h.rows, fun i f hi => by obtain ⟨x, hx, ho⟩ := h.frs i f hi; exact ⟨x, hx, kk ho⟩, h.small, h.len⟩
theorem Bg.low {B : Nat} {w w' : World} {b m : Nat} {v : Value} {vs : List Value} {p : Option Addr} {L : List Bfm} (h : Bg B w b m v vs p L) {l : List Nat} (k : Off l w w') (hl : ∀ x, x ∈ l → x < B ∧ ∀ c f, w.heap[x]? ≠ some (.cells c 2 f)) : Bg B w' b m v vs p L := by
  have h1 := h.bB
  have h2 := h.mB
  refine ⟨(k.block b h.lt fun hm => by have := hl b hm; omega).trans h.at_, h.fl.low k fun x hx => (hl x hx).1, h.met.off k fun hm => by have := hl m hm; omega, ?_, h.bB, h.mB⟩
  have hp := h.pk
  generalize pkf L = q at hp
  cases hp with
  | none => exact .none
  | some c v' h' hc => exact .some c v' h' ((k.block c (Array.getElem?_eq_some_iff.1 hc).1 fun hm => (hl c hm).2 _ _ hc).trans hc)
def quad {α : Type} (a b c d : α) (i : Nat) : α := if i = 0 then a else if i = 1 then b else if i = 2 then c else d
theorem quadp {p : Nat → Prop} (h0 : p 0) (h1 : p 1) (h2 : p 2) (h3 : p 3) : ∀ i, i < 4 → p i := fun i hi => by
  match i, hi with
  | 0, _ => exact h0
  | 1, _ => exact h1
  | 2, _ => exact h2
  | 3, _ => exact h3
/-- Four lists, each made behind the one ahead of it. -/
theorem quad_apart (o p q r : Option Nat) (s t u : Nat) (h0 : ∀ x, o = some x → x < s) (h1 : ∀ x, p = some x → s ≤ x ∧ x < t) (h2 : ∀ x, q = some x → t ≤ x ∧ x < u) (h3 : ∀ x, r = some x → u ≤ x) (hst : s ≤ t) (htu : t ≤ u) :
    ∀ i j, i < 4 → j < 4 → i ≠ j → ∀ x, quad o p q r i = some x → quad o p q r j ≠ some x := by
  intro i j hi hj hne x hx hy
  have e : ∀ k, k < 4 → quad o p q r k = some x → (k = 0 ∧ x < s) ∨ (k = 1 ∧ s ≤ x ∧ x < t) ∨ (k = 2 ∧ t ≤ x ∧ x < u) ∨ (k = 3 ∧ u ≤ x) :=
    quadp (fun h => .inl ⟨rfl, h0 x h⟩) (fun h => .inr (.inl ⟨rfl, h1 x h⟩)) (fun h => .inr (.inr (.inl ⟨rfl, h2 x h⟩))) (fun h => .inr (.inr (.inr ⟨rfl, h3 x h⟩)))
  have ei := e i hi hx
  have ej := e j hj hy
  omega
theorem Lst.ofRowF {B g n c : Nat} {w : World} {xs : List Value} (h : w.ownsRow B 5 1 (.slice (some ⟨g, 0, none⟩) n c) n xs) (hn : n ≤ 1000000) : Lst B w (some g) n c := by
  obtain ⟨o, c', e, hl⟩ := Lst.ofOwn h hn
  cases o with
  | none => simp [sa] at e
  | some b =>
    simp only [sa, Option.map_some, Value.slice.injEq, Option.some.injEq, Addr.mk.injEq, and_true, true_and] at e
    obtain ⟨rfl, rfl⟩ := e
    exact hl.out
set_option maxRecDepth 100000 in
set_option maxHeartbeats 1000000 in
theorem fown_out (a : Option Addr) (len cap : Nat) (w : World) (h : len < 1 ∨ 27 < len) :
    Calls Try.prog 7 #[.slice a len cap] w fun e w' => e = .returned (.bool true) ∧ Below w.heap.size w w' := by
  by_cases h1 : len < 1
  · have hI : (len : Int) < 1 := by omega
    clear h
    go_enter Try.func7, Try.ntmps7
    go_wp2_with fail
    refine (awake15 w).mono ?_
    rintro e w1 ⟨rfl, b1⟩
    have B1 : Hid (_) := b1
    clear b1
    go_wp2_with fail
    go_ret
    exact ⟨rfl, B1.out⟩
  · have hI : ¬ (len : Int) < 1 := by omega
    have hJ : (27 : Int) < (len : Int) := by omega
    clear h h1
    go_enter Try.func7, Try.ntmps7
    go_wp2_with fail
    refine (awake15 w).mono ?_
    rintro e w1 ⟨rfl, b1⟩
    have B1 : Hid (_) := b1
    clear b1
    go_wp2_with fail
    go_ret
    exact ⟨rfl, B1.out⟩
set_option maxRecDepth 100000 in
set_option maxHeartbeats 1000000 in
theorem fown_in (a : Option Addr) (len cap : Nat) (bs : Nat → Nat) (w : World) (R : Row8 w a len cap bs) (h1 : 1 ≤ len) (h27 : len ≤ 27) :
    Calls Try.prog 7 #[.slice a len cap] w fun e w' => e = .returned (.bool true) ∧ Below w.heap.size w w' := by
  have hby := R.byte
  have hI : ¬ (len : Int) < 1 := by omega
  have hJ : ¬ (27 : Int) < (len : Int) := by omega
  have HR : Hid (_) := R
  clear R
  go_enter Try.func7, Try.ntmps7
  go_wp2_with fail
  refine (awake15 w).mono ?_
  rintro e w1 ⟨rfl, b1⟩
  have B1 : Hid (_) := b1
  clear b1
  go_wp2_with fail
  refine (spare_row a len cap bs w1 (HR.out.below B1.out) (by omega)).mono ?_
  rintro e w4 ⟨rfl, H4⟩
  obtain ⟨g0, hg0⟩ : ∃ g0, w1.heap.size = g0 := ⟨_, rfl⟩
  rw [hg0] at H4
  rw [hg0]
  have K4 : Hid (Below w.heap.size w w4 ∧ w.heap.size ≤ g0 ∧ g0 < w4.heap.size ∧ w4.ownsRow g0 5 1 (.slice (some ⟨g0, 0, none⟩) (len + 9) (len + 9)) (len + 9) (CB (sp bs len) (len + 9))) := by
    have := B1.out.size
    have hb4 : Below w1.heap.size w1 w4 := by have := H4.out.2; rw [hg0]; exact this
    exact ⟨B1.out.trans (hb4.mono B1.out.size), by omega, (H4.out.1.lt _ rfl).2, H4.out.1⟩
  clear H4 hg0 B1
  go_wp2_with fail
  refine (bnew_any w4).mono ?_
  rintro e w5 ⟨rfl, H5⟩
  obtain ⟨b, eb⟩ : ∃ b, b = w4.heap.size + 1 := ⟨_, rfl⟩
  obtain ⟨m, em⟩ : ∃ m, m = w4.heap.size := ⟨_, rfl⟩
  rw [← eb]
  have K5 : Hid (Below w.heap.size w w5 ∧ Bg m w5 b m (.slice none 0 0) [] none [] ∧ w.heap.size ≤ g0 ∧ g0 < m ∧ m < w5.heap.size ∧ w5.ownsRow g0 5 1 (.slice (some ⟨g0, 0, none⟩) (len + 9) (len + 9)) (len + 9) (CB (sp bs len) (len + 9))) := by
    obtain ⟨c1, c2, c3⟩ := H5.out
    obtain ⟨d1, d2, d3, d4⟩ := K4.out
    exact ⟨d1.trans (c1.mono d1.size), by rw [eb, em]; exact c2, d2, by omega, by omega, own_below d4 c1⟩
  clear H5 K4 eb em
  have r5 : Row8 w5 (some ⟨g0, 0, none⟩) (len + 9) (len + 9) (sp bs len) := by
    obtain ⟨a3, c3, e3, R3⟩ := own_row8 K5.out.2.2.2.2.2 (fun i _ => sp_lt hby i)
    simp only [Value.slice.injEq, true_and] at e3
    obtain ⟨rfl, rfl⟩ := e3
    exact R3
  have r5' : Row8 w5 (some ⟨g0, 0, none⟩) len (len + 9) bs := (r5.upto len (by omega)).congr (fun i hi => by unfold sp; rw [if_pos hi])
  have hP := bput_any m b m _ _ _ _ _ len (len + 9) bs w5 K5.out.2.1 r5' (fun y hy => by cases hy; have := K5.out.2.2.2.1; show g0 ≠ m; omega) h27 (by simp) (Nat.le_of_lt K5.out.2.2.2.2.1)
  clear r5 r5'
  go_wp2_with fail
  refine hP.mono ?_
  rintro e w6 ⟨rfl, H6⟩
  simp only [List.length_nil, Nat.zero_add, List.nil_append] at H6
  obtain ⟨g6, cap6, x6, p6, o6, G6, _⟩ := H6.out
  have K6 : Hid (Below w.heap.size w w6 ∧ Bg m w6 b m (.slice (some ⟨g6, 0, none⟩) 1 cap6) [x6] p6 [(len, bs)] ∧ w.heap.size ≤ g0 ∧ g0 < m ∧ m < w6.heap.size ∧ w6.ownsRow g0 5 1 (.slice (some ⟨g0, 0, none⟩) (len + 9) (len + 9)) (len + 9) (CB (sp bs len) (len + 9))) := by
    obtain ⟨d1, d2, d3, d4, d5, d6⟩ := K5.out
    have b6 : Below m w5 w6 := d2.after o6 (Below.refl _ _) (Nat.le_of_lt d5)
    exact ⟨d1.trans (b6.mono (by omega)), G6, d3, d4, Nat.lt_of_lt_of_le d5 b6.size, own_keep d6 fun g eg => by cases eg; exact b6.block g0 d4⟩
  clear hP H6 o6 G6 K5
  go_wp2_with fail
  refine (bget_any m b m _ _ _ _ 0 (len, bs) w6 K6.out.2.1 rfl).mono ?_
  rintro e w7 ⟨a7, c7, rfl, H7⟩
  obtain ⟨b7, q7⟩ := H7.out
  have G7 := K6.out.2.1.below b7
  have K7 : Hid (_) := And.intro b7 q7
  clear H7 b7 q7
  go_wp2_with fail
  refine (bget_any m b m _ _ _ _ 0 (len, bs) w7 G7 rfl).mono ?_
  rintro e w8 ⟨a8, c8, rfl, H8⟩
  obtain ⟨b8, q8⟩ := H8.out
  have G8 := G7.below b8
  have K8 : Hid (_) := And.intro b8 q8
  clear H8 b8 q8 G7
  have hG := bgarb_good m b m _ _ _ _ 0 (len, bs) 0 1 w8 G8 rfl (by omega) (by omega) (by rw [bl1B]; show 0 + 1 ≤ 8 * len; omega)
  go_wp2_with fail
  refine hG.mono ?_
  rintro e w9 ⟨g9, c9, rfl, H9⟩
  obtain ⟨b9, ⟨q, oq, _, _⟩, lg9⟩ := H9.out
  have K9 : Hid (_) := And.intro b9 oq
  clear H9 hG G8 b9 oq
  have d69 : Hid (Below w6.heap.size w6 w9 ∧ Below w7.heap.size w7 w9 ∧ w6.heap.size ≤ w7.heap.size ∧ w7.heap.size ≤ w8.heap.size ∧ w8.heap.size ≤ w9.heap.size) := by
    have s7 := K7.out.1.size
    have s8 := K8.out.1.size
    exact ⟨K7.out.1.trans ((K8.out.1.trans (K9.out.1.mono s8)).mono s7), K8.out.1.trans (K9.out.1.mono s8), s7, s8, K9.out.1.size⟩
  have b9 : Hid (Below w.heap.size w w9) := K6.out.1.trans (d69.out.1.mono K6.out.1.size)
  have own9 := own_below K6.out.2.2.2.2.2 d69.out.1
  have r9 : Row8 w9 (some ⟨g0, 0, none⟩) (len + 9) (len + 9) (sp bs len) := by
    obtain ⟨a3, c3, e3, R3⟩ := own_row8 own9 (fun i _ => sp_lt hby i)
    simp only [Value.slice.injEq, true_and] at e3
    obtain ⟨rfl, rfl⟩ := e3
    exact R3
  have hK := kept_row g0 a len cap bs w9 (HR.out.below b9.out) (by omega) r9
  have L0 := Lst.ofRowF own9 (by omega)
  have L0' : Lst 0 w9 (some g0) len (len + 9) := ⟨by omega, by omega, L0.cmax, (fun e => by cases e), fun x hx => ⟨Nat.zero_le _, (L0.row x hx).2⟩⟩
  obtain ⟨o7, k7, e7, L7⟩ := Lst.ofOwn K7.out.2 (by omega)
  simp only [Value.slice.injEq, true_and] at e7
  obtain ⟨rfl, rfl⟩ := e7
  obtain ⟨o8, k8, e8, L8⟩ := Lst.ofOwn K8.out.2 (by omega)
  simp only [Value.slice.injEq, true_and] at e8
  obtain ⟨rfl, rfl⟩ := e8
  have L9 := Lst.ofRowF K9.out.2 (by omega)
  have x0 : ∀ x, (some g0 : Option Nat) = some x → x < w6.heap.size := fun x hx => by cases hx; have := K6.out.2.2.2; omega
  have x1 : ∀ x, o7 = some x → w6.heap.size ≤ x ∧ x < w7.heap.size := fun x hx => L7.out.lt hx
  have x2 : ∀ x, o8 = some x → w7.heap.size ≤ x ∧ x < w8.heap.size := fun x hx => L8.out.lt hx
  have x3 : ∀ x, some g9 = some x → w8.heap.size ≤ x := fun x hx => (L9.lt hx).1
  have hAp := fun n => apart_keep (fun k => k < w6.heap.size ∧ k ≠ g0) 4 (quad (some g0) o7 o8 (some g9)) (quad len len len len) (quad (len + 9) c7 c8 c9) #[.slice (some ⟨g0, 0, none⟩) len (len + 9), .slice (sa o7) len c7, .slice (sa o8) len c8, .slice (some ⟨g9, 0, none⟩) len c9] (w9.drewN n) (w9.drewN n) rfl
    (quadp (L0'.below (below_drewN (Below.refl _ _) n)) (((L7.out.base (Nat.zero_le _)).below d69.out.2.1).below (below_drewN (Below.refl _ _) n)) (((L8.out.base (Nat.zero_le _)).below K9.out.1).below (below_drewN (Below.refl _ _) n)) ((L9.base (Nat.zero_le _)).below (below_drewN (Below.refl _ _) n)))
    (quad_apart _ _ _ _ w6.heap.size w7.heap.size w8.heap.size x0 x1 x2 x3 d69.out.2.2.1 d69.out.2.2.2.1) (by omega) (by omega)
    (quadp (p := fun i => ∀ x, quad (some g0) o7 o8 (some g9) i = some x → ¬ (x < w6.heap.size ∧ x ≠ g0)) (fun x hx => by have : x = g0 := (Option.some.inj hx).symm; omega) (fun x hx => by have := x1 x hx; omega) (fun x hx => by have := x2 x hx; have := d69.out.2.2.1; omega) (fun x hx => by have := x3 x hx; have := d69.out.2.2; omega))
    (Kp.refl _ _) (fun k hk => by have := d69.out.2.2; show k < w9.heap.size; omega)
  have K7' : Hid (_) := x1
  clear L0 L0' L7 L8 L9 x0 x1 x2 x3 K7 K8 K9 r9 own9 K7' lg9
  generalize sa o7 = s7 at *
  generalize sa o8 = s8 at *
  go_wp2_with fail
  refine hK.mono ?_
  rintro e w10 ⟨rfl, n10, rfl⟩
  clear hK
  go_wp2_with fail
  refine (hAp n10).mono ?_
  rintro e w11 ⟨rfl, q11⟩
  have o11 : Off [g0] w6 w11 := by
    have h1 := d69.out.1
    refine ⟨q11.os.trans h1.os, q11.tape.trans h1.tape, q11.output.trans h1.output, Nat.le_trans h1.size q11.size, fun k hk hm => ?_⟩
    exact (q11.block k ⟨hk, by simpa using hm⟩).trans (h1.block k hk)
  have G11 : Bg m w11 b m (.slice (some ⟨g6, 0, none⟩) 1 cap6) [x6] p6 [(len, bs)] := K6.out.2.1.low o11 (fun x hx => by
    simp only [List.mem_singleton] at hx
    subst hx
    refine ⟨K6.out.2.2.2.1, fun c f hc => ?_⟩
    obtain ⟨c', hc'⟩ := own_type K6.out.2.2.2.2.2 rfl
    exact tdiff hc hc' (by decide) rfl)
  have b11 : Hid (Below w.heap.size w w11) := o11.below K6.out.1 (fun k hk => by simp only [List.mem_singleton] at hk; subst hk; exact K6.out.2.2.1) K6.out.1.size
  clear hAp q11 o11 K6 d69 b9
  go_wp2_with fail
  refine (bget_any m b m _ _ _ _ 0 (len, bs) w11 G11 rfl).mono ?_
  rintro e w12 ⟨a12, c12, rfl, H12⟩
  obtain ⟨b12, q12⟩ := H12.out
  have HB : Hid (Below w.heap.size w w12) := b11.out.trans (b12.mono b11.out.size)
  obtain ⟨ay, cy, ey, R12⟩ := own_row8 q12 hby
  simp only [Value.slice.injEq, true_and] at ey
  obtain ⟨rfl, rfl⟩ := ey
  have e1 := conv_any _ _ _ _ w12 R12
  have e2 := conv_any a len cap bs w12 (HR.out.below HB.out)
  generalize BA bs len = X at e1 e2
  clear H12 b12 q12 R12 G11 b11
  go_wp2_with fail
  go_ret
  exact ⟨by simp, HB.out⟩
theorem bagOwn_walk (a0 : Option Addr) (len0 cap0 : Nat) (z0 : List Int) (w : World) (w0 : BRow .u8 w a0 len0 cap0 z0) :
    Calls Try.prog 7 #[.slice a0 len0 cap0] w fun e w' => e = .returned (.bool true) ∧ Below w.heap.size w w' := by
  by_cases h : len0 < 1 ∨ 27 < len0
  · exact fown_out a0 len0 cap0 w h
  · exact fown_in a0 len0 cap0 _ w w0.row8 (by omega) (by omega)
end Go.Proofs.Ytohhidnockmkaaa
