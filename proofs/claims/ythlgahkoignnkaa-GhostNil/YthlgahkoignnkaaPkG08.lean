/- Part 9 of the texts on which the proof rests: contracts of Go functions. -/
import Derived.Test.YthlgahkoignnkaaPkG05
import Derived.Test.YthlgahkoignnkaaPkG07
namespace Go.Proofs.Ythlgahkoignnkaa
open Go.RowKit Go.Maps
set_option maxRecDepth 100000
structure Ju where
  cs : List Co
  S : Snt
  n : Nat
  r : Int
  a : Int
def csV (n g cap : Nat) : Value := if n = 0 then .slice none 0 0 else .slice (some ⟨g, 0, none⟩) n cap
structure GJ (w : World) (jb g cap ob N : Nat) (M : TK → Option Nat) (J : Ju) : Prop where
  blk : w.heap[jb]? = some (.cells #[csV J.cs.length g cap, .map (some ob), .int .i64 ((J.n : Nat) : Int), .int .i64 J.r, .int .i64 J.a] 59 (0, 0))
  con : ∀ i c, J.cs[i]? = some c → CoW w g (i * 19) c
  sm : Sm w ob M J.S N
  ne : 0 < J.cs.length → jb ≠ g
  few : J.cs.length ≤ 1000
structure Ft (jb g ob : Nat) (M : TK → Option Nat) (l : List Nat) : Prop where
  j : jb ∈ l
  g : g ∈ l
  o : ob ∈ l
  i : ∀ t b, t.ok → M t = some b → b ∈ l
section
variable {w w' : World} {jb g cap ob N : Nat} {M : TK → Option Nat} {J : Ju}
theorem GJ.below (h : GJ w jb g cap ob N M J) (b : Below w.heap.size w w') : GJ w' jb g cap ob N M J :=
  ⟨(b.block _ (Array.getElem?_eq_some_iff.1 h.blk).1).trans h.blk, fun i c hc => (h.con i c hc).below b, h.sm.below b, h.ne, h.few⟩
theorem GJ.sl (h : GJ w jb g cap ob N M J) {i : Nat} {c : Co} (hc : J.cs[i]? = some c) : w.cell? ⟨jb, 0, none⟩ = some (.slice (some ⟨g, 0, none⟩) J.cs.length cap) := by
  have := cell_of_row w jb 0 _ _ _ h.blk
  have hi := (List.getElem?_eq_some_iff.1 hc).1
  rw [this]
  show some (csV J.cs.length g cap) = _
  unfold csV
  rw [if_neg (by omega)]
theorem GJ.ltg (h : GJ w jb g cap ob N M J) {i : Nat} {c : Co} (hc : J.cs[i]? = some c) : g < w.heap.size := (h.con i c hc).lt
theorem GJ.turn (h : GJ w jb g cap ob N M J) {i : Nat} {c c' : Co} (hc : J.cs[i]? = some c) (t : Tn w w' g (i * 19) (i * 19 + 19)) (hw : CoW w' g (i * 19) c') : GJ w' jb g cap ob N M { J with cs := J.cs.set i c' } := by
  obtain ⟨hi, hie⟩ := List.getElem?_eq_some_iff.1 hc
  have hne := h.ne (by omega)
  refine ⟨?_, fun k d hd => ?_, ?_, fun _ => hne, by simpa using h.few⟩
  · rw [t.off.block jb (Array.getElem?_eq_some_iff.1 h.blk).1 (by simpa using hne)]
    simpa using h.blk
  · by_cases e : k = i
    · subst e
      simp [hi] at hd
      subst hd
      exact hw
    · rw [List.getElem?_set_ne (Ne.symm e)] at hd
      exact (h.con k d hd).keep t (by omega)
  · exact h.sm.off t.off (by have := h.sm.nob (h.con i c hc).h.c0; simp at this ⊢; omega) (fun t' b ht hm => by have := h.sm.nin ht hm (h.con i c hc).h.c0; simp at this ⊢; omega)
theorem GJ.endT (h : GJ w jb g cap ob N M J) {i : Nat} {c : Co} (hc : J.cs[i]? = some c) (s : Int) {e : En} (t : Tn w w' g (atP (i * 19) s) (atP (i * 19) s + 9)) (he : EnW w' g (atP (i * 19) s) e) : GJ w' jb g cap ob N M { J with cs := J.cs.set i (c.put s e) } ∧ Off [g] w w' := by
  obtain ⟨h1, h2⟩ := (h.con i c hc).put s t he
  exact ⟨h.turn hc h2 h1, t.off⟩
end
open Classical in
set_option maxHeartbeats 8000000 in
theorem glearn2 (jb g cap0 ob N : Nat) (M : TK → Option Nat) (J : Ju) (i : Nat) (c : Co) (fs : Int) (fss fnn : Nat) (fon : Bool) (fcd : Int) (fn : Nat) (fb : Nat → Nat) (a : Option Addr) (cap : Nat) (w : World) (h : GJ w jb g cap0 ob N M J) (hi : J.cs[i]? = some c) (hr : Row8 w a fn cap fb) :
    Calls Try.prog 20 #[.pointer (some ⟨jb, 0, none⟩), .agg #[.int .i64 2, .int .i64 ((i : Nat) : Int), .int .i64 fs, .int .u32 (fss : Nat), .int .u32 (fnn : Nat), .bool fon, .int .i64 fcd, .slice a fn cap]] w fun r w' => r = .returned (.tuple #[]) ∧ Hid (GJ w' jb g cap0 ob N M { J with cs := J.cs.set i (c.put fs ((c.at_ fs).tak ⟨2, ((i : Nat) : Int), fs, fss, fnn, fon, fcd, fn, fb⟩)) } ∧ ∀ l, Ft jb g ob M l → Off l w w') := by
  obtain ⟨b1, c0⟩ : Below w.heap.size w (w.alloc (.cells #[.int .i64 2, .int .i64 ((i : Nat) : Int), .int .i64 fs, .int .u32 (fss : Nat), .int .u32 (fnn : Nat), .bool fon, .int .i64 fcd, .slice a fn cap] 43)) ∧ (w.alloc (.cells #[.int .i64 2, .int .i64 ((i : Nat) : Int), .int .i64 fs, .int .u32 (fss : Nat), .int .u32 (fnn : Nat), .bool fon, .int .i64 fcd, .slice a fn cap] 43)).heap[w.heap.size]? = some (.cells #[.int .i64 2, .int .i64 ((i : Nat) : Int), .int .i64 fs, .int .u32 (fss : Nat), .int .u32 (fnn : Nat), .bool fon, .int .i64 fcd, .slice a fn cap] 43 (0, 0)) := ⟨(Below.refl _ _).alloc (Nat.le_refl _) _, heap_alloc_new w _⟩
  have h1 := h.below b1
  have k0 := h1.sl hi
  have hA := fun wx => cat g (i * 19) wx fs
  rw [show (if fs = 1 then i * 19 else i * 19 + 9) = atP (i * 19) fs from rfl] at hA
  have hil := (List.getElem?_eq_some_iff.1 hi).1
  have hfew := h.few
  generalize J.cs.length = nl at *
  have hil' : ((i : Nat) : Int) < (nl : Int) := by omega
  have hF : ∀ wx, Below (w.alloc (.cells #[.int .i64 2, .int .i64 ((i : Nat) : Int), .int .i64 fs, .int .u32 (fss : Nat), .int .u32 (fnn : Nat), .bool fon, .int .i64 fcd, .slice a fn cap] 43)).heap.size (w.alloc (.cells #[.int .i64 2, .int .i64 ((i : Nat) : Int), .int .i64 fs, .int .u32 (fss : Nat), .int .u32 (fnn : Nat), .bool fon, .int .i64 fcd, .slice a fn cap] 43)) wx → Calls Try.prog 29 #[.pointer (some ⟨g, atP (i * 19) fs, none⟩), .agg #[.int .i64 2, .int .i64 ((i : Nat) : Int), .int .i64 fs, .int .u32 (fss : Nat), .int .u32 (fnn : Nat), .bool fon, .int .i64 fcd, .slice a fn cap]] wx fun r w' => r = .returned (.tuple #[]) ∧ Hid (GJ w' jb g cap0 ob N M { J with cs := J.cs.set i (c.put fs ((c.at_ fs).tak ⟨2, ((i : Nat) : Int), fs, fss, fnn, fon, fcd, fn, fb⟩)) } ∧ Off [g] wx w') := fun wx bx => by
    have hg := h1.below bx
    have hr1 := hr.below (b1.trans (bx.mono b1.size))
    refine (gtake g (atP (i * 19) fs) (c.at_ fs) wx ⟨2, ((i : Nat) : Int), fs, fss, fnn, fon, fcd, fn, fb⟩ a cap ((hg.con i c hi).at_ fs) hr1).mono ?_
    rintro r w' ⟨rfl, hh⟩
    exact ⟨rfl, hg.endT hi fs hh.out.1 hh.out.2⟩
  have HB : Hid (_) := b1
  clear h1 h hr b1
  go_enter Try.func20, Try.ntmps20
  go_wp2_with fail
  go_quiet (fail)
  go_wp2_with (first | (go_at_call 27; refine (hA _).mono ?_; rintro r w2 ⟨rfl, hw⟩; have hw := hw.symm; subst hw))
  refine (hF _ (by repeat (first | with_reducible assumption | with_reducible exact Below.refl _ _ | with_reducible refine belowN ?_ _ | with_reducible refine Below.drew ?_))).mono ?_
  rintro r w4 ⟨rfl, h4⟩
  go_wp2_with fail
  go_end0
  exact ⟨rfl, h4.out.1, fun l fl => (Off.of_below (belowN HB.out _)).trans (h4.out.2.more (fun k hk => by simp at hk; subst hk; exact fl.g))⟩
open Classical in
set_option maxHeartbeats 8000000 in
theorem glearn4 (jb g cap0 ob N : Nat) (M : TK → Option Nat) (J : Ju) (i : Nat) (c : Co) (fs : Int) (fss fnn : Nat) (fon : Bool) (fcd : Int) (fn : Nat) (fb : Nat → Nat) (a : Option Addr) (cap : Nat) (w : World) (h : GJ w jb g cap0 ob N M J) (hi : J.cs[i]? = some c) (hr : Row8 w a fn cap fb) :
    Calls Try.prog 20 #[.pointer (some ⟨jb, 0, none⟩), .agg #[.int .i64 4, .int .i64 ((i : Nat) : Int), .int .i64 fs, .int .u32 (fss : Nat), .int .u32 (fnn : Nat), .bool fon, .int .i64 fcd, .slice a fn cap]] w fun r w' => r = .returned (.tuple #[]) ∧ Hid (GJ w' jb g cap0 ob N M { J with cs := J.cs.set i (c.put fs (c.at_ fs).rfr) } ∧ ∀ l, Ft jb g ob M l → Off l w w') := by
  obtain ⟨b1, c0⟩ : Below w.heap.size w (w.alloc (.cells #[.int .i64 4, .int .i64 ((i : Nat) : Int), .int .i64 fs, .int .u32 (fss : Nat), .int .u32 (fnn : Nat), .bool fon, .int .i64 fcd, .slice a fn cap] 43)) ∧ (w.alloc (.cells #[.int .i64 4, .int .i64 ((i : Nat) : Int), .int .i64 fs, .int .u32 (fss : Nat), .int .u32 (fnn : Nat), .bool fon, .int .i64 fcd, .slice a fn cap] 43)).heap[w.heap.size]? = some (.cells #[.int .i64 4, .int .i64 ((i : Nat) : Int), .int .i64 fs, .int .u32 (fss : Nat), .int .u32 (fnn : Nat), .bool fon, .int .i64 fcd, .slice a fn cap] 43 (0, 0)) := ⟨(Below.refl _ _).alloc (Nat.le_refl _) _, heap_alloc_new w _⟩
  have h1 := h.below b1
  have k0 := h1.sl hi
  have hA := fun wx => cat g (i * 19) wx fs
  rw [show (if fs = 1 then i * 19 else i * 19 + 9) = atP (i * 19) fs from rfl] at hA
  have hil := (List.getElem?_eq_some_iff.1 hi).1
  have hfew := h.few
  generalize J.cs.length = nl at *
  have hil' : ((i : Nat) : Int) < (nl : Int) := by omega
  have hF : ∀ wx, Below (w.alloc (.cells #[.int .i64 4, .int .i64 ((i : Nat) : Int), .int .i64 fs, .int .u32 (fss : Nat), .int .u32 (fnn : Nat), .bool fon, .int .i64 fcd, .slice a fn cap] 43)).heap.size (w.alloc (.cells #[.int .i64 4, .int .i64 ((i : Nat) : Int), .int .i64 fs, .int .u32 (fss : Nat), .int .u32 (fnn : Nat), .bool fon, .int .i64 fcd, .slice a fn cap] 43)) wx → Calls Try.prog 30 #[.pointer (some ⟨g, atP (i * 19) fs, none⟩)] wx fun r w' => r = .returned (.tuple #[]) ∧ Hid (GJ w' jb g cap0 ob N M { J with cs := J.cs.set i (c.put fs (c.at_ fs).rfr) } ∧ Off [g] wx w') := fun wx bx => by
    have hg := h1.below bx
    have hr1 := hr.below (b1.trans (bx.mono b1.size))
    refine (erefresh g (atP (i * 19) fs) (c.at_ fs) wx ((hg.con i c hi).at_ fs)).mono ?_
    rintro r w' ⟨rfl, hh⟩
    exact ⟨rfl, hg.endT hi fs hh.out.1 hh.out.2⟩
  have HB : Hid (_) := b1
  clear h1 h hr b1
  go_enter Try.func20, Try.ntmps20
  go_wp2_with fail
  go_quiet (fail)
  go_wp2_with (first | (go_at_call 27; refine (hA _).mono ?_; rintro r w2 ⟨rfl, hw⟩; have hw := hw.symm; subst hw))
  refine (hF _ (by repeat (first | with_reducible assumption | with_reducible exact Below.refl _ _ | with_reducible refine belowN ?_ _ | with_reducible refine Below.drew ?_))).mono ?_
  rintro r w4 ⟨rfl, h4⟩
  go_wp2_with fail
  go_end0
  exact ⟨rfl, h4.out.1, fun l fl => (Off.of_below (belowN HB.out _)).trans (h4.out.2.more (fun k hk => by simp at hk; subst hk; exact fl.g))⟩
open Classical in
set_option maxHeartbeats 8000000 in
theorem glearn5 (jb g cap0 ob N : Nat) (M : TK → Option Nat) (J : Ju) (i : Nat) (c : Co) (fs : Int) (fss fnn : Nat) (fon : Bool) (fcd : Int) (fn : Nat) (fb : Nat → Nat) (a : Option Addr) (cap : Nat) (w : World) (h : GJ w jb g cap0 ob N M J) (hi : J.cs[i]? = some c) (hr : Row8 w a fn cap fb) (hnn : fnn < 4294967296) :
    Calls Try.prog 20 #[.pointer (some ⟨jb, 0, none⟩), .agg #[.int .i64 5, .int .i64 ((i : Nat) : Int), .int .i64 fs, .int .u32 (fss : Nat), .int .u32 (fnn : Nat), .bool fon, .int .i64 fcd, .slice a fn cap]] w fun r w' => r = .returned (.tuple #[]) ∧ Hid (GJ w' jb g cap0 ob N M { J with cs := J.cs.set i (c.put fs ((c.at_ fs).tck ((fnn : Nat) : Int))) } ∧ ∀ l, Ft jb g ob M l → Off l w w') := by
  obtain ⟨b1, c0⟩ : Below w.heap.size w (w.alloc (.cells #[.int .i64 5, .int .i64 ((i : Nat) : Int), .int .i64 fs, .int .u32 (fss : Nat), .int .u32 (fnn : Nat), .bool fon, .int .i64 fcd, .slice a fn cap] 43)) ∧ (w.alloc (.cells #[.int .i64 5, .int .i64 ((i : Nat) : Int), .int .i64 fs, .int .u32 (fss : Nat), .int .u32 (fnn : Nat), .bool fon, .int .i64 fcd, .slice a fn cap] 43)).heap[w.heap.size]? = some (.cells #[.int .i64 5, .int .i64 ((i : Nat) : Int), .int .i64 fs, .int .u32 (fss : Nat), .int .u32 (fnn : Nat), .bool fon, .int .i64 fcd, .slice a fn cap] 43 (0, 0)) := ⟨(Below.refl _ _).alloc (Nat.le_refl _) _, heap_alloc_new w _⟩
  have h1 := h.below b1
  have k0 := h1.sl hi
  have hA := fun wx => cat g (i * 19) wx fs
  rw [show (if fs = 1 then i * 19 else i * 19 + 9) = atP (i * 19) fs from rfl] at hA
  have hil := (List.getElem?_eq_some_iff.1 hi).1
  have hfew := h.few
  generalize J.cs.length = nl at *
  have hil' : ((i : Nat) : Int) < (nl : Int) := by omega
  have hF : ∀ wx, Below (w.alloc (.cells #[.int .i64 5, .int .i64 ((i : Nat) : Int), .int .i64 fs, .int .u32 (fss : Nat), .int .u32 (fnn : Nat), .bool fon, .int .i64 fcd, .slice a fn cap] 43)).heap.size (w.alloc (.cells #[.int .i64 5, .int .i64 ((i : Nat) : Int), .int .i64 fs, .int .u32 (fss : Nat), .int .u32 (fnn : Nat), .bool fon, .int .i64 fcd, .slice a fn cap] 43)) wx → Calls Try.prog 31 #[.pointer (some ⟨g, atP (i * 19) fs, none⟩), .int .i64 ((fnn : Nat) : Int)] wx fun r w' => r = .returned (.tuple #[]) ∧ Hid (GJ w' jb g cap0 ob N M { J with cs := J.cs.set i (c.put fs ((c.at_ fs).tck ((fnn : Nat) : Int))) } ∧ Off [g] wx w') := fun wx bx => by
    have hg := h1.below bx
    have hr1 := hr.below (b1.trans (bx.mono b1.size))
    refine (etick g (atP (i * 19) fs) (c.at_ fs) wx ((fnn : Nat) : Int) ((hg.con i c hi).at_ fs)).mono ?_
    rintro r w' ⟨rfl, hh⟩
    exact ⟨rfl, hg.endT hi fs hh.out.1 hh.out.2⟩
  have HB : Hid (_) := b1
  clear h1 h hr b1
  go_enter Try.func20, Try.ntmps20
  go_wp2_with fail
  go_quiet (fail)
  go_wp2_with (first | (go_at_call 27; refine (hA _).mono ?_; rintro r w2 ⟨rfl, hw⟩; have hw := hw.symm; subst hw))
  refine (hF _ (by repeat (first | with_reducible assumption | with_reducible exact Below.refl _ _ | with_reducible refine belowN ?_ _ | with_reducible refine Below.drew ?_))).mono ?_
  rintro r w4 ⟨rfl, h4⟩
  go_wp2_with fail
  go_end0
  exact ⟨rfl, h4.out.1, fun l fl => (Off.of_below (belowN HB.out _)).trans (h4.out.2.more (fun k hk => by simp at hk; subst hk; exact fl.g))⟩
open Classical in
set_option maxHeartbeats 8000000 in
theorem glearn6 (jb g cap0 ob N : Nat) (M : TK → Option Nat) (J : Ju) (i : Nat) (c : Co) (fs : Int) (fss fnn : Nat) (fon : Bool) (fcd : Int) (fn : Nat) (fb : Nat → Nat) (a : Option Addr) (cap : Nat) (w : World) (h : GJ w jb g cap0 ob N M J) (hi : J.cs[i]? = some c) (hr : Row8 w a fn cap fb) :
    Calls Try.prog 20 #[.pointer (some ⟨jb, 0, none⟩), .agg #[.int .i64 6, .int .i64 ((i : Nat) : Int), .int .i64 fs, .int .u32 (fss : Nat), .int .u32 (fnn : Nat), .bool fon, .int .i64 fcd, .slice a fn cap]] w fun r w' => r = .returned (.tuple #[]) ∧ Hid (GJ w' jb g cap0 ob N M { J with cs := J.cs.set i (c.put fs (c.at_ fs).ack) } ∧ ∀ l, Ft jb g ob M l → Off l w w') := by
  obtain ⟨b1, c0⟩ : Below w.heap.size w (w.alloc (.cells #[.int .i64 6, .int .i64 ((i : Nat) : Int), .int .i64 fs, .int .u32 (fss : Nat), .int .u32 (fnn : Nat), .bool fon, .int .i64 fcd, .slice a fn cap] 43)) ∧ (w.alloc (.cells #[.int .i64 6, .int .i64 ((i : Nat) : Int), .int .i64 fs, .int .u32 (fss : Nat), .int .u32 (fnn : Nat), .bool fon, .int .i64 fcd, .slice a fn cap] 43)).heap[w.heap.size]? = some (.cells #[.int .i64 6, .int .i64 ((i : Nat) : Int), .int .i64 fs, .int .u32 (fss : Nat), .int .u32 (fnn : Nat), .bool fon, .int .i64 fcd, .slice a fn cap] 43 (0, 0)) := ⟨(Below.refl _ _).alloc (Nat.le_refl _) _, heap_alloc_new w _⟩
  have h1 := h.below b1
  have k0 := h1.sl hi
  have hA := fun wx => cat g (i * 19) wx fs
  rw [show (if fs = 1 then i * 19 else i * 19 + 9) = atP (i * 19) fs from rfl] at hA
  have hil := (List.getElem?_eq_some_iff.1 hi).1
  have hfew := h.few
  generalize J.cs.length = nl at *
  have hil' : ((i : Nat) : Int) < (nl : Int) := by omega
  have hF : ∀ wx, Below (w.alloc (.cells #[.int .i64 6, .int .i64 ((i : Nat) : Int), .int .i64 fs, .int .u32 (fss : Nat), .int .u32 (fnn : Nat), .bool fon, .int .i64 fcd, .slice a fn cap] 43)).heap.size (w.alloc (.cells #[.int .i64 6, .int .i64 ((i : Nat) : Int), .int .i64 fs, .int .u32 (fss : Nat), .int .u32 (fnn : Nat), .bool fon, .int .i64 fcd, .slice a fn cap] 43)) wx → Calls Try.prog 32 #[.pointer (some ⟨g, atP (i * 19) fs, none⟩)] wx fun r w' => r = .returned (.tuple #[]) ∧ Hid (GJ w' jb g cap0 ob N M { J with cs := J.cs.set i (c.put fs (c.at_ fs).ack) } ∧ Off [g] wx w') := fun wx bx => by
    have hg := h1.below bx
    have hr1 := hr.below (b1.trans (bx.mono b1.size))
    refine (eack g (atP (i * 19) fs) (c.at_ fs) wx ((hg.con i c hi).at_ fs)).mono ?_
    rintro r w' ⟨rfl, hh⟩
    exact ⟨rfl, hg.endT hi fs hh.out.1 hh.out.2⟩
  have HB : Hid (_) := b1
  clear h1 h hr b1
  go_enter Try.func20, Try.ntmps20
  go_wp2_with fail
  go_quiet (fail)
  go_wp2_with (first | (go_at_call 27; refine (hA _).mono ?_; rintro r w2 ⟨rfl, hw⟩; have hw := hw.symm; subst hw))
  refine (hF _ (by repeat (first | with_reducible assumption | with_reducible exact Below.refl _ _ | with_reducible refine belowN ?_ _ | with_reducible refine Below.drew ?_))).mono ?_
  rintro r w4 ⟨rfl, h4⟩
  go_wp2_with fail
  go_end0
  exact ⟨rfl, h4.out.1, fun l fl => (Off.of_below (belowN HB.out _)).trans (h4.out.2.more (fun k hk => by simp at hk; subst hk; exact fl.g))⟩
open Classical in
set_option maxHeartbeats 8000000 in
theorem glearn7 (jb g cap0 ob N : Nat) (M : TK → Option Nat) (J : Ju) (i : Nat) (c : Co) (fs : Int) (fss fnn : Nat) (fon : Bool) (fcd : Int) (fn : Nat) (fb : Nat → Nat) (a : Option Addr) (cap : Nat) (w : World) (h : GJ w jb g cap0 ob N M J) (hi : J.cs[i]? = some c) (hr : Row8 w a fn cap fb) :
    Calls Try.prog 20 #[.pointer (some ⟨jb, 0, none⟩), .agg #[.int .i64 7, .int .i64 ((i : Nat) : Int), .int .i64 fs, .int .u32 (fss : Nat), .int .u32 (fnn : Nat), .bool fon, .int .i64 fcd, .slice a fn cap]] w fun r w' => r = .returned (.tuple #[]) ∧ Hid (GJ w' jb g cap0 ob N M { J with cs := J.cs.set i (c.put fs ((c.at_ fs).rst fs)) } ∧ ∀ l, Ft jb g ob M l → Off l w w') := by
  obtain ⟨b1, c0⟩ : Below w.heap.size w (w.alloc (.cells #[.int .i64 7, .int .i64 ((i : Nat) : Int), .int .i64 fs, .int .u32 (fss : Nat), .int .u32 (fnn : Nat), .bool fon, .int .i64 fcd, .slice a fn cap] 43)) ∧ (w.alloc (.cells #[.int .i64 7, .int .i64 ((i : Nat) : Int), .int .i64 fs, .int .u32 (fss : Nat), .int .u32 (fnn : Nat), .bool fon, .int .i64 fcd, .slice a fn cap] 43)).heap[w.heap.size]? = some (.cells #[.int .i64 7, .int .i64 ((i : Nat) : Int), .int .i64 fs, .int .u32 (fss : Nat), .int .u32 (fnn : Nat), .bool fon, .int .i64 fcd, .slice a fn cap] 43 (0, 0)) := ⟨(Below.refl _ _).alloc (Nat.le_refl _) _, heap_alloc_new w _⟩
  have h1 := h.below b1
  have k0 := h1.sl hi
  have hA := fun wx => cat g (i * 19) wx fs
  rw [show (if fs = 1 then i * 19 else i * 19 + 9) = atP (i * 19) fs from rfl] at hA
  have hil := (List.getElem?_eq_some_iff.1 hi).1
  have hfew := h.few
  generalize J.cs.length = nl at *
  have hil' : ((i : Nat) : Int) < (nl : Int) := by omega
  have hF : ∀ wx, Below (w.alloc (.cells #[.int .i64 7, .int .i64 ((i : Nat) : Int), .int .i64 fs, .int .u32 (fss : Nat), .int .u32 (fnn : Nat), .bool fon, .int .i64 fcd, .slice a fn cap] 43)).heap.size (w.alloc (.cells #[.int .i64 7, .int .i64 ((i : Nat) : Int), .int .i64 fs, .int .u32 (fss : Nat), .int .u32 (fnn : Nat), .bool fon, .int .i64 fcd, .slice a fn cap] 43)) wx → Calls Try.prog 33 #[.pointer (some ⟨g, i * 19, none⟩), .int .i64 fs] wx fun r w' => r = .returned (.tuple #[]) ∧ Hid (GJ w' jb g cap0 ob N M { J with cs := J.cs.set i (c.put fs ((c.at_ fs).rst fs)) } ∧ Off [g] wx w') := fun wx bx => by
    have hg := h1.below bx
    have hr1 := hr.below (b1.trans (bx.mono b1.size))
    refine (creset g (i * 19) c wx fs (hg.con i c hi)).mono ?_
    rintro r w' ⟨rfl, hh⟩
    exact ⟨rfl, hg.endT hi fs hh.out.1 hh.out.2⟩
  have HB : Hid (_) := b1
  clear h1 h hr b1
  go_enter Try.func20, Try.ntmps20
  go_wp2_with fail
  go_quiet (fail)
  go_wp2_with (first | (go_at_call 27; refine (hA _).mono ?_; rintro r w2 ⟨rfl, hw⟩; have hw := hw.symm; subst hw))
  refine (hF _ (by repeat (first | with_reducible assumption | with_reducible exact Below.refl _ _ | with_reducible refine belowN ?_ _ | with_reducible refine Below.drew ?_))).mono ?_
  rintro r w4 ⟨rfl, h4⟩
  go_wp2_with fail
  go_end0
  exact ⟨rfl, h4.out.1, fun l fl => (Off.of_below (belowN HB.out _)).trans (h4.out.2.more (fun k hk => by simp at hk; subst hk; exact fl.g))⟩
open Classical in
set_option maxHeartbeats 8000000 in
theorem glearn8 (jb g cap0 ob N : Nat) (M : TK → Option Nat) (J : Ju) (i : Nat) (c : Co) (fs : Int) (fss fnn : Nat) (fon : Bool) (fcd : Int) (fn : Nat) (fb : Nat → Nat) (a : Option Addr) (cap : Nat) (w : World) (h : GJ w jb g cap0 ob N M J) (hi : J.cs[i]? = some c) (hr : Row8 w a fn cap fb) :
    Calls Try.prog 20 #[.pointer (some ⟨jb, 0, none⟩), .agg #[.int .i64 8, .int .i64 ((i : Nat) : Int), .int .i64 fs, .int .u32 (fss : Nat), .int .u32 (fnn : Nat), .bool fon, .int .i64 fcd, .slice a fn cap]] w fun r w' => r = .returned (.tuple #[]) ∧ Hid (GJ w' jb g cap0 ob N M { J with cs := J.cs.set i (c.put fs ((c.at_ fs).shw fcd)) } ∧ ∀ l, Ft jb g ob M l → Off l w w') := by
  obtain ⟨b1, c0⟩ : Below w.heap.size w (w.alloc (.cells #[.int .i64 8, .int .i64 ((i : Nat) : Int), .int .i64 fs, .int .u32 (fss : Nat), .int .u32 (fnn : Nat), .bool fon, .int .i64 fcd, .slice a fn cap] 43)) ∧ (w.alloc (.cells #[.int .i64 8, .int .i64 ((i : Nat) : Int), .int .i64 fs, .int .u32 (fss : Nat), .int .u32 (fnn : Nat), .bool fon, .int .i64 fcd, .slice a fn cap] 43)).heap[w.heap.size]? = some (.cells #[.int .i64 8, .int .i64 ((i : Nat) : Int), .int .i64 fs, .int .u32 (fss : Nat), .int .u32 (fnn : Nat), .bool fon, .int .i64 fcd, .slice a fn cap] 43 (0, 0)) := ⟨(Below.refl _ _).alloc (Nat.le_refl _) _, heap_alloc_new w _⟩
  have h1 := h.below b1
  have k0 := h1.sl hi
  have hA := fun wx => cat g (i * 19) wx fs
  rw [show (if fs = 1 then i * 19 else i * 19 + 9) = atP (i * 19) fs from rfl] at hA
  have hil := (List.getElem?_eq_some_iff.1 hi).1
  have hfew := h.few
  generalize J.cs.length = nl at *
  have hil' : ((i : Nat) : Int) < (nl : Int) := by omega
  have hF : ∀ wx, Below (w.alloc (.cells #[.int .i64 8, .int .i64 ((i : Nat) : Int), .int .i64 fs, .int .u32 (fss : Nat), .int .u32 (fnn : Nat), .bool fon, .int .i64 fcd, .slice a fn cap] 43)).heap.size (w.alloc (.cells #[.int .i64 8, .int .i64 ((i : Nat) : Int), .int .i64 fs, .int .u32 (fss : Nat), .int .u32 (fnn : Nat), .bool fon, .int .i64 fcd, .slice a fn cap] 43)) wx → Calls Try.prog 34 #[.pointer (some ⟨g, atP (i * 19) fs, none⟩), .int .i64 fcd] wx fun r w' => r = .returned (.tuple #[]) ∧ Hid (GJ w' jb g cap0 ob N M { J with cs := J.cs.set i (c.put fs ((c.at_ fs).shw fcd)) } ∧ Off [g] wx w') := fun wx bx => by
    have hg := h1.below bx
    have hr1 := hr.below (b1.trans (bx.mono b1.size))
    refine (eshow g (atP (i * 19) fs) (c.at_ fs) wx fcd ((hg.con i c hi).at_ fs)).mono ?_
    rintro r w' ⟨rfl, hh⟩
    exact ⟨rfl, hg.endT hi fs hh.out.1 hh.out.2⟩
  have HB : Hid (_) := b1
  clear h1 h hr b1
  go_enter Try.func20, Try.ntmps20
  go_wp2_with fail
  go_quiet (fail)
  go_wp2_with (first | (go_at_call 27; refine (hA _).mono ?_; rintro r w2 ⟨rfl, hw⟩; have hw := hw.symm; subst hw))
  refine (hF _ (by repeat (first | with_reducible assumption | with_reducible exact Below.refl _ _ | with_reducible refine belowN ?_ _ | with_reducible refine Below.drew ?_))).mono ?_
  rintro r w4 ⟨rfl, h4⟩
  go_wp2_with fail
  go_end0
  exact ⟨rfl, h4.out.1, fun l fl => (Off.of_below (belowN HB.out _)).trans (h4.out.2.more (fun k hk => by simp at hk; subst hk; exact fl.g))⟩
end Go.Proofs.Ythlgahkoignnkaa
