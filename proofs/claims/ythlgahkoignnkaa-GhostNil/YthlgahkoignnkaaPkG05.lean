/- Part 6 of the texts on which the proof rests: contracts of Go functions. -/
import Derived.Test.YthlgahkoignnkaaPkG04
namespace Go.Proofs.Ythlgahkoignnkaa
open Go.RowKit
section
variable (g p : Nat) (c : Co) (w : World)
def outR (on may safe told ov la ak : Bool) : Int := if (on && !may) = true then 4 else if (!on && !safe) = true then 5 else if (on && (told || ov)) = true then 6 else if (ov && !told) = true then 7 else if (la && !told && !ak) = true then 8 else 0
def Co.out (c : Co) (f : Fa) : Int := outR f.on (c.may f) (sfe f.n f.b) (f.cd != 0) (c.at_ f.s).ovr ((c.at_ f.s).lat != 0) (c.at_ f.s).ak
set_option maxHeartbeats 16000000 in
theorem cout (f : Fa) (a : Option Addr) (cap : Nat) (h : CoW w g p c) (hr : Row8 w a f.n cap f.b) (hn : f.n ≤ 140737488351232) :
    Calls Try.prog 26 #[.pointer (some ⟨g, p, none⟩), .agg (faC f a cap)] w fun r w' => r = .returned (.int .i64 (c.out f)) ∧ Below w.heap.size w w' := by
  have hM0 := fun wx (h : CoW wx g p c) (hr : Row8 wx a f.n cap f.b) => cmay g p c wx f a cap h hr
  unfold faC at hM0
  unfold faC
  have b1 : Below w.heap.size w (w.alloc (.cells #[.int .i64 f.k, .int .i64 f.c, .int .i64 f.s, .int .u32 (f.ss : Nat), .int .u32 (f.nn : Nat), .bool f.on, .int .i64 f.cd, .slice a f.n cap] 43)) := (Below.refl _ _).alloc (Nat.le_refl _) _
  have hk : (w.alloc (.cells #[.int .i64 f.k, .int .i64 f.c, .int .i64 f.s, .int .u32 (f.ss : Nat), .int .u32 (f.nn : Nat), .bool f.on, .int .i64 f.cd, .slice a f.n cap] 43)).heap[w.heap.size]? = _ := heap_alloc_new w _
  have hA := fun wx => cat g p wx f.s
  rw [show (if f.s = 1 then p else p + 9) = atP p f.s from rfl] at hA
  have h1 := h.below b1
  have r1 := hr.below b1
  have HB : Hid (_) := b1
  unfold Co.out
  have hM : ∀ wx, Below (w.alloc (.cells #[.int .i64 f.k, .int .i64 f.c, .int .i64 f.s, .int .u32 (f.ss : Nat), .int .u32 (f.nn : Nat), .bool f.on, .int .i64 f.cd, .slice a f.n cap] 43)).heap.size (w.alloc (.cells #[.int .i64 f.k, .int .i64 f.c, .int .i64 f.s, .int .u32 (f.ss : Nat), .int .u32 (f.nn : Nat), .bool f.on, .int .i64 f.cd, .slice a f.n cap] 43)) wx → Calls Try.prog 42 #[.pointer (some ⟨g, p, none⟩), .agg #[.int .i64 f.k, .int .i64 f.c, .int .i64 f.s, .int .u32 (f.ss : Nat), .int .u32 (f.nn : Nat), .bool f.on, .int .i64 f.cd, .slice a f.n cap]] wx fun r w' => r = .returned (.bool (c.may f)) ∧ Below (w.alloc (.cells #[.int .i64 f.k, .int .i64 f.c, .int .i64 f.s, .int .u32 (f.ss : Nat), .int .u32 (f.nn : Nat), .bool f.on, .int .i64 f.cd, .slice a f.n cap] 43)).heap.size (w.alloc (.cells #[.int .i64 f.k, .int .i64 f.c, .int .i64 f.s, .int .u32 (f.ss : Nat), .int .u32 (f.nn : Nat), .bool f.on, .int .i64 f.cd, .slice a f.n cap] 43)) w' := fun wx hx => (hM0 wx (h1.below hx) (r1.below hx)).mono fun _ _ ⟨e, b⟩ => ⟨e, hx.trans (b.mono hx.size)⟩
  have hF : ∀ wx, Below (w.alloc (.cells #[.int .i64 f.k, .int .i64 f.c, .int .i64 f.s, .int .u32 (f.ss : Nat), .int .u32 (f.nn : Nat), .bool f.on, .int .i64 f.cd, .slice a f.n cap] 43)).heap.size (w.alloc (.cells #[.int .i64 f.k, .int .i64 f.c, .int .i64 f.s, .int .u32 (f.ss : Nat), .int .u32 (f.nn : Nat), .bool f.on, .int .i64 f.cd, .slice a f.n cap] 43)) wx → Calls Try.prog 43 #[.slice a f.n cap] wx fun r w' => r = .returned (.bool (sfe f.n f.b)) ∧ w' = wx := fun wx hx => gsafe a f.n cap f.b wx (r1.below hx) hn
  have hO : ∀ wx, Below (w.alloc (.cells #[.int .i64 f.k, .int .i64 f.c, .int .i64 f.s, .int .u32 (f.ss : Nat), .int .u32 (f.nn : Nat), .bool f.on, .int .i64 f.cd, .slice a f.n cap] 43)).heap.size (w.alloc (.cells #[.int .i64 f.k, .int .i64 f.c, .int .i64 f.s, .int .u32 (f.ss : Nat), .int .u32 (f.nn : Nat), .bool f.on, .int .i64 f.cd, .slice a f.n cap] 43)) wx → Calls Try.prog 44 #[.pointer (some ⟨g, atP p f.s, none⟩)] wx fun r w' => r = .returned (.bool (c.at_ f.s).ovr) ∧ Below (w.alloc (.cells #[.int .i64 f.k, .int .i64 f.c, .int .i64 f.s, .int .u32 (f.ss : Nat), .int .u32 (f.nn : Nat), .bool f.on, .int .i64 f.cd, .slice a f.n cap] 43)).heap.size (w.alloc (.cells #[.int .i64 f.k, .int .i64 f.c, .int .i64 f.s, .int .u32 (f.ss : Nat), .int .u32 (f.nn : Nat), .bool f.on, .int .i64 f.cd, .slice a f.n cap] 43)) w' := fun wx hx => (eover g (atP p f.s) (c.at_ f.s) wx ((h1.below hx).at_ f.s)).mono fun _ _ ⟨e, b⟩ => ⟨e, hx.trans (b.mono hx.size)⟩
  have hE := h1.at_ f.s
  generalize (c.at_ f.s).ovr = ov at *
  generalize c.at_ f.s = e at *
  generalize c.may f = may at *
  generalize atP p f.s = q at *
  generalize sfe f.n f.b = safe at *
  have hS : ∀ wx, Below (w.alloc (.cells #[.int .i64 f.k, .int .i64 f.c, .int .i64 f.s, .int .u32 (f.ss : Nat), .int .u32 (f.nn : Nat), .bool f.on, .int .i64 f.cd, .slice a f.n cap] 43)).heap.size (w.alloc (.cells #[.int .i64 f.k, .int .i64 f.c, .int .i64 f.s, .int .u32 (f.ss : Nat), .int .u32 (f.nn : Nat), .bool f.on, .int .i64 f.cd, .slice a f.n cap] 43)) wx → wx.cell? ⟨w.heap.size, 0, none⟩ = some (.int .i64 f.k) ∧ wx.cell? ⟨w.heap.size, 1, none⟩ = some (.int .i64 f.c) ∧ wx.cell? ⟨w.heap.size, 2, none⟩ = some (.int .i64 f.s) ∧ wx.cell? ⟨w.heap.size, 3, none⟩ = some (.int .u32 (f.ss : Nat)) ∧ wx.cell? ⟨w.heap.size, 4, none⟩ = some (.int .u32 (f.nn : Nat)) ∧ wx.cell? ⟨w.heap.size, 5, none⟩ = some (.bool f.on) ∧ wx.cell? ⟨w.heap.size, 6, none⟩ = some (.int .i64 f.cd) ∧ wx.cell? ⟨w.heap.size, 7, none⟩ = some (.slice a f.n cap) ∧ wx.cell? ⟨g, q + 6, none⟩ = some (.int .i64 e.lat) ∧ wx.cell? ⟨g, q + 8, none⟩ = some (.bool e.ak) := fun wx hx => by
    have hq := (hx.block w.heap.size (Array.getElem?_eq_some_iff.1 hk).1).trans hk
    have h2 := hE.below hx
    exact ⟨cell_of_row wx _ 0 _ _ _ hq, cell_of_row wx _ 1 _ _ _ hq, cell_of_row wx _ 2 _ _ _ hq, cell_of_row wx _ 3 _ _ _ hq, cell_of_row wx _ 4 _ _ _ hq, cell_of_row wx _ 5 _ _ _ hq, cell_of_row wx _ 6 _ _ _ hq, cell_of_row wx _ 7 _ _ _ hq, h2.c6, h2.c8⟩
  obtain ⟨k0, k1, k2, k3, k4, k5, k6, k7, k8, k9⟩ := hS _ (Below.refl _ _)
  generalize htold : (f.cd != 0) = told at *
  generalize hla : (e.lat != 0) = la at *
  clear hE h1 r1 hr h hk b1 hM0 hn
  generalize hon : f.on = on at *
  clear hon
  cases on
  · cases safe
    · unfold outR
      go_enter Try.func26, Try.ntmps26
      go_wp2_with (first
        | (go_at_call 27; refine (hA _).mono ?_; rintro r w' ⟨rfl, hw⟩; have hw := hw.symm; subst hw)
        | (go_at_call 42; refine (hM _ (by first | with_reducible assumption | with_reducible exact Below.refl _ _)).mono ?_; rintro r w2 ⟨rfl, b2⟩; obtain ⟨k0, k1, k2, k3, k4, k5, k6, k7, k8, k9⟩ := hS _ b2)
        | (go_at_call 43; refine (hF _ (by first | with_reducible assumption | with_reducible exact Below.refl _ _)).mono ?_; rintro r w' ⟨rfl, hw⟩; have hw := hw.symm; subst hw)
        | (go_at_call 44; refine (hO _ (by first | with_reducible assumption | with_reducible exact Below.refl _ _)).mono ?_; rintro r w2 ⟨rfl, b2⟩; obtain ⟨k0, k1, k2, k3, k4, k5, k6, k7, k8, k9⟩ := hS _ b2))
      go_ret
      refine ⟨by simp, ?_⟩
      first | with_reducible exact HB.out | (refine HB.out.trans (Below.mono (B := _) ?_ HB.out.size); with_reducible assumption)
    · cases ov
      · cases told <;> cases la <;> cases hak : e.ak
        all_goals
          rw [hak] at k9
          unfold outR
          go_enter Try.func26, Try.ntmps26
          go_wp2_with (first
            | (go_at_call 27; refine (hA _).mono ?_; rintro r w' ⟨rfl, hw⟩; have hw := hw.symm; subst hw)
            | (go_at_call 42; refine (hM _ (by first | with_reducible assumption | with_reducible exact Below.refl _ _)).mono ?_; rintro r w2 ⟨rfl, b2⟩; obtain ⟨k0, k1, k2, k3, k4, k5, k6, k7, k8, k9⟩ := hS _ b2)
            | (go_at_call 43; refine (hF _ (by first | with_reducible assumption | with_reducible exact Below.refl _ _)).mono ?_; rintro r w' ⟨rfl, hw⟩; have hw := hw.symm; subst hw)
            | (go_at_call 44; refine (hO _ (by first | with_reducible assumption | with_reducible exact Below.refl _ _)).mono ?_; rintro r w2 ⟨rfl, b2⟩; obtain ⟨k0, k1, k2, k3, k4, k5, k6, k7, k8, k9⟩ := hS _ b2))
          go_ret
          refine ⟨by simp, ?_⟩
          first | with_reducible exact HB.out | (refine HB.out.trans (Below.mono (B := _) ?_ HB.out.size); with_reducible assumption)
      · cases told <;> cases la
        all_goals
          unfold outR
          go_enter Try.func26, Try.ntmps26
          go_wp2_with (first
            | (go_at_call 27; refine (hA _).mono ?_; rintro r w' ⟨rfl, hw⟩; have hw := hw.symm; subst hw)
            | (go_at_call 42; refine (hM _ (by first | with_reducible assumption | with_reducible exact Below.refl _ _)).mono ?_; rintro r w2 ⟨rfl, b2⟩; obtain ⟨k0, k1, k2, k3, k4, k5, k6, k7, k8, k9⟩ := hS _ b2)
            | (go_at_call 43; refine (hF _ (by first | with_reducible assumption | with_reducible exact Below.refl _ _)).mono ?_; rintro r w' ⟨rfl, hw⟩; have hw := hw.symm; subst hw)
            | (go_at_call 44; refine (hO _ (by first | with_reducible assumption | with_reducible exact Below.refl _ _)).mono ?_; rintro r w2 ⟨rfl, b2⟩; obtain ⟨k0, k1, k2, k3, k4, k5, k6, k7, k8, k9⟩ := hS _ b2))
          go_ret
          refine ⟨by simp, ?_⟩
          first | with_reducible exact HB.out | (refine HB.out.trans (Below.mono (B := _) ?_ HB.out.size); with_reducible assumption)
  · cases may
    · unfold outR
      go_enter Try.func26, Try.ntmps26
      go_wp2_with (first
        | (go_at_call 27; refine (hA _).mono ?_; rintro r w' ⟨rfl, hw⟩; have hw := hw.symm; subst hw)
        | (go_at_call 42; refine (hM _ (by first | with_reducible assumption | with_reducible exact Below.refl _ _)).mono ?_; rintro r w2 ⟨rfl, b2⟩; obtain ⟨k0, k1, k2, k3, k4, k5, k6, k7, k8, k9⟩ := hS _ b2)
        | (go_at_call 43; refine (hF _ (by first | with_reducible assumption | with_reducible exact Below.refl _ _)).mono ?_; rintro r w' ⟨rfl, hw⟩; have hw := hw.symm; subst hw)
        | (go_at_call 44; refine (hO _ (by first | with_reducible assumption | with_reducible exact Below.refl _ _)).mono ?_; rintro r w2 ⟨rfl, b2⟩; obtain ⟨k0, k1, k2, k3, k4, k5, k6, k7, k8, k9⟩ := hS _ b2))
      go_ret
      refine ⟨by simp, ?_⟩
      first | with_reducible exact HB.out | (refine HB.out.trans (Below.mono (B := _) ?_ HB.out.size); with_reducible assumption)
    · cases told <;> cases ov <;> cases la <;> cases hak : e.ak
      all_goals
          rw [hak] at k9
          unfold outR
          go_enter Try.func26, Try.ntmps26
          go_wp2_with (first
            | (go_at_call 27; refine (hA _).mono ?_; rintro r w' ⟨rfl, hw⟩; have hw := hw.symm; subst hw)
            | (go_at_call 42; refine (hM _ (by first | with_reducible assumption | with_reducible exact Below.refl _ _)).mono ?_; rintro r w2 ⟨rfl, b2⟩; obtain ⟨k0, k1, k2, k3, k4, k5, k6, k7, k8, k9⟩ := hS _ b2)
            | (go_at_call 43; refine (hF _ (by first | with_reducible assumption | with_reducible exact Below.refl _ _)).mono ?_; rintro r w' ⟨rfl, hw⟩; have hw := hw.symm; subst hw)
            | (go_at_call 44; refine (hO _ (by first | with_reducible assumption | with_reducible exact Below.refl _ _)).mono ?_; rintro r w2 ⟨rfl, b2⟩; obtain ⟨k0, k1, k2, k3, k4, k5, k6, k7, k8, k9⟩ := hS _ b2))
          go_ret
          refine ⟨by simp, ?_⟩
          first | with_reducible exact HB.out | (refine HB.out.trans (Below.mono (B := _) ?_ HB.out.size); with_reducible assumption)
end
end Go.Proofs.Ythlgahkoignnkaa
