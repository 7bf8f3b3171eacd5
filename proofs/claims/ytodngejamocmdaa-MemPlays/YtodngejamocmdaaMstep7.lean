/- Layer 7: one call, on both memories. -/
import Derived.Test.YtodngejamocmdaaMshow7
import Derived.Test.YtodngejamocmdaaLawSNil
namespace Go.Proofs.Ytodngejamocmdaa
open Go.RowKit

/-- A memory and the document's, which hold the same. -/
structure Tw (w : World) (b g b' g' n : Nat) (s : Ms) : Prop where
  m : MR w b g n s
  r : RR w b' g' n s
  d1 : b ≠ b'
  d2 : b ≠ g'
  d3 : g ≠ b'
  d4 : g ≠ g'
theorem Tw.off {l : List Nat} {w w' : World} {b g b' g' n : Nat} {s : Ms} (h : Tw w b g b' g' n s) (q : Off l w w') (h1 : b ∉ l) (h2 : g ∉ l) (h3 : b' ∉ l) (h4 : g' ∉ l) : Tw w' b g b' g' n s :=
  ⟨h.m.off q h1 h2, h.r.off q h3 h4, h.d1, h.d2, h.d3, h.d4⟩
/-- Inside the step: which of the two has been called already. -/
structure Ph (w0 : World) (b g b' g' n : Nat) (s s2 : Ms) (q : Nat) (k p c : Int) (i j : Bool) (wx : World) : Prop where
  off : Off [b, g, b', g'] w0 wx
  m : MR wx b g n (if i then s2 else s)
  r : RR wx b' g' n (if j then s2 else s)
  op : OpAt wx q k p c
  d1 : b ≠ b'
  d2 : b ≠ g'
  d3 : g ≠ b'
  d4 : g ≠ g'
  q1 : q ≠ b
  q2 : q ≠ g
  q3 : q ≠ b'
  q4 : q ≠ g'
section
variable {w0 wx : World} {b g b' g' n q : Nat} {s s2 : Ms} {k p c : Int} {i j : Bool}
theorem Ph.S (h : Ph w0 b g b' g' n s s2 q k p c i j wx) : wx.cell? ⟨q, 1, none⟩ = some (.int .i64 p) ∧ wx.cell? ⟨q, 2, none⟩ = some (.int .u8 c) := ⟨h.op.cells.2.1, h.op.cells.2.2⟩
theorem Ph.prog {wy : World} (h : Ph w0 b g b' g' n s s2 q k p c false j wx) (o : Off [b, g] wx wy) (m : MR wy b g n s2) : Ph w0 b g b' g' n s s2 q k p c true j wy :=
  ⟨h.off.trans (o.more (by simp)), m, h.r.off o (by simp [h.d1.symm, h.d3.symm]) (by simp [h.d2.symm, h.d4.symm]), h.op.off o (by simp [h.q1, h.q2]), h.d1, h.d2, h.d3, h.d4, h.q1, h.q2, h.q3, h.q4⟩
theorem Ph.refd {wy : World} (h : Ph w0 b g b' g' n s s2 q k p c i false wx) (o : Off [b', g'] wx wy) (r : RR wy b' g' n s2) : Ph w0 b g b' g' n s s2 q k p c i true wy :=
  ⟨h.off.trans (o.more (by simp)), h.m.off o (by simp [h.d1, h.d2]) (by simp [h.d3, h.d4]), r, h.op.off o (by simp [h.q3, h.q4]), h.d1, h.d2, h.d3, h.d4, h.q1, h.q2, h.q3, h.q4⟩
end
/-- What the step leaves. -/
def Stp (w : World) (b g b' g' n : Nat) (s : Ms) (w' : World) : Prop := Off [b, g, b', g'] w w' ∧ ∃ s', Tw w' b g b' g' n s' ∧ s'.t ≤ s.t + 1
theorem Tw.ph {w : World} {b g b' g' n : Nat} {s : Ms} (h : Tw w b g b' g' n s) (s2 : Ms) (k p c : Int) :
    Ph w b g b' g' n s s2 w.heap.size k p c false false (w.alloc (.cells (opV k p c) 36)) := by
  have o := Off.alloc [b, g, b', g'] w (.cells (opV k p c) 36)
  have o0 := Off.alloc [] w (.cells (opV k p c) 36)
  have l1 := h.m.lt
  have l2 := h.m.lg
  have l3 := h.r.lt
  have l4 := h.r.lg
  exact ⟨o, h.m.off o0 (by simp) (by simp), h.r.off o0 (by simp) (by simp), ⟨heap_alloc_new w _⟩, h.d1, h.d2, h.d3, h.d4, by omega, by omega, by omega, by omega⟩
theorem Ph.drew {w0 wx : World} {b g b' g' n q : Nat} {s s2 : Ms} {k p c : Int} {i j : Bool} (h : Ph w0 b g b' g' n s s2 q k p c i j wx) : Ph w0 b g b' g' n s s2 q k p c i j wx.drew :=
  ⟨h.off.trans (Off.drew _ _), h.m.drew, h.r.off (Off.drew [] _) (by simp) (by simp), h.op.off (Off.drew [] _) (by simp), h.d1, h.d2, h.d3, h.d4, h.q1, h.q2, h.q3, h.q4⟩
theorem Ph.stp {w0 wx : World} {b g b' g' n q : Nat} {s s2 : Ms} {k p c : Int} (h : Ph w0 b g b' g' n s s2 q k p c true true wx) (ht : s2.t ≤ s.t + 1) : Stp w0 b g b' g' n s wx :=
  ⟨h.off, s2, ⟨h.m, h.r, h.d1, h.d2, h.d3, h.d4⟩, ht⟩
theorem wrS_t (s : Ms) (n : Nat) (p : Int) (c : Nat) : (wrS s n p c).t ≤ s.t + 1 := by
  unfold wrS
  split
  · omega
  · split
    · show s.t ≤ s.t + 1; omega
    · exact Int.le_refl _
theorem arS_t (s : Ms) (p : Int) : (arS s p).t ≤ s.t + 1 := by
  unfold arS
  split
  · omega
  · show s.t ≤ s.t + 1; omega
theorem ph_write {w0 wx : World} {b g b' g' n q : Nat} {s : Ms} {k p : Int} {c : Nat} (j : Bool) (h : Ph w0 b g b' g' n s (wrS s n p c) q k p c false j wx) (hc : c < 256) (ht : s.t < 9223372036854775807) :
    Calls Try.prog 15 #[.pointer (some ⟨b, 0, none⟩), .int .i64 p, .int .u8 (c : Nat)] wx fun e w' => e = .returned (.int .i64 (wrE s n p)) ∧ Ph w0 b g b' g' n s (wrS s n p c) q k p c true j w' :=
  (write_any b g n s p c wx h.m hc ht).mono fun _ _ ⟨he, o, m⟩ => ⟨he, h.prog o m⟩
theorem ph_rwrite {w0 wx : World} {b g b' g' n q : Nat} {s : Ms} {k p : Int} {c : Nat} (i : Bool) (h : Ph w0 b g b' g' n s (wrS s n p c) q k p c i false wx) (hc : c < 256) (ht : s.t < 9223372036854775807) :
    Calls Try.prog 25 #[.pointer (some ⟨b', 0, none⟩), .int .i64 p, .int .u8 (c : Nat)] wx fun e w' => e = .returned (.int .i64 (wrE s n p)) ∧ Ph w0 b g b' g' n s (wrS s n p c) q k p c i true w' :=
  (rwrite_any b' g' n s p c wx h.r hc ht).mono fun _ _ ⟨he, o, m⟩ => ⟨he, h.refd o m⟩
theorem ph_arm {w0 wx : World} {b g b' g' n q : Nat} {s : Ms} {k p c : Int} (j : Bool) (h : Ph w0 b g b' g' n s (arS s p) q k p c false j wx) (hp : p ≤ 9223372036854775807) :
    Calls Try.prog 14 #[.pointer (some ⟨b, 0, none⟩), .int .i64 p] wx fun e w' => e = .returned (.int .i64 (arE p)) ∧ Ph w0 b g b' g' n s (arS s p) q k p c true j w' :=
  (arm_any b g n s p wx h.m hp).mono fun _ _ ⟨he, o, m⟩ => ⟨he, h.prog o.pair m⟩
theorem ph_rarm {w0 wx : World} {b g b' g' n q : Nat} {s : Ms} {k p c : Int} (i : Bool) (h : Ph w0 b g b' g' n s (arS s p) q k p c i false wx) (hp : p ≤ 9223372036854775807) :
    Calls Try.prog 27 #[.pointer (some ⟨b', 0, none⟩), .int .i64 p] wx fun e w' => e = .returned (.int .i64 (arE p)) ∧ Ph w0 b g b' g' n s (arS s p) q k p c i true w' :=
  (rarm_any b' g' n s p wx h.r hp).mono fun _ _ ⟨he, o, m⟩ => ⟨he, h.refd o.pair m⟩
set_option maxRecDepth 100000 in
set_option maxHeartbeats 2000000 in
theorem step_write (b g b' g' n : Nat) (s : Ms) (p : Int) (c : Nat) (w : World) (h : Tw w b g b' g' n s) (hc : c < 256) (ht : s.t < 9223372036854775807) :
    Calls Try.prog 12 #[.pointer (some ⟨b, 0, none⟩), .pointer (some ⟨b', 0, none⟩), .agg #[.int .i64 1, .int .i64 p, .int .u8 (c : Nat)]] w fun e w' => e = .returned (.bool true) ∧ Stp w b g b' g' n s w' := by
  have P0 := h.ph (wrS s n p c) 1 p c
  have hts := wrS_t s n p c
  have c0 := P0.op.cells.1
  clear h
  go_enter Try.func12, Try.ntmps12
  go_wp2_with fail
  change Ph _ _ _ _ _ _ _ _ _ _ _ _ _ _ (w.alloc (.cells #[.int .i64 1, .int .i64 p, .int .u8 (c : Nat)] 36)) at P0
  generalize w.alloc (.cells #[.int .i64 1, .int .i64 p, .int .u8 (c : Nat)] 36) = wa at *
  generalize w.heap.size = q at *
  have P1 : Hid (_) := P0.drew
  have HS := P1.out.S
  have cA := fun j wx h => ph_write (w0 := w) (b := b) (g := g) (b' := b') (g' := g') (n := n) (q := q) (s := s) (k := 1) (p := p) (c := c) (wx := wx) j h hc ht
  have cB := fun i wx h => ph_rwrite (w0 := w) (b := b) (g := g) (b' := b') (g' := g') (n := n) (q := q) (s := s) (k := 1) (p := p) (c := c) (wx := wx) i h hc ht
  clear P0 c0
  generalize wrS s n p c = s2 at *
  generalize wrE s n p = r at *
  go_region_held3 (fun w' => w'.cell? ⟨q, 1, none⟩ = some (.int .i64 p) ∧ w'.cell? ⟨q, 2, none⟩ = some (.int .u8 (c : Nat))) (assumption) (first
    | (go_at_call 15; (first | refine (cA true _ h1.out).mono ?_ | refine (cA false _ P1.out).mono ?_); rintro e w1 ⟨rfl, h2⟩; have HT := h2.S; have h1 : Hid (_) := h2; clear h2)
    | (go_at_call 25; (first | refine (cB true _ h1.out).mono ?_ | refine (cB false _ P1.out).mono ?_); rintro e w1 ⟨rfl, h2⟩; have HT := h2.S; have h1 : Hid (_) := h2; clear h2))
  all_goals
    go_wp2_with fail
    go_ret
    exact ⟨by simp, h1.out.stp hts⟩
set_option maxRecDepth 100000 in
set_option maxHeartbeats 2000000 in
theorem step_arm (b g b' g' n : Nat) (s : Ms) (p c : Int) (w : World) (h : Tw w b g b' g' n s) (hp : p ≤ 9223372036854775807) :
    Calls Try.prog 12 #[.pointer (some ⟨b, 0, none⟩), .pointer (some ⟨b', 0, none⟩), .agg #[.int .i64 3, .int .i64 p, .int .u8 c]] w fun e w' => e = .returned (.bool true) ∧ Stp w b g b' g' n s w' := by
  have P0 := h.ph (arS s p) 3 p c
  have hts := arS_t s p
  have c0 := P0.op.cells.1
  clear h
  go_enter Try.func12, Try.ntmps12
  go_wp2_with fail
  change Ph _ _ _ _ _ _ _ _ _ _ _ _ _ _ (w.alloc (.cells #[.int .i64 3, .int .i64 p, .int .u8 c] 36)) at P0
  generalize w.alloc (.cells #[.int .i64 3, .int .i64 p, .int .u8 c] 36) = wa at *
  generalize w.heap.size = q at *
  have P1 : Hid (_) := P0.drew
  have HS := P1.out.S
  have cA := fun j wx h => ph_arm (w0 := w) (b := b) (g := g) (b' := b') (g' := g') (n := n) (q := q) (s := s) (k := 3) (p := p) (c := c) (wx := wx) j h hp
  have cB := fun i wx h => ph_rarm (w0 := w) (b := b) (g := g) (b' := b') (g' := g') (n := n) (q := q) (s := s) (k := 3) (p := p) (c := c) (wx := wx) i h hp
  clear P0 c0
  generalize arS s p = s2 at *
  generalize arE p = r at *
  go_region_held3 (fun w' => w'.cell? ⟨q, 1, none⟩ = some (.int .i64 p) ∧ w'.cell? ⟨q, 2, none⟩ = some (.int .u8 c)) (assumption) (first
    | (go_at_call 14; (first | refine (cA true _ h1.out).mono ?_ | refine (cA false _ P1.out).mono ?_); rintro e w1 ⟨rfl, h2⟩; have HT := h2.S; have h1 : Hid (_) := h2; clear h2)
    | (go_at_call 27; (first | refine (cB true _ h1.out).mono ?_ | refine (cB false _ P1.out).mono ?_); rintro e w1 ⟨rfl, h2⟩; have HT := h2.S; have h1 : Hid (_) := h2; clear h2))
  all_goals
    go_wp2_with fail
    go_ret
    exact ⟨by simp, h1.out.stp hts⟩

end Go.Proofs.Ytodngejamocmdaa
