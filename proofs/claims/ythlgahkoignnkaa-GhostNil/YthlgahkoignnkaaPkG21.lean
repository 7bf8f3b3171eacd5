/- Part 22 of the texts on which the proof rests: contracts of Go functions. -/
import Derived.Test.YthlgahkoignnkaaPkG17
import Derived.Test.YthlgahkoignnkaaPkG19
namespace Go.Proofs.Ythlgahkoignnkaa
open Go.RowKit Go.Maps Go.Sort
set_option maxRecDepth 100000
def Bg3 (w w' : World) (p gs i m : Nat) (F : Nat → Fa) (A : Nat → Option Addr) (C : Nat → Nat) (fss : Nat) : Prop := ∃ (w2 : World) (sa' : Option Addr) (sx' : Nat), Below w.heap.size w w2 ∧ w2.ownsRow w.heap.size 43 8 (.slice sa' (kps F ((i : Nat) : Int) fss m).length sx') (kps F ((i : Nat) : Int) fss m).length (flL (kps F ((i : Nat) : Int) fss m) F A C) ∧ w' = ((w2.setCell ⟨p, 2, none⟩ (.slice sa' (kps F ((i : Nat) : Int) fss m).length sx')).setCell ⟨gs, i, none⟩ (.int .u32 (fss : Nat))).drew
theorem rbeg3 (p gs sc k i : Nat) (sa : Option Addr) (m sx : Nat) (F : Nat → Fa) (A : Nat → Option Addr) (C : Nat → Nat) (fk : Int) (fs : Int) (fss fnn : Nat) (fon : Bool) (fcd : Int) (fn : Nat) (a : Option Addr) (cap n ses : Nat) {w w1 : World} (b1 : Below w.heap.size w w1) (hh : w.cell? ⟨p, 1, none⟩ = some (.slice (some ⟨gs, 0, none⟩) k sc) ∧ w.cell? ⟨gs, i, none⟩ = some (.int .u32 (ses : Nat)) ∧ w.cell? ⟨p, 2, none⟩ = some (.slice sa m sx) ∧ w.frozen? ⟨p, 2, none⟩ = false ∧ w.frozen? ⟨gs, i, none⟩ = false ∧ ∀ j, j < m → ∃ q off, sa = some ⟨q, off, none⟩ ∧ ∀ t u, (faL (F j) (A j) (C j))[t]? = some u → w.cell? ⟨q, off + j * 8 + t, none⟩ = some u) (hi : i < k) (hpg : p ≠ gs) (hm : m ≤ 100000) :
    Calls Try.prog 36 #[.pointer (some ⟨p, 0, none⟩), .agg #[.int .i64 fk, .int .i64 ((i : Nat) : Int), .int .i64 fs, .int .u32 (fss : Nat), .int .u32 (fnn : Nat), .bool fon, .int .i64 fcd, .slice a fn cap]] (w1.drewN n) fun r w' => r = .returned (.tuple #[]) ∧ Hid (Bg3 w w' p gs i m F A C fss) := by
  have b : Below w.heap.size w (w1.drewN n) := belowN b1 n
  obtain ⟨h1, h2, h3, h4, h5, h6⟩ := hh
  refine (rbegin p gs sc k i sa m sx F A C fk fs fss fnn fon fcd fn a cap (w1.drewN n) ses (cell_belowJ h1 b) (cell_belowJ h2 b) hi (cell_belowJ h3 b) (frz_below h4 (World.block_lt_of_cell? w _ h3) b) (frz_below h5 (World.block_lt_of_cell? w _ h2) b) hpg (fun j hj => by obtain ⟨q, off, e, hc⟩ := h6 j hj; exact ⟨q, off, e, fun t u hu => cell_belowJ (hc t u hu) b⟩) hm).mono ?_
  rintro r w' ⟨rfl, w2, sa', sx', hb, ho, hw⟩
  exact ⟨rfl, w2, sa', sx', b.trans (hb.mono b.size), own_baseR ho b.size, hw⟩
set_option maxHeartbeats 2000000 in
theorem rule3_1 (p ge ec k i bi : Nat) (x : Ex) (fss fnn : Nat) (fon : Bool) (fcd : Int) (fn : Nat) (a : Option Addr) (cap : Nat) (w : World) (j0 : w.cell? ⟨p, 0, none⟩ = some (.slice (some ⟨ge, 0, none⟩) k ec)) (o0 : w.cell? ⟨ge, i, none⟩ = some (.slice (some ⟨bi, 0, none⟩) 2 2)) (hi : i < k) (h : ExW w bi 0 x) (gs sc ses : Nat) (sa : Option Addr) (m sx : Nat) (F : Nat → Fa) (A : Nat → Option Addr) (C : Nat → Nat) (j1 : w.cell? ⟨p, 1, none⟩ = some (.slice (some ⟨gs, 0, none⟩) k sc)) (s0 : w.cell? ⟨gs, i, none⟩ = some (.int .u32 (ses : Nat))) (j2 : w.cell? ⟨p, 2, none⟩ = some (.slice sa m sx)) (fz2 : w.frozen? ⟨p, 2, none⟩ = false) (fzg : w.frozen? ⟨gs, i, none⟩ = false) (hpg : p ≠ gs) (hA : ∀ j, j < m → ∃ q off, sa = some ⟨q, off, none⟩ ∧ ∀ t u, (faL (F j) (A j) (C j))[t]? = some u → w.cell? ⟨q, off + j * 8 + t, none⟩ = some u) (hm : m ≤ 100000) :
    Calls Try.prog 21 #[.pointer (some ⟨p, 0, none⟩), .agg #[.int .i64 3, .int .i64 ((i : Nat) : Int), .int .i64 1, .int .u32 (fss : Nat), .int .u32 (fnn : Nat), .bool fon, .int .i64 fcd, .slice a fn cap]] w fun r w' => r = .returned (.int .i64 0) ∧ Hid (Bg3 w w' p gs i m F A C fss) := by
  have b1 : Below w.heap.size w (w.alloc (.cells #[.int .i64 3, .int .i64 ((i : Nat) : Int), .int .i64 1, .int .u32 (fss : Nat), .int .u32 (fnn : Nat), .bool fon, .int .i64 fcd, .slice a fn cap] 43)) := belowG (Below.refl _ _) _
  have e0 := heap_alloc_new w (.cells #[.int .i64 3, .int .i64 ((i : Nat) : Int), .int .i64 1, .int .u32 (fss : Nat), .int .u32 (fnn : Nat), .bool fon, .int .i64 fcd, .slice a fn cap] 43)
  obtain ⟨w1, hw1⟩ : ∃ x : World, w.alloc (.cells #[.int .i64 3, .int .i64 ((i : Nat) : Int), .int .i64 1, .int .u32 (fss : Nat), .int .u32 (fnn : Nat), .bool fon, .int .i64 fcd, .slice a fn cap] 43) = x := ⟨_, rfl⟩
  obtain ⟨B, hB⟩ : ∃ x, w.heap.size = x := ⟨_, rfl⟩
  rw [hw1] at b1 e0
  rw [hB] at e0
  have T1 : Hid (Tn w w1 bi 0 (0 + 11)) := Tn.of_below 0 (0 + 11) b1 h.lt
  have HX : Hid (ExW w1 bi 0 x) := h.below b1
  have X1 := h.below b1
  have y0 := cell_belowJ j0 b1
  have y1 := cell_belowJ o0 b1
  have HBw : Hid (_) := b1
  have HH : Hid (_) := And.intro j1 (And.intro s0 (And.intro j2 (And.intro fz2 (And.intro fzg hA))))
  have lg : gs < w.heap.size := World.block_lt_of_cell? w _ s0
  have lp : p < w.heap.size := World.block_lt_of_cell? w _ j2
  have HLG : Hid (_) := And.intro lp lg
  have hi1 : ((i : Nat) : Int) < ((k : Nat) : Int) := by omega
  have hi2 : ¬ ((i : Nat) : Int) < 0 := by omega
  have hi3 : ¬ ((k : Nat) : Int) ≤ ((i : Nat) : Int) := by omega
  have hne : ¬ bi = B := by have := h.lt; omega
  go_enter Try.func21, Try.ntmps21
  go_wp2_with fail
  clear hw1 hB b1 h j0 o0
  have z0 := cell_of_row w1 B 0 _ _ _ e0
  have z1 := cell_of_row w1 B 1 _ _ _ e0
  have z2 := cell_of_row w1 B 2 _ _ _ e0
  have z3 := cell_of_row w1 B 3 _ _ _ e0
  have z4 := cell_of_row w1 B 4 _ _ _ e0
  have z7 := cell_of_row w1 B 7 _ _ _ e0
  obtain ⟨x0, x1, x2, x3, x4, x5, x6, x7, x8, x9, x10, fz⟩ := X1
  go_quiet (fail)
  go_wp2_with fail
  go_quiet (fail)
  have HZ : Hid (_) := And.intro z0 (And.intro z1 (And.intro z2 (And.intro z3 (And.intro z4 z7))))
  clear x0 x1 x2 x3 x4 x5 x6 x7 x8 x9 x10 fz y0 y1 j1 s0 j2 fz2 fzg hA lg lp
  have z5 := cell_of_row w1 B 5 _ _ _ e0
  have z6 := cell_of_row w1 B 6 _ _ _ e0
  go_wp2_with fail
  refine (rbeg3 p gs sc k i sa m sx F A C 3 1 fss fnn fon fcd fn a cap _ ses (w := w) (w1 := w1) HBw.out HH.out hi hpg hm).mono ?_
  rintro e w4 ⟨rfl, h4⟩
  clear z0 z1 z2 z3 z4 z5 z6 z7 HZ
  go_wp2_with fail
  go_ret
  exact ⟨rfl, h4⟩
set_option maxHeartbeats 2000000 in
theorem rule3_2 (p ge ec k i bi : Nat) (x : Ex) (fss fnn : Nat) (fon : Bool) (fcd : Int) (fn : Nat) (a : Option Addr) (cap : Nat) (w : World) (j0 : w.cell? ⟨p, 0, none⟩ = some (.slice (some ⟨ge, 0, none⟩) k ec)) (o0 : w.cell? ⟨ge, i, none⟩ = some (.slice (some ⟨bi, 0, none⟩) 2 2)) (hi : i < k) (h : ExW w bi 11 x) (gs sc ses : Nat) (sa : Option Addr) (m sx : Nat) (F : Nat → Fa) (A : Nat → Option Addr) (C : Nat → Nat) (j1 : w.cell? ⟨p, 1, none⟩ = some (.slice (some ⟨gs, 0, none⟩) k sc)) (s0 : w.cell? ⟨gs, i, none⟩ = some (.int .u32 (ses : Nat))) (j2 : w.cell? ⟨p, 2, none⟩ = some (.slice sa m sx)) (fz2 : w.frozen? ⟨p, 2, none⟩ = false) (fzg : w.frozen? ⟨gs, i, none⟩ = false) (hpg : p ≠ gs) (hA : ∀ j, j < m → ∃ q off, sa = some ⟨q, off, none⟩ ∧ ∀ t u, (faL (F j) (A j) (C j))[t]? = some u → w.cell? ⟨q, off + j * 8 + t, none⟩ = some u) (hm : m ≤ 100000) :
    Calls Try.prog 21 #[.pointer (some ⟨p, 0, none⟩), .agg #[.int .i64 3, .int .i64 ((i : Nat) : Int), .int .i64 2, .int .u32 (fss : Nat), .int .u32 (fnn : Nat), .bool fon, .int .i64 fcd, .slice a fn cap]] w fun r w' => r = .returned (.int .i64 0) ∧ Hid (Bg3 w w' p gs i m F A C fss) := by
  have b1 : Below w.heap.size w (w.alloc (.cells #[.int .i64 3, .int .i64 ((i : Nat) : Int), .int .i64 2, .int .u32 (fss : Nat), .int .u32 (fnn : Nat), .bool fon, .int .i64 fcd, .slice a fn cap] 43)) := belowG (Below.refl _ _) _
  have e0 := heap_alloc_new w (.cells #[.int .i64 3, .int .i64 ((i : Nat) : Int), .int .i64 2, .int .u32 (fss : Nat), .int .u32 (fnn : Nat), .bool fon, .int .i64 fcd, .slice a fn cap] 43)
  obtain ⟨w1, hw1⟩ : ∃ x : World, w.alloc (.cells #[.int .i64 3, .int .i64 ((i : Nat) : Int), .int .i64 2, .int .u32 (fss : Nat), .int .u32 (fnn : Nat), .bool fon, .int .i64 fcd, .slice a fn cap] 43) = x := ⟨_, rfl⟩
  obtain ⟨B, hB⟩ : ∃ x, w.heap.size = x := ⟨_, rfl⟩
  rw [hw1] at b1 e0
  rw [hB] at e0
  have T1 : Hid (Tn w w1 bi 11 (11 + 11)) := Tn.of_below 11 (11 + 11) b1 h.lt
  have HX : Hid (ExW w1 bi 11 x) := h.below b1
  have X1 := h.below b1
  have y0 := cell_belowJ j0 b1
  have y1 := cell_belowJ o0 b1
  have HBw : Hid (_) := b1
  have HH : Hid (_) := And.intro j1 (And.intro s0 (And.intro j2 (And.intro fz2 (And.intro fzg hA))))
  have lg : gs < w.heap.size := World.block_lt_of_cell? w _ s0
  have lp : p < w.heap.size := World.block_lt_of_cell? w _ j2
  have HLG : Hid (_) := And.intro lp lg
  have hi1 : ((i : Nat) : Int) < ((k : Nat) : Int) := by omega
  have hi2 : ¬ ((i : Nat) : Int) < 0 := by omega
  have hi3 : ¬ ((k : Nat) : Int) ≤ ((i : Nat) : Int) := by omega
  have hne : ¬ bi = B := by have := h.lt; omega
  go_enter Try.func21, Try.ntmps21
  go_wp2_with fail
  clear hw1 hB b1 h j0 o0
  have z0 := cell_of_row w1 B 0 _ _ _ e0
  have z1 := cell_of_row w1 B 1 _ _ _ e0
  have z2 := cell_of_row w1 B 2 _ _ _ e0
  have z3 := cell_of_row w1 B 3 _ _ _ e0
  have z4 := cell_of_row w1 B 4 _ _ _ e0
  have z7 := cell_of_row w1 B 7 _ _ _ e0
  obtain ⟨x0, x1, x2, x3, x4, x5, x6, x7, x8, x9, x10, fz⟩ := X1
  go_quiet (fail)
  go_wp2_with fail
  go_quiet (fail)
  have HZ : Hid (_) := And.intro z0 (And.intro z1 (And.intro z2 (And.intro z3 (And.intro z4 z7))))
  clear x0 x1 x2 x3 x4 x5 x6 x7 x8 x9 x10 fz y0 y1 j1 s0 j2 fz2 fzg hA lg lp
  have z5 := cell_of_row w1 B 5 _ _ _ e0
  have z6 := cell_of_row w1 B 6 _ _ _ e0
  go_wp2_with fail
  refine (rbeg3 p gs sc k i sa m sx F A C 3 2 fss fnn fon fcd fn a cap _ ses (w := w) (w1 := w1) HBw.out HH.out hi hpg hm).mono ?_
  rintro e w4 ⟨rfl, h4⟩
  clear z0 z1 z2 z3 z4 z5 z6 z7 HZ
  go_wp2_with fail
  go_ret
  exact ⟨rfl, h4⟩
end Go.Proofs.Ythlgahkoignnkaa
