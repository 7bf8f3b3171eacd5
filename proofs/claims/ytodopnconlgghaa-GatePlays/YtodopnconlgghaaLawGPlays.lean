/- Layer 6: trips and lifts of two gates, in turns. -/
import Derived.Test.YtodopnconlgghaaGRef
import Derived.Test.YtodopnconlgghaaRown
namespace Go.Proofs.Ytodopnconlgghaa
open Go.RowKit

theorem pr_open {M : Nat} {w wx : World} {a v d P X : Nat} (h : Pr wx a v ∧ Pr wx d (v + 1) ∧ Below M w wx) (sel : (P = a ∧ X = v) ∨ (P = d ∧ X = v + 1)) (l0 : M ≤ a) (l1 : a < d) (l2 : d < v) (lw : M ≤ w.heap.size) :
    ∃ c t, GR wx P 0 (dn c) 0 c t ∧ RG wx X c t ∧ P ≠ X ∧ M ≤ P ∧ M ≤ X ∧ ∀ w', Off [P, X] wx w' → Pr w' P X → Pr w' a v ∧ Pr w' d (v + 1) ∧ Below M w w' := by
  obtain ⟨p1, p2, B⟩ := h
  have hs := B.size
  rcases sel with ⟨rfl, rfl⟩ | ⟨rfl, rfl⟩
  · obtain ⟨c, t, g, r⟩ := p1.pr
    refine ⟨c, t, g, r, by omega, by omega, by omega, fun w' o q => ⟨q, p2.off o (by simp; omega) (by simp; omega), o.below B (by simp; omega) (by omega)⟩⟩
  · obtain ⟨c, t, g, r⟩ := p2.pr
    refine ⟨c, t, g, r, by omega, by omega, by omega, fun w' o q => ⟨p1.off o (by simp; omega) (by simp; omega), q, o.below B (by simp; omega) (by omega)⟩⟩
set_option maxRecDepth 100000 in
set_option maxHeartbeats 4000000 in
theorem plays_some (b off len cap : Nat) (z : Nat → Int) (w : World) (hlen : len ≤ 9223372036854775807) (hb : b < w.heap.size)
    (hc : ∀ i, i < len → w.cell? ⟨b, off + i, none⟩ = some (.int .i64 (z i))) :
    Calls Try.prog 3 #[.slice (some ⟨b, off, none⟩) len cap] w fun e w' => e = .returned (.bool true) ∧ Below w.heap.size w w' := by
  go_enter Try.func3, Try.ntmps3
  go_wp2_with fail
  refine (awake6 w).mono ?_
  rintro e w0 ⟨rfl, o0⟩
  go_wp2_with fail
  refine (gnew_any w0).mono ?_
  rintro e w1 ⟨rfl, o1, g1⟩
  go_wp2_with fail
  refine (gnew_any w1).mono ?_
  rintro e w2 ⟨rfl, o2, g2⟩
  go_wp2_with fail
  have r3 : RG ((w2.alloc (.cells #[.int .i64 0, .int .i64 0] 28)).alloc (.cells #[.int .i64 0, .int .i64 0] 28)) w2.heap.size 0 0 := (⟨heap_alloc_new w2 _⟩ : RG _ _ 0 0).off (Off.alloc [] _ _) (by simp)
  have r4 : RG ((w2.alloc (.cells #[.int .i64 0, .int .i64 0] 28)).alloc (.cells #[.int .i64 0, .int .i64 0] 28)) (w2.heap.size + 1) 0 0 := by
    have h : RG ((w2.alloc (.cells #[.int .i64 0, .int .i64 0] 28)).alloc (.cells #[.int .i64 0, .int .i64 0] 28)) ((w2.alloc (.cells #[.int .i64 0, .int .i64 0] 28)).heap.size) 0 0 := ⟨heap_alloc_new _ _⟩
    rw [World.size_alloc] at h
    exact h
  have o3 : Off [] w2 ((w2.alloc (.cells #[.int .i64 0, .int .i64 0] 28)).alloc (.cells #[.int .i64 0, .int .i64 0] 28)) := (Off.alloc _ _ _).trans (Off.alloc _ _ _)
  generalize (w2.alloc (.cells #[.int .i64 0, .int .i64 0] 28)).alloc (.cells #[.int .i64 0, .int .i64 0] 28) = w3 at *
  have p1 : Pr w3 w0.heap.size w2.heap.size := ⟨0, 0, (g1.off o2 (by simp)).off o3 (by simp), r3⟩
  have p2 : Pr w3 w1.heap.size (w2.heap.size + 1) := ⟨0, 0, g2.off o3 (by simp), r4⟩
  have B3 : Below w.heap.size w w3 := (o0.trans (o1.trans (o2.trans o3))).below (Below.refl _ _) (by simp) (Nat.le_refl _)
  have l0 := o0.size
  have l1 := g1.lt
  have l2 := g2.lt
  clear o0 o1 o2 o3 g1 g2 r3 r4
  generalize w0.heap.size = a at *
  generalize w1.heap.size = d at *
  generalize w2.heap.size = v at *
  go_loopw [2, 7, 8, 9] (fun _ i _ _ wr => ∃ k : Nat, k ≤ len ∧ i = .int .i64 ((k : Nat) : Int) ∧ Pr wr a v ∧ Pr wr d (v + 1) ∧ Below w.heap.size w wr) (fun _ i _ _ _ => len - (intOf i).toNat)
  case atStart => exact ⟨0, by omega, rfl, p1, p2, B3⟩
  case round =>
    clear p1 p2 B3
    obtain ⟨k, hk, rfl, P1, P2, B⟩ := hrel
    by_cases hlt : k < len
    · have hcell : wr.cell? ⟨b, off + k, none⟩ = some (.int .i64 (z k)) := (B.cell (p := ⟨b, off + k, none⟩) hb).trans (hc k hlt)
      generalize z k = x at *
      clear hc
      have hS : Hid (Pr wr a v ∧ Pr wr d (v + 1) ∧ Below w.heap.size w wr) := ⟨P1, P2, B⟩
      clear P1 P2 B
      go_upto_if 34 with fail
      go_cut [8, 9] (fun p y wx => ∃ P X : Nat, p = .pointer (some ⟨P, 0, none⟩) ∧ y = .pointer (some ⟨X, 0, none⟩) ∧ wx = wr ∧ Hid ((P = a ∧ X = v) ∨ (P = d ∧ X = v + 1)))
      case first =>
        by_cases h3 : k % 3 = 2
        · have h3' : ((k : Int) % 3 == 2) = true := by simp; omega
          go_wp2_with fail
          go_meet
          exact ⟨_, _, rfl, rfl, rfl, .inr ⟨rfl, rfl⟩⟩
        · have h3' : ((k : Int) % 3 == 2) = false := by simp; omega
          go_wp2_with fail
          go_meet
          exact ⟨_, _, rfl, rfl, rfl, .inl ⟨rfl, rfl⟩⟩
      case rest =>
        obtain ⟨P, X, rfl, rfl, rfl, sel⟩ := hcut
        go_upto_if 41 with fail
        go_cut [2] (fun _ wx => Hid (Pr wx a v ∧ Pr wx d (v + 1) ∧ Below w.heap.size w wx))
        case first =>
          obtain ⟨C, T, G, R, hne, hP, hX, hend⟩ := pr_open hS.out sel.out l0 l1 l2 (Nat.le_refl _)
          clear sel hS
          by_cases hneg : x < 0
          · go_wp2_with fail
            refine (lift_any _ _ _ _ _ G).mono ?_
            rintro e w5 ⟨rfl, o5, G5⟩
            have R5 := R.off o5 (by simpa using hne.symm)
            clear R G
            go_wp2_with fail
            refine (rlift_any _ _ _ _ R5).mono ?_
            rintro e w6 ⟨rfl, o6, R6⟩
            have hf := hend w6 ((o5.more (by simp)).trans (o6.more (by simp))) ⟨0, 0, G5.off o6 (by simpa using hne), R6⟩
            clear hend G5 R5 R6 o5 o6
            have hh : Hid (_) := hf
            clear hf
            go_wp2_with fail
            go_meet
            exact hh
          · have P0 : Ph _ P X C T x b (off + k) false false _ := ⟨Off.refl _ _, G, R, hcell, hne, by omega, by omega⟩
            have hend' : ∀ w', Ph _ P X C T x b (off + k) true true w' → Hid (_) := fun w' q => hend w' q.off ⟨nc C x, nt T x, q.gr, q.rg⟩
            clear hend G R
            go_wp2_with fail
            have P1 := P0.drew
            clear P0
            go_region_with (first | (go_at_call 12; refine (ph_gate false _ P1).mono ?_; rintro e w1 ⟨rfl, h1⟩; have d2 := h1.op) | (go_at_call 13; refine (ph_ref true _ h1).mono ?_; rintro e w1 ⟨rfl, h1⟩; have d2 := h1.op))
            all_goals (go_wp2_with fail; go_meet; exact hend' _ h1)
        case rest =>
          obtain ⟨P1, P2, B⟩ := hcut.out
          obtain ⟨C1, T1, G1, R1⟩ := P1.pr
          obtain ⟨C2, T2, G2, R2⟩ := P2.pr
          clear hS sel hcell
          go_wp2_with fail
          have q1 := R1.c0
          have q2 := R1.c1
          have q3 := R2.c0
          have q4 := R2.c1
          have G1' : ∀ n, GR (wc.drewN n) a 0 (dn C1) 0 C1 T1 := fun n => G1.off (Off.drewN [] wc n) (by simp)
          have G2' : ∀ n, GR (wc.drewN n) d 0 (dn C2) 0 C2 T2 := fun n => G2.off (Off.drewN [] wc n) (by simp)
          have HB : Hid (_) := And.intro P1 (And.intro P2 B)
          clear P1 P2 B G1 G2 R1 R2 hcut
          go_quiet (first | (go_at_call 14; exact Calls.quiet_of_same (code_same _ _ _ _ _ (by first | exact G1' _ | exact G2' _))) | (go_at_call 15; exact Calls.quiet_of_same (times_same _ _ _ _ _ (by first | exact G1' _ | exact G2' _))))
          go_wp2_with fail
          go_roundw
          case rel => exact ⟨k + 1, by omega, by go_num, HB.out.1.off (Off.drewN [] wc _) (by simp) (by simp), HB.out.2.1.off (Off.drewN [] wc _) (by simp) (by simp), (Off.drewN [] wc _).below HB.out.2.2 (by simp) HB.out.2.2.size⟩
          case measure => simp [intOf] <;> omega
    · go_wp2_with fail
      go_ret
      exact ⟨rfl, B⟩
set_option maxRecDepth 100000 in
set_option maxHeartbeats 2000000 in
theorem plays_none (a : Option Addr) (cap : Nat) (w : World) :
    Calls Try.prog 3 #[.slice a 0 cap] w fun e w' => e = .returned (.bool true) ∧ Below w.heap.size w w' := by
  go_enter Try.func3, Try.ntmps3
  go_wp2_with fail
  refine (awake6 w).mono ?_
  rintro e w0 ⟨rfl, o0⟩
  go_wp2_with fail
  refine (gnew_any w0).mono ?_
  rintro e w1 ⟨rfl, o1, _⟩
  go_wp2_with fail
  refine (gnew_any w1).mono ?_
  rintro e w2 ⟨rfl, o2, _⟩
  go_wp2_with fail
  refine wp_loop_once ?_
  go_wp2_with fail
  go_ret
  exact ⟨rfl, (o0.trans (o1.trans (o2.trans ((Off.alloc _ _ _).trans (Off.alloc _ _ _))))).below (Below.refl _ _) (by simp) (Nat.le_refl _)⟩
theorem gatePlays_walk (a0 : Option Addr) (len0 cap0 : Nat) (z0 : List Int) (w : World) (w0 : BRow .i64 w a0 len0 cap0 z0) :
    Calls Try.prog 3 #[.slice a0 len0 cap0] w fun e w' => e = .returned (.bool true) ∧ Below w.heap.size w w' := by
  by_cases hp : 0 < len0
  · obtain ⟨b, off, rfl, hb, h⟩ := w0.nums hp
    exact plays_some b off len0 cap0 (fun i => z0.getD i 0) w w0.len_le hb (fun i hi => (h i hi).1)
  · obtain rfl : len0 = 0 := by omega
    exact plays_none a0 cap0 w

end Go.Proofs.Ytodopnconlgghaa
