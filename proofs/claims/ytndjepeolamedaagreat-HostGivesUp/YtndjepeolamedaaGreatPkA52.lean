/- Part 53 of the texts on which the proofs of layer 13 rest: contracts of Go functions. -/
import Derived.Deep.RegionHeld3
import Derived.Test.YtndjepeolamedaaGreatPkA38
import Derived.Test.YtndjepeolamedaaGreatPkA46
import Derived.Test.YtndjepeolamedaaGreatPkA51
namespace Go.Proofs.YtndjepeolamedaaGreat
set_option maxRecDepth 100000
open Go.RowKit
theorem nat_u32H {x : Int} (h : (Lit.int .u32 x).wf = true) : ∃ z : Nat, x = (z : Int) ∧ z < 4294967296 := by
  have e1 : IntKind.u32.min = 0 := by decide
  have e2 : IntKind.u32.max = 4294967295 := by decide
  simp [Lit.wf, e1, e2] at h
  exact ⟨x.toNat, by omega, by omega⟩
theorem mod4H (x : Int) : ∃ U m : Nat, m < 4 ∧ IntKind.u64.wrap x = (U : Int) ∧ (U : Int).tmod 4 = (m : Int) ∧ (U : Int) % 4 = (m : Int) ∧ IntKind.i64.wrap (m : Int) = (m : Int) ∧ IntKind.u64.wrap (m : Int) = (m : Int) := by
  have e : IntKind.u64.wrap x = x % 18446744073709551616 := by rw [IntKind.wrap_u64]
  refine ⟨(x % 18446744073709551616).toNat, (x % 18446744073709551616).toNat % 4, by omega, by rw [e]; omega, ?_, by omega, ?_, ?_⟩
  · rw [Int.tmod_eq_emod_of_nonneg (by omega)]; omega
  · rw [IntKind.wrap_i64]; omega
  · rw [IntKind.wrap_u64]; omega
def Gj (S k : Nat) (s : Sh) : Prop := (k = 0 → s = hnew) ∧ (k = 1 → Hg s S 2 0) ∧ (k = 2 → Hg s S 3 0) ∧ (k = 3 → Hg s S 4 0) ∧ (4 ≤ k → Hg s S 4 1)
theorem Gj.some {S k : Nat} {s : Sh} (h : Gj S k s) (hk : 1 ≤ k) : ∃ st nm, Hg s S st nm ∧ (st = 2 ∨ st = 3 ∨ st = 4) := by
  by_cases h1 : k = 1
  · exact ⟨2, 0, h.2.1 h1, by omega⟩
  · by_cases h2 : k = 2
    · exact ⟨3, 0, h.2.2.1 h2, by omega⟩
    · by_cases h3 : k = 3
      · exact ⟨4, 0, h.2.2.2.1 h3, by omega⟩
      · exact ⟨4, 1, h.2.2.2.2 (by omega), by omega⟩
theorem Gj.next {S k : Nat} {s : Sh} (h1 : 1 ≤ S) (hS : S ≤ 2147483648) (h : Gj S k s) (hk : k ≤ 3) {K N : Int} {l : Nat} {bs : Nat → Nat} {f : Fm} {x : Nat} (hK : K = (k : Int) + 1) (hN0 : k = 0 → N = (S : Int)) (hN3 : k = 3 → N = 1 ∧ l = 1) (fo : Fh P0 s K N 0 false l bs x f) : Gj S (k + 1) (hrecvS P0 s f.1 f.2) := by
  have : k = 0 ∨ k = 1 ∨ k = 2 ∨ k = 3 := by omega
  rcases this with rfl | rfl | rfl | rfl
  · obtain rfl := h.1 rfl
    obtain rfl := hN0 rfl
    exact ⟨fun e => by omega, fun _ => hg1 h1 hS (fo.1 hK), fun e => by omega, fun e => by omega, fun e => by omega⟩
  · exact ⟨fun e => by omega, fun e => by omega, fun _ => hg2 h1 hS (h.2.1 rfl) (fo.2.1 hK), fun e => by omega, fun e => by omega⟩
  · exact ⟨fun e => by omega, fun e => by omega, fun e => by omega, fun _ => hg3 h1 hS (h.2.2.1 rfl) (fo.2.2.1 hK), fun e => by omega⟩
  · obtain ⟨rfl, rfl⟩ := hN3 rfl
    exact ⟨fun e => by omega, fun e => by omega, fun e => by omega, fun e => by omega, fun _ => hg4 h1 hS (h.2.2.2.1 rfl) (fo.2.2.2.1 hK)⟩
def unitsC (S : Nat) (b : Nat) : Array Value := #[.int .i64 1, .int .i64 (S : Int), .int .i64 0, .bool false, .slice none 0 0, .int .i64 0, .int .u32 0, .int .i64 2, .int .i64 0, .int .i64 0, .bool false, .slice none 0 0, .int .i64 0, .int .u32 0, .int .i64 3, .int .i64 0, .int .i64 0, .bool false, .slice none 0 0, .int .i64 0, .int .u32 0, .int .i64 4, .int .i64 1, .int .i64 0, .bool false, .slice (some ⟨b, 0, none⟩) 1 1, .int .i64 0, .int .u32 0]
theorem build4 (w : World) : (Instr.buildSlice 22 1 #[(0, .int .u8 4)]).run Tryz.prog w = .ok (.slice (some ⟨w.heap.size, 0, none⟩) 1 1) (w.alloc (.cells #[.int .u8 4] 5)) := by kernel_rfl
theorem buildU (S b : Nat) (w : World) : (Instr.buildSlice 71 4 #[(0, .agg #[.int .i64 1, .int .i64 (S : Int), .int .i64 0, .bool false, .slice none 0 0, .int .i64 0, .int .u32 0]), (1, .agg #[.int .i64 2, .int .i64 0, .int .i64 0, .bool false, .slice none 0 0, .int .i64 0, .int .u32 0]), (2, .agg #[.int .i64 3, .int .i64 0, .int .i64 0, .bool false, .slice none 0 0, .int .i64 0, .int .u32 0]), (3, .agg #[.int .i64 4, .int .i64 1, .int .i64 0, .bool false, .slice (some ⟨b, 0, none⟩) 1 1, .int .i64 0, .int .u32 0])]).run Tryz.prog w = .ok (.slice (some ⟨w.heap.size, 0, none⟩) 4 4) (w.alloc (.cells (unitsC S b) 80)) := by kernel_rfl
theorem row4H (w' : World) (b : Nat) (h : w'.heap[b]? = some (.cells #[.int .u8 4] 5 (0, 0))) : Row8 w' (some ⟨b, 0, none⟩) 1 1 (fun _ => 4) := by
  refine ⟨fun i _ => by show 4 < 256; omega, (fun h => by cases h), fun x hx i hi => ?_, Nat.le_refl _⟩
  cases hx
  obtain rfl : i = 0 := by omega
  exact cell_of_row _ _ 0 _ _ _ h
theorem unit_at (S b lb k : Nat) (w : World) (hk : k ≤ 3) (hb : w.heap[b]? = some (.cells #[.int .u8 4] 5 (0, 0))) (hlb : w.heap[lb]? = some (.cells (unitsC S b) 80 (0, 0))) :
    ∃ (K N : Int) (a : Option Addr) (l c : Nat) (bs : Nat → Nat), w.cell? ⟨lb, k * 7, none⟩ = some (.int .i64 K) ∧ w.cell? ⟨lb, k * 7 + 1, none⟩ = some (.int .i64 N) ∧ w.cell? ⟨lb, k * 7 + 2, none⟩ = some (.int .i64 0) ∧ w.cell? ⟨lb, k * 7 + 3, none⟩ = some (.bool false) ∧ w.cell? ⟨lb, k * 7 + 4, none⟩ = some (.slice a l c) ∧ w.cell? ⟨lb, k * 7 + 5, none⟩ = some (.int .i64 0) ∧ w.cell? ⟨lb, k * 7 + 6, none⟩ = some (.int .u32 0) ∧
      Hid (Row8 w a l c bs ∧ (∀ y, a = some y → 0 < l → y.block < w.heap.size) ∧ l ≤ 140737488351232 ∧ K = (k : Int) + 1 ∧ (k = 0 → N = (S : Int)) ∧ (k = 3 → N = 1 ∧ l = 1)) := by
  have hlt : b < w.heap.size := (Array.getElem?_eq_some_iff.1 hb).1
  have hc : ∀ i (hi : i < 28), w.cell? ⟨lb, i, none⟩ = (unitsC S b)[i]? := fun i hi => by
    obtain ⟨u, hu⟩ : ∃ u, (unitsC S b)[i]? = some u := ⟨_, Array.getElem?_eq_getElem (by show i < 28; omega)⟩
    rw [hu]
    exact cell_at hlb hu
  have : k = 0 ∨ k = 1 ∨ k = 2 ∨ k = 3 := by omega
  rcases this with rfl | rfl | rfl | rfl
  · exact ⟨1, S, none, 0, 0, fun _ => 0, hc 0 (by omega), hc 1 (by omega), hc 2 (by omega), hc 3 (by omega), hc 4 (by omega), hc 5 (by omega), hc 6 (by omega), row_nilX _ _, (fun y hy => by cases hy), by omega, rfl, fun _ => rfl, fun e => by omega⟩
  · exact ⟨2, 0, none, 0, 0, fun _ => 0, hc 7 (by omega), hc 8 (by omega), hc 9 (by omega), hc 10 (by omega), hc 11 (by omega), hc 12 (by omega), hc 13 (by omega), row_nilX _ _, (fun y hy => by cases hy), by omega, rfl, fun e => by omega, fun e => by omega⟩
  · exact ⟨3, 0, none, 0, 0, fun _ => 0, hc 14 (by omega), hc 15 (by omega), hc 16 (by omega), hc 17 (by omega), hc 18 (by omega), hc 19 (by omega), hc 20 (by omega), row_nilX _ _, (fun y hy => by cases hy), by omega, rfl, fun e => by omega, fun e => by omega⟩
  · exact ⟨4, 1, some ⟨b, 0, none⟩, 1, 1, fun _ => 4, hc 21 (by omega), hc 22 (by omega), hc 23 (by omega), hc 24 (by omega), hc 25 (by omega), hc 26 (by omega), hc 27 (by omega), row4H w b hb, (fun y hy _ => by cases hy; exact hlt), by omega, rfl, fun e => by omega, fun _ => ⟨rfl, rfl⟩⟩
set_option maxRecDepth 100000 in
set_option maxHeartbeats 8000000 in
theorem hgivesup_go (S : Nat) (a1 : Int) (w : World) (h1 : 1 ≤ S) (hS : S ≤ 2147483648) :
    Calls Tryz.prog 10 #[.int .u32 (S : Nat), .int .i64 a1] w fun e w' => e = .returned (.bool true) ∧ Below w.heap.size w w' := by
  obtain ⟨U1, fm, hfm, hF1, hF2, hF3, hF4, hF5⟩ := mod4H a1
  have hb4 := build4
  have hbu := buildU S
  have s0 : ((S : Int) == 0) = false := by simp; omega
  have s1 : ¬ (2147483648 : Int) < (S : Int) := by omega
  have s1' : ¬ 2147483648 < S := by omega
  have s2 : IntKind.i64.wrap (S : Int) = (S : Int) := by rw [IntKind.wrap_i64]; omega
  have HS : Hid (_) := And.intro h1 hS
  clear h1 hS
  go_enter Tryz.func10, Tryz.ntmps10
  go_wp2_with fail
  refine (awake14 _).mono ?_
  rintro e w1 ⟨rfl, b1⟩
  have H1 : Hid (_) := b1
  clear b1
  go_wp2_with fail
  refine (small_any w1).mono ?_
  rintro e w2 ⟨rfl, b2'⟩
  have b2 := H1.out.trans (b2'.mono H1.out.size)
  have bX : Below w2.heap.size w2 (w2.alloc (.cells #[.int .u32 (P0.c : Nat), .int .i64 (P0.o : Nat), .int .i64 (P0.i : Nat), .int .i64 (P0.t : Nat), .int .u32 (P0.n : Nat)] 36)) := (Below.refl _ _).alloc (Nat.le_refl _) _
  have eX := heap_alloc_new w2 (.cells #[.int .u32 (P0.c : Nat), .int .i64 (P0.o : Nat), .int .i64 (P0.i : Nat), .int .i64 (P0.t : Nat), .int .u32 (P0.n : Nat)] 36)
  have lX : w2.heap.size < (w2.alloc (.cells #[.int .u32 (P0.c : Nat), .int .i64 (P0.o : Nat), .int .i64 (P0.i : Nat), .int .i64 (P0.t : Nat), .int .u32 (P0.n : Nat)] 36)).heap.size := by rw [World.size_alloc]; omega
  have qN := newH_any P0 P0_ok (w2.alloc (.cells #[.int .u32 (P0.c : Nat), .int .i64 (P0.o : Nat), .int .i64 (P0.i : Nat), .int .i64 (P0.t : Nat), .int .u32 (P0.n : Nat)] 36))
  have H2 : Hid (_) := And.intro (b2.trans (bX.mono b2.size)) (And.intro eX lX)
  clear b2' b2 bX eX lX H1
  go_wp2_with fail
  generalize w2.alloc (.cells #[.int .u32 (P0.c : Nat), .int .i64 (P0.o : Nat), .int .i64 (P0.i : Nat), .int .i64 (P0.t : Nat), .int .u32 (P0.n : Nat)] 36) = X at *
  refine qN.mono ?_
  rintro e w5 ⟨d, rfl, h5⟩
  obtain ⟨b5, U, D5, hU⟩ := h5.out
  have e5 := (b5.block w2.heap.size H2.out.2.2).trans H2.out.2.1
  have q0 := cell_of_row w5 w2.heap.size 0 _ _ _ e5
  have q1 := cell_of_row w5 w2.heap.size 1 _ _ _ e5
  have q2 := cell_of_row w5 w2.heap.size 2 _ _ _ e5
  have q3 := cell_of_row w5 w2.heap.size 3 _ _ _ e5
  have q4 := cell_of_row w5 w2.heap.size 4 _ _ _ e5
  have qR := hrnew_any P0 P0_ok w5
  have H5 : Hid (_) := And.intro b5 (And.intro D5 hU)
  clear qN h5 b5 D5 hU e5
  go_wp2_with fail
  refine qR.mono ?_
  rintro e w6 ⟨e', V, rfl, h6⟩
  obtain ⟨b5, D5, hU⟩ := H5.out
  obtain ⟨b6, R6, hV⟩ := h6.out
  have T : Twh X w6 ⟨d, e', P0, []⟩ hnew := twh_made (Below.refl _ _) b5 D5 hU b6 R6 hV rfl
  have bA : Below w6.heap.size w6 (w6.alloc (.cells #[.int .u8 4] 5)) := (Below.refl _ _).alloc (Nat.le_refl _) _
  have bB : Below w6.heap.size w6 ((w6.alloc (.cells #[.int .u8 4] 5)).alloc (.cells (unitsC S w6.heap.size) 80)) := bA.alloc bA.size _
  have n1 : (w6.alloc (.cells #[.int .u8 4] 5)).heap.size = w6.heap.size + 1 := by simp
  have k1 : ((w6.alloc (.cells #[.int .u8 4] 5)).alloc (.cells (unitsC S w6.heap.size) 80)).heap[w6.heap.size]? = some (.cells #[.int .u8 4] 5 (0, 0)) := (((Below.refl (w6.alloc (.cells #[.int .u8 4] 5)).heap.size _).alloc (Nat.le_refl _) _).block w6.heap.size (by omega)).trans (heap_alloc_new w6 _)
  have k2 : ((w6.alloc (.cells #[.int .u8 4] 5)).alloc (.cells (unitsC S w6.heap.size) 80)).heap[w6.heap.size + 1]? = some (.cells (unitsC S w6.heap.size) 80 (0, 0)) := by rw [← n1]; exact heap_alloc_new _ _
  have n2 : ((w6.alloc (.cells #[.int .u8 4] 5)).alloc (.cells (unitsC S w6.heap.size) 80)).heap.size = w6.heap.size + 2 := by simp
  have TB : Twh X ((w6.alloc (.cells #[.int .u8 4] 5)).alloc (.cells (unitsC S w6.heap.size) 80)) ⟨d, e', P0, [(w6.heap.size, some (.cells #[.int .u8 4] 5 (0, 0))), (w6.heap.size + 1, some (.cells (unitsC S w6.heap.size) 80 (0, 0)))]⟩ hnew := by
    obtain ⟨U7, V7, T7⟩ := T
    refine ⟨U7, V7, (T7.below bB).tell _ (fun x hx => ?_)⟩
    simp only [List.mem_cons, List.not_mem_nil, or_false] at hx
    rcases hx with rfl | rfl
    · exact ⟨⟨by show w6.heap.size < _; omega, T7.far (Nat.le_refl _)⟩, k1⟩
    · exact ⟨⟨by show w6.heap.size + 1 < _; omega, T7.far (Nat.le_succ _)⟩, k2⟩
  have HT : Hid (_) := TB
  clear qR h6 q0 q1 q2 q3 q4 b5 D5 hU b6 R6 hV T H5 bA bB k1 k2 n2 TB
  have HN1 : Hid (_) := n1
  clear n1
  go_wp2_with fail
  go_loopw [11] (fun c wr => ∃ (k : Nat) (s : Sh), k ≤ fm + 1 ∧ c = .int .i64 ((k : Nat) : Int) ∧ Hid (Twh X wr ⟨d, e', P0, [(w6.heap.size, some (.cells #[.int .u8 4] 5 (0, 0))), (w6.heap.size + 1, some (.cells (unitsC S w6.heap.size) 80 (0, 0)))]⟩ s ∧ Ih P0 s ∧ s.L.length ≤ 2 * k ∧ Gj S k s)) (fun c _ => 6 - (intOf c).toNat)
  case atStart => exact ⟨0, hnew, by omega, rfl, HT.out, Ih.new_ _, Nat.le_refl _, fun _ => rfl, fun e => by omega, fun e => by omega, fun e => by omega, fun e => by omega⟩
  case round =>
    clear HT
    obtain ⟨k, s, hk, rfl, hR⟩ := hrel
    by_cases hc : k ≤ fm
    · have hi1 : (k : Int) ≤ (fm : Int) := by omega
      have hi1' : decide (k ≤ fm) = true := decide_eq_true hc
      have hi2 : (k : Int) < 4 := by omega
      have hi2' : k < 4 := by omega
      obtain ⟨UU, VV, T⟩ := hR.out.1
      have e1 : wr.heap[w6.heap.size]? = some (.cells #[.int .u8 4] 5 (0, 0)) := (T.kp (w6.heap.size, some (.cells #[.int .u8 4] 5 (0, 0))) (by simp)).2
      have e2 : wr.heap[w6.heap.size + 1]? = some (.cells (unitsC S w6.heap.size) 80 (0, 0)) := (T.kp (w6.heap.size + 1, some (.cells (unitsC S w6.heap.size) 80 (0, 0))) (by simp)).2
      obtain ⟨K, N, ua, ul, uc, ub, c0, c1, c2, c3, c4, c5, c6, HU⟩ := unit_at S w6.heap.size (w6.heap.size + 1) k wr (by omega) e1 e2
      have hKk := HU.out.2.2.2.1
      have qS := kstep_recv X wr ⟨d, e', P0, [(w6.heap.size, some (.cells #[.int .u8 4] 5 (0, 0))), (w6.heap.size + 1, some (.cells (unitsC S w6.heap.size) 80 (0, 0)))]⟩ s K N 0 false ua ul uc ub 0 0 hR.out.1 HU.out.1 HU.out.2.1 (by omega) (by omega) HU.out.2.2.1 hR.out.2.1 (by have := hR.out.2.2.1; omega)
      clear T e1 e2 hKk
      have HKF : Hid (_) := hc
      clear hc
      go_wp2_with fail
      refine qS.mono ?_
      rintro e wn ⟨rfl, hn⟩
      clear qS c0 c1 c2 c3 c4 c5 c6
      go_wp2_with fail
      go_roundw
      case rel =>
        obtain ⟨f, fb, fo, T8⟩ := hn.out
        have hc := HKF.out
        exact ⟨k + 1, _, by omega, by go_num, T8, hR.out.2.1.recv P0_ok f.1 f.2 fb, by have := hrecv_len P0 s f.1 f.2; have := hR.out.2.2.1; omega, Gj.next HS.out.1 HS.out.2 hR.out.2.2.2 (by omega) HU.out.2.2.2.1 HU.out.2.2.2.2.1 HU.out.2.2.2.2.2 fo⟩
      case measure => have := HKF.out; simp [intOf] <;> omega
    · have hi1 : ¬ (k : Int) ≤ (fm : Int) := by omega
      have hi1' : ¬ k ≤ fm := hc
      obtain ⟨st, nm, hG, hst⟩ := hR.out.2.2.2.some (by omega)
      obtain ⟨UU, VV, T⟩ := hR.out.1
      have qS := hseeS_any d P0 UU s wr T.dv
      rw [hG.st] at qS
      have HR : Hid (_) := And.intro T (And.intro hR.out.2.1 (And.intro (by have := hR.out.2.2.1; omega : s.L.length ≤ 10) (And.intro hG hst)))
      clear T hG hR hc
      go_wp2_with fail
      refine qS.mono ?_
      rintro e v1 ⟨wa, wcp, rfl, h1⟩
      clear qS
      have bA : Below v1.heap.size v1 (v1.alloc (.cells #[.int .i64 (st : Nat), .int .u32 (s.ss : Nat), .int .u32 (s.nm : Nat), .int .u32 (s.sn : Nat), .int .i64 (s.dc : Nat), .int .i64 s.v.lat, .bool (vreq s.v), .bool (von s.v), .slice wa P0.i wcp] 57)) := (Below.refl _ _).alloc (Nat.le_refl _) _
      have nA : (v1.alloc (.cells #[.int .i64 (st : Nat), .int .u32 (s.ss : Nat), .int .u32 (s.nm : Nat), .int .u32 (s.sn : Nat), .int .i64 (s.dc : Nat), .int .i64 s.v.lat, .bool (vreq s.v), .bool (von s.v), .slice wa P0.i wcp] 57)).heap.size = v1.heap.size + 1 := by simp
      have s1 := h1.out.2.2.size
      have TA : Twh X (v1.alloc (.cells #[.int .i64 (st : Nat), .int .u32 (s.ss : Nat), .int .u32 (s.nm : Nat), .int .u32 (s.sn : Nat), .int .i64 (s.dc : Nat), .int .i64 s.v.lat, .bool (vreq s.v), .bool (von s.v), .slice wa P0.i wcp] 57)) ⟨d, e', P0, [(v1.heap.size, some (.cells #[.int .i64 (st : Nat), .int .u32 (s.ss : Nat), .int .u32 (s.nm : Nat), .int .u32 (s.sn : Nat), .int .i64 (s.dc : Nat), .int .i64 s.v.lat, .bool (vreq s.v), .bool (von s.v), .slice wa P0.i wcp] 57 (0, 0)))]⟩ s := ⟨UU, VV, ((HR.out.1.below h1.out.2.2).below bA).tell _ (fun x hx => by
        simp only [List.mem_cons, List.not_mem_nil, or_false] at hx
        subst hx
        exact ⟨⟨by show v1.heap.size < _; omega, HR.out.1.far (by show wr.heap.size ≤ v1.heap.size; omega)⟩, heap_alloc_new v1 _⟩)⟩
      have HT : Hid (_) := TA
      clear bA nA s1 TA h1
      go_wp2_with fail
      go_loopw [13, 14, 15] (fun c _ _ wr => ∃ (q : Nat) (t : Sh), q ≤ 4 ∧ c = .int .i64 ((q : Nat) : Int) ∧ Hid (Twh X wr ⟨d, e', P0, [(v1.heap.size, some (.cells #[.int .i64 (st : Nat), .int .u32 (s.ss : Nat), .int .u32 (s.nm : Nat), .int .u32 (s.sn : Nat), .int .i64 (s.dc : Nat), .int .i64 s.v.lat, .bool (vreq s.v), .bool (von s.v), .slice wa P0.i wcp] 57 (0, 0)))]⟩ t ∧ Ih P0 t ∧ t.L.length ≤ 10 + 2 * q ∧ Hs t S st q)) (fun c _ _ _ => 6 - (intOf c).toNat)
      case atStart => exact ⟨0, s, by omega, rfl, HT.out, HR.out.2.1, by have := HR.out.2.2.1; omega, HR.out.2.2.2.1.hs⟩
      case round =>
        clear HT
        obtain ⟨q, t, hq, rfl, hQ⟩ := hrel
        by_cases hc : q < 4
        · have hi3 : (q : Int) < 4 := by omega
          have qA := ksend_any X wr ⟨d, e', P0, [(v1.heap.size, some (.cells #[.int .i64 (st : Nat), .int .u32 (s.ss : Nat), .int .u32 (s.nm : Nat), .int .u32 (s.sn : Nat), .int .i64 (s.dc : Nat), .int .i64 s.v.lat, .bool (vreq s.v), .bool (von s.v), .slice wa P0.i wcp] 57 (0, 0)))]⟩ t hQ.out.1 hQ.out.2.1 (by have := hQ.out.2.2.1; omega)
          obtain ⟨hE0, hs1⟩ := hs_step HR.out.2.2.2.2 hQ.out.2.2.2 hc
          rw [hE0] at qA
          have HQ : Hid (_) := And.intro hQ.out.2.2.1 (And.intro hs1 (And.intro hE0 hc))
          clear hQ hs1 hE0 hc
          go_wp2_with fail
          refine qA.mono ?_
          rintro e x1 ⟨ax, cx, rfl, g1⟩
          clear qA
          obtain ⟨qB, I1, M1⟩ := g1.out
          unfold Snt at qB
          have H1 : Hid (_) := And.intro I1 M1
          clear g1 I1 M1
          go_wp2_with fail
          refine qB.mono ?_
          rintro e x2 ⟨vy, rfl, g2⟩
          clear qB
          obtain ⟨T2, _⟩ := g2.out
          obtain ⟨U2, V2, B2⟩ := id T2
          have T2d : Twh X x2.drew ⟨d, e', P0, [(v1.heap.size, some (.cells #[.int .i64 (st : Nat), .int .u32 (s.ss : Nat), .int .u32 (s.nm : Nat), .int .u32 (s.sn : Nat), .int .i64 (s.dc : Nat), .int .i64 s.v.lat, .bool (vreq s.v), .bool (von s.v), .slice wa P0.i wcp] 57 (0, 0)))]⟩ (hsendS P0 t) := T2.below (Below.drew (Below.refl _ _))
          have hcell : ∀ wx : World, wx.heap[v1.heap.size]? = some (.cells #[.int .i64 (st : Nat), .int .u32 (s.ss : Nat), .int .u32 (s.nm : Nat), .int .u32 (s.sn : Nat), .int .i64 (s.dc : Nat), .int .i64 s.v.lat, .bool (vreq s.v), .bool (von s.v), .slice wa P0.i wcp] 57 (0, 0)) → wx.cell? ⟨v1.heap.size, 0, none⟩ = some (.int .i64 (st : Nat)) := fun wx h => cell_of_row wx _ 0 _ _ _ h
          have HSx : x2.drew.cell? ⟨v1.heap.size, 0, none⟩ = some (.int .i64 (st : Nat)) := hcell _ ((B2.below (Below.drew (Below.refl _ _))).kp (v1.heap.size, some (.cells #[.int .i64 (st : Nat), .int .u32 (s.ss : Nat), .int .u32 (s.nm : Nat), .int .u32 (s.sn : Nat), .int .i64 (s.dc : Nat), .int .i64 s.v.lat, .bool (vreq s.v), .bool (von s.v), .slice wa P0.i wcp] 57 (0, 0))) (by simp)).2
          have qC : Calls Tryz.prog 36 #[.pointer (some ⟨d, 0, none⟩)] x2.drew fun e w' => ∃ a cap, e = .returned (.agg #[.int .i64 (st : Nat), .int .u32 ((hsendS P0 t).ss : Nat), .int .u32 ((hsendS P0 t).nm : Nat), .int .u32 ((hsendS P0 t).sn : Nat), .int .i64 ((hsendS P0 t).dc : Nat), .int .i64 (hsendS P0 t).v.lat, .bool (vreq (hsendS P0 t).v), .bool (von (hsendS P0 t).v), .slice a P0.i cap]) ∧ Hid (Twh X w' ⟨d, e', P0, [(v1.heap.size, some (.cells #[.int .i64 (st : Nat), .int .u32 (s.ss : Nat), .int .u32 (s.nm : Nat), .int .u32 (s.sn : Nat), .int .i64 (s.dc : Nat), .int .i64 s.v.lat, .bool (vreq s.v), .bool (von s.v), .slice wa P0.i wcp] 57 (0, 0)))]⟩ (hsendS P0 t) ∧ w'.cell? ⟨v1.heap.size, 0, none⟩ = some (.int .i64 (st : Nat))) := by
            obtain ⟨U4, V4, T4⟩ := id T2d
            have h := hseeS_any d P0 U4 _ _ T4.dv
            rw [show (hsendS P0 t).st = st from HQ.out.2.1.st] at h
            refine h.mono ?_
            rintro e w' ⟨a, cap, rfl, h⟩
            exact ⟨a, cap, rfl, T2d.below h.out.2.2, hcell _ ((T4.below h.out.2.2).kp (v1.heap.size, some (.cells #[.int .i64 (st : Nat), .int .u32 (s.ss : Nat), .int .u32 (s.nm : Nat), .int .u32 (s.sn : Nat), .int .i64 (s.dc : Nat), .int .i64 s.v.lat, .bool (vreq s.v), .bool (von s.v), .slice wa P0.i wcp] 57 (0, 0))) (by simp)).2⟩
          clear g2 T2 B2 T2d hcell
          have hf0 : ∀ (s' n' sn' dc' lat' : Int) (b1 b2 : Bool) (xa : Option Addr) (xc : Nat) (wx : World), (Instr.field 57 (.agg #[.int .i64 (st : Nat), .int .u32 s', .int .u32 n', .int .u32 sn', .int .i64 dc', .int .i64 lat', .bool b1, .bool b2, .slice xa P0.i xc]) 0).run Tryz.prog wx = .ok (.int .i64 (st : Nat)) wx := fun _ _ _ _ _ _ _ _ _ _ => by kernel_rfl
          go_wp2_with fail
          go_region_held3 (fun w' => w'.cell? ⟨v1.heap.size, 0, none⟩ = some (.int .i64 (st : Nat))) (assumption) (first
            | (go_at_call 36; refine qC.mono ?_; rintro e x3 ⟨na, nc, rfl, g3⟩; have HSy : x3.cell? ⟨v1.heap.size, 0, none⟩ = some (.int .i64 (st : Nat)) := g3.out.2))
          all_goals
            go_wp2_with fail
            go_roundw
            case rel => exact ⟨q + 1, hsendS P0 t, by have := HQ.out.2.2.2; omega, by go_num, g3.out.1, H1.out.1, by have h : (hsendS P0 t).L.length ≤ t.L.length + 2 := H1.out.2; have := HQ.out.1; omega, HQ.out.2.1⟩
            case measure => have := HQ.out.2.2.2; simp [intOf] <;> omega
        · have hi3 : ¬ (q : Int) < 4 := by omega
          have hq4 : q = 4 := by omega
          have qA := ksend_any X wr ⟨d, e', P0, [(v1.heap.size, some (.cells #[.int .i64 (st : Nat), .int .u32 (s.ss : Nat), .int .u32 (s.nm : Nat), .int .u32 (s.sn : Nat), .int .i64 (s.dc : Nat), .int .i64 s.v.lat, .bool (vreq s.v), .bool (von s.v), .slice wa P0.i wcp] 57 (0, 0)))]⟩ t hQ.out.1 hQ.out.2.1 (by have := hQ.out.2.2.1; omega)
          obtain ⟨hE0, hT1, hst1, hss1, hon1, hlat1⟩ := hs_end HR.out.2.2.2.2 (hq4 ▸ hQ.out.2.2.2)
          rw [hE0] at qA
          have HQ : Hid (_) := And.intro hQ.out.2.2.1 (And.intro hE0 (And.intro hT1 (And.intro hst1 (And.intro hss1 (And.intro hon1 (And.intro hlat1 hq))))))
          clear hQ hT1 hst1 hss1 hon1 hlat1 hE0 hc hq4 hq
          go_wp2_with fail
          refine qA.mono ?_
          rintro e x1 ⟨ax, cx, rfl, g1⟩
          clear qA
          obtain ⟨qB, I1, M1⟩ := g1.out
          unfold Snt at qB
          have H1 : Hid (_) := And.intro I1 M1
          clear g1 I1 M1
          go_wp2_with fail
          refine qB.mono ?_
          rintro e x2 ⟨vy, rfl, g2⟩
          clear qB
          obtain ⟨T2, r2⟩ := g2.out
          obtain ⟨U2, V2, B2⟩ := id T2
          obtain ⟨hLq, hE0, hT1, hst1, hss1, hon1, hlat1, hq⟩ := HQ.out
          have r2 : Row8 x2 ax (hsendF P0 t).1 cx (hsendF P0 t).2 := r2
          have hI2 : Ih P0 (hsendS P0 t) := H1.out.1
          have hL2 : (hsendS P0 t).L.length ≤ 30 := by have h : (hsendS P0 t).L.length ≤ t.L.length + 2 := H1.out.2; omega
          obtain ⟨kk, hkk, hT2⟩ : ∃ k, k = 1 ∧ Told (hsendF P0 t) k P0.c 0 0 0 4 (dsg P0) := ⟨1, rfl, hT1⟩
          have qD := refDec_ok ax (hsendF P0 t).1 cx (hsendF P0 t).2 x2 r2 hT2.de
          rw [hT2.k, hT2.c, hT2.s, hT2.n, hT2.f, hT2.ln] at qD
          have k1 : ((kk : Int) != 1) = false := by rw [hkk]; rfl
          have B2 : Bth X x2 ⟨d, e', P0, [(v1.heap.size, some (.cells #[.int .i64 (st : Nat), .int .u32 (s.ss : Nat), .int .u32 (s.nm : Nat), .int .u32 (s.sn : Nat), .int .i64 (s.dc : Nat), .int .i64 s.v.lat, .bool (vreq s.v), .bool (von s.v), .slice wa P0.i wcp] 57 (0, 0)))]⟩ (hsendS P0 t) (hsendS P0 t) [] U2 V2 := B2
          have H4 : Hid (_) := And.intro B2 (And.intro hI2 (And.intro hL2 (And.intro hst1 (And.intro hss1 (And.intro hon1 hlat1)))))
          clear g2 T2 r2 B2 hLq hE0 hT1 hT2 hst1 hss1 hon1 hlat1 hq hI2 hL2 hkk H1 HQ
          go_wp2_with fail
          refine qD.mono ?_
          rintro e x3 ⟨a3, c3, rfl, g3⟩
          have qS : ∀ ob : Obj, Calls Tryz.prog 36 #[.pointer (some ⟨d, 0, none⟩)] (x3.alloc ob) fun e w' => ∃ a cap, e = .returned (.agg #[.int .i64 1, .int .u32 (S : Nat), .int .u32 ((hsendS P0 t).nm : Nat), .int .u32 ((hsendS P0 t).sn : Nat), .int .i64 ((hsendS P0 t).dc : Nat), .int .i64 (hsendS P0 t).v.lat, .bool (vreq (hsendS P0 t).v), .bool false, .slice a P0.i cap]) ∧ Hid (Bth X w' ⟨d, e', P0, [(v1.heap.size, some (.cells #[.int .i64 (st : Nat), .int .u32 (s.ss : Nat), .int .u32 (s.nm : Nat), .int .u32 (s.sn : Nat), .int .i64 (s.dc : Nat), .int .i64 s.v.lat, .bool (vreq s.v), .bool (von s.v), .slice wa P0.i wcp] 57 (0, 0)))]⟩ (hsendS P0 t) (hsendS P0 t) [] U2 V2 ∧ w'.heap[x3.heap.size]? = some ob ∧ x3.heap.size < w'.heap.size) := fun ob => by
            have bm := g3.out.2
            have bA : Below x3.heap.size x3 (x3.alloc ob) := (Below.refl _ _).alloc (Nat.le_refl _) _
            have T4 := (H4.out.1.below bm).below bA
            have h := hseeS_any d P0 U2 _ _ T4.dv
            rw [H4.out.2.2.2.1, H4.out.2.2.2.2.1, H4.out.2.2.2.2.2.1] at h
            refine h.mono ?_
            rintro e w' ⟨a, cap, rfl, h⟩
            have lt : x3.heap.size < (x3.alloc ob).heap.size := by rw [World.size_alloc]; omega
            exact ⟨a, cap, rfl, T4.below h.out.2.2, (h.out.2.2.block _ lt).trans (heap_alloc_new x3 _), Nat.lt_of_lt_of_le lt h.out.2.2.size⟩
          clear qD g3
          go_wp2_with fail
          refine (qS _).mono ?_
          rintro e x4 ⟨na, nc, rfl, g4⟩
          clear qS
          have Z0 : ∀ ob, (x4.alloc ob).cell? ⟨x3.heap.size, 0, none⟩ = some (.int .i64 (kk : Nat)) := fun ob => (((Below.refl x4.heap.size x4).alloc (Nat.le_refl _) ob).cell (p := ⟨x3.heap.size, 0, none⟩) g4.out.2.2).trans (cell_of_row x4 x3.heap.size 0 _ _ _ g4.out.2.1)
          have B5 : Hid (∀ ob, Bth X (x4.alloc ob) ⟨d, e', P0, [(v1.heap.size, some (.cells #[.int .i64 (st : Nat), .int .u32 (s.ss : Nat), .int .u32 (s.nm : Nat), .int .u32 (s.sn : Nat), .int .i64 (s.dc : Nat), .int .i64 s.v.lat, .bool (vreq s.v), .bool (von s.v), .slice wa P0.i wcp] 57 (0, 0)))]⟩ (hsendS P0 t) (hsendS P0 t) [] U2 V2) := fun ob => g4.out.1.below ((Below.refl _ _).alloc (Nat.le_refl _) _)
          have W0 : ∀ ob, (x4.alloc ob).cell? ⟨v1.heap.size, 0, none⟩ = some (.int .i64 (st : Nat)) := fun ob => cell_of_row _ _ 0 _ _ _ ((B5.out ob).kp (v1.heap.size, some (.cells #[.int .i64 (st : Nat), .int .u32 (s.ss : Nat), .int .u32 (s.nm : Nat), .int .u32 (s.sn : Nat), .int .i64 (s.dc : Nat), .int .i64 s.v.lat, .bool (vreq s.v), .bool (von s.v), .slice wa P0.i wcp] 57 (0, 0))) (by simp)).2
          have qF : ∀ ob : Obj, Calls Tryz.prog 37 #[.pointer (some ⟨e', 0, none⟩), .agg #[.int .i64 1, .int .i64 0, .int .i64 0, .bool false, .slice none 0 0, .int .i64 0, .int .u32 0]] (x4.alloc ob) fun e w' => ∃ av f cv, e = .returned (.tuple #[.slice av f cv, .bool true]) ∧ Hid (Bth X w' ⟨d, e', P0, [(v1.heap.size, some (.cells #[.int .i64 (st : Nat), .int .u32 (s.ss : Nat), .int .u32 (s.nm : Nat), .int .u32 (s.sn : Nat), .int .i64 (s.dc : Nat), .int .i64 s.v.lat, .bool (vreq s.v), .bool (von s.v), .slice wa P0.i wcp] 57 (0, 0)))]⟩ (hsendS P0 t) (hsendS P0 t) [] U2 V2 ∧ ∃ F : Fm, F.1 = f ∧ Row8 w' av f cv F.2 ∧ (∀ y, av = some y → y.block < w'.heap.size ∧ y.block ∉ U2 ∧ y.block ∉ V2) ∧ hrecvE P0 (hsendS P0 t) F.1 F.2 = 130 ∧ hrecvS P0 (hsendS P0 t) F.1 F.2 = hnote (hsendS P0 t) 130) := fun ob => by
            refine (hframe_op e' P0 V2 (hsendS P0 t) 1 0 0 false none 0 0 (fun _ => 0) 0 0 (x4.alloc ob) (B5.out ob).rw (row_nilX _ _) (fun y hy => by cases hy) H4.out.2.1.ss (by omega) (by omega) (by omega)).mono ?_
            rintro e w' ⟨v, rfl, h2⟩
            obtain ⟨b2, f, F2, y2, l2, fo⟩ := h2.out
            obtain ⟨av, cv, rfl, rv⟩ := F2.row y2
            obtain ⟨r1, r2⟩ := hs_same HS.out.1 HS.out.2 H4.out.2.2.2.1 H4.out.2.2.2.2.1 (fo.1 rfl)
            have far : ∀ y, av = some y → y.block < w'.heap.size ∧ y.block ∉ U2 ∧ y.block ∉ V2 := fun y hy => ⟨(own_far F2 y hy).2, (B5.out ob).far (own_far F2 y hy).1⟩
            exact ⟨av, f.1, cv, rfl, (B5.out ob).below b2, f, rfl, rv, far, r1, r2⟩
          have qG : ∀ wz : World, Bth X wz ⟨d, e', P0, [(v1.heap.size, some (.cells #[.int .i64 (st : Nat), .int .u32 (s.ss : Nat), .int .u32 (s.nm : Nat), .int .u32 (s.sn : Nat), .int .i64 (s.dc : Nat), .int .i64 s.v.lat, .bool (vreq s.v), .bool (von s.v), .slice wa P0.i wcp] 57 (0, 0)))]⟩ (hsendS P0 t) (hsendS P0 t) [] U2 V2 → Calls Tryz.prog 37 #[.pointer (some ⟨e', 0, none⟩), .agg #[.int .i64 1, .int .i64 1, .int .i64 0, .bool false, .slice none 0 0, .int .i64 0, .int .u32 0]] wz fun e w' => ∃ av f cv, e = .returned (.tuple #[.slice av f cv, .bool true]) ∧ Hid (Bth X w' ⟨d, e', P0, [(v1.heap.size, some (.cells #[.int .i64 (st : Nat), .int .u32 (s.ss : Nat), .int .u32 (s.nm : Nat), .int .u32 (s.sn : Nat), .int .i64 (s.dc : Nat), .int .i64 s.v.lat, .bool (vreq s.v), .bool (von s.v), .slice wa P0.i wcp] 57 (0, 0)))]⟩ (hsendS P0 t) (hsendS P0 t) [] U2 V2 ∧ Below wz.heap.size wz w' ∧ ∃ F : Fm, F.1 = f ∧ Row8 w' av f cv F.2 ∧ (∀ y, av = some y → y.block < w'.heap.size ∧ y.block ∉ U2 ∧ y.block ∉ V2) ∧ hrecvE P0 (hnote (hsendS P0 t) 130) F.1 F.2 = 0 ∧ (hrecvS P0 (hnote (hsendS P0 t) 130) F.1 F.2).ss = S + 1) := fun wz hz => by
            refine (hframe_op e' P0 V2 (hsendS P0 t) 1 1 0 false none 0 0 (fun _ => 0) 0 0 wz hz.rw (row_nilX _ _) (fun y hy => by cases hy) H4.out.2.1.ss (by omega) (by omega) (by omega)).mono ?_
            rintro e w' ⟨v, rfl, h2⟩
            obtain ⟨b2, f, F2, y2, l2, fo⟩ := h2.out
            obtain ⟨av, cv, rfl, rv⟩ := F2.row y2
            obtain ⟨r1, r2⟩ := hs_above (s := hnote (hsendS P0 t) 130) HS.out.1 HS.out.2 H4.out.2.2.2.1 H4.out.2.2.2.2.1 H4.out.2.2.2.2.1 (fo.1 rfl)
            have far : ∀ y, av = some y → y.block < w'.heap.size ∧ y.block ∉ U2 ∧ y.block ∉ V2 := fun y hy => ⟨(own_far F2 y hy).2, hz.far (own_far F2 y hy).1⟩
            exact ⟨av, f.1, cv, rfl, hz.below b2, b2, f, rfl, rv, far, r1, r2⟩
          have hL : ((hsendS P0 t).v.lat = 131 ∧ ((st : Int) == 4) = true) ∨ ((hsendS P0 t).v.lat = 0 ∧ ((st : Int) == 4) = false) := by
            have h := H4.out.2.2.2.2.2.2
            by_cases h4 : st = 4
            · rw [if_pos h4] at h; exact .inl ⟨h, by rw [h4]; rfl⟩
            · rw [if_neg h4] at h; exact .inr ⟨h, by simp; omega⟩
          have e1 : IntKind.u32.wrap ((S : Int) + 1) = (S : Int) + 1 := by have := HS.out.2; rw [IntKind.wrap_u32]; omega
          have e2 : ((S : Int) + 1) % 4294967296 = (S : Int) + 1 := by have := HS.out.2; omega
          have HL2 : Hid (_) := H4.out.2.2.1
          have HF1 : Hid (_) := H2.out.1
          clear g4 H4 H2 HS
          rcases hL with ⟨lt, s4⟩ | ⟨lt, s4⟩
          all_goals
            rw [lt]
            go_wp2_with fail
            refine (qF _).mono ?_
            rintro e x5 ⟨av, fl, cv, rfl, g5⟩
            clear qF Z0 W0 B5
            obtain ⟨B6, F1, hF1', R1, far1, E1, S1⟩ := g5.out
            have qG1 := qG x5 B6
            have H5 : Hid (_) := And.intro R1 (And.intro far1 (And.intro hF1' (And.intro E1 S1)))
            clear qG g5 B6 R1 far1 hF1' E1 S1
            go_wp2_with fail
            refine qG1.mono ?_
            rintro e x6 ⟨aw, fw, cw, rfl, g6⟩
            clear qG1
            obtain ⟨B7, b7, F2, hF2', R2, far2, E2, S2⟩ := g6.out
            obtain ⟨R1, far1, hF1', E1, S1⟩ := H5.out
            subst hF1' hF2'
            have qR1 := hreceive_any d P0 U2 (hsendS P0 t) av F1.1 cv F1.2 x6 B7.dv (R1.below b7) (by have := HL2.out; omega)
            rw [E1, S1] at qR1
            have H6 : Hid (_) := And.intro B7 (And.intro R2 (And.intro far2 (And.intro E2 S2)))
            clear g6 B7 b7 R2 far2 E2 S2 R1 far1 E1 S1 H5
            go_wp2_with fail
            refine qR1.mono ?_
            rintro e x7 ⟨rfl, g7⟩
            clear qR1
            obtain ⟨U7, gr7, D7⟩ := g7.out
            obtain ⟨B7, R2, far2, E2, S2⟩ := H6.out
            have qR2 := hreceive_any d P0 U7 (hnote (hsendS P0 t) 130) aw F2.1 cw F2.2 x7 D7 (R2.blkH (fun y hy => gr7.off.block y.block (far2 y hy).1 (far2 y hy).2.1)) (by have := HL2.out; have : (hnote (hsendS P0 t) 130).L.length = (hsendS P0 t).L.length + 1 := (by simp [hnote]); omega)
            rw [E2] at qR2
            have H7 : Hid (_) := And.intro (gr7.off.below B7.bel (fun k hk => (B7.uv k hk).1) B7.bel.size) (And.intro (fun k hk => (gr7.new k hk).elim (fun h => (B7.uv k h).1) (fun h => Nat.le_trans B7.bel.size h) : ∀ k, k ∈ U7 → X.heap.size ≤ k) S2)
            clear g7 gr7 D7 B7 R2 far2 E2 S2 H6
            go_wp2_with fail
            refine qR2.mono ?_
            rintro e x8 ⟨rfl, g8⟩
            clear qR2
            obtain ⟨U8, gr8, D8⟩ := g8.out
            obtain ⟨b7, u7, S2⟩ := H7.out
            have b8 := gr8.off.below b7 u7 b7.size
            have qS8 := hseeS_any d P0 U8 _ x8 D8
            rw [S2] at qS8
            generalize hrecvS P0 (hnote (hsendS P0 t) 130) F2.1 F2.2 = s8 at *
            have H8 : Hid (_) := b8
            clear g8 gr8 D8 b7 u7 S2 b8 H7
            go_wp2_with fail
            refine qS8.mono ?_
            rintro e x9 ⟨ya, yc, rfl, g9⟩
            clear qS8
            have hf1 : ∀ (z : Int) wx, (Instr.field 57 (.agg #[.int .i64 (s8.st : Nat), .int .u32 z, .int .u32 (s8.nm : Nat), .int .u32 (s8.sn : Nat), .int .i64 (s8.dc : Nat), .int .i64 s8.v.lat, .bool (vreq s8.v), .bool (von s8.v), .slice ya P0.i yc]) 1).run Tryz.prog wx = .ok (.int .u32 z) wx := fun z wx => by kernel_rfl
            have e3 : ((S + 1 : Nat) : Int) = (S : Int) + 1 := by simp
            have H9 : Hid (_) := HF1.out.trans ((H8.out.trans (g9.out.2.2.mono H8.out.size)).mono HF1.out.size)
            clear g9 H8
            go_wp2_with fail
            go_ret
            exact ⟨by simp, H9.out⟩
theorem hostGivesUp_walk (a0 a1 : Int) (w0 : (Lit.int .u32 a0).wf = true) (_w1 : (Lit.int .i64 a1).wf = true) (w : World) :
    Calls Tryz.prog 10 #[.int .u32 a0, .int .i64 a1] w fun e w' => e = .returned (.bool true) ∧ Below w.heap.size w w' := by
  obtain ⟨S, rfl, hS⟩ := nat_u32H w0
  by_cases h0 : S = 0 ∨ 2147483648 < S
  · clear _w1 w0
    have h1 : ((S : Int) == 0) = true ∨ ((S : Int) == 0) = false ∧ (2147483648 : Int) < (S : Int) ∧ 2147483648 < S := by
      by_cases h : S = 0
      · left; rw [h]; rfl
      · right; exact ⟨by simp; omega, by omega, by omega⟩
    clear h0
    rcases h1 with e0 | ⟨e0, e1, e2⟩
    all_goals
      go_enter Tryz.func10, Tryz.ntmps10
      go_wp2_with fail
      refine (awake14 _).mono ?_
      rintro e w1 ⟨rfl, b1⟩
      go_wp2_with fail
      go_ret
      exact ⟨rfl, b1⟩
  · exact hgivesup_go S a1 w (by omega) (by omega)
end Go.Proofs.YtndjepeolamedaaGreat
