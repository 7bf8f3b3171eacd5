/- The document's cell of layer 8: the six writes. -/
import Derived.Test.YtmleiemlfogffaaGreatCelr
import Derived.Deep.RegionHeld3
namespace Go.Proofs.YtmleiemlfogffaaGreat
set_option maxRecDepth 100000
open Go.RowKit

/-- Place and byte of write i. -/
def ofs (i : Nat) : Nat := [0, 1, 2, 3, 4, 0].getD i 0
def byt (v i : Nat) : Nat := [0, bt v 0, bt v 1, bt v 2, bt v 3, 165].getD i 0
theorem six_at (k v i : Nat) (hi : i < 6) : (six k v).drop i = (5 * k + ofs i, byt v i) :: (six k v).drop (i + 1) := by
  have : i = 0 ∨ i = 1 ∨ i = 2 ∨ i = 3 ∨ i = 4 ∨ i = 5 := by omega
  rcases this with rfl | rfl | rfl | rfl | rfl | rfl <;> rfl
theorem ofs_lt (i : Nat) (hi : i < 6) : ofs i < 5 := by
  have : i = 0 ∨ i = 1 ∨ i = 2 ∨ i = 3 ∨ i = 4 ∨ i = 5 := by omega
  rcases this with rfl | rfl | rfl | rfl | rfl | rfl <;> decide
theorem byt_lt (v i : Nat) (hi : i < 6) : byt v i < 256 := by
  have h := bt_lt v
  have : i = 0 ∨ i = 1 ∨ i = 2 ∨ i = 3 ∨ i = 4 ∨ i = 5 := by omega
  rcases this with rfl | rfl | rfl | rfl | rfl | rfl
  · show 0 < 256; omega
  · exact h 0
  · exact h 1
  · exact h 2
  · exact h 3
  · show 165 < 256; omega
theorem wr64 (n : Nat) (h : n < 9223372036854775808) : IntKind.i64.wrap (n : Int) = (n : Int) := by
  rw [IntKind.wrap_i64]
  omega
theorem wr_five (k x : Nat) (hk : k < 2) (hx : x < 5) : IntKind.i64.wrap (IntKind.i64.wrap (5 * (k : Int)) + (x : Int)) = ((5 * k + x : Nat) : Int) := by
  rw [show 5 * (k : Int) = ((5 * k : Nat) : Int) by omega, wr64 _ (by omega), show ((5 * k : Nat) : Int) + (x : Int) = ((5 * k + x : Nat) : Int) by omega, wr64 _ (by omega)]
def A6 : Array Value := #[.int .i64 0, .int .i64 1, .int .i64 2, .int .i64 3, .int .i64 4, .int .i64 0]
def B6 (v : Nat) : Array Value := #[.int .u8 0, .int .u8 (bt v 0 : Nat), .int .u8 (bt v 1 : Nat), .int .u8 (bt v 2 : Nat), .int .u8 (bt v 3 : Nat), .int .u8 165]
structure S6 (w : World) (A B v : Nat) : Prop where
  a : w.heap[A]? = some (.cells A6 3 (0, 0))
  b : w.heap[B]? = some (.cells (B6 v) 5 (0, 0))
theorem S6.off {l : List Nat} {w w' : World} {A B v : Nat} (h : S6 w A B v) (q : Off l w w') (hA : A ∉ l) (hB : B ∉ l) : S6 w' A B v :=
  ⟨(q.block A (Array.getElem?_eq_some_iff.1 h.a).1 hA).trans h.a, (q.block B (Array.getElem?_eq_some_iff.1 h.b).1 hB).trans h.b⟩
theorem S6.cells {w : World} {A B v : Nat} (h : S6 w A B v) (i : Nat) (hi : i < 6) : w.cell? ⟨A, i, none⟩ = some (.int .i64 (ofs i : Nat)) ∧ w.cell? ⟨B, i, none⟩ = some (.int .u8 (byt v i : Nat)) := by
  refine ⟨(cell_of_row w A i _ _ _ h.a).trans ?_, (cell_of_row w B i _ _ _ h.b).trans ?_⟩
  · have : i = 0 ∨ i = 1 ∨ i = 2 ∨ i = 3 ∨ i = 4 ∨ i = 5 := by omega
    rcases this with rfl | rfl | rfl | rfl | rfl | rfl <;> rfl
  · have : i = 0 ∨ i = 1 ∨ i = 2 ∨ i = 3 ∨ i = 4 ∨ i = 5 := by omega
    rcases this with rfl | rfl | rfl | rfl | rfl | rfl <;> rfl
theorem S6.new (w : World) (v : Nat) : S6 ((w.alloc (.cells A6 3)).alloc (.cells (B6 v) 5)) w.heap.size (w.heap.size + 1) v := by
  have e : (w.alloc (.cells A6 3)).heap.size = w.heap.size + 1 := by
    show (w.heap.push _).size = _
    rw [Array.size_push]
  refine ⟨(heap_alloc_old _ _ (by omega)).trans (heap_alloc_new w _), ?_⟩
  have h := heap_alloc_new (w.alloc (.cells A6 3)) (.cells (B6 v) 5)
  rwa [e] at h
set_option maxRecDepth 100000 in
set_option maxHeartbeats 2000000 in
theorem rsix_any (m g n : Nat) (s : Ms) (k v : Nat) (w : World) (hM : RR w m g n s) (hk : k < 2) (_hv : v < 4294967296) (ht : s.t < 9223372036854775000) :
    Calls Tryz.prog 81 #[.pointer (some ⟨m, 0, none⟩), .int .i64 (k : Nat), .int .u32 (v : Nat)] w fun e w' => e = .returned (.int .i64 (sqE n (six k v) s)) ∧ (Off [m, g] w w' ∧ RR w' m g n (sqS n (six k v) s)) := by
  obtain ⟨E, hE⟩ : ∃ E, sqE n ((six k v).drop 0) s = E := ⟨_, rfl⟩
  obtain ⟨S, hS⟩ : ∃ S, sqS n ((six k v).drop 0) s = S := ⟨_, rfl⟩
  rw [show sqE n (six k v) s = E from hE, show sqS n (six k v) s = S from hS]
  have lm := hM.lt
  have lg := hM.lg
  have x0 : (v : Int) / 16777216 = ((bt v 0 : Nat) : Int) := by
    have e : bt v 0 = v / 16777216 % 256 := rfl
    omega
  have x1 : (v : Int) / 65536 % 256 = ((bt v 1 : Nat) : Int) := by simp [bt]
  have x2 : (v : Int) / 256 % 256 = ((bt v 2 : Nat) : Int) := by simp [bt]
  have x3 : (v : Int) % 256 = ((bt v 3 : Nat) : Int) := by simp [bt]
  go_enter Tryz.func81, Tryz.ntmps81
  go_wp2_with fail
  have hA : Off [m, g] w ((w.alloc (.cells A6 3)).alloc (.cells (B6 v) 5)) := (Off.alloc _ _ _).trans (Off.alloc _ _ _)
  have hS6 := S6.new w v
  have hM2 := hM.off ((Off.alloc [] w (.cells A6 3)).trans (Off.alloc [] (w.alloc (.cells A6 3)) (.cells (B6 v) 5))) (by simp) (by simp)
  obtain ⟨wa, hwa⟩ : ∃ wa, ((w.alloc (.cells A6 3)).alloc (.cells (B6 v) 5)) = wa := ⟨_, rfl⟩
  rw [hwa] at hA hS6 hM2
  change Code.wp _ _ _ _ ((w.alloc (.cells A6 3)).alloc (.cells (B6 v) 5))
  rw [hwa]
  clear hwa hM x0 x1 x2 x3
  have hAm : w.heap.size ≠ m ∧ w.heap.size ≠ g ∧ w.heap.size + 1 ≠ m ∧ w.heap.size + 1 ≠ g := by omega
  generalize w.heap.size + 1 = B at *
  generalize w.heap.size = A at *
  go_loopw [6, 9, 10] (fun _ ci _ wr => ∃ (i : Nat) (si : Ms), i ≤ 6 ∧ ci = .int .i64 ((i : Nat) : Int) ∧ sqE n ((six k v).drop i) si = E ∧ sqS n ((six k v).drop i) si = S ∧ si.t ≤ s.t + i ∧ Off [m, g] w wr ∧ RR wr m g n si ∧ S6 wr A B v) (fun _ ci _ _ => 6 - (intOf ci).toNat)
  case atStart => exact ⟨0, s, by omega, rfl, hE, hS, by omega, hA, hM2, hS6⟩
  case round =>
    clear hE hS hA hM2 hS6
    obtain ⟨i, si, hi, rfl, hE, hS, t1, O1, M1, C1⟩ := hrel
    by_cases hlt : i < 6
    · rw [six_at k v i hlt] at hE hS
      have hof := ofs_lt i hlt
      have hby := byt_lt v i hlt
      have M2 := M1.off (Off.drew [] wr) (by simp) (by simp)
      have q := rwrite_any m g n si ((5 * k + ofs i : Nat) : Int) (byt v i) wr.drew M2 hby (by omega)
      have HS := (C1.off (Off.drew [] wr) (by simp) (by simp)).cells i hlt
      have HC : Hid (_) := And.intro O1 C1
      obtain ⟨x, hx⟩ : ∃ x, ofs i = x := ⟨_, rfl⟩
      obtain ⟨y, hy⟩ : ∃ y, byt v i = y := ⟨_, rfl⟩
      rw [hx] at hE hS hof q HS
      rw [hy] at hE hS hby q HS
      have hp := wr_five k x hk (by omega)
      have t2 := wrS_t si n ((5 * k + x : Nat) : Int) y
      have hcase : (wrE si n ((5 * k + x : Nat) : Int) = 0 ∧ sqE n ((six k v).drop (i + 1)) (wrS si n ((5 * k + x : Nat) : Int) y) = E ∧ sqS n ((six k v).drop (i + 1)) (wrS si n ((5 * k + x : Nat) : Int) y) = S) ∨ (¬ wrE si n ((5 * k + x : Nat) : Int) = 0 ∧ wrE si n ((5 * k + x : Nat) : Int) = E ∧ wrS si n ((5 * k + x : Nat) : Int) y = S) := by
        by_cases he : wrE si n ((5 * k + x : Nat) : Int) = 0
        · exact .inl ⟨he, sq_go hE hS he⟩
        · exact .inr ⟨he, sq_stop hE hS he⟩
      obtain ⟨r, hr⟩ : ∃ r, wrE si n ((5 * k + x : Nat) : Int) = r := ⟨_, rfl⟩
      obtain ⟨s2, hs2⟩ : ∃ s2, wrS si n ((5 * k + x : Nat) : Int) y = s2 := ⟨_, rfl⟩
      rw [hr, hs2] at q hcase
      rw [hs2] at t2
      rw [← hp] at q
      have HX : Hid (_) := And.intro hx hy
      clear hx hy M1 M2 O1 C1 hp hr hs2 hE hS
      rcases hcase with ⟨rfl, hE, hS⟩ | ⟨he, rfl, rfl⟩
      · go_wp2_with fail
        go_region_held3 (fun w' => w'.cell? ⟨A, i, none⟩ = some (.int .i64 (x : Nat)) ∧ w'.cell? ⟨B, i, none⟩ = some (.int .u8 (y : Nat))) (assumption) (first
          | (go_at_call 83; refine q.mono ?_; rintro e w2 ⟨rfl, o2, m2⟩; have HT := (HC.out.2.off ((Off.drew [m, g] wr).trans o2) (by simp; omega) (by simp; omega)).cells i hlt; rw [HX.out.1, HX.out.2] at HT; have h1 : Hid (_) := And.intro o2 m2; clear o2 m2))
        clear HT HS q
        go_wp2_with fail
        go_roundw
        case rel => exact ⟨i + 1, s2, by omega, by go_num, hE, hS, by omega, HC.out.1.trans ((Off.drew [m, g] wr).trans h1.out.1), h1.out.2, HC.out.2.off ((Off.drew [m, g] wr).trans h1.out.1) (by simp; omega) (by simp; omega)⟩
        case measure => simp [intOf] <;> omega
      · go_wp2_with fail
        go_region_held3 (fun w' => w'.cell? ⟨A, i, none⟩ = some (.int .i64 (x : Nat)) ∧ w'.cell? ⟨B, i, none⟩ = some (.int .u8 (y : Nat))) (assumption) (first
          | (go_at_call 83; refine q.mono ?_; rintro e w2 ⟨rfl, o2, m2⟩; have HT := (HC.out.2.off ((Off.drew [m, g] wr).trans o2) (by simp; omega) (by simp; omega)).cells i hlt; rw [HX.out.1, HX.out.2] at HT; have h1 : Hid (_) := And.intro o2 m2; clear o2 m2))
        clear HT HS q
        go_wp2_with fail
        go_ret
        exact ⟨rfl, HC.out.1.trans ((Off.drew [m, g] wr).trans h1.out.1), h1.out.2⟩
    · obtain rfl : i = 6 := by omega
      have hE' : (0 : Int) = E := hE
      have hS' : si = S := hS
      subst hE' hS'
      have H : Hid (_) := And.intro O1 M1
      clear O1 M1 C1 hE hS
      go_wp2_with fail
      go_ret
      exact ⟨rfl, H.out⟩

end Go.Proofs.YtmleiemlfogffaaGreat
