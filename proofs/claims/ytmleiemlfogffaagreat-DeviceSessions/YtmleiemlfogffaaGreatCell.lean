/- The cell of layer 8: its block; holds, write. -/
import Derived.Test.YtmleiemlfogffaaGreatCp
namespace Go.Proofs.YtmleiemlfogffaaGreat
set_option maxRecDepth 100000
open Go.RowKit

/-- The block of a cell over the memory m: the slots' markers and words. -/
def CV (m mx : Nat) (mk wd : Nat → Nat) (cut : Bool) : Array Value :=
  #[.pointer (some ⟨m, 0, none⟩), .int .u32 (mx : Nat), .int .u8 (mk 0 : Nat), .int .u8 (mk 1 : Nat), .int .u32 (wd 0 : Nat), .int .u32 (wd 1 : Nat), .bool cut]
structure CX (w : World) (c m mx : Nat) (mk wd : Nat → Nat) (cut : Bool) : Prop where
  at_ : w.heap[c]? = some (.cells (CV m mx mk wd cut) 135 (0, 0))
def upd (f : Nat → Nat) (k x : Nat) : Nat → Nat := fun i => if i = k then x else f i
section
variable {w w' : World} {c m mx : Nat} {mk wd : Nat → Nat} {cut : Bool}
theorem CX.lt (h : CX w c m mx mk wd cut) : c < w.heap.size := (Array.getElem?_eq_some_iff.1 h.at_).1
theorem CX.off {l : List Nat} (h : CX w c m mx mk wd cut) (q : Off l w w') (hc : c ∉ l) : CX w' c m mx mk wd cut := ⟨(q.block c h.lt hc).trans h.at_⟩
theorem CX.fz (h : CX w c m mx mk wd cut) (j : Nat) : w.frozen? ⟨c, j, none⟩ = false := frozen_of_row w c j _ _ h.at_
theorem CX.mem (h : CX w c m mx mk wd cut) : w.cell? ⟨c, 0, none⟩ = some (.pointer (some ⟨m, 0, none⟩)) := cell_of_row w c 0 _ _ _ h.at_
theorem CX.max (h : CX w c m mx mk wd cut) : w.cell? ⟨c, 1, none⟩ = some (.int .u32 (mx : Nat)) := cell_of_row w c 1 _ _ _ h.at_
theorem CX.hmk (h : CX w c m mx mk wd cut) (k : Nat) (hk : k < 2) : w.cell? ⟨c, 2 + k, none⟩ = some (.int .u8 (mk k : Nat)) := by
  have : k = 0 ∨ k = 1 := by omega
  rcases this with rfl | rfl
  · exact cell_of_row w c 2 _ _ _ h.at_
  · exact cell_of_row w c 3 _ _ _ h.at_
theorem CX.hwd (h : CX w c m mx mk wd cut) (k : Nat) (hk : k < 2) : w.cell? ⟨c, 4 + k, none⟩ = some (.int .u32 (wd k : Nat)) := by
  have : k = 0 ∨ k = 1 := by omega
  rcases this with rfl | rfl
  · exact cell_of_row w c 4 _ _ _ h.at_
  · exact cell_of_row w c 5 _ _ _ h.at_
theorem CX.hcut (h : CX w c m mx mk wd cut) : w.cell? ⟨c, 6, none⟩ = some (.bool cut) := cell_of_row w c 6 _ _ _ h.at_
theorem CX.setMk (h : CX w c m mx mk wd cut) (k x : Nat) (hk : k < 2) : CX (w.setCell ⟨c, 2 + k, none⟩ (.int .u8 (x : Nat))) c m mx (upd mk k x) wd cut := by
  have : k = 0 ∨ k = 1 := by omega
  rcases this with rfl | rfl
  · exact ⟨heap_setCell_same _ _ _ _ _ _ h.at_⟩
  · exact ⟨heap_setCell_same _ _ _ _ _ _ h.at_⟩
theorem CX.setWd (h : CX w c m mx mk wd cut) (k x : Nat) (hk : k < 2) : CX (w.setCell ⟨c, 4 + k, none⟩ (.int .u32 (x : Nat))) c m mx mk (upd wd k x) cut := by
  have : k = 0 ∨ k = 1 := by omega
  rcases this with rfl | rfl
  · exact ⟨heap_setCell_same _ _ _ _ _ _ h.at_⟩
  · exact ⟨heap_setCell_same _ _ _ _ _ _ h.at_⟩
theorem CX.setCut (h : CX w c m mx mk wd cut) (b : Bool) : CX (w.setCell ⟨c, 6, none⟩ (.bool b)) c m mx mk wd b := ⟨heap_setCell_same _ _ _ _ _ _ h.at_⟩
theorem CX.as {mk' wd' : Nat → Nat} (h : CX w c m mx mk wd cut) (a0 : mk 0 = mk' 0) (a1 : mk 1 = mk' 1) (b0 : wd 0 = wd' 0) (b1 : wd 1 = wd' 1) : CX w c m mx mk' wd' cut := by
  refine ⟨?_⟩
  rw [h.at_]
  unfold CV
  rw [a0, a1, b0, b1]
theorem CX.drewN (h : CX w c m mx mk wd cut) (k : Nat) : CX (w.drewN k) c m mx mk wd cut := h.off (Off.drewN [] _ k) (by simp)
end
theorem holds_any (c m mx : Nat) (mk wd : Nat → Nat) (cut : Bool) (k : Nat) (w : World) (h : CX w c m mx mk wd cut) (hk : k < 2) :
    Calls Tryz.prog 112 #[.pointer (some ⟨c, 0, none⟩), .int .i64 (k : Nat)] w fun e w' => e = .returned (.bool (decide ((mk k : Int) = 165))) ∧ w' = w := by
  have hm := h.hmk k hk
  clear h
  go_enter Tryz.func112, Tryz.ntmps112
  go_wp2_with fail
  go_ret
  exact ⟨rfl, rfl⟩
theorem six_cons (k v : Nat) : six k v = (5 * k, 0) :: (six k v).drop 1 := rfl
theorem six_rest (k v i : Nat) (hi : i < 4) : (six k v).drop (i + 1) = (5 * k + 1 + i, bt v i) :: (six k v).drop (i + 2) := by
  have : i = 0 ∨ i = 1 ∨ i = 2 ∨ i = 3 := by omega
  rcases this with rfl | rfl | rfl | rfl <;> rfl
theorem six_last (k v : Nat) : (six k v).drop 5 = [(5 * k, 165)] := rfl
theorem sq_go {n p c : Nat} {r : List (Nat × Nat)} {s : Ms} {E : Int} {S : Ms} (hE : sqE n ((p, c) :: r) s = E) (hS : sqS n ((p, c) :: r) s = S) (h : wrE s n (p : Nat) = 0) :
    sqE n r (wrS s n (p : Nat) c) = E ∧ sqS n r (wrS s n (p : Nat) c) = S := by
  rw [← hE, ← hS, sqE, sqS, if_pos h, if_pos h]
  exact ⟨rfl, rfl⟩
theorem sq_stop {n p c : Nat} {r : List (Nat × Nat)} {s : Ms} {E : Int} {S : Ms} (hE : sqE n ((p, c) :: r) s = E) (hS : sqS n ((p, c) :: r) s = S) (h : ¬ wrE s n (p : Nat) = 0) :
    wrE s n (p : Nat) = E ∧ wrS s n (p : Nat) c = S := by
  rw [← hE, ← hS, sqE, sqS, if_neg h, if_neg h]
  exact ⟨rfl, rfl⟩
theorem wrS_t (s : Ms) (n : Nat) (p : Int) (c : Nat) : (wrS s n p c).t ≤ s.t + 1 := by
  unfold wrS
  split
  · omega
  · split
    · show s.t ≤ s.t + 1; omega
    · exact Int.le_refl _
theorem Off.three {m g c : Nat} {w w' : World} (h : Off [m, g] w w') : Off [m, g, c] w w' := h.more (by simp)
theorem Off.three' {m g c : Nat} {w w' : World} (h : Off [c] w w') : Off [m, g, c] w w' := h.more (by simp)
set_option maxRecDepth 100000 in
set_option maxHeartbeats 2000000 in
theorem cwrite_any (c m g n mx : Nat) (mk wd : Nat → Nat) (cut : Bool) (s : Ms) (k v : Nat) (w : World) (hM : MR w m g n s) (hC : CX w c m mx mk wd cut) (hcm : c ≠ m) (hcg : c ≠ g) (hk : k < 2) (_hv : v < 4294967296) (ht : s.t < 9223372036854775000) :
    Calls Tryz.prog 113 #[.pointer (some ⟨c, 0, none⟩), .int .i64 (k : Nat), .int .u32 (v : Nat)] w fun e w' => e = .returned (.int .i64 (sqE n (six k v) s)) ∧ (Off [m, g, c] w w' ∧ MR w' m g n (sqS n (six k v) s) ∧
      CX w' c m mx (if sqE n (six k v) s = 0 then upd mk k 165 else mk) (if sqE n (six k v) s = 0 then upd wd k v else wd) cut) := by
  obtain ⟨E, hE⟩ : ∃ E, sqE n (six k v) s = E := ⟨_, rfl⟩
  obtain ⟨S, hS⟩ : ∃ S, sqS n (six k v) s = S := ⟨_, rfl⟩
  rw [hE, hS]
  rw [six_cons] at hE hS
  obtain ⟨mk', hmk⟩ : ∃ f, (if E = 0 then upd mk k 165 else mk) = f := ⟨_, rfl⟩
  obtain ⟨wd', hwd⟩ : ∃ f, (if E = 0 then upd wd k v else wd) = f := ⟨_, rfl⟩
  rw [hmk, hwd]
  have HK : Hid (_) := And.intro hmk hwd
  clear hmk hwd
  have c0 := hC.mem
  have HC : Hid (_) := hC
  clear hC
  go_enter Tryz.func113, Tryz.ntmps113
  go_wp2_with fail
  refine (write_any m g n s _ 0 w hM (by omega) (by omega)).mono ?_
  rintro e w1 ⟨rfl, o1, m1⟩
  rw [show (k : Int) * 5 = ((5 * k : Nat) : Int) by omega] at m1 ⊢
  have t1 := wrS_t s n ((5 * k : Nat) : Int) 0
  by_cases he : wrE s n ((5 * k : Nat) : Int) = 0
  · obtain ⟨hE1, hS1⟩ := sq_go hE hS he
    rw [he]
    have C1 := HC.out.off o1 (by simp; omega)
    have O1 : Off [m, g, c] w w1 := o1.three
    clear hE hS he o1 HC c0 hM
    generalize wrS s n ((5 * k : Nat) : Int) 0 = s1 at *
    go_wp2_with fail
    go_loopw [6, 9, 10, 11, 24] (fun _ _ _ _ ci wr => ∃ (i : Nat) (si : Ms), i ≤ 4 ∧ ci = .int .i64 ((i : Nat) : Int) ∧ sqE n ((six k v).drop (i + 1)) si = E ∧ sqS n ((six k v).drop (i + 1)) si = S ∧ si.t ≤ s.t + 1 + i ∧ Off [m, g, c] w wr ∧ MR wr m g n si ∧ CX wr c m mx mk wd cut) (fun _ _ _ _ ci _ => 4 - (intOf ci).toNat)
    case atStart => exact ⟨0, s1, by omega, rfl, hE1, hS1, by omega, O1, m1, C1⟩
    case round =>
      clear hE1 hS1 O1 m1 C1 t1
      obtain ⟨i, si, hi, rfl, hE, hS, t1, O1, m1, C1⟩ := hrel
      have c0 := C1.mem
      by_cases hlt : i < 4
      · rw [six_rest k v i hlt] at hE hS
        have HC : Hid (_) := C1
        clear C1
        go_wp2_with fail
        rw [show (v : Int) / 2 ^ (8 * (3 - i)) % 256 = ((bt v i : Nat) : Int) by simp [bt]]
        refine (write_any m g n si _ (bt v i) wr m1 (bt_lt v i) (by omega)).mono ?_
        rintro e w2 ⟨rfl, o2, m2⟩
        rw [show 5 * (k : Int) + 1 + (i : Int) = ((5 * k + 1 + i : Nat) : Int) by omega] at m2 ⊢
        have t2 := wrS_t si n ((5 * k + 1 + i : Nat) : Int) (bt v i)
        have C2 := HC.out.off o2 (by simp; omega)
        have O2 : Off [m, g, c] w w2 := O1.trans o2.three
        generalize bt v i = x at *
        by_cases he : wrE si n ((5 * k + 1 + i : Nat) : Int) = 0
        · obtain ⟨hE1, hS1⟩ := sq_go hE hS he
          rw [he]
          have H : Hid (_) := And.intro (And.intro hE1 hS1) (And.intro O2 (And.intro m2 C2))
          clear hE hS he o2 HC c0 O1 m1 m2 C2 O2 hE1 hS1
          generalize wrS si n ((5 * k + 1 + i : Nat) : Int) x = s2 at *
          go_wp2_with fail
          go_roundw
          case rel => exact ⟨i + 1, s2, by omega, by go_num, H.out.1.1, H.out.1.2, by omega, H.out.2⟩
          case measure => simp [intOf] <;> omega
        · obtain ⟨hE1, hS1⟩ := sq_stop hE hS he
          rw [hS1] at m2
          rw [hE1] at he ⊢
          have HK1 := HK.out
          rw [if_neg he, if_neg he] at HK1
          rw [HK1.1, HK1.2] at C2
          have H : Hid (_) := And.intro O2 (And.intro m2 C2)
          clear hE hS o2 HC c0 O1 m1 m2 C2 O2 hE1 hS1 t1 t2 HK HK1
          go_wp2_with fail
          go_ret
          exact ⟨rfl, H.out⟩
      · obtain rfl : i = 4 := by omega
        rw [six_last] at hE hS
        have HC : Hid (_) := C1
        clear C1 hlt
        go_wp2_with fail
        refine (write_any m g n si _ 165 wr m1 (by omega) (by omega)).mono ?_
        rintro e w2 ⟨rfl, o2, m2⟩
        rw [show 5 * (k : Int) = ((5 * k : Nat) : Int) by omega] at m2 ⊢
        have C2 := HC.out.off o2 (by simp; omega)
        have O2 : Off [m, g, c] w w2 := O1.trans o2.three
        by_cases he : wrE si n ((5 * k : Nat) : Int) = 0
        · obtain ⟨hE1, hS1⟩ := sq_go hE hS he
          rw [sqS] at hS1
          rw [sqE] at hE1
          rw [hS1] at m2
          rw [he]
          subst hE1
          have HK1 := HK.out
          rw [if_pos rfl, if_pos rfl] at HK1
          have zk := C2.hmk k hk
          have fk := C2.fz (2 + k)
          have C3 := C2.setMk k 165 hk
          have wk := C3.hwd k hk
          have gk := C3.fz (4 + k)
          have wj := C2.hwd k hk
          have gj := C2.fz (4 + k)
          have zj := (C2.setWd k v hk).hmk k hk
          have fj := (C2.setWd k v hk).fz (2 + k)
          have nk : ¬ 2 + k = 4 + k := by omega
          have nj : ¬ 4 + k = 2 + k := by omega
          have H : Hid (_) := And.intro HK1 (And.intro O2 (And.intro m2 C2))
          clear hE hS o2 HC c0 O1 m1 m2 C2 O2 hS1 t1 he C3 HK HK1
          go_wp2_with fail
          go_region
          go_wp2_with fail
          go_ret
          obtain ⟨hK, oo, mm, cc⟩ := H.out
          have q : Off [c] w2 ((w2.setCell ⟨c, 2 + k, none⟩ (.int .u8 165)).setCell ⟨c, 4 + k, none⟩ (.int .u32 (v : Nat))).drew := ((Off.setCell c (2 + k) _ _).trans (Off.setCell c (4 + k) _ _)).trans (Off.drew _ _)
          have cc' := ((cc.setMk k 165 hk).setWd k v hk).off (Off.drew [] _) (by simp)
          rw [hK.1, hK.2] at cc'
          exact ⟨rfl, oo.trans q.three', mm.off q (by simp; omega) (by simp; omega), cc'⟩
        · obtain ⟨hE1, hS1⟩ := sq_stop hE hS he
          rw [hS1] at m2
          rw [hE1] at he ⊢
          have HK1 := HK.out
          rw [if_neg he, if_neg he] at HK1
          rw [HK1.1, HK1.2] at C2
          have H : Hid (_) := And.intro O2 (And.intro m2 C2)
          clear hE hS o2 HC c0 O1 m1 m2 C2 O2 hE1 hS1 t1 HK HK1
          go_wp2_with fail
          go_ret
          exact ⟨rfl, H.out⟩
  · obtain ⟨hE1, hS1⟩ := sq_stop hE hS he
    rw [hS1] at m1
    rw [hE1] at he ⊢
    have C1 := HC.out.off o1 (by simp; omega)
    have HK1 := HK.out
    rw [if_neg he, if_neg he] at HK1
    rw [HK1.1, HK1.2] at C1
    have H : Hid (_) := And.intro (Off.three (c := c) o1) (And.intro m1 C1)
    clear hE hS o1 HC c0 m1 C1 hE1 hS1 t1 HK HK1
    go_wp2_with fail
    go_ret
    exact ⟨rfl, H.out⟩

end Go.Proofs.YtmleiemlfogffaaGreat
