/- Layer 20: the reader's move of any kind; the program's Read. (gensw2.py) -/
import Derived.Test.YtnmnjcjfgbpkaaaDoorJSv10
namespace Go.Proofs.YtnmnjcjfgbpkaaaDoor
set_option maxRecDepth 100000
open Go.RowKit Go.Maps
set_option maxRecDepth 100000
set_option linter.unusedVariables false
/-- What the reader's move makes of words. -/
def mvP (k n : Nat) (R : Nat → List UInt8) : Mv := if k = 1 then ⟨1, nmV (R 0), sdI (R 1), 0, 0, 0, 0, decide (n = 4), dtN (R 2), dtB (R 2)⟩ else if k = 2 then ⟨2, nmV (R 0), 0, 0, 0, 0, 0, false, 0, fun _ => 0⟩ else if k = 3 then ⟨3, nmV (R 0), sdI (R 1), nmV (R 2), 0, 0, 0, false, 0, fun _ => 0⟩ else if k = 4 then ⟨4, nmV (R 0), sdI (R 1), nmV (R 2), nmV (R 3), nmV (R 4), 0, false, 0, fun _ => 0⟩ else if k = 5 then ⟨5, nmV (R 0), sdI (R 1), 0, 0, 0, nmV (R 2), false, 0, fun _ => 0⟩ else if k = 6 then ⟨6, nmV (R 0), sdI (R 1), 0, 0, 0, 0, false, 0, fun _ => 0⟩ else if k = 7 then ⟨7, nmV (R 0), sdI (R 1), 0, 0, 0, nmV (R 2), false, 0, fun _ => 0⟩ else ⟨8, nmV (R 0), 0, 0, 0, 0, nmV (R 1), false, 0, fun _ => 0⟩
theorem sd_ok (l : List UInt8) : (sdI l != 0) = ((l == [104]) || (l == [100])) := by
  unfold sdI
  by_cases h1 : l = [104]
  · simp [h1]
  · by_cases h2 : l = [100]
    · simp [h2]
    · simp [h1, h2]
theorem sd_vl {l : List UInt8} (h : ((l == [104]) || (l == [100])) = true) : sdI l = if l = [100] then 2 else 1 := by
  unfold sdI
  by_cases h1 : l = [104]
  · simp [h1]
  · by_cases h2 : l = [100]
    · simp [h2]
    · simp [h1, h2] at h
theorem nm_vl {l : List UInt8} (h : vlO l = true) : nmV l = vlV l := by
  rw [nmV_dv l h]
  unfold vlV
  rw [if_pos h]
theorem kinds8 {k : Nat} (hk : 1 ≤ k ∧ k ≤ 8) : k = 1 ∨ k = 2 ∨ k = 3 ∨ k = 4 ∨ k = 5 ∨ k = 6 ∨ k = 7 ∨ k = 8 := by omega
theorem pairs9 {k n : Nat} (hk : 1 ≤ k ∧ k ≤ 8) (hn : plL k ≤ n ∧ n ≤ plM k) : (k = 1 ∧ n = 3) ∨ (k = 1 ∧ n = 4) ∨ (k = 2 ∧ n = 1) ∨ (k = 3 ∧ n = 3) ∨ (k = 4 ∧ n = 5) ∨ (k = 5 ∧ n = 3) ∨ (k = 6 ∧ n = 2) ∨ (k = 7 ∧ n = 3) ∨ (k = 8 ∧ n = 2) := by
  rcases kinds8 hk with rfl | rfl | rfl | rfl | rfl | rfl | rfl | rfl
  · have : 3 ≤ n ∧ n ≤ 4 := hn
    omega
  · have : 1 ≤ n ∧ n ≤ 1 := hn
    omega
  · have : 3 ≤ n ∧ n ≤ 3 := hn
    omega
  · have : 5 ≤ n ∧ n ≤ 5 := hn
    omega
  · have : 3 ≤ n ∧ n ≤ 3 := hn
    omega
  · have : 2 ≤ n ∧ n ≤ 2 := hn
    omega
  · have : 3 ≤ n ∧ n ≤ 3 := hn
    omega
  · have : 2 ≤ n ∧ n ≤ 2 := hn
    omega
theorem mvP_eq {k n : Nat} {R : Nat → List UInt8} (hk : 1 ≤ k ∧ k ≤ 8) (hn : plL k ≤ n ∧ n ≤ plM k) (ok : okF (fmF k) R n = true) : mvP k n R = mvF (fmF k) R (Mv.z ((k : Nat) : Int)) n := by
  rcases pairs9 hk hn with ⟨rfl, rfl⟩ | ⟨rfl, rfl⟩ | ⟨rfl, rfl⟩ | ⟨rfl, rfl⟩ | ⟨rfl, rfl⟩ | ⟨rfl, rfl⟩ | ⟨rfl, rfl⟩ | ⟨rfl, rfl⟩ | ⟨rfl, rfl⟩
  · have e1 : okF (fmF 1) R 3 = (((true && vlO (R 0)) && ((R 1 == [104]) || (R 1 == [100]))) && dtO (R 2)) := rfl
    have e2 : mvF (fmF 1) R (Mv.z ((1 : Nat) : Int)) 3 = (⟨1, ((vlV (R 0) : Nat) : Int), if R 1 = [100] then 2 else 1, 0, 0, 0, 0, false, dtN (R 2), dtB (R 2)⟩ : Mv) := rfl
    rw [e1] at ok
    simp only [Bool.and_eq_true] at ok
    rw [e2]
    have v0 := nm_vl ok.1.1.2
    have s1 := sd_vl ok.1.2
    rw [← v0, ← s1]
    rfl
  · have e1 : okF (fmF 1) R 4 = ((((true && vlO (R 0)) && ((R 1 == [104]) || (R 1 == [100]))) && dtO (R 2)) && (R 3 == [104, 111, 108, 100])) := rfl
    have e2 : mvF (fmF 1) R (Mv.z ((1 : Nat) : Int)) 4 = (⟨1, ((vlV (R 0) : Nat) : Int), if R 1 = [100] then 2 else 1, 0, 0, 0, 0, true, dtN (R 2), dtB (R 2)⟩ : Mv) := rfl
    rw [e1] at ok
    simp only [Bool.and_eq_true] at ok
    rw [e2]
    have v0 := nm_vl ok.1.1.1.2
    have s1 := sd_vl ok.1.1.2
    rw [← v0, ← s1]
    rfl
  · have e1 : okF (fmF 2) R 1 = (true && vlO (R 0)) := rfl
    have e2 : mvF (fmF 2) R (Mv.z ((2 : Nat) : Int)) 1 = (⟨2, ((vlV (R 0) : Nat) : Int), 0, 0, 0, 0, 0, false, 0, fun _ => 0⟩ : Mv) := rfl
    rw [e1] at ok
    simp only [Bool.and_eq_true] at ok
    rw [e2]
    have v0 := nm_vl ok.2
    rw [← v0]
    rfl
  · have e1 : okF (fmF 3) R 3 = (((true && vlO (R 0)) && ((R 1 == [104]) || (R 1 == [100]))) && vlO (R 2)) := rfl
    have e2 : mvF (fmF 3) R (Mv.z ((3 : Nat) : Int)) 3 = (⟨3, ((vlV (R 0) : Nat) : Int), if R 1 = [100] then 2 else 1, ((vlV (R 2) : Nat) : Int), 0, 0, 0, false, 0, fun _ => 0⟩ : Mv) := rfl
    rw [e1] at ok
    simp only [Bool.and_eq_true] at ok
    rw [e2]
    have v0 := nm_vl ok.1.1.2
    have v2 := nm_vl ok.2
    have s1 := sd_vl ok.1.2
    rw [← v0, ← v2, ← s1]
    rfl
  · have e1 : okF (fmF 4) R 5 = (((((true && vlO (R 0)) && ((R 1 == [104]) || (R 1 == [100]))) && vlO (R 2)) && vlO (R 3)) && vlO (R 4)) := rfl
    have e2 : mvF (fmF 4) R (Mv.z ((4 : Nat) : Int)) 5 = (⟨4, ((vlV (R 0) : Nat) : Int), if R 1 = [100] then 2 else 1, ((vlV (R 2) : Nat) : Int), ((vlV (R 3) : Nat) : Int), vlV (R 4), 0, false, 0, fun _ => 0⟩ : Mv) := rfl
    rw [e1] at ok
    simp only [Bool.and_eq_true] at ok
    rw [e2]
    have v0 := nm_vl ok.1.1.1.1.2
    have v2 := nm_vl ok.1.1.2
    have v3 := nm_vl ok.1.2
    have v4 := nm_vl ok.2
    have s1 := sd_vl ok.1.1.1.2
    rw [← v0, ← v2, ← v3, ← v4, ← s1]
    rfl
  · have e1 : okF (fmF 5) R 3 = (((true && vlO (R 0)) && ((R 1 == [104]) || (R 1 == [100]))) && vlO (R 2)) := rfl
    have e2 : mvF (fmF 5) R (Mv.z ((5 : Nat) : Int)) 3 = (⟨5, ((vlV (R 0) : Nat) : Int), if R 1 = [100] then 2 else 1, 0, 0, 0, ((vlV (R 2) : Nat) : Int), false, 0, fun _ => 0⟩ : Mv) := rfl
    rw [e1] at ok
    simp only [Bool.and_eq_true] at ok
    rw [e2]
    have v0 := nm_vl ok.1.1.2
    have v2 := nm_vl ok.2
    have s1 := sd_vl ok.1.2
    rw [← v0, ← v2, ← s1]
    rfl
  · have e1 : okF (fmF 6) R 2 = ((true && vlO (R 0)) && ((R 1 == [104]) || (R 1 == [100]))) := rfl
    have e2 : mvF (fmF 6) R (Mv.z ((6 : Nat) : Int)) 2 = (⟨6, ((vlV (R 0) : Nat) : Int), if R 1 = [100] then 2 else 1, 0, 0, 0, 0, false, 0, fun _ => 0⟩ : Mv) := rfl
    rw [e1] at ok
    simp only [Bool.and_eq_true] at ok
    rw [e2]
    have v0 := nm_vl ok.1.2
    have s1 := sd_vl ok.2
    rw [← v0, ← s1]
    rfl
  · have e1 : okF (fmF 7) R 3 = (((true && vlO (R 0)) && ((R 1 == [104]) || (R 1 == [100]))) && vlO (R 2)) := rfl
    have e2 : mvF (fmF 7) R (Mv.z ((7 : Nat) : Int)) 3 = (⟨7, ((vlV (R 0) : Nat) : Int), if R 1 = [100] then 2 else 1, 0, 0, 0, ((vlV (R 2) : Nat) : Int), false, 0, fun _ => 0⟩ : Mv) := rfl
    rw [e1] at ok
    simp only [Bool.and_eq_true] at ok
    rw [e2]
    have v0 := nm_vl ok.1.1.2
    have v2 := nm_vl ok.2
    have s1 := sd_vl ok.1.2
    rw [← v0, ← v2, ← s1]
    rfl
  · have e1 : okF (fmF 8) R 2 = ((true && vlO (R 0)) && vlO (R 1)) := rfl
    have e2 : mvF (fmF 8) R (Mv.z ((8 : Nat) : Int)) 2 = (⟨8, ((vlV (R 0) : Nat) : Int), 0, 0, 0, 0, ((vlV (R 1) : Nat) : Int), false, 0, fun _ => 0⟩ : Mv) := rfl
    rw [e1] at ok
    simp only [Bool.and_eq_true] at ok
    rw [e2]
    have v0 := nm_vl ok.1.2
    have v1 := nm_vl ok.2
    rw [← v0, ← v1]
    rfl
/-- What the reader's move leaves. -/
def MovP (b : Nat) (m : Mv) (x : Bool) (w : World) (r : Ending) (w' : World) : Prop := ∃ a cc, r = .returned (.agg #[.int .i64 m.k, .int .i64 m.c, .int .i64 m.s, .int .i64 m.f, .int .i64 m.a, .int .u32 (m.w : Nat), .int .i64 m.n, .bool m.h, .slice a m.l cc]) ∧ Hid (Row8 w' a m.l cc m.b ∧ (∃ v, RB w' b v x) ∧ Off [b] w w' ∧ ∀ y, a = some y → 0 < m.l → w.heap.size < y.block)
theorem pmvAny (k n : Nat) (hk : 1 ≤ k ∧ k ≤ 8) (hn : plL k ≤ n ∧ n ≤ plM k) (b g o e : Nat) (R : Nat → List UInt8) (hL : ∀ i, i < n → (R i).length ≤ 281474976710656) (w : World) (hLo : Lo b w) (hb : b ∉ [2, 0, 5, 6]) (h : RB w b (.slice (some ⟨g, o, none⟩) n (e + n)) false) (hw : ∀ i, i < n → w.cell? ⟨g, o + i, none⟩ = some (.string (tx (R i)))) (hne : g ≠ b) (he : e + n ≤ 9223372036854775807) : Calls Tryd.prog 42 #[.pointer (some ⟨b, 0, none⟩), .int .i64 ((k : Nat) : Int)] w (MovP b (mvP k n R) (!okF (fmF k) R n) w) := by
  rcases pairs9 hk hn with ⟨rfl, rfl⟩ | ⟨rfl, rfl⟩ | ⟨rfl, rfl⟩ | ⟨rfl, rfl⟩ | ⟨rfl, rfl⟩ | ⟨rfl, rfl⟩ | ⟨rfl, rfl⟩ | ⟨rfl, rfl⟩ | ⟨rfl, rfl⟩
  · have e1 : okF (fmF 1) R 3 = (((true && vlO (R 0)) && ((R 1 == [104]) || (R 1 == [100]))) && dtO (R 2)) := rfl
    have ef : (((false || !nmO (R 0)) || !(sdI (R 1) != 0)) || !dtO (R 2)) = !okF (fmF 1) R 3 := by
      rw [e1]
      simp only [nmO_vlO, sd_ok, Bool.not_and, Bool.false_or, Bool.true_and]
    show Calls Tryd.prog 42 #[.pointer (some ⟨b, 0, none⟩), .int .i64 1] w _
    refine (pmv1_3 b g o e false R hL w hLo hb h hw hne he).mono ?_
    rintro r w' ⟨a, cc, rfl, H⟩
    refine ⟨a, cc, rfl, H.out.1, ?_, H.out.2.2⟩
    rw [← ef]
    exact H.out.2.1
  · have e1 : okF (fmF 1) R 4 = ((((true && vlO (R 0)) && ((R 1 == [104]) || (R 1 == [100]))) && dtO (R 2)) && (R 3 == [104, 111, 108, 100])) := rfl
    have ef : ((((false || !nmO (R 0)) || !(sdI (R 1) != 0)) || !dtO (R 2)) || !(R 3 == [104, 111, 108, 100])) = !okF (fmF 1) R 4 := by
      rw [e1]
      simp only [nmO_vlO, sd_ok, Bool.not_and, Bool.false_or, Bool.true_and]
    show Calls Tryd.prog 42 #[.pointer (some ⟨b, 0, none⟩), .int .i64 1] w _
    refine (pmv1_4 b g o e false R hL w hLo hb h hw hne he).mono ?_
    rintro r w' ⟨a, cc, rfl, H⟩
    refine ⟨a, cc, rfl, H.out.1, ?_, H.out.2.2⟩
    rw [← ef]
    exact H.out.2.1
  · have e1 : okF (fmF 2) R 1 = (true && vlO (R 0)) := rfl
    have ef : (false || !nmO (R 0)) = !okF (fmF 2) R 1 := by
      rw [e1]
      simp only [nmO_vlO, Bool.false_or, Bool.true_and]
    show Calls Tryd.prog 42 #[.pointer (some ⟨b, 0, none⟩), .int .i64 2] w _
    refine (pmv2 b g o e false R hL w hLo hb h hw hne he).mono ?_
    rintro r w' ⟨rfl, hv, ho⟩
    refine ⟨none, 0, rfl, row8_0 _, ?_, ho, (fun y hy => by cases hy)⟩
    rw [← ef]
    exact hv
  · have e1 : okF (fmF 3) R 3 = (((true && vlO (R 0)) && ((R 1 == [104]) || (R 1 == [100]))) && vlO (R 2)) := rfl
    have ef : (((false || !nmO (R 0)) || !(sdI (R 1) != 0)) || !nmO (R 2)) = !okF (fmF 3) R 3 := by
      rw [e1]
      simp only [nmO_vlO, sd_ok, Bool.not_and, Bool.false_or, Bool.true_and]
    show Calls Tryd.prog 42 #[.pointer (some ⟨b, 0, none⟩), .int .i64 3] w _
    refine (pmv3 b g o e false R hL w hLo hb h hw hne he).mono ?_
    rintro r w' ⟨rfl, hv, ho⟩
    refine ⟨none, 0, rfl, row8_0 _, ?_, ho, (fun y hy => by cases hy)⟩
    rw [← ef]
    exact hv
  · have e1 : okF (fmF 4) R 5 = (((((true && vlO (R 0)) && ((R 1 == [104]) || (R 1 == [100]))) && vlO (R 2)) && vlO (R 3)) && vlO (R 4)) := rfl
    have ef : (((((false || !nmO (R 0)) || !(sdI (R 1) != 0)) || !nmO (R 2)) || !nmO (R 3)) || !nmO (R 4)) = !okF (fmF 4) R 5 := by
      rw [e1]
      simp only [nmO_vlO, sd_ok, Bool.not_and, Bool.false_or, Bool.true_and]
    show Calls Tryd.prog 42 #[.pointer (some ⟨b, 0, none⟩), .int .i64 4] w _
    refine (pmv4 b g o e false R hL w hLo hb h hw hne he).mono ?_
    rintro r w' ⟨rfl, hv, ho⟩
    refine ⟨none, 0, rfl, row8_0 _, ?_, ho, (fun y hy => by cases hy)⟩
    rw [← ef]
    exact hv
  · have e1 : okF (fmF 5) R 3 = (((true && vlO (R 0)) && ((R 1 == [104]) || (R 1 == [100]))) && vlO (R 2)) := rfl
    have ef : (((false || !nmO (R 0)) || !(sdI (R 1) != 0)) || !nmO (R 2)) = !okF (fmF 5) R 3 := by
      rw [e1]
      simp only [nmO_vlO, sd_ok, Bool.not_and, Bool.false_or, Bool.true_and]
    show Calls Tryd.prog 42 #[.pointer (some ⟨b, 0, none⟩), .int .i64 5] w _
    refine (pmv5 b g o e false R hL w hLo hb h hw hne he).mono ?_
    rintro r w' ⟨rfl, hv, ho⟩
    refine ⟨none, 0, rfl, row8_0 _, ?_, ho, (fun y hy => by cases hy)⟩
    rw [← ef]
    exact hv
  · have e1 : okF (fmF 6) R 2 = ((true && vlO (R 0)) && ((R 1 == [104]) || (R 1 == [100]))) := rfl
    have ef : ((false || !nmO (R 0)) || !(sdI (R 1) != 0)) = !okF (fmF 6) R 2 := by
      rw [e1]
      simp only [nmO_vlO, sd_ok, Bool.not_and, Bool.false_or, Bool.true_and]
    show Calls Tryd.prog 42 #[.pointer (some ⟨b, 0, none⟩), .int .i64 6] w _
    refine (pmv6 b g o e false R hL w hLo hb h hw hne he).mono ?_
    rintro r w' ⟨rfl, hv, ho⟩
    refine ⟨none, 0, rfl, row8_0 _, ?_, ho, (fun y hy => by cases hy)⟩
    rw [← ef]
    exact hv
  · have e1 : okF (fmF 7) R 3 = (((true && vlO (R 0)) && ((R 1 == [104]) || (R 1 == [100]))) && vlO (R 2)) := rfl
    have ef : (((false || !nmO (R 0)) || !(sdI (R 1) != 0)) || !nmO (R 2)) = !okF (fmF 7) R 3 := by
      rw [e1]
      simp only [nmO_vlO, sd_ok, Bool.not_and, Bool.false_or, Bool.true_and]
    show Calls Tryd.prog 42 #[.pointer (some ⟨b, 0, none⟩), .int .i64 7] w _
    refine (pmv7 b g o e false R hL w hLo hb h hw hne he).mono ?_
    rintro r w' ⟨rfl, hv, ho⟩
    refine ⟨none, 0, rfl, row8_0 _, ?_, ho, (fun y hy => by cases hy)⟩
    rw [← ef]
    exact hv
  · have e1 : okF (fmF 8) R 2 = ((true && vlO (R 0)) && vlO (R 1)) := rfl
    have ef : ((false || !nmO (R 0)) || !nmO (R 1)) = !okF (fmF 8) R 2 := by
      rw [e1]
      simp only [nmO_vlO, Bool.not_and, Bool.false_or, Bool.true_and]
    show Calls Tryd.prog 42 #[.pointer (some ⟨b, 0, none⟩), .int .i64 8] w _
    refine (pmv8 b g o e false R hL w hLo hb h hw hne he).mono ?_
    rintro r w' ⟨rfl, hv, ho⟩
    refine ⟨none, 0, rfl, row8_0 _, ?_, ho, (fun y hy => by cases hy)⟩
    rw [← ef]
    exact hv
theorem glob_lt {w : World} {n : String} {cs : Array Value} {g : Nat} (h : w.var? Tryd.prog n = some cs) (e : Tryd.prog.globalNamed n = some g) : g < w.heap.size := by
  unfold World.var? at h
  rw [e] at h
  simp only [Option.bind_some] at h
  by_cases q : g < w.heap.size
  · exact q
  · rw [Array.getElem?_eq_none (by omega)] at h
    cases h
theorem gPwS : Tryd.prog.globalNamed "internal/strconv.uint64pow10" = some 2 := by kernel_rfl
theorem gEsS : Tryd.prog.globalNamed "strconv.ErrSyntax" = some 5 := by kernel_rfl
theorem gErS : Tryd.prog.globalNamed "strconv.ErrRange" = some 6 := by kernel_rfl
theorem Lw.glob {w : World} (L : Lw w) {b : Nat} (hb : w.heap.size ≤ b) : b ∉ [2, 0, 5, 6] := by
  obtain ⟨t1, p1, e1⟩ := L.es
  obtain ⟨t2, p2, e2⟩ := L.er
  have h1 := glob_lt L.pow gPwS
  have h2 := glob_lt L.kw gKw
  have h3 := glob_lt e1 gEsS
  have h4 := glob_lt e2 gErS
  simp only [List.mem_cons, List.not_mem_nil, or_false]
  omega
set_option maxHeartbeats 4000000 in
theorem pread0 (a : Option Addr) (cap : Nat) (L : Nat → List UInt8) (w : World) : Calls Tryd.prog 20 #[.slice a 0 cap] w (RdP (rdM 0 L) (rdEr 0 L) w) := by
  have e1 : rdEr 0 L = 202 := rfl
  have e2 : rdM 0 L = Mv.z 0 := rfl
  rw [e1, e2]
  have post : ∀ w', Below w.heap.size w w' → RdP (Mv.z 0) 202 w (.returned (.tuple #[.agg #[.int .i64 0, .int .i64 0, .int .i64 0, .int .i64 0, .int .i64 0, .int .u32 0, .int .i64 0, .bool false, .slice none 0 0], .int .i64 202])) w' := fun w' b => RdP.nil0 b
  clear e1 e2
  go_enter Tryd.func20, Tryd.ntmps20
  go_wp2_with fail
  refine bodyPost_ret (v := .tuple #[.agg #[.int .i64 0, .int .i64 0, .int .i64 0, .int .i64 0, .int .i64 0, .int .u32 0, .int .i64 0, .bool false, .slice none 0 0], .int .i64 202]) (by simp [results, Tryd.results20, go_sem]) rfl ?_
  exact post _ (belA (Below.refl _ _) _)
set_option maxHeartbeats 8000000 in
theorem pread1 (g o N n C c : Nat) (hN1 : N = n + 1) (hC1 : C = c + 1) (hnc : n ≤ c) (hC : C ≤ 9223372036854775807) (L : Nat → List UInt8) (hL : ∀ i, i < N → (L i).length ≤ 281474976710656) (w : World) (Lv : Lw w) (h : ∀ i, i < N → w.cell? ⟨g, o + i, none⟩ = some (.string (tx (L i)))) : Calls Tryd.prog 20 #[.slice (some ⟨g, o, none⟩) N C] w (RdP (rdM N L) (rdEr N L) w) := by
  have hk8 := fmK_le (L 0)
  have hw0 := h 0 (by omega)
  rw [Nat.add_zero] at hw0
  have eE : rdEr N L = if fmK (L 0) = 0 then 200 else if n < plL (fmK (L 0)) then 202 else if plM (fmK (L 0)) < n then 201 else if okF (fmF (fmK (L 0))) (fun i => L (i + 1)) n = true then 0 else 203 := by
    unfold rdEr
    rw [if_neg (by omega), hN1, Nat.add_sub_cancel]
  have eM : rdM N L = if rdEr N L = 0 then mvF (fmF (fmK (L 0))) (fun i => L (i + 1)) (Mv.z ((fmK (L 0) : Nat) : Int)) n else Mv.z 0 := by
    unfold rdM
    rw [hN1, Nat.add_sub_cancel]
  obtain ⟨wa, hwa⟩ : ∃ x, w.alloc (.cells #[.int .i64 0, .int .i64 0, .int .i64 0, .int .i64 0, .int .i64 0, .int .u32 0, .int .i64 0, .bool false, .slice none 0 0] 45) = x := ⟨_, rfl⟩
  have ba : Below w.heap.size w wa := by rw [← hwa]; exact belA (Below.refl _ _) _
  have za : Bk wa w.heap.size #[.int .i64 0, .int .i64 0, .int .i64 0, .int .i64 0, .int .i64 0, .int .u32 0, .int .i64 0, .bool false, .slice none 0 0] 45 := by rw [← hwa]; exact Bk.new _ _ _
  have hk := pkindG (L 0) wa (Lv.below ba)
  have c0 : wa.cell? ⟨g, o, none⟩ = some (.string (tx (L 0))) := cellB hw0 ba
  obtain ⟨R, hR⟩ : ∃ y, (fun i => L (i + 1)) = y := ⟨_, rfl⟩
  have hRw : ∀ i, i < n → w.cell? ⟨g, o + 1 + i, none⟩ = some (.string (tx (R i))) := fun i hi => by
    rw [← hR]
    have := h (i + 1) (by omega)
    rw [show o + 1 + i = o + (i + 1) by omega]
    exact this
  have hRl : ∀ i, i < n → (R i).length ≤ 281474976710656 := fun i hi => by
    rw [← hR]
    exact hL (i + 1) (by omega)
  rw [hR] at eE eM
  obtain ⟨X0, hX0⟩ : ∃ y, tx (L 0) = y := ⟨_, rfl⟩
  obtain ⟨k, hkk⟩ : ∃ y, fmK (L 0) = y := ⟨_, rfl⟩
  rw [hkk] at hk hk8 eE eM
  rw [hX0] at hk c0
  obtain ⟨E, hE⟩ : ∃ y, rdEr N L = y := ⟨_, rfl⟩
  obtain ⟨M, hM⟩ : ∃ y, rdM N L = y := ⟨_, rfl⟩
  rw [hE] at eE eM
  rw [hM] at eM
  rw [hE, hM]
  have zr : E ≠ 0 → M = Mv.z 0 := fun he => by rw [eM, if_neg he]
  have HE : Hid (_) := And.intro eE (And.intro eM zr)
  have lg : g < w.heap.size := World.block_lt_of_cell? w _ hw0
  have HA : Hid (_) := And.intro ba (And.intro za (And.intro hRw (And.intro hRl (And.intro Lv lg))))
  have HN : Hid (_) := And.intro hN1 (And.intro hC1 (And.intro hnc hC))
  have qN : (((N : Nat) : Int) == 0) = false := beq_eq_false_iff_ne.2 (by omega)
  have qN0 : (0 : Int) < ((N : Nat) : Int) := by omega
  clear h hL hR hX0 hkk hE hM eE eM zr hRw hRl hw0 ba za Lv lg hN1 hC1 hnc hC
  by_cases h0 : k = 0
  · subst h0
    have hE0 : E = 200 := by rw [HE.out.1, if_pos rfl]
    have hM0 := HE.out.2.2 (by omega)
    rw [hE0, hM0]
    have post : ∀ w', Below w.heap.size w w' → RdP (Mv.z 0) 200 w (.returned (.tuple #[.agg #[.int .i64 0, .int .i64 0, .int .i64 0, .int .i64 0, .int .i64 0, .int .u32 0, .int .i64 0, .bool false, .slice none 0 0], .int .i64 200])) w' := fun w' b => RdP.nil0 b
    have zB := HA.out.2.1
    have HB : Hid (Below w.heap.size w wa) := HA.out.1
    have hk' : Calls Tryd.prog 39 #[.string X0] wa fun r w' => r = .returned (.tuple #[.int .i64 0, .bool false]) ∧ w' = wa := hk
    clear hE0 hM0 hk
    go_enter Tryd.func20, Tryd.ntmps20
    go_wp2_with fail
    try rw [hwa]
    clear hwa
    refine hk'.mono ?_
    rintro r w' ⟨rfl, hw⟩
    rw [hw]
    clear hw hk' c0
    have z0 : wa.cell? ⟨w.heap.size, 0, none⟩ = some (.int .i64 0) := zB.cell 0
    have z1 : wa.cell? ⟨w.heap.size, 1, none⟩ = some (.int .i64 0) := zB.cell 1
    have z2 : wa.cell? ⟨w.heap.size, 2, none⟩ = some (.int .i64 0) := zB.cell 2
    have z3 : wa.cell? ⟨w.heap.size, 3, none⟩ = some (.int .i64 0) := zB.cell 3
    have z4 : wa.cell? ⟨w.heap.size, 4, none⟩ = some (.int .i64 0) := zB.cell 4
    have z5 : wa.cell? ⟨w.heap.size, 5, none⟩ = some (.int .u32 0) := zB.cell 5
    have z6 : wa.cell? ⟨w.heap.size, 6, none⟩ = some (.int .i64 0) := zB.cell 6
    have z7 : wa.cell? ⟨w.heap.size, 7, none⟩ = some (.bool false) := zB.cell 7
    have z8 : wa.cell? ⟨w.heap.size, 8, none⟩ = some (.slice none 0 0) := zB.cell 8
    have fz := zB.fz
    have HO : Hid (Off [w.heap.size] wa (((((((((wa.setCell ⟨w.heap.size, 0, none⟩ (.int .i64 0)).setCell ⟨w.heap.size, 1, none⟩ (.int .i64 0)).setCell ⟨w.heap.size, 2, none⟩ (.int .i64 0)).setCell ⟨w.heap.size, 3, none⟩ (.int .i64 0)).setCell ⟨w.heap.size, 4, none⟩ (.int .i64 0)).setCell ⟨w.heap.size, 5, none⟩ (.int .u32 0)).setCell ⟨w.heap.size, 6, none⟩ (.int .i64 0)).setCell ⟨w.heap.size, 7, none⟩ (.bool false)).setCell ⟨w.heap.size, 8, none⟩ (.slice none 0 0))) := Off.trans (Off.trans (Off.trans (Off.trans (Off.trans (Off.trans (Off.trans (Off.trans (Off.trans (Off.refl [w.heap.size] wa) (Off.setCell w.heap.size 0 _ _)) (Off.setCell w.heap.size 1 _ _)) (Off.setCell w.heap.size 2 _ _)) (Off.setCell w.heap.size 3 _ _)) (Off.setCell w.heap.size 4 _ _)) (Off.setCell w.heap.size 5 _ _)) (Off.setCell w.heap.size 6 _ _)) (Off.setCell w.heap.size 7 _ _)) (Off.setCell w.heap.size 8 _ _)
    clear zB
    go_wp2_with fail
    refine bodyPost_ret (v := .tuple #[.agg #[.int .i64 0, .int .i64 0, .int .i64 0, .int .i64 0, .int .i64 0, .int .u32 0, .int .i64 0, .bool false, .slice none 0 0], .int .i64 200]) (by simp [results, Tryd.results20, go_sem, z0, z1, z2, z3, z4, z5, z6, z7, z8]) rfl ?_
    exact post _ (HO.out.below HB.out (by simp) HB.out.size)
  have hk1 : (k != 0) = true := by simpa using h0
  rw [hk1] at hk
  have hpl := pplaces k ⟨by omega, hk8⟩ wa
  obtain ⟨ls, hls⟩ : ∃ y, plL k = y := ⟨_, rfl⟩
  obtain ⟨ms, hms⟩ : ∃ y, plM k = y := ⟨_, rfl⟩
  rw [hls, hms] at hpl
  have hrd : ∀ wx, Calls Tryd.prog 41 #[.slice (some ⟨g, o, none⟩) N C, .int .i64 ((ls : Nat) : Int), .int .i64 ((ms : Nat) : Int)] wx fun r w' => r = .returned (.tuple #[.agg #[rdV n ls ms (.slice (some ⟨g, adv o c, none⟩) n c), .bool false], .int .i64 (rdE n ls ms)]) ∧ Below wx.heap.size wx w' := fun wx => by
    have hn := HN.out
    have := preaderG g o n c ls ms hn.2.2.1 (by omega) wx
    rw [← hn.1, ← hn.2.1] at this
    exact this
  have HK : Hid (1 ≤ k ∧ k ≤ 8 ∧ plL k = ls ∧ plM k = ms) := ⟨by omega, hk8, hls, hms⟩
  clear hk1 hls hms hk8
  by_cases h1 : n < ls ∨ ms < n
  · obtain ⟨e1, he1, he2⟩ : ∃ e1 : Int, rdE n ls ms = e1 ∧ (e1 = 202 ∨ e1 = 201) ∧ E = e1 := by
      refine ⟨_, rfl, ?_, ?_⟩
      · unfold rdE
        by_cases q : n < ls
        · rw [if_pos q]; exact .inl rfl
        · rw [if_neg q, if_pos (by omega)]; exact .inr rfl
      · rw [HE.out.1, if_neg h0, HK.out.2.2.1, HK.out.2.2.2]
        unfold rdE
        by_cases q : n < ls
        · rw [if_pos q, if_pos q]
        · rw [if_neg q, if_neg q, if_pos (by omega), if_pos (by omega)]
    have hM1 := HE.out.2.2 (by omega)
    rw [he2.2, hM1]
    have post : ∀ w', Below w.heap.size w w' → RdP (Mv.z 0) e1 w (.returned (.tuple #[.agg #[.int .i64 0, .int .i64 0, .int .i64 0, .int .i64 0, .int .i64 0, .int .u32 0, .int .i64 0, .bool false, .slice none 0 0], .int .i64 e1])) w' := fun w' b => RdP.nil0 b
    have hv : rdV n ls ms (.slice (some ⟨g, adv o c, none⟩) n c) = .slice none 0 0 := by
      unfold rdV
      by_cases q : n < ls
      · rw [if_pos q]
      · rw [if_neg q, if_pos (by omega)]
    rw [he1, hv] at hrd
    have qe : (e1 != 0) = true := by rcases he2.1 with r | r <;> rw [r] <;> rfl
    clear he1 he2 hM1 hv h1 h0
    go_enter Tryd.func20, Tryd.ntmps20
    go_wp2_with fail
    try rw [hwa]
    clear hwa
    refine hk.mono ?_
    rintro r w' ⟨rfl, hw⟩
    rw [hw]
    clear hk hw c0
    go_wp2_with fail
    refine hpl.mono ?_
    rintro r w1 ⟨rfl, b1⟩
    have H1 : Hid (_) := b1
    clear hpl b1
    go_wp2_with fail
    refine (hrd _).mono ?_
    rintro r w2 ⟨rfl, b2⟩
    have H2 : Hid (Below wa.heap.size wa w2) := H1.out.trans (b2.mono H1.out.size)
    clear hrd b2 H1
    go_upto_region 8 with fail
    have b3 := belA (Below.refl _ w2) (.cells #[.slice none 0 0, .bool false] 91)
    obtain ⟨w3, hw3⟩ : ∃ x, w2.alloc (.cells #[.slice none 0 0, .bool false] 91) = x := ⟨_, rfl⟩
    rw [hw3] at b3 ⊢
    clear hw3
    have B3 : Below wa.heap.size wa w3 := H2.out.trans (b3.mono H2.out.size)
    have zB : Bk w3 w.heap.size #[.int .i64 0, .int .i64 0, .int .i64 0, .int .i64 0, .int .i64 0, .int .u32 0, .int .i64 0, .bool false, .slice none 0 0] 45 := HA.out.2.1.off (Off.of_below (l := []) B3) (by simp)
    have HB : Hid (Below w.heap.size w w3) := HA.out.1.trans (B3.mono HA.out.1.size)
    clear B3 b3 H2
    obtain ⟨ww, hww⟩ : ∃ y, w2.heap.size = y := ⟨_, rfl⟩
    try rw [hww]
    clear hww
    have z0 : w3.cell? ⟨w.heap.size, 0, none⟩ = some (.int .i64 0) := zB.cell 0
    have z1 : w3.cell? ⟨w.heap.size, 1, none⟩ = some (.int .i64 0) := zB.cell 1
    have z2 : w3.cell? ⟨w.heap.size, 2, none⟩ = some (.int .i64 0) := zB.cell 2
    have z3 : w3.cell? ⟨w.heap.size, 3, none⟩ = some (.int .i64 0) := zB.cell 3
    have z4 : w3.cell? ⟨w.heap.size, 4, none⟩ = some (.int .i64 0) := zB.cell 4
    have z5 : w3.cell? ⟨w.heap.size, 5, none⟩ = some (.int .u32 0) := zB.cell 5
    have z6 : w3.cell? ⟨w.heap.size, 6, none⟩ = some (.int .i64 0) := zB.cell 6
    have z7 : w3.cell? ⟨w.heap.size, 7, none⟩ = some (.bool false) := zB.cell 7
    have z8 : w3.cell? ⟨w.heap.size, 8, none⟩ = some (.slice none 0 0) := zB.cell 8
    have fz := zB.fz
    have HO : Hid (Off [w.heap.size] w3 (((((((((w3.setCell ⟨w.heap.size, 0, none⟩ (.int .i64 0)).setCell ⟨w.heap.size, 1, none⟩ (.int .i64 0)).setCell ⟨w.heap.size, 2, none⟩ (.int .i64 0)).setCell ⟨w.heap.size, 3, none⟩ (.int .i64 0)).setCell ⟨w.heap.size, 4, none⟩ (.int .i64 0)).setCell ⟨w.heap.size, 5, none⟩ (.int .u32 0)).setCell ⟨w.heap.size, 6, none⟩ (.int .i64 0)).setCell ⟨w.heap.size, 7, none⟩ (.bool false)).setCell ⟨w.heap.size, 8, none⟩ (.slice none 0 0))) := Off.trans (Off.trans (Off.trans (Off.trans (Off.trans (Off.trans (Off.trans (Off.trans (Off.trans (Off.refl [w.heap.size] w3) (Off.setCell w.heap.size 0 _ _)) (Off.setCell w.heap.size 1 _ _)) (Off.setCell w.heap.size 2 _ _)) (Off.setCell w.heap.size 3 _ _)) (Off.setCell w.heap.size 4 _ _)) (Off.setCell w.heap.size 5 _ _)) (Off.setCell w.heap.size 6 _ _)) (Off.setCell w.heap.size 7 _ _)) (Off.setCell w.heap.size 8 _ _)
    clear zB
    go_wp2_with fail
    refine bodyPost_ret (v := .tuple #[.agg #[.int .i64 0, .int .i64 0, .int .i64 0, .int .i64 0, .int .i64 0, .int .u32 0, .int .i64 0, .bool false, .slice none 0 0], .int .i64 e1]) (by simp [results, Tryd.results20, go_sem, z0, z1, z2, z3, z4, z5, z6, z7, z8]) rfl ?_
    exact post _ (HO.out.below HB.out (by simp) HB.out.size)
  have eV : rdV n ls ms (.slice (some ⟨g, adv o c, none⟩) n c) = .slice (some ⟨g, adv o c, none⟩) n c := by
    unfold rdV
    rw [if_neg (by omega), if_neg (by omega)]
  have eR : rdE n ls ms = 0 := by
    unfold rdE
    rw [if_neg (by omega), if_neg (by omega)]
  rw [eV, eR] at hrd
  have hnb : plL k ≤ n ∧ n ≤ plM k := by
    have := HK.out
    omega
  have hn1 : 1 ≤ n := by
    have : ∀ k : Fin 9, k.val = 0 ∨ 1 ≤ plL k.val := by decide +kernel
    have := this ⟨k, by have := HK.out; omega⟩
    simp only at this
    omega
  have eadv : adv o c = o + 1 := adv_next (by have := HN.out; omega)
  rw [eadv] at hrd
  have eOk : E = if okF (fmF k) R n = true then 0 else 203 := by rw [HE.out.1, if_neg h0, if_neg (by omega), if_neg (by omega)]
  have eMv : M = if okF (fmF k) R n = true then mvF (fmF k) R (Mv.z ((k : Nat) : Int)) n else Mv.z 0 := by
    rw [HE.out.2.1, eOk]
    by_cases hq : okF (fmF k) R n = true
    · simp [hq]
    · simp [hq]
  have eMP := fun q => mvP_eq (R := R) ⟨HK.out.1, HK.out.2.1⟩ hnb q
  have hmv := fun b e hb he => pmvAny k n ⟨HK.out.1, HK.out.2.1⟩ hnb b g (o + 1) e R HA.out.2.2.2.1 hb he
  have HX : Hid (n ≤ c ∧ c + 1 ≤ 9223372036854775807) := by have := HN.out; exact ⟨by omega, by omega⟩
  obtain ⟨OK, hOK⟩ : ∃ y, okF (fmF k) R n = y := ⟨_, rfl⟩
  obtain ⟨m, hm⟩ : ∃ y, mvP k n R = y := ⟨_, rfl⟩
  have hpm : ∀ b e (w : World), Lo b w → b ∉ [2, 0, 5, 6] → RB w b (.slice (some ⟨g, o + 1, none⟩) n (e + n)) false → (∀ i, i < n → w.cell? ⟨g, o + 1 + i, none⟩ = some (.string (tx (R i)))) → g ≠ b → e + n ≤ 9223372036854775807 → Calls Tryd.prog 42 #[.pointer (some ⟨b, 0, none⟩), .int .i64 ((k : Nat) : Int)] w (MovP b m (!OK) w) := fun b e w p1 p2 p3 p4 p5 p6 => by
    rw [← hOK, ← hm]
    exact pmvAny k n ⟨HK.out.1, HK.out.2.1⟩ hnb b g (o + 1) e R HA.out.2.2.2.1 w p1 p2 p3 p4 p5 p6
  rw [hOK] at eOk eMv eMP
  rw [hm] at eMP
  have bad : OK = false → ∀ w', Below w.heap.size w w' → RdP M E w (.returned (.tuple #[.agg #[.int .i64 0, .int .i64 0, .int .i64 0, .int .i64 0, .int .i64 0, .int .u32 0, .int .i64 0, .bool false, .slice none 0 0], .int .i64 203])) w' := fun hq w' b => by
    rw [eMv, eOk, hq]
    exact RdP.nil0 b
  have good : OK = true → ∀ a cc w', Row8 w' a m.l cc m.b → Below w.heap.size w w' → (∀ y, a = some y → 0 < m.l → w.heap.size ≤ y.block) → RdP M E w (.returned (.tuple #[.agg #[.int .i64 m.k, .int .i64 m.c, .int .i64 m.s, .int .i64 m.f, .int .i64 m.a, .int .u32 (m.w : Nat), .int .i64 m.n, .bool m.h, .slice a m.l cc], .int .i64 0])) w' := fun hq a cc w' hr b fr => by
    rw [eMv, eOk, hq, if_pos rfl, if_pos rfl, ← eMP hq]
    exact ⟨a, cc, rfl, hr, b, fr⟩
  have HP : Hid (_) := And.intro bad (And.intro good hpm)
  clear bad good hpm eMP eMv eOk hOK hm hmv eadv eV eR hnb h1 h0 HE
  go_enter Tryd.func20, Tryd.ntmps20
  go_wp2_with fail
  try rw [hwa]
  clear hwa
  refine hk.mono ?_
  rintro r w' ⟨rfl, hw⟩
  rw [hw]
  clear hk hw c0
  go_wp2_with fail
  refine hpl.mono ?_
  rintro r w1 ⟨rfl, b1⟩
  have H1 : Hid (_) := b1
  clear hpl b1
  go_wp2_with fail
  refine (hrd _).mono ?_
  rintro r w2 ⟨rfl, b2⟩
  have H2 : Hid (Below wa.heap.size wa w2) := H1.out.trans (b2.mono H1.out.size)
  clear hrd b2 H1
  go_wp2_with fail
  have r3 : RB (w2.alloc (.cells #[.slice (some ⟨g, o + 1, none⟩) n c, .bool false] 91)) w2.heap.size (.slice (some ⟨g, o + 1, none⟩) n c) false := Bk.new _ _ _
  have b3 := belA (Below.refl _ w2) (.cells #[.slice (some ⟨g, o + 1, none⟩) n c, .bool false] 91)
  obtain ⟨w3, hw3⟩ : ∃ x, w2.alloc (.cells #[.slice (some ⟨g, o + 1, none⟩) n c, .bool false] 91) = x := ⟨_, rfl⟩
  rw [hw3] at r3 b3 ⊢
  obtain ⟨b, hb⟩ : ∃ x, w2.heap.size = x := ⟨_, rfl⟩
  rw [hb] at r3 ⊢
  have B3 : Below wa.heap.size wa w3 := H2.out.trans (b3.mono H2.out.size)
  have B3' : Below w.heap.size w w3 := HA.out.1.trans (B3.mono HA.out.1.size)
  have lb : wa.heap.size ≤ b := by rw [← hb]; exact H2.out.size
  have lbw : w.heap.size < b := by have := HA.out.2.1.lt; omega
  have lgb : g ≠ b := by have := HA.out.2.2.2.2.2; omega
  have hm := HP.out.2.2 b (c - n) w3 (fun wx ox => HA.out.2.2.2.2.1.below (ox.below B3' (by simp; omega) B3'.size)) (HA.out.2.2.2.2.1.glob (by omega)) (by rw [Nat.sub_add_cancel HX.out.1]; exact r3) (fun i hi => cellB (HA.out.2.2.1 i hi) B3') lgb (by have := HX.out; omega)
  have H3 : Hid (_) := And.intro B3 (And.intro B3' (And.intro lb lbw))
  clear r3 b3 hw3 hb B3 B3' lb lbw lgb H2
  refine Calls.mono hm ?_
  rintro r w4 ⟨a, cc, rfl, H4⟩
  clear hm
  obtain ⟨v4, r4⟩ := H4.out.2.1
  have B4 : Below wa.heap.size wa w4 := H4.out.2.2.1.below H3.out.1 (by have := H3.out.2.2; simp; omega) H3.out.1.size
  have e4 := r4.c.2.1
  have l4 := r4.c.2.2.2.2
  have H5 : Hid (_) := And.intro B4 (And.intro l4 (And.intro H3.out.2.2 (And.intro H4.out.1 (And.intro H4.out.2.2.2 H3.out.2.1))))
  clear r4 B4 l4 H3 H4
  go_upto_region 11 with fail
  have n5 := Bk.new w4 #[.int .i64 m.k, .int .i64 m.c, .int .i64 m.s, .int .i64 m.f, .int .i64 m.a, .int .u32 (m.w : Nat), .int .i64 m.n, .bool m.h, .slice a m.l cc] 45
  have b5 := belA (Below.refl _ w4) (.cells #[.int .i64 m.k, .int .i64 m.c, .int .i64 m.s, .int .i64 m.f, .int .i64 m.a, .int .u32 (m.w : Nat), .int .i64 m.n, .bool m.h, .slice a m.l cc] 45)
  obtain ⟨w6, hw6⟩ : ∃ x, w4.alloc (.cells #[.int .i64 m.k, .int .i64 m.c, .int .i64 m.s, .int .i64 m.f, .int .i64 m.a, .int .u32 (m.w : Nat), .int .i64 m.n, .bool m.h, .slice a m.l cc] 45) = x := ⟨_, rfl⟩
  rw [hw6] at n5 b5 ⊢
  obtain ⟨p, hp⟩ : ∃ x, w4.heap.size = x := ⟨_, rfl⟩
  rw [hp] at n5 ⊢
  have e6 : w6.cell? ⟨b, 1, none⟩ = some (.bool (!OK)) := cellB e4 b5
  have B6 : Below wa.heap.size wa w6 := H5.out.1.trans (b5.mono H5.out.1.size)
  have zB : Bk w6 w.heap.size #[.int .i64 0, .int .i64 0, .int .i64 0, .int .i64 0, .int .i64 0, .int .u32 0, .int .i64 0, .bool false, .slice none 0 0] 45 := HA.out.2.1.off (Off.of_below (l := []) B6) (by simp)
  have HB : Hid (Below w.heap.size w w6) := HA.out.1.trans (B6.mono HA.out.1.size)
  have HR : Hid (Row8 w6 a m.l cc m.b) := H5.out.2.2.2.1.below b5
  have HQ : Hid (∀ y, a = some y → 0 < m.l → w.heap.size < y.block) := fun y hy hn => by have := H5.out.2.2.2.2.1 y hy hn; have := H5.out.2.2.2.2.2.size; omega
  clear hw6 hp e4 b5 B6 H5
  cases OK with
  | false =>
    have post := HP.out.1 rfl
    have e6 : w6.cell? ⟨b, 1, none⟩ = some (.bool true) := e6
    clear n5
    have z0 : w6.cell? ⟨w.heap.size, 0, none⟩ = some (.int .i64 0) := zB.cell 0
    have z1 : w6.cell? ⟨w.heap.size, 1, none⟩ = some (.int .i64 0) := zB.cell 1
    have z2 : w6.cell? ⟨w.heap.size, 2, none⟩ = some (.int .i64 0) := zB.cell 2
    have z3 : w6.cell? ⟨w.heap.size, 3, none⟩ = some (.int .i64 0) := zB.cell 3
    have z4 : w6.cell? ⟨w.heap.size, 4, none⟩ = some (.int .i64 0) := zB.cell 4
    have z5 : w6.cell? ⟨w.heap.size, 5, none⟩ = some (.int .u32 0) := zB.cell 5
    have z6 : w6.cell? ⟨w.heap.size, 6, none⟩ = some (.int .i64 0) := zB.cell 6
    have z7 : w6.cell? ⟨w.heap.size, 7, none⟩ = some (.bool false) := zB.cell 7
    have z8 : w6.cell? ⟨w.heap.size, 8, none⟩ = some (.slice none 0 0) := zB.cell 8
    have fz := zB.fz
    have HO : Hid (Off [w.heap.size] w6 (((((((((w6.setCell ⟨w.heap.size, 0, none⟩ (.int .i64 0)).setCell ⟨w.heap.size, 1, none⟩ (.int .i64 0)).setCell ⟨w.heap.size, 2, none⟩ (.int .i64 0)).setCell ⟨w.heap.size, 3, none⟩ (.int .i64 0)).setCell ⟨w.heap.size, 4, none⟩ (.int .i64 0)).setCell ⟨w.heap.size, 5, none⟩ (.int .u32 0)).setCell ⟨w.heap.size, 6, none⟩ (.int .i64 0)).setCell ⟨w.heap.size, 7, none⟩ (.bool false)).setCell ⟨w.heap.size, 8, none⟩ (.slice none 0 0))) := Off.trans (Off.trans (Off.trans (Off.trans (Off.trans (Off.trans (Off.trans (Off.trans (Off.trans (Off.refl [w.heap.size] w6) (Off.setCell w.heap.size 0 _ _)) (Off.setCell w.heap.size 1 _ _)) (Off.setCell w.heap.size 2 _ _)) (Off.setCell w.heap.size 3 _ _)) (Off.setCell w.heap.size 4 _ _)) (Off.setCell w.heap.size 5 _ _)) (Off.setCell w.heap.size 6 _ _)) (Off.setCell w.heap.size 7 _ _)) (Off.setCell w.heap.size 8 _ _)
    clear zB
    go_wp2_with fail
    refine bodyPost_ret (v := .tuple #[.agg #[.int .i64 0, .int .i64 0, .int .i64 0, .int .i64 0, .int .i64 0, .int .u32 0, .int .i64 0, .bool false, .slice none 0 0], .int .i64 203]) (by simp [results, Tryd.results20, go_sem, z0, z1, z2, z3, z4, z5, z6, z7, z8]) rfl ?_
    exact post _ (HO.out.below HB.out (by simp) HB.out.size)
  | true =>
    have e6 : w6.cell? ⟨b, 1, none⟩ = some (.bool false) := e6
    have p0 : w6.cell? ⟨p, 0, none⟩ = some (.int .i64 m.k) := n5.cell 0
    have p1 : w6.cell? ⟨p, 1, none⟩ = some (.int .i64 m.c) := n5.cell 1
    have p2 : w6.cell? ⟨p, 2, none⟩ = some (.int .i64 m.s) := n5.cell 2
    have p3 : w6.cell? ⟨p, 3, none⟩ = some (.int .i64 m.f) := n5.cell 3
    have p4 : w6.cell? ⟨p, 4, none⟩ = some (.int .i64 m.a) := n5.cell 4
    have p5 : w6.cell? ⟨p, 5, none⟩ = some (.int .u32 (m.w : Nat)) := n5.cell 5
    have p6 : w6.cell? ⟨p, 6, none⟩ = some (.int .i64 m.n) := n5.cell 6
    have p7 : w6.cell? ⟨p, 7, none⟩ = some (.bool m.h) := n5.cell 7
    have p8 : w6.cell? ⟨p, 8, none⟩ = some (.slice a m.l cc) := n5.cell 8
    have z0 : w6.cell? ⟨w.heap.size, 0, none⟩ = some (.int .i64 0) := zB.cell 0
    have z1 : w6.cell? ⟨w.heap.size, 1, none⟩ = some (.int .i64 0) := zB.cell 1
    have z2 : w6.cell? ⟨w.heap.size, 2, none⟩ = some (.int .i64 0) := zB.cell 2
    have z3 : w6.cell? ⟨w.heap.size, 3, none⟩ = some (.int .i64 0) := zB.cell 3
    have z4 : w6.cell? ⟨w.heap.size, 4, none⟩ = some (.int .i64 0) := zB.cell 4
    have z5 : w6.cell? ⟨w.heap.size, 5, none⟩ = some (.int .u32 0) := zB.cell 5
    have z6 : w6.cell? ⟨w.heap.size, 6, none⟩ = some (.int .i64 0) := zB.cell 6
    have z7 : w6.cell? ⟨w.heap.size, 7, none⟩ = some (.bool false) := zB.cell 7
    have z8 : w6.cell? ⟨w.heap.size, 8, none⟩ = some (.slice none 0 0) := zB.cell 8
    have fz := zB.fz
    have HO : Hid (Off [w.heap.size] w6 (((((((((w6.setCell ⟨w.heap.size, 0, none⟩ (.int .i64 m.k)).setCell ⟨w.heap.size, 1, none⟩ (.int .i64 m.c)).setCell ⟨w.heap.size, 2, none⟩ (.int .i64 m.s)).setCell ⟨w.heap.size, 3, none⟩ (.int .i64 m.f)).setCell ⟨w.heap.size, 4, none⟩ (.int .i64 m.a)).setCell ⟨w.heap.size, 5, none⟩ (.int .u32 (m.w : Nat))).setCell ⟨w.heap.size, 6, none⟩ (.int .i64 m.n)).setCell ⟨w.heap.size, 7, none⟩ (.bool m.h)).setCell ⟨w.heap.size, 8, none⟩ (.slice a m.l cc))) := Off.trans (Off.trans (Off.trans (Off.trans (Off.trans (Off.trans (Off.trans (Off.trans (Off.trans (Off.refl [w.heap.size] w6) (Off.setCell w.heap.size 0 _ _)) (Off.setCell w.heap.size 1 _ _)) (Off.setCell w.heap.size 2 _ _)) (Off.setCell w.heap.size 3 _ _)) (Off.setCell w.heap.size 4 _ _)) (Off.setCell w.heap.size 5 _ _)) (Off.setCell w.heap.size 6 _ _)) (Off.setCell w.heap.size 7 _ _)) (Off.setCell w.heap.size 8 _ _)
    clear n5 zB
    go_wp2_with fail
    refine bodyPost_ret (v := .tuple #[.agg #[.int .i64 m.k, .int .i64 m.c, .int .i64 m.s, .int .i64 m.f, .int .i64 m.a, .int .u32 (m.w : Nat), .int .i64 m.n, .bool m.h, .slice a m.l cc], .int .i64 0]) (by simp [results, Tryd.results20, go_sem, z0, z1, z2, z3, z4, z5, z6, z7, z8]) rfl ?_
    refine HP.out.2.1 trivial a cc _ (HR.out.offS HO.out (fun y hy hn => ?_)) (HO.out.below HB.out (by simp) HB.out.size) (fun y hy hn => by have := HQ.out y hy hn; omega)
    have := HQ.out y hy hn
    simp
    omega
end Go.Proofs.YtnmnjcjfgbpkaaaDoor

