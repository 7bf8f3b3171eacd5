/- Layer 20: the walk of ScriptParses. (genlspa.py) -/
import Derived.Test.YtnmnjcjfgbpkaaaDoorJSqa
import Derived.Test.YtnmnjcjfgbpkaaaDoorJSq7
import Derived.Test.YtnmnjcjfgbpkaaaDoorJSrd
namespace Go.Proofs.YtnmnjcjfgbpkaaaDoor
set_option maxRecDepth 100000
open Go.RowKit Go.Maps
set_option maxRecDepth 100000
set_option linter.unusedVariables false
theorem ps_le (l : List UInt8) : (psSn l).Z.l0 ≤ l.length + 1 ∧ (psSn l).Z.l1 ≤ l.length + 1 ∧ (psSn l).M.length ≤ l.length + 1 := by
  unfold psSn
  split
  · have h := Sn.all_le Sn.zero (lnOf l)
    have h2 := (lnOf_size l).2
    have z0 : Sn.zero.Z.l0 = 0 := rfl
    have z1 : Sn.zero.Z.l1 = 0 := rfl
    have z2 : Sn.zero.M.length = 0 := rfl
    omega
  · exact ⟨Nat.zero_le _, Nat.zero_le _, Nat.zero_le _⟩
set_option maxHeartbeats 4000000 in
theorem scriptParses_any (l : List UInt8) (mx : Int) (w : World) (hmx : w.cell? ⟨1, 0, none⟩ = some (.int .i64 mx)) (Lv : Lw w) : Calls Tryd.prog 3 #[.string (tx l)] w fun r w' => r = .returned (.bool true) ∧ Below w.heap.size w w' := by
  have ha := awake20 w Lv
  have hXs : (tx l).size = l.length := tx_size l
  have HA : Hid (Lw w ∧ w.cell? ⟨1, 0, none⟩ = some (.int .i64 mx)) := ⟨Lv, hmx⟩
  clear Lv hmx
  by_cases hg : l.length ≤ 65536
  rotate_left
  · have q1 : (65536 : Int) < (((tx l).size : Nat) : Int) := by omega
    obtain ⟨X, hX⟩ : ∃ y, tx l = y := ⟨_, rfl⟩
    rw [hX] at q1 ⊢
    clear hg hX hXs
    go_enter Tryd.func3, Tryd.ntmps3
    go_wp2_with fail
    refine ha.mono ?_
    rintro r w1 ⟨rfl, b1⟩
    have HB : Hid (Below w.heap.size w w1) := b1
    clear ha b1
    go_wp2_with fail
    go_ret
    exact ⟨rfl, HB.out⟩
  have q1 : ¬ (65536 : Int) < (((tx l).size : Nat) : Int) := by omega
  have hp : ∀ wx, Below w.heap.size w wx → Calls Tryd.prog 8 #[.string (tx l)] wx (PaP (psSn l) (psBad l).1 (psBad l).2 wx) := fun wx p => pparse l (by omega) wx (HA.out.1.below p) mx (World.block_lt_of_cell? wx _ (cellB HA.out.2 p)) (cellB HA.out.2 p)
  have hr : ∀ wx, Calls Tryd.prog 9 #[.string (tx l)] wx (PaP (psSn l) (psBad l).1 (psBad l).2 wx) := fun wx => rparse l (by omega) wx
  have hle := ps_le l
  obtain ⟨⟨Z, M⟩, hS⟩ : ∃ y, psSn l = y := ⟨_, rfl⟩
  obtain ⟨t, ht⟩ : ∃ y, (psBad l).1 = y := ⟨_, rfl⟩
  obtain ⟨e, he⟩ : ∃ y, (psBad l).2 = y := ⟨_, rfl⟩
  rw [hS, ht, he] at hp hr
  rw [hS] at hle
  obtain ⟨X, hX⟩ : ∃ y, tx l = y := ⟨_, rfl⟩
  rw [hX] at hp hr q1 ⊢
  have HLe : Hid (Z.l0 ≤ 1000000 ∧ Z.l1 ≤ 1000000 ∧ M.length ≤ 1000000) := ⟨by have := hle.1; simp only at this; omega, by have := hle.2.1; simp only at this; omega, by have := hle.2.2; simp only at this; omega⟩
  have HC : Hid (_) := And.intro hp hr
  clear hp hr hX hXs hS ht he hle hg
  obtain ⟨n, hn⟩ : ∃ y, M.length = y := ⟨_, rfl⟩
  go_enter Tryd.func3, Tryd.ntmps3
  go_wp2_with fail
  refine ha.mono ?_
  rintro r w1 ⟨rfl, b1⟩
  have HB1 : Hid (Below w.heap.size w w1) := b1
  have hP := HC.out.1 w1 b1
  clear ha b1
  go_wp2_with fail
  refine Calls.mono hP ?_
  rintro r w2 ⟨a0, c0, a1, c1, al, cl, D, rfl, H2⟩
  clear hP
  have HB2 : Hid (Below w.heap.size w w2 ∧ PRow w2 a0 Z.l0 Z.P0 ∧ PRow w2 a1 Z.l1 Z.P1 ∧ MvRow w2 al M.length (mvL M) D) := ⟨HB1.out.trans (H2.out.2.2.2.mono HB1.out.size), H2.out.1, H2.out.2.1, H2.out.2.2.1⟩
  clear H2 HB1
  simp only
  rw [hn] at HB2 ⊢
  have k3 := Bk.new w2 #[.slice a0 Z.l0 c0, .slice a1 Z.l1 c1, .int .u32 (Z.ms : Nat)] 26
  have b3 := belA (Below.refl _ w2) (.cells #[.slice a0 Z.l0 c0, .slice a1 Z.l1 c1, .int .u32 (Z.ms : Nat)] 26)
  obtain ⟨w3, hw3⟩ : ∃ y, w2.alloc (.cells #[.slice a0 Z.l0 c0, .slice a1 Z.l1 c1, .int .u32 (Z.ms : Nat)] 26) = y := ⟨_, rfl⟩
  rw [hw3] at k3 b3
  obtain ⟨ba, hba⟩ : ∃ y, w2.heap.size = y := ⟨_, rfl⟩
  rw [hba] at k3
  have HB3 : Hid (Below w.heap.size w w3 ∧ PRow w3 a0 Z.l0 Z.P0 ∧ PRow w3 a1 Z.l1 Z.P1 ∧ MvRow w3 al n (mvL M) D ∧ Bk w3 ba #[.slice a0 Z.l0 c0, .slice a1 Z.l1 c1, .int .u32 (Z.ms : Nat)] 26) := ⟨HB2.out.1.trans (b3.mono HB2.out.1.size), HB2.out.2.1.below b3, HB2.out.2.2.1.below b3, HB2.out.2.2.2.below b3, k3⟩
  have hR := HC.out.2 w3
  go_upto_region 6 with fail
  try rw [hw3, hba]
  clear hw3 hba k3 b3 HB2
  go_wp2_with fail
  refine Calls.mono hR ?_
  rintro r w4 ⟨d0, e0, d1, e1, am, cm, E, rfl, H4⟩
  clear hR
  have b4 := H4.out.2.2.2
  have HB4 : Hid (Below w.heap.size w w4 ∧ PRow w4 a0 Z.l0 Z.P0 ∧ PRow w4 a1 Z.l1 Z.P1 ∧ MvRow w4 al n (mvL M) D ∧ Bk w4 ba #[.slice a0 Z.l0 c0, .slice a1 Z.l1 c1, .int .u32 (Z.ms : Nat)] 26 ∧ PRow w4 d0 Z.l0 Z.P0 ∧ PRow w4 d1 Z.l1 Z.P1 ∧ MvRow w4 am M.length (mvL M) E) := ⟨HB3.out.1.trans (b4.mono HB3.out.1.size), HB3.out.2.1.below b4, HB3.out.2.2.1.below b4, HB3.out.2.2.2.1.below b4, HB3.out.2.2.2.2.off (Off.of_below (l := []) b4) (by simp), H4.out.1, H4.out.2.1, H4.out.2.2.1⟩
  clear H4 b4 HB3
  simp only
  rw [hn] at HB4 ⊢
  have k5 := Bk.new w4 #[.slice d0 Z.l0 e0, .slice d1 Z.l1 e1, .int .u32 (Z.ms : Nat)] 26
  have b5 := belA (Below.refl _ w4) (.cells #[.slice d0 Z.l0 e0, .slice d1 Z.l1 e1, .int .u32 (Z.ms : Nat)] 26)
  obtain ⟨w5, hw5⟩ : ∃ y, w4.alloc (.cells #[.slice d0 Z.l0 e0, .slice d1 Z.l1 e1, .int .u32 (Z.ms : Nat)] 26) = y := ⟨_, rfl⟩
  rw [hw5] at k5 b5
  obtain ⟨bb, hbb⟩ : ∃ y, w4.heap.size = y := ⟨_, rfl⟩
  rw [hbb] at k5
  have HB5 : Hid (Below w.heap.size w w5 ∧ PRow w5 a0 Z.l0 Z.P0 ∧ PRow w5 a1 Z.l1 Z.P1 ∧ MvRow w5 al n (mvL M) D ∧ Bk w5 ba #[.slice a0 Z.l0 c0, .slice a1 Z.l1 c1, .int .u32 (Z.ms : Nat)] 26 ∧ PRow w5 d0 Z.l0 Z.P0 ∧ PRow w5 d1 Z.l1 Z.P1 ∧ MvRow w5 am n (mvL M) E ∧ Bk w5 bb #[.slice d0 Z.l0 e0, .slice d1 Z.l1 e1, .int .u32 (Z.ms : Nat)] 26) := ⟨HB4.out.1.trans (b5.mono HB4.out.1.size), HB4.out.2.1.below b5, HB4.out.2.2.1.below b5, HB4.out.2.2.2.1.below b5, HB4.out.2.2.2.2.1.off (Off.of_below (l := []) b5) (by simp), HB4.out.2.2.2.2.2.1.below b5, HB4.out.2.2.2.2.2.2.1.below b5, HB4.out.2.2.2.2.2.2.2.below b5, k5⟩
  go_upto_region 7 with fail
  try rw [hw5, hbb]
  clear hw5 hbb k5 b5 HB4
  have p0 : w5.cell? ⟨ba, 0, none⟩ = some (.slice a0 Z.l0 c0) := HB5.out.2.2.2.2.1.cell 0
  have p1 : w5.cell? ⟨ba, 1, none⟩ = some (.slice a1 Z.l1 c1) := HB5.out.2.2.2.2.1.cell 1
  have p2 : w5.cell? ⟨ba, 2, none⟩ = some (.int .u32 (Z.ms : Nat)) := HB5.out.2.2.2.2.1.cell 2
  have s0 : w5.cell? ⟨bb, 0, none⟩ = some (.slice d0 Z.l0 e0) := HB5.out.2.2.2.2.2.2.2.2.cell 0
  have s1 : w5.cell? ⟨bb, 1, none⟩ = some (.slice d1 Z.l1 e1) := HB5.out.2.2.2.2.2.2.2.2.cell 1
  have s2 : w5.cell? ⟨bb, 2, none⟩ = some (.int .u32 (Z.ms : Nat)) := HB5.out.2.2.2.2.2.2.2.2.cell 2
  have hQ := rsameN a0 a1 d0 d1 Z.l0 Z.l1 c0 c1 e0 e1 Z.ms Z.P0 Z.P1 w5 HB5.out.2.1.psrow HB5.out.2.2.1.psrow HB5.out.2.2.2.2.2.1.psrow HB5.out.2.2.2.2.2.2.1.psrow HLe.out.1 HLe.out.2.1
  have HN : Hid (n ≤ 1000000) := by show n ≤ 1000000; have := HLe.out.2.2; omega
  clear hn
  go_wp2_with fail
  refine hQ.mono ?_
  rintro r w6 ⟨rfl, b6⟩
  have hV := rsameMs al am n cl cm (mvL M) D E w6 (HB5.out.2.2.2.1.below b6) (HB5.out.2.2.2.2.2.2.2.1.below b6) HN.out
  have HB6 : Hid (Below w.heap.size w w6) := HB5.out.1.trans (b6.mono HB5.out.1.size)
  clear hQ b6 HB5 p0 p1 p2 s0 s1 s2
  go_wp2_with fail
  refine hV.mono ?_
  rintro r w7 ⟨rfl, b7⟩
  have HB7 : Hid (Below w.heap.size w w7) := HB6.out.trans (b7.mono HB6.out.size)
  clear hV b7 HB6
  go_wp2_with fail
  go_ret
  exact ⟨by simp, HB7.out⟩
end Go.Proofs.YtnmnjcjfgbpkaaaDoor
