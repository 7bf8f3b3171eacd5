/- Layer 20: the walk of ScriptReads. (genlsre.py) -/
import Derived.Test.YtiikebaehoobnaaDoorJSx1
import Derived.Test.YtiikebaehoobnaaDoorJSrd
namespace Go.Proofs.YtiikebaehoobnaaDoor
set_option maxRecDepth 100000
open Go.RowKit Go.Maps
set_option maxRecDepth 100000
set_option linter.unusedVariables false
theorem Nt.hd_le (Z : Nt) (N : Nat) (L : Nat → List UInt8) : (Z.hd N L).l0 ≤ Z.l0 + 1 ∧ (Z.hd N L).l1 ≤ Z.l1 + 1 := by
  unfold Nt.hd Nt.put
  repeat' split
  all_goals simp
set_option maxHeartbeats 4000000 in
theorem scriptReads_any (aw : Option Addr) (N C : Nat) (hNC : N ≤ C) (hC : C ≤ 9223372036854775807) (L : Nat → List UInt8) (hL : ∀ i, i < N → (L i).length ≤ 281474976710656) (hn : aw = none → N = 0 ∧ C = 0) (Z : Nt) (a0 a1 : Option Addr) (c0 c1 : Nat) (n0 : a0 = none → Z.l0 = 0 ∧ c0 = 0) (n1 : a1 = none → Z.l1 = 0 ∧ c1 = 0) (w : World) (h0 : PRow w a0 Z.l0 Z.P0) (h1 : PRow w a1 Z.l1 Z.P1) (h : WsRow w aw N L) (Lv : Lw w) : Calls Tryd.prog 4 #[.slice aw N C, .agg #[.slice a0 Z.l0 c0, .slice a1 Z.l1 c1, .int .u32 (Z.ms : Nat)]] w fun r w' => r = .returned (.bool true) ∧ Below w.heap.size w w' := by
  have kb := Bk.new w #[.slice a0 Z.l0 c0, .slice a1 Z.l1 c1, .int .u32 (Z.ms : Nat)] 25
  have bb := belA (Below.refl _ w) (.cells #[.slice a0 Z.l0 c0, .slice a1 Z.l1 c1, .int .u32 (Z.ms : Nat)] 25)
  obtain ⟨wb, hwb⟩ : ∃ y, w.alloc (.cells #[.slice a0 Z.l0 c0, .slice a1 Z.l1 c1, .int .u32 (Z.ms : Nat)] 25) = y := ⟨_, rfl⟩
  rw [hwb] at kb bb
  have ha := awake20 wb (Lv.below bb)
  have HA : Hid (_) := And.intro kb (And.intro bb (And.intro h0 (And.intro h1 (And.intro h (And.intro Lv (And.intro hL (And.intro hn (And.intro n0 (And.intro n1 (And.intro hNC hC))))))))))
  clear kb bb h0 h1 h Lv hL hn n0 n1 hNC hC
  by_cases hg : N ≤ 50 ∧ Z.l0 ≤ 100 ∧ Z.l1 ≤ 100
  rotate_left
  · have three : (50 : Int) < ((N : Nat) : Int) ∨ (¬ (50 : Int) < ((N : Nat) : Int) ∧ (100 : Int) < ((Z.l0 : Nat) : Int)) ∨ (¬ (50 : Int) < ((N : Nat) : Int) ∧ ¬ (100 : Int) < ((Z.l0 : Nat) : Int) ∧ (100 : Int) < ((Z.l1 : Nat) : Int)) := by omega
    clear hg
    rcases three with q1 | ⟨q1, q2⟩ | ⟨q1, q2, q3⟩
    all_goals
      go_enter Tryd.func4, Tryd.ntmps4
      go_wp2_with fail
      try rw [hwb]
      clear hwb
      refine ha.mono ?_
      rintro r w1 ⟨rfl, b1⟩
      have k1 := HA.out.1.off (Off.of_below (l := []) b1) (by simp)
      have m0 : w1.cell? ⟨w.heap.size, 0, none⟩ = some (.slice a0 Z.l0 c0) := k1.cell 0
      have m1 : w1.cell? ⟨w.heap.size, 1, none⟩ = some (.slice a1 Z.l1 c1) := k1.cell 1
      have HB : Hid (Below w.heap.size w w1) := HA.out.2.1.trans (b1.mono HA.out.2.1.size)
      clear ha k1 b1
      go_wp2_with fail
      go_ret
      exact ⟨rfl, HB.out⟩
  have q1 : ¬ (50 : Int) < ((N : Nat) : Int) := by omega
  have q2 : ¬ (100 : Int) < ((Z.l0 : Nat) : Int) := by omega
  have q3 : ¬ (100 : Int) < ((Z.l1 : Nat) : Int) := by omega
  have HG : Hid (_) := hg
  have hle := Z.hd_le N L
  obtain ⟨m, hm⟩ : ∃ y, rdM N L = y := ⟨_, rfl⟩
  obtain ⟨e, he⟩ : ∃ y, rdEr N L = y := ⟨_, rfl⟩
  obtain ⟨Y, hY⟩ : ∃ y, Z.hd N L = y := ⟨_, rfl⟩
  obtain ⟨is, his⟩ : ∃ y, hdIs N L = y := ⟨_, rfl⟩
  obtain ⟨f, hf⟩ : ∃ y, hdEr N L = y := ⟨_, rfl⟩
  rw [hY] at hle
  have HLe : Hid (_) := hle
  have hpr : ∀ (g c : Nat) (wx : World), N ≤ c → c ≤ 9223372036854775807 → Below w.heap.size w wx → WsRow wx (some ⟨g, 0, none⟩) N L → Calls Tryd.prog 14 #[.slice (some ⟨g, 0, none⟩) N c] wx (RdP m e wx) := fun g c wx p1 p2 p3 p4 => by
    rw [← hm, ← he]
    exact pread _ N c p1 p2 L HA.out.2.2.2.2.2.2.1 wx (HA.out.2.2.2.2.2.1.below p3) p4
  have hrr : ∀ (wx : World), Below w.heap.size w wx → Calls Tryd.prog 15 #[.slice aw N C] wx (RdP m e wx) := fun wx p3 => by
    rw [← hm, ← he]
    exact rread aw N C (by have := HG.out; omega) L wx (HA.out.2.2.2.2.1.below p3)
  have hcp : ∀ (wx : World), Below w.heap.size w wx → Calls Tryd.prog 17 #[.agg #[.slice a0 Z.l0 c0, .slice a1 Z.l1 c1, .int .u32 (Z.ms : Nat)]] wx fun r w' => ∃ y0 k0 y1 k1, r = .returned (.agg #[.slice y0 Z.l0 k0, .slice y1 Z.l1 k1, .int .u32 (Z.ms : Nat)]) ∧ PRow w' y0 Z.l0 Z.P0 ∧ PRow w' y1 Z.l1 Z.P1 ∧ Below wx.heap.size wx w' := fun wx p3 => by
    have g := HG.out
    exact ncopied a0 Z.l0 c0 Z.P0 a1 Z.l1 c1 Z.P1 Z.ms wx (HA.out.2.2.1.below p3) (HA.out.2.2.2.1.below p3) ⟨by omega, HA.out.2.2.2.2.2.2.2.2.1⟩ ⟨by omega, HA.out.2.2.2.2.2.2.2.2.2.1⟩
  have hph : ∀ (y0 y1 : Option Addr) (k0 k1 g c : Nat) (wx : World), N ≤ c → c ≤ 9223372036854775807 → Below w.heap.size w wx → PRow wx y0 Z.l0 Z.P0 → PRow wx y1 Z.l1 Z.P1 → WsRow wx (some ⟨g, 0, none⟩) N L → Calls Tryd.prog 16 #[.agg #[.slice y0 Z.l0 k0, .slice y1 Z.l1 k1, .int .u32 (Z.ms : Nat)], .slice (some ⟨g, 0, none⟩) N c] wx (HdP Y is f wx) := fun y0 y1 k0 k1 g c wx p1 p2 p3 p4 p5 p6 => by
    have gg := HG.out
    rw [← hY, ← his, ← hf]
    exact phead Z y0 y1 k0 k1 (by omega) (by omega) _ N c p1 p2 L HA.out.2.2.2.2.2.2.1 wx (HA.out.2.2.2.2.2.1.below p3) p4 p5 p6
  have hrh : ∀ (wx : World), Below w.heap.size w wx → Calls Tryd.prog 18 #[.agg #[.slice a0 Z.l0 c0, .slice a1 Z.l1 c1, .int .u32 (Z.ms : Nat)], .slice aw N C] wx (HrP Y is f wx) := fun wx p3 => by
    have gg := HG.out
    rw [← hY, ← his, ← hf]
    exact rhead Z (by omega) (by omega) a0 a1 c0 c1 HA.out.2.2.2.2.2.2.2.2.1 HA.out.2.2.2.2.2.2.2.2.2.1 aw N C L wx (HA.out.2.2.1.below p3) (HA.out.2.2.2.1.below p3) (HA.out.2.2.2.2.1.below p3)
  have HC : Hid (_) := And.intro hpr (And.intro hrr (And.intro hcp (And.intro hph hrh)))
  clear hpr hrr hcp hph hrh hm he hY his hf hle hg
  go_enter Tryd.func4, Tryd.ntmps4
  go_wp2_with fail
  try rw [hwb]
  clear hwb
  refine ha.mono ?_
  rintro r w1 ⟨rfl, b1⟩
  have k1 := HA.out.1.off (Off.of_below (l := []) b1) (by simp)
  have m0 : w1.cell? ⟨w.heap.size, 0, none⟩ = some (.slice a0 Z.l0 c0) := k1.cell 0
  have m1 : w1.cell? ⟨w.heap.size, 1, none⟩ = some (.slice a1 Z.l1 c1) := k1.cell 1
  have HB1 : Hid (Below w.heap.size w w1 ∧ Bk w1 w.heap.size #[.slice a0 Z.l0 c0, .slice a1 Z.l1 c1, .int .u32 (Z.ms : Nat)] 25) := ⟨HA.out.2.1.trans (b1.mono HA.out.2.1.size), k1⟩
  clear ha k1 b1
  go_upto_region 5 with fail
  clear m0 m1 q1 q2 q3
  have ws1 := HA.out.2.2.2.2.1.below HB1.out.1
  have hn1 := HA.out.2.2.2.2.2.2.2.1
  have hN5 : N ≤ 1000000 := by have := HG.out; omega
  go_wp2_with (at_builtin; refine wpList_copyS rfl _ _ rfl rfl aw N C L rfl ws1 hn1 hN5 ?_)
  intro g c w2 H2
  clear ws1
  have B2 : Below w.heap.size w w2 := HB1.out.1.trans (H2.out.2.2.2.mono HB1.out.1.size)
  have hR := HC.out.1 g c w2 H2.out.2.1 H2.out.2.2.1 B2 (own_ws H2.out.1)
  have HB2 : Hid (Below w.heap.size w w2 ∧ Bk w2 w.heap.size #[.slice a0 Z.l0 c0, .slice a1 Z.l1 c1, .int .u32 (Z.ms : Nat)] 25) := ⟨B2, HB1.out.2.off (Off.of_below (l := []) H2.out.2.2.2) (by simp)⟩
  clear B2 HB1 H2
  go_wp2_with fail
  refine Calls.mono hR ?_
  rintro r w3 ⟨am, cm, rfl, H3⟩
  clear hR
  have HB3 : Hid (Below w.heap.size w w3 ∧ Bk w3 w.heap.size #[.slice a0 Z.l0 c0, .slice a1 Z.l1 c1, .int .u32 (Z.ms : Nat)] 25 ∧ Row8 w3 am m.l cm m.b) := ⟨HB2.out.1.trans (H3.out.2.mono HB2.out.1.size), HB2.out.2.off (Off.of_below (l := []) H3.out.2) (by simp), H3.out.1⟩
  clear HB2 H3
  have k4 := Bk.new w3 #[.int .i64 m.k, .int .i64 m.c, .int .i64 m.s, .int .i64 m.f, .int .i64 m.a, .int .u32 (m.w : Nat), .int .i64 m.n, .bool m.h, .slice am m.l cm] 34
  have b4 := belA (Below.refl _ w3) (.cells #[.int .i64 m.k, .int .i64 m.c, .int .i64 m.s, .int .i64 m.f, .int .i64 m.a, .int .u32 (m.w : Nat), .int .i64 m.n, .bool m.h, .slice am m.l cm] 34)
  obtain ⟨w4, hw4⟩ : ∃ y, w3.alloc (.cells #[.int .i64 m.k, .int .i64 m.c, .int .i64 m.s, .int .i64 m.f, .int .i64 m.a, .int .u32 (m.w : Nat), .int .i64 m.n, .bool m.h, .slice am m.l cm] 34) = y := ⟨_, rfl⟩
  rw [hw4] at k4 b4
  obtain ⟨bm, hbm⟩ : ∃ y, w3.heap.size = y := ⟨_, rfl⟩
  rw [hbm] at k4
  have HB4 : Hid (Below w.heap.size w w4 ∧ Bk w4 w.heap.size #[.slice a0 Z.l0 c0, .slice a1 Z.l1 c1, .int .u32 (Z.ms : Nat)] 25 ∧ Row8 w4 am m.l cm m.b ∧ Bk w4 bm #[.int .i64 m.k, .int .i64 m.c, .int .i64 m.s, .int .i64 m.f, .int .i64 m.a, .int .u32 (m.w : Nat), .int .i64 m.n, .bool m.h, .slice am m.l cm] 34) := ⟨HB3.out.1.trans (b4.mono HB3.out.1.size), HB3.out.2.1.off (Off.of_below (l := []) b4) (by simp), HB3.out.2.2.below b4, k4⟩
  have hX := HC.out.2.1 w4 HB4.out.1
  go_upto_region 6 with fail
  try rw [hw4, hbm]
  clear hw4 hbm k4 b4 HB3
  go_wp2_with fail
  refine Calls.mono hX ?_
  rintro r w5 ⟨ax, cx, rfl, H5⟩
  clear hX
  have HB5 : Hid (Below w.heap.size w w5 ∧ Bk w5 w.heap.size #[.slice a0 Z.l0 c0, .slice a1 Z.l1 c1, .int .u32 (Z.ms : Nat)] 25 ∧ Row8 w5 am m.l cm m.b ∧ Bk w5 bm #[.int .i64 m.k, .int .i64 m.c, .int .i64 m.s, .int .i64 m.f, .int .i64 m.a, .int .u32 (m.w : Nat), .int .i64 m.n, .bool m.h, .slice am m.l cm] 34 ∧ Row8 w5 ax m.l cx m.b) := ⟨HB4.out.1.trans (H5.out.2.mono HB4.out.1.size), HB4.out.2.1.off (Off.of_below (l := []) H5.out.2) (by simp), HB4.out.2.2.1.below H5.out.2, HB4.out.2.2.2.off (Off.of_below (l := []) H5.out.2) (by simp), H5.out.1⟩
  clear HB4 H5
  have k6 := Bk.new w5 #[.int .i64 m.k, .int .i64 m.c, .int .i64 m.s, .int .i64 m.f, .int .i64 m.a, .int .u32 (m.w : Nat), .int .i64 m.n, .bool m.h, .slice ax m.l cx] 34
  have b6 := belA (Below.refl _ w5) (.cells #[.int .i64 m.k, .int .i64 m.c, .int .i64 m.s, .int .i64 m.f, .int .i64 m.a, .int .u32 (m.w : Nat), .int .i64 m.n, .bool m.h, .slice ax m.l cx] 34)
  obtain ⟨w6, hw6⟩ : ∃ y, w5.alloc (.cells #[.int .i64 m.k, .int .i64 m.c, .int .i64 m.s, .int .i64 m.f, .int .i64 m.a, .int .u32 (m.w : Nat), .int .i64 m.n, .bool m.h, .slice ax m.l cx] 34) = y := ⟨_, rfl⟩
  rw [hw6] at k6 b6
  obtain ⟨bx, hbx⟩ : ∃ y, w5.heap.size = y := ⟨_, rfl⟩
  rw [hbx] at k6
  have HB6 : Hid (Below w.heap.size w w6 ∧ Bk w6 w.heap.size #[.slice a0 Z.l0 c0, .slice a1 Z.l1 c1, .int .u32 (Z.ms : Nat)] 25 ∧ Row8 w6 am m.l cm m.b ∧ Bk w6 bm #[.int .i64 m.k, .int .i64 m.c, .int .i64 m.s, .int .i64 m.f, .int .i64 m.a, .int .u32 (m.w : Nat), .int .i64 m.n, .bool m.h, .slice am m.l cm] 34 ∧ Row8 w6 ax m.l cx m.b ∧ Bk w6 bx #[.int .i64 m.k, .int .i64 m.c, .int .i64 m.s, .int .i64 m.f, .int .i64 m.a, .int .u32 (m.w : Nat), .int .i64 m.n, .bool m.h, .slice ax m.l cx] 34) := ⟨HB5.out.1.trans (b6.mono HB5.out.1.size), HB5.out.2.1.off (Off.of_below (l := []) b6) (by simp), HB5.out.2.2.1.below b6, HB5.out.2.2.2.1.off (Off.of_below (l := []) b6) (by simp), HB5.out.2.2.2.2.below b6, k6⟩
  go_upto_region 7 with fail
  try rw [hw6, hbx]
  clear hw6 hbx k6 b6 HB5
  have m0 : w6.cell? ⟨w.heap.size, 0, none⟩ = some (.slice a0 Z.l0 c0) := HB6.out.2.1.cell 0
  have m1 : w6.cell? ⟨w.heap.size, 1, none⟩ = some (.slice a1 Z.l1 c1) := HB6.out.2.1.cell 1
  have m2 : w6.cell? ⟨w.heap.size, 2, none⟩ = some (.int .u32 (Z.ms : Nat)) := HB6.out.2.1.cell 2
  have hcp := HC.out.2.2.1 w6 HB6.out.1
  go_wp2_with fail
  refine hcp.mono ?_
  rintro r w7 ⟨y0, k0, y1, k1, rfl, r0, r1, b7⟩
  have HB7 : Hid (Below w6.heap.size w6 w7 ∧ PRow w7 y0 Z.l0 Z.P0 ∧ PRow w7 y1 Z.l1 Z.P1 ∧ Below w.heap.size w w7) := ⟨b7, r0, r1, HB6.out.1.trans (b7.mono HB6.out.1.size)⟩
  clear hcp r0 r1 b7 m0 m1 m2
  have ws1 := HA.out.2.2.2.2.1.below HB7.out.2.2.2
  go_wp2_with (at_builtin; refine wpList_copyS rfl _ _ rfl rfl aw N C L rfl ws1 hn1 hN5 ?_)
  intro g2 c2 w8 H8
  clear ws1
  have B8 : Below w.heap.size w w8 := HB7.out.2.2.2.trans (H8.out.2.2.2.mono HB7.out.2.2.2.size)
  have hH := HC.out.2.2.2.1 y0 y1 k0 k1 g2 c2 w8 H8.out.2.1 H8.out.2.2.1 B8 (HB7.out.2.1.below H8.out.2.2.2) (HB7.out.2.2.1.below H8.out.2.2.2) (own_ws H8.out.1)
  have HB8 : Hid (Below w6.heap.size w6 w8) := HB7.out.1.trans (H8.out.2.2.2.mono HB7.out.1.size)
  clear B8 HB7 H8
  go_wp2_with fail
  refine Calls.mono hH ?_
  rintro r w9 ⟨z0, d0, z1, d1, rfl, H9⟩
  clear hH
  have B9 : Below w6.heap.size w6 w9 := HB8.out.trans (H9.out.2.2.2.mono HB8.out.size)
  have HB9 : Hid (Below w6.heap.size w6 w9 ∧ PRow w9 z0 Y.l0 Y.P0 ∧ PRow w9 z1 Y.l1 Y.P1) := ⟨B9, PRow.of_own H9.out.1, PRow.of_own H9.out.2.1⟩
  clear B9 HB8 H9
  have k10 := Bk.new w9 #[.slice z0 Y.l0 d0, .slice z1 Y.l1 d1, .int .u32 (Y.ms : Nat)] 25
  have b10 := belA (Below.refl _ w9) (.cells #[.slice z0 Y.l0 d0, .slice z1 Y.l1 d1, .int .u32 (Y.ms : Nat)] 25)
  obtain ⟨w10, hw10⟩ : ∃ y, w9.alloc (.cells #[.slice z0 Y.l0 d0, .slice z1 Y.l1 d1, .int .u32 (Y.ms : Nat)] 25) = y := ⟨_, rfl⟩
  rw [hw10] at k10 b10
  obtain ⟨ba, hba⟩ : ∃ y, w9.heap.size = y := ⟨_, rfl⟩
  rw [hba] at k10
  have HB10 : Hid (Below w6.heap.size w6 w10 ∧ PRow w10 z0 Y.l0 Y.P0 ∧ PRow w10 z1 Y.l1 Y.P1 ∧ Bk w10 ba #[.slice z0 Y.l0 d0, .slice z1 Y.l1 d1, .int .u32 (Y.ms : Nat)] 25 ∧ Below w.heap.size w w10) := ⟨HB9.out.1.trans (b10.mono HB9.out.1.size), HB9.out.2.1.below b10, HB9.out.2.2.below b10, k10, HB6.out.1.trans ((HB9.out.1.trans (b10.mono HB9.out.1.size)).mono HB6.out.1.size)⟩
  go_upto_region 8 with fail
  try rw [hw10, hba]
  clear hw10 hba k10 b10 HB9
  have kn := HB6.out.2.1.off (Off.of_below (l := []) HB10.out.1) (by simp)
  have m0 : w10.cell? ⟨w.heap.size, 0, none⟩ = some (.slice a0 Z.l0 c0) := kn.cell 0
  have m1 : w10.cell? ⟨w.heap.size, 1, none⟩ = some (.slice a1 Z.l1 c1) := kn.cell 1
  have m2 : w10.cell? ⟨w.heap.size, 2, none⟩ = some (.int .u32 (Z.ms : Nat)) := kn.cell 2
  have hrh := HC.out.2.2.2.2 w10 HB10.out.2.2.2.2
  clear kn
  go_wp2_with fail
  refine Calls.mono hrh ?_
  rintro r w11 ⟨x0, e0, x1, e1, rfl, H11⟩
  clear hrh m0 m1 m2
  have k12 := Bk.new w11 #[.slice x0 Y.l0 e0, .slice x1 Y.l1 e1, .int .u32 (Y.ms : Nat)] 25
  have b12 := belA (Below.refl _ w11) (.cells #[.slice x0 Y.l0 e0, .slice x1 Y.l1 e1, .int .u32 (Y.ms : Nat)] 25)
  obtain ⟨w12, hw12⟩ : ∃ y, w11.alloc (.cells #[.slice x0 Y.l0 e0, .slice x1 Y.l1 e1, .int .u32 (Y.ms : Nat)] 25) = y := ⟨_, rfl⟩
  rw [hw12] at k12 b12
  obtain ⟨bd, hbd⟩ : ∃ y, w11.heap.size = y := ⟨_, rfl⟩
  rw [hbd] at k12
  have q12 : Below w10.heap.size w10 w12 := H11.out.2.2.2.2.trans (b12.mono H11.out.2.2.2.2.size)
  have q6 : Below w6.heap.size w6 w12 := HB10.out.1.trans (q12.mono HB10.out.1.size)
  have HB12 : Hid (Below w.heap.size w w12 ∧ Row8 w12 am m.l cm m.b ∧ Bk w12 bm #[.int .i64 m.k, .int .i64 m.c, .int .i64 m.s, .int .i64 m.f, .int .i64 m.a, .int .u32 (m.w : Nat), .int .i64 m.n, .bool m.h, .slice am m.l cm] 34 ∧ Row8 w12 ax m.l cx m.b ∧ Bk w12 bx #[.int .i64 m.k, .int .i64 m.c, .int .i64 m.s, .int .i64 m.f, .int .i64 m.a, .int .u32 (m.w : Nat), .int .i64 m.n, .bool m.h, .slice ax m.l cx] 34 ∧ PRow w12 z0 Y.l0 Y.P0 ∧ PRow w12 z1 Y.l1 Y.P1 ∧ Bk w12 ba #[.slice z0 Y.l0 d0, .slice z1 Y.l1 d1, .int .u32 (Y.ms : Nat)] 25 ∧ PRow w12 x0 Y.l0 Y.P0 ∧ PRow w12 x1 Y.l1 Y.P1 ∧ Bk w12 bd #[.slice x0 Y.l0 e0, .slice x1 Y.l1 e1, .int .u32 (Y.ms : Nat)] 25) := ⟨HB6.out.1.trans (q6.mono HB6.out.1.size), HB6.out.2.2.1.below q6, HB6.out.2.2.2.1.off (Off.of_below (l := []) q6) (by simp), HB6.out.2.2.2.2.1.below q6, HB6.out.2.2.2.2.2.off (Off.of_below (l := []) q6) (by simp), HB10.out.2.1.below q12, HB10.out.2.2.1.below q12, HB10.out.2.2.2.1.off (Off.of_below (l := []) q12) (by simp), H11.out.1.below b12, H11.out.2.1.below b12, k12⟩
  go_upto_region 9 with fail
  try rw [hw12, hbd]
  clear hw12 hbd k12 b12 q12 q6 HB6 HB10 H11
  have p0 : w12.cell? ⟨bm, 0, none⟩ = some (.int .i64 m.k) := HB12.out.2.2.1.cell 0
  have p1 : w12.cell? ⟨bm, 1, none⟩ = some (.int .i64 m.c) := HB12.out.2.2.1.cell 1
  have p2 : w12.cell? ⟨bm, 2, none⟩ = some (.int .i64 m.s) := HB12.out.2.2.1.cell 2
  have p3 : w12.cell? ⟨bm, 3, none⟩ = some (.int .i64 m.f) := HB12.out.2.2.1.cell 3
  have p4 : w12.cell? ⟨bm, 4, none⟩ = some (.int .i64 m.a) := HB12.out.2.2.1.cell 4
  have p5 : w12.cell? ⟨bm, 5, none⟩ = some (.int .u32 (m.w : Nat)) := HB12.out.2.2.1.cell 5
  have p6 : w12.cell? ⟨bm, 6, none⟩ = some (.int .i64 m.n) := HB12.out.2.2.1.cell 6
  have p7 : w12.cell? ⟨bm, 7, none⟩ = some (.bool m.h) := HB12.out.2.2.1.cell 7
  have p8 : w12.cell? ⟨bm, 8, none⟩ = some (.slice am m.l cm) := HB12.out.2.2.1.cell 8
  have s0 : w12.cell? ⟨bx, 0, none⟩ = some (.int .i64 m.k) := HB12.out.2.2.2.2.1.cell 0
  have s1 : w12.cell? ⟨bx, 1, none⟩ = some (.int .i64 m.c) := HB12.out.2.2.2.2.1.cell 1
  have s2 : w12.cell? ⟨bx, 2, none⟩ = some (.int .i64 m.s) := HB12.out.2.2.2.2.1.cell 2
  have s3 : w12.cell? ⟨bx, 3, none⟩ = some (.int .i64 m.f) := HB12.out.2.2.2.2.1.cell 3
  have s4 : w12.cell? ⟨bx, 4, none⟩ = some (.int .i64 m.a) := HB12.out.2.2.2.2.1.cell 4
  have s5 : w12.cell? ⟨bx, 5, none⟩ = some (.int .u32 (m.w : Nat)) := HB12.out.2.2.2.2.1.cell 5
  have s6 : w12.cell? ⟨bx, 6, none⟩ = some (.int .i64 m.n) := HB12.out.2.2.2.2.1.cell 6
  have s7 : w12.cell? ⟨bx, 7, none⟩ = some (.bool m.h) := HB12.out.2.2.2.2.1.cell 7
  have s8 : w12.cell? ⟨bx, 8, none⟩ = some (.slice ax m.l cx) := HB12.out.2.2.2.2.1.cell 8
  have hS := rsameM m am ax cm cx w12 HB12.out.2.1 HB12.out.2.2.2.1
  go_wp2_with fail
  refine hS.mono ?_
  rintro r w13 ⟨rfl, b13⟩
  have ka := HB12.out.2.2.2.2.2.2.2.1.off (Off.of_below (l := []) b13) (by simp)
  have kd := HB12.out.2.2.2.2.2.2.2.2.2.2.off (Off.of_below (l := []) b13) (by simp)
  have t0 : w13.cell? ⟨ba, 0, none⟩ = some (.slice z0 Y.l0 d0) := ka.cell 0
  have t1 : w13.cell? ⟨ba, 1, none⟩ = some (.slice z1 Y.l1 d1) := ka.cell 1
  have t2 : w13.cell? ⟨ba, 2, none⟩ = some (.int .u32 (Y.ms : Nat)) := ka.cell 2
  have v0 : w13.cell? ⟨bd, 0, none⟩ = some (.slice x0 Y.l0 e0) := kd.cell 0
  have v1 : w13.cell? ⟨bd, 1, none⟩ = some (.slice x1 Y.l1 e1) := kd.cell 1
  have v2 : w13.cell? ⟨bd, 2, none⟩ = some (.int .u32 (Y.ms : Nat)) := kd.cell 2
  have hQ := rsameN z0 z1 x0 x1 Y.l0 Y.l1 d0 d1 e0 e1 Y.ms Y.P0 Y.P1 w13 (HB12.out.2.2.2.2.2.1.below b13).psrow (HB12.out.2.2.2.2.2.2.1.below b13).psrow (HB12.out.2.2.2.2.2.2.2.2.1.below b13).psrow (HB12.out.2.2.2.2.2.2.2.2.2.1.below b13).psrow (by have := HLe.out; have := HG.out; omega) (by have := HLe.out; have := HG.out; omega)
  have HB13 : Hid (Below w.heap.size w w13) := HB12.out.1.trans (b13.mono HB12.out.1.size)
  clear hS ka kd b13 HB12 p0 s0 p1 s1 p2 s2 p3 s3 p4 s4 p5 s5 p6 s6 p7 s7 p8 s8
  go_wp2_with fail
  refine hQ.mono ?_
  rintro r w14 ⟨rfl, b14⟩
  have HB14 : Hid (Below w.heap.size w w14) := HB13.out.trans (b14.mono HB13.out.size)
  clear hQ b14 HB13
  go_wp2_with fail
  go_ret
  exact ⟨rfl, HB14.out⟩
end Go.Proofs.YtiikebaehoobnaaDoor

