/- Layer 20: the walk of ScriptOwn. (genlsow.py) -/
import Derived.Test.YtiikebaehoobnaaDoorJLawSRe
import Derived.Test.YtiikebaehoobnaaDoorJSz1
namespace Go.Proofs.YtiikebaehoobnaaDoor
set_option maxRecDepth 100000
open Go.RowKit Go.Maps
set_option maxRecDepth 100000
set_option linter.unusedVariables false
theorem own_row_kept {W0 wr : World} {B n : Nat} {v : Value} {xs : List Value} {bA : Nat} {u0 u1 : Value} (o : W0.ownsRow B 63 5 v n xs) (kp : ∀ k, k < W0.heap.size → k ≠ bA → u0.ownBlock ≠ some k → u1.ownBlock ≠ some k → wr.heap[k]? = W0.heap[k]?) (h0 : ∀ k, v.ownBlock = some k → k ≠ bA ∧ u0.ownBlock ≠ some k ∧ u1.ownBlock ≠ some k) : wr.ownsRow B 63 5 v n xs :=
  own_keepP o (fun k hk => kp k (o.lt k hk).2 (h0 k hk).1 (h0 k hk).2.1 (h0 k hk).2.2)
theorem own_ne {w : World} {B n b : Nat} {v : Value} {xs : List Value} {cs : Array Value} (o : w.ownsRow B 63 5 v n xs) (h : Bk w b cs 25) : ∀ k, v.ownBlock = some k → k ≠ b := fun k hk e => by
  subst e
  exact own_ty (by decide) h o hk
set_option maxHeartbeats 4000000 in
theorem scriptOwn_any (aw : Option Addr) (N C : Nat) (hNC : N ≤ C) (hC : C ≤ 9223372036854775807) (L : Nat → List UInt8) (hL : ∀ i, i < N → (L i).length ≤ 281474976710656) (hn : aw = none → N = 0 ∧ C = 0) (Z : Nt) (a0 a1 : Option Addr) (c0 c1 : Nat) (n0 : a0 = none → Z.l0 = 0 ∧ c0 = 0) (n1 : a1 = none → Z.l1 = 0 ∧ c1 = 0) (w : World) (h0 : PRow w a0 Z.l0 Z.P0) (h1 : PRow w a1 Z.l1 Z.P1) (h : WsRow w aw N L) (Lv : Lw w) : Calls Tryd.prog 8 #[.agg #[.slice a0 Z.l0 c0, .slice a1 Z.l1 c1, .int .u32 (Z.ms : Nat)], .slice aw N C] w fun r w' => r = .returned (.bool true) ∧ Below w.heap.size w w' := by
  have kb := Bk.new w #[.slice a0 Z.l0 c0, .slice a1 Z.l1 c1, .int .u32 (Z.ms : Nat)] 25
  have bb := belA (Below.refl _ w) (.cells #[.slice a0 Z.l0 c0, .slice a1 Z.l1 c1, .int .u32 (Z.ms : Nat)] 25)
  obtain ⟨wb, hwb⟩ : ∃ y, w.alloc (.cells #[.slice a0 Z.l0 c0, .slice a1 Z.l1 c1, .int .u32 (Z.ms : Nat)] 25) = y := ⟨_, rfl⟩
  rw [hwb] at kb bb
  have ha := awake20 wb (Lv.below bb)
  have HA : Hid (_) := And.intro kb (And.intro bb (And.intro h0 (And.intro h1 (And.intro h (And.intro Lv (And.intro hL (And.intro hn (And.intro n0 (And.intro n1 (And.intro hNC hC))))))))))
  clear kb bb h0 h1 h Lv hL hn n0 n1 hNC hC
  by_cases hg : N ≤ 50 ∧ Z.l0 ≤ 100 ∧ Z.l1 ≤ 100
  rotate_left
  · have three : (100 : Int) < ((Z.l0 : Nat) : Int) ∨ (¬ (100 : Int) < ((Z.l0 : Nat) : Int) ∧ (100 : Int) < ((Z.l1 : Nat) : Int)) ∨ (¬ (100 : Int) < ((Z.l0 : Nat) : Int) ∧ ¬ (100 : Int) < ((Z.l1 : Nat) : Int) ∧ (50 : Int) < ((N : Nat) : Int)) := by omega
    clear hg
    rcases three with q1 | ⟨q1, q2⟩ | ⟨q1, q2, q3⟩
    all_goals
      go_enter Tryd.func8, Tryd.ntmps8
      go_wp2_with fail
      try rw [hwb]
      clear hwb
      refine ha.mono ?_
      rintro r w1 ⟨rfl, b1⟩
      have k1 := HA.out.1.off (Off.of_below (l := []) b1) (by simp)
      have m0 : w1.cell? ⟨w.heap.size, 0, none⟩ = some (.slice a0 Z.l0 c0) := k1.cell 0
      have m1 : w1.cell? ⟨w.heap.size, 1, none⟩ = some (.slice a1 Z.l1 c1) := k1.cell 1
      have HB : Hid (Below w.heap.size w w1) := HA.out.2.1.trans (b1.mono HA.out.2.1.size)
      clear ha k1 b1
      go_wp2_with fail
      go_ret
      exact ⟨rfl, HB.out⟩
  have q1 : ¬ (50 : Int) < ((N : Nat) : Int) := by omega
  have q2 : ¬ (100 : Int) < ((Z.l0 : Nat) : Int) := by omega
  have q3 : ¬ (100 : Int) < ((Z.l1 : Nat) : Int) := by omega
  have HG : Hid (_) := hg
  have hle := Z.hd_le N L
  obtain ⟨Y, hY⟩ : ∃ y, Z.hd N L = y := ⟨_, rfl⟩
  obtain ⟨is, his⟩ : ∃ y, hdIs N L = y := ⟨_, rfl⟩
  obtain ⟨f, hf⟩ : ∃ y, hdEr N L = y := ⟨_, rfl⟩
  rw [hY] at hle
  have HLe : Hid (Y.l0 ≤ 101 ∧ Y.l1 ≤ 101) := ⟨by omega, by omega⟩
  have hpr : ∀ (g c : Nat) (wx : World), N ≤ c → c ≤ 9223372036854775807 → Below w.heap.size w wx → WsRow wx (some ⟨g, 0, none⟩) N L → Calls Tryd.prog 14 #[.slice (some ⟨g, 0, none⟩) N c] wx fun r w' => ∃ v, r = .returned v ∧ Below wx.heap.size wx w' := fun g c wx p1 p2 p3 p4 => by
    refine (pread _ N c p1 p2 L HA.out.2.2.2.2.2.2.1 wx (HA.out.2.2.2.2.2.1.below p3) p4).mono ?_
    rintro r w' ⟨am, cm, rfl, H⟩
    exact ⟨_, rfl, H.out.2⟩
  have hph : ∀ (y0 y1 : Option Addr) (k0 k1 g c : Nat) (wx : World), N ≤ c → c ≤ 9223372036854775807 → Below w.heap.size w wx → PRow wx y0 Z.l0 Z.P0 → PRow wx y1 Z.l1 Z.P1 → WsRow wx (some ⟨g, 0, none⟩) N L → Calls Tryd.prog 16 #[.agg #[.slice y0 Z.l0 k0, .slice y1 Z.l1 k1, .int .u32 (Z.ms : Nat)], .slice (some ⟨g, 0, none⟩) N c] wx (HdP Y is f wx) := fun y0 y1 k0 k1 g c wx p1 p2 p3 p4 p5 p6 => by
    have gg := HG.out
    rw [← hY, ← his, ← hf]
    exact phead Z y0 y1 k0 k1 (by omega) (by omega) _ N c p1 p2 L HA.out.2.2.2.2.2.2.1 wx (HA.out.2.2.2.2.2.1.below p3) p4 p5 p6
  have hcp : ∀ (wx : World), Below w.heap.size w wx → Calls Tryd.prog 17 #[.agg #[.slice a0 Z.l0 c0, .slice a1 Z.l1 c1, .int .u32 (Z.ms : Nat)]] wx fun r w' => ∃ y0 k0 y1 k1, r = .returned (.agg #[.slice y0 Z.l0 k0, .slice y1 Z.l1 k1, .int .u32 (Z.ms : Nat)]) ∧ w'.ownsRow wx.heap.size 63 5 (.slice y0 Z.l0 k0) Z.l0 (flP Z.l0 Z.P0) ∧ w'.ownsRow wx.heap.size 63 5 (.slice y1 Z.l1 k1) Z.l1 (flP Z.l1 Z.P1) ∧ Below wx.heap.size wx w' := fun wx p3 => by
    have g := HG.out
    exact ncopiedO a0 Z.l0 c0 Z.P0 a1 Z.l1 c1 Z.P1 Z.ms wx (HA.out.2.2.1.below p3) (HA.out.2.2.2.1.below p3) ⟨by omega, HA.out.2.2.2.2.2.2.2.2.1⟩ ⟨by omega, HA.out.2.2.2.2.2.2.2.2.2.1⟩
  have hN5 : N ≤ 1000000 := by omega
  have HC : Hid (_) := And.intro hpr (And.intro hph hcp)
  clear hpr hph hcp hY his hf hle hg
  go_enter Tryd.func8, Tryd.ntmps8
  go_wp2_with fail
  try rw [hwb]
  clear hwb
  refine ha.mono ?_
  rintro r w1 ⟨rfl, b1⟩
  have k1 := HA.out.1.off (Off.of_below (l := []) b1) (by simp)
  have m0 : w1.cell? ⟨w.heap.size, 0, none⟩ = some (.slice a0 Z.l0 c0) := k1.cell 0
  have m1 : w1.cell? ⟨w.heap.size, 1, none⟩ = some (.slice a1 Z.l1 c1) := k1.cell 1
  have m2 : w1.cell? ⟨w.heap.size, 2, none⟩ = some (.int .u32 (Z.ms : Nat)) := k1.cell 2
  have HB1 : Hid (Below w.heap.size w w1 ∧ Bk w1 w.heap.size #[.slice a0 Z.l0 c0, .slice a1 Z.l1 c1, .int .u32 (Z.ms : Nat)] 25) := ⟨HA.out.2.1.trans (b1.mono HA.out.2.1.size), k1⟩
  have hcp := HC.out.2.2 w1 HB1.out.1
  clear ha k1 b1
  go_wp2_with fail
  refine hcp.mono ?_
  rintro r w2 ⟨y0, k0, y1, k1, rfl, oy0, oy1, b2⟩
  clear hcp m0 m1 m2 q1 q2 q3
  have HB2 : Hid (_) := And.intro oy0 (And.intro oy1 b2)
  clear oy0 oy1 b2
  have k3 := Bk.new w2 #[.slice y0 Z.l0 k0, .slice y1 Z.l1 k1, .int .u32 (Z.ms : Nat)] 25
  have b3 := belA (Below.refl _ w2) (.cells #[.slice y0 Z.l0 k0, .slice y1 Z.l1 k1, .int .u32 (Z.ms : Nat)] 25)
  obtain ⟨w3, hw3⟩ : ∃ y, w2.alloc (.cells #[.slice y0 Z.l0 k0, .slice y1 Z.l1 k1, .int .u32 (Z.ms : Nat)] 25) = y := ⟨_, rfl⟩
  rw [hw3] at k3 b3
  obtain ⟨bG, hbG⟩ : ∃ y, w2.heap.size = y := ⟨_, rfl⟩
  rw [hbG] at k3
  have q13 : Below w1.heap.size w1 w3 := HB2.out.2.2.trans (b3.mono HB2.out.2.2.size)
  have HB3 : Hid (Below w.heap.size w w3 ∧ Bk w3 w.heap.size #[.slice a0 Z.l0 c0, .slice a1 Z.l1 c1, .int .u32 (Z.ms : Nat)] 25 ∧ Bk w3 bG #[.slice y0 Z.l0 k0, .slice y1 Z.l1 k1, .int .u32 (Z.ms : Nat)] 25 ∧ w3.ownsRow w1.heap.size 63 5 (.slice y0 Z.l0 k0) Z.l0 (flP Z.l0 Z.P0) ∧ w3.ownsRow w1.heap.size 63 5 (.slice y1 Z.l1 k1) Z.l1 (flP Z.l1 Z.P1)) := ⟨HB1.out.1.trans (q13.mono HB1.out.1.size), HB1.out.2.off (Off.of_below (l := []) q13) (by simp), k3, ownB HB2.out.1 b3, ownB HB2.out.2.1 b3⟩
  go_upto_region 6 with fail
  try rw [hw3, hbG]
  clear hw3 hbG k3 b3 HB2 q13
  have ws1 := HA.out.2.2.2.2.1.below HB3.out.1
  have hn1 := HA.out.2.2.2.2.2.2.2.1
  go_wp2_with (at_builtin; refine wpList_copyS rfl _ _ rfl rfl aw N C L rfl ws1 hn1 hN5 ?_)
  intro g c w4 H4
  clear ws1 hn1
  have O3 := ownB H4.out.1 (belA (Below.refl _ w4) (.cells #[.string (ByteArray.mk #[115, 112, 97, 114, 101])] 9))
  have B3 : w3.heap.size ≤ (w4.alloc (.cells #[.string (ByteArray.mk #[115, 112, 97, 114, 101])] 9)).heap.size := Nat.le_trans H4.out.2.2.2.size (belA (Below.refl _ w4) (.cells #[.string (ByteArray.mk #[115, 112, 97, 114, 101])] 9)).size
  have N3 := one_str w4 (ByteArray.mk #[115, 112, 97, 114, 101])
  have M3 := one_strO (ByteArray.mk #[115, 112, 97, 114, 101])
  obtain ⟨i0, hIn, hz0, hz1, hz2⟩ := info_parts info_str
  have HK : Hid (Below w3.heap.size w3 (w4.alloc (.cells #[.string (ByteArray.mk #[115, 112, 97, 114, 101])] 9))) := H4.out.2.2.2.trans ((belA (Below.refl _ w4) _).mono H4.out.2.2.2.size)
  clear H4
  go_wp2_with (at_builtin; refine wpList_append_own_at _ rfl _ _ 27 rfl w3.heap.size 9 i0 (.string (ByteArray.mk #[])) 1 16 Tryd.underlying27 hIn hz0 hz1 hz2 rfl (by decide) (.slice (some ⟨g, 0, none⟩) N c) N (wsV N L) rfl O3 ⟨w4.heap.size, 0, none⟩ 1 1 [.string (ByteArray.mk #[115, 112, 97, 114, 101])] rfl rfl N3 M3 (by unfold maxLen; omega) (by omega) B3 ?_)
  intro v5 w5 O5 G5 _ _
  obtain ⟨g5, c5, rfl, _⟩ := own_slcS O5
  have oc := own_cellsS O5
  have c5b : c5 ≤ 9223372036854775807 := by
    rcases O5.2 with ⟨e, _⟩ | ⟨g', cap, cur, e, _, _, h1, h2, _⟩
    · cases e
    · cases e
      unfold maxLen at h2
      omega
  have w5s : WsRow w5 (some ⟨g5, 0, none⟩) N L := fun i hi => ⟨g5, 0, rfl, by
    rw [Nat.zero_add]
    refine oc.1 i _ ?_
    rw [List.getElem?_append_left (by rw [wsV_len]; exact hi)]
    exact wsV_get N L i hi⟩
  have cS : w5.cell? ⟨g5, N, none⟩ = some (.string (ByteArray.mk #[115, 112, 97, 114, 101])) := by
    refine oc.1 N _ ?_
    rw [List.getElem?_append_right (by rw [wsV_len]; exact Nat.le_refl _), wsV_len, Nat.sub_self]
    rfl
  have q35 : Below w3.heap.size w3 w5 := HK.out.grown G5 HK.out.size (fun k hk => (O3.lt k hk).1)
  have HB5 : Hid (Below w3.heap.size w3 w5 ∧ WsRow w5 (some ⟨g5, 0, none⟩) N L ∧ w5.cell? ⟨g5, N, none⟩ = some (.string (ByteArray.mk #[115, 112, 97, 114, 101])) ∧ N + 1 ≤ c5 ∧ c5 ≤ 9223372036854775807) := ⟨q35, w5s, cS, oc.2.2.1, c5b⟩
  clear O5 G5 O3 B3 N3 M3 hIn hz0 hz1 hz2 HK oc c5b w5s cS q35
  obtain ⟨N1, hN1⟩ : ∃ y, N + 1 = y := ⟨_, rfl⟩
  rw [hN1] at HB5 ⊢
  have HN1 : Hid (N + 1 = N1) := hN1
  clear hN1
  have sl1 : ((N : Nat) : Int) ≤ ((c5 : Nat) : Int) := by have := HB5.out.2.2.2; have := HN1.out; omega
  have sl2 : N ≤ c5 := by omega
  have sl3 : ((N1 : Nat) : Int) ≤ ((c5 : Nat) : Int) := by have := HB5.out.2.2.2; omega
  have sl4 : N1 ≤ c5 := by omega
  have bw5 : Below w.heap.size w w5 := HB3.out.1.trans (HB5.out.1.mono HB3.out.1.size)
  have kg5 := HB3.out.2.2.1.off (Off.of_below (l := []) HB5.out.1) (by simp)
  have m0 : w5.cell? ⟨bG, 0, none⟩ = some (.slice y0 Z.l0 k0) := kg5.cell 0
  have m1 : w5.cell? ⟨bG, 1, none⟩ = some (.slice y1 Z.l1 k1) := kg5.cell 1
  have m2 : w5.cell? ⟨bG, 2, none⟩ = some (.int .u32 (Z.ms : Nat)) := kg5.cell 2
  have hH := HC.out.2.1 y0 y1 k0 k1 g5 c5 w5 sl2 HB5.out.2.2.2.2 bw5 (PRow.of_own (ownB HB3.out.2.2.2.1 HB5.out.1)) (PRow.of_own (ownB HB3.out.2.2.2.2 HB5.out.1)) HB5.out.2.1
  have HW5 : Hid (_) := And.intro bw5 kg5
  clear bw5 kg5
  go_wp2_with fail
  refine Calls.mono hH ?_
  rintro r w6 ⟨z0, d0, z1, d1, rfl, H6⟩
  clear hH m0 m1 m2
  have k7 := Bk.new w6 #[.slice z0 Y.l0 d0, .slice z1 Y.l1 d1, .int .u32 (Y.ms : Nat)] 25
  have b7 := belA (Below.refl _ w6) (.cells #[.slice z0 Y.l0 d0, .slice z1 Y.l1 d1, .int .u32 (Y.ms : Nat)] 25)
  obtain ⟨w7, hw7⟩ : ∃ y, w6.alloc (.cells #[.slice z0 Y.l0 d0, .slice z1 Y.l1 d1, .int .u32 (Y.ms : Nat)] 25) = y := ⟨_, rfl⟩
  rw [hw7] at k7 b7
  obtain ⟨bA, hbA⟩ : ∃ y, w6.heap.size = y := ⟨_, rfl⟩
  rw [hbA] at k7
  have q57 : Below w5.heap.size w5 w7 := H6.out.2.2.2.trans (b7.mono H6.out.2.2.2.size)
  have HB7 : Hid (Below w5.heap.size w5 w7 ∧ w7.ownsRow w5.heap.size 63 5 (.slice z0 Y.l0 d0) Y.l0 (flP Y.l0 Y.P0) ∧ w7.ownsRow w5.heap.size 63 5 (.slice z1 Y.l1 d1) Y.l1 (flP Y.l1 Y.P1) ∧ (∀ k, (Value.slice z0 Y.l0 d0).ownBlock = some k → (Value.slice z1 Y.l1 d1).ownBlock ≠ some k) ∧ Bk w7 bA #[.slice z0 Y.l0 d0, .slice z1 Y.l1 d1, .int .u32 (Y.ms : Nat)] 25 ∧ w5.heap.size ≤ bA) := ⟨q57, ownB H6.out.1 b7, ownB H6.out.2.1 b7, H6.out.2.2.1, k7, by rw [← hbA]; exact H6.out.2.2.2.size⟩
  go_upto_region 8 with fail
  try rw [hw7, hbA]
  clear hw7 hbA k7 b7 q57 H6
  have bw7 : Below w.heap.size w w7 := HW5.out.1.trans (HB7.out.1.mono HW5.out.1.size)
  have kg7 := HW5.out.2.off (Off.of_below (l := []) HB7.out.1) (by simp)
  have m0 : w7.cell? ⟨bG, 0, none⟩ = some (.slice y0 Z.l0 k0) := kg7.cell 0
  have m1 : w7.cell? ⟨bG, 1, none⟩ = some (.slice y1 Z.l1 k1) := kg7.cell 1
  have m2 : w7.cell? ⟨bG, 2, none⟩ = some (.int .u32 (Z.ms : Nat)) := kg7.cell 2
  have q37 : Below w3.heap.size w3 w7 := HB5.out.1.trans (HB7.out.1.mono HB5.out.1.size)
  have hH := HC.out.2.1 y0 y1 k0 k1 g5 c5 w7 sl2 HB5.out.2.2.2.2 bw7 (PRow.of_own (ownB HB3.out.2.2.2.1 q37)) (PRow.of_own (ownB HB3.out.2.2.2.2 q37)) (HB5.out.2.1.below HB7.out.1)
  have HW7 : Hid (_) := And.intro bw7 (And.intro kg7 q37)
  clear bw7 kg7 q37
  go_wp2_with fail
  refine Calls.mono hH ?_
  rintro r w8 ⟨x0, e0_, x1, e1_, rfl, H8⟩
  clear hH m0 m1 m2
  have k9 := Bk.new w8 #[.slice x0 Y.l0 e0_, .slice x1 Y.l1 e1_, .int .u32 (Y.ms : Nat)] 25
  have b9 := belA (Below.refl _ w8) (.cells #[.slice x0 Y.l0 e0_, .slice x1 Y.l1 e1_, .int .u32 (Y.ms : Nat)] 25)
  obtain ⟨w9, hw9⟩ : ∃ y, w8.alloc (.cells #[.slice x0 Y.l0 e0_, .slice x1 Y.l1 e1_, .int .u32 (Y.ms : Nat)] 25) = y := ⟨_, rfl⟩
  rw [hw9] at k9 b9
  obtain ⟨bB, hbB⟩ : ∃ y, w8.heap.size = y := ⟨_, rfl⟩
  rw [hbB] at k9
  have q79 : Below w7.heap.size w7 w9 := H8.out.2.2.2.trans (b9.mono H8.out.2.2.2.size)
  have HB9 : Hid (Below w7.heap.size w7 w9 ∧ w9.ownsRow w7.heap.size 63 5 (.slice x0 Y.l0 e0_) Y.l0 (flP Y.l0 Y.P0) ∧ w9.ownsRow w7.heap.size 63 5 (.slice x1 Y.l1 e1_) Y.l1 (flP Y.l1 Y.P1) ∧ Bk w9 bB #[.slice x0 Y.l0 e0_, .slice x1 Y.l1 e1_, .int .u32 (Y.ms : Nat)] 25) := ⟨q79, ownB H8.out.1 b9, ownB H8.out.2.1 b9, k9⟩
  have HBBX : Hid (w7.heap.size ≤ bB) := by
    show w7.heap.size ≤ bB
    rw [← hbB]
    exact H8.out.2.2.2.size
  go_upto_region 9 with fail
  try rw [hw9, hbB]
  clear hw9 hbB k9 b9 q79 H8
  have bw9 : Below w.heap.size w w9 := HW7.out.1.trans (HB9.out.1.mono HW7.out.1.size)
  have q59 : Below w5.heap.size w5 w9 := HB7.out.1.trans (HB9.out.1.mono HB7.out.1.size)
  have hR := HC.out.1 g5 c5 w9 sl2 HB5.out.2.2.2.2 bw9 (HB5.out.2.1.below q59)
  have HW9 : Hid (_) := And.intro bw9 q59
  clear bw9 q59
  go_wp2_with fail
  refine hR.mono ?_
  rintro r w10 ⟨vr, rfl, b10⟩
  clear hR
  have q3a : Below w3.heap.size w3 w10 := HW7.out.2.2.trans ((HB9.out.1.trans (b10.mono HB9.out.1.size)).mono HW7.out.2.2.size)
  have q5a : Below w5.heap.size w5 w10 := HW9.out.2.trans (b10.mono HW9.out.2.size)
  have bwa : Below w.heap.size w w10 := HW9.out.1.trans (b10.mono HW9.out.1.size)
  have kga := HB3.out.2.2.1.off (Off.of_below (l := []) q3a) (by simp)
  have kna := HB3.out.2.1.off (Off.of_below (l := []) q3a) (by simp)
  have m0 : w10.cell? ⟨bG, 0, none⟩ = some (.slice y0 Z.l0 k0) := kga.cell 0
  have m1 : w10.cell? ⟨bG, 1, none⟩ = some (.slice y1 Z.l1 k1) := kga.cell 1
  have m2 : w10.cell? ⟨bG, 2, none⟩ = some (.int .u32 (Z.ms : Nat)) := kga.cell 2
  have m3 : w10.cell? ⟨w.heap.size, 0, none⟩ = some (.slice a0 Z.l0 c0) := kna.cell 0
  have m4 : w10.cell? ⟨w.heap.size, 1, none⟩ = some (.slice a1 Z.l1 c1) := kna.cell 1
  have m5 : w10.cell? ⟨w.heap.size, 2, none⟩ = some (.int .u32 (Z.ms : Nat)) := kna.cell 2
  have hQ := rsameN y0 y1 a0 a1 Z.l0 Z.l1 k0 k1 c0 c1 Z.ms Z.P0 Z.P1 w10 (PRow.of_own (ownB HB3.out.2.2.2.1 q3a)).psrow (PRow.of_own (ownB HB3.out.2.2.2.2 q3a)).psrow (HA.out.2.2.1.below bwa).psrow (HA.out.2.2.2.1.below bwa).psrow (by have := HG.out; omega) (by have := HG.out; omega)
  have HWa : Hid (_) := And.intro b10 (And.intro q5a bwa)
  clear b10 q3a q5a bwa kga kna
  go_wp2_with fail
  refine hQ.mono ?_
  rintro r w11 ⟨rfl, b11⟩
  clear hQ m0 m1 m2 m3 m4 m5
  have hSW := rsameW (some ⟨g5, 0, none⟩) aw N c5 C (by omega) L w11 ((HB5.out.2.1.below HWa.out.2.1).below b11) ((HA.out.2.2.2.2.1.below HWa.out.2.2).below b11)
  have HWb : Hid (_) := b11
  clear b11
  go_wp2_with fail
  refine hSW.mono ?_
  rintro r w12 ⟨rfl, b12⟩
  clear hSW
  have q5c : Below w5.heap.size w5 w12 := HWa.out.2.1.trans ((HWb.out.trans (b12.mono HWb.out.size)).mono HWa.out.2.1.size)
  have cS := cellB HB5.out.2.2.1 q5c
  have q9c : Below w9.heap.size w9 w12 := HWa.out.1.trans ((HWb.out.trans (b12.mono HWb.out.size)).mono HWa.out.1.size)
  have kbc := HB9.out.2.2.2.off (Off.of_below (l := []) q9c) (by simp)
  have m0 : w12.cell? ⟨bB, 0, none⟩ = some (.slice x0 Y.l0 e0_) := kbc.cell 0
  have m1 : w12.cell? ⟨bB, 1, none⟩ = some (.slice x1 Y.l1 e1_) := kbc.cell 1
  have m2 : w12.cell? ⟨bB, 2, none⟩ = some (.int .u32 (Y.ms : Nat)) := kbc.cell 2
  have ob0 := ownB HB9.out.2.1 q9c
  have ob1 := ownB HB9.out.2.2.1 q9c
  have hKp := ncopiedO x0 Y.l0 e0_ Y.P0 x1 Y.l1 e1_ Y.P1 Y.ms w12 (PRow.of_own ob0) (PRow.of_own ob1) ⟨by have := HLe.out; omega, own_none ob0⟩ ⟨by have := HLe.out; omega, own_none ob1⟩
  have wN1 : IntKind.i64.wrap (((N : Nat) : Int) + 1) = ((N1 : Nat) : Int) := by rw [IntKind.wrap_i64]; have := HN1.out; omega
  have ltN : ((N : Nat) : Int) < ((N1 : Nat) : Int) := by have := HN1.out; omega
  have ltN' : N < N1 := by have := HN1.out; omega
  have HWc : Hid (_) := And.intro q9c (And.intro ob0 (And.intro ob1 kbc))
  clear q5c q9c kbc ob0 ob1 b12
  go_wp2_with fail
  refine hKp.mono ?_
  rintro r w13 ⟨t0, f0, t1, f1, rfl, ot0, ot1, b13⟩
  clear hKp m0 m1 m2 cS wN1 ltN ltN' sl1 sl2 sl3 sl4
  have HKp : Hid (_) := And.intro ot0 (And.intro ot1 b13)
  clear ot0 ot1 b13
  have k14 := Bk.new w13 #[.slice t0 Y.l0 f0, .slice t1 Y.l1 f1, .int .u32 (Y.ms : Nat)] 25
  have b14 := belA (Below.refl _ w13) (.cells #[.slice t0 Y.l0 f0, .slice t1 Y.l1 f1, .int .u32 (Y.ms : Nat)] 25)
  obtain ⟨W0, hW0⟩ : ∃ y, w13.alloc (.cells #[.slice t0 Y.l0 f0, .slice t1 Y.l1 f1, .int .u32 (Y.ms : Nat)] 25) = y := ⟨_, rfl⟩
  rw [hW0] at k14 b14
  obtain ⟨bK, hbK⟩ : ∃ y, w13.heap.size = y := ⟨_, rfl⟩
  rw [hbK] at k14
  have q9z : Below w9.heap.size w9 W0 := HWc.out.1.trans ((HKp.out.2.2.trans (b14.mono HKp.out.2.2.size)).mono HWc.out.1.size)
  have q7z : Below w7.heap.size w7 W0 := HB9.out.1.trans (q9z.mono HB9.out.1.size)
  have q3z : Below w3.heap.size w3 W0 := HW7.out.2.2.trans (q7z.mono HW7.out.2.2.size)
  have bwz : Below w.heap.size w W0 := HW7.out.1.trans (q7z.mono HW7.out.1.size)
  have oa0 := ownB HB7.out.2.1 q7z
  have oa1 := ownB HB7.out.2.2.1 q7z
  have kaz := HB7.out.2.2.2.2.1.off (Off.of_below (l := []) q7z) (by simp)
  have HQB : Hid (w7.heap.size ≤ bB) := HBBX.out
  have HQK : Hid (w7.heap.size ≤ bK) := by
    show w7.heap.size ≤ bK
    rw [← hbK]
    have := HB9.out.1.size
    have := HWc.out.1.size
    have := HKp.out.2.2.size
    omega
  have hMA : MA w W0 W0 bA w5.heap.size (.slice z0 Y.l0 d0) (.slice z1 Y.l1 d1) (.slice z0 Y.l0 d0) (.slice z1 Y.l1 d1) Y.l0 Y.l1 Y.ms := ⟨kaz, ⟨_, oa0⟩, ⟨_, oa1⟩, HB7.out.2.2.2.1, .inl rfl, .inl rfl, Nat.le_refl _, fun _ _ _ _ _ => rfl, bwz, by have := HW5.out.1.size; have := HB7.out.2.2.2.2.2; omega, HW5.out.1.size, kaz.lt⟩
  have fin : ∀ wr v0 v1 m0 m1, MA w W0 wr bA w5.heap.size (.slice z0 Y.l0 d0) (.slice z1 Y.l1 d1) v0 v1 m0 m1 Y.ms → Bk wr bG #[.slice y0 Z.l0 k0, .slice y1 Z.l1 k1, .int .u32 (Z.ms : Nat)] 25 ∧ Bk wr w.heap.size #[.slice a0 Z.l0 c0, .slice a1 Z.l1 c1, .int .u32 (Z.ms : Nat)] 25 ∧ Bk wr bB #[.slice x0 Y.l0 e0_, .slice x1 Y.l1 e1_, .int .u32 (Y.ms : Nat)] 25 ∧ Bk wr bK #[.slice t0 Y.l0 f0, .slice t1 Y.l1 f1, .int .u32 (Y.ms : Nat)] 25 ∧ PRow wr y0 Z.l0 Z.P0 ∧ PRow wr y1 Z.l1 Z.P1 ∧ PRow wr x0 Y.l0 Y.P0 ∧ PRow wr x1 Y.l1 Y.P1 ∧ PRow wr t0 Y.l0 Y.P0 ∧ PRow wr t1 Y.l1 Y.P1 := fun wr v0 v1 m0 m1 q => by
    have lz0 : ∀ k, (Value.slice z0 Y.l0 d0).ownBlock = some k → w5.heap.size ≤ k ∧ k < w7.heap.size := fun k hk => HB7.out.2.1.lt k hk
    have lz1 : ∀ k, (Value.slice z1 Y.l1 d1).ownBlock = some k → w5.heap.size ≤ k ∧ k < w7.heap.size := fun k hk => HB7.out.2.2.1.lt k hk
    have kGz := HB3.out.2.2.1.off (Off.of_below (l := []) q3z) (by simp)
    have kNz := HB3.out.2.1.off (Off.of_below (l := []) q3z) (by simp)
    have kBz := HB9.out.2.2.2.off (Off.of_below (l := []) q9z) (by simp)
    have blk : ∀ {b : Nat} {cs : Array Value}, Bk W0 b cs 25 → b ≠ bA → Bk wr b cs 25 := fun {b cs} hb hne => (q.kp b hb.lt hne (own_ty (by decide) hb oa0) (own_ty (by decide) hb oa1)).trans hb
    have s35 : w3.heap.size ≤ w5.heap.size := HB5.out.1.size
    have lG := HB3.out.2.2.1.lt
    have lN := HB3.out.2.1.lt
    have lA := HB7.out.2.2.2.2.2
    have lA7 := HB7.out.2.2.2.2.1.lt
    have s57 := HB7.out.1.size
    have rowG : ∀ {v : Value} {n : Nat} {xs : List Value}, w3.ownsRow w1.heap.size 63 5 v n xs → wr.ownsRow w1.heap.size 63 5 v n xs := fun {v n xs} o => own_row_kept (ownB o q3z) q.kp (fun k hk => ⟨own_ne (ownB o q3z) kaz k hk, fun e => by have := (lz0 k e).1; have := (o.lt k hk).2; omega, fun e => by have := (lz1 k e).1; have := (o.lt k hk).2; omega⟩)
    have rowB : ∀ {v : Value} {n : Nat} {xs : List Value} {B : Nat}, w7.heap.size ≤ B → W0.ownsRow B 63 5 v n xs → wr.ownsRow B 63 5 v n xs := fun {v n xs B} hB o => own_row_kept o q.kp (fun k hk => ⟨own_ne o kaz k hk, fun e => by have := (lz0 k e).2; have := (o.lt k hk).1; omega, fun e => by have := (lz1 k e).2; have := (o.lt k hk).1; omega⟩)
    have s79 := HB9.out.1.size
    have s9c := HWc.out.1.size
    have eBA : bB ≠ bA := fun e => by have := HQB.out; omega
    have eKA : bK ≠ bA := fun e => by have := HQK.out; omega
    refine ⟨blk kGz (by omega), blk kNz (by omega), blk kBz eBA, blk k14 eKA, PRow.of_own (rowG HB3.out.2.2.2.1), PRow.of_own (rowG HB3.out.2.2.2.2), PRow.of_own (rowB (Nat.le_refl _) (ownB HB9.out.2.1 q9z)), PRow.of_own (rowB (Nat.le_refl _) (ownB HB9.out.2.2.1 q9z)), PRow.of_own (rowB (by omega) (ownB HKp.out.1 b14)), PRow.of_own (rowB (by omega) (ownB HKp.out.2.1 b14))⟩
  have HF : Hid (_) := And.intro hMA fin
  go_upto_region 13 with fail
  try rw [hW0, hbK]
  clear hMA fin hW0 hbK k14 b14 q9z q7z q3z bwz oa0 oa1 kaz HKp HWc HWb HWa HW9 HB9 HW7
  have ca0 : W0.cell? ⟨bA, 0, none⟩ = some (.slice z0 Y.l0 d0) := HF.out.1.bk.cell 0
  go_wp2_with fail
  clear ca0
  go_loopw [14, 87, 88, 89, 90, 91, 92, 93, 94, 95] (fun _ c _ _ _ _ _ _ _ _ wr => ∃ i : Nat, i ≤ Y.l0 ∧ c = .int .i64 ((i : Nat) : Int) ∧ Hid (MA w W0 wr bA w5.heap.size (.slice z0 Y.l0 d0) (.slice z1 Y.l1 d1) (.slice z0 Y.l0 d0) (.slice z1 Y.l1 d1) Y.l0 Y.l1 Y.ms)) (fun _ c _ _ _ _ _ _ _ _ _ => Y.l0 - natV c)
  case atStart => exact ⟨0, by omega, rfl, HF.out.1⟩
  case round =>
    obtain ⟨i, hi, rfl, HI⟩ := hrel
    by_cases hlt : i < Y.l0
    · have hlt' : ((i : Nat) : Int) < ((Y.l0 : Nat) : Int) := by omega
      have hw1 : IntKind.i64.wrap (((i : Nat) : Int) + 1) = ((i + 1 : Nat) : Int) := by rw [IntKind.wrap_i64]; have := HLe.out; omega
      obtain ⟨i1, hi1⟩ : ∃ y, i + 1 = y := ⟨_, rfl⟩
      rw [hi1] at hw1
      obtain ⟨xs, ho⟩ := HI.out.o0
      obtain ⟨gg, cc, ev, _, ⟨x, hx⟩, fx, _⟩ := own_form ho hlt
      cases ev
      have cA : wr.cell? ⟨bA, 0, none⟩ = some (.slice (some ⟨gg, 0, none⟩) Y.l0 d0) := HI.out.bk.cell 0
      have HN : Hid (_) := HI.out.set0 (y := .int .u32 77) hlt rfl
      have HE : Hid (i + 1 = i1) := hi1
      clear ho hi1
      go_wp2_with fail
      go_roundw
      case rel => exact ⟨i1, by have := HE.out; omega, rfl, HN⟩
      case measure =>
        have := HE.out
        simp [natV]
        omega
    · obtain rfl : i = Y.l0 := by omega
      have hlt' : ¬ ((Y.l0 : Nat) : Int) < ((Y.l0 : Nat) : Int) := by omega
      have ca1 : wr.cell? ⟨bA, 1, none⟩ = some (.slice z1 Y.l1 d1) := HI.out.bk.cell 1
      go_wp2_with fail
      clear ca1 hlt hlt' hi
      have HI1 : Hid (_) := HI
      clear HI
      go_loopw [15, 99, 100, 101, 102, 103, 104, 105, 106, 107] (fun _ c _ _ _ _ _ _ _ _ wr => ∃ i : Nat, i ≤ Y.l1 ∧ c = .int .i64 ((i : Nat) : Int) ∧ Hid (MA w W0 wr bA w5.heap.size (.slice z0 Y.l0 d0) (.slice z1 Y.l1 d1) (.slice z0 Y.l0 d0) (.slice z1 Y.l1 d1) Y.l0 Y.l1 Y.ms)) (fun _ c _ _ _ _ _ _ _ _ _ => Y.l1 - natV c)
      case atStart => exact ⟨0, by omega, rfl, HI1.out⟩
      case round =>
        obtain ⟨i, hi, rfl, HI⟩ := hrel
        by_cases hlt : i < Y.l1
        · have hlt' : ((i : Nat) : Int) < ((Y.l1 : Nat) : Int) := by omega
          have hw1 : IntKind.i64.wrap (((i : Nat) : Int) + 1) = ((i + 1 : Nat) : Int) := by rw [IntKind.wrap_i64]; have := HLe.out; omega
          obtain ⟨i1, hi1⟩ : ∃ y, i + 1 = y := ⟨_, rfl⟩
          rw [hi1] at hw1
          obtain ⟨xs, ho⟩ := HI.out.o1
          obtain ⟨gg, cc, ev, _, ⟨x, hx⟩, fx, _⟩ := own_form ho hlt
          cases ev
          have cA : wr.cell? ⟨bA, 1, none⟩ = some (.slice (some ⟨gg, 0, none⟩) Y.l1 d1) := HI.out.bk.cell 1
          have HN : Hid (_) := HI.out.set1 (y := .int .u32 77) hlt rfl
          have HE : Hid (i + 1 = i1) := hi1
          clear ho hi1
          go_wp2_with fail
          go_roundw
          case rel => exact ⟨i1, by have := HE.out; omega, rfl, HN⟩
          case measure =>
            have := HE.out
            simp [natV]
            omega
        · obtain rfl : i = Y.l1 := by omega
          have hlt' : ¬ ((Y.l1 : Nat) : Int) < ((Y.l1 : Nat) : Int) := by omega
          go_wp2_with fail
          clear hlt hlt' hi
          have HI2 : Hid (_) := HI
          clear HI
          go_loopw [16, 108, 109, 110, 111, 112, 113, 114, 115, 116, 117, 118, 119, 120, 121, 122, 123] (fun c _ _ _ _ _ _ _ _ _ _ _ _ _ _ _ _ wr => ∃ (i : Nat) (v0 v1 : Value), i ≤ 30 ∧ c = .int .i64 ((i : Nat) : Int) ∧ Hid (MA w W0 wr bA w5.heap.size (.slice z0 Y.l0 d0) (.slice z1 Y.l1 d1) v0 v1 (Y.l0 + i) (Y.l1 + i) Y.ms)) (fun c _ _ _ _ _ _ _ _ _ _ _ _ _ _ _ _ _ => 30 - natV c)
          case atStart => exact ⟨0, _, _, by omega, rfl, HI2.out⟩
          case round =>
            obtain ⟨i, v0, v1, hi, rfl, HI⟩ := hrel
            by_cases hlt : i < 30
            · have hlt' : ((i : Nat) : Int) < 30 := by omega
              obtain ⟨i1, hi1⟩ : ∃ y, i + 1 = y := ⟨_, rfl⟩
              have hw1 : IntKind.i64.wrap (((i : Nat) : Int) + 1) = ((i1 : Nat) : Int) := by rw [IntKind.wrap_i64]; omega
              have HE : Hid (i + 1 = i1) := hi1
              clear hi1
              obtain ⟨xs, ho⟩ := HI.out.o0
              have bA1 := belA (Below.refl _ wr) (.cells #[.int .u32 78, .int .i64 0, .int .i64 0, .int .i64 0, .int .u32 0] 63)
              have O3 := ownB ho bA1
              have B3 : w5.heap.size ≤ (wr.alloc (.cells #[.int .u32 78, .int .i64 0, .int .i64 0, .int .i64 0, .int .u32 0] 63)).heap.size := Nat.le_trans (Nat.le_of_lt (Nat.lt_of_le_of_lt HB7.out.2.2.2.2.2 HI.out.hb.2.2)) (Nat.le_trans HI.out.sz bA1.size)
              have N3 := pg_cells (p := ⟨78, 0, 0, 0, 0⟩) (heap_alloc_new wr (.cells #[.int .u32 78, .int .i64 0, .int .i64 0, .int .i64 0, .int .u32 0] 63))
              have M3 := pgL_one ⟨78, 0, 0, 0, 0⟩
              obtain ⟨i0, hIn, hz0, hz1, hz2⟩ := info_parts info_par
              obtain ⟨m, hm⟩ : ∃ y, Y.l0 + i = y := ⟨_, rfl⟩
              rw [hm] at O3
              have hm9 : m ≤ 1000000 := by have := HLe.out; omega
              have cA : wr.cell? ⟨bA, 0, none⟩ = some v0 := HI.out.bk.cell 0
              have cAA : ∀ ob, (wr.alloc ob).cell? ⟨bA, 0, none⟩ = some v0 := fun ob => cellB cA (belA (Below.refl _ _) _)
              have HBA : Hid (_) := bA1
              have HM : Hid (Y.l0 + i = m) := hm
              clear ho bA1 hm
              go_wp2_with (at_builtin; refine wpList_append_own_at _ rfl _ _ 22 rfl w5.heap.size 63 i0 (.agg #[.int .u32 0, .int .i64 0, .int .i64 0, .int .i64 0, .int .u32 0]) 5 40 Tryd.underlying22 hIn hz0 hz1 hz2 rfl (by decide) v0 m xs rfl O3 ⟨wr.heap.size, 0, none⟩ 1 1 (pgL ⟨78, 0, 0, 0, 0⟩) rfl rfl N3 M3 (by unfold maxLen; omega) (by omega) B3 ?_)
              intro v7 w7' O7 G7 _ E7
              have HN0 : Hid (MA w W0 (w7'.setCell ⟨bA, 0, none⟩ v7) bA w5.heap.size (.slice z0 Y.l0 d0) (.slice z1 Y.l1 d1) v7 v1 (Y.l0 + i + 1) (Y.l1 + i) Y.ms) := HI.out.app0 HBA.out (by rw [HM.out]; exact O7) G7 (by rw [World.size_alloc]; exact E7)
              have k7' : Bk w7' bA #[v0, v1, .int .u32 (Y.ms : Nat)] 25 := (G7.block bA (by have := HI.out.bk.lt; have := HBA.out.size; omega) (fun e => own_ty (by decide) (HI.out.bk.off (Off.of_below (l := []) HBA.out) (by simp)) O3 e.symm)).trans (HI.out.bk.off (Off.of_below (l := []) HBA.out) (by simp))
              obtain ⟨g7, c7, rfl, _⟩ := own_slcP O7
              have c70 : w7'.cell? ⟨bA, 0, none⟩ = some v0 := k7'.cell 0
              have f70 := k7'.fz
              clear O7 G7 E7 O3 B3 N3 M3 hIn hz0 hz1 hz2 cA cAA k7' HI HBA HM hm9
              go_upto_region 27 with fail
              obtain ⟨wq, hwq⟩ : ∃ y, w7'.setCell ⟨bA, 0, none⟩ (.slice (some ⟨g7, 0, none⟩) (m + 1) c7) = y := ⟨_, rfl⟩
              rw [hwq] at HN0 ⊢
              clear hwq c70 f70
              obtain ⟨ys, ho⟩ := HN0.out.o1
              have bA1 := belA (Below.refl _ wq) (.cells #[.int .u32 78, .int .i64 0, .int .i64 0, .int .i64 0, .int .u32 0] 63)
              have O3 := ownB ho bA1
              have B3 : w5.heap.size ≤ (wq.alloc (.cells #[.int .u32 78, .int .i64 0, .int .i64 0, .int .i64 0, .int .u32 0] 63)).heap.size := Nat.le_trans (Nat.le_of_lt (Nat.lt_of_le_of_lt HB7.out.2.2.2.2.2 HN0.out.hb.2.2)) (Nat.le_trans HN0.out.sz bA1.size)
              have N3 := pg_cells (p := ⟨78, 0, 0, 0, 0⟩) (heap_alloc_new wq (.cells #[.int .u32 78, .int .i64 0, .int .i64 0, .int .i64 0, .int .u32 0] 63))
              have M3 := pgL_one ⟨78, 0, 0, 0, 0⟩
              obtain ⟨i0, hIn, hz0, hz1, hz2⟩ := info_parts info_par
              obtain ⟨m2, hm2⟩ : ∃ y, Y.l1 + i = y := ⟨_, rfl⟩
              rw [hm2] at O3
              have hm9 : m2 ≤ 1000000 := by have := HLe.out; omega
              have cA : wq.cell? ⟨bA, 1, none⟩ = some v1 := HN0.out.bk.cell 1
              have cAA : ∀ ob, (wq.alloc ob).cell? ⟨bA, 1, none⟩ = some v1 := fun ob => cellB cA (belA (Below.refl _ _) _)
              have HBA : Hid (_) := bA1
              have HM2 : Hid (Y.l1 + i = m2) := hm2
              clear ho bA1 hm2
              go_wp2_with (at_builtin; refine wpList_append_own_at _ rfl _ _ 22 rfl w5.heap.size 63 i0 (.agg #[.int .u32 0, .int .i64 0, .int .i64 0, .int .i64 0, .int .u32 0]) 5 40 Tryd.underlying22 hIn hz0 hz1 hz2 rfl (by decide) v1 m2 ys rfl O3 ⟨wq.heap.size, 0, none⟩ 1 1 (pgL ⟨78, 0, 0, 0, 0⟩) rfl rfl N3 M3 (by unfold maxLen; omega) (by omega) B3 ?_)
              intro v8 w8' O8 G8 _ E8
              have HN1 : Hid (MA w W0 (w8'.setCell ⟨bA, 1, none⟩ v8) bA w5.heap.size (.slice z0 Y.l0 d0) (.slice z1 Y.l1 d1) (.slice (some ⟨g7, 0, none⟩) (m + 1) c7) v8 (Y.l0 + i + 1) (Y.l1 + i + 1) Y.ms) := HN0.out.app1 HBA.out (by rw [HM2.out]; exact O8) G8 (by rw [World.size_alloc]; exact E8)
              have k8' : Bk w8' bA #[.slice (some ⟨g7, 0, none⟩) (m + 1) c7, v1, .int .u32 (Y.ms : Nat)] 25 := (G8.block bA (by have := HN0.out.bk.lt; have := HBA.out.size; omega) (fun e => own_ty (by decide) (HN0.out.bk.off (Off.of_below (l := []) HBA.out) (by simp)) O3 e.symm)).trans (HN0.out.bk.off (Off.of_below (l := []) HBA.out) (by simp))
              obtain ⟨g8, c8, rfl, _⟩ := own_slcP O8
              have c80 : w8'.cell? ⟨bA, 1, none⟩ = some v1 := k8'.cell 1
              have f80 := k8'.fz
              clear O8 G8 E8 O3 B3 N3 M3 hIn hz0 hz1 hz2 cA cAA k8' HN0 HBA HM2 hm9
              go_wp2_with fail
              go_roundw
              case rel =>
                have e1 := HE.out
                refine ⟨i1, .slice (some ⟨g7, 0, none⟩) (m + 1) c7, .slice (some ⟨g8, 0, none⟩) (m2 + 1) c8, by omega, rfl, ?_⟩
                rw [← e1]
                exact HN1
              case measure =>
                have := HE.out
                simp [natV]
                omega
            · obtain rfl : i = 30 := by omega
              have hlt' : ¬ (((30 : Nat) : Nat) : Int) < 30 := by omega
              have HI3 : Hid (_) := HI.out
              have bf := HI.out.bel
              by_cases hN0 : N = 0
              · have qz : ((N : Nat) : Int) = 0 := by omega
                have HB : Hid (_) := bf
                clear bf HI
                subst hN0
                go_wp2_with fail
                go_ret
                exact ⟨rfl, HB.out⟩
              have qz : (((N : Nat) : Int) == 0) = false := beq_eq_false_iff_ne.2 (by omega)
              have qz0 : (0 : Int) < ((N : Nat) : Int) := by omega
              obtain ⟨gw, ow, ea, cw⟩ := (HA.out.2.2.2.2.1.below bf) 0 (by omega)
              rw [Nat.add_zero] at cw
              subst ea
              have e1 : ((tx (L 0)).toList == [110, 101, 116]) = (L 0 == [110, 101, 116]) := by rw [tx_list]
              have e2 : ((tx (L 0)).toList == [104, 111, 115, 116]) = (L 0 == [104, 111, 115, 116]) := by rw [tx_list]
              have e3 : ((tx (L 0)).toList == [100, 101, 118, 105, 99, 101]) = (L 0 == [100, 101, 118, 105, 99, 101]) := by rw [tx_list]
              obtain ⟨X, hX⟩ : ∃ x, tx (L 0) = x := ⟨_, rfl⟩
              obtain ⟨r1, h1⟩ : ∃ x, (L 0 == [110, 101, 116]) = x := ⟨_, rfl⟩
              obtain ⟨r2, h2⟩ : ∃ x, (L 0 == [104, 111, 115, 116]) = x := ⟨_, rfl⟩
              obtain ⟨r3, h3⟩ : ∃ x, (L 0 == [100, 101, 118, 105, 99, 101]) = x := ⟨_, rfl⟩
              rw [hX] at cw e1 e2 e3
              rw [h1] at e1
              rw [h2] at e2
              rw [h3] at e3
              obtain ⟨kG, kN, kB, kK, rG0, rG1, rB0, rB1, rK0, rK1⟩ := HF.out.2 wr v0 v1 _ _ HI.out
              have m0 : wr.cell? ⟨bG, 0, none⟩ = some (.slice y0 Z.l0 k0) := kG.cell 0
              have m1 : wr.cell? ⟨bG, 1, none⟩ = some (.slice y1 Z.l1 k1) := kG.cell 1
              have m2 : wr.cell? ⟨bG, 2, none⟩ = some (.int .u32 (Z.ms : Nat)) := kG.cell 2
              have m3 : wr.cell? ⟨w.heap.size, 0, none⟩ = some (.slice a0 Z.l0 c0) := kN.cell 0
              have m4 : wr.cell? ⟨w.heap.size, 1, none⟩ = some (.slice a1 Z.l1 c1) := kN.cell 1
              have m5 : wr.cell? ⟨w.heap.size, 2, none⟩ = some (.int .u32 (Z.ms : Nat)) := kN.cell 2
              have hQ := rsameN y0 y1 a0 a1 Z.l0 Z.l1 k0 k1 c0 c1 Z.ms Z.P0 Z.P1 wr rG0.psrow rG1.psrow (HA.out.2.2.1.below bf).psrow (HA.out.2.2.2.1.below bf).psrow (by have := HG.out; omega) (by have := HG.out; omega)
              have HR : Hid (_) := And.intro bf (And.intro kB (And.intro kK (And.intro rB0 (And.intro rB1 (And.intro rK0 rK1)))))
              clear bf kG kN kB kK rG0 rG1 rB0 rB1 rK0 rK1 HI HI3 h1 h2 h3 hX hN0
              have two : (r1 = false ∧ r2 = false ∧ r3 = false) ∨ r1 = true ∨ (r1 = false ∧ r2 = true) ∨ (r1 = false ∧ r2 = false ∧ r3 = true) := by cases r1 <;> cases r2 <;> cases r3 <;> simp
              rcases two with ⟨rfl, rfl, rfl⟩ | two
              · go_wp2_with fail
                go_ret
                exact ⟨rfl, HR.out.1⟩
              rcases two with rfl | ⟨rfl, rfl⟩ | ⟨rfl, rfl, rfl⟩
              all_goals
                go_wp2_with fail
                refine hQ.mono ?_
                rintro r wy ⟨rfl, bY⟩
                have kB := HR.out.2.1.off (Off.of_below (l := []) bY) (by simp)
                have kK := HR.out.2.2.1.off (Off.of_below (l := []) bY) (by simp)
                have s0 : wy.cell? ⟨bB, 0, none⟩ = some (.slice x0 Y.l0 e0_) := kB.cell 0
                have s1 : wy.cell? ⟨bB, 1, none⟩ = some (.slice x1 Y.l1 e1_) := kB.cell 1
                have s2 : wy.cell? ⟨bB, 2, none⟩ = some (.int .u32 (Y.ms : Nat)) := kB.cell 2
                have s3 : wy.cell? ⟨bK, 0, none⟩ = some (.slice t0 Y.l0 f0) := kK.cell 0
                have s4 : wy.cell? ⟨bK, 1, none⟩ = some (.slice t1 Y.l1 f1) := kK.cell 1
                have s5 : wy.cell? ⟨bK, 2, none⟩ = some (.int .u32 (Y.ms : Nat)) := kK.cell 2
                have hQ2 := rsameN x0 x1 t0 t1 Y.l0 Y.l1 e0_ e1_ f0 f1 Y.ms Y.P0 Y.P1 wy (HR.out.2.2.2.1.below bY).psrow (HR.out.2.2.2.2.1.below bY).psrow (HR.out.2.2.2.2.2.1.below bY).psrow (HR.out.2.2.2.2.2.2.below bY).psrow (by have := HLe.out; omega) (by have := HLe.out; omega)
                have HY : Hid (Below w.heap.size w wy) := HR.out.1.trans (bY.mono HR.out.1.size)
                clear hQ bY kB kK m0 m1 m2 m3 m4 m5
                go_wp2_with fail
                refine hQ2.mono ?_
                rintro r wz ⟨rfl, bz⟩
                have HZ : Hid (Below w.heap.size w wz) := HY.out.trans (bz.mono HY.out.size)
                clear hQ2 bz
                go_wp2_with fail
                go_ret
                exact ⟨rfl, HZ.out⟩
end Go.Proofs.YtiikebaehoobnaaDoor

