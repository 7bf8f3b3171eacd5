/- Layer 20: are two nets the same: where they are. (gensv7.py) -/
import Derived.Test.YtnmnjcjfgbpkaaaDoorJSv3
import Derived.Test.YtnmnjcjfgbpkaaaDoorJPck
namespace Go.Proofs.YtnmnjcjfgbpkaaaDoor
set_option maxRecDepth 100000
open Go.RowKit Go.Maps
set_option maxRecDepth 100000
set_option linter.unusedVariables false
set_option maxHeartbeats 2000000 in
theorem rsameN (a0 a1 b0 b1 : Option Addr) (l0 l1 c0 c1 d0 d1 ms : Nat) (P0 P1 : Nat → Ps) (w : World) (h0 : PsRow w a0 l0 P0) (h1 : PsRow w a1 l1 P1) (k0 : PsRow w b0 l0 P0) (k1 : PsRow w b1 l1 P1) (hl0 : l0 ≤ 1000000) (hl1 : l1 ≤ 1000000) : Calls Tryd.prog 10 #[.agg #[.slice a0 l0 c0, .slice a1 l1 c1, .int .u32 (ms : Nat)], .agg #[.slice b0 l0 d0, .slice b1 l1 d1, .int .u32 (ms : Nat)]] w fun r w' => r = .returned (.bool true) ∧ Below w.heap.size w w' := by
  have ba : Below w.heap.size w (w.alloc (.cells #[.slice a0 l0 c0, .slice a1 l1 c1, .int .u32 (ms : Nat)] 26)) := belA (Below.refl _ _) _
  have bb : Below w.heap.size w ((w.alloc (.cells #[.slice a0 l0 c0, .slice a1 l1 c1, .int .u32 (ms : Nat)] 26)).alloc (.cells #[.slice b0 l0 d0, .slice b1 l1 d1, .int .u32 (ms : Nat)] 26)) := belA ba _
  have k2 : Bk ((w.alloc (.cells #[.slice a0 l0 c0, .slice a1 l1 c1, .int .u32 (ms : Nat)] 26)).alloc (.cells #[.slice b0 l0 d0, .slice b1 l1 d1, .int .u32 (ms : Nat)] 26)) w.heap.size #[.slice a0 l0 c0, .slice a1 l1 c1, .int .u32 (ms : Nat)] 26 := (Bk.new w _ _).off (l := []) (Off.alloc _ _ _) (by simp)
  have k3 := Bk.new (w.alloc (.cells #[.slice a0 l0 c0, .slice a1 l1 c1, .int .u32 (ms : Nat)] 26)) #[.slice b0 l0 d0, .slice b1 l1 d1, .int .u32 (ms : Nat)] 26
  have sz : (w.alloc (.cells #[.slice a0 l0 c0, .slice a1 l1 c1, .int .u32 (ms : Nat)] 26)).heap.size = w.heap.size + 1 := by simp
  rw [sz] at k3
  obtain ⟨W, hW⟩ : ∃ x, (w.alloc (.cells #[.slice a0 l0 c0, .slice a1 l1 c1, .int .u32 (ms : Nat)] 26)).alloc (.cells #[.slice b0 l0 d0, .slice b1 l1 d1, .int .u32 (ms : Nat)] 26) = x := ⟨_, rfl⟩
  rw [hW] at bb k2 k3
  have HC : Hid (∀ wx, Below W.heap.size W wx → wx.cell? ⟨w.heap.size, 0, none⟩ = some (.slice a0 l0 c0) ∧ wx.cell? ⟨w.heap.size, 1, none⟩ = some (.slice a1 l1 c1) ∧ wx.cell? ⟨w.heap.size, 2, none⟩ = some (.int .u32 (ms : Nat)) ∧ wx.cell? ⟨w.heap.size + 1, 0, none⟩ = some (.slice b0 l0 d0) ∧ wx.cell? ⟨w.heap.size + 1, 1, none⟩ = some (.slice b1 l1 d1) ∧ wx.cell? ⟨w.heap.size + 1, 2, none⟩ = some (.int .u32 (ms : Nat)) ∧ PsRow wx a0 l0 P0 ∧ PsRow wx a1 l1 P1 ∧ PsRow wx b0 l0 P0 ∧ PsRow wx b1 l1 P1) := fun wx bx =>
    ⟨cellB (k2.cell 0) bx, cellB (k2.cell 1) bx, cellB (k2.cell 2) bx, cellB (k3.cell 0) bx, cellB (k3.cell 1) bx, cellB (k3.cell 2) bx, (h0.below bb).below bx, (h1.below bb).below bx, (k0.below bb).below bx, (k1.below bb).below bx⟩
  obtain ⟨p0, p1, p2, q0, q1, q2, _⟩ := HC.out W (Below.refl _ _)
  have HB : Hid (_) := bb
  clear ba bb k2 k3 sz h0 h1 k0 k1
  go_enter Tryd.func10, Tryd.ntmps10
  go_upto_region 1 with fail
  try rw [hW]
  clear hW
  go_wp2_with fail
  clear p0 p1 p2 q0 q1 q2
  go_loopw [5, 30, 31, 32, 33, 34, 35, 36, 37, 38, 39, 40, 41, 42, 43, 44, 45, 46, 47] (fun c _ _ _ _ _ _ _ _ _ _ _ _ _ _ _ _ _ _ wr => ∃ i : Nat, i ≤ l0 ∧ c = .int .i64 ((i : Nat) : Int) ∧ Hid (Below W.heap.size W wr)) (fun c _ _ _ _ _ _ _ _ _ _ _ _ _ _ _ _ _ _ _ => l0 - natV c)
  case atStart => exact ⟨0, by omega, rfl, Below.refl _ _⟩
  case round =>
    obtain ⟨i, hi, rfl, HI⟩ := hrel
    obtain ⟨p0, p1, p2, q0, q1, q2, r0, r1, s0, s1⟩ := HC.out wr HI.out
    clear r1 s1
    by_cases hlt : i < l0
    · have hlt' : ((i : Nat) : Int) < ((l0 : Nat) : Int) := by omega
      have hw1 : IntKind.i64.wrap (((i : Nat) : Int) + 1) = ((i + 1 : Nat) : Int) := by rw [IntKind.wrap_i64]; omega
      have hp5 : ∀ (q off : Nat) (h : wr.rangeAt q (off + i * 5) (P0 i).cs), wr.cell? ⟨q, off + i * 5, none⟩ = some (.int .u32 ((P0 i).c : Nat)) ∧ wr.cell? ⟨q, off + i * 5 + 1, none⟩ = some (.int .i64 (P0 i).o) ∧ wr.cell? ⟨q, off + i * 5 + 2, none⟩ = some (.int .i64 (P0 i).i) ∧ wr.cell? ⟨q, off + i * 5 + 3, none⟩ = some (.int .i64 (P0 i).t) ∧ wr.cell? ⟨q, off + i * 5 + 4, none⟩ = some (.int .u32 ((P0 i).n : Nat)) := fun q off h => ⟨h 0 _ rfl, h 1 _ rfl, h 2 _ rfl, h 3 _ rfl, h 4 _ rfl⟩
      obtain ⟨x, xo, ex, rx⟩ := r0 i hlt
      obtain ⟨y, yo, ey, ry⟩ := s0 i hlt
      obtain ⟨x0, x1, x2, x3, x4⟩ := hp5 x xo rx
      obtain ⟨y0, y1, y2, y3, y4⟩ := hp5 y yo ry
      clear hp5 r0 s0 rx ry
      subst ex ey
      go_upto_region 6 with fail
      go_cut [47] (fun z wx => z = .bool false ∧ Hid (Below W.heap.size W wx))
      case first =>
        go_region
        all_goals ((try go_wp2_with fail); go_meet; exact ⟨by first | rfl | simp, HI.out.drew⟩)
      case rest =>
        obtain ⟨rfl, HJ⟩ := hcut
        go_wp2_with fail
        go_roundw
        case rel => exact ⟨i + 1, by omega, by first | rfl | go_num, HJ⟩
        case measure => simp [natV] <;> omega
    · obtain rfl : i = l0 := by omega
      have hlt' : ¬ ((i : Nat) : Int) < ((i : Nat) : Int) := by omega
      clear r0 s0
      go_wp2_with fail
      go_loopw [6, 48, 49, 50, 51, 52, 53, 54, 55, 56, 57, 58, 59, 60, 61, 62, 63, 64, 65] (fun c _ _ _ _ _ _ _ _ _ _ _ _ _ _ _ _ _ _ wr => ∃ i : Nat, i ≤ l1 ∧ c = .int .i64 ((i : Nat) : Int) ∧ Hid (Below W.heap.size W wr)) (fun c _ _ _ _ _ _ _ _ _ _ _ _ _ _ _ _ _ _ _ => l1 - natV c)
      case atStart => exact ⟨0, by omega, rfl, HI.out⟩
      case round =>
        obtain ⟨i, hi, rfl, HI⟩ := hrel
        obtain ⟨p0, p1, p2, q0, q1, q2, r0, r1, s0, s1⟩ := HC.out wr HI.out
        clear r0 s0
        by_cases hlt : i < l1
        · have hlt' : ((i : Nat) : Int) < ((l1 : Nat) : Int) := by omega
          have hw1 : IntKind.i64.wrap (((i : Nat) : Int) + 1) = ((i + 1 : Nat) : Int) := by rw [IntKind.wrap_i64]; omega
          have hp5 : ∀ (q off : Nat) (h : wr.rangeAt q (off + i * 5) (P1 i).cs), wr.cell? ⟨q, off + i * 5, none⟩ = some (.int .u32 ((P1 i).c : Nat)) ∧ wr.cell? ⟨q, off + i * 5 + 1, none⟩ = some (.int .i64 (P1 i).o) ∧ wr.cell? ⟨q, off + i * 5 + 2, none⟩ = some (.int .i64 (P1 i).i) ∧ wr.cell? ⟨q, off + i * 5 + 3, none⟩ = some (.int .i64 (P1 i).t) ∧ wr.cell? ⟨q, off + i * 5 + 4, none⟩ = some (.int .u32 ((P1 i).n : Nat)) := fun q off h => ⟨h 0 _ rfl, h 1 _ rfl, h 2 _ rfl, h 3 _ rfl, h 4 _ rfl⟩
          obtain ⟨x, xo, ex, rx⟩ := r1 i hlt
          obtain ⟨y, yo, ey, ry⟩ := s1 i hlt
          obtain ⟨x0, x1, x2, x3, x4⟩ := hp5 x xo rx
          obtain ⟨y0, y1, y2, y3, y4⟩ := hp5 y yo ry
          clear hp5 r1 s1 rx ry
          subst ex ey
          go_upto_region 11 with fail
          go_cut [65] (fun z wx => z = .bool false ∧ Hid (Below W.heap.size W wx))
          case first =>
            go_region
            all_goals ((try go_wp2_with fail); go_meet; exact ⟨by first | rfl | simp, HI.out.drew⟩)
          case rest =>
            obtain ⟨rfl, HJ⟩ := hcut
            go_wp2_with fail
            go_roundw
            case rel => exact ⟨i + 1, by omega, by first | rfl | go_num, HJ⟩
            case measure => simp [natV] <;> omega
        · obtain rfl : i = l1 := by omega
          have hlt' : ¬ ((i : Nat) : Int) < ((i : Nat) : Int) := by omega
          clear r1 s1
          go_wp2_with fail
          go_ret
          exact ⟨rfl, HB.out.trans (HI.out.mono HB.out.size)⟩
end Go.Proofs.YtnmnjcjfgbpkaaaDoor
namespace Go.Proofs.YtnmnjcjfgbpkaaaDoor
set_option maxRecDepth 100000
open Go.RowKit Go.Maps
set_option maxRecDepth 100000
set_option linter.unusedVariables false
/-- Behind changes to the reader the variables stay. -/
def Lo (b : Nat) (w : World) : Prop := ∀ wx, Off [b] w wx → Lw wx
theorem Lo.off {b : Nat} {w w' : World} (h : Lo b w) (o : Off [b] w w') : Lo b w' := fun wx ox => h wx (o.trans ox)
theorem adv_next {o c : Nat} (h : 1 ≤ c) : adv o c = o + 1 := by unfold adv; rw [if_neg (by omega)]
/-- What a reader's set leaves. -/
theorem pnumO (b g o n c : Nat) (x : Bool) (l : List UInt8) (hl : l.length ≤ 281474976710656) (w : World) (hLo : Lo b w) (hb : b ∉ [2, 0, 5, 6]) (h : RB w b (.slice (some ⟨g, o, none⟩) (n + 1) (c + 1)) x) (hw : w.cell? ⟨g, o, none⟩ = some (.string (tx l))) (hc : n ≤ c) (hc2 : c ≤ 9223372036854775807) : Calls Tryd.prog 56 #[.pointer (some ⟨b, 0, none⟩)] w fun r w' => r = .returned (.int .u32 ((nmV l : Nat) : Int)) ∧ RB w' b (.slice (some ⟨g, adv o c, none⟩) n c) (x || !nmO l) ∧ Off [b] w w' :=
  pnumG b g o n c x l hl w (hLo w (Off.refl _ _)) hb hLo h hw hc hc2
set_option maxHeartbeats 4000000 in
theorem psetR (b g o e : Nat) (x : Bool) (L : Nat → List UInt8) (hL : ∀ i, i < 5 → (L i).length ≤ 281474976710656) (w : World) (hLo : Lo b w) (hb : b ∉ [2, 0, 5, 6]) (h : RB w b (.slice (some ⟨g, o, none⟩) 5 (e + 5)) x) (hw : ∀ i, i < 5 → w.cell? ⟨g, o + i, none⟩ = some (.string (tx (L i)))) (hne : g ≠ b) (he : e + 5 ≤ 9223372036854775807) : Calls Tryd.prog 64 #[.pointer (some ⟨b, 0, none⟩)] w fun r w' => r = .returned (.agg #[.int .u32 ((nmV (L 0) : Nat) : Int), .int .i64 ((nmV (L 1) : Nat) : Int), .int .i64 ((nmV (L 2) : Nat) : Int), .int .i64 ((nmV (L 3) : Nat) : Int), .int .u32 ((nmV (L 4) : Nat) : Int)]) ∧ (∃ v, RB w' b v (x || !nmO (L 0) || !nmO (L 1) || !nmO (L 2) || !nmO (L 3) || !nmO (L 4))) ∧ Off [b] w w' := by
  have hg : g < w.heap.size := World.block_lt_of_cell? w _ (hw 0 (by omega))
  have hbl := h.c.2.2.2.2
  have b1 := belA (Below.refl _ w) (.cells #[.int .u32 0, .int .i64 0, .int .i64 0, .int .i64 0, .int .u32 0] 50)
  have b2 := belA b1 (.cells #[.int .u32 0, .int .i64 0, .int .i64 0, .int .i64 0, .int .u32 0] 50)
  have kz : Bk ((w.alloc (.cells #[.int .u32 0, .int .i64 0, .int .i64 0, .int .i64 0, .int .u32 0] 50)).alloc (.cells #[.int .u32 0, .int .i64 0, .int .i64 0, .int .i64 0, .int .u32 0] 50)) w.heap.size #[.int .u32 0, .int .i64 0, .int .i64 0, .int .i64 0, .int .u32 0] 50 := (Bk.new w _ _).off (l := []) (Off.alloc _ _ _) (by simp)
  have kp := Bk.new (w.alloc (.cells #[.int .u32 0, .int .i64 0, .int .i64 0, .int .i64 0, .int .u32 0] 50)) #[.int .u32 0, .int .i64 0, .int .i64 0, .int .i64 0, .int .u32 0] 50
  have sz : (w.alloc (.cells #[.int .u32 0, .int .i64 0, .int .i64 0, .int .i64 0, .int .u32 0] 50)).heap.size = w.heap.size + 1 := by simp
  rw [sz] at kp
  obtain ⟨w0, hW⟩ : ∃ y, (w.alloc (.cells #[.int .u32 0, .int .i64 0, .int .i64 0, .int .i64 0, .int .u32 0] 50)).alloc (.cells #[.int .u32 0, .int .i64 0, .int .i64 0, .int .i64 0, .int .u32 0] 50) = y := ⟨_, rfl⟩
  rw [hW] at b2 kz kp
  have HS0 : Hid (_) := And.intro (h.below b2) (And.intro kz (And.intro kp (Off.of_below (l := [b, w.heap.size, w.heap.size + 1]) b2)))
  have HG : Hid (g < w.heap.size ∧ b < w.heap.size ∧ g ≠ b) := ⟨hg, hbl, hne⟩
  have HW : Hid (_) := And.intro hw (And.intro hL hLo)
  obtain ⟨V0, hV0⟩ : ∃ y, nmV (L 0) = y := ⟨_, rfl⟩
  obtain ⟨O0, hO0⟩ : ∃ y, nmO (L 0) = y := ⟨_, rfl⟩
  have t0 : V0 < 4294967296 := by rw [← hV0]; exact nmV_lt _
  obtain ⟨V1, hV1⟩ : ∃ y, nmV (L 1) = y := ⟨_, rfl⟩
  obtain ⟨O1, hO1⟩ : ∃ y, nmO (L 1) = y := ⟨_, rfl⟩
  have t1 : V1 < 4294967296 := by rw [← hV1]; exact nmV_lt _
  have e1 : IntKind.i64.wrap ((V1 : Nat) : Int) = ((V1 : Nat) : Int) := by rw [IntKind.wrap_i64]; omega
  obtain ⟨V2, hV2⟩ : ∃ y, nmV (L 2) = y := ⟨_, rfl⟩
  obtain ⟨O2, hO2⟩ : ∃ y, nmO (L 2) = y := ⟨_, rfl⟩
  have t2 : V2 < 4294967296 := by rw [← hV2]; exact nmV_lt _
  have e2 : IntKind.i64.wrap ((V2 : Nat) : Int) = ((V2 : Nat) : Int) := by rw [IntKind.wrap_i64]; omega
  obtain ⟨V3, hV3⟩ : ∃ y, nmV (L 3) = y := ⟨_, rfl⟩
  obtain ⟨O3, hO3⟩ : ∃ y, nmO (L 3) = y := ⟨_, rfl⟩
  have t3 : V3 < 4294967296 := by rw [← hV3]; exact nmV_lt _
  have e3 : IntKind.i64.wrap ((V3 : Nat) : Int) = ((V3 : Nat) : Int) := by rw [IntKind.wrap_i64]; omega
  obtain ⟨V4, hV4⟩ : ∃ y, nmV (L 4) = y := ⟨_, rfl⟩
  obtain ⟨O4, hO4⟩ : ∃ y, nmO (L 4) = y := ⟨_, rfl⟩
  have t4 : V4 < 4294967296 := by rw [← hV4]; exact nmV_lt _
  rw [hV0, hV1, hV2, hV3, hV4, hO0, hO1, hO2, hO3, hO4]
  have HV : Hid (_) := And.intro (And.intro hV0 (And.intro hV1 (And.intro hV2 (And.intro hV3 hV4)))) (And.intro hO0 (And.intro hO1 (And.intro hO2 (And.intro hO3 hO4))))
  have hoff : ∀ wx, Off [b, w.heap.size, w.heap.size + 1] w wx → Off [b] w wx := fun wx q => q.only (fun k hk hl => by simp at hk ⊢; omega)
  have hcell : ∀ wx, Off [b, w.heap.size, w.heap.size + 1] w wx → ∀ i, i < 5 → wx.cell? ⟨g, o + i, none⟩ = some (.string (tx (L i))) := fun wx q i hi => by
    have hg := HG.out
    have he := q.block g hg.1 (by simp; omega)
    have := HW.out.1 i hi
    rw [← this]
    unfold World.cell?
    rw [he]
  have HH : Hid (_) := And.intro hoff hcell
  clear h b1 b2 kz kp sz hw hL hLo hg hbl hne hV0 hO0 hV1 hO1 hV2 hO2 hV3 hO3 hV4 hO4 hoff hcell t0 t1 t2 t3 t4
  have h1 : Calls Tryd.prog 56 #[.pointer (some ⟨b, 0, none⟩)] w0 fun r w' => r = .returned (.int .u32 ((V0 : Nat) : Int)) ∧ RB w' b (.slice (some ⟨g, adv o (e + 4), none⟩) 4 (e + 4)) (x || !O0) ∧ Off [b] w0 w' := by
    have := pnumO b g o 4 (e + 4) x (L 0) (HW.out.2.1 0 (by omega)) w0 (HW.out.2.2.off (HH.out.1 _ HS0.out.2.2.2)) hb HS0.out.1 (HH.out.2 _ HS0.out.2.2.2 0 (by omega)) (by omega) (by omega)
    rw [HV.out.1.1, HV.out.2.1] at this
    exact this
  go_enter Tryd.func64, Tryd.ntmps64
  go_upto_region 2 with fail
  try rw [hW]
  clear hW
  go_wp2_with fail
  refine h1.mono ?_
  rintro r v0 ⟨rfl, r0, o0⟩
  have z0 := HS0.out.2.1.off o0 (by have := HG.out; simp; omega)
  have y0 := HS0.out.2.2.1.off o0 (by have := HG.out; simp; omega)
  have f0 := y0.fz
  have g0 : v0.cell? ⟨w.heap.size + 1, 0, none⟩ = some (.int .u32 0) := y0.cell 0
  obtain ⟨w1, hw1⟩ : ∃ y, v0.setCell ⟨w.heap.size + 1, 0, none⟩ (.int .u32 ((V0 : Nat) : Int)) = y := ⟨_, rfl⟩
  have HS1 : Hid (RB w1 b (.slice (some ⟨g, (o + 1), none⟩) 4 (e + 4)) (x || !O0) ∧ Bk w1 w.heap.size #[.int .u32 0, .int .i64 0, .int .i64 0, .int .i64 0, .int .u32 0] 50 ∧ Bk w1 (w.heap.size + 1) #[.int .u32 ((V0 : Nat) : Int), .int .i64 0, .int .i64 0, .int .i64 0, .int .u32 0] 50 ∧ Off [b, w.heap.size, w.heap.size + 1] w w1) := by
    rw [← hw1]
    have hG := HG.out
    have os := Off.setCell (w.heap.size + 1) 0 v0 (.int .u32 ((V0 : Nat) : Int))
    refine ⟨?_, z0.off os (by simp), y0.set 0 _, (HS0.out.2.2.2.trans (o0.more (by simp))).trans (os.more (by simp))⟩
    have := RB.off r0 os (by simp; omega)
    rw [adv_next (by omega)] at this
    exact this
  clear h1 r0 o0 z0 y0
  have h2 : Calls Tryd.prog 56 #[.pointer (some ⟨b, 0, none⟩)] w1 fun r w' => r = .returned (.int .u32 ((V1 : Nat) : Int)) ∧ RB w' b (.slice (some ⟨g, adv (o + 1) (e + 3), none⟩) 3 (e + 3)) ((x || !O0) || !O1) ∧ Off [b] w1 w' := by
    have := pnumO b g (o + 1) 3 (e + 3) (x || !O0) (L 1) (HW.out.2.1 1 (by omega)) w1 (HW.out.2.2.off (HH.out.1 _ HS1.out.2.2.2)) hb HS1.out.1 (HH.out.2 _ HS1.out.2.2.2 1 (by omega)) (by omega) (by omega)
    rw [HV.out.1.2.1, HV.out.2.2.1] at this
    exact this
  go_upto_region 3 with fail
  try rw [hw1]
  clear hw1 f0 g0
  go_wp2_with fail
  refine h2.mono ?_
  rintro r v1 ⟨rfl, r1, o1⟩
  have z1 := HS1.out.2.1.off o1 (by have := HG.out; simp; omega)
  have y1 := HS1.out.2.2.1.off o1 (by have := HG.out; simp; omega)
  have f1 := y1.fz
  have g1 : v1.cell? ⟨w.heap.size + 1, 1, none⟩ = some (.int .i64 0) := y1.cell 1
  obtain ⟨w2, hw2⟩ : ∃ y, v1.setCell ⟨w.heap.size + 1, 1, none⟩ (.int .i64 ((V1 : Nat) : Int)) = y := ⟨_, rfl⟩
  have HS2 : Hid (RB w2 b (.slice (some ⟨g, (o + 2), none⟩) 3 (e + 3)) ((x || !O0) || !O1) ∧ Bk w2 w.heap.size #[.int .u32 0, .int .i64 0, .int .i64 0, .int .i64 0, .int .u32 0] 50 ∧ Bk w2 (w.heap.size + 1) #[.int .u32 ((V0 : Nat) : Int), .int .i64 ((V1 : Nat) : Int), .int .i64 0, .int .i64 0, .int .u32 0] 50 ∧ Off [b, w.heap.size, w.heap.size + 1] w w2) := by
    rw [← hw2]
    have hG := HG.out
    have os := Off.setCell (w.heap.size + 1) 1 v1 (.int .i64 ((V1 : Nat) : Int))
    refine ⟨?_, z1.off os (by simp), y1.set 1 _, (HS1.out.2.2.2.trans (o1.more (by simp))).trans (os.more (by simp))⟩
    have := RB.off r1 os (by simp; omega)
    rw [adv_next (by omega)] at this
    exact this
  clear h2 r1 o1 z1 y1
  have h3 : Calls Tryd.prog 56 #[.pointer (some ⟨b, 0, none⟩)] w2 fun r w' => r = .returned (.int .u32 ((V2 : Nat) : Int)) ∧ RB w' b (.slice (some ⟨g, adv (o + 2) (e + 2), none⟩) 2 (e + 2)) (((x || !O0) || !O1) || !O2) ∧ Off [b] w2 w' := by
    have := pnumO b g (o + 2) 2 (e + 2) ((x || !O0) || !O1) (L 2) (HW.out.2.1 2 (by omega)) w2 (HW.out.2.2.off (HH.out.1 _ HS2.out.2.2.2)) hb HS2.out.1 (HH.out.2 _ HS2.out.2.2.2 2 (by omega)) (by omega) (by omega)
    rw [HV.out.1.2.2.1, HV.out.2.2.2.1] at this
    exact this
  go_upto_region 4 with fail
  try rw [hw2]
  clear hw2 f1 g1
  go_wp2_with fail
  refine h3.mono ?_
  rintro r v2 ⟨rfl, r2, o2⟩
  have z2 := HS2.out.2.1.off o2 (by have := HG.out; simp; omega)
  have y2 := HS2.out.2.2.1.off o2 (by have := HG.out; simp; omega)
  have f2 := y2.fz
  have g2 : v2.cell? ⟨w.heap.size + 1, 2, none⟩ = some (.int .i64 0) := y2.cell 2
  obtain ⟨w3, hw3⟩ : ∃ y, v2.setCell ⟨w.heap.size + 1, 2, none⟩ (.int .i64 ((V2 : Nat) : Int)) = y := ⟨_, rfl⟩
  have HS3 : Hid (RB w3 b (.slice (some ⟨g, (o + 3), none⟩) 2 (e + 2)) (((x || !O0) || !O1) || !O2) ∧ Bk w3 w.heap.size #[.int .u32 0, .int .i64 0, .int .i64 0, .int .i64 0, .int .u32 0] 50 ∧ Bk w3 (w.heap.size + 1) #[.int .u32 ((V0 : Nat) : Int), .int .i64 ((V1 : Nat) : Int), .int .i64 ((V2 : Nat) : Int), .int .i64 0, .int .u32 0] 50 ∧ Off [b, w.heap.size, w.heap.size + 1] w w3) := by
    rw [← hw3]
    have hG := HG.out
    have os := Off.setCell (w.heap.size + 1) 2 v2 (.int .i64 ((V2 : Nat) : Int))
    refine ⟨?_, z2.off os (by simp), y2.set 2 _, (HS2.out.2.2.2.trans (o2.more (by simp))).trans (os.more (by simp))⟩
    have := RB.off r2 os (by simp; omega)
    rw [adv_next (by omega)] at this
    exact this
  clear h3 r2 o2 z2 y2
  have h4 : Calls Tryd.prog 56 #[.pointer (some ⟨b, 0, none⟩)] w3 fun r w' => r = .returned (.int .u32 ((V3 : Nat) : Int)) ∧ RB w' b (.slice (some ⟨g, adv (o + 3) (e + 1), none⟩) 1 (e + 1)) ((((x || !O0) || !O1) || !O2) || !O3) ∧ Off [b] w3 w' := by
    have := pnumO b g (o + 3) 1 (e + 1) (((x || !O0) || !O1) || !O2) (L 3) (HW.out.2.1 3 (by omega)) w3 (HW.out.2.2.off (HH.out.1 _ HS3.out.2.2.2)) hb HS3.out.1 (HH.out.2 _ HS3.out.2.2.2 3 (by omega)) (by omega) (by omega)
    rw [HV.out.1.2.2.2.1, HV.out.2.2.2.2.1] at this
    exact this
  go_upto_region 5 with fail
  try rw [hw3]
  clear hw3 f2 g2
  go_wp2_with fail
  refine h4.mono ?_
  rintro r v3 ⟨rfl, r3, o3⟩
  have z3 := HS3.out.2.1.off o3 (by have := HG.out; simp; omega)
  have y3 := HS3.out.2.2.1.off o3 (by have := HG.out; simp; omega)
  have f3 := y3.fz
  have g3 : v3.cell? ⟨w.heap.size + 1, 3, none⟩ = some (.int .i64 0) := y3.cell 3
  obtain ⟨w4, hw4⟩ : ∃ y, v3.setCell ⟨w.heap.size + 1, 3, none⟩ (.int .i64 ((V3 : Nat) : Int)) = y := ⟨_, rfl⟩
  have HS4 : Hid (RB w4 b (.slice (some ⟨g, (o + 4), none⟩) 1 (e + 1)) ((((x || !O0) || !O1) || !O2) || !O3) ∧ Bk w4 w.heap.size #[.int .u32 0, .int .i64 0, .int .i64 0, .int .i64 0, .int .u32 0] 50 ∧ Bk w4 (w.heap.size + 1) #[.int .u32 ((V0 : Nat) : Int), .int .i64 ((V1 : Nat) : Int), .int .i64 ((V2 : Nat) : Int), .int .i64 ((V3 : Nat) : Int), .int .u32 0] 50 ∧ Off [b, w.heap.size, w.heap.size + 1] w w4) := by
    rw [← hw4]
    have hG := HG.out
    have os := Off.setCell (w.heap.size + 1) 3 v3 (.int .i64 ((V3 : Nat) : Int))
    refine ⟨?_, z3.off os (by simp), y3.set 3 _, (HS3.out.2.2.2.trans (o3.more (by simp))).trans (os.more (by simp))⟩
    have := RB.off r3 os (by simp; omega)
    rw [adv_next (by omega)] at this
    exact this
  clear h4 r3 o3 z3 y3
  have h5 : Calls Tryd.prog 56 #[.pointer (some ⟨b, 0, none⟩)] w4 fun r w' => r = .returned (.int .u32 ((V4 : Nat) : Int)) ∧ RB w' b (.slice (some ⟨g, adv (o + 4) e, none⟩) 0 e) (((((x || !O0) || !O1) || !O2) || !O3) || !O4) ∧ Off [b] w4 w' := by
    have := pnumO b g (o + 4) 0 e ((((x || !O0) || !O1) || !O2) || !O3) (L 4) (HW.out.2.1 4 (by omega)) w4 (HW.out.2.2.off (HH.out.1 _ HS4.out.2.2.2)) hb HS4.out.1 (HH.out.2 _ HS4.out.2.2.2 4 (by omega)) (by omega) (by omega)
    rw [HV.out.1.2.2.2.2, HV.out.2.2.2.2.2] at this
    exact this
  go_upto_region 6 with fail
  try rw [hw4]
  clear hw4 f3 g3
  go_wp2_with fail
  refine h5.mono ?_
  rintro r v4 ⟨rfl, r4, o4⟩
  have z4 := HS4.out.2.1.off o4 (by have := HG.out; simp; omega)
  have y4 := HS4.out.2.2.1.off o4 (by have := HG.out; simp; omega)
  have f4 := y4.fz
  have g4 : v4.cell? ⟨w.heap.size + 1, 4, none⟩ = some (.int .u32 0) := y4.cell 4
  obtain ⟨w5, hw5⟩ : ∃ y, v4.setCell ⟨w.heap.size + 1, 4, none⟩ (.int .u32 ((V4 : Nat) : Int)) = y := ⟨_, rfl⟩
  have HS5 : Hid (RB w5 b (.slice (some ⟨g, adv (o + 4) e, none⟩) 0 e) (((((x || !O0) || !O1) || !O2) || !O3) || !O4) ∧ Bk w5 w.heap.size #[.int .u32 0, .int .i64 0, .int .i64 0, .int .i64 0, .int .u32 0] 50 ∧ Bk w5 (w.heap.size + 1) #[.int .u32 ((V0 : Nat) : Int), .int .i64 ((V1 : Nat) : Int), .int .i64 ((V2 : Nat) : Int), .int .i64 ((V3 : Nat) : Int), .int .u32 ((V4 : Nat) : Int)] 50 ∧ Off [b, w.heap.size, w.heap.size + 1] w w5) := by
    rw [← hw5]
    have hG := HG.out
    have os := Off.setCell (w.heap.size + 1) 4 v4 (.int .u32 ((V4 : Nat) : Int))
    refine ⟨?_, z4.off os (by simp), y4.set 4 _, (HS4.out.2.2.2.trans (o4.more (by simp))).trans (os.more (by simp))⟩
    have := RB.off r4 os (by simp; omega)
    exact this
  clear h5 r4 o4 z4 y4
  go_upto_region 7 with fail
  try rw [hw5]
  clear hw5 f4 g4
  have p0 : w5.cell? ⟨w.heap.size + 1, 0, none⟩ = some (.int .u32 ((V0 : Nat) : Int)) := HS5.out.2.2.1.cell 0
  have p1 : w5.cell? ⟨w.heap.size + 1, 1, none⟩ = some (.int .i64 ((V1 : Nat) : Int)) := HS5.out.2.2.1.cell 1
  have p2 : w5.cell? ⟨w.heap.size + 1, 2, none⟩ = some (.int .i64 ((V2 : Nat) : Int)) := HS5.out.2.2.1.cell 2
  have p3 : w5.cell? ⟨w.heap.size + 1, 3, none⟩ = some (.int .i64 ((V3 : Nat) : Int)) := HS5.out.2.2.1.cell 3
  have p4 : w5.cell? ⟨w.heap.size + 1, 4, none⟩ = some (.int .u32 ((V4 : Nat) : Int)) := HS5.out.2.2.1.cell 4
  have q0 : w5.cell? ⟨w.heap.size, 0, none⟩ = some (.int .u32 0) := HS5.out.2.1.cell 0
  have q1 : w5.cell? ⟨w.heap.size, 1, none⟩ = some (.int .i64 0) := HS5.out.2.1.cell 1
  have q2 : w5.cell? ⟨w.heap.size, 2, none⟩ = some (.int .i64 0) := HS5.out.2.1.cell 2
  have q3 : w5.cell? ⟨w.heap.size, 3, none⟩ = some (.int .i64 0) := HS5.out.2.1.cell 3
  have q4 : w5.cell? ⟨w.heap.size, 4, none⟩ = some (.int .u32 0) := HS5.out.2.1.cell 4
  have fz := HS5.out.2.1.fz
  have HO : Hid (Off [w.heap.size] w5 (((((w5.setCell ⟨w.heap.size, 0, none⟩ (.int .u32 ((V0 : Nat) : Int))).setCell ⟨w.heap.size, 1, none⟩ (.int .i64 ((V1 : Nat) : Int))).setCell ⟨w.heap.size, 2, none⟩ (.int .i64 ((V2 : Nat) : Int))).setCell ⟨w.heap.size, 3, none⟩ (.int .i64 ((V3 : Nat) : Int))).setCell ⟨w.heap.size, 4, none⟩ (.int .u32 ((V4 : Nat) : Int)))) := Off.trans (Off.trans (Off.trans (Off.trans (Off.trans (Off.refl [w.heap.size] w5) (Off.setCell w.heap.size 0 _ _)) (Off.setCell w.heap.size 1 _ _)) (Off.setCell w.heap.size 2 _ _)) (Off.setCell w.heap.size 3 _ _)) (Off.setCell w.heap.size 4 _ _)
  go_wp2_with fail
  refine bodyPost_ret (v := .agg #[.int .u32 ((V0 : Nat) : Int), .int .i64 ((V1 : Nat) : Int), .int .i64 ((V2 : Nat) : Int), .int .i64 ((V3 : Nat) : Int), .int .u32 ((V4 : Nat) : Int)]) (by simp [results, Tryd.results64, go_sem, q0, q1, q2, q3, q4]) rfl ?_
  obtain ⟨w7, hw7⟩ : ∃ y, (((((w5.setCell ⟨w.heap.size, 0, none⟩ (.int .u32 ((V0 : Nat) : Int))).setCell ⟨w.heap.size, 1, none⟩ (.int .i64 ((V1 : Nat) : Int))).setCell ⟨w.heap.size, 2, none⟩ (.int .i64 ((V2 : Nat) : Int))).setCell ⟨w.heap.size, 3, none⟩ (.int .i64 ((V3 : Nat) : Int))).setCell ⟨w.heap.size, 4, none⟩ (.int .u32 ((V4 : Nat) : Int))) = y := ⟨_, rfl⟩
  rw [hw7] at HO ⊢
  clear hw7
  refine ⟨rfl, ⟨_, RB.off HS5.out.1 HO.out (by have := HG.out; simp; omega)⟩, ?_⟩
  exact HH.out.1 _ (HS5.out.2.2.2.trans (HO.out.more (by simp)))
end Go.Proofs.YtnmnjcjfgbpkaaaDoor

