/- Layer 20: are two nets the same: where they are. (gensv7.py) -/
import Derived.Test.YtiikebaehoobnaaDoorSv6
import Derived.Test.YtiikebaehoobnaaDoorSp1
namespace Go.Proofs.YtiikebaehoobnaaDoor
set_option maxRecDepth 100000
open Go.RowKit Go.Maps
set_option maxRecDepth 100000
set_option linter.unusedVariables false
set_option maxHeartbeats 2000000 in
theorem rsameN (a0 a1 b0 b1 : Option Addr) (l0 l1 c0 c1 d0 d1 ms : Nat) (P0 P1 : Nat → Ps) (w : World) (h0 : PsRow w a0 l0 P0) (h1 : PsRow w a1 l1 P1) (k0 : PsRow w b0 l0 P0) (k1 : PsRow w b1 l1 P1) (hl0 : l0 ≤ 1000) (hl1 : l1 ≤ 1000) : Calls Tryd.prog 20 #[.agg #[.slice a0 l0 c0, .slice a1 l1 c1, .int .u32 (ms : Nat)], .agg #[.slice b0 l0 d0, .slice b1 l1 d1, .int .u32 (ms : Nat)]] w fun r w' => r = .returned (.bool true) ∧ Below w.heap.size w w' := by
  have ba : Below w.heap.size w (w.alloc (.cells #[.slice a0 l0 c0, .slice a1 l1 c1, .int .u32 (ms : Nat)] 25)) := belA (Below.refl _ _) _
  have bb : Below w.heap.size w ((w.alloc (.cells #[.slice a0 l0 c0, .slice a1 l1 c1, .int .u32 (ms : Nat)] 25)).alloc (.cells #[.slice b0 l0 d0, .slice b1 l1 d1, .int .u32 (ms : Nat)] 25)) := belA ba _
  have k2 : Bk ((w.alloc (.cells #[.slice a0 l0 c0, .slice a1 l1 c1, .int .u32 (ms : Nat)] 25)).alloc (.cells #[.slice b0 l0 d0, .slice b1 l1 d1, .int .u32 (ms : Nat)] 25)) w.heap.size #[.slice a0 l0 c0, .slice a1 l1 c1, .int .u32 (ms : Nat)] 25 := (Bk.new w _ _).off (l := []) (Off.alloc _ _ _) (by simp)
  have k3 := Bk.new (w.alloc (.cells #[.slice a0 l0 c0, .slice a1 l1 c1, .int .u32 (ms : Nat)] 25)) #[.slice b0 l0 d0, .slice b1 l1 d1, .int .u32 (ms : Nat)] 25
  have sz : (w.alloc (.cells #[.slice a0 l0 c0, .slice a1 l1 c1, .int .u32 (ms : Nat)] 25)).heap.size = w.heap.size + 1 := by simp
  rw [sz] at k3
  obtain ⟨W, hW⟩ : ∃ x, (w.alloc (.cells #[.slice a0 l0 c0, .slice a1 l1 c1, .int .u32 (ms : Nat)] 25)).alloc (.cells #[.slice b0 l0 d0, .slice b1 l1 d1, .int .u32 (ms : Nat)] 25) = x := ⟨_, rfl⟩
  rw [hW] at bb k2 k3
  have HC : Hid (∀ wx, Below W.heap.size W wx → wx.cell? ⟨w.heap.size, 0, none⟩ = some (.slice a0 l0 c0) ∧ wx.cell? ⟨w.heap.size, 1, none⟩ = some (.slice a1 l1 c1) ∧ wx.cell? ⟨w.heap.size, 2, none⟩ = some (.int .u32 (ms : Nat)) ∧ wx.cell? ⟨w.heap.size + 1, 0, none⟩ = some (.slice b0 l0 d0) ∧ wx.cell? ⟨w.heap.size + 1, 1, none⟩ = some (.slice b1 l1 d1) ∧ wx.cell? ⟨w.heap.size + 1, 2, none⟩ = some (.int .u32 (ms : Nat)) ∧ PsRow wx a0 l0 P0 ∧ PsRow wx a1 l1 P1 ∧ PsRow wx b0 l0 P0 ∧ PsRow wx b1 l1 P1) := fun wx bx =>
    ⟨cellB (k2.cell 0) bx, cellB (k2.cell 1) bx, cellB (k2.cell 2) bx, cellB (k3.cell 0) bx, cellB (k3.cell 1) bx, cellB (k3.cell 2) bx, (h0.below bb).below bx, (h1.below bb).below bx, (k0.below bb).below bx, (k1.below bb).below bx⟩
  obtain ⟨p0, p1, p2, q0, q1, q2, _⟩ := HC.out W (Below.refl _ _)
  have HB : Hid (_) := bb
  clear ba bb k2 k3 sz h0 h1 k0 k1
  go_enter Tryd.func20, Tryd.ntmps20
  go_upto_region 1 with fail
  try rw [hW]
  clear hW
  go_wp2_with fail
  clear p0 p1 p2 q0 q1 q2
  go_loopw [5, 30, 31, 32, 33, 34, 35, 36, 37, 38, 39, 40, 41, 42, 43, 44, 45, 46, 47] (fun c _ _ _ _ _ _ _ _ _ _ _ _ _ _ _ _ _ _ wr => ∃ i : Nat, i ≤ l0 ∧ c = .int .i64 ((i : Nat) : Int) ∧ Hid (Below W.heap.size W wr)) (fun c _ _ _ _ _ _ _ _ _ _ _ _ _ _ _ _ _ _ _ => l0 - natV c)
  case atStart => exact ⟨0, by omega, rfl, Below.refl _ _⟩
  case round =>
    obtain ⟨i, hi, rfl, HI⟩ := hrel
    obtain ⟨p0, p1, p2, q0, q1, q2, r0, r1, s0, s1⟩ := HC.out wr HI.out
    clear r1 s1
    by_cases hlt : i < l0
    · have hlt' : ((i : Nat) : Int) < ((l0 : Nat) : Int) := by omega
      have hw1 : IntKind.i64.wrap (((i : Nat) : Int) + 1) = ((i + 1 : Nat) : Int) := by rw [IntKind.wrap_i64]; omega
      have hp5 : ∀ (q off : Nat) (h : wr.rangeAt q (off + i * 5) (P0 i).cs), wr.cell? ⟨q, off + i * 5, none⟩ = some (.int .u32 ((P0 i).c : Nat)) ∧ wr.cell? ⟨q, off + i * 5 + 1, none⟩ = some (.int .i64 (P0 i).o) ∧ wr.cell? ⟨q, off + i * 5 + 2, none⟩ = some (.int .i64 (P0 i).i) ∧ wr.cell? ⟨q, off + i * 5 + 3, none⟩ = some (.int .i64 (P0 i).t) ∧ wr.cell? ⟨q, off + i * 5 + 4, none⟩ = some (.int .u32 ((P0 i).n : Nat)) := fun q off h => ⟨h 0 _ rfl, h 1 _ rfl, h 2 _ rfl, h 3 _ rfl, h 4 _ rfl⟩
      obtain ⟨x, xo, ex, rx⟩ := r0 i hlt
      obtain ⟨y, yo, ey, ry⟩ := s0 i hlt
      obtain ⟨x0, x1, x2, x3, x4⟩ := hp5 x xo rx
      obtain ⟨y0, y1, y2, y3, y4⟩ := hp5 y yo ry
      clear hp5 r0 s0 rx ry
      subst ex ey
      go_upto_region 6 with fail
      go_cut [47] (fun z wx => z = .bool false ∧ Hid (Below W.heap.size W wx))
      case first =>
        go_region
        all_goals ((try go_wp2_with fail); go_meet; exact ⟨by first | rfl | simp, HI.out.drew⟩)
      case rest =>
        obtain ⟨rfl, HJ⟩ := hcut
        go_wp2_with fail
        go_roundw
        case rel => exact ⟨i + 1, by omega, by first | rfl | go_num, HJ⟩
        case measure => simp [natV] <;> omega
    · obtain rfl : i = l0 := by omega
      have hlt' : ¬ ((i : Nat) : Int) < ((i : Nat) : Int) := by omega
      clear r0 s0
      go_wp2_with fail
      go_loopw [6, 48, 49, 50, 51, 52, 53, 54, 55, 56, 57, 58, 59, 60, 61, 62, 63, 64, 65] (fun c _ _ _ _ _ _ _ _ _ _ _ _ _ _ _ _ _ _ wr => ∃ i : Nat, i ≤ l1 ∧ c = .int .i64 ((i : Nat) : Int) ∧ Hid (Below W.heap.size W wr)) (fun c _ _ _ _ _ _ _ _ _ _ _ _ _ _ _ _ _ _ _ => l1 - natV c)
      case atStart => exact ⟨0, by omega, rfl, HI.out⟩
      case round =>
        obtain ⟨i, hi, rfl, HI⟩ := hrel
        obtain ⟨p0, p1, p2, q0, q1, q2, r0, r1, s0, s1⟩ := HC.out wr HI.out
        clear r0 s0
        by_cases hlt : i < l1
        · have hlt' : ((i : Nat) : Int) < ((l1 : Nat) : Int) := by omega
          have hw1 : IntKind.i64.wrap (((i : Nat) : Int) + 1) = ((i + 1 : Nat) : Int) := by rw [IntKind.wrap_i64]; omega
          have hp5 : ∀ (q off : Nat) (h : wr.rangeAt q (off + i * 5) (P1 i).cs), wr.cell? ⟨q, off + i * 5, none⟩ = some (.int .u32 ((P1 i).c : Nat)) ∧ wr.cell? ⟨q, off + i * 5 + 1, none⟩ = some (.int .i64 (P1 i).o) ∧ wr.cell? ⟨q, off + i * 5 + 2, none⟩ = some (.int .i64 (P1 i).i) ∧ wr.cell? ⟨q, off + i * 5 + 3, none⟩ = some (.int .i64 (P1 i).t) ∧ wr.cell? ⟨q, off + i * 5 + 4, none⟩ = some (.int .u32 ((P1 i).n : Nat)) := fun q off h => ⟨h 0 _ rfl, h 1 _ rfl, h 2 _ rfl, h 3 _ rfl, h 4 _ rfl⟩
          obtain ⟨x, xo, ex, rx⟩ := r1 i hlt
          obtain ⟨y, yo, ey, ry⟩ := s1 i hlt
          obtain ⟨x0, x1, x2, x3, x4⟩ := hp5 x xo rx
          obtain ⟨y0, y1, y2, y3, y4⟩ := hp5 y yo ry
          clear hp5 r1 s1 rx ry
          subst ex ey
          go_upto_region 11 with fail
          go_cut [65] (fun z wx => z = .bool false ∧ Hid (Below W.heap.size W wx))
          case first =>
            go_region
            all_goals ((try go_wp2_with fail); go_meet; exact ⟨by first | rfl | simp, HI.out.drew⟩)
          case rest =>
            obtain ⟨rfl, HJ⟩ := hcut
            go_wp2_with fail
            go_roundw
            case rel => exact ⟨i + 1, by omega, by first | rfl | go_num, HJ⟩
            case measure => simp [natV] <;> omega
        · obtain rfl : i = l1 := by omega
          have hlt' : ¬ ((i : Nat) : Int) < ((i : Nat) : Int) := by omega
          clear r1 s1
          go_wp2_with fail
          go_ret
          exact ⟨rfl, HB.out.trans (HI.out.mono HB.out.size)⟩
end Go.Proofs.YtiikebaehoobnaaDoor
