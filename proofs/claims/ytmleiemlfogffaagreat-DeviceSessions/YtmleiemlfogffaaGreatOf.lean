/- What Of answers, the code's and the reference's: the remainder of the bytes' bits. -/
import Derived.Test.YtmleiemlfogffaaGreatMem
import Derived.Test.YtmleiemlfogffaaGreatRowv
import Derived.Laws.AppendOwnNone
namespace Go.Proofs.YtmleiemlfogffaaGreat
set_option maxRecDepth 100000
open Go.RowKit

theorem bit8 (x k : Nat) (hx : x < 256) : bits .and .u8 ((x : Int) / 2 ^ k) 1 = ((x.testBit k).toNat : Int) := by
  have e : (x : Int) / 2 ^ k = ((x >>> k : Nat) : Int) := by rw [Nat.shiftRight_eq_div_pow]; simp
  have hl : x >>> k < 256 := by rw [Nat.shiftRight_eq_div_pow]; exact Nat.lt_of_le_of_lt (Nat.div_le_self _ _) hx
  have h := u8_and_nat (x >>> k) 1 hl (by omega)
  rw [nat_mask1, shr_bit] at h
  rw [e]
  exact h

set_option maxHeartbeats 400000 in
theorem bits_empty (a : Option Addr) (cap m : Nat) (w : World) (hm : m < 18446744073709551616) :
    Calls Tryz.prog 141 #[.slice a 0 cap, .int .u64 m] w fun e w' => e = .returned (.int .u64 0) ∧ w' = w := by
  have hb := PM.bl_le (n := m) (k := 64) (by omega)
  by_cases hz : PM.bl m = 1
  · have hz1 : ((PM.bl m : Int) - 1 == 0) = true := by simp; omega
    clear hz
    go_enter Tryz.func141, Tryz.ntmps141
    go_wp2_with (go_at_call 177; refine (refDegree_any _ _ (by assumption)).mono ?_; rintro e w' ⟨rfl, rfl⟩)
    go_ret
    exact ⟨rfl, rfl⟩
  · have hz1 : ((PM.bl m : Int) - 1 == 0) = false := by simp; omega
    go_enter Tryz.func141, Tryz.ntmps141
    go_wp2_with (go_at_call 177; refine (refDegree_any _ _ (by assumption)).mono ?_; rintro e w' ⟨rfl, rfl⟩)
    refine wp_loop_rounds 1 ?_
    rw [rounds_succ]
    go_wp2
    go_ret
    exact ⟨rfl, rfl⟩
def BL (bs : Nat → Nat) (n : Nat) : List Value := (List.range n).map fun t => Value.bool (PM.fb bs t)
theorem BL_succ (bs : Nat → Nat) (n : Nat) : BL bs (n + 1) = BL bs n ++ [Value.bool (PM.fb bs n)] := by simp [BL, List.range_succ]
theorem BL_get (bs : Nat → Nat) (n i : Nat) (h : i < n) : (BL bs n)[i]? = some (Value.bool (PM.fb bs i)) := by simp [BL, h]
theorem info_bool : (Tryz.prog.info? 4).map (fun i => (i.zero, i.size, i.bytes)) = some (some (.bool false), 1, 1) := by kernel_rfl
theorem bit8_not (x k : Nat) (hx : x < 256) : (bits .and .u8 ((x : Int) / 2 ^ k) 1 != 0) = x.testBit k := by
  rw [bit8 x k hx]; cases x.testBit k <;> rfl
set_option maxHeartbeats 400000 in
theorem refOf_zero (a : Option Addr) (len cap : Nat) (w : World) :
    Calls Tryz.prog 105 #[.slice a len cap, .int .u64 0] w fun e w' => e = .returned (.tuple #[.int .u64 0, .int .i64 10]) ∧ w' = w := by
  go_enter Tryz.func105, Tryz.ntmps105
  go_wp2
  go_ret2
  exact ⟨rfl, rfl⟩
set_option maxRecDepth 100000 in
set_option maxHeartbeats 1000000 in
theorem refOf_any (b off len cap m : Nat) (bs : Nat → Nat) (w : World) (hlen : len ≤ 1000000) (hm : m < 18446744073709551616) (h0 : m ≠ 0)
    (hb : b < w.heap.size) (hc : ∀ i, i < len → bs i < 256 ∧ w.cell? ⟨b, off + i, none⟩ = some (.int .u8 (bs i))) :
    Calls Tryz.prog 105 #[.slice (some ⟨b, off, none⟩) len cap, .int .u64 m] w fun e w' => e = .returned (.tuple #[.int .u64 (PM.R m m.log2 (PM.V (PM.fb bs) (8 * len)) : Nat), .int .i64 0]) ∧ Below w.heap.size w w' := by
  have hz : ((m : Int) == 0) = false := by simpa using h0
  obtain ⟨i0, hi, hz0, hz1, hz2⟩ := info_parts info_bool
  go_enter Tryz.func105, Tryz.ntmps105
  go_wp2_with (at_make; refine wpList_make_own _ rfl _ _ 224 rfl w.heap.size 4 i0 (.bool false) 1 Tryz.underlying224 hi hz0 hz1 _ _ _ (8 * len) rfl rfl (by omega) ?b2 ?b3 ?b4 ?_)
  case b2 => rw [hz2]; omega
  case b3 => unfold maxLen; omega
  case b4 => exact Nat.le_refl _
  intro w1 hown1 hgrow1
  have hbel1 : Below w.heap.size w w1 := (Below.refl _ _).grown hgrow1 (Nat.le_refl _) (by simp)
  clear hgrow1
  go_wp2
  go_loopw [6, 7, 8] (fun v c _ wr => ∃ i : Nat, i ≤ len ∧ c = .int .i64 i ∧ wr.ownsRow w.heap.size 4 1 v (8 * i) (BL bs (8 * i)) ∧ Below w.heap.size w wr) (fun _ c _ _ => len - (intOf c).toNat)
  case atStart => exact ⟨0, by omega, rfl, hown1, hbel1⟩
  case round =>
    obtain ⟨i, hi2, rfl, hown, hbel⟩ := hrel
    clear hown1 hbel1
    by_cases hlt : i < len
    · obtain ⟨hb8, hcell⟩ := hc i hlt
      clear hc
      go_wp2
      go_loopw [6, 8] (fun v c wr => ∃ j : Nat, j ≤ 8 ∧ c = .int .i64 (7 - (j : Int)) ∧ wr.ownsRow w.heap.size 4 1 v (8 * i + j) (BL bs (8 * i + j)) ∧ Below w.heap.size w wr) (fun _ c _ => (intOf c + 1).toNat)
      case atStart => exact ⟨0, by omega, rfl, hown, hbel⟩
      case round =>
        clear hown hbel
        obtain ⟨j, hj, rfl, hown, hbel⟩ := hrel
        by_cases hlt2 : j < 8
        · have hcx : wr.cell? ⟨b, off + i, none⟩ = some (.int .u8 (bs i)) := (hbel.cell hb).trans hcell
          obtain ⟨d, hd⟩ : ∃ d, d = PM.fb bs (8 * i + j) := ⟨_, rfl⟩
          have t1 : (bits .and .u8 ((bs i : Int) / 2 ^ (7 - j)) 1 != 0) = d := by rw [bit8_not _ _ hb8, hd, PM.fb_at bs i j hlt2]
          have HL : Hid (BL bs (8 * i + (j + 1)) = BL bs (8 * i + j) ++ [Value.bool d]) := by rw [hd]; exact BL_succ bs (8 * i + j)
          have hsz := hbel.size
          clear hcell hd
          go_wp2_with (at_builtin; refine wpList_append_own _ rfl _ _ 224 rfl w.heap.size 4 i0 (.bool false) 1 1 Tryz.underlying224 hi hz0 hz1 hz2 rfl (by decide) _ _ _ rfl (hown.alloc _) ⟨wr.heap.size, 0, none⟩ 1 1 [.bool d] rfl rfl ?c1 ?c2 ?c3 ?c4 ?c5 ?_)
          case c1 => exact cell_one_new _ _ _
          case c2 => intro u hu; simp at hu; subst hu; rfl
          case c3 => unfold maxLen; omega
          case c4 => omega
          case c5 => simp; omega
          intro v' w2 hown2 hgrow2 _
          have hbel2 : Below w.heap.size w w2 := (hbel.alloc hsz _).grown hgrow2 (by simp; omega) (fun k hk => (hown.lt k hk).1)
          clear hgrow2 hcx
          go_wp2
          go_roundw
          case rel => exact ⟨j + 1, by omega, by go_num, by rw [HL.out]; exact hown2, hbel2⟩
          case measure => simp [intOf] <;> omega
        · go_wp2
          go_roundw
          case rel => exact ⟨i + 1, by omega, by go_num, by rw [show 8 * (i + 1) = 8 * i + j by omega]; exact hown, hbel⟩
          case measure => simp [intOf] <;> omega
    · obtain rfl : i = len := by omega
      clear hc
      have HB : Calls Tryz.prog 141 #[u6, .int .u64 m] wr fun e w' => e = .returned (.int .u64 (PM.R m m.log2 (PM.V (PM.fb bs) (8 * i)) : Nat)) ∧ w' = wr := by
        rcases hown.2 with ⟨rfl, hn⟩ | ⟨g, cap2, cur, hv, _⟩
        · have h := bits_empty none 0 m wr hm
          rw [hn]; exact h
        · subst hv
          refine bits_any g 0 (8 * i) cap2 m (PM.fb bs) wr (by omega) hm h0 ?_
          intro t ht
          rw [Nat.zero_add, hown.cellAt t (by omega)]
          exact BL_get bs (8 * i) t ht
      clear hown
      go_wp2_with (go_at_call 141; refine HB.mono ?_; rintro e w' ⟨rfl, rfl⟩)
      go_ret2
      exact ⟨rfl, hbel⟩
set_option maxHeartbeats 400000 in
theorem refOf_none (a : Option Addr) (cap m : Nat) (w : World) (hm : m < 18446744073709551616) (h0 : m ≠ 0) :
    Calls Tryz.prog 105 #[.slice a 0 cap, .int .u64 m] w fun e w' => e = .returned (.tuple #[.int .u64 0, .int .i64 0]) ∧ Below w.heap.size w w' := by
  have hz : ((m : Int) == 0) = false := by simpa using h0
  obtain ⟨i0, hi, hz0, hz1, hz2⟩ := info_parts info_bool
  go_enter Tryz.func105, Tryz.ntmps105
  go_wp2_with (at_make; refine wpList_make_own _ rfl _ _ 224 rfl w.heap.size 4 i0 (.bool false) 1 Tryz.underlying224 hi hz0 hz1 _ _ _ 0 rfl rfl (by omega) ?b2 ?b3 ?b4 ?_)
  case b2 => rw [hz2]; omega
  case b3 => unfold maxLen; omega
  case b4 => exact Nat.le_refl _
  intro w1 hown1 hgrow1
  have hbel1 : Below w.heap.size w w1 := (Below.refl _ _).grown hgrow1 (Nat.le_refl _) (by simp)
  clear hgrow1 hown1
  go_wp2
  refine wp_loop_rounds 1 ?_
  rw [rounds_succ]
  go_wp2_with (go_at_call 141; refine (bits_empty _ _ m _ hm).mono ?_; rintro e w' ⟨rfl, rfl⟩)
  go_ret2
  exact ⟨rfl, hbel1⟩
theorem refOf_row (a : Option Addr) (len cap m : Nat) (bs : Nat → Nat) (w : World) (hr : Row8 w a len cap bs) (hlen : len ≤ 1000000) (hm : m < 18446744073709551616) (h0 : m ≠ 0) :
    Calls Tryz.prog 105 #[.slice a len cap, .int .u64 m] w fun e w' => e = .returned (.tuple #[.int .u64 (PM.R m m.log2 (PM.V (PM.fb bs) (8 * len)) : Nat), .int .i64 0]) ∧ Below w.heap.size w w' := by
  by_cases hz : len = 0
  · subst hz; exact refOf_none a cap m w hm h0
  · obtain ⟨b, off, rfl, hb, hc⟩ := hr.plain (by omega)
    exact refOf_any b off len cap m bs w hlen hm h0 hb hc

end Go.Proofs.YtmleiemlfogffaaGreat
