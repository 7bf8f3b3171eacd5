/- The walk of the statement CrcOdd: any odd number of turned bits is seen. -/
import Derived.Test.YthddomhlkljlkaaHand
namespace Go.Proofs.Ythddomhlkljlkaa
open Go.RowKit

theorem R3_pow (j : Nat) : PM.R 3 1 (2 ^ j) = 1 := by
  induction j with
  | zero => exact PM.R_small 3 1 1 (by decide)
  | succ j ih => rw [PM.R_pow_succ, ih]; decide
theorem R3_of_g (n : Nat) (h : PM.R PM.g 32 n = 0) : PM.R 3 1 n = 0 := by
  have h1 := PM.rm_thru PM.deg3 PM.R3_g n n
  rw [show PM.rm PM.g 32 n n = PM.R PM.g 32 n from rfl, h, PM.R_zero, show PM.rm 3 1 n n = PM.R 3 1 n from rfl, PM.R_R PM.deg3] at h1
  exact h1.symm
theorem par_step (d j i : Nat) (h : PM.R 3 1 d = i % 2) : PM.R 3 1 (d ^^^ 2 ^ j) = (i + 1) % 2 := by
  rw [PM.R_xor, h, R3_pow]
  rcases (show i % 2 = 0 ∨ i % 2 = 1 by omega) with e | e
  · rw [e, show (i + 1) % 2 = 1 by omega]; rfl
  · rw [e, show (i + 1) % 2 = 0 by omega]; rfl

/-- A slice of ints that are read. -/
structure RowI (w : World) (a : Option Addr) (n : Nat) (ps : Nat → Nat) : Prop where
  src : ∀ i, i < n → ∃ b off, a = some ⟨b, off, none⟩ ∧ w.cell? ⟨b, off + i, none⟩ = some (.int .i64 (ps i : Nat)) ∧ b < w.heap.size
theorem RowI.below {w w' : World} {a : Option Addr} {n : Nat} {ps : Nat → Nat} (h : RowI w a n ps) (hb : Below w.heap.size w w') : RowI w' a n ps :=
  ⟨fun i hi => by
    obtain ⟨b, off, ha, hc, hl⟩ := h.src i hi
    exact ⟨b, off, ha, (hb.cell hl).trans hc, Nat.lt_of_lt_of_le hl hb.size⟩⟩
def CI (ps : Nat → Nat) (n : Nat) : List Value := (List.range n).map fun t => Value.int .i64 (ps t)
theorem CI_length (ps : Nat → Nat) (n : Nat) : (CI ps n).length = n := by simp [CI]
theorem CI_get (ps : Nat → Nat) (n i : Nat) (h : i < n) : (CI ps n)[i]? = some (.int .i64 (ps i)) := by simp [CI, h]
theorem CI_snoc (ps : Nat → Nat) (n x : Nat) : CI ps n ++ [Value.int .i64 (x : Nat)] = CI (fun t => if t = n then x else ps t) (n + 1) := by
  unfold CI
  rw [List.range_succ, List.map_append]
  congr 1
  · apply List.map_congr_left
    intro t ht
    have := List.mem_range.1 ht
    show _ = Value.int .i64 ((if t = n then x else ps t : Nat) : Int)
    rw [if_neg (show ¬ t = n by omega)]
  · simp
theorem own_rowI {w : World} {B e n : Nat} {v : Value} {ps : Nat → Nat} (h : w.ownsRow B e 1 v n (CI ps n)) : ∃ a cap, v = .slice a n cap ∧ RowI w a n ps := by
  rcases h.2 with ⟨rfl, rfl⟩ | ⟨g, cap, cur, hv, _, hg, _⟩
  · exact ⟨none, 0, rfl, ⟨fun i hi => by omega⟩⟩
  · subst hv
    refine ⟨_, cap, rfl, ⟨fun i hi => ⟨g, 0, rfl, ?_, (Array.getElem?_eq_some_iff.1 hg).1⟩⟩⟩
    rw [Nat.zero_add, h.cellAt i (by omega), CI_get ps n i hi]
def CT (ps : Nat → Bool) (n : Nat) : List Value := (List.range n).map fun t => Value.bool (ps t)
theorem CT_length (ps : Nat → Bool) (n : Nat) : (CT ps n).length = n := by simp [CT]
theorem CT_get (ps : Nat → Bool) (n i : Nat) (h : i < n) : (CT ps n)[i]? = some (.bool (ps i)) := by simp [CT, h]
theorem CT_set (f : Nat → Bool) (n j : Nat) (x : Bool) : (CT f n).set j (.bool x) = CT (fun i => if i = j then x else f i) n := by
  apply List.ext_getElem?
  intro i
  rw [List.getElem?_set]
  by_cases hj : j = i
  · subst hj
    by_cases hi : j < n
    · rw [if_pos rfl, if_pos (by rw [CT_length]; exact hi), CT_get _ n j hi, if_pos rfl]
    · rw [if_pos rfl, if_neg (by rw [CT_length]; exact hi)]
      simp [CT, hi]
  · rw [if_neg hj]
    by_cases hi : i < n
    · rw [CT_get f n i hi, CT_get _ n i hi, if_neg (by omega)]
    · simp [CT, hi]
theorem CT_false (n : Nat) : List.replicate n (Value.bool false) = CT (fun _ => false) n := by
  apply List.ext_getElem?
  intro i
  by_cases hi : i < n
  · rw [CT_get _ n i hi, List.getElem?_replicate, if_pos hi]
  · simp [CT, hi]
set_option maxRecDepth 100000 in
set_option maxHeartbeats 1000000 in
theorem turned_any (a0 : Option Addr) (len cap : Nat) (bs : Nat → Nat) (a1 : Option Addr) (k cap1 : Nat) (ps : Nat → Nat) (w : World) (hr : Row8 w a0 len cap bs) (hp : RowI w a1 k ps) (hps : ∀ i, i < k → ps i < 8 * len) (hl : len ≤ 100000) (hk : k ≤ 100000) :
    Calls Try.prog 25 #[.slice a0 len cap, .slice a1 k cap1] w fun e w' => ∃ v, e = .returned v ∧ Below w.heap.size w w' ∧
      ∃ f d, w'.ownsRow w.heap.size 5 1 v len (CB f len) ∧ (∀ i, i < len → f i < 256) ∧ PM.V (PM.fb f) (8 * len) = PM.V (PM.fb bs) (8 * len) ^^^ d ∧ PM.R 3 1 d = k % 2 ∧ (k = 0 → d = 0) := by
  obtain ⟨i0, hi, hz0, hz1, hz2⟩ := info_parts info_u8
  have hbd := build0
  have hbelA : Below w.heap.size w (w.alloc (.cells #[] 5)) := (Below.refl _ _).alloc (Nat.le_refl _) _
  have R0 := hr.below hbelA
  have O0 : (w.alloc (.cells #[] 5)).ownsRow w.heap.size 5 1 (.slice (some ⟨w.heap.size, 0, none⟩) 0 0) 0 (CB bs 0) := World.ownsRow_made w #[] 0 (Nat.le_refl _) (Nat.zero_le _) rfl
  have hszA := hbelA.size
  refine Calls.mono (R := fun e w' => ∃ v, e = .returned v ∧ Hid (Below w.heap.size w w' ∧ ∃ f d, w'.ownsRow w.heap.size 5 1 v len (CB f len) ∧ (∀ i, i < len → f i < 256) ∧ PM.V (PM.fb f) (8 * len) = PM.V (PM.fb bs) (8 * len) ^^^ d ∧ PM.R 3 1 d = k % 2 ∧ (k = 0 → d = 0))) ?_ (fun e w' h => h)
  go_enter Try.func25, Try.ntmps25
  go_wp2_with (at_builtin; refine wpList_append_row8 rfl (.tmp 7) (.tmp 8) 27 rfl w.heap.size 5 i0 (.int .u8 0) Try.underlying27 hi hz0 hz1 hz2 rfl _ 0 _ rfl O0 a0 len cap bs rfl R0 (by unfold maxLen; omega) (by omega) hszA ?_)
  intro v2 w2 hown2 hgrow2
  have hbel2 : Below w.heap.size w w2 := hbelA.grown hgrow2 hszA (fun k hk => (O0.lt k hk).1)
  rw [show CB bs 0 = [] from rfl, List.nil_append] at hown2
  have hb0 := hr.byte
  clear hgrow2 O0 R0 hbelA hbd hr
  obtain ⟨ax, cx, rfl, hax⟩ := own_form hown2
  go_wp2_with fail
  go_loopw [6] (fun c wr => ∃ i f d, i ≤ k ∧ c = .int .i64 ((i : Nat) : Int) ∧ wr.ownsRow w.heap.size 5 1 (.slice ax len cx) len (CB f len) ∧ (∀ i, i < len → f i < 256) ∧ PM.V (PM.fb f) (8 * len) = PM.V (PM.fb bs) (8 * len) ^^^ d ∧ PM.R 3 1 d = i % 2 ∧ (i = 0 → d = 0) ∧ Below w.heap.size w wr) (fun c _ => k - (intOf c).toNat)
  case atStart => exact ⟨0, bs, 0, by omega, rfl, hown2, hb0, by rw [Nat.xor_zero], PM.R_zero _ _, fun _ => rfl, hbel2⟩
  case round =>
    clear hown2 hbel2 hb0
    obtain ⟨i, f, d, hi2, rfl, hown, hfb, hfV, hpar, hd0, hbel⟩ := hrel
    by_cases hlt : i < k
    · have HV : Hid (PM.V (PM.fb f) (8 * len) = PM.V (PM.fb bs) (8 * len) ^^^ d ∧ PM.R 3 1 d = i % 2) := ⟨hfV, hpar⟩
      clear hfV hpar hd0
      obtain ⟨b1, off1, rfl, hc1, hb1⟩ := hp.src i hlt
      have hcp := (hbel.cell hb1).trans hc1
      have hpi := hps i hlt
      obtain ⟨gx, rfl, hgx⟩ := hax (by omega)
      obtain ⟨p, hpp⟩ : ∃ p, p = ps i := ⟨_, rfl⟩
      rw [← hpp] at hcp hpi
      clear hpp
      obtain ⟨q, hq⟩ : ∃ q, q = p / 8 := ⟨_, rfl⟩
      obtain ⟨m, hm⟩ : ∃ m, m = p % 8 := ⟨_, rfl⟩
      have hq1 : (p : Int) / 8 = (q : Int) := by omega
      have hm1 : (p : Int) % 8 = (m : Int) := by omega
      have hq2 : (p : Int).tdiv 8 = (q : Int) := by rw [Int.tdiv_eq_ediv_of_nonneg (by omega)]; exact hq1
      have hm2 : (p : Int).tmod 8 = (m : Int) := by rw [Int.tmod_eq_emod_of_nonneg (by omega)]; exact hm1
      have hpw : (128 : Int) / 2 ^ m = ((2 ^ (7 - m) : Nat) : Int) := by rw [hm]; exact pow7 p
      have hql : q < len := by omega
      have hm8 : m < 8 := by omega
      have hcx := hown.cellAt q (by omega)
      rw [CB_get _ len _ hql] at hcx
      have hfx := hown.frozenAt q
      have hX := xor8 (f q) (2 ^ (7 - m)) (hfb q hql) (show 2 ^ (7 - m) < 2 ^ 8 from Nat.pow_lt_pow_right (by omega) (by omega))
      have hown3 : (wr.drew.setCell ⟨gx, q, none⟩ (.int .u8 ((f q ^^^ 2 ^ (7 - m) : Nat) : Int))).ownsRow w.heap.size 5 1 (.slice (some ⟨gx, 0, none⟩) len cx) len (CB (fl f p) len) := by
        have h := ((show wr.drew.ownsRow w.heap.size 5 1 (.slice (some ⟨gx, 0, none⟩) len cx) len (CB f len) from hown).stored q (.int .u8 ((f q ^^^ 2 ^ (7 - m) : Nat) : Int))).1
        rw [CB_set, CB_congr _ (fl f p) len (fun i _ => by unfold fl; rw [hq, hm])] at h
        exact h
      have hbel3 : Below w.heap.size w (wr.drew.setCell ⟨gx, q, none⟩ (.int .u8 ((f q ^^^ 2 ^ (7 - m) : Nat) : Int))) := hbel.drew.setCell (p := ⟨gx, q, none⟩) hgx _
      have HO : Hid (_) := hown3
      have HB : Hid (_) := hbel3
      have HF : Hid (∀ i, i < len → fl f p i < 256) := fl_lt hfb p (by omega)
      have HW : Hid (PM.V (PM.fb (fl f p)) (8 * len) = PM.V (PM.fb bs) (8 * len) ^^^ (d ^^^ 2 ^ (8 * len - 1 - p)) ∧ PM.R 3 1 (d ^^^ 2 ^ (8 * len - 1 - p)) = (i + 1) % 2) := by
        refine ⟨?_, par_step d _ i HV.out.2⟩
        rw [fl_V f p (8 * len) hpi, HV.out.1, Nat.xor_assoc]
      have hkl : p < 800000 := by omega
      clear hq hm hown hbel hown3 hbel3 hax HV hfb hps hp hc1
      generalize f q ^^^ 2 ^ (7 - m) = y at *
      generalize 2 ^ (7 - m) = z at *
      go_wp2_with fail
      go_region
      all_goals (go_wp2_with fail; go_roundw)
      case rel => exact ⟨i + 1, fl f p, _, by omega, by go_num, HO.out, HF.out, HW.out.1, HW.out.2, fun h => by omega, HB.out⟩
      case measure => simp [intOf] <;> omega
    · obtain rfl : i = k := by omega
      have HV : Hid (_) := And.intro hfV (And.intro hpar hd0)
      clear hfV hpar hd0 hax hp hps
      go_wp2
      go_ret
      exact ⟨_, rfl, hbel, f, d, hown, hfb, HV.out.1, HV.out.2.1, HV.out.2.2⟩
theorem infoB : (Try.prog.info? 4).map (fun i => (i.zero, i.size, i.bytes)) = some (some (.bool false), 1, 1) := by kernel_rfl
theorem infoI : (Try.prog.info? 3).map (fun i => (i.zero, i.size, i.bytes)) = some (some (.int .i64 0), 1, 8) := by kernel_rfl
set_option maxRecDepth 100000 in
set_option maxHeartbeats 1000000 in
theorem places_any (a0 : Option Addr) (len cap n : Nat) (zs : Nat → Int) (w : World) (hl : len ≤ 100000) (hn0 : 0 < n) (hn : n ≤ 1000000)
    (hr : ∀ i, i < len → ∃ b off, a0 = some ⟨b, off, none⟩ ∧ w.cell? ⟨b, off + i, none⟩ = some (.int .i64 (zs i)) ∧ b < w.heap.size) :
    Calls Try.prog 24 #[.slice a0 len cap, .int .i64 n] w fun e w' => ∃ v, e = .returned v ∧ Hid (Below w.heap.size w w' ∧ ∃ k ps, k ≤ len ∧ w'.ownsRow w.heap.size 3 1 v k (CI ps k) ∧ ∀ i, i < k → ps i < n) := by
  obtain ⟨iB, hB, hB0, hB1, hB2⟩ := info_parts infoB
  obtain ⟨iI, hI, hI0, hI1, hI2⟩ := info_parts infoI
  go_enter Try.func24, Try.ntmps24
  go_wp2_with (at_make; refine wpList_make_full _ rfl (.tmp 11) (.tmp 11) 61 rfl w.heap.size 4 iB (.bool false) 1 Try.underlying61 hB hB0 hB1 _ _ _ _ n rfl rfl rfl rfl ?c1 ?c2 ?c3 ?_)
  case c1 => rw [hB2]; omega
  case c2 => unfold maxLen; omega
  case c3 => exact Nat.le_refl _
  intro w1 hown1 hgrow1
  have hbel1 : Below w.heap.size w w1 := (Below.refl _ _).grown hgrow1 (Nat.le_refl _) (fun k hk => by cases hk)
  rw [toList_madeCells_one, CT_false] at hown1
  have hsz1 : w.heap.size < w1.heap.size := (hown1.lt w.heap.size rfl).2
  clear hgrow1
  go_wp2_with fail
  go_loopw [6, 7, 8] (fun v c _ wr => ∃ i k ps sb, i ≤ len ∧ k ≤ i ∧ c = .int .i64 ((i : Nat) : Int) ∧ wr.ownsRow (w.heap.size + 1) 3 1 v k (CI ps k) ∧ (∀ i, i < k → ps i < n) ∧ wr.ownsRow w.heap.size 4 1 (.slice (some ⟨w.heap.size, 0, none⟩) n n) n (CT sb n) ∧ Below w.heap.size w wr ∧ w.heap.size < wr.heap.size) (fun _ c _ _ => len - (intOf c).toNat)
  case atStart => exact ⟨0, 0, (fun _ => 0), (fun _ => false), by omega, by omega, rfl, World.ownsRow_nil _ _ _ _, (fun i hi => by omega), hown1, hbel1, hsz1⟩
  case round =>
    clear hown1 hbel1 hsz1
    obtain ⟨i, k, ps, sb, hi, hki, rfl, hown, hps, hownB, hbel, hsz⟩ := hrel
    by_cases hlt : i < len
    · obtain ⟨b, off, rfl, hc, hb⟩ := hr i hlt
      have hci := (hbel.cell hb).trans hc
      have hrm : wrap64 ((IntKind.u64.wrap (zs i)).tmod (n : Int)) = ((((zs i % 18446744073709551616) % (n : Int)).toNat : Nat) : Int) := by
        rw [IntKind.wrap_u64, Int.tmod_eq_emod_of_nonneg (by omega)]
        have h1 := Int.emod_nonneg (zs i % 18446744073709551616) (show (n : Int) ≠ 0 by omega)
        have h2 := Int.emod_lt_of_pos (zs i % 18446744073709551616) (show 0 < (n : Int) by omega)
        unfold wrap64
        omega
      have hfr : ((zs i % 18446744073709551616) % (n : Int)).toNat < n := by
        have h1 := Int.emod_nonneg (zs i % 18446744073709551616) (show (n : Int) ≠ 0 by omega)
        have h2 := Int.emod_lt_of_pos (zs i % 18446744073709551616) (show 0 < (n : Int) by omega)
        omega
      generalize ((zs i % 18446744073709551616) % (n : Int)).toNat = p at *
      have hcs := hownB.cellAt p (by omega)
      rw [CT_get _ n p hfr] at hcs
      have hfs := hownB.frozenAt p
      have hnz : ((n : Int) == 0) = false := by simp; omega
      have hnI : ¬ (n : Int) = 0 := by omega
      clear hr hc
      cases hsb : sb p
      · rw [hsb] at hcs
        have hownB2 := (hownB.stored p (.bool true)).1
        rw [CT_set] at hownB2
        have hown2 := ownsRow_setCell_below hown (a := ⟨w.heap.size, p, none⟩) (Nat.lt_succ_self _) (.bool true)
        have hbel2 := hbel.setCell (p := ⟨w.heap.size, p, none⟩) (Nat.le_refl _) (.bool true)
        have hsz2 : w.heap.size < (wr.setCell ⟨w.heap.size, p, none⟩ (.bool true)).heap.size := by simpa [World.setCell] using hsz
        have hownB3 := hownB2.alloc (.cells #[.int .i64 (p : Int)] 3)
        have hown3 := hown2.alloc (.cells #[.int .i64 (p : Int)] 3)
        have hbel3 := hbel2.alloc (by omega) (.cells #[.int .i64 (p : Int)] 3)
        have hsz3 : w.heap.size + 1 ≤ ((wr.setCell ⟨w.heap.size, p, none⟩ (.bool true)).alloc (.cells #[.int .i64 (p : Int)] 3)).heap.size := by simp; omega
        have hnew := cell_one_new (wr.setCell ⟨w.heap.size, p, none⟩ (.bool true)) (.int .i64 (p : Int)) 3
        rw [show (wr.setCell ⟨w.heap.size, p, none⟩ (.bool true)).heap.size = wr.heap.size by simp [World.setCell]] at hnew
        clear hown hownB hbel hownB2 hown2 hbel2 hsb
        go_wp2_with (at_builtin; refine wpList_append_own _ rfl (.tmp 36) (.tmp 38) 48 rfl (w.heap.size + 1) 3 iI (.int .i64 0) 1 8 Try.underlying48 hI hI0 hI1 hI2 rfl (by decide) _ k _ rfl hown3 ⟨wr.heap.size, 0, none⟩ 1 1 [.int .i64 (p : Int)] rfl rfl hnew (by intro u hu; simp at hu; subst hu; rfl) (by unfold maxLen; omega) (by omega) hsz3 ?_)
        intro v4 w4 hown4 hgrow4 _
        have hownB4 := hownB3.kept hgrow4 (.inr (fun e => by have := (hown3.lt w.heap.size e.symm).1; omega))
        have hbel4 : Below w.heap.size w w4 := hbel3.grown hgrow4 (by omega) (fun j hj => by have := (hown3.lt j hj).1; omega)
        have hsz4 : w.heap.size < w4.heap.size := Nat.lt_of_lt_of_le hsz3 hgrow4.size
        rw [CI_snoc] at hown4
        have HP : Hid (∀ j, j < k + 1 → (if j = k then p else ps j) < n) := fun j hj => by
          by_cases e : j = k
          · rw [if_pos e]; exact hfr
          · rw [if_neg e]; exact hps j (by omega)
        clear hgrow4 hown3 hbel3 hownB3 hcs hfs hci
        go_wp2
        go_roundw
        case rel => exact ⟨i + 1, k + 1, _, _, by omega, by omega, by go_num, hown4, HP.out, hownB4, hbel4, hsz4⟩
        case measure => simp [intOf] <;> omega
      · rw [hsb] at hcs
        go_wp2
        go_roundw
        case rel => exact ⟨i + 1, k, ps, sb, by omega, by omega, by go_num, hown, hps, hownB, hbel, hsz⟩
        case measure => simp [intOf] <;> omega
    · clear hr
      go_wp2
      go_ret
      exact ⟨_, rfl, hbel, k, ps, by omega, own_base hown (by omega), hps⟩
theorem BRow.ints {w : World} {a : Option Addr} {len cap : Nat} {zs : List Int} (h : BRow .i64 w a len cap zs) :
    ∀ i, i < len → ∃ b off, a = some ⟨b, off, none⟩ ∧ w.cell? ⟨b, off + i, none⟩ = some (.int .i64 (zs.getD i 0)) ∧ b < w.heap.size := by
  intro i hi
  rcases h with ⟨_, rfl, _, _⟩ | ⟨x, rfl, hl, _, hz, hc, _⟩
  · omega
  · have h1 := hc i (by omega)
    obtain ⟨b, off, spot⟩ := x
    have hspot : spot = none := by simpa [Addr.add] using World.cell?_spot (hc 0 (by omega))
    subst hspot
    rw [Go.WideShapes.add_plain] at h1
    exact ⟨b, off, rfl, h1, World.block_lt_of_cell? w _ h1⟩

end Go.Proofs.Ythddomhlkljlkaa
