/- The places of a pattern: the program's and the document's; lists of places. -/
import Derived.Test.YtboeefphjjgbpaaBurst
import Derived.Test.YtboeefphjjgbpaaCSeal
import Derived.RegionTactic
namespace Go.Proofs.Ytboeefphjjgbpaa
open Go.RowKit

/-- The cells of a list of places. -/
def CL (l : List Nat) : List Value := l.map fun j => Value.int .i64 (j : Nat)
theorem CL_length (l : List Nat) : (CL l).length = l.length := by simp [CL]
theorem CL_get (l : List Nat) (i : Nat) (h : i < l.length) : (CL l)[i]? = some (.int .i64 (l[i] : Nat)) := by simp [CL, h]
theorem CL_snoc (l : List Nat) (x : Nat) : CL l ++ [Value.int .i64 (x : Nat)] = CL (l ++ [x]) := by simp [CL]
/-- A slice of places that is read. -/
def RowL (w : World) (a : Option Addr) (l : List Nat) : Prop := ∀ i (h : i < l.length), ∃ b off, a = some ⟨b, off, none⟩ ∧ w.cell? ⟨b, off + i, none⟩ = some (.int .i64 (l[i] : Nat)) ∧ b < w.heap.size
theorem own_rowL {w : World} {B e : Nat} {v : Value} {l : List Nat} (h : w.ownsRow B e 1 v l.length (CL l)) : ∃ a cap, v = .slice a l.length cap ∧ RowL w a l := by
  rcases h.2 with ⟨rfl, hl⟩ | ⟨g, cap, cur, hv, _, hg, _⟩
  · exact ⟨none, 0, by rw [hl], fun i hi => by omega⟩
  · subst hv
    refine ⟨_, cap, rfl, fun i hi => ⟨g, 0, rfl, ?_, (Array.getElem?_eq_some_iff.1 hg).1⟩⟩
    rw [Nat.zero_add, h.cellAt i (by omega), CL_get l i hi]
theorem RowL.below {w w' : World} {a : Option Addr} {l : List Nat} (h : RowL w a l) (hb : Below w.heap.size w w') : RowL w' a l := fun i hi => by
  obtain ⟨b, off, h1, h2, h3⟩ := h i hi
  exact ⟨b, off, h1, (hb.cell h3).trans h2, Nat.lt_of_lt_of_le h3 hb.size⟩
theorem new_one (w : World) (x : Value) (t : TypeId) : ∀ j u, [x][j]? = some u → (w.alloc (.cells #[x] t)).cell? ((⟨w.heap.size, 0, none⟩ : Addr).add j) = some u := by
  intro j u hj
  match j, hj with
  | 0, hj =>
    simp at hj
    rw [← hj]
    have := cell_of_row _ w.heap.size 0 _ _ _ (heap_alloc_new w (.cells #[x] t))
    exact this
theorem drop_fin : ∀ n : Fin 256, 0 < n.val → bits .andNot .u8 (n.val : Int) ((2 ^ (PM.bl n.val - 1) : Nat) : Int) = ((n.val % 2 ^ (PM.bl n.val - 1) : Nat) : Int) := by decide +kernel
theorem shr_fin : ∀ l : Fin 9, 0 < l.val → (128 : Int) / 2 ^ (8 - l.val) = ((2 ^ (l.val - 1) : Nat) : Int) := by decide
theorem bit_fin : ∀ n : Fin 256, ∀ k : Fin 8, (bits .and .u8 (n.val : Int) ((128 : Int) / 2 ^ k.val) != 0) = n.val.testBit (7 - k.val) := by decide +kernel
theorem infoI : (Try.prog.info? 3).map (fun i => (i.zero, i.size, i.bytes)) = some (some (.int .i64 0), 1, 8) := by kernel_rfl
/-- 'make([]int, 0, c)'. -/
theorem wpList_makeI {P : Program} (w : World) {ops : Array Oper} {rest : List Oper} {o : Oper} {a : Act} {Q : Exit → Act → World → Prop}
    (hg : o.guard = none) (l c : Operand) (t : TypeId) (hop : o.op = Op.makeSlice t l c)
    (base : Nat) (e : TypeId) (i : TypeInfo) (h1 : P.underlying t = some (.slice e)) (h2 : P.info? e = some i) (h3 : i.zero = some (.int .i64 0)) (h4 : i.size = 1) (h5 : i.bytes = 8)
    (kl kc : IntKind) (L C : Int) (m : Nat) (hl : a.eval l = .int kl L) (hc : a.eval c = .int kc C) (hL : L = 0) (hC : C = (m : Int)) (b2 : m ≤ 1000000000) (b4 : base ≤ w.heap.size)
    (hK : ∀ w', w'.ownsRow base e 1 (.slice (some ⟨w.heap.size, 0, none⟩) 0 m) 0 [] → Below base w w' → wpList P ops Q rest (a.put o.dst (.slice (some ⟨w.heap.size, 0, none⟩) 0 m)) w') :
    wpList P ops Q (o :: rest) a w := by
  refine wpList_plain hg fun K hK' => ?_
  subst hL
  subst hC
  have hr := run_make (P := P) w t e i _ h1 h2 h3 kl kc 0 m (by omega) (by omega) (by rw [h5]; omega) (by omega)
  simp only [Int.toNat_natCast, Int.toNat_zero] at hr
  rw [h4, Nat.mul_one] at hr
  have hml : m ≤ maxLen := by unfold maxLen; omega
  have hsz : (madeCells (Value.int .i64 0).cells m).size = m * 1 := by rw [size_madeCells]; omega
  have hk := hK _ ⟨rfl, .inr ⟨w.heap.size, m, _, rfl, b4, heap_alloc_new w _, Nat.zero_le _, hml, hsz, rfl⟩⟩ ((Below.refl _ _).alloc b4 _)
  unfold Oper.wp
  simp [execOp, hop, hl, hc, hr, Result.andThen]
  exact hK' _ _ hk
set_option maxRecDepth 100000 in
set_option maxHeartbeats 1000000 in
theorem parts_row (a0 : Option Addr) (len cap : Nat) (bs : Nat → Nat) (w : World) (hr : Row8 w a0 len cap bs) (hlen : len ≤ 100000) :
    Calls Try.prog 10 #[.slice a0 len cap] w fun e w' => ∃ v, e = .returned v ∧ Hid (Below w.heap.size w w' ∧ w'.ownsRow w.heap.size 3 1 v (PM.PT (PM.fb bs) (8 * len)).length (CL (PM.PT (PM.fb bs) (8 * len)))) := by
  obtain ⟨iI, hI, hI0, hI1, hI2⟩ := info_parts infoI
  have hW := weight_row a0 len cap bs w hr (by omega)
  have hcl := PM.cnt_le (PM.fb bs) (8 * len)
  generalize PM.cnt (PM.fb bs) (8 * len) = C at *
  go_enter Try.func10, Try.ntmps10
  go_wp2_with (first | (go_at_call 19; refine hW.mono ?_; rintro e w ⟨rfl, rfl⟩) | (at_make; refine wpList_makeI _ rfl (.const (.int .i64 0)) (.tmp 7) 24 rfl w.heap.size 3 iI Try.underlying24 hI hI0 hI1 hI2 _ _ _ _ C rfl rfl rfl rfl (by omega) (Nat.le_refl _) ?_))
  intro w1 hown1 hbel1
  clear hW hcl
  go_wp2_with fail
  go_loopw [3, 4, 5, 11] (fun v _ _ c wr => ∃ i, i ≤ len ∧ c = .int .i64 ((i : Nat) : Int) ∧ wr.ownsRow w.heap.size 3 1 v (PM.PT (PM.fb bs) (8 * i)).length (CL (PM.PT (PM.fb bs) (8 * i))) ∧ Below w.heap.size w wr) (fun _ _ _ c _ => len - (intOf c).toNat)
  case atStart => exact ⟨0, by omega, rfl, hown1, hbel1⟩
  case round =>
    clear hown1 hbel1
    obtain ⟨i, hi, rfl, hown, hbel⟩ := hrel
    by_cases hlt : i < len
    · obtain ⟨b, off, rfl, hb, hc⟩ := hr.plain (by omega)
      obtain ⟨hb8, hci⟩ := hc i hlt
      have hcell := (hbel.cell (p := ⟨b, off + i, none⟩) hb).trans hci
      have HO : Hid (_) := And.intro hown hbel
      have HB : Hid (bs i < 256) := hb8
      clear hown hbel hc hci hr
      go_wp2_with fail
      go_loopw [3, 5] (fun v x wr => ∃ q y, q ≤ 8 ∧ y < 256 ∧ y = bs i % 2 ^ (8 - q) ∧ x = .int .u8 ((y : Nat) : Int) ∧ wr.ownsRow w.heap.size 3 1 v (PM.PT (PM.fb bs) (8 * i + q)).length (CL (PM.PT (PM.fb bs) (8 * i + q))) ∧ Below w.heap.size w wr) (fun _ x _ => (intOf x).toNat)
      case atStart => exact ⟨0, bs i, by omega, HB.out, by rw [Nat.mod_eq_of_lt (show bs i < 2 ^ (8 - 0) from HB.out)], rfl, HO.out.1, HO.out.2⟩
      case round =>
        clear HO hcell
        obtain ⟨q, y, hq, hy8, hy, rfl, hown, hbel⟩ := hrel
        by_cases h0 : y = 0
        · have HO : Hid (_) := And.intro hown hbel
          have HE : Hid (PM.PT (PM.fb bs) (8 * (i + 1)) = PM.PT (PM.fb bs) (8 * i + q)) := PM.part_end hq (by rw [← hy]; exact h0)
          clear hown hbel hy
          subst h0
          go_wp2_with fail
          go_roundw
          case rel => exact ⟨i + 1, by omega, by go_num, by rw [HE.out]; exact HO.out.1, HO.out.2⟩
          case measure => simp [intOf] <;> omega
        · obtain ⟨hl1, hl2, hpt⟩ := PM.part_next (f := bs) (i := i) hq hy h0
          have hL := fun w => lz8_any y w hy8
          have hz := shr_fin ⟨PM.bl y, by omega⟩ hl2
          have hd := drop_fin ⟨y, hy8⟩ (Nat.pos_of_ne_zero h0)
          simp only at hz hd
          have hsm := PM.drop_top y h0
          have hpw : 0 < 2 ^ (PM.bl y - 1) := Nat.two_pow_pos _
          have hpl : 2 ^ (PM.bl y - 1) ≤ 128 := show 2 ^ (PM.bl y - 1) ≤ 2 ^ 7 from Nat.pow_le_pow_right (by omega) (by omega)
          have hsl : y % 2 ^ (PM.bl y - 1) < y := by omega
          have HY : Hid (y % 2 ^ (PM.bl y - 1) = bs i % 2 ^ (8 - (8 - PM.bl y + 1))) := by
            show _ = _
            rw [show 8 - (8 - PM.bl y + 1) = PM.bl y - 1 by omega, hy, Nat.mod_mod_of_dvd _ (Nat.pow_dvd_pow 2 (by rw [← hy]; omega))]
          have hlen2 : (PM.PT (PM.fb bs) (8 * i + q)).length ≤ 8 * i + q := by rw [PM.PT_length]; exact PM.cnt_le _ _
          have HP : Hid (PM.PT (PM.fb bs) (8 * i + (8 - PM.bl y + 1)) = PM.PT (PM.fb bs) (8 * i + q) ++ [8 * i + (8 - PM.bl y)]) := hpt
          have hn0 : ((y : Int) != 0) = true := by simp; omega
          clear hpt hy hsm
          obtain ⟨l, hle⟩ : ∃ l, l = 8 - PM.bl y := ⟨_, rfl⟩
          rw [← hle] at HP HY hz hL
          have hl8 : l < 8 := by omega
          generalize y % 2 ^ (PM.bl y - 1) = y2 at *
          generalize 2 ^ (PM.bl y - 1) = z at *
          obtain ⟨p, hp⟩ : ∃ p, p = 8 * i + l := ⟨_, rfl⟩
          have hp1 : 8 * (i : Int) + (l : Int) = (p : Int) := by omega
          rw [← hp] at HP
          obtain ⟨N, hN⟩ : ∃ N, N = (PM.PT (PM.fb bs) (8 * i + q)).length := ⟨_, rfl⟩
          rw [← hN] at hown hlen2
          have hsz := hbel.size
          have hown2 := hown.alloc (.cells #[.int .i64 (p : Int)] 3)
          have hbel2 := hbel.alloc hsz (.cells #[.int .i64 (p : Int)] 3)
          have hsz2 : w.heap.size ≤ (wr.alloc (.cells #[.int .i64 (p : Int)] 3)).heap.size := by simp; omega
          have hnew := new_one wr (.int .i64 (p : Int)) 3
          have HN : Hid (N = (PM.PT (PM.fb bs) (8 * i + q)).length) := hN
          clear hN hp hle hown hbel hl1 hl2 hpl hpw
          go_wp2_with (first | (go_at_call 27; refine (hL _).mono ?_; rintro e wr ⟨rfl, rfl⟩) | (at_builtin; refine wpList_append_own _ rfl (.tmp 23) (.tmp 29) 24 rfl w.heap.size 3 iI (.int .i64 0) 1 8 Try.underlying24 hI hI0 hI1 hI2 rfl (by decide) _ N _ rfl hown2 ⟨wr.heap.size, 0, none⟩ 1 1 [.int .i64 (p : Int)] rfl rfl hnew (by intro u hu; simp at hu; subst hu; rfl) (by unfold maxLen; omega) (by omega) hsz2 ?_))
          intro v3 w3 hown3 hgrow3 _
          have hbel3 : Below w.heap.size w w3 := hbel2.grown hgrow3 hsz2 (fun j hj => (hown2.lt j hj).1)
          rw [CL_snoc] at hown3
          have HO : Hid (w3.ownsRow w.heap.size 3 1 v3 (N + 1) (CL (PM.PT (PM.fb bs) (8 * i + q) ++ [p])) ∧ Below w.heap.size w w3) := ⟨hown3, hbel3⟩
          clear hown3 hbel3 hgrow3 hown2 hbel2 hsz hsz2 hnew
          go_wp2_with (go_at_call 27; refine (hL _).mono ?_; rintro e w' ⟨rfl, rfl⟩)
          go_roundw
          case rel =>
            refine ⟨l + 1, y2, by omega, by omega, HY.out, by go_num, ?_, HO.out.2⟩
            rw [HP.out, List.length_append, ← HN.out]
            exact HO.out.1
          case measure => simp [intOf] <;> omega
    · obtain rfl : i = len := by omega
      have HO : Hid (_) := And.intro hbel hown
      clear hown hbel hr
      go_wp2_with fail
      go_ret
      exact ⟨_, rfl, HO⟩

end Go.Proofs.Ytboeefphjjgbpaa
