/- The engines with tables: what they look up, how the tables are built, what Sum answers. -/
import Derived.Test.YtlnfkgnlagadaabOnce
import Derived.Deep.DeepCutAuto
import Derived.Deep.RegionWith
import Derived.Laws.Tables
import Derived.Laws.CopyRow
namespace Go.Proofs.Ytlnfkgnlagadaab
open Go.RowKit

/-- n bytes more, by the table. -/
def S (s : Nat) (bs : Nat → Nat) : Nat → Nat
  | 0 => s
  | i + 1 => (S s bs i % 16777216 * 256) ^^^ PM.E (S s bs i / 16777216 ^^^ bs i)
theorem S_lt {s : Nat} (hs : s < 4294967296) (bs : Nat → Nat) (n : Nat) : S s bs n < 4294967296 := by
  cases n with
  | zero => exact hs
  | succ n => exact Nat.xor_lt_two_pow (n := 32) (by omega) (PM.E_lt _)
theorem S_K (bs : Nat → Nat) (m n : Nat) (h : ∀ i, i < m + n → bs i < 256) : S (PM.K bs m) (fun i => bs (m + i)) n = PM.K bs (m + n) := by
  induction n with
  | zero => rfl
  | succ n ih =>
    show (S (PM.K bs m) (fun i => bs (m + i)) n % 16777216 * 256) ^^^ PM.E (S (PM.K bs m) (fun i => bs (m + i)) n / 16777216 ^^^ bs (m + n)) = PM.K bs (m + n + 1)
    rw [ih (fun i hi => h i (by omega)), PM.K_table bs (m + n) (h _ (by omega))]
theorem S_zero (s : Nat) : S s (fun _ => 0) 1 = PM.R PM.g 32 (PM.C s (2 ^ 8)) := by
  have h := PM.E_byte s 0
  rw [Nat.zero_mul, Nat.xor_zero, Nat.xor_zero] at h
  show (s % 16777216 * 256) ^^^ PM.E (s / 16777216 ^^^ 0) = _
  rw [Nat.xor_zero, h]
/-- The checks of each byte alone, at a place of memory. -/
def Words (w : World) (b o : Nat) (E : Nat → Nat) : Prop := ∀ i, i < 256 → w.cell? ⟨b, o + i, none⟩ = some (.int .u32 (E i : Nat))
theorem Words.drewN {w : World} {b o : Nat} {E : Nat → Nat} (h : Words w b o E) (k : Nat) : Words (w.drewN k) b o E := h
theorem xor8' (a b : Nat) (ha : a < 256) (hb : b < 256) : bits .xor .u8 (a : Int) (b : Int) = ((a ^^^ b : Nat) : Int) := u8_xor_nat a b ha hb
set_option maxHeartbeats 1000000 in
theorem sumBytes_any (s b off len cap bb o : Nat) (bs : Nat → Nat) (w : World) (hs : s < 4294967296) (hlen : len ≤ 9223372036854775807)
    (hc : ∀ i, i < len → bs i < 256 ∧ w.cell? ⟨b, off + i, none⟩ = some (.int .u8 (bs i))) (hW : Words w bb o PM.E) :
    Calls Try.prog 26 #[.int .u32 s, .slice (some ⟨b, off, none⟩) len cap, .pointer (some ⟨bb, o, none⟩)] w fun e w' => e = .returned (.int .u32 (S s bs len : Nat)) ∧ w' = w := by
  go_enter Try.func26, Try.ntmps26
  go_wp2
  go_loop [0, 8, 11] (fun s' _ c => ∃ i : Nat, i ≤ len ∧ c = .int .i64 i ∧ s' = .int .u32 (S s bs i : Nat)) (fun _ _ c => len - (intOf c).toNat)
  case atStart => exact ⟨0, by omega, rfl, rfl⟩
  case round =>
    obtain ⟨i, hi, rfl, rfl⟩ := hrel
    by_cases hlt : i < len
    · obtain ⟨hb8, hcell⟩ := hc i hlt
      have hk := S_lt hs bs i
      have HK : Hid (S s bs (i + 1) = (S s bs i % 16777216 * 256) ^^^ PM.E (S s bs i / 16777216 ^^^ bs i)) := rfl
      have e1 : ((S s bs i : Nat) : Int) / 16777216 = ((S s bs i / 16777216 : Nat) : Int) := by omega
      have hx8 := xor8' (S s bs i / 16777216) (bs i) (by omega) hb8
      have hq : S s bs i / 16777216 ^^^ bs i < 256 := Nat.xor_lt_two_pow (n := 8) (by omega) hb8
      have hcw := hW _ hq
      have hE := PM.E_lt (S s bs i / 16777216 ^^^ bs i)
      have e2 : ((S s bs i : Nat) : Int) * 256 % 4294967296 = ((S s bs i % 16777216 * 256 : Nat) : Int) := by omega
      have hx32 := xor32 (S s bs i % 16777216 * 256) (PM.E (S s bs i / 16777216 ^^^ bs i)) (by omega) hE
      rw [← HK.out] at hx32
      clear hc hW
      generalize PM.E (S s bs i / 16777216 ^^^ bs i) = ev at *
      generalize S s bs i % 16777216 * 256 = x2 at *
      generalize S s bs i / 16777216 ^^^ bs i = q at *
      generalize S s bs i / 16777216 = x1 at *
      generalize S s bs i = x0 at *
      go_wp2
      go_round
      case rel => exact ⟨i + 1, by omega, by go_num, rfl⟩
      case measure => simp [intOf] <;> omega
    · clear hc hW
      go_wp2
      go_ret
      exact ⟨by rw [show i = len by omega]; rfl, rfl⟩
theorem sumBytes_none (s : Nat) (a : Option Addr) (cap bb o : Nat) (w : World) :
    Calls Try.prog 26 #[.int .u32 s, .slice a 0 cap, .pointer (some ⟨bb, o, none⟩)] w fun e w' => e = .returned (.int .u32 s) ∧ w' = w := by
  go_enter Try.func26, Try.ntmps26
  go_wp2
  refine wp_loop_rounds 1 ?_
  rw [rounds_succ]
  go_wp2
  go_ret
  exact ⟨rfl, rfl⟩
theorem sumBytes_row (s : Nat) (a : Option Addr) (len cap bb o : Nat) (bs : Nat → Nat) (w : World) (hs : s < 4294967296) (hlen : len ≤ 9223372036854775807) (hr : Row8 w a len cap bs) (hW : Words w bb o PM.E) :
    Calls Try.prog 26 #[.int .u32 s, .slice a len cap, .pointer (some ⟨bb, o, none⟩)] w fun e w' => e = .returned (.int .u32 (S s bs len : Nat)) ∧ w' = w := by
  by_cases hz : len = 0
  · subst hz; exact sumBytes_none s a cap bb o w
  · obtain ⟨b, off, rfl, _, hc⟩ := hr.plain (by omega)
    exact sumBytes_any s b off len cap bb o bs w hs hlen hc hW
/-- 256 words, as a value. -/
structure WordsA (cs : Array Value) (E : Nat → Nat) : Prop where
  size : cs.size = 256
  get : ∀ i, i < 256 → cs[i]? = some (.int .u32 (E i : Nat))
theorem WordsA.one {cs : Array Value} {E : Nat → Nat} (h : WordsA cs E) : cs.all (·.oneCell') = true := by
  rw [Array.all_eq_true_iff_forall_mem]
  intro v hv
  obtain ⟨i, hi, rfl⟩ := Array.mem_iff_getElem.1 hv
  have := h.get i (by have := h.size; omega)
  rw [Array.getElem?_eq_getElem hi] at this
  rw [Option.some.inj this]
  rfl
def Zc63 : Array Value := Array.replicate 256 (.int .u32 0)
theorem zv256 (w : World) : (zeroValue 63).run Try.prog w = .ok (.agg Zc63) w := by kernel_rfl
theorem z256_size : Zc63.size = 256 := by kernel_rfl
theorem z256_one : Zc63.all (·.oneCell') = true := by kernel_rfl
theorem info256 : (Try.prog.info? 63).map (·.size) = some 256 := by kernel_rfl
theorem und256 : Try.prog.underlying 63 = some (.array 256 23) := by kernel_rfl
/-- A run of cells laid over others. -/
def putAt (cur : Array Value) (o : Nat) (cs : Array Value) : Array Value := (cur.toList.take o ++ cs.toList ++ cur.toList.drop (o + cs.size)).toArray
theorem putAt_size (cur : Array Value) (o : Nat) (cs : Array Value) (h : o + cs.size ≤ cur.size) : (putAt cur o cs).size = cur.size := by
  simp [putAt]; omega
theorem putAt_get (cur : Array Value) (o : Nat) (cs : Array Value) (h : o + cs.size ≤ cur.size) (j : Nat) : (putAt cur o cs)[j]? = if o ≤ j ∧ j < o + cs.size then cs[j - o]? else cur[j]? := by
  unfold putAt
  rw [List.getElem?_toArray]
  by_cases h1 : j < o
  · rw [if_neg (by omega), List.append_assoc, List.getElem?_append_left (by simp; omega), List.getElem?_take, if_pos h1]
    simp
  · by_cases h2 : j < o + cs.size
    · rw [if_pos ⟨by omega, h2⟩, List.append_assoc, List.getElem?_append_right (by simp; omega), List.getElem?_append_left (by simp; omega)]
      simp [show min o cur.size = o by omega]
    · rw [if_neg (by omega), List.getElem?_append_right (by simp; omega), List.getElem?_drop]
      simp [show min o cur.size = o by omega, show o + cs.size + (j - (o + cs.size)) = j by omega]
theorem store_agg (w : World) (g o : Nat) (t : TypeId) (cur cs : Array Value) (hg : w.heap[g]? = some (.cells cur t (0, 0))) (hl : o + cs.size ≤ cur.size) (h1 : cs.all (·.oneCell') = true) :
    (storeCells ⟨g, o, none⟩ cs.toList).run Try.prog w = .ok () (w.setRow g (putAt cur o cs)) := by
  have h := run_storeCells_at Try.prog g o t cs.toList 0 cur w hg (by simpa using hl) (fun v hv => (Array.all_eq_true_iff_forall_mem.1 h1) v (by simpa using hv))
  simpa [putAt] using h
theorem putAt_all (cur cs : Array Value) (h : cs.size = cur.size) : putAt cur 0 cs = cs := by
  apply Array.ext_getElem?
  intro j
  rw [putAt_get cur 0 cs (by omega)]
  by_cases hj : j < cs.size
  · rw [if_pos ⟨by omega, by omega⟩]; rfl
  · rw [if_neg (by omega), Array.getElem?_eq_none (by omega), Array.getElem?_eq_none (by omega)]
theorem load_agg (w : World) (g : Nat) (t : TypeId) (cs : Array Value) (fr : Nat × Nat) (hg : w.heap[g]? = some (.cells cs t fr)) :
    (loadCells ⟨g, 0, none⟩ cs.size).run Try.prog w = .ok cs w := by
  have hl := run_loadCells_list (P := Try.prog) w ⟨g, 0, none⟩ cs.toList (fun j v hv => by
      rw [Go.WideShapes.add_plain, Nat.zero_add, cell_of_row w g j cs t fr hg]
      simpa using hv)
  simpa using hl
theorem K_one (x : Nat) (hx : x < 256) : PM.K (fun _ => x) 1 = PM.E x := by
  unfold PM.K
  rw [PM.V_succ8 _ 0 hx]
  show PM.E (PM.C (PM.V _ 0) (2 ^ 8) ^^^ x) = _
  rw [show PM.V (PM.fb fun _ => x) 0 = 0 from rfl, PM.C_zero_left, Nat.zero_xor]
theorem row1 (w : World) (x : Nat) (hx : x < 256) : Row8 (w.alloc (.cells #[.int .u8 (x : Int)] 5)) (some ⟨w.heap.size, 0, none⟩) 1 1 (fun _ => x) := by
  refine row8_new w _ _ (fun _ => x) 1 (fun _ _ => hx) (fun i hi => ?_)
  obtain rfl : i = 0 := by omega
  rfl
set_option maxRecDepth 100000 in
set_option maxHeartbeats 1000000 in
theorem byteWords_any (w : World) :
    Calls Try.prog 34 #[] w fun e w' => ∃ cs, e = .returned (.agg cs) ∧ Hid (WordsA cs PM.E ∧ Below w.heap.size w w') := by
  have hg0 : ((w.alloc (.cells Zc63 63)).alloc (.cells Zc63 63)).heap[w.heap.size]? = some (.cells Zc63 63 (0, 0)) := by
    rw [Below.heap_alloc _ _ _ (by simp)]; exact heap_alloc_new w _
  have hg1 : ((w.alloc (.cells Zc63 63)).alloc (.cells Zc63 63)).heap[w.heap.size + 1]? = some (.cells Zc63 63 (0, 0)) := by
    have := heap_alloc_new (w.alloc (.cells Zc63 63)) (.cells Zc63 63)
    rwa [show (w.alloc (.cells Zc63 63)).heap.size = w.heap.size + 1 by simp] at this
  have hst := store_agg _ (w.heap.size + 1) 0 _ _ Zc63 hg1 (by rw [z256_size]; omega) z256_one
  rw [putAt_all _ _ rfl, setRow_self _ _ _ _ _ hg1] at hst
  have hbel0 : Below w.heap.size w ((w.alloc (.cells Zc63 63)).alloc (.cells Zc63 63)) := ((Below.refl _ _).alloc (Nat.le_refl _) _).alloc (by simp) _
  have hzv := zv256
  have HG0 : Hid (_) := hg0
  have HG1 : Hid (_) := hg1
  clear hg0 hg1
  go_enter Try.func34, Try.ntmps34
  go_wp2_with fail
  go_loopw [2, 4] (fun _ c wr => ∃ i cur, i ≤ 256 ∧ c = .int .i64 ((i : Nat) : Int) ∧ wr.heap[w.heap.size + 1]? = some (.cells cur 63 (0, 0)) ∧ cur.size = 256 ∧ (∀ j, j < i → cur[j]? = some (.int .u32 (PM.E j : Nat))) ∧ wr.heap[w.heap.size]? = some (.cells Zc63 63 (0, 0)) ∧ Below w.heap.size w wr) (fun _ c _ => 256 - (intOf c).toNat)
  case atStart => exact ⟨0, _, by omega, rfl, HG1.out, z256_size, (fun j hj => by omega), HG0.out, hbel0⟩
  case round =>
    clear hst HG0 HG1 hbel0
    obtain ⟨i, cur, hi, rfl, hg, hsz, hcur, hgr, hbel⟩ := hrel
    have hb1 : w.heap.size + 1 < wr.heap.size := (Array.getElem?_eq_some_iff.1 hg).1
    by_cases hlt : i < 256
    · have hB := cbits_row _ 1 1 _ _ (row1 wr i hlt) (by omega)
      rw [K_one i hlt] at hB
      have hcell : (wr.alloc (.cells #[.int .u8 (i : Int)] 5)).cell? ⟨w.heap.size + 1, i, none⟩ = some (cur[i]'(by omega)) := by
        rw [World.cell?_alloc_past _ _ _ hb1, cell_of_row _ _ _ _ _ _ hg, Array.getElem?_eq_getElem (by omega)]
      have hfro : (wr.alloc (.cells #[.int .u8 (i : Int)] 5)).frozen? ⟨w.heap.size + 1, i, none⟩ = false := by
        rw [World.frozen?_alloc_past _ _ _ hb1]; exact frozen_of_row wr _ _ _ _ hg
      have hszs : (wr.setCell ⟨w.heap.size + 1, i, none⟩ (.int .u32 (PM.E i : Nat))).heap.size = wr.heap.size := by simp [World.setCell]
      have hg2 : ((wr.setCell ⟨w.heap.size + 1, i, none⟩ (.int .u32 (PM.E i : Nat))).alloc (.cells #[.int .u8 (i : Int)] 5)).heap[w.heap.size + 1]? = some (.cells (cur.setIfInBounds i (.int .u32 (PM.E i : Nat))) 63 (0, 0)) := by
        rw [Below.heap_alloc _ _ _ (by rw [hszs]; exact hb1)]; exact heap_setCell_same _ _ _ _ _ _ hg
      have hgr2 : ((wr.setCell ⟨w.heap.size + 1, i, none⟩ (.int .u32 (PM.E i : Nat))).alloc (.cells #[.int .u8 (i : Int)] 5)).heap[w.heap.size]? = some (.cells Zc63 63 (0, 0)) := by
        rw [Below.heap_alloc _ _ _ (by rw [hszs]; omega), heap_setCell_other _ _ _ _ (by simp)]; exact hgr
      have hbel2 : Below w.heap.size w ((wr.setCell ⟨w.heap.size + 1, i, none⟩ (.int .u32 (PM.E i : Nat))).alloc (.cells #[.int .u8 (i : Int)] 5)) := (hbel.setCell (by simp) _).alloc (by rw [hszs]; omega) _
      have H2 : Hid (_) := And.intro hg2 (And.intro hgr2 hbel2)
      clear hg hgr hbel hg2 hgr2 hbel2 hszs
      generalize cur[i]'(by omega) = old at *
      go_wp2_with (go_at_call 18; refine hB.mono ?_; rintro e w' ⟨rfl, rfl⟩)
      go_roundw
      case rel => exact ⟨i + 1, _, by omega, by go_num, H2.out.1, by simpa using hsz, (fun j hj => by
        rw [Array.getElem?_setIfInBounds]
        by_cases e : i = j
        · rw [if_pos e, if_pos (by omega), e]
        · rw [if_neg e]; exact hcur j (by omega)), H2.out.2.1, H2.out.2.2⟩
      case measure => simp [intOf] <;> omega
    · obtain rfl : i = 256 := by omega
      have hWA : WordsA cur PM.E := ⟨hsz, hcur⟩
      have hg3 := setRow_heap wr w.heap.size _ cur _ _ hgr
      have hbel3 : Below w.heap.size w (wr.setRow w.heap.size cur) := below_setRow hbel (Nat.le_refl _) cur
      have H3 : Hid (_) := And.intro hg3 hbel3
      have H4 : Hid (_) := And.intro hg hgr
      clear hg hgr hbel hg3 hbel3
      go_wp2_with fail
      refine wp_load_row 63 (.tmp 1) rfl (w.heap.size + 1) rfl 63 cur (0, 0) _ H4.out.1 und256 rfl (by rw [info256, hsz]) ?_
      have hst := store_agg wr w.heap.size 0 _ _ cur H4.out.2 (by rw [z256_size, hsz]; omega) hWA.one
      rw [putAt_all _ _ (by rw [z256_size, hsz])] at hst
      go_wp2_with fail
      (try simp only [Exit.inBlock, Exit.then])
      refine bodyPost_ret_by (results_cell_row rfl _ _ w.heap.size 63 cur (0, 0) _ rfl H3.out.1 und256 rfl (by rw [info256, hsz])) rfl ?_
      exact ⟨cur, rfl, hWA, H3.out.2⟩

end Go.Proofs.Ytlnfkgnlagadaab
