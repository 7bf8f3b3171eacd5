/- The two engines with tables: new, built at the first Sum, and what Sum answers. -/
import Derived.Test.YtlnfkgnlagadaabTables
namespace Go.Proofs.Ytlnfkgnlagadaab
open Go.RowKit

/-- Of what was there only block b may have turned. -/
structure Keep (b : Nat) (w w' : World) : Prop where
  os : w'.os = w.os
  tape : w'.tape = w.tape
  output : w'.output = w.output
  size : w.heap.size ≤ w'.heap.size
  block : ∀ k, k < w.heap.size → k ≠ b → w'.heap[k]? = w.heap[k]?
theorem Keep.refl (b : Nat) (w : World) : Keep b w w := ⟨rfl, rfl, rfl, Nat.le_refl _, fun _ _ _ => rfl⟩
theorem Keep.trans {b : Nat} {u v w : World} (h : Keep b u v) (k : Keep b v w) : Keep b u w :=
  ⟨k.os.trans h.os, k.tape.trans h.tape, k.output.trans h.output, Nat.le_trans h.size k.size, fun i hi hb => (k.block i (Nat.lt_of_lt_of_le hi h.size) hb).trans (h.block i hi hb)⟩
theorem Keep.of_below {b : Nat} {w w' : World} (h : Below w.heap.size w w') : Keep b w w' := ⟨h.os, h.tape, h.output, h.size, fun k hk _ => h.block k hk⟩
theorem Keep.setCell (b i : Nat) (w : World) (v : Value) : Keep b w (w.setCell ⟨b, i, none⟩ v) := ⟨rfl, rfl, rfl, by simp [World.setCell], fun k _ hb => heap_setCell_other w _ k v hb⟩
theorem Keep.setRow (b : Nat) (w : World) (cs : Array Value) : Keep b w (w.setRow b cs) := ⟨rfl, rfl, rfl, by simp, fun k _ hb => setRow_other w b k cs hb⟩
theorem Keep.drew (b : Nat) (w : World) : Keep b w w.drew := ⟨rfl, rfl, rfl, Nat.le_refl _, fun _ _ _ => rfl⟩
theorem Keep.below {b B : Nat} {w0 w w' : World} (h : Keep b w w') (hb : Below B w0 w) (hB : B ≤ b) (hs : B ≤ w.heap.size) : Below B w0 w' :=
  hb.trans ⟨h.os, h.tape, h.output, h.size, fun k hk => h.block k (by omega) (by omega)⟩

/-- The check of a byte with k bytes 0 behind it. -/
def EK (k i : Nat) : Nat := PM.R PM.g 32 (PM.C (PM.E i) (2 ^ (8 * k)))
theorem EK_zero (i : Nat) : EK 0 i = PM.E i := by
  unfold EK
  rw [Nat.mul_zero, Nat.pow_zero, PM.C_one_right]
  exact PM.R_small PM.g 32 _ (PM.E_lt i)
theorem EK_succ (k i : Nat) : S (EK k i) (fun _ => 0) 1 = EK (k + 1) i := by
  rw [S_zero]
  unfold EK
  rw [PM.R_C_left PM.degG, PM.C_assoc, PM.C_pow_pow, Nat.mul_add]
theorem EK_lt (k i : Nat) : EK k i < 4294967296 := PM.R_lt PM.degG _

/-- An engine's block: its words of state, and how many of its tables stand. -/
structure Eng (w : World) (b : Nat) (ty n : Nat) (done lock built m : Nat) (cur : Array Value) : Prop where
  at_ : w.heap[b]? = some (.cells cur ty (0, 0))
  size : cur.size = n
  c0 : cur[0]? = some (.int .u32 (done : Nat))
  c1 : cur[1]? = some (.int .i32 (lock : Nat))
  c3 : cur[3]? = some (.int .u32 (built : Nat))
  words : ∀ k, k < m → ∀ i, i < 256 → cur[4 + 256 * k + i]? = some (.int .u32 (EK k i : Nat))
theorem Eng.cell {w : World} {b ty n d l u m : Nat} {cur : Array Value} (h : Eng w b ty n d l u m cur) (j : Nat) : w.cell? ⟨b, j, none⟩ = cur[j]? := cell_of_row w b j cur ty (0, 0) h.at_
theorem Eng.frozen {w : World} {b ty n d l u m : Nat} {cur : Array Value} (h : Eng w b ty n d l u m cur) (j : Nat) : w.frozen? ⟨b, j, none⟩ = false := frozen_of_row w b j cur ty h.at_
theorem Eng.lt {w : World} {b ty n d l u m : Nat} {cur : Array Value} (h : Eng w b ty n d l u m cur) : b < w.heap.size := (Array.getElem?_eq_some_iff.1 h.at_).1
theorem Eng.drew {w : World} {b ty n d l u m : Nat} {cur : Array Value} (h : Eng w b ty n d l u m cur) : Eng w.drew b ty n d l u m cur := ⟨h.at_, h.size, h.c0, h.c1, h.c3, h.words⟩
theorem Eng.below {w w' : World} {b ty n d l u m : Nat} {cur : Array Value} (h : Eng w b ty n d l u m cur) (hb : Below w.heap.size w w') : Eng w' b ty n d l u m cur := ⟨(hb.block b h.lt).trans h.at_, h.size, h.c0, h.c1, h.c3, h.words⟩
theorem Eng.keep {w w' : World} {b c ty n d l u m : Nat} {cur : Array Value} (h : Eng w b ty n d l u m cur) (hb : Keep c w w') (hne : b ≠ c) : Eng w' b ty n d l u m cur := ⟨(hb.block b h.lt hne).trans h.at_, h.size, h.c0, h.c1, h.c3, h.words⟩
theorem Eng.tables {w : World} {b ty n d l u m : Nat} {cur : Array Value} (h : Eng w b ty n d l u m cur) (hm : 0 < m) : Words w b 4 PM.E := fun i hi => by
  rw [h.cell, show 4 + i = 4 + 256 * 0 + i by omega, h.words 0 hm i hi, EK_zero]
theorem get_set_ne {cur : Array Value} {i j : Nat} {v : Value} (h : i ≠ j) : (cur.setIfInBounds i v)[j]? = cur[j]? := by rw [Array.getElem?_setIfInBounds, if_neg h]
theorem get_set_eq {cur : Array Value} {i : Nat} {v : Value} (h : i < cur.size) : (cur.setIfInBounds i v)[i]? = some v := by rw [Array.getElem?_setIfInBounds, if_pos rfl, if_pos h]
theorem Eng.done {w : World} {b ty n l u m d d' : Nat} {cur : Array Value} (h : Eng w b ty n d l u m cur) (hn : 4 ≤ n) : Eng (w.setCell ⟨b, 0, none⟩ (.int .u32 (d' : Nat))) b ty n d' l u m (cur.setIfInBounds 0 (.int .u32 (d' : Nat))) :=
  ⟨heap_setCell_same _ _ _ _ _ _ h.at_, by simpa using h.size, get_set_eq (by have := h.size; omega), by rw [get_set_ne (by omega)]; exact h.c1, by rw [get_set_ne (by omega)]; exact h.c3, fun k hk i hi => by rw [get_set_ne (by omega)]; exact h.words k hk i hi⟩
theorem Eng.lock {w : World} {b ty n d l u m l' : Nat} {cur : Array Value} (h : Eng w b ty n d l u m cur) (hn : 4 ≤ n) : Eng (w.setCell ⟨b, 1, none⟩ (.int .i32 (l' : Nat))) b ty n d l' u m (cur.setIfInBounds 1 (.int .i32 (l' : Nat))) :=
  ⟨heap_setCell_same _ _ _ _ _ _ h.at_, by simpa using h.size, by rw [get_set_ne (by omega)]; exact h.c0, get_set_eq (by have := h.size; omega), by rw [get_set_ne (by omega)]; exact h.c3, fun k hk i hi => by rw [get_set_ne (by omega)]; exact h.words k hk i hi⟩
theorem Eng.built {w : World} {b ty n d l u m u' : Nat} {cur : Array Value} (h : Eng w b ty n d l u m cur) (hn : 4 ≤ n) : Eng (w.setCell ⟨b, 3, none⟩ (.int .u32 (u' : Nat))) b ty n d l u' m (cur.setIfInBounds 3 (.int .u32 (u' : Nat))) :=
  ⟨heap_setCell_same _ _ _ _ _ _ h.at_, by simpa using h.size, by rw [get_set_ne (by omega)]; exact h.c0, by rw [get_set_ne (by omega)]; exact h.c1, get_set_eq (by have := h.size; omega), fun k hk i hi => by rw [get_set_ne (by omega)]; exact h.words k hk i hi⟩
/-- The first table laid. -/
theorem Eng.first {w : World} {b ty n d l u : Nat} {cur cs : Array Value} (h : Eng w b ty n d l u 0 cur) (hn : 260 ≤ n) (hc : WordsA cs PM.E) : Eng (w.setRow b (putAt cur 4 cs)) b ty n d l u 1 (putAt cur 4 cs) := by
  have hs := h.size
  have hz := hc.size
  have hfit : 4 + cs.size ≤ cur.size := by omega
  refine ⟨setRow_heap _ _ _ _ _ _ h.at_, by rw [putAt_size _ _ _ hfit]; exact hs, ?_, ?_, ?_, fun k hk i hi => ?_⟩
  · rw [putAt_get _ _ _ hfit, if_neg (by omega)]; exact h.c0
  · rw [putAt_get _ _ _ hfit, if_neg (by omega)]; exact h.c1
  · rw [putAt_get _ _ _ hfit, if_neg (by omega)]; exact h.c3
  · obtain rfl : k = 0 := by omega
    rw [putAt_get _ _ _ hfit, if_pos (by omega), show 4 + 256 * 0 + i - 4 = i by omega, hc.get i hi, EK_zero]
def Zc65 : Array Value := #[.int .u32 0, .int .i32 0, .int .u32 0, .int .u32 0] ++ Array.replicate 256 (.int .u32 0)
theorem zv58 (w : World) : (zeroValue 65).run Try.prog w = .ok (.agg Zc65) w := by kernel_rfl
theorem z58 : Zc65.size = 260 ∧ Zc65[0]? = some (.int .u32 0) ∧ Zc65[1]? = some (.int .i32 0) ∧ Zc65[3]? = some (.int .u32 0) := by
  refine ⟨by kernel_rfl, by kernel_rfl, by kernel_rfl, by kernel_rfl⟩
set_option maxHeartbeats 1000000 in
theorem newTable_any (w : World) : Calls Try.prog 14 #[] w fun e w' => e = .returned (.pointer (some ⟨w.heap.size, 0, none⟩)) ∧ w' = w.alloc (.cells Zc65 65) := by
  have hzv := zv58
  go_enter Try.func14, Try.ntmps14
  go_wp2
  go_ret
  exact ⟨rfl, rfl⟩
theorem newTable_eng (w : World) : Eng (w.alloc (.cells Zc65 65)) w.heap.size 65 260 0 0 0 0 Zc65 :=
  ⟨heap_alloc_new w _, z58.1, z58.2.1, z58.2.2.1, z58.2.2.2, fun k hk => by omega⟩
set_option maxRecDepth 100000 in
set_option maxHeartbeats 1000000 in
theorem tbuild_any (b : Nat) (cur : Array Value) (w : World) (h : Eng w b 65 260 0 1 0 0 cur) :
    Calls Try.prog 25 #[.pointer (some ⟨b, 0, none⟩)] w fun e w' => e = .returned (.tuple #[]) ∧ Hid (Keep b w w' ∧ ∃ cur, Eng w' b 65 260 0 1 1 1 cur) := by
  have hBW := byteWords_any w
  go_enter Try.func25, Try.ntmps25
  go_wp2_with fail
  refine hBW.mono ?_
  rintro e w2 ⟨cs, rfl, hcs, hbel⟩
  have h2 := h.below hbel
  have hst := store_agg w2 b 4 _ cur cs h2.at_ (by have := h2.size; have := hcs.size; omega) hcs.one
  have h3 := h2.first (by omega) hcs
  have hS := bstore ⟨b, 3, none⟩ _ _ (h3.cell 3 |>.trans h3.c3) (h3.frozen 3)
  have h4 := h3.drew.built (u' := 1) (by omega)
  have hk : Keep b w ((w2.setRow b (putAt cur 4 cs)).drew.setCell ⟨b, 3, none⟩ (.int .u32 ((1 : Nat) : Int))) := (((Keep.of_below hbel).trans (Keep.setRow b _ _)).trans (Keep.drew b _)).trans (Keep.setCell b 3 _ _)
  have H4 : Hid (_) := And.intro hk h4
  have hsz := hcs.size
  clear hBW h2 h3 h4 hk hbel hcs h
  go_wp2_with fail
  refine hS.mono ?_
  rintro e w' ⟨rfl, rfl⟩
  go_wp2_with fail
  go_end0
  exact ⟨rfl, H4.out.1, _, H4.out.2⟩
/-- What stands behind a Do that built: done, the lock free. -/
theorem Eng.behind {w w2 : World} {b ty n m : Nat} (hk : Keep b (w.setCell ⟨b, 1, none⟩ (.int .i32 1)) w2) {cur : Array Value} (h : Eng w2 b ty n 0 1 1 m cur) (hn : 4 ≤ n) :
    Keep b w ((w2.drew.setCell ⟨b, 0, none⟩ (.int .u32 1)).setCell ⟨b, 1, none⟩ (.int .i32 0)) ∧ ∃ cur, Eng ((w2.drew.setCell ⟨b, 0, none⟩ (.int .u32 1)).setCell ⟨b, 1, none⟩ (.int .i32 0)) b ty n 1 0 1 m cur :=
  ⟨((((Keep.setCell b 1 w _).trans hk).trans (Keep.drew b _)).trans (Keep.setCell b 0 _ _)).trans (Keep.setCell b 1 _ _), _, (h.drew.done (d' := 1) hn).lock (l' := 0) hn⟩
theorem mkFn (fn : Fn) (first cap : Array Value) (w : World) : (Instr.makeFunc fn first cap).run Try.prog w = .ok (.func fn first cap) w := rfl
set_option maxRecDepth 100000 in
set_option maxHeartbeats 1000000 in
theorem tsum_first (w0 w : World) (a : Option Addr) (len cap : Nat) (bs : Nat → Nat) (b : Nat) (cur : Array Value) (hr : Row8 w0 a len cap bs) (hlen : len ≤ 9223372036854775807) (hbel : Below w0.heap.size w0 w) (hB : w0.heap.size ≤ b) (h : Eng w b 65 260 0 0 0 0 cur) :
    Calls Try.prog 16 #[.pointer (some ⟨b, 0, none⟩), .slice a len cap] w fun e w' => e = .returned (.tuple #[.int .u32 (PM.K bs len : Nat), .int .i64 0]) ∧ Hid (Keep b w w' ∧ ∃ cur, Eng w' b 65 260 1 0 1 1 cur) := by
  have hcf : ∀ w : World, (callFunc 25 #[.pointer (some ⟨b, 0, none⟩)]).run Try.prog w = .ok (.enter 25 #[.pointer (some ⟨b, 0, none⟩)]) w := fun w => by kernel_rfl
  have hD := do_first 25 b (.pointer (some ⟨b, 0, none⟩)) w (fun w2 => Keep b (w.setCell ⟨b, 1, none⟩ (.int .i32 1)) w2 ∧ ∃ cur, Eng w2 b 65 260 0 1 1 1 cur) hcf
    ((h.cell 0).trans h.c0) ((h.cell 1).trans h.c1) (h.frozen 1) (tbuild_any b _ _ (h.lock (l' := 1) (by omega)))
    (fun w2 ⟨_, _, h2⟩ => ⟨(h2.cell 0).trans h2.c0, (h2.cell 1).trans h2.c1, h2.frozen 0, h2.frozen 1⟩)
  have hmf := mkFn
  have hsz := hbel.size
  go_enter Try.func16, Try.ntmps16
  go_wp2_with fail
  refine hD.mono ?_
  rintro e w3 ⟨rfl, w2, ⟨hk2, cur2, h2⟩, hw3⟩
  obtain ⟨hk3, cur3, h3⟩ := Eng.behind hk2 h2 (by omega)
  rw [← hw3] at hk3 h3
  have hbel3 := hk3.below hbel hB hsz
  have hS := sumBytes_row 0 a len cap b 4 bs w3 (by omega) hlen (hr.below hbel3) (h3.tables (by omega))
  have hKS : S 0 bs len = PM.K bs len := by
    have := S_K bs 0 len (fun i hi => hr.byte i (by omega))
    rw [PM.K_zero, Nat.zero_add] at this
    rw [← this]
    congr 1
    funext i
    rw [Nat.zero_add]
  rw [hKS] at hS
  have H3 : Hid (_) := And.intro hk3 h3
  clear hD hk2 h2 hw3 hk3 h3 hmf hcf hbel3 hKS h
  go_wp2_with fail
  refine hS.mono ?_
  rintro e w' ⟨rfl, rfl⟩
  go_wp2_with fail
  go_ret2
  exact ⟨rfl, H3.out.1, _, H3.out.2⟩
set_option maxRecDepth 100000 in
set_option maxHeartbeats 1000000 in
theorem tsum_again (w0 w : World) (a : Option Addr) (len cap : Nat) (bs : Nat → Nat) (b : Nat) (cur : Array Value) (hr : Row8 w0 a len cap bs) (hlen : len ≤ 9223372036854775807) (hbel : Below w0.heap.size w0 w) (h : Eng w b 65 260 1 0 1 1 cur) :
    Calls Try.prog 16 #[.pointer (some ⟨b, 0, none⟩), .slice a len cap] w fun e w' => e = .returned (.tuple #[.int .u32 (PM.K bs len : Nat), .int .i64 0]) ∧ w' = w := by
  have hD := fun fv => do_done b fv w ((h.cell 0).trans h.c0)
  have hmf := mkFn
  have hS := sumBytes_row 0 a len cap b 4 bs w (by omega) hlen (hr.below hbel) (h.tables (by omega))
  have hKS : S 0 bs len = PM.K bs len := by
    have := S_K bs 0 len (fun i hi => hr.byte i (by omega))
    rw [PM.K_zero, Nat.zero_add] at this
    rw [← this]
    congr 1
    funext i
    rw [Nat.zero_add]
  rw [hKS] at hS
  clear hKS h
  go_enter Try.func16, Try.ntmps16
  go_wp2_with fail
  refine (hD _).mono ?_
  rintro e w' ⟨rfl, rfl⟩
  clear hD
  go_wp2_with fail
  refine hS.mono ?_
  rintro e w' ⟨rfl, rfl⟩
  go_wp2_with fail
  go_ret2
  exact ⟨rfl, rfl⟩
theorem tsum_nil (a : Option Addr) (len cap : Nat) (w : World) : Calls Try.prog 16 #[.pointer none, .slice a len cap] w fun e w' => e = .returned (.tuple #[.int .u32 0, .int .i64 1]) ∧ w' = w := by
  go_enter Try.func16, Try.ntmps16
  go_wp2
  go_ret2
  exact ⟨rfl, rfl⟩

end Go.Proofs.Ytlnfkgnlagadaab
