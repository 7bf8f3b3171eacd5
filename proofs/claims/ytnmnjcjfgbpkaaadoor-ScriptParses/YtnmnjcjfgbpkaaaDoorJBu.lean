/- strings.Builder at the head of a block (by itself, or a struct's first field): what it holds; WriteByte, WriteString. -/
import Derived.Test.YtnmnjcjfgbpkaaaDoorJSg
import Derived.Lib.Builder
import Derived.Lib.AppendStr
import Derived.Lib.UnsafeStr
import Derived.Laws.Externs
namespace Go.Proofs.YtnmnjcjfgbpkaaaDoor
set_option maxRecDepth 100000
open Go.RowKit Go.Maps
set_option maxRecDepth 100000
/-- A builder at the head of block b (of type T, the cells rs behind it), holding these bytes; p: what it knows of its own place. -/
def BlA (T : TypeId) (rs : List Value) (B b : Nat) (p : Value) (bs : List Value) (w : World) : Prop :=
  B ≤ b ∧ ∃ v, w.heap[b]? = some (.cells (p :: v :: rs).toArray T (0, 0)) ∧ w.ownsRow B 5 1 v bs.length bs ∧ v.ownBlock ≠ some b
def Bl (T : TypeId) (rs : List Value) (B b : Nat) (bs : List Value) (w : World) : Prop := BlA T rs B b (.pointer none) bs w ∨ BlA T rs B b (.pointer (some ⟨b, 0, none⟩)) bs w
/-- What is asked of the block's type. -/
structure BlT (T : TypeId) (n : Nat) : Prop where
  ne : T ≠ 5
  lies : liesAt Tryd.prog Tryd.prog.depth T ((n + 2) / Tryd.prog.cellsOf T) 0 70 1 = true
theorem BlA.low {T : TypeId} {rs : List Value} {B b : Nat} {p : Value} {bs : List Value} {w : World} (h : BlA T rs B b p bs w) : b < w.heap.size := by
  obtain ⟨_, v, hb, _⟩ := h
  exact (Array.getElem?_eq_some_iff.1 hb).1
theorem size_bld : (Tryd.prog.info? 70).map (·.size) = some 2 := by kernel_rfl
theorem bcheck_used {T : TypeId} {rs : List Value} {B b : Nat} {bs : List Value} (w : World) (h : BlA T rs B b (.pointer (some ⟨b, 0, none⟩)) bs w) :
    Calls Tryd.prog 67 #[.pointer (some ⟨b, 0, none⟩)] w fun e w' => e = .returned (.tuple #[]) ∧ w' = w := by
  obtain ⟨j, hj, _⟩ := Option.map_eq_some_iff.1 size_bld
  obtain ⟨_, v, hb, _⟩ := h
  have h0 : w.cell? ⟨b, 0, none⟩ = some (.pointer (some ⟨b, 0, none⟩)) := by rw [cell_of_row w b 0 _ _ _ hb]; rfl
  clear hb
  go_enter Tryd.func67, Tryd.ntmps67
  go_wp2
  rw [Lib.run_neq_ptr_same w _ Tryd.underlying68 hj]
  go_wp2
  go_end0
  exact ⟨rfl, rfl⟩
theorem bcheck_new {T : TypeId} {rs : List Value} {B b : Nat} {bs : List Value} (w : World) (hT : BlT T rs.length) (h : BlA T rs B b (.pointer none) bs w) :
    Calls Tryd.prog 67 #[.pointer (some ⟨b, 0, none⟩)] w fun e w' => e = .returned (.tuple #[]) ∧ w' = w.setCell ⟨b, 0, none⟩ (.pointer (some ⟨b, 0, none⟩)) := by
  obtain ⟨j, hj, hjs⟩ := Option.map_eq_some_iff.1 size_bld
  obtain ⟨_, v, hb, _⟩ := h
  have h0 : w.cell? ⟨b, 0, none⟩ = some (.pointer none) := by rw [cell_of_row w b 0 _ _ _ hb]; rfl
  have hsh : w.shape? b = some (T, rs.length + 2) := by simp [World.shape?, hb]
  have hfz : w.frozen? ⟨b, 0, none⟩ = false := Lib.frozen_of_heap hb 0
  clear hb
  go_enter Tryd.func67, Tryd.ntmps67
  go_wp2
  rw [Lib.run_to_unsafe w ⟨b, 0, none⟩ Tryd.underlying68 Tryd.underlying137 hj (by rw [hjs]; decide) hsh (by simp)]
  simp only [Result.andThen]
  rw [Oper.upon_value]
  go_wp2
  rw [run_callFunc_extern Tryd.func76 (by kernel_rfl) (by kernel_rfl) (by kernel_rfl) (e := Extern.AbiNoEscape.same) (by kernel_rfl)]
  rw [Lib.run_noEscape]
  simp only [Result.andThen]
  rw [Oper.upon_value]
  go_wp2
  rw [Lib.run_from_unsafe w ⟨b, 0, none⟩ Tryd.underlying137 Tryd.underlying68 hj hsh hT.lies]
  simp only [Result.andThen]
  rw [Oper.upon_value]
  go_wp2
  go_end0
  exact ⟨rfl, rfl⟩
theorem bcheck {T : TypeId} {rs : List Value} {B b : Nat} {bs : List Value} (w : World) (hT : BlT T rs.length) (h : Bl T rs B b bs w) :
    Calls Tryd.prog 67 #[.pointer (some ⟨b, 0, none⟩)] w fun e w' => e = .returned (.tuple #[]) ∧ BlA T rs B b (.pointer (some ⟨b, 0, none⟩)) bs w' ∧ Below B w w' := by
  rcases h with h | h
  · refine (bcheck_new w hT h).mono ?_
    rintro e w' ⟨rfl, rfl⟩
    obtain ⟨hB, v, hb, ho, hne⟩ := h
    refine ⟨rfl, ⟨hB, v, ?_, ?_, hne⟩, (Below.refl B w).setCell (p := ⟨b, 0, none⟩) hB _⟩
    · simp [World.setCell, Array.getElem?_modify, hb]
    · exact ho.kept (row := some b) ⟨rfl, rfl, rfl, by simp [World.setCell], fun k _ hk => Below.heap_setCell _ _ _ _ (fun e => hk (by simp [e]))⟩ (Or.inr hne)
  · refine (bcheck_used w h).mono ?_
    rintro e w' ⟨rfl, rfl⟩
    exact ⟨rfl, h, Below.refl B _⟩
theorem BlA.put {T : TypeId} {rs : List Value} {B b : Nat} {p v v' : Value} {bs : List Value} {w : World} (hB : B ≤ b) (hb : w.heap[b]? = some (.cells (p :: v :: rs).toArray T (0, 0))) (ho : w.ownsRow B 5 1 v' bs.length bs) (hT : T ≠ 5) : BlA T rs B b p bs (w.setCell ⟨b, 1, none⟩ v') := by
  have hne := Lib.ownBlock_ne ho hb hT
  refine ⟨hB, v', ?_, ?_, hne⟩
  · simp [World.setCell, Array.getElem?_modify, hb]
  · exact ho.kept (row := some b) ⟨rfl, rfl, rfl, by simp [World.setCell], fun k _ hk => Below.heap_setCell _ _ _ _ (fun e => hk (by simp [e]))⟩ (Or.inr hne)
theorem BlA.below {T : TypeId} {rs : List Value} {B b : Nat} {p : Value} {bs : List Value} {w w' : World} (h : BlA T rs B b p bs w) (hb : Below w.heap.size w w') : BlA T rs B b p bs w' := by
  have hlt := h.low
  obtain ⟨hB, v, hbk, ho, hne⟩ := h
  exact ⟨hB, v, (hb.block b hlt).trans hbk, ownB ho hb, hne⟩
theorem Bl.below {T : TypeId} {rs : List Value} {B b : Nat} {bs : List Value} {w w' : World} (h : Bl T rs B b bs w) (hb : Below w.heap.size w w') : Bl T rs B b bs w' := h.elim (fun h => .inl (h.below hb)) (fun h => .inr (h.below hb))
set_option maxHeartbeats 2000000 in
theorem bstring {T : TypeId} {rs : List Value} {B b : Nat} {bs : List Value} (s : ByteArray) (w : World) (hT : BlT T rs.length) (h : Bl T rs B b bs w) (hlen : bs.length + s.size ≤ 140737488355328) (hBw : B ≤ w.heap.size) :
    Calls Tryd.prog 52 #[.pointer (some ⟨b, 0, none⟩), .string s] w fun e w' => e = .returned (.tuple #[.int .i64 s.size, .nilIface]) ∧ BlA T rs B b (.pointer (some ⟨b, 0, none⟩)) (bs ++ Lib.strCells s) w' ∧ Below B w w' := by
  obtain ⟨i0, hi, hz0, hz1, hz2⟩ := info_parts info_u8
  have hC := bcheck w hT h
  clear h
  go_enter Tryd.func52, Tryd.ntmps52
  go_wp2_with fail
  refine hC.mono ?_
  rintro e w1 ⟨rfl, h1, hb1⟩
  clear hC
  obtain ⟨hB, v, hbk, hown, hne⟩ := h1
  have c0 : w1.cell? ⟨b, 0, none⟩ = some (.pointer (some ⟨b, 0, none⟩)) := by rw [cell_of_row w1 b 0 _ _ _ hbk]; rfl
  have c1 : w1.cell? ⟨b, 1, none⟩ = some v := by rw [cell_of_row w1 b 1 _ _ _ hbk]; rfl
  have hlt : b < w1.heap.size := (Array.getElem?_eq_some_iff.1 hbk).1
  go_wp2_with (at_builtin; refine Lib.wpList_append_own_string _ rfl _ _ 43 9 rfl B 5 i0 Tryd.underlying43 Tryd.underlying9 hi hz0 hz1 hz2 _ _ _ rfl hown s rfl ?c3 ?c4 ?c5 ?_)
  case c3 => unfold maxLen; omega
  case c4 => omega
  case c5 => have := hb1.size; omega
  intro v' w2 hown' hgrow _
  have hb2 : w2.heap[b]? = some (.cells (.pointer (some ⟨b, 0, none⟩) :: v :: rs).toArray T (0, 0)) := by
    rw [hgrow.block b hlt (fun e => hne e.symm)]
    exact hbk
  have d0 : w2.cell? ⟨b, 0, none⟩ = some (.pointer (some ⟨b, 0, none⟩)) := by rw [cell_of_row w2 b 0 _ _ _ hb2]; rfl
  have d1 : w2.cell? ⟨b, 1, none⟩ = some v := by rw [cell_of_row w2 b 1 _ _ _ hb2]; rfl
  have f1 : w2.frozen? ⟨b, 1, none⟩ = false := Lib.frozen_of_heap hb2 1
  obtain ⟨ao, n', cap, rfl⟩ : ∃ ao n' cap, v' = .slice ao n' cap := by
    rcases hown'.2 with ⟨hv, _⟩ | ⟨g, cap, cur, hv, _⟩
    · exact ⟨_, _, _, hv⟩
    · exact ⟨_, _, _, hv⟩
  have HF : Hid (BlA T rs B b (.pointer (some ⟨b, 0, none⟩)) (bs ++ Lib.strCells s) (w2.setCell ⟨b, 1, none⟩ (.slice ao n' cap)) ∧ Below B w (w2.setCell ⟨b, 1, none⟩ (.slice ao n' cap))) := by
    refine ⟨BlA.put hB hb2 (bs := bs ++ Lib.strCells s) (by simpa [Lib.strCells_length] using hown') hT.ne, ?_⟩
    exact (hb1.grown hgrow (by have := hb1.size; omega) (fun k hk => (hown.lt k hk).1)).setCell (p := ⟨b, 1, none⟩) hB _
  clear hown hown' hgrow hb1 hbk hb2 c0 c1
  go_wp2_with fail
  go_ret2
  exact ⟨rfl, HF.out⟩
/-- A builder by itself. -/
theorem blt0 : BlT 70 0 := ⟨by decide, by kernel_rfl⟩
theorem Bl.is {B b : Nat} {bs : List Value} {w : World} (h : Bl 70 [] B b bs w) : Lib.IsBuilder 70 5 B b bs w := h
end Go.Proofs.YtnmnjcjfgbpkaaaDoor
