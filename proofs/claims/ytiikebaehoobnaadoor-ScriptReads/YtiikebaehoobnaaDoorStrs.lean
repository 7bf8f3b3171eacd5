/- Bytes as strings; one operation of a region that draws. -/
import Derived.Test.YtiikebaehoobnaaDoorRowo
import Derived.Laws.BytesString
import Derived.Deep.RegionWith
import Derived.Deep.DeepCutAuto
import Derived.Deep.QuietTactic
import Derived.BigQuiet
namespace Go.Proofs.YtiikebaehoobnaaDoor
set_option maxRecDepth 100000
open Go.RowKit

theorem bytes_beq (a b : ByteArray) : decide (a = b) = (a.toList == b.toList) := by
  rw [Bool.eq_iff_iff]
  simp only [decide_eq_true_eq, beq_iff_eq, ByteArray.toList_eq]
  constructor
  · intro h; rw [h]
  · intro h
    cases a; cases b
    simp at h
    rw [h]
/-- The first n bytes as a string. -/
def BA (bs : Nat → Nat) (n : Nat) : ByteArray := ((List.range n).map fun i => (bs i : Int)).foldl (fun r m => r.push (UInt8.ofNat m.toNat)) ByteArray.empty
theorem foldl_push (l : List Int) : ∀ r : ByteArray, (l.foldl (fun r m => r.push (UInt8.ofNat m.toNat)) r).data.toList = r.data.toList ++ l.map fun m => UInt8.ofNat m.toNat := by
  induction l with
  | nil => intro r; simp
  | cons x l ih =>
    intro r
    rw [List.foldl_cons, ih]
    show (r.data.push _).toList ++ _ = _
    simp
theorem BA_list (bs : Nat → Nat) (n : Nat) : (BA bs n).data.toList = (List.range n).map fun i => UInt8.ofNat (bs i) := by
  unfold BA
  rw [foldl_push, show ByteArray.empty.data.toList = [] from rfl]
  simp [Function.comp_def]
theorem BA_eq (f g : Nat → Nat) (n : Nat) (hf : ∀ i, i < n → f i < 256) (hg : ∀ i, i < n → g i < 256) : BA f n = BA g n ↔ ∀ i, i < n → f i = g i := by
  constructor
  · intro h i hi
    have h1 := congrArg (fun a : ByteArray => a.data.toList[i]?) h
    simp only [BA_list, List.getElem?_map, List.getElem?_range hi, Option.map_some, Option.some.injEq] at h1
    have h2 := congrArg UInt8.toNat h1
    simp only [UInt8.toNat_ofNat'] at h2
    have := hf i hi
    have := hg i hi
    omega
  · intro h
    have : (BA f n).data = (BA g n).data := by
      apply Array.toList_inj.1
      rw [BA_list, BA_list]
      apply List.map_congr_left
      intro i hi
      rw [h i (List.mem_range.1 hi)]
    cases hf : BA f n
    cases hg : BA g n
    rw [hf, hg] at this
    simp at this
    rw [this]
theorem conv_str (b off n cap : Nat) (bs : Nat → Nat) (w : World) (hr : Row8 w (some ⟨b, off, none⟩) n cap bs) :
    (convert 32 9 (.slice (some ⟨b, off, none⟩) n cap)).run Tryd.prog w = .ok (.string (BA bs n)) w := by
  rw [run_convert_bytes_string w 32 9 5 _ n cap Tryd.underlying32 Tryd.underlying5 Tryd.underlying9]
  refine run_bytesToString w ⟨b, off, none⟩ n cap ((List.range n).map fun i => (bs i : Int)) ?_
  have h := run_loadCells_list (P := Tryd.prog) w ⟨b, off, none⟩ (((List.range n).map fun i => (bs i : Int)).map (Value.int .u8)) (fun j v hv => by
    simp only [List.getElem?_map] at hv
    by_cases hj : j < n
    · rw [List.getElem?_range hj] at hv
      simp at hv
      rw [← hv]
      exact hr.src _ rfl j hj
    · rw [List.getElem?_eq_none (by simp; omega)] at hv
      simp at hv)
  simpa using h
theorem conv_any (a : Option Addr) (n cap : Nat) (bs : Nat → Nat) (w : World) (hr : Row8 w a n cap bs) :
    (convert 32 9 (.slice a n cap)).run Tryd.prog w = .ok (.string (BA bs n)) w := by
  cases a with
  | none =>
    obtain ⟨rfl, rfl⟩ := hr.nil rfl
    rw [run_convert_bytes_string w 32 9 5 _ 0 0 Tryd.underlying32 Tryd.underlying5 Tryd.underlying9]
    rfl
  | some x =>
    obtain ⟨b, off, spot⟩ := x
    by_cases h0 : n = 0
    · subst h0
      rw [run_convert_bytes_string w 32 9 5 _ 0 cap Tryd.underlying32 Tryd.underlying5 Tryd.underlying9]
      rfl
    · obtain ⟨b', off', he, _, _⟩ := hr.plain (by omega)
      cases he
      exact conv_str b off n cap bs w hr
/-- One operation of a region that draws: it yields a value; it is a call. -/
theorem any_val {P : Program} {ops : Array Oper} {Q : Exit → Act → World → Prop} {K : Act → World → Prop} {a : Act} {w : World} {i : Nat} {o : Oper} (v : Value) (w' : World) (ho : ops[i]? = some o)
    (hw : Region.wanted o (yielded ops a.tmps) = true) (hrun : (execOp a.eval o).run P w = .ok (.value v) w') (h : K (a.put o.dst v) w') : wpOp P ops Q i K a w := by
  unfold wpOp
  simp only [ho, hw, if_true]
  refine .inl ?_
  unfold Oper.wp
  rw [hrun]
  exact h
theorem any_call {P : Program} {ops : Array Oper} {Q : Exit → Act → World → Prop} {K : Act → World → Prop} {a : Act} {w : World} {i : Nat} {o : Oper} (f : FuncId) (args : Array Value) (ho : ops[i]? = some o)
    (hw : Region.wanted o (yielded ops a.tmps) = true) (hrun : (execOp a.eval o).run P w = .ok (.enter f args) w) (hc : Calls P f args w fun e w'' => ∃ v, e = .returned v ∧ K (a.put o.dst v) w'') : wpOp P ops Q i K a w := by
  unfold wpOp
  simp only [ho, hw, if_true]
  refine .inl ?_
  unfold Oper.wp
  rw [hrun]
  refine hc.mono ?_
  rintro e w'' ⟨v, rfl, h⟩
  exact h
theorem wpAny_at {P : Program} {md : Region.Mode} {ops : Array Oper} {Q : Exit → Act → World → Prop} {fuel : Nat} {l l' : Array Bool} {a a' : Act} {w : World} (ha : a = a') (hl : l = l') (h : wpAny P md ops Q fuel l' a' w) : wpAny P md ops Q fuel l a w := by subst ha; subst hl; exact h
theorem wpAny_one {P : Program} {md : Region.Mode} {ops : Array Oper} {Q : Exit → Act → World → Prop} {fuel : Nat} {l : Array Bool} {a : Act} {w : World} {i : Nat} (hr : Region.ready md ops l = [i]) (h : wpOp P ops Q i (wpAny P md ops Q fuel (l.setIfInBounds i true)) a w) : wpAny P md ops Q (fuel + 1) l a w :=
  wpAny_all hr (by simp) (fun j hj => by obtain rfl := List.mem_singleton.1 hj; exact h)
theorem wpAny_two {P : Program} {md : Region.Mode} {ops : Array Oper} {Q : Exit → Act → World → Prop} {fuel : Nat} {l : Array Bool} {a : Act} {w : World} {i j : Nat} (hr : Region.ready md ops l = [i, j]) (h : wpOp P ops Q i (wpAny P md ops Q fuel (l.setIfInBounds i true)) a w) (h2 : wpOp P ops Q j (wpAny P md ops Q fuel (l.setIfInBounds j true)) a w) : wpAny P md ops Q (fuel + 1) l a w :=
  wpAny_all hr (by simp) (fun k hk => by
    rcases List.mem_cons.1 hk with rfl | hk
    · exact h
    · obtain rfl := List.mem_singleton.1 hk; exact h2)

end Go.Proofs.YtiikebaehoobnaaDoor
