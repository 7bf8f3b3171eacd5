/- Part 2 of the texts on which the proofs of layer 13 rest: contracts of Go functions. -/
import Derived.Deep.QuietTactic
import Derived.BigQuiet
import Derived.Laws.BytesString
import Derived.Deep.RegionWith
import Derived.Deep.DeepCutAuto
import Derived.Deep.RegionHeld3
import Derived.Test.YtndjepeolamedaaGreatPkA00
namespace Go.Proofs.YtndjepeolamedaaGreat
set_option maxRecDepth 100000
open Go.RowKit
def sqE (n : Nat) : List (Nat × Nat) → Ms → Int
  | [], _ => 0
  | (p, c) :: r, s => if wrE s n (p : Nat) = 0 then sqE n r (wrS s n (p : Nat) c) else wrE s n (p : Nat)
def sqS (n : Nat) : List (Nat × Nat) → Ms → Ms
  | [], s => s
  | (p, c) :: r, s => if wrE s n (p : Nat) = 0 then sqS n r (wrS s n (p : Nat) c) else wrS s n (p : Nat) c
def lays : List (Nat × Nat) → (Nat → Nat) → Nat → Nat
  | [], z => z
  | (p, c) :: r, z => lays r (lay z p c)
theorem rch_ok {s : Ms} {n p : Nat} (hp : p < n) (ho : s.off = false) : rch s n (p : Nat) = 0 := by
  unfold rch
  rw [ho, if_neg (by simp), if_neg (by omega)]
theorem wr_or {s : Ms} {n p : Nat} (c : Nat) (hp : p < n) (ho : s.off = false) :
    (wrE s n (p : Nat) = 0 ∧ wrS s n (p : Nat) c = ⟨lay s.bs p c, false, s.ar, if s.ar then s.l - 1 else s.l, s.t + 1⟩ ∧ ¬ (s.ar = true ∧ s.l = 0)) ∨
    (wrE s n (p : Nat) = 70 ∧ wrS s n (p : Nat) c = { s with off := true } ∧ s.ar = true ∧ s.l = 0) := by
  have hr := rch_ok hp ho
  by_cases h : s.ar = true ∧ s.l = 0
  · exact .inr ⟨(wr_cut (c := c) hr h.1 h.2).1, (wr_cut (c := c) hr h.1 h.2).2, h.1, h.2⟩
  · refine .inl ⟨(if_neg (fun k => k hr)).trans (if_neg h), (if_neg (fun k => k hr)).trans ((if_neg h).trans ?_), h⟩
    rw [Int.toNat_natCast, ho]
theorem sq_all (n : Nat) : ∀ (l : List (Nat × Nat)) (s : Ms), (∀ x, x ∈ l → x.1 < n) → s.off = false → 0 ≤ s.l →
    (sqE n l s = 0 ∧ sqS n l s = ⟨lays l s.bs, false, s.ar, if s.ar then s.l - l.length else s.l, s.t + l.length⟩ ∧ (s.ar = true → (l.length : Int) ≤ s.l)) ∨
    (sqE n l s = 70 ∧ sqS n l s = ⟨lays (l.take s.l.toNat) s.bs, true, true, 0, s.t + s.l⟩ ∧ s.ar = true ∧ s.l < (l.length : Int))
  | [], ⟨_, off, ar, _, _⟩, _, ho, hl => .inl ⟨rfl, by simp only at ho; subst ho; cases ar <;> simp [sqS, lays], fun _ => hl⟩
  | (p, c) :: r, s, hin, ho, hl => by
    have hp : p < n := hin (p, c) (by simp)
    have hin' : ∀ x, x ∈ r → x.1 < n := fun x hx => hin x (by simp [hx])
    rcases wr_or c hp ho with ⟨hE, hS, hna⟩ | ⟨hE, hS, ha, h0⟩
    · have hl' : 0 ≤ (⟨lay s.bs p c, false, s.ar, if s.ar then s.l - 1 else s.l, s.t + 1⟩ : Ms).l := by
        cases ha : s.ar
        · simpa using hl
        · simp only [ha, true_and] at hna
          simp only [if_true]
          omega
      have ih := sq_all n r ⟨lay s.bs p c, false, s.ar, if s.ar then s.l - 1 else s.l, s.t + 1⟩ hin' rfl hl'
      have e1 : sqE n ((p, c) :: r) s = sqE n r ⟨lay s.bs p c, false, s.ar, if s.ar then s.l - 1 else s.l, s.t + 1⟩ := by
        rw [sqE, if_pos hE, hS]
      have e2 : sqS n ((p, c) :: r) s = sqS n r ⟨lay s.bs p c, false, s.ar, if s.ar then s.l - 1 else s.l, s.t + 1⟩ := by
        rw [sqS, if_pos hE, hS]
      rw [e1, e2]
      cases ha : s.ar
      · simp only [ha, lays, List.length_cons] at ih ⊢
        rcases ih with ⟨h1, h2, h3⟩ | ⟨h1, h2, h3, h4⟩
        · refine .inl ⟨h1, ?_, by simp⟩
          rw [h2]
          simp
          omega
        · simp at h3
      · simp only [ha, true_and] at hna
        simp only [ha, if_true, lays, List.length_cons] at ih ⊢
        rcases ih with ⟨h1, h2, h3⟩ | ⟨h1, h2, h3, h4⟩
        · refine .inl ⟨h1, ?_, fun _ => by have := h3 trivial; omega⟩
          rw [h2]
          simp
          omega
        · refine .inr ⟨h1, ?_, trivial, by omega⟩
          rw [h2]
          have e3 : s.l.toNat = (s.l - 1).toNat + 1 := by omega
          rw [e3]
          simp [lays]
          omega
    · refine .inr ⟨?_, ?_, ha, by rw [h0]; simp⟩
      · rw [sqE, if_neg (by rw [hE]; omega), hE]
      · rw [sqS, if_neg (by rw [hE]; omega), hS, h0, ha]
        simp [lays]
def bt (v i : Nat) : Nat := v / 2 ^ (8 * (3 - i)) % 256
def six (k v : Nat) : List (Nat × Nat) := [(5 * k, 0), (5 * k + 1, bt v 0), (5 * k + 2, bt v 1), (5 * k + 3, bt v 2), (5 * k + 4, bt v 3), (5 * k, 165)]
def wz (z : Nat → Nat) (k : Nat) : Nat := z (5 * k + 1) * 16777216 + z (5 * k + 2) * 65536 + z (5 * k + 3) * 256 + z (5 * k + 4)
def hw (z : Nat → Nat) (k : Nat) : Nat := if z (5 * k) = 165 then wz z k else 0
def vz (z : Nat → Nat) : Nat := max (hw z 0) (hw z 1)
def tg (z : Nat → Nat) : Nat := if z 0 = 165 ∧ (z 5 ≠ 165 ∨ wz z 1 < wz z 0) then 1 else 0
def Bz (z : Nat → Nat) : Prop := ∀ i, i < 10 → z i < 256
theorem bt_lt (v i : Nat) : bt v i < 256 := Nat.mod_lt _ (by omega)
theorem bt_word (v : Nat) (h : v < 4294967296) : bt v 0 * 16777216 + bt v 1 * 65536 + bt v 2 * 256 + bt v 3 = v := by
  have e : bt v 0 = v / 16777216 % 256 ∧ bt v 1 = v / 65536 % 256 ∧ bt v 2 = v / 256 % 256 ∧ bt v 3 = v / 1 % 256 := ⟨rfl, rfl, rfl, rfl⟩
  omega
theorem six_in (k v n : Nat) (hk : k < 2) (hn : 10 ≤ n) : ∀ x, x ∈ six k v → x.1 < n ∧ x.2 < 256 := by
  intro x hx
  have := bt_lt v
  simp only [six, List.mem_cons, List.not_mem_nil, or_false] at hx
  rcases hx with rfl | rfl | rfl | rfl | rfl | rfl <;> refine ⟨by simp only; omega, ?_⟩ <;> simp only <;> first | omega | exact this _
theorem six_mark (z : Nat → Nat) (k v : Nat) : lays (six k v) z (5 * k) = 165 := by simp [six, lays, lay]
theorem six_wz (z : Nat → Nat) (k v : Nat) (h : v < 4294967296) : wz (lays (six k v) z) k = v := by
  have e := bt_word v h
  simp only [wz, six, lays, lay]
  simp
  omega
theorem six_else (z : Nat → Nat) (k v j : Nat) (i : Nat) (h : i < 5 * k ∨ 5 * k + 4 < i) : lays ((six k v).take j) z i = z i := by
  have : ∀ j', j' ≤ 6 → lays ((six k v).take j') z i = z i := by
    intro j' hj
    have : j' = 0 ∨ j' = 1 ∨ j' = 2 ∨ j' = 3 ∨ j' = 4 ∨ j' = 5 ∨ j' = 6 := by omega
    have e0 : i ≠ 5 * k := by omega
    have e1 : i ≠ 5 * k + 1 := by omega
    have e2 : i ≠ 5 * k + 2 := by omega
    have e3 : i ≠ 5 * k + 3 := by omega
    have e4 : i ≠ 5 * k + 4 := by omega
    rcases this with rfl | rfl | rfl | rfl | rfl | rfl | rfl <;> simp [six, lays, lay, e0, e1, e2, e3, e4]
  by_cases hj : j ≤ 6
  · exact this j hj
  · have e : (six k v).take j = (six k v).take 6 := by rw [List.take_of_length_le (by simp [six]; omega), List.take_of_length_le (by simp [six])]
    rw [e]
    exact this 6 (by omega)
theorem six_cut (z : Nat → Nat) (k v j : Nat) (h0 : 0 < j) (h : j < 6) : lays ((six k v).take j) z (5 * k) = 0 := by
  have : j = 1 ∨ j = 2 ∨ j = 3 ∨ j = 4 ∨ j = 5 := by omega
  rcases this with rfl | rfl | rfl | rfl | rfl <;> simp [six, lays, lay]
theorem hw_six (z : Nat → Nat) (k v : Nat) (h : v < 4294967296) : hw (lays (six k v) z) k = v := by
  unfold hw
  rw [six_mark, if_pos rfl, six_wz z k v h]
theorem hw_other (z : Nat → Nat) (k k' v j : Nat) (h : k ≠ k') : hw (lays ((six k v).take j) z) k' = hw z k' := by
  unfold hw wz
  rw [six_else z k v j _ (by omega), six_else z k v j _ (by omega), six_else z k v j _ (by omega), six_else z k v j _ (by omega), six_else z k v j _ (by omega)]
theorem hw_other' (z : Nat → Nat) (k k' v : Nat) (h : k ≠ k') : hw (lays (six k v) z) k' = hw z k' := hw_other z k k' v 6 h
theorem hw_cut (z : Nat → Nat) (k v j : Nat) (h : j < 6) : j = 0 ∨ hw (lays ((six k v).take j) z) k = 0 := by
  by_cases h0 : j = 0
  · exact .inl h0
  · refine .inr ?_
    unfold hw
    rw [six_cut z k v j (by omega) h, if_neg (by omega)]
theorem tg_lt (z : Nat → Nat) : tg z < 2 := by
  unfold tg
  split <;> omega
theorem tg_le (z : Nat → Nat) : hw z (tg z) ≤ hw z (1 - tg z) := by
  unfold tg
  by_cases h : z 0 = 165 ∧ (z 5 ≠ 165 ∨ wz z 1 < wz z 0)
  · rw [if_pos h]
    unfold hw
    simp only [Nat.mul_one, Nat.mul_zero, Nat.sub_self, h.1, if_true]
    split <;> omega
  · rw [if_neg h]
    unfold hw
    simp only [Nat.mul_one, Nat.mul_zero, Nat.sub_zero]
    by_cases h0 : z 0 = 165
    · have h5 : z 5 = 165 := by omega
      rw [if_pos h0, if_pos h5]
      omega
    · rw [if_neg h0]
      omega
theorem vz_two (z : Nat → Nat) (k : Nat) (hk : k < 2) : vz z = max (hw z k) (hw z (1 - k)) := by
  have : k = 0 ∨ k = 1 := by omega
  rcases this with rfl | rfl
  · rfl
  · unfold vz
    exact Nat.max_comm _ _
theorem vz_next (z : Nat → Nat) (v : Nat) (h : v < 4294967296) (hv : vz z ≤ v) : vz (lays (six (tg z) v) z) = v := by
  have hk := tg_lt z
  rw [vz_two _ _ hk, hw_six z _ v h, hw_other' z _ _ v (by omega)]
  rw [vz_two z _ hk] at hv
  omega
theorem vz_cut (z : Nat → Nat) (v j : Nat) (h : j < 6) : vz (lays ((six (tg z) v).take j) z) = vz z := by
  have hk := tg_lt z
  have hl := tg_le z
  rcases hw_cut z (tg z) v j h with rfl | h0
  · rfl
  · rw [vz_two _ _ hk, h0, hw_other z _ _ v j (by omega), vz_two z _ hk]
    omega
end Go.Proofs.YtndjepeolamedaaGreat
namespace Go.Proofs.YtndjepeolamedaaGreat
set_option maxRecDepth 100000
open Go.RowKit
def CV (m mx : Nat) (mk wd : Nat → Nat) (cut : Bool) : Array Value :=
  #[.pointer (some ⟨m, 0, none⟩), .int .u32 (mx : Nat), .int .u8 (mk 0 : Nat), .int .u8 (mk 1 : Nat), .int .u32 (wd 0 : Nat), .int .u32 (wd 1 : Nat), .bool cut]
structure CX (w : World) (c m mx : Nat) (mk wd : Nat → Nat) (cut : Bool) : Prop where
  at_ : w.heap[c]? = some (.cells (CV m mx mk wd cut) 168 (0, 0))
def upd (f : Nat → Nat) (k x : Nat) : Nat → Nat := fun i => if i = k then x else f i
section
variable {w w' : World} {c m mx : Nat} {mk wd : Nat → Nat} {cut : Bool}
theorem CX.lt (h : CX w c m mx mk wd cut) : c < w.heap.size := (Array.getElem?_eq_some_iff.1 h.at_).1
theorem CX.off {l : List Nat} (h : CX w c m mx mk wd cut) (q : Off l w w') (hc : c ∉ l) : CX w' c m mx mk wd cut := ⟨(q.block c h.lt hc).trans h.at_⟩
theorem CX.fz (h : CX w c m mx mk wd cut) (j : Nat) : w.frozen? ⟨c, j, none⟩ = false := frozen_of_row w c j _ _ h.at_
theorem CX.mem (h : CX w c m mx mk wd cut) : w.cell? ⟨c, 0, none⟩ = some (.pointer (some ⟨m, 0, none⟩)) := cell_of_row w c 0 _ _ _ h.at_
theorem CX.max (h : CX w c m mx mk wd cut) : w.cell? ⟨c, 1, none⟩ = some (.int .u32 (mx : Nat)) := cell_of_row w c 1 _ _ _ h.at_
theorem CX.hmk (h : CX w c m mx mk wd cut) (k : Nat) (hk : k < 2) : w.cell? ⟨c, 2 + k, none⟩ = some (.int .u8 (mk k : Nat)) := by
  have : k = 0 ∨ k = 1 := by omega
  rcases this with rfl | rfl
  · exact cell_of_row w c 2 _ _ _ h.at_
  · exact cell_of_row w c 3 _ _ _ h.at_
theorem CX.hcut (h : CX w c m mx mk wd cut) : w.cell? ⟨c, 6, none⟩ = some (.bool cut) := cell_of_row w c 6 _ _ _ h.at_
theorem CX.as {mk' wd' : Nat → Nat} (h : CX w c m mx mk wd cut) (a0 : mk 0 = mk' 0) (a1 : mk 1 = mk' 1) (b0 : wd 0 = wd' 0) (b1 : wd 1 = wd' 1) : CX w c m mx mk' wd' cut := by
  refine ⟨?_⟩
  rw [h.at_]
  unfold CV
  rw [a0, a1, b0, b1]
theorem CX.drewN (h : CX w c m mx mk wd cut) (k : Nat) : CX (w.drewN k) c m mx mk wd cut := h.off (Off.drewN [] _ k) (by simp)
end
end Go.Proofs.YtndjepeolamedaaGreat
namespace Go.Proofs.YtndjepeolamedaaGreat
set_option maxRecDepth 100000
open Go.RowKit
end Go.Proofs.YtndjepeolamedaaGreat
namespace Go.Proofs.YtndjepeolamedaaGreat
set_option maxRecDepth 100000
open Go.RowKit
end Go.Proofs.YtndjepeolamedaaGreat
namespace Go.Proofs.YtndjepeolamedaaGreat
set_option maxRecDepth 100000
open Go.RowKit
abbrev CS (w : World) (c m mx : Nat) (z : Nat → Nat) (cut : Bool) : Prop := CX w c m mx (fun k => z (5 * k)) (wz z) cut
end Go.Proofs.YtndjepeolamedaaGreat
namespace Go.Proofs.YtndjepeolamedaaGreat
set_option maxRecDepth 100000
open Go.RowKit
end Go.Proofs.YtndjepeolamedaaGreat
namespace Go.Proofs.YtndjepeolamedaaGreat
set_option maxRecDepth 100000
open Go.RowKit
end Go.Proofs.YtndjepeolamedaaGreat
namespace Go.Proofs.YtndjepeolamedaaGreat
set_option maxRecDepth 100000
open Go.RowKit
theorem bytes_beq (a b : ByteArray) : decide (a = b) = (a.toList == b.toList) := by
  rw [Bool.eq_iff_iff]
  simp only [decide_eq_true_eq, beq_iff_eq, ByteArray.toList_eq]
  constructor
  · intro h; rw [h]
  · intro h
    cases a; cases b
    simp at h
    rw [h]
def BA (bs : Nat → Nat) (n : Nat) : ByteArray := ((List.range n).map fun i => (bs i : Int)).foldl (fun r m => r.push (UInt8.ofNat m.toNat)) ByteArray.empty
theorem foldl_push (l : List Int) : ∀ r : ByteArray, (l.foldl (fun r m => r.push (UInt8.ofNat m.toNat)) r).data.toList = r.data.toList ++ l.map fun m => UInt8.ofNat m.toNat := by
  induction l with
  | nil => intro r; simp
  | cons x l ih =>
    intro r
    rw [List.foldl_cons, ih]
    show (r.data.push _).toList ++ _ = _
    simp
theorem BA_list (bs : Nat → Nat) (n : Nat) : (BA bs n).data.toList = (List.range n).map fun i => UInt8.ofNat (bs i) := by
  unfold BA
  rw [foldl_push, show ByteArray.empty.data.toList = [] from rfl]
  simp [Function.comp_def]
theorem BA_eq (f g : Nat → Nat) (n : Nat) (hf : ∀ i, i < n → f i < 256) (hg : ∀ i, i < n → g i < 256) : BA f n = BA g n ↔ ∀ i, i < n → f i = g i := by
  constructor
  · intro h i hi
    have h1 := congrArg (fun a : ByteArray => a.data.toList[i]?) h
    simp only [BA_list, List.getElem?_map, List.getElem?_range hi, Option.map_some, Option.some.injEq] at h1
    have h2 := congrArg UInt8.toNat h1
    simp only [UInt8.toNat_ofNat'] at h2
    have := hf i hi
    have := hg i hi
    omega
  · intro h
    have : (BA f n).data = (BA g n).data := by
      apply Array.toList_inj.1
      rw [BA_list, BA_list]
      apply List.map_congr_left
      intro i hi
      rw [h i (List.mem_range.1 hi)]
    cases hf : BA f n
    cases hg : BA g n
    rw [hf, hg] at this
    simp at this
    rw [this]
theorem conv_str (b off n cap : Nat) (bs : Nat → Nat) (w : World) (hr : Row8 w (some ⟨b, off, none⟩) n cap bs) :
    (convert 22 9 (.slice (some ⟨b, off, none⟩) n cap)).run Tryz.prog w = .ok (.string (BA bs n)) w := by
  rw [run_convert_bytes_string w 22 9 5 _ n cap Tryz.underlying22 Tryz.underlying5 Tryz.underlying9]
  refine run_bytesToString w ⟨b, off, none⟩ n cap ((List.range n).map fun i => (bs i : Int)) ?_
  have h := run_loadCells_list (P := Tryz.prog) w ⟨b, off, none⟩ (((List.range n).map fun i => (bs i : Int)).map (Value.int .u8)) (fun j v hv => by
    simp only [List.getElem?_map] at hv
    by_cases hj : j < n
    · rw [List.getElem?_range hj] at hv
      simp at hv
      rw [← hv]
      exact hr.src _ rfl j hj
    · rw [List.getElem?_eq_none (by simp; omega)] at hv
      simp at hv)
  simpa using h
theorem conv_any (a : Option Addr) (n cap : Nat) (bs : Nat → Nat) (w : World) (hr : Row8 w a n cap bs) :
    (convert 22 9 (.slice a n cap)).run Tryz.prog w = .ok (.string (BA bs n)) w := by
  cases a with
  | none =>
    obtain ⟨rfl, rfl⟩ := hr.nil rfl
    rw [run_convert_bytes_string w 22 9 5 _ 0 0 Tryz.underlying22 Tryz.underlying5 Tryz.underlying9]
    rfl
  | some x =>
    obtain ⟨b, off, spot⟩ := x
    by_cases h0 : n = 0
    · subst h0
      rw [run_convert_bytes_string w 22 9 5 _ 0 cap Tryz.underlying22 Tryz.underlying5 Tryz.underlying9]
      rfl
    · obtain ⟨b', off', he, _, _⟩ := hr.plain (by omega)
      cases he
      exact conv_str b off n cap bs w hr
theorem any_val {P : Program} {ops : Array Oper} {Q : Exit → Act → World → Prop} {K : Act → World → Prop} {a : Act} {w : World} {i : Nat} {o : Oper} (v : Value) (w' : World) (ho : ops[i]? = some o)
    (hw : Region.wanted o (yielded ops a.tmps) = true) (hrun : (execOp a.eval o).run P w = .ok (.value v) w') (h : K (a.put o.dst v) w') : wpOp P ops Q i K a w := by
  unfold wpOp
  simp only [ho, hw, if_true]
  refine .inl ?_
  unfold Oper.wp
  rw [hrun]
  exact h
theorem any_call {P : Program} {ops : Array Oper} {Q : Exit → Act → World → Prop} {K : Act → World → Prop} {a : Act} {w : World} {i : Nat} {o : Oper} (f : FuncId) (args : Array Value) (ho : ops[i]? = some o)
    (hw : Region.wanted o (yielded ops a.tmps) = true) (hrun : (execOp a.eval o).run P w = .ok (.enter f args) w) (hc : Calls P f args w fun e w'' => ∃ v, e = .returned v ∧ K (a.put o.dst v) w'') : wpOp P ops Q i K a w := by
  unfold wpOp
  simp only [ho, hw, if_true]
  refine .inl ?_
  unfold Oper.wp
  rw [hrun]
  refine hc.mono ?_
  rintro e w'' ⟨v, rfl, h⟩
  exact h
theorem wpAny_at {P : Program} {md : Region.Mode} {ops : Array Oper} {Q : Exit → Act → World → Prop} {fuel : Nat} {l l' : Array Bool} {a a' : Act} {w : World} (ha : a = a') (hl : l = l') (h : wpAny P md ops Q fuel l' a' w) : wpAny P md ops Q fuel l a w := by subst ha; subst hl; exact h
theorem wpAny_one {P : Program} {md : Region.Mode} {ops : Array Oper} {Q : Exit → Act → World → Prop} {fuel : Nat} {l : Array Bool} {a : Act} {w : World} {i : Nat} (hr : Region.ready md ops l = [i]) (h : wpOp P ops Q i (wpAny P md ops Q fuel (l.setIfInBounds i true)) a w) : wpAny P md ops Q (fuel + 1) l a w :=
  wpAny_all hr (by simp) (fun j hj => by obtain rfl := List.mem_singleton.1 hj; exact h)
theorem wpAny_two {P : Program} {md : Region.Mode} {ops : Array Oper} {Q : Exit → Act → World → Prop} {fuel : Nat} {l : Array Bool} {a : Act} {w : World} {i j : Nat} (hr : Region.ready md ops l = [i, j]) (h : wpOp P ops Q i (wpAny P md ops Q fuel (l.setIfInBounds i true)) a w) (h2 : wpOp P ops Q j (wpAny P md ops Q fuel (l.setIfInBounds j true)) a w) : wpAny P md ops Q (fuel + 1) l a w :=
  wpAny_all hr (by simp) (fun k hk => by
    rcases List.mem_cons.1 hk with rfl | hk
    · exact h
    · obtain rfl := List.mem_singleton.1 hk; exact h2)
end Go.Proofs.YtndjepeolamedaaGreat
namespace Go.Proofs.YtndjepeolamedaaGreat
set_option maxRecDepth 100000
open Go.RowKit
def Z1 : Nat → Nat := lays (six 0 1) (fun _ => 0)
def Z2 : Nat → Nat := lays (six 1 2) Z1
end Go.Proofs.YtndjepeolamedaaGreat
namespace Go.Proofs.YtndjepeolamedaaGreat
set_option maxRecDepth 100000
open Go.RowKit
def RC (v : Value) (s : Ms) : Array Value := #[v, .bool s.off, .bool s.ar, .int .i64 s.l, .int .i64 s.t]
structure RR (w : World) (b g n : Nat) (s : Ms) : Prop where
  ex : ∃ v, w.heap[b]? = some (.cells (RC v s) 103 (0, 0)) ∧ Held w b g n s.bs v
  byte : ∀ i, i < n → s.bs i < 256
  l0 : 0 ≤ s.l
  l1 : s.l ≤ 9223372036854775807
  t0 : 0 ≤ s.t
  nn : n ≤ 4096
section
variable {w w' : World} {b g n : Nat} {s : Ms}
theorem RR.lt (h : RR w b g n s) : b < w.heap.size := by
  obtain ⟨v, hv, _⟩ := h.ex
  exact (Array.getElem?_eq_some_iff.1 hv).1
theorem RR.lg (h : RR w b g n s) : g < w.heap.size := by
  obtain ⟨v, hv, hh⟩ := h.ex
  exact hh.lt h.lt
theorem RR.off {l : List Nat} (h : RR w b g n s) (q : Off l w w') (hb : b ∉ l) (hg : g ∉ l) : RR w' b g n s := by
  obtain ⟨v, hv, hh⟩ := h.ex
  exact ⟨⟨v, (q.block b h.lt hb).trans hv, hh.off q hg⟩, h.byte, h.l0, h.l1, h.t0, h.nn⟩
theorem RR.cells (h : RR w b g n s) : ∃ a cap, w.cell? ⟨b, 0, none⟩ = some (.slice a n cap) ∧ Row8 w a n cap s.bs ∧ (0 < n → g ≠ b ∧ a = some ⟨g, 0, none⟩) ∧ w.cell? ⟨b, 1, none⟩ = some (.bool s.off) ∧
    w.cell? ⟨b, 2, none⟩ = some (.bool s.ar) ∧ w.cell? ⟨b, 3, none⟩ = some (.int .i64 s.l) ∧ w.cell? ⟨b, 4, none⟩ = some (.int .i64 s.t) ∧ ∀ j, w.frozen? ⟨b, j, none⟩ = false := by
  obtain ⟨v, hv, hh⟩ := h.ex
  obtain ⟨a, cap, rfl, hr⟩ := hh.row h.byte
  refine ⟨a, cap, cell_of_row w b 0 _ _ _ hv, hr, fun hn => ?_, cell_of_row w b 1 _ _ _ hv, cell_of_row w b 2 _ _ _ hv, cell_of_row w b 3 _ _ _ hv, cell_of_row w b 4 _ _ _ hv, fun j => frozen_of_row w b j _ _ hv⟩
  obtain ⟨hg, cap', he⟩ := hh.plain hn
  simp only [Value.slice.injEq] at he
  exact ⟨hg, he.1⟩
theorem RR.held (h : RR w b g n s) (j : Nat) (hj : j < n) : w.cell? ⟨g, j, none⟩ = some (.int .u8 (s.bs j : Nat)) ∧ w.frozen? ⟨g, j, none⟩ = false := by
  obtain ⟨v, hv, hh⟩ := h.ex
  obtain ⟨hg, cap, rfl⟩ := hh.plain (by omega)
  exact ⟨by rw [hh.own.cellAt j (by omega), CB_get _ _ _ hj], hh.own.frozenAt j⟩
theorem RR.upd (h : RR w b g n s) (s' : Ms) (q : Off [b] w w') (hc : ∀ v, w.heap[b]? = some (.cells (RC v s) 103 (0, 0)) → w'.heap[b]? = some (.cells (RC v s') 103 (0, 0)))
    (hbs : s'.bs = s.bs) (l0 : 0 ≤ s'.l) (l1 : s'.l ≤ 9223372036854775807) (t0 : 0 ≤ s'.t) : RR w' b g n s' := by
  obtain ⟨v, hv, hh⟩ := h.ex
  exact ⟨⟨v, hc v hv, hbs ▸ hh.here q⟩, hbs ▸ h.byte, l0, l1, t0, h.nn⟩
theorem RR.put (h : RR w b g n s) (j x : Nat) (hj : j < n) (hx : x < 256) : RR (w.setCell ⟨g, j, none⟩ (.int .u8 (x : Nat))) b g n { s with bs := fun i => if i = j then x else s.bs i } := by
  obtain ⟨v, hv, hh⟩ := h.ex
  have hg := (hh.plain (by omega)).1
  refine ⟨⟨v, (heap_setCell_other w _ b _ (Ne.symm hg)).trans hv, hh.set j x hj⟩, fun i hi => ?_, h.l0, h.l1, h.t0, h.nn⟩
  by_cases e : i = j
  · simp [e, hx]
  · simp [e, h.byte i hi]
end
end Go.Proofs.YtndjepeolamedaaGreat
namespace Go.Proofs.YtndjepeolamedaaGreat
set_option maxRecDepth 100000
open Go.RowKit
theorem RR.drewN {w : World} {b g n : Nat} {s : Ms} (h : RR w b g n s) (k : Nat) : RR (w.drewN k) b g n s := h.off (Off.drewN [] _ k) (by simp) (by simp)
end Go.Proofs.YtndjepeolamedaaGreat
namespace Go.Proofs.YtndjepeolamedaaGreat
set_option maxRecDepth 100000
open Go.RowKit
def ofs (i : Nat) : Nat := [0, 1, 2, 3, 4, 0].getD i 0
def byt (v i : Nat) : Nat := [0, bt v 0, bt v 1, bt v 2, bt v 3, 165].getD i 0
def A6 : Array Value := #[.int .i64 0, .int .i64 1, .int .i64 2, .int .i64 3, .int .i64 4, .int .i64 0]
def B6 (v : Nat) : Array Value := #[.int .u8 0, .int .u8 (bt v 0 : Nat), .int .u8 (bt v 1 : Nat), .int .u8 (bt v 2 : Nat), .int .u8 (bt v 3 : Nat), .int .u8 165]
structure S6 (w : World) (A B v : Nat) : Prop where
  a : w.heap[A]? = some (.cells A6 3 (0, 0))
  b : w.heap[B]? = some (.cells (B6 v) 5 (0, 0))
theorem S6.off {l : List Nat} {w w' : World} {A B v : Nat} (h : S6 w A B v) (q : Off l w w') (hA : A ∉ l) (hB : B ∉ l) : S6 w' A B v :=
  ⟨(q.block A (Array.getElem?_eq_some_iff.1 h.a).1 hA).trans h.a, (q.block B (Array.getElem?_eq_some_iff.1 h.b).1 hB).trans h.b⟩
theorem S6.cells {w : World} {A B v : Nat} (h : S6 w A B v) (i : Nat) (hi : i < 6) : w.cell? ⟨A, i, none⟩ = some (.int .i64 (ofs i : Nat)) ∧ w.cell? ⟨B, i, none⟩ = some (.int .u8 (byt v i : Nat)) := by
  refine ⟨(cell_of_row w A i _ _ _ h.a).trans ?_, (cell_of_row w B i _ _ _ h.b).trans ?_⟩
  · have : i = 0 ∨ i = 1 ∨ i = 2 ∨ i = 3 ∨ i = 4 ∨ i = 5 := by omega
    rcases this with rfl | rfl | rfl | rfl | rfl | rfl <;> rfl
  · have : i = 0 ∨ i = 1 ∨ i = 2 ∨ i = 3 ∨ i = 4 ∨ i = 5 := by omega
    rcases this with rfl | rfl | rfl | rfl | rfl | rfl <;> rfl
theorem S6.new (w : World) (v : Nat) : S6 ((w.alloc (.cells A6 3)).alloc (.cells (B6 v) 5)) w.heap.size (w.heap.size + 1) v := by
  have e : (w.alloc (.cells A6 3)).heap.size = w.heap.size + 1 := by
    show (w.heap.push _).size = _
    rw [Array.size_push]
  refine ⟨(heap_alloc_old _ _ (by omega)).trans (heap_alloc_new w _), ?_⟩
  have h := heap_alloc_new (w.alloc (.cells A6 3)) (.cells (B6 v) 5)
  rwa [e] at h
end Go.Proofs.YtndjepeolamedaaGreat
namespace Go.Proofs.YtndjepeolamedaaGreat
set_option maxRecDepth 100000
open Go.RowKit
def RV (m mx v : Nat) (dead : Bool) : Array Value := #[.pointer (some ⟨m, 0, none⟩), .int .u32 (mx : Nat), .int .u32 (v : Nat), .bool dead]
structure RX (w : World) (d m mx v : Nat) (dead : Bool) : Prop where
  at_ : w.heap[d]? = some (.cells (RV m mx v dead) 187 (0, 0))
section
variable {w w' : World} {d m mx v : Nat} {dead : Bool}
theorem RX.lt (h : RX w d m mx v dead) : d < w.heap.size := (Array.getElem?_eq_some_iff.1 h.at_).1
theorem RX.off {l : List Nat} (h : RX w d m mx v dead) (q : Off l w w') (hd : d ∉ l) : RX w' d m mx v dead := ⟨(q.block d h.lt hd).trans h.at_⟩
theorem RX.cells (h : RX w d m mx v dead) : w.cell? ⟨d, 0, none⟩ = some (.pointer (some ⟨m, 0, none⟩)) ∧ w.cell? ⟨d, 1, none⟩ = some (.int .u32 (mx : Nat)) ∧ w.cell? ⟨d, 2, none⟩ = some (.int .u32 (v : Nat)) ∧ w.cell? ⟨d, 3, none⟩ = some (.bool dead) ∧ ∀ j, w.frozen? ⟨d, j, none⟩ = false :=
  ⟨cell_of_row w d 0 _ _ _ h.at_, cell_of_row w d 1 _ _ _ h.at_, cell_of_row w d 2 _ _ _ h.at_, cell_of_row w d 3 _ _ _ h.at_, fun j => frozen_of_row w d j _ _ h.at_⟩
theorem RX.drewN (h : RX w d m mx v dead) (k : Nat) : RX (w.drewN k) d m mx v dead := h.off (Off.drewN [] _ k) (by simp)
end
end Go.Proofs.YtndjepeolamedaaGreat
namespace Go.Proofs.YtndjepeolamedaaGreat
set_option maxRecDepth 100000
open Go.RowKit
end Go.Proofs.YtndjepeolamedaaGreat
namespace Go.Proofs.YtndjepeolamedaaGreat
set_option maxRecDepth 100000
open Go.RowKit
structure Nx where
  v : Nat
  e : Int
  s : Ms
  z : Nat → Nat
  c : Bool
def nx (mx n : Nat) (z : Nat → Nat) (cut : Bool) (s : Ms) : Nx :=
  if cut = true ∨ s.off = true then ⟨0, 70, s, z, cut⟩ else if mx ≤ vz z then ⟨0, 80, s, z, cut⟩ else
  if sqE n (six (tg z) (vz z + 1)) s = 0 then ⟨vz z + 1, 0, sqS n (six (tg z) (vz z + 1)) s, (sqS n (six (tg z) (vz z + 1)) s).bs, false⟩ else ⟨0, 70, sqS n (six (tg z) (vz z + 1)) s, z, true⟩
end Go.Proofs.YtndjepeolamedaaGreat
