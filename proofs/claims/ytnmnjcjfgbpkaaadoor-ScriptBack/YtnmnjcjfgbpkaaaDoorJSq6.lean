/- Layer 20: the program's lines, one by one: an iterator. (gensq6.py) -/
import Derived.Test.YtnmnjcjfgbpkaaaDoorJSq0
import Derived.RangeFuncNested
import Derived.RangeFuncBound
import Derived.RangeFuncCalls
import Derived.RangeFuncLeaves
import Derived.Shelf.Abstract
import Derived.Shelf.RegionOpen
import Derived.WalkKit
import Derived.OwnWalkIn
import Derived.TacticsInMore
import Derived.LoopNIn
import Derived.LoopIn
import Derived.WalkSmall
namespace Go.Proofs.YtnmnjcjfgbpkaaaDoor
set_option maxRecDepth 100000
open Go.RowKit Go.Maps Go.Shelf
attribute [local go_sem] Oper.semAt_some
set_option maxRecDepth 100000
set_option linter.unusedVariables false
/-- Lines with their numbers from k on. -/
def numd (k : Nat) : List (List UInt8) → List (Nat × List UInt8)
  | [] => []
  | x :: r => (k, x) :: numd (k + 1) r
theorem numd_len : ∀ (k : Nat) (ls : List (List UInt8)), (numd k ls).length = ls.length
  | _, [] => rfl
  | k, x :: r => by simp [numd, numd_len (k + 1) r]
/-- A line with its number, as the loop's body is handed it. -/
abbrev LnT := { x : Nat × List UInt8 // x.1 ≤ 1000000 ∧ x.2.length ≤ 1000000 }
/-- The iterator's state. -/
def LnI (l : List UInt8) (pre : List LnT) (r : List UInt8) (more : Bool) (k : Nat) : Prop := r.length ≤ l.length ∧ k = pre.length + 1 ∧ (if more = true then pre.map (·.1) ++ numd k (lnOf r) = numd 1 (lnOf l) else pre.map (·.1) = numd 1 (lnOf l))
theorem cut_nl (l : List UInt8) (mx : Int) (w : World) (hl : l.length ≤ 1000000) (hm : w.cell? ⟨1, 0, none⟩ = some (.int .i64 mx)) : Calls Tryd.prog 44 #[.string (tx l), .string (ByteArray.mk #[10])] w fun r w' => r = .returned (.tuple #[.string (tx (tw 10 l)), .string (tx (if (tw 10 l).length < l.length then l.drop ((tw 10 l).length + 1) else [])), .bool (decide ((tw 10 l).length < l.length))]) ∧ Hid (∃ n, w' = w.drewN n) := by
  have hc := Tryd.strings_Cut (tx l) (ByteArray.mk #[10]) mx w (by rw [tx_size]; omega) hm
  rw [show (tx l).data.toList = l by simp [tx], show (ByteArray.mk #[10]).data.toList = [10] from rfl, cut_tw, (cut_rest l).1, (cut_rest l).2] at hc
  refine hc.mono ?_
  rintro r w' ⟨rfl, q⟩
  exact ⟨rfl, q⟩
theorem LnI.step {l r : List UInt8} {pre : List LnT} {k : Nat} (h : LnI l pre r true k) (x : LnT) (hx : x.1 = (k, tw 10 r)) : LnI l (pre ++ [x]) (if (tw 10 r).length < r.length then r.drop ((tw 10 r).length + 1) else []) (decide ((tw 10 r).length < r.length)) (k + 1) := by
  obtain ⟨h1, h2, h3⟩ := h
  rw [if_pos rfl, lnOf_eq r, numd] at h3
  refine ⟨?_, by simp [h2], ?_⟩
  · split
    · simp; omega
    · simp
  · rw [List.map_append, List.map_cons, List.map_nil, hx, List.append_assoc, List.singleton_append]
    by_cases c : (tw 10 r).length < r.length
    · rw [if_pos c] at h3
      rw [if_pos (decide_eq_true c), if_pos c]
      simpa using h3
    · rw [if_neg c] at h3
      rw [if_neg (by simp [c])]
      simpa [numd] using h3
theorem LnI.lt {l r : List UInt8} {pre : List LnT} {k : Nat} (h : LnI l pre r true k) : pre.length < (lnOf l).length := by
  obtain ⟨h1, h2, h3⟩ := h
  rw [if_pos rfl, lnOf_eq r, numd] at h3
  have := congrArg List.length h3
  rw [numd_len] at this
  simp at this
  omega
theorem LnI.pre_ {l r : List UInt8} {pre : List LnT} {k : Nat} (h : LnI l pre r true k) (x : LnT) (hx : x.1 = (k, tw 10 r)) : ∃ t, (pre ++ [x]).map (·.1) ++ t = numd 1 (lnOf l) := by
  obtain ⟨h1, h2, h3⟩ := h
  rw [if_pos rfl, lnOf_eq r, numd] at h3
  rw [List.map_append, List.map_cons, List.map_nil, hx]
  exact ⟨_, by rw [List.append_assoc, List.singleton_append]; exact h3⟩
set_option maxHeartbeats 4000000 in
theorem lines_stops (n : Nat) (hn : 1 ≤ n) (Bs n₀ : Nat) (l : List UInt8) (hl : l.length ≤ 262144) (w : World) (hBs : Bs < w.heap.size) (hn₀ : n₀ ≤ w.heap.size) (mx : Int) (hG : 1 < n₀) (hm : w.cell? ⟨1, 0, none⟩ = some (.int .i64 mx)) (hc : w.cell? ⟨Bs, 0, none⟩ = some (.string (tx l))) :
    SeqStopsK Fence.wide n Tryd.prog 43 #[.pointer (some ⟨Bs, 0, none⟩)] (fun x : LnT => #[Value.int .i64 ((x.1.1 : Nat) : Int), Value.string (tx x.1.2)]) (Below n₀) (fun ys => ys.map (·.1) = numd 1 (lnOf l)) (fun pre => ∃ t, pre.map (·.1) ++ t = numd 1 (lnOf l)) (lnOf l).length w := fun lp J Jx W hW hJ _ hY h0 => by
  have hcW := (hW.cell (p := ⟨Bs, 0, none⟩) hBs).trans hc
  have hmW := (hW.cell (p := ⟨1, 0, none⟩) (by show 1 < w.heap.size; omega)).trans hm
  have hsz := (lnOf_size l).2
  have hI0 : LnI l [] l true 1 := ⟨Nat.le_refl _, rfl, rfl⟩
  have HY : Hid (_) := hY
  have HJ : Hid (_) := hJ
  have HG : Hid (1 < n₀) := hG
  obtain ⟨X, hX⟩ : ∃ y, tx l = y := ⟨_, rfl⟩
  rw [hX] at hcW
  have HX : Hid (tx l = X) := hX
  clear hX hY hJ hc hm hG
  refine callsIn_of_wp Tryd.func43 rfl trivial ?_ rfl
  simp only [Tryd.ntmps43, List.size_toArray, List.length_cons, List.length_nil, Nat.reduceAdd, Nat.reduceSub, Array.replicate_succ, Array.replicate_zero, List.push_toArray, List.append_toArray, List.nil_append, List.cons_append]
  gi_wp2
  gi_loopw [3, 4, 5, 6, 8, 9, 10, 11, 12, 13, 14, 15, 16, 17, 18, 19, 20, 21] (fun r m k _ _ _ _ _ _ _ _ _ _ _ _ _ _ _ wr => ∃ (rs : List UInt8) (mo : Bool) (kk : Nat) (pre : List LnT), r = .string (tx rs) ∧ m = .bool mo ∧ k = .int .i64 ((kk : Nat) : Int) ∧ Hid (LnI l pre rs mo kk ∧ J pre wr ∧ Below n₀ W wr)) (fun _ m k _ _ _ _ _ _ _ _ _ _ _ _ _ _ _ _ => (lnOf l).length + 2 - natV k)
  case atStart => exact ⟨l, true, 1, [], by rw [HX.out], rfl, rfl, hI0, h0, Below.refl _ _⟩
  case round =>
    obtain ⟨rs, mo, kk, pre, rfl, rfl, rfl, HI⟩ := hrel
    cases mo with
    | false =>
      have e := HI.out.1.2.2
      rw [if_neg (by decide)] at e
      have HE : Hid (_) := And.intro e HI.out.2.1
      clear e
      gi_wp2
      go_end0
      exact ⟨⟨_, rfl⟩, .inl ⟨pre, HE.out⟩⟩
    | true =>
      have hlt := LnI.lt HI.out.1
      have hkk := HI.out.1.2.1
      have hrl := HI.out.1.1
      have htw := tw_len 10 rs
      have hmr : wr.cell? ⟨1, 0, none⟩ = some (.int .i64 mx) := (HI.out.2.2.cell (p := ⟨1, 0, none⟩) HG.out).trans hmW
      have hC := cut_nl rs mx wr (by omega) hmr
      obtain ⟨x, hx⟩ : ∃ x : LnT, x.1 = (kk, tw 10 rs) := ⟨⟨(kk, tw 10 rs), (by show kk ≤ 1000000; omega), (by show (tw 10 rs).length ≤ 1000000; omega)⟩, rfl⟩
      have hst := LnI.step HI.out.1 x hx
      have hpr := LnI.pre_ HI.out.1 x hx
      have hxe : (#[Value.int .i64 ((x.1.1 : Nat) : Int), Value.string (tx x.1.2)] : Array Value) = #[.int .i64 ((kk : Nat) : Int), .string (tx (tw 10 rs))] := by rw [hx]
      have hYd : ∀ m, YieldAt Fence.wide (n - 1) Tryd.prog lp #[.int .i64 ((kk : Nat) : Int), .string (tx (tw 10 rs))] (wr.drewN m) fun e W' => (e = .returned (.bool true) ∧ J (pre ++ [x]) W' ∧ Below n₀ (wr.drewN m) W') ∨ (e = .returned (.bool false) ∧ Jx (pre ++ [x]) W') := fun m => by
        rw [← hxe]
        exact HY.out pre x (wr.drewN m) (HJ.out pre wr (wr.drewN m) none HI.out.2.1 ⟨rfl, rfl, rfl, Nat.le_refl _, fun _ _ _ => rfl⟩ (fun r e => by cases e)) hlt
      have hadd : IntKind.i64.wrap (((kk : Nat) : Int) + 1) = ((kk + 1 : Nat) : Int) := by rw [IntKind.wrap_i64]; omega
      have HM : Hid (_) := And.intro hlt hkk
      obtain ⟨R', hR'⟩ : ∃ y, (if (tw 10 rs).length < rs.length then rs.drop ((tw 10 rs).length + 1) else []) = y := ⟨_, rfl⟩
      obtain ⟨mo', hmo'⟩ : ∃ y, decide ((tw 10 rs).length < rs.length) = y := ⟨_, rfl⟩
      obtain ⟨T, hT⟩ : ∃ y, tx (tw 10 rs) = y := ⟨_, rfl⟩
      rw [hR', hmo', hT] at hC
      rw [hR', hmo'] at hst
      rw [hT] at hYd
      have HS : Hid (_) := And.intro hst hpr
      have HYd : Hid (_) := hYd
      have HB : Hid (_) := HI.out.2.2
      clear hst hpr hx hxe hYd hlt hkk hrl htw hR' hmo' hT HI hmr
      obtain ⟨RX, hRX⟩ : ∃ y, tx rs = y := ⟨_, rfl⟩
      rw [hRX] at hC
      try rw [hRX]
      clear hRX
      gi_wp2_with (refine ⟨trivial, ?_⟩; gi_at_call 44; refine (callsIn_wide.2 hC).mono ?_; rintro r w5 ⟨rfl, H5⟩; obtain ⟨m5, rfl⟩ := H5.out; obtain ⟨fn, tmps, assign, body, hy, hR⟩ := HYd.out m5; clear H5 hC)
      refine hR.mono ?_
      rintro e W3 (⟨rfl, hJ3, hk3⟩ | ⟨rfl, hJx3⟩)
      · have HN : Hid (_) := And.intro HS.out.1 (And.intro hJ3 ((Below.trans HB.out (below_drewN (Below.refl _ wr) m5)).trans hk3))
        clear hR hy hJ3 hk3
        gi_wp2
        go_roundw
        case rel => exact ⟨R', mo', kk + 1, pre ++ [x], rfl, rfl, by first | rfl | go_num, HN⟩
        case measure =>
          have := HM.out
          simp [natV]
          omega
      · have HN : Hid (_) := And.intro HS.out.2 hJx3
        clear hR hy hJx3
        gi_wp2
        refine bodyPost_ret (results_none rfl _ _ _) rfl ?_
        exact ⟨⟨_, rfl⟩, .inr ⟨_, HN.out⟩⟩
end Go.Proofs.YtnmnjcjfgbpkaaaDoor

