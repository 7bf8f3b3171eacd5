/- A diag in memory: its block, its meters, its map; New, placeOf, meterOf, Count, Total. -/
import Derived.Test.YtmleiemlfogffaaGreatMeter
import Derived.Test.YtmleiemlfogffaaGreatDp
import Derived.Maps.OwnSet
import Derived.Maps.OwnOps
namespace Go.Proofs.YtmleiemlfogffaaGreat
set_option maxRecDepth 100000
open Go.RowKit Go.Maps

/-- How an element of the map reads: the block of its meter. -/
def rdP : Value → Option (DataW Unit × List MemPlace)
  | .pointer none => some (.lit (.int .i64 (-1)), [])
  | .pointer (some ⟨k, 0, none⟩) => some (.lit (.int .i64 k), [])
  | _ => none
def dat : Option Nat → DataW Unit
  | none => .lit (.int .i64 (-1))
  | some k => .lit (.int .i64 k)
def ptr : Option Nat → Value
  | none => .pointer none
  | some k => .pointer (some ⟨k, 0, none⟩)
theorem rdP_ptr (o : Option Nat) : rdP (ptr o) = some (dat o, []) := by cases o <;> rfl
theorem dat_inj {o o' : Option Nat} (h : dat o = dat o') : o = o' := by
  cases o <;> cases o' <;> simp [dat] at h ⊢
  · omega
theorem rdP_inv {v : Value} {o : Option Nat} {ps : List MemPlace} (h : rdP v = some (dat o, ps)) : v = ptr o := by
  unfold rdP at h
  split at h
  · simp only [Option.some.injEq, Prod.mk.injEq] at h
    have := dat_inj (o := none) (o' := o) h.1
    subst this; rfl
  · rename_i k
    simp only [Option.some.injEq, Prod.mk.injEq] at h
    have := dat_inj (o := some k) (o' := o) h.1
    subst this; rfl
  · cases h

/-- The block of a diag: the meter of all, the map, and the last records, each in its place. -/
def DB (w : World) (b mA mb : Nat) (L : List R4) : Prop :=
  ∃ cur : Array Value, w.heap[b]? = some (.cells cur 143 (0, 0)) ∧ cur.size = 66 ∧ cur[0]? = some (.pointer (some ⟨mA, 0, none⟩)) ∧ cur[1]? = some (.map (some mb)) ∧
    ∀ i (h : i < L.length), L.length ≤ i + 16 → ∀ f, f < 4 → cur[2 + i % 16 * 4 + f]? = (rv L[i])[f]?
theorem cell_at {w : World} {b i : Nat} {cur : Array Value} {t : TypeId} {fr : Nat × Nat} {v : Value} (h : w.heap[b]? = some (.cells cur t fr)) (hv : cur[i]? = some v) : w.cell? ⟨b, i, none⟩ = some v := by
  simp [World.cell?, h, hv]
theorem DB.lt {w : World} {b mA mb : Nat} {L : List R4} (h : DB w b mA mb L) : b < w.heap.size := by
  obtain ⟨cur, h, _⟩ := h; exact (Array.getElem?_eq_some_iff.1 h).1
theorem DB.c0 {w : World} {b mA mb : Nat} {L : List R4} (h : DB w b mA mb L) : w.cell? ⟨b, 0, none⟩ = some (.pointer (some ⟨mA, 0, none⟩)) := by
  obtain ⟨cur, h, _, h0, _⟩ := h; exact cell_at h h0
theorem DB.c1 {w : World} {b mA mb : Nat} {L : List R4} (h : DB w b mA mb L) : w.cell? ⟨b, 1, none⟩ = some (.map (some mb)) := by
  obtain ⟨cur, h, _, _, h1, _⟩ := h; exact cell_at h h1
theorem DB.fz {w : World} {b mA mb : Nat} {L : List R4} (h : DB w b mA mb L) (j : Nat) : w.frozen? ⟨b, j, none⟩ = false := by
  obtain ⟨cur, h, _⟩ := h; exact frozen_of_row w b j _ _ h
theorem DB.off {l : List Nat} {w w' : World} {b mA mb : Nat} {L : List R4} (h : DB w b mA mb L) (k : Off l w w') (hb : b ∉ l) : DB w' b mA mb L := by
  have hl := h.lt
  obtain ⟨cur, h, r⟩ := h; exact ⟨cur, (k.block b hl hb).trans h, r⟩
/-- The cells of a place: there is something. -/
theorem DB.some {w : World} {b mA mb : Nat} {L : List R4} (h : DB w b mA mb L) (j : Nat) (hj : j < 66) : ∃ v, w.cell? ⟨b, j, none⟩ = .some v := by
  obtain ⟨cur, h, hs, _⟩ := h
  exact ⟨cur[j], cell_at h (Array.getElem?_eq_getElem (by omega))⟩
/-- The record that is kept. -/
theorem DB.rec {w : World} {b mA mb : Nat} {L : List R4} (h : DB w b mA mb L) (i : Nat) (hi : i < L.length) (h16 : L.length ≤ i + 16) :
    w.cell? ⟨b, 2 + i % 16 * 4, none⟩ = .some (.int .i64 L[i].1) ∧ w.cell? ⟨b, 2 + i % 16 * 4 + 1, none⟩ = .some (.int .i64 L[i].2.1) ∧ w.cell? ⟨b, 2 + i % 16 * 4 + 2, none⟩ = .some (.int .u32 L[i].2.2.1) ∧ w.cell? ⟨b, 2 + i % 16 * 4 + 3, none⟩ = .some (.int .u32 L[i].2.2.2) := by
  obtain ⟨cur, h, _, _, _, hr⟩ := h
  have hr := hr i hi h16
  exact ⟨cell_at h (hr 0 (by omega)), cell_at h (hr 1 (by omega)), cell_at h (hr 2 (by omega)), cell_at h (hr 3 (by omega))⟩
/-- One more. -/
theorem DB.put {w : World} {b mA mb : Nat} {L : List R4} (h : DB w b mA mb L) (x : R4) :
    DB ((((w.setCell ⟨b, 2 + L.length % 16 * 4, none⟩ (.int .i64 x.1)).setCell ⟨b, 2 + L.length % 16 * 4 + 1, none⟩ (.int .i64 x.2.1)).setCell ⟨b, 2 + L.length % 16 * 4 + 2, none⟩ (.int .u32 x.2.2.1)).setCell ⟨b, 2 + L.length % 16 * 4 + 3, none⟩ (.int .u32 x.2.2.2)) b mA mb (L ++ [x]) := by
  obtain ⟨cur, h, hs, h0, h1, hr⟩ := h
  refine ⟨_, heap_setCell_same _ _ _ _ _ _ (heap_setCell_same _ _ _ _ _ _ (heap_setCell_same _ _ _ _ _ _ (heap_setCell_same _ _ _ _ _ _ h))), ?_, ?_, ?_, ?_⟩
  · simp [hs]
  · simp only [Array.getElem?_setIfInBounds]
    rw [if_neg (by omega), if_neg (by omega), if_neg (by omega), if_neg (by omega)]; exact h0
  · simp only [Array.getElem?_setIfInBounds]
    rw [if_neg (by omega), if_neg (by omega), if_neg (by omega), if_neg (by omega)]; exact h1
  · intro i hi h16 f hf
    simp only [List.length_append, List.length_cons, List.length_nil] at hi h16
    simp only [Array.getElem?_setIfInBounds, Array.size_setIfInBounds]
    by_cases hl : i < L.length
    · rw [List.getElem_append_left hl, if_neg (by omega), if_neg (by omega), if_neg (by omega), if_neg (by omega)]
      exact hr i hl (by omega) f hf
    · have e : i = L.length := by omega
      subst e
      have hx : (L ++ [x])[L.length]'(by simp) = x := by simp
      rw [hx]
      have c : f = 0 ∨ f = 1 ∨ f = 2 ∨ f = 3 := by omega
      rcases c with rfl | rfl | rfl | rfl
      · rw [if_neg (by omega), if_neg (by omega), if_neg (by omega), if_pos (by omega), if_pos (by omega)]; rfl
      · rw [if_neg (by omega), if_neg (by omega), if_pos (by omega), if_pos (by omega)]; rfl
      · rw [if_neg (by omega), if_pos (by omega), if_pos (by omega)]; rfl
      · rw [if_pos (by omega), if_pos (by omega)]; rfl

/-- All that a diag holds: its blocks are among U. -/
structure DH (w : World) (b : Nat) (U : List Nat) (L : List R4) (mA mb nn : Nat) (D : DataW Unit) (mt : Int → Option Nat) : Prop where
  blk : DB w b mA mb L
  all : Met w mA (L.length : Nat) none 0 0 none
  map : w.ownsMap Tryz.prog 29 rdP mb nn D
  nle : nn ≤ L.length
  at_ : ∀ c, (Lit.int .i64 c).wf = true → D.atKey (.int .i64 c) (dat none) = dat (mt c)
  has_ : ∀ c, has D (.int .i64 c) = decide (0 < cnt L c)
  no : ∀ c, mt c = none → cnt L c = 0
  yes : ∀ c k, mt c = some k → Met w k (cnt L c : Nat) none 0 0 none ∧ 0 < cnt L c ∧ k ∈ U ∧ k ≠ b ∧ k ≠ mA ∧ k ≠ mb
  one : ∀ c c' k, mt c = some k → mt c' = some k → c = c'
  bU : b ∈ U
  aU : mA ∈ U
  mU : mb ∈ U
  ba : b ≠ mA
  bm : b ≠ mb
  am : mA ≠ mb
  ult : ∀ k, k ∈ U → k < w.heap.size
  nmb : Nmb L
def DG (w : World) (b : Nat) (U : List Nat) (L : List R4) : Prop := ∃ mA mb nn D mt, DH w b U L mA mb nn D mt

theorem ownsMap_off {l : List Nat} {w w' : World} {P : Program} {k : TypeId} {R : Value → Option (DataW Unit × List MemPlace)} {b n : Nat} {D : DataW Unit} (h : w.ownsMap P k R b n D) (ho : Off l w w') (hb : b ∉ l) : w'.ownsMap P k R b n D := by
  have hlt := h.lt
  obtain ⟨es, clock, hb', F, hs, hD⟩ := h
  exact ⟨es, clock, (ho.block b hlt hb).trans hb', F, hs, hD⟩
theorem DH.off {l : List Nat} {w w' : World} {b : Nat} {U : List Nat} {L : List R4} {mA mb nn : Nat} {D : DataW Unit} {mt : Int → Option Nat} (h : DH w b U L mA mb nn D mt) (ho : Off l w w') (hl : ∀ k, k ∈ U → k ∉ l) : DH w' b U L mA mb nn D mt where
  blk := h.blk.off ho (hl _ h.bU)
  all := h.all.off ho (hl _ h.aU)
  map := ownsMap_off h.map ho (hl _ h.mU)
  nle := h.nle
  at_ := h.at_
  has_ := h.has_
  no := h.no
  yes := fun c k hk => by obtain ⟨h1, h2, h3, h4⟩ := h.yes c k hk; exact ⟨h1.off ho (hl _ h3), h2, h3, h4⟩
  one := h.one
  bU := h.bU
  aU := h.aU
  mU := h.mU
  ba := h.ba
  bm := h.bm
  am := h.am
  ult := fun k hk => Nat.lt_of_lt_of_le (h.ult k hk) ho.size
  nmb := h.nmb
theorem DG.off {l : List Nat} {w w' : World} {b : Nat} {U : List Nat} {L : List R4} (h : DG w b U L) (ho : Off l w w') (hl : ∀ k, k ∈ U → k ∉ l) : DG w' b U L := by
  obtain ⟨mA, mb, nn, D, mt, h⟩ := h; exact ⟨mA, mb, nn, D, mt, h.off ho hl⟩
theorem DG.below {w w' : World} {b : Nat} {U : List Nat} {L : List R4} (h : DG w b U L) (ho : Below w.heap.size w w') : DG w' b U L := h.off (l := []) (Off.of_below ho) (fun _ _ => by simp)
theorem zero_ptr (w : World) : (zeroValue 136).run Tryz.prog w = .ok (.pointer none) w := by kernel_rfl
theorem key_i64 : Keyed Tryz.prog 29 := int_keyed Tryz.underlying29
theorem DH.look {w : World} {b : Nat} {U : List Nat} {L : List R4} {mA mb nn : Nat} {D : DataW Unit} {mt : Int → Option Nat} (h : DH w b U L mA mb nn D mt) (c : Int) (hc : (Lit.int .i64 c).wf = true) :
    (Instr.lookup 138 (.map (some mb)) (.int .i64 c) false).run Tryz.prog w = .ok (ptr (mt c)) w := by
  obtain ⟨v, ps, hrun, hv⟩ := h.map.lookup key_i64 Tryz.underlying138 (zero_ptr w) (zd := dat none) (zp := []) (rdP_ptr none) (keyOf_int_mk Tryz.underlying29 hc)
  rw [h.at_ c hc] at hv
  rw [hrun, rdP_inv hv]

theorem placeOf_any (n p : Nat) (w : World) (hp : p = n % 16) (hn : n < 1000000) : Calls Tryz.prog 99 #[.int .i64 ((n + 1 : Nat) : Int)] w fun e w' => e = .returned (.int .i64 (p : Int)) ∧ w' = w := by
  have h1 : IntKind.i64.wrap (((n + 1 : Nat) : Int) - 1) = (n : Int) := by rw [IntKind.wrap_i64]; omega
  go_enter Tryz.func99, Tryz.ntmps99
  go_wp2
  go_ret
  refine ⟨?_, rfl⟩
  show Ending.returned (Value.int IntKind.i64 ((n : Int) % 16)) = _
  rw [show ((n : Int) % 16) = (p : Int) from by omega]
theorem dtotal_any (b : Nat) (U : List Nat) (L : List R4) (w : World) (h : DG w b U L) (hn : L.length < 1000000) : Calls Tryz.prog 60 #[.pointer (some ⟨b, 0, none⟩)] w fun e w' => e = .returned (.int .i64 (L.length : Nat)) ∧ w' = w := by
  obtain ⟨mA, mb, nn, D, mt, h⟩ := h
  have h0 := h.blk.c0
  have ht := total_any (L.length : Nat) mA none none 0 0 w h.all
  have h1 : IntKind.i64.wrap ((L.length : Nat) : Int) = (L.length : Int) := by rw [IntKind.wrap_i64]; omega
  go_enter Tryz.func60, Tryz.ntmps60
  go_wp2_with (go_at_call 100; refine ht.mono ?_; rintro e w' ⟨rfl, rfl⟩)
  go_ret
  exact ⟨rfl, rfl⟩
theorem dtotal_nil (w : World) : Calls Tryz.prog 60 #[.pointer none] w fun e w' => e = .returned (.int .i64 0) ∧ w' = w := by
  go_enter Tryz.func60, Tryz.ntmps60
  go_wp2_with fail
  go_ret
  exact ⟨rfl, rfl⟩
