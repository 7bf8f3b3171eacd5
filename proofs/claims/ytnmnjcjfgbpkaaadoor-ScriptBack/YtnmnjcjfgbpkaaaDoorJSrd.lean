/- Layer 20: reading words: FormatUint of small numbers, numberOf, the reader. (gensrd.py) -/
import Derived.Test.YtnmnjcjfgbpkaaaDoorJSj
import Derived.Lib.SmallJoins
namespace Go.Proofs.YtnmnjcjfgbpkaaaDoor
set_option maxRecDepth 100000
open Go.RowKit Go.Maps
set_option maxRecDepth 100000
set_option linter.unusedVariables false
theorem pfmt_small (n : Nat) (h : n < 100) (w : World) : Calls Tryd.prog 83 #[.int .u64 ((n : Nat) : Int), .int .i64 10] w fun r w' => r = .returned (.string (tx (Lib.decDigits n))) ∧ w' = w := by
  have h1 : Calls Tryd.prog 97 #[.int .u64 ((n : Nat) : Int), .int .i64 10] w fun r w' => r = .returned (.string (tx (Lib.decDigits n))) ∧ w' = w := by
    have hS := Tryd.internal_strconv_small n h w
    have g : ((n : Nat) : Int) < 100 := by omega
    have q : IntKind.i64.wrap ((n : Nat) : Int) = ((n : Nat) : Int) := by rw [IntKind.wrap_i64]; omega
    go_enter Tryd.func97, Tryd.ntmps97
    go_wp2_with fail
    refine hS.mono ?_
    rintro r w' ⟨rfl, hw⟩
    rw [hw]
    clear hS hw
    go_wp2_with fail
    go_ret
    exact ⟨rfl, rfl⟩
  go_enter Tryd.func83, Tryd.ntmps83
  go_wp2_with fail
  refine h1.mono ?_
  rintro r w' ⟨rfl, hw⟩
  rw [hw]
  clear h1 hw
  go_wp2_with fail
  go_ret
  exact ⟨rfl, rfl⟩
/-- A short number's word. -/
theorem pnum_small (l : List UInt8) (u : Nat) (hu : u < 100) (hl : l.length ≤ 1000) (hp : Lib.parseUintB 32 l = .ok u) (hd : Lib.decDigits u = l) (w : World) : Calls Tryd.prog 70 #[.string (tx l)] w fun r w' => r = .returned (.tuple #[.int .u32 ((u : Nat) : Int), .bool true]) ∧ Below w.heap.size w w' := by
  have hP := Tryd.strconv_ParseUint_10_at32_ok (tx l) (by rw [tx_size]; omega) u (by simpa [tx] using hp) w
  have hF := pfmt_small u hu
  rw [hd] at hF
  have q : IntKind.u32.wrap ((u : Nat) : Int) = ((u : Nat) : Int) := by rw [IntKind.wrap_u32]; omega
  obtain ⟨X, hX⟩ : ∃ x, tx l = x := ⟨_, rfl⟩
  rw [hX] at hP hF ⊢
  clear hX hp hd
  go_enter Tryd.func70, Tryd.ntmps70
  go_wp2_with fail
  refine hP.mono ?_
  rintro r w' ⟨rfl, hw⟩
  have HB : Hid (Below w.heap.size w w') := by
    rcases hw with rfl | rfl
    · exact Below.refl _ _
    · exact Joins.below_bytesWorld _ _ _ _ (Nat.le_refl _)
  clear hw hP
  go_wp2_with fail
  refine (hF _).mono ?_
  rintro r w2 ⟨rfl, hw⟩
  rw [hw]
  clear hw hF
  go_wp2_with fail
  go_ret2
  exact ⟨rfl, HB.out⟩
/-- A side's word. -/
def sdI (l : List UInt8) : Int := if l = [104] then 1 else if l = [100] then 2 else 0
theorem tx_list (l : List UInt8) : (tx l).toList = l := by
  rw [ByteArray.toList_eq]
  simp [tx]
theorem tx_ne {a b : List UInt8} (h : a ≠ b) : (a == (tx b).toList) = false := by
  rw [tx_list]
  simpa using h
set_option maxHeartbeats 1000000 in
theorem psideOf (l : List UInt8) (w : World) : Calls Tryd.prog 73 #[.string (tx l)] w fun r w' => r = .returned (.tuple #[.int .i64 (sdI l), .bool (sdI l != 0)]) ∧ w' = w := by
  have hP1 := pside 1
  have hP2 := pside 2
  rw [if_pos rfl, show tx [104] = ByteArray.mk #[104] from rfl] at hP1
  rw [if_neg (by decide), show tx [100] = ByteArray.mk #[100] from rfl] at hP2
  have ix0 : ∀ wx, (Instr.index 149 (.agg #[.int .i64 1, .int .i64 2]) (.int .i64 0)).run Tryd.prog wx = .ok (.int .i64 1) wx := fun wx => by kernel_rfl
  have ix1 : ∀ wx, (Instr.index 149 (.agg #[.int .i64 1, .int .i64 2]) (.int .i64 1)).run Tryd.prog wx = .ok (.int .i64 2) wx := fun wx => by kernel_rfl
  obtain ⟨X, hX⟩ : ∃ x, tx l = x := ⟨_, rfl⟩
  rw [hX]
  have HX : Hid (_) := hX
  clear hX
  go_enter Tryd.func73, Tryd.ntmps73
  go_wp2_with fail
  go_loopw [5, 7, 8, 9, 10, 11, 12, 13, 14, 15] (fun _ c _ _ _ _ _ _ _ _ wr => ∃ i : Nat, i ≤ 2 ∧ c = .int .i64 ((i : Nat) : Int) ∧ Hid ((0 < i → l ≠ [104]) ∧ (1 < i → l ≠ [100])) ∧ wr = w) (fun _ c _ _ _ _ _ _ _ _ _ => 2 - natV c)
  case atStart => exact ⟨0, by omega, rfl, ⟨fun h => absurd h (by omega), fun h => absurd h (by omega)⟩, rfl⟩
  case round =>
    obtain ⟨i, hi, rfl, HI, rfl⟩ := hrel
    have h3 : i = 0 ∨ i = 1 ∨ i = 2 := by omega
    rcases h3 with rfl | rfl | rfl
    · by_cases hl : l = [104]
      · have e : X = ByteArray.mk #[104] := by rw [← HX.out, hl]; rfl
        have HV : Hid (sdI l = 1) := by show sdI l = 1; unfold sdI; rw [if_pos hl]
        rw [e]
        clear hl e
        go_wp2_with fail
        refine (hP1 _).mono ?_
        rintro r w' ⟨rfl, hw⟩
        rw [hw]
        clear hw
        go_wp2_with fail
        go_ret2
        exact ⟨by rw [HV.out]; rfl, rfl⟩
      · have e : ([104] == X.toList) = false := by rw [← HX.out]; exact tx_ne (fun h => hl h.symm)
        have HI' : Hid (l ≠ [104]) := hl
        clear hl
        go_wp2_with fail
        refine (hP1 _).mono ?_
        rintro r w' ⟨rfl, hw⟩
        rw [hw]
        clear hw
        go_wp2_with fail
        go_roundw
        case rel => exact ⟨1, by omega, rfl, ⟨fun _ => HI'.out, fun h => absurd h (by omega)⟩, trivial⟩
        case measure => simp [natV]
    · by_cases hl : l = [100]
      · have e : X = ByteArray.mk #[100] := by rw [← HX.out, hl]; rfl
        have HV : Hid (sdI l = 2) := by show sdI l = 2; unfold sdI; rw [if_neg (HI.out.1 (by omega)), if_pos hl]
        rw [e]
        clear hl e
        go_wp2_with fail
        refine (hP2 _).mono ?_
        rintro r w' ⟨rfl, hw⟩
        rw [hw]
        clear hw
        go_wp2_with fail
        go_ret2
        exact ⟨by rw [HV.out]; rfl, rfl⟩
      · have e : ([100] == X.toList) = false := by rw [← HX.out]; exact tx_ne (fun h => hl h.symm)
        have HI' : Hid (l ≠ [104] ∧ l ≠ [100]) := ⟨HI.out.1 (by omega), hl⟩
        clear hl
        go_wp2_with fail
        refine (hP2 _).mono ?_
        rintro r w' ⟨rfl, hw⟩
        rw [hw]
        clear hw
        go_wp2_with fail
        go_roundw
        case rel => exact ⟨2, by omega, rfl, ⟨fun _ => HI'.out.1, fun _ => HI'.out.2⟩, trivial⟩
        case measure => simp [natV]
    · have HV : Hid (sdI l = 0) := by show sdI l = 0; unfold sdI; rw [if_neg (HI.out.1 (by omega)), if_neg (HI.out.2 (by omega))]
      go_wp2_with fail
      go_ret2
      exact ⟨by rw [HV.out]; rfl, rfl⟩
/-- The kind of a word. -/
theorem kws_ne {i j : Nat} (h : i < j) (hj : j < 9) {a b : List UInt8} (ha : kws[i]? = some a) (hb : kws[j]? = some b) : a ≠ b := by
  have hall : ∀ j : Fin 9, ∀ i : Fin 9, i < j → kws[i.val]? ≠ kws[j.val]? := by decide
  intro e
  have := hall ⟨j, hj⟩ ⟨i, by omega⟩ h
  simp only at this
  rw [ha, hb, e] at this
  exact this rfl
set_option maxHeartbeats 1000000 in
theorem pkind (k : Nat) (h1 : 1 ≤ k ∧ k ≤ 8) (l : List UInt8) (hl : kws[k]? = some l) (w : World) (L : Lw w) : Calls Tryd.prog 39 #[.string (tx l)] w fun r w' => r = .returned (.tuple #[.int .i64 ((k : Nat) : Int), .bool true]) ∧ w' = w := by
  obtain ⟨X, hX⟩ : ∃ x, tx l = x := ⟨_, rfl⟩
  rw [hX]
  have HX : Hid (_) := hX
  have HL : Hid (_) := And.intro L hl
  clear hX L hl
  go_enter Tryd.func39, Tryd.ntmps39
  go_wp2_with fail
  go_loopw [4, 5, 6, 7, 8, 9, 10, 11, 12, 13, 14] (fun c _ _ _ _ _ _ _ _ _ _ wr => ∃ i : Nat, 1 ≤ i ∧ i ≤ k ∧ c = .int .i64 ((i : Nat) : Int) ∧ wr = w) (fun c _ _ _ _ _ _ _ _ _ _ _ => 9 - natV c)
  case atStart => exact ⟨1, by omega, h1.1, rfl, rfl⟩
  case round =>
    obtain ⟨i, hi, hik, rfl, rfl⟩ := hrel
    have hi9 : i < 9 := by omega
    obtain ⟨Kw, hKw⟩ : ∃ l, kws[i]? = some l := by
      have : i < kws.length := hi9
      exact ⟨_, List.getElem?_eq_getElem this⟩
    have g0 := HL.out.1.word i hKw
    have g1 : ((i : Nat) : Int) ≤ 8 := by omega
    have g2 : (0 : Int) ≤ ((i : Nat) : Int) := by omega
    have g3 : ((i : Nat) : Int) < 9 := by omega
    have hw1 : IntKind.i64.wrap (((i : Nat) : Int) + 1) = ((i + 1 : Nat) : Int) := by rw [IntKind.wrap_i64]; omega
    obtain ⟨KW, hKW⟩ : ∃ x, tx Kw = x := ⟨_, rfl⟩
    rw [hKW] at g0
    by_cases hk : i = k
    · have e : (KW.toList == X.toList) = true := by
        have : Kw = l := by
          have := hKw.symm.trans (hk ▸ HL.out.2)
          simpa using this
        rw [← hKW, ← HX.out, this]
        simp
      have Hk : Hid (_) := hk
      clear hk hKW hKw
      go_wp2_with fail
      go_ret2
      exact ⟨by rw [Hk.out]; rfl, rfl⟩
    · have e : (KW.toList == X.toList) = false := by
        have : Kw ≠ l := kws_ne (by omega) (by omega) hKw HL.out.2
        rw [← hKW, ← HX.out, tx_list, tx_list]
        simpa using this
      have Hk : Hid (i + 1 ≤ k) := by show i + 1 ≤ k; omega
      clear hk hKW hKw
      go_wp2_with fail
      go_roundw
      case rel => exact ⟨i + 1, by omega, Hk.out, by first | rfl | go_num, by first | trivial | rfl⟩
      case measure => simp [natV] <;> omega
/-- Where the rest begins behind a word. -/
def adv (o c : Nat) : Nat := if c = 0 then o else o + 1
/-- A reader at b. -/
def RB (w : World) (b : Nat) (v : Value) (x : Bool) : Prop := w.heap[b]? = some (.cells #[v, .bool x] 91 (0, 0))
theorem RB.below {w w' : World} {b : Nat} {v : Value} {x : Bool} (h : RB w b v x) (q : Below w.heap.size w w') : RB w' b v x := (q.block b (Array.getElem?_eq_some_iff.1 h).1).trans h
theorem RB.c {w : World} {b : Nat} {v : Value} {x : Bool} (h : RB w b v x) : w.cell? ⟨b, 0, none⟩ = some v ∧ w.cell? ⟨b, 1, none⟩ = some (.bool x) ∧ w.frozen? ⟨b, 0, none⟩ = false ∧ w.frozen? ⟨b, 1, none⟩ = false ∧ b < w.heap.size := by
  refine ⟨cell_of_row w b 0 _ _ _ h, cell_of_row w b 1 _ _ _ h, ?_, ?_, (Array.getElem?_eq_some_iff.1 h).1⟩
  · unfold RB at h; simp [World.frozen?, h]
  · unfold RB at h; simp [World.frozen?, h]
theorem RB.set0 {w : World} {b : Nat} {v : Value} {x : Bool} (h : RB w b v x) (v' : Value) : RB (w.setCell ⟨b, 0, none⟩ v') b v' x := by
  unfold RB at h ⊢
  rw [heap_setCell_same w b 0 _ _ v' h]
  rfl
theorem RB.set1 {w : World} {b : Nat} {v : Value} {x : Bool} (h : RB w b v x) (x' : Bool) : RB (w.setCell ⟨b, 1, none⟩ (.bool x')) b v x' := by
  unfold RB at h ⊢
  rw [heap_setCell_same w b 1 _ _ _ h]
  rfl
set_option maxHeartbeats 1000000 in
theorem pnext (b g o n c : Nat) (x : Bool) (X : ByteArray) (w : World) (h : RB w b (.slice (some ⟨g, o, none⟩) (n + 1) (c + 1)) x) (hw : w.cell? ⟨g, o, none⟩ = some (.string X)) (hc : n ≤ c) (hc2 : c ≤ 9223372036854775807) : Calls Tryd.prog 71 #[.pointer (some ⟨b, 0, none⟩)] w fun r w' => r = .returned (.string X) ∧ RB w' b (.slice (some ⟨g, adv o c, none⟩) n c) x ∧ Off [b] w w' := by
  obtain ⟨c0, c1, f0, f1, _⟩ := h.c
  have HR : Hid (RB w b (.slice (some ⟨g, o, none⟩) (n + 1) (c + 1)) x) := h
  clear h
  go_enter Tryd.func71, Tryd.ntmps71
  go_wp2_with fail
  · go_ret
    have ea : adv o c = o := by unfold adv; split <;> omega
    try rw [ea]
    exact ⟨rfl, HR.out.set0 _, Off.setCell _ _ _ _⟩
  · go_ret
    have ea : adv o c = o + 1 := by unfold adv; split <;> omega
    try rw [ea]
    exact ⟨rfl, HR.out.set0 _, Off.setCell _ _ _ _⟩
set_option maxHeartbeats 1000000 in
theorem pexpect (b : Nat) (v : Value) (x ok : Bool) (w : World) (h : RB w b v x) : Calls Tryd.prog 72 #[.pointer (some ⟨b, 0, none⟩), .bool ok] w fun r w' => r = .returned (.tuple #[]) ∧ RB w' b v (x || !ok) ∧ Off [b] w w' := by
  obtain ⟨c0, c1, f0, f1, _⟩ := h.c
  have HR : Hid (RB w b v x) := h
  clear h
  cases x <;> cases ok <;>
  · go_enter Tryd.func72, Tryd.ntmps72
    go_wp2_with fail
    go_end0
    exact ⟨rfl, HR.out.set1 _, Off.setCell _ _ _ _⟩
set_option maxHeartbeats 1000000 in
theorem pnumR (b g o n c : Nat) (x : Bool) (l : List UInt8) (u : Nat) (hu : u < 100) (hl : l.length ≤ 1000) (hp : Lib.parseUintB 32 l = .ok u) (hd : Lib.decDigits u = l) (w : World) (h : RB w b (.slice (some ⟨g, o, none⟩) (n + 1) (c + 1)) x) (hw : w.cell? ⟨g, o, none⟩ = some (.string (tx l))) (hc : n ≤ c) (hc2 : c ≤ 9223372036854775807) : Calls Tryd.prog 56 #[.pointer (some ⟨b, 0, none⟩)] w fun r w' => r = .returned (.int .u32 ((u : Nat) : Int)) ∧ RB w' b (.slice (some ⟨g, adv o c, none⟩) n c) x ∧ Off [b] w w' := by
  have h1 := pnext b g o n c x (tx l) w h hw hc hc2
  have h2 := pnum_small l u hu hl hp hd
  obtain ⟨X, hX⟩ : ∃ y, tx l = y := ⟨_, rfl⟩
  rw [hX] at h1 h2
  clear hX h hw hp hd
  go_enter Tryd.func56, Tryd.ntmps56
  go_wp2_with fail
  refine h1.mono ?_
  rintro r w1 ⟨rfl, r1, o1⟩
  have H1 : Hid (_) := And.intro r1 o1
  clear h1 r1 o1
  go_wp2_with fail
  refine (h2 w1).mono ?_
  rintro r w2 ⟨rfl, b2⟩
  have h3 := pexpect b _ x true w2 (RB.below H1.out.1 b2)
  have H2 : Hid (Off [b] w w2) := H1.out.2.trans (Off.of_below b2)
  clear h2 b2
  go_wp2_with fail
  refine h3.mono ?_
  rintro r w3 ⟨rfl, r3, o3⟩
  have H3 : Hid (_) := And.intro r3 (H2.out.trans o3)
  clear h3 r3 o3
  go_wp2_with fail
  go_ret
  exact ⟨rfl, by have := H3.out.1; simpa using this, H3.out.2⟩
set_option maxHeartbeats 1000000 in
theorem psideR (b g o n c : Nat) (x : Bool) (l : List UInt8) (w : World) (h : RB w b (.slice (some ⟨g, o, none⟩) (n + 1) (c + 1)) x) (hw : w.cell? ⟨g, o, none⟩ = some (.string (tx l))) (hc : n ≤ c) (hc2 : c ≤ 9223372036854775807) : Calls Tryd.prog 57 #[.pointer (some ⟨b, 0, none⟩)] w fun r w' => r = .returned (.int .i64 (sdI l)) ∧ RB w' b (.slice (some ⟨g, adv o c, none⟩) n c) (x || !(sdI l != 0)) ∧ Off [b] w w' := by
  have h1 := pnext b g o n c x (tx l) w h hw hc hc2
  have h2 := psideOf l
  obtain ⟨X, hX⟩ : ∃ y, tx l = y := ⟨_, rfl⟩
  obtain ⟨S, hS⟩ : ∃ y, sdI l = y := ⟨_, rfl⟩
  obtain ⟨T, hT⟩ : ∃ y, (S != 0) = y := ⟨_, rfl⟩
  rw [hX] at h1 h2
  rw [hS, hT] at h2 ⊢
  clear hX h hw hS hT
  go_enter Tryd.func57, Tryd.ntmps57
  go_wp2_with fail
  refine h1.mono ?_
  rintro r w1 ⟨rfl, r1, o1⟩
  have H1 : Hid (_) := And.intro r1 o1
  clear h1 r1 o1
  go_wp2_with fail
  refine (h2 w1).mono ?_
  rintro r w2 ⟨rfl, hw2⟩
  rw [hw2]
  have h3 := pexpect b _ x T w1 H1.out.1
  clear h2 hw2
  go_wp2_with fail
  refine h3.mono ?_
  rintro r w3 ⟨rfl, r3, o3⟩
  have H3 : Hid (_) := And.intro r3 (H1.out.2.trans o3)
  clear h3 r3 o3
  go_wp2_with fail
  go_ret
  exact ⟨rfl, H3.out.1, H3.out.2⟩
/-- What a kind's line has. -/
def m0 (k : Int) : Mv := ⟨k, 0, 0, 0, 0, 0, 0, false, 0, fun _ => 0⟩
theorem pplaces5 (w : World) : Calls Tryd.prog 40 #[.int .i64 5] w fun r w' => r = .returned (.tuple #[.int .i64 3, .int .i64 3]) ∧ Below w.heap.size w w' := by
  have h1 := plast (m0 5) ⟨by decide, by decide, by decide, by decide, by decide, by decide, by decide⟩ none 0 w
  rw [show (m0 5).ns = [0] from rfl] at h1
  have h2 := puses 5
  rw [show sided 5 = true from rfl] at h2
  go_enter Tryd.func40, Tryd.ntmps40
  go_wp2_with fail
  refine Calls.mono h1 ?_
  rintro r w1 ⟨a, c, rfl, q⟩
  have H1 : Hid (_) := q.out.2
  clear h1 q
  go_wp2_with fail
  refine (h2 _).mono ?_
  rintro r w2 ⟨rfl, hw2⟩
  rw [hw2]
  clear hw2 h2
  go_wp2_with fail
  go_ret2
  exact ⟨rfl, H1.out⟩
end Go.Proofs.YtnmnjcjfgbpkaaaDoor
namespace Go.Proofs.YtnmnjcjfgbpkaaaDoor
set_option maxRecDepth 100000
open Go.RowKit Go.Maps
set_option maxRecDepth 100000
/-- A block of cells. -/
def Bk (w : World) (p : Nat) (cs : Array Value) (t : TypeId) : Prop := w.heap[p]? = some (.cells cs t (0, 0))
theorem Bk.off {w w' : World} {p : Nat} {cs : Array Value} {t : TypeId} {l : List Nat} (h : Bk w p cs t) (o : Off l w w') (hp : p ∉ l) : Bk w' p cs t := (o.block p (Array.getElem?_eq_some_iff.1 h).1 hp).trans h
theorem Bk.lt {w : World} {p : Nat} {cs : Array Value} {t : TypeId} (h : Bk w p cs t) : p < w.heap.size := (Array.getElem?_eq_some_iff.1 h).1
theorem Bk.fz {w : World} {p : Nat} {cs : Array Value} {t : TypeId} (h : Bk w p cs t) (i : Nat) : w.frozen? ⟨p, i, none⟩ = false := by
  unfold Bk at h
  simp [World.frozen?, h]
theorem Bk.cell {w : World} {p : Nat} {cs : Array Value} {t : TypeId} (h : Bk w p cs t) (i : Nat) : w.cell? ⟨p, i, none⟩ = cs[i]? := cell_of_row w p i _ _ _ h
theorem Bk.set {w : World} {p : Nat} {cs : Array Value} {t : TypeId} (h : Bk w p cs t) (i : Nat) (v : Value) : Bk (w.setCell ⟨p, i, none⟩ v) p (cs.setIfInBounds i v) t := heap_setCell_same w p i cs t v h
theorem RB.off {w w' : World} {b : Nat} {v : Value} {x : Bool} {l : List Nat} (h : RB w b v x) (o : Off l w w') (hp : b ∉ l) : RB w' b v x := (o.block b (Array.getElem?_eq_some_iff.1 h).1 hp).trans h
theorem Bk.new (w : World) (cs : Array Value) (t : TypeId) : Bk (w.alloc (.cells cs t)) w.heap.size cs t := heap_alloc_new _ _
set_option maxHeartbeats 1000000 in
theorem preader (g : Nat) (w : World) : Calls Tryd.prog 41 #[.slice (some ⟨g, 0, none⟩) 4 4, .int .i64 3, .int .i64 3] w fun r w' => r = .returned (.tuple #[.agg #[.slice (some ⟨g, 1, none⟩) 3 3, .bool false], .int .i64 0]) ∧ Below w.heap.size w w' := by
  go_enter Tryd.func41, Tryd.ntmps41
  go_wp2_with fail
  refine bodyPost_ret (v := .tuple #[.agg #[.slice (some ⟨g, 1, none⟩) 3 3, .bool false], .int .i64 0]) (by simp [results, Tryd.results41, go_sem]) rfl ⟨rfl, belA (Below.refl _ _) _⟩
set_option maxHeartbeats 2000000 in
theorem pmove5 (b g : Nat) (w : World) (hR : RB w b (.slice (some ⟨g, 1, none⟩) 3 3) false) (hg : Bk w g #[.string (ByteArray.mk #[116, 105, 99, 107]), .string (ByteArray.mk #[48]), .string (ByteArray.mk #[104]), .string (ByteArray.mk #[53])] 9) (hne : g ≠ b) : Calls Tryd.prog 42 #[.pointer (some ⟨b, 0, none⟩), .int .i64 5] w fun r w' => r = .returned (.agg #[.int .i64 5, .int .i64 0, .int .i64 1, .int .i64 0, .int .i64 0, .int .u32 0, .int .i64 5, .bool false, .slice none 0 0]) ∧ (∃ v, RB w' b v false) ∧ Off [b] w w' := by
  obtain ⟨wa, hwa⟩ : ∃ x, w.alloc (.cells #[.int .i64 0, .int .i64 0, .int .i64 0, .int .i64 0, .int .i64 0, .int .u32 0, .int .i64 0, .bool false, .slice none 0 0] 45) = x := ⟨_, rfl⟩
  have ba : Below w.heap.size w wa := by rw [← hwa]; exact belA (Below.refl _ _) _
  have Ra := hR.below ba
  have ga := hg.off (Off.of_below (l := [b]) ba) (by simpa using hne)
  have za : Bk wa w.heap.size #[.int .i64 0, .int .i64 0, .int .i64 0, .int .i64 0, .int .i64 0, .int .u32 0, .int .i64 0, .bool false, .slice none 0 0] 45 := by rw [← hwa]; exact Bk.new _ _ _
  have nb : w.heap.size ≠ b := by have := hR.c.2.2.2.2; omega
  have h1 := pnumR b g 1 2 2 false [48] 0 (by decide) (by decide) (by decide) (by simp [Lib.decDigits]) wa Ra (ga.cell 1) (by decide) (by decide)
  have hU := puses 5
  rw [show sided 5 = true from rfl] at hU
  have HA : Hid (_) := And.intro ba (And.intro ga (And.intro za nb))
  have q1 : IntKind.i64.wrap (((0 : Nat) : Int)) = 0 := rfl
  have q5 : IntKind.i64.wrap (((5 : Nat) : Int)) = 5 := rfl
  clear ba ga za nb Ra hR hg
  go_enter Tryd.func42, Tryd.ntmps42
  go_wp2_with fail
  try rw [hwa]
  clear hwa
  refine h1.mono ?_
  rintro r w1 ⟨rfl, r1, o1⟩
  have H1 : Hid (_) := And.intro r1 o1
  clear h1 r1 o1
  go_wp2_with fail
  have n2 := Bk.new w1 #[.int .i64 5, .int .i64 0, .int .i64 0, .int .i64 0, .int .i64 0, .int .u32 0, .int .i64 0, .bool false, .slice none 0 0] 45
  have b2 := belA (Below.refl _ w1) (.cells #[.int .i64 5, .int .i64 0, .int .i64 0, .int .i64 0, .int .i64 0, .int .u32 0, .int .i64 0, .bool false, .slice none 0 0] 45)
  obtain ⟨w2, hw2⟩ : ∃ x, w1.alloc (.cells #[.int .i64 5, .int .i64 0, .int .i64 0, .int .i64 0, .int .i64 0, .int .u32 0, .int .i64 0, .bool false, .slice none 0 0] 45) = x := ⟨_, rfl⟩
  rw [hw2] at n2 b2 ⊢
  clear hw2
  have lp : w.heap.size < w1.heap.size ∧ b < w1.heap.size ∧ g < w1.heap.size := ⟨Nat.lt_of_lt_of_le HA.out.2.2.1.lt H1.out.2.size, H1.out.1.c.2.2.2.2, Nat.lt_of_lt_of_le HA.out.2.1.lt H1.out.2.size⟩
  obtain ⟨p, hp⟩ : ∃ x, w1.heap.size = x := ⟨_, rfl⟩
  rw [hp] at n2 lp ⊢
  have o2 : Off [b] wa w2 := H1.out.2.trans (Off.of_below b2)
  have h3 := psideR b g 2 1 1 false [104] w2 (H1.out.1.below b2) ((HA.out.2.1.off o2 (by simpa using hne)).cell 2) (by decide) (by decide)
  rw [show sdI [104] = 1 from rfl, show (false || !((1 : Int) != 0)) = false from rfl] at h3
  have H2 : Hid (_) := And.intro n2 (And.intro o2 lp)
  clear n2 o2 lp b2 hp H1
  refine (hU _).mono ?_
  rintro r w' ⟨rfl, hw⟩
  rw [hw]
  clear hw hU
  go_wp2_with fail
  refine h3.mono ?_
  rintro r w3 ⟨rfl, r3, o3⟩
  have n3 := H2.out.1.off o3 (by have := H2.out.2.2; simp; omega)
  have f3 := n3.fz
  have c3 := n3.cell 2
  have n4 := n3.set 2 (.int .i64 1)
  have c6 := n3.cell 6
  have lpb : p ≠ b := by have := H2.out.2.2; omega
  have lpg : g ≠ p := by have := H2.out.2.2; omega
  have R4 : RB (w3.setCell ⟨p, 2, none⟩ (.int .i64 1)) b (.slice (some ⟨g, adv 2 1, none⟩) 1 1) false := RB.off r3 (Off.setCell p 2 w3 _) (by simpa using lpb.symm)
  have g3 := ((HA.out.2.1.off H2.out.2.1 (by simpa using hne)).off o3 (by simpa using hne)).off (Off.setCell p 2 w3 (.int .i64 1)) (by simpa using lpg)
  have h5 := pnumR b g (adv 2 1) 0 0 false [53] 5 (by decide) (by decide) (by decide) (by simp [Lib.decDigits]) _ R4 (g3.cell 3) (by decide) (by decide)
  have z3 := ((HA.out.2.2.1.off H2.out.2.1 (by have := HA.out.2.2.2; simpa using this)).off o3 (by have := HA.out.2.2.2; simpa using this)).off (Off.setCell p 2 w3 (.int .i64 1)) (by have := H2.out.2.2; simp; omega)
  have O4 : Off [b, p, w.heap.size] w (w3.setCell ⟨p, 2, none⟩ (.int .i64 1)) := ((((Off.of_below HA.out.1).trans (H2.out.2.1.more (by simp))).trans (o3.more (by simp))).trans ((Off.setCell p 2 w3 (.int .i64 1)).more (by simp)))
  have H4 : Hid (_) := And.intro (n3.set 2 (.int .i64 1)) (And.intro z3 (And.intro O4 (And.intro lpb H2.out.2.2)))
  clear h3 R4 g3 z3 O4 lpb lpg r3 o3 H2 n3 n4
  go_wp2_with fail
  refine h5.mono ?_
  rintro r w5 ⟨rfl, r5, o5⟩
  have n5 := H4.out.1.off o5 (by have := H4.out.2.2.2.1; simpa using this)
  have z5 := H4.out.2.1.off o5 (by have := HA.out.2.2.2; simpa using this)
  have f5 := n5.fz
  have d6 : w5.cell? ⟨p, 6, none⟩ = some (.int .i64 0) := n5.cell 6
  have R6 : RB (w5.setCell ⟨p, 6, none⟩ (.int .i64 5)) b _ false := RB.off r5 (Off.setCell p 6 w5 _) (by have := H4.out.2.2.2.1; simpa using this.symm)
  have n6 := n5.set 6 (.int .i64 5)
  have z6 := z5.off (Off.setCell p 6 w5 (.int .i64 5)) (by have := H4.out.2.2.2.2; simp; omega)
  have O6 : Off [b, p, w.heap.size] w (w5.setCell ⟨p, 6, none⟩ (.int .i64 5)) := (H4.out.2.2.1.trans (o5.more (by simp))).trans ((Off.setCell p 6 w5 (.int .i64 5)).more (by simp))
  have H6 : Hid (_) := And.intro n6 (And.intro z6 (And.intro O6 (And.intro R6 H4.out.2.2.2)))
  clear h5 n6 z6 O6 R6 z5 n5 r5 o5 H4 c3 c6 f3
  go_upto_region 18 with fail
  obtain ⟨w6, hw6⟩ : ∃ x, w5.setCell ⟨p, 6, none⟩ (.int .i64 5) = x := ⟨_, rfl⟩
  rw [hw6] at H6 ⊢
  clear hw6 d6 f5
  have nB : Bk w6 p #[.int .i64 5, .int .i64 0, .int .i64 1, .int .i64 0, .int .i64 0, .int .u32 0, .int .i64 5, .bool false, .slice none 0 0] 45 := H6.out.1
  have zB : Bk w6 w.heap.size #[.int .i64 0, .int .i64 0, .int .i64 0, .int .i64 0, .int .i64 0, .int .u32 0, .int .i64 0, .bool false, .slice none 0 0] 45 := H6.out.2.1
  have fz := zB.fz
  have p0 : w6.cell? ⟨p, 0, none⟩ = some (.int .i64 5) := nB.cell 0
  have p1 : w6.cell? ⟨p, 1, none⟩ = some (.int .i64 0) := nB.cell 1
  have p2 : w6.cell? ⟨p, 2, none⟩ = some (.int .i64 1) := nB.cell 2
  have p3 : w6.cell? ⟨p, 3, none⟩ = some (.int .i64 0) := nB.cell 3
  have p4 : w6.cell? ⟨p, 4, none⟩ = some (.int .i64 0) := nB.cell 4
  have p5 : w6.cell? ⟨p, 5, none⟩ = some (.int .u32 0) := nB.cell 5
  have p6 : w6.cell? ⟨p, 6, none⟩ = some (.int .i64 5) := nB.cell 6
  have p7 : w6.cell? ⟨p, 7, none⟩ = some (.bool false) := nB.cell 7
  have p8 : w6.cell? ⟨p, 8, none⟩ = some (.slice none 0 0) := nB.cell 8
  have z0 : w6.cell? ⟨w.heap.size, 0, none⟩ = some (.int .i64 0) := zB.cell 0
  have z1 : w6.cell? ⟨w.heap.size, 1, none⟩ = some (.int .i64 0) := zB.cell 1
  have z2 : w6.cell? ⟨w.heap.size, 2, none⟩ = some (.int .i64 0) := zB.cell 2
  have z3 : w6.cell? ⟨w.heap.size, 3, none⟩ = some (.int .i64 0) := zB.cell 3
  have z4 : w6.cell? ⟨w.heap.size, 4, none⟩ = some (.int .i64 0) := zB.cell 4
  have z5 : w6.cell? ⟨w.heap.size, 5, none⟩ = some (.int .u32 0) := zB.cell 5
  have z6 : w6.cell? ⟨w.heap.size, 6, none⟩ = some (.int .i64 0) := zB.cell 6
  have z7 : w6.cell? ⟨w.heap.size, 7, none⟩ = some (.bool false) := zB.cell 7
  have z8 : w6.cell? ⟨w.heap.size, 8, none⟩ = some (.slice none 0 0) := zB.cell 8
  have HO : Hid (Off [w.heap.size] w6 (((((((((w6.setCell ⟨w.heap.size, 0, none⟩ (.int .i64 5)).setCell ⟨w.heap.size, 1, none⟩ (.int .i64 0)).setCell ⟨w.heap.size, 2, none⟩ (.int .i64 1)).setCell ⟨w.heap.size, 3, none⟩ (.int .i64 0)).setCell ⟨w.heap.size, 4, none⟩ (.int .i64 0)).setCell ⟨w.heap.size, 5, none⟩ (.int .u32 0)).setCell ⟨w.heap.size, 6, none⟩ (.int .i64 5)).setCell ⟨w.heap.size, 7, none⟩ (.bool false)).setCell ⟨w.heap.size, 8, none⟩ (.slice none 0 0))) := (Off.trans (Off.trans (Off.trans (Off.trans (Off.trans (Off.trans (Off.trans (Off.trans (Off.trans (Off.refl [w.heap.size] w6) (Off.setCell w.heap.size 0 _ _)) (Off.setCell w.heap.size 1 _ _)) (Off.setCell w.heap.size 2 _ _)) (Off.setCell w.heap.size 3 _ _)) (Off.setCell w.heap.size 4 _ _)) (Off.setCell w.heap.size 5 _ _)) (Off.setCell w.heap.size 6 _ _)) (Off.setCell w.heap.size 7 _ _)) (Off.setCell w.heap.size 8 _ _))
  clear nB zB
  go_wp2_with fail
  refine bodyPost_ret (v := .agg #[.int .i64 5, .int .i64 0, .int .i64 1, .int .i64 0, .int .i64 0, .int .u32 0, .int .i64 5, .bool false, .slice none 0 0]) (by simp [results, Tryd.results42, go_sem, z0, z1, z2, z3, z4, z5, z6, z7, z8]) rfl ?_
  obtain ⟨w7, hw7⟩ : ∃ x, (((((((((w6.setCell ⟨w.heap.size, 0, none⟩ (.int .i64 5)).setCell ⟨w.heap.size, 1, none⟩ (.int .i64 0)).setCell ⟨w.heap.size, 2, none⟩ (.int .i64 1)).setCell ⟨w.heap.size, 3, none⟩ (.int .i64 0)).setCell ⟨w.heap.size, 4, none⟩ (.int .i64 0)).setCell ⟨w.heap.size, 5, none⟩ (.int .u32 0)).setCell ⟨w.heap.size, 6, none⟩ (.int .i64 5)).setCell ⟨w.heap.size, 7, none⟩ (.bool false)).setCell ⟨w.heap.size, 8, none⟩ (.slice none 0 0)) = x := ⟨_, rfl⟩
  rw [hw7] at HO ⊢
  clear hw7
  refine ⟨rfl, ⟨_, RB.off H6.out.2.2.2.1 HO.out (by have := HA.out.2.2.2; simpa using this.symm)⟩, ?_⟩
  refine (H6.out.2.2.1.trans (HO.out.more (by simp))).only (fun k hk hl => ?_)
  have := H6.out.2.2.2.2
  simp at hk ⊢
  omega
set_option maxHeartbeats 2000000 in
theorem pread5 (g : Nat) (w : World) (L : Lw w) (hg : Bk w g #[.string (ByteArray.mk #[116, 105, 99, 107]), .string (ByteArray.mk #[48]), .string (ByteArray.mk #[104]), .string (ByteArray.mk #[53])] 9) : Calls Tryd.prog 20 #[.slice (some ⟨g, 0, none⟩) 4 4] w fun r w' => r = .returned (.tuple #[.agg #[.int .i64 5, .int .i64 0, .int .i64 1, .int .i64 0, .int .i64 0, .int .u32 0, .int .i64 5, .bool false, .slice none 0 0], .int .i64 0]) ∧ Below w.heap.size w w' := by
  obtain ⟨wa, hwa⟩ : ∃ x, w.alloc (.cells #[.int .i64 0, .int .i64 0, .int .i64 0, .int .i64 0, .int .i64 0, .int .u32 0, .int .i64 0, .bool false, .slice none 0 0] 45) = x := ⟨_, rfl⟩
  have ba : Below w.heap.size w wa := by rw [← hwa]; exact belA (Below.refl _ _) _
  have ga := hg.off (Off.of_below (l := []) ba) (by simp)
  have za : Bk wa w.heap.size #[.int .i64 0, .int .i64 0, .int .i64 0, .int .i64 0, .int .i64 0, .int .u32 0, .int .i64 0, .bool false, .slice none 0 0] 45 := by rw [← hwa]; exact Bk.new _ _ _
  have hk := pkind 5 (by decide) [116, 105, 99, 107] rfl wa (L.below ba)
  rw [show tx [116, 105, 99, 107] = ByteArray.mk #[116, 105, 99, 107] from rfl] at hk
  have c0 : wa.cell? ⟨g, 0, none⟩ = some (.string (ByteArray.mk #[116, 105, 99, 107])) := ga.cell 0
  have HA : Hid (_) := And.intro ba (And.intro ga za)
  have hpl := pplaces5 wa
  clear ba ga za L hg
  go_enter Tryd.func20, Tryd.ntmps20
  go_wp2_with fail
  try rw [hwa]
  clear hwa
  refine hk.mono ?_
  rintro r w' ⟨rfl, hw⟩
  rw [hw]
  clear hk hw c0
  go_wp2_with fail
  refine hpl.mono ?_
  rintro r w1 ⟨rfl, b1⟩
  have H1 : Hid (_) := b1
  clear hpl b1
  have hrd := preader g w1
  go_wp2_with fail
  refine hrd.mono ?_
  rintro r w2 ⟨rfl, b2⟩
  have H2 : Hid (Below wa.heap.size wa w2) := H1.out.trans (b2.mono H1.out.size)
  clear hrd b2 H1
  go_wp2_with fail
  have r3 : RB (w2.alloc (.cells #[.slice (some ⟨g, 1, none⟩) 3 3, .bool false] 91)) w2.heap.size (.slice (some ⟨g, 1, none⟩) 3 3) false := Bk.new _ _ _
  have b3 := belA (Below.refl _ w2) (.cells #[.slice (some ⟨g, 1, none⟩) 3 3, .bool false] 91)
  obtain ⟨w3, hw3⟩ : ∃ x, w2.alloc (.cells #[.slice (some ⟨g, 1, none⟩) 3 3, .bool false] 91) = x := ⟨_, rfl⟩
  rw [hw3] at r3 b3 ⊢
  obtain ⟨b, hb⟩ : ∃ x, w2.heap.size = x := ⟨_, rfl⟩
  rw [hb] at r3 ⊢
  have B3 : Below wa.heap.size wa w3 := H2.out.trans (b3.mono H2.out.size)
  have lb : wa.heap.size ≤ b := by rw [← hb]; exact H2.out.size
  have lg : g < wa.heap.size := HA.out.2.1.lt
  have hm := pmove5 b g w3 r3 (HA.out.2.1.off (Off.of_below (l := []) B3) (by simp)) (by omega)
  have H3 : Hid (_) := And.intro B3 (And.intro lb lg)
  clear r3 b3 hw3 hb B3 lb lg H2
  refine hm.mono ?_
  rintro r w4 ⟨rfl, ⟨v4, r4⟩, o4⟩
  clear hm
  have B4 : Below wa.heap.size wa w4 := o4.below H3.out.1 (by have := H3.out.2; simp; omega) H3.out.1.size
  have H4 : Hid (_) := And.intro r4 (And.intro B4 H3.out.2)
  have e4 := r4.c.2.1
  have l4 := r4.c.2.2.2.2
  clear r4 o4 B4 H3
  go_upto_region 11 with fail
  have n5 := Bk.new w4 #[.int .i64 5, .int .i64 0, .int .i64 1, .int .i64 0, .int .i64 0, .int .u32 0, .int .i64 5, .bool false, .slice none 0 0] 45
  have b5 := belA (Below.refl _ w4) (.cells #[.int .i64 5, .int .i64 0, .int .i64 1, .int .i64 0, .int .i64 0, .int .u32 0, .int .i64 5, .bool false, .slice none 0 0] 45)
  obtain ⟨w6, hw6⟩ : ∃ x, w4.alloc (.cells #[.int .i64 5, .int .i64 0, .int .i64 1, .int .i64 0, .int .i64 0, .int .u32 0, .int .i64 5, .bool false, .slice none 0 0] 45) = x := ⟨_, rfl⟩
  rw [hw6] at n5 b5 ⊢
  obtain ⟨p, hp⟩ : ∃ x, w4.heap.size = x := ⟨_, rfl⟩
  rw [hp] at n5 ⊢
  have e6 : w6.cell? ⟨b, 1, none⟩ = some (.bool false) := cellB e4 b5
  have B6 : Below wa.heap.size wa w6 := H4.out.2.1.trans (b5.mono H4.out.2.1.size)
  have zB : Bk w6 w.heap.size #[.int .i64 0, .int .i64 0, .int .i64 0, .int .i64 0, .int .i64 0, .int .u32 0, .int .i64 0, .bool false, .slice none 0 0] 45 := HA.out.2.2.off (Off.of_below (l := []) B6) (by simp)
  have fz := zB.fz
  have lp : wa.heap.size ≤ p := by rw [← hp]; exact H4.out.2.1.size
  have H6 : Hid (_) := And.intro B6 lp
  clear hw6 hp e4 l4 b5 B6 lp H4
  have p0 : w6.cell? ⟨p, 0, none⟩ = some (.int .i64 5) := n5.cell 0
  have p1 : w6.cell? ⟨p, 1, none⟩ = some (.int .i64 0) := n5.cell 1
  have p2 : w6.cell? ⟨p, 2, none⟩ = some (.int .i64 1) := n5.cell 2
  have p3 : w6.cell? ⟨p, 3, none⟩ = some (.int .i64 0) := n5.cell 3
  have p4 : w6.cell? ⟨p, 4, none⟩ = some (.int .i64 0) := n5.cell 4
  have p5 : w6.cell? ⟨p, 5, none⟩ = some (.int .u32 0) := n5.cell 5
  have p6 : w6.cell? ⟨p, 6, none⟩ = some (.int .i64 5) := n5.cell 6
  have p7 : w6.cell? ⟨p, 7, none⟩ = some (.bool false) := n5.cell 7
  have p8 : w6.cell? ⟨p, 8, none⟩ = some (.slice none 0 0) := n5.cell 8
  have z0 : w6.cell? ⟨w.heap.size, 0, none⟩ = some (.int .i64 0) := zB.cell 0
  have z1 : w6.cell? ⟨w.heap.size, 1, none⟩ = some (.int .i64 0) := zB.cell 1
  have z2 : w6.cell? ⟨w.heap.size, 2, none⟩ = some (.int .i64 0) := zB.cell 2
  have z3 : w6.cell? ⟨w.heap.size, 3, none⟩ = some (.int .i64 0) := zB.cell 3
  have z4 : w6.cell? ⟨w.heap.size, 4, none⟩ = some (.int .i64 0) := zB.cell 4
  have z5 : w6.cell? ⟨w.heap.size, 5, none⟩ = some (.int .u32 0) := zB.cell 5
  have z6 : w6.cell? ⟨w.heap.size, 6, none⟩ = some (.int .i64 0) := zB.cell 6
  have z7 : w6.cell? ⟨w.heap.size, 7, none⟩ = some (.bool false) := zB.cell 7
  have z8 : w6.cell? ⟨w.heap.size, 8, none⟩ = some (.slice none 0 0) := zB.cell 8
  have HO : Hid (Off [w.heap.size] w6 (((((((((w6.setCell ⟨w.heap.size, 0, none⟩ (.int .i64 5)).setCell ⟨w.heap.size, 1, none⟩ (.int .i64 0)).setCell ⟨w.heap.size, 2, none⟩ (.int .i64 1)).setCell ⟨w.heap.size, 3, none⟩ (.int .i64 0)).setCell ⟨w.heap.size, 4, none⟩ (.int .i64 0)).setCell ⟨w.heap.size, 5, none⟩ (.int .u32 0)).setCell ⟨w.heap.size, 6, none⟩ (.int .i64 5)).setCell ⟨w.heap.size, 7, none⟩ (.bool false)).setCell ⟨w.heap.size, 8, none⟩ (.slice none 0 0))) := (Off.trans (Off.trans (Off.trans (Off.trans (Off.trans (Off.trans (Off.trans (Off.trans (Off.trans (Off.refl [w.heap.size] w6) (Off.setCell w.heap.size 0 _ _)) (Off.setCell w.heap.size 1 _ _)) (Off.setCell w.heap.size 2 _ _)) (Off.setCell w.heap.size 3 _ _)) (Off.setCell w.heap.size 4 _ _)) (Off.setCell w.heap.size 5 _ _)) (Off.setCell w.heap.size 6 _ _)) (Off.setCell w.heap.size 7 _ _)) (Off.setCell w.heap.size 8 _ _))
  clear n5 zB
  go_wp2_with fail
  refine bodyPost_ret (v := .tuple #[.agg #[.int .i64 5, .int .i64 0, .int .i64 1, .int .i64 0, .int .i64 0, .int .u32 0, .int .i64 5, .bool false, .slice none 0 0], .int .i64 0]) (by simp [results, Tryd.results20, go_sem, z0, z1, z2, z3, z4, z5, z6, z7, z8]) rfl ?_
  obtain ⟨w7, hw7⟩ : ∃ x, (((((((((w6.setCell ⟨w.heap.size, 0, none⟩ (.int .i64 5)).setCell ⟨w.heap.size, 1, none⟩ (.int .i64 0)).setCell ⟨w.heap.size, 2, none⟩ (.int .i64 1)).setCell ⟨w.heap.size, 3, none⟩ (.int .i64 0)).setCell ⟨w.heap.size, 4, none⟩ (.int .i64 0)).setCell ⟨w.heap.size, 5, none⟩ (.int .u32 0)).setCell ⟨w.heap.size, 6, none⟩ (.int .i64 5)).setCell ⟨w.heap.size, 7, none⟩ (.bool false)).setCell ⟨w.heap.size, 8, none⟩ (.slice none 0 0)) = x := ⟨_, rfl⟩
  rw [hw7] at HO ⊢
  clear hw7
  refine ⟨rfl, ?_⟩
  have ba := HA.out.1
  have bb : Below w.heap.size w w6 := ba.trans (H6.out.1.mono ba.size)
  exact HO.out.below bb (by simp) bb.size
end Go.Proofs.YtnmnjcjfgbpkaaaDoor
namespace Go.Proofs.YtnmnjcjfgbpkaaaDoor
set_option maxRecDepth 100000
open Go.RowKit Go.Maps
set_option maxRecDepth 100000
/-- The example's move. -/
def mA : Mv := ⟨1, 1, 2, 0, 0, 0, 0, true, 2, fun i => if i = 0 then 171 else 0⟩
theorem mA_ok : mA.Ok := ⟨by decide, by decide, by decide, by decide, by decide, by decide, by decide⟩
theorem mA_err : mA.err = 0 := by decide
theorem mA_line : mA.line = [119, 114, 105, 116, 101, 32, 49, 32, 100, 32, 120, 97, 98, 48, 48, 32, 104, 111, 108, 100] := by
  have e : mA.ws = [[119, 114, 105, 116, 101], [49], [100], [120, 97, 98, 48, 48], [104, 111, 108, 100]] := by
    unfold Mv.ws Mv.w1 Mv.w2 Mv.w3 Mv.w4
    rw [show mA.ns = [] from rfl, show Lib.itoa mA.c = [49] by simp [mA, Lib.itoa, Lib.decDigits]]
    decide
  unfold Mv.line
  rw [e]
  simp [Lib.join, List.intercalate]
theorem rowA (w : World) : Row8 (w.alloc (.cells #[.int .u8 171, .int .u8 0] 5)) (some ⟨w.heap.size, 0, none⟩) mA.l 2 mA.b := by
  refine ⟨fun i hi => ?_, (fun h => by cases h), fun x hx i hi => ?_, Nat.le_refl _⟩
  · show (if i = 0 then 171 else 0) < 256
    split <;> decide
  · cases hx
    have e : (⟨w.heap.size, 0, none⟩ : Addr).add i = ⟨w.heap.size, i, none⟩ := by unfold Addr.add; simp; omega
    rw [e, cell_of_row _ _ i _ _ _ (heap_alloc_new w (.cells #[.int .u8 171, .int .u8 0] 5))]
    have h2 : i < 2 := hi
    have : i = 0 ∨ i = 1 := by omega
    rcases this with rfl | rfl <;> rfl
set_option maxHeartbeats 2000000 in
theorem awake20 (w : World) (L : Lw w) : Calls Tryd.prog 7 #[] w fun r w' => r = .returned (.bool true) ∧ Below w.heap.size w w' := by
  have bA := belA (Below.refl _ w) (.cells #[.int .u8 171, .int .u8 0] 5)
  have hM := pmove mA mA_ok (some ⟨w.heap.size, 0, none⟩) 2 _ (rowA w) (by decide) (L.below bA)
  rw [if_pos mA_err, mA_err, mA_line] at hM
  obtain ⟨X, hX⟩ : ∃ x, tx [119, 114, 105, 116, 101, 32, 49, 32, 100, 32, 120, 97, 98, 48, 48, 32, 104, 111, 108, 100] = x := ⟨_, rfl⟩
  rw [hX] at hM
  have eX : (X.toList == [119, 114, 105, 116, 101, 32, 49, 32, 100, 32, 120, 97, 98, 48, 48, 32, 104, 111, 108, 100]) = true := by rw [← hX, tx_list]; decide
  obtain ⟨wa, hwa⟩ : ∃ x, w.alloc (.cells #[.int .u8 171, .int .u8 0] 5) = x := ⟨_, rfl⟩
  rw [hwa] at bA hM
  have HA : Hid (_) := And.intro bA (And.intro (L.below bA) L)
  clear hX bA L
  go_enter Tryd.func7, Tryd.ntmps7
  go_wp2_with fail
  try rw [hwa]
  clear hwa
  refine Calls.mono hM ?_
  rintro r w1 ⟨rfl, b1⟩
  have hR := pread5 w1.heap.size (w1.alloc (.cells #[.string (ByteArray.mk #[116, 105, 99, 107]), .string (ByteArray.mk #[48]), .string (ByteArray.mk #[104]), .string (ByteArray.mk #[53])] 9)) ((HA.out.2.1.below b1).below (belA (Below.refl _ _) _)) (Bk.new _ _ _)
  have H1 : Hid (Below w.heap.size w (w1.alloc (.cells #[.string (ByteArray.mk #[116, 105, 99, 107]), .string (ByteArray.mk #[48]), .string (ByteArray.mk #[104]), .string (ByteArray.mk #[53])] 9))) := belA (HA.out.1.trans (b1.mono HA.out.1.size)) _
  clear hM b1
  obtain ⟨w2, hw2⟩ : ∃ x, w1.alloc (.cells #[.string (ByteArray.mk #[116, 105, 99, 107]), .string (ByteArray.mk #[48]), .string (ByteArray.mk #[104]), .string (ByteArray.mk #[53])] 9) = x := ⟨_, rfl⟩
  rw [hw2] at hR H1
  go_wp2_with fail
  try rw [hw2]
  clear hw2
  refine hR.mono ?_
  rintro r w3 ⟨rfl, b3⟩
  have H3 : Hid (Below w.heap.size w w3) := H1.out.trans (b3.mono H1.out.size)
  clear b3 hR
  go_wp2_with fail
  go_ret
  exact ⟨rfl, belA H3.out _⟩
end Go.Proofs.YtnmnjcjfgbpkaaaDoor
