/- Layer 20: reading words: FormatUint of small numbers, numberOf, the reader. (gensrd.py) -/
import Derived.Test.YtiikebaehoobnaaDoorSco
import Derived.Lib.SmallJoins
namespace Go.Proofs.YtiikebaehoobnaaDoor
set_option maxRecDepth 100000
open Go.RowKit Go.Maps
set_option maxRecDepth 100000
set_option linter.unusedVariables false
theorem pfmt_small (n : Nat) (h : n < 100) (w : World) : Calls Tryd.prog 87 #[.int .u64 ((n : Nat) : Int), .int .i64 10] w fun r w' => r = .returned (.string (tx (Lib.decDigits n))) ∧ w' = w := by
  have h1 : Calls Tryd.prog 100 #[.int .u64 ((n : Nat) : Int), .int .i64 10] w fun r w' => r = .returned (.string (tx (Lib.decDigits n))) ∧ w' = w := by
    have hS := Tryd.internal_strconv_small n h w
    have g : ((n : Nat) : Int) < 100 := by omega
    have q : IntKind.i64.wrap ((n : Nat) : Int) = ((n : Nat) : Int) := by rw [IntKind.wrap_i64]; omega
    go_enter Tryd.func100, Tryd.ntmps100
    go_wp2_with fail
    refine hS.mono ?_
    rintro r w' ⟨rfl, hw⟩
    rw [hw]
    clear hS hw
    go_wp2_with fail
    go_ret
    exact ⟨rfl, rfl⟩
  go_enter Tryd.func87, Tryd.ntmps87
  go_wp2_with fail
  refine h1.mono ?_
  rintro r w' ⟨rfl, hw⟩
  rw [hw]
  clear h1 hw
  go_wp2_with fail
  go_ret
  exact ⟨rfl, rfl⟩
/-- A short number's word. -/
theorem pnum_small (l : List UInt8) (u : Nat) (hu : u < 100) (hl : l.length ≤ 1000) (hp : Lib.parseUintB 32 l = .ok u) (hd : Lib.decDigits u = l) (w : World) : Calls Tryd.prog 73 #[.string (tx l)] w fun r w' => r = .returned (.tuple #[.int .u32 ((u : Nat) : Int), .bool true]) ∧ Below w.heap.size w w' := by
  have hP := Tryd.strconv_ParseUint_10_at32_ok (tx l) (by rw [tx_size]; omega) u (by simpa [tx] using hp) w
  have hF := pfmt_small u hu
  rw [hd] at hF
  have q : IntKind.u32.wrap ((u : Nat) : Int) = ((u : Nat) : Int) := by rw [IntKind.wrap_u32]; omega
  obtain ⟨X, hX⟩ : ∃ x, tx l = x := ⟨_, rfl⟩
  rw [hX] at hP hF ⊢
  clear hX hp hd
  go_enter Tryd.func73, Tryd.ntmps73
  go_wp2_with fail
  refine hP.mono ?_
  rintro r w' ⟨rfl, hw⟩
  have HB : Hid (Below w.heap.size w w') := by
    rcases hw with rfl | rfl
    · exact Below.refl _ _
    · exact Joins.below_bytesWorld _ _ _ _ (Nat.le_refl _)
  clear hw hP
  go_wp2_with fail
  refine (hF _).mono ?_
  rintro r w2 ⟨rfl, hw⟩
  rw [hw]
  clear hw hF
  go_wp2_with fail
  go_ret2
  exact ⟨rfl, HB.out⟩
/-- A side's word. -/
def sdI (l : List UInt8) : Int := if l = [104] then 1 else if l = [100] then 2 else 0
theorem tx_list (l : List UInt8) : (tx l).toList = l := by
  rw [ByteArray.toList_eq]
  simp [tx]
theorem tx_ne {a b : List UInt8} (h : a ≠ b) : (a == (tx b).toList) = false := by
  rw [tx_list]
  simpa using h
set_option maxHeartbeats 1000000 in
theorem psideOf (l : List UInt8) (w : World) : Calls Tryd.prog 76 #[.string (tx l)] w fun r w' => r = .returned (.tuple #[.int .i64 (sdI l), .bool (sdI l != 0)]) ∧ w' = w := by
  have hP1 := pside 1
  have hP2 := pside 2
  rw [if_pos rfl, show tx [104] = ByteArray.mk #[104] from rfl] at hP1
  rw [if_neg (by decide), show tx [100] = ByteArray.mk #[100] from rfl] at hP2
  have ix0 : ∀ wx, (Instr.index 150 (.agg #[.int .i64 1, .int .i64 2]) (.int .i64 0)).run Tryd.prog wx = .ok (.int .i64 1) wx := fun wx => by kernel_rfl
  have ix1 : ∀ wx, (Instr.index 150 (.agg #[.int .i64 1, .int .i64 2]) (.int .i64 1)).run Tryd.prog wx = .ok (.int .i64 2) wx := fun wx => by kernel_rfl
  obtain ⟨X, hX⟩ : ∃ x, tx l = x := ⟨_, rfl⟩
  rw [hX]
  have HX : Hid (_) := hX
  clear hX
  go_enter Tryd.func76, Tryd.ntmps76
  go_wp2_with fail
  go_loopw [5, 7, 8, 9, 10, 11, 12, 13, 14, 15] (fun _ c _ _ _ _ _ _ _ _ wr => ∃ i : Nat, i ≤ 2 ∧ c = .int .i64 ((i : Nat) : Int) ∧ Hid ((0 < i → l ≠ [104]) ∧ (1 < i → l ≠ [100])) ∧ wr = w) (fun _ c _ _ _ _ _ _ _ _ _ => 2 - natV c)
  case atStart => exact ⟨0, by omega, rfl, ⟨fun h => absurd h (by omega), fun h => absurd h (by omega)⟩, rfl⟩
  case round =>
    obtain ⟨i, hi, rfl, HI, rfl⟩ := hrel
    have h3 : i = 0 ∨ i = 1 ∨ i = 2 := by omega
    rcases h3 with rfl | rfl | rfl
    · by_cases hl : l = [104]
      · have e : X = ByteArray.mk #[104] := by rw [← HX.out, hl]; rfl
        have HV : Hid (sdI l = 1) := by show sdI l = 1; unfold sdI; rw [if_pos hl]
        rw [e]
        clear hl e
        go_wp2_with fail
        refine (hP1 _).mono ?_
        rintro r w' ⟨rfl, hw⟩
        rw [hw]
        clear hw
        go_wp2_with fail
        go_ret2
        exact ⟨by rw [HV.out]; rfl, rfl⟩
      · have e : ([104] == X.toList) = false := by rw [← HX.out]; exact tx_ne (fun h => hl h.symm)
        have HI' : Hid (l ≠ [104]) := hl
        clear hl
        go_wp2_with fail
        refine (hP1 _).mono ?_
        rintro r w' ⟨rfl, hw⟩
        rw [hw]
        clear hw
        go_wp2_with fail
        go_roundw
        case rel => exact ⟨1, by omega, rfl, ⟨fun _ => HI'.out, fun h => absurd h (by omega)⟩, trivial⟩
        case measure => simp [natV]
    · by_cases hl : l = [100]
      · have e : X = ByteArray.mk #[100] := by rw [← HX.out, hl]; rfl
        have HV : Hid (sdI l = 2) := by show sdI l = 2; unfold sdI; rw [if_neg (HI.out.1 (by omega)), if_pos hl]
        rw [e]
        clear hl e
        go_wp2_with fail
        refine (hP2 _).mono ?_
        rintro r w' ⟨rfl, hw⟩
        rw [hw]
        clear hw
        go_wp2_with fail
        go_ret2
        exact ⟨by rw [HV.out]; rfl, rfl⟩
      · have e : ([100] == X.toList) = false := by rw [← HX.out]; exact tx_ne (fun h => hl h.symm)
        have HI' : Hid (l ≠ [104] ∧ l ≠ [100]) := ⟨HI.out.1 (by omega), hl⟩
        clear hl
        go_wp2_with fail
        refine (hP2 _).mono ?_
        rintro r w' ⟨rfl, hw⟩
        rw [hw]
        clear hw
        go_wp2_with fail
        go_roundw
        case rel => exact ⟨2, by omega, rfl, ⟨fun _ => HI'.out.1, fun _ => HI'.out.2⟩, trivial⟩
        case measure => simp [natV]
    · have HV : Hid (sdI l = 0) := by show sdI l = 0; unfold sdI; rw [if_neg (HI.out.1 (by omega)), if_neg (HI.out.2 (by omega))]
      go_wp2_with fail
      go_ret2
      exact ⟨by rw [HV.out]; rfl, rfl⟩
/-- The kind of a word. -/
theorem kws_ne {i j : Nat} (h : i < j) (hj : j < 9) {a b : List UInt8} (ha : kws[i]? = some a) (hb : kws[j]? = some b) : a ≠ b := by
  have hall : ∀ j : Fin 9, ∀ i : Fin 9, i < j → kws[i.val]? ≠ kws[j.val]? := by decide
  intro e
  have := hall ⟨j, hj⟩ ⟨i, by omega⟩ h
  simp only at this
  rw [ha, hb, e] at this
  exact this rfl
set_option maxHeartbeats 1000000 in
theorem pkind (k : Nat) (h1 : 1 ≤ k ∧ k ≤ 8) (l : List UInt8) (hl : kws[k]? = some l) (w : World) (L : Lw w) : Calls Tryd.prog 33 #[.string (tx l)] w fun r w' => r = .returned (.tuple #[.int .i64 ((k : Nat) : Int), .bool true]) ∧ w' = w := by
  obtain ⟨X, hX⟩ : ∃ x, tx l = x := ⟨_, rfl⟩
  rw [hX]
  have HX : Hid (_) := hX
  have HL : Hid (_) := And.intro L hl
  clear hX L hl
  go_enter Tryd.func33, Tryd.ntmps33
  go_wp2_with fail
  go_loopw [4, 5, 6, 7, 8, 9, 10, 11, 12, 13, 14] (fun c _ _ _ _ _ _ _ _ _ _ wr => ∃ i : Nat, 1 ≤ i ∧ i ≤ k ∧ c = .int .i64 ((i : Nat) : Int) ∧ wr = w) (fun c _ _ _ _ _ _ _ _ _ _ _ => 9 - natV c)
  case atStart => exact ⟨1, by omega, h1.1, rfl, rfl⟩
  case round =>
    obtain ⟨i, hi, hik, rfl, rfl⟩ := hrel
    have hi9 : i < 9 := by omega
    obtain ⟨Kw, hKw⟩ : ∃ l, kws[i]? = some l := by
      have : i < kws.length := hi9
      exact ⟨_, List.getElem?_eq_getElem this⟩
    have g0 := HL.out.1.word i hKw
    have g1 : ((i : Nat) : Int) ≤ 8 := by omega
    have g2 : (0 : Int) ≤ ((i : Nat) : Int) := by omega
    have g3 : ((i : Nat) : Int) < 9 := by omega
    have hw1 : IntKind.i64.wrap (((i : Nat) : Int) + 1) = ((i + 1 : Nat) : Int) := by rw [IntKind.wrap_i64]; omega
    obtain ⟨KW, hKW⟩ : ∃ x, tx Kw = x := ⟨_, rfl⟩
    rw [hKW] at g0
    by_cases hk : i = k
    · have e : (KW.toList == X.toList) = true := by
        have : Kw = l := by
          have := hKw.symm.trans (hk ▸ HL.out.2)
          simpa using this
        rw [← hKW, ← HX.out, this]
        simp
      have Hk : Hid (_) := hk
      clear hk hKW hKw
      go_wp2_with fail
      go_ret2
      exact ⟨by rw [Hk.out]; rfl, rfl⟩
    · have e : (KW.toList == X.toList) = false := by
        have : Kw ≠ l := kws_ne (by omega) (by omega) hKw HL.out.2
        rw [← hKW, ← HX.out, tx_list, tx_list]
        simpa using this
      have Hk : Hid (i + 1 ≤ k) := by show i + 1 ≤ k; omega
      clear hk hKW hKw
      go_wp2_with fail
      go_roundw
      case rel => exact ⟨i + 1, by omega, Hk.out, by first | rfl | go_num, by first | trivial | rfl⟩
      case measure => simp [natV] <;> omega
/-- Where the rest begins behind a word. -/
def adv (o c : Nat) : Nat := if c = 0 then o else o + 1
/-- A reader at b. -/
def RB (w : World) (b : Nat) (v : Value) (x : Bool) : Prop := w.heap[b]? = some (.cells #[v, .bool x] 76 (0, 0))
theorem RB.below {w w' : World} {b : Nat} {v : Value} {x : Bool} (h : RB w b v x) (q : Below w.heap.size w w') : RB w' b v x := (q.block b (Array.getElem?_eq_some_iff.1 h).1).trans h
theorem RB.c {w : World} {b : Nat} {v : Value} {x : Bool} (h : RB w b v x) : w.cell? ⟨b, 0, none⟩ = some v ∧ w.cell? ⟨b, 1, none⟩ = some (.bool x) ∧ w.frozen? ⟨b, 0, none⟩ = false ∧ w.frozen? ⟨b, 1, none⟩ = false ∧ b < w.heap.size := by
  refine ⟨cell_of_row w b 0 _ _ _ h, cell_of_row w b 1 _ _ _ h, ?_, ?_, (Array.getElem?_eq_some_iff.1 h).1⟩
  · unfold RB at h; simp [World.frozen?, h]
  · unfold RB at h; simp [World.frozen?, h]
theorem RB.set0 {w : World} {b : Nat} {v : Value} {x : Bool} (h : RB w b v x) (v' : Value) : RB (w.setCell ⟨b, 0, none⟩ v') b v' x := by
  unfold RB at h ⊢
  rw [heap_setCell_same w b 0 _ _ v' h]
  rfl
theorem RB.set1 {w : World} {b : Nat} {v : Value} {x : Bool} (h : RB w b v x) (x' : Bool) : RB (w.setCell ⟨b, 1, none⟩ (.bool x')) b v x' := by
  unfold RB at h ⊢
  rw [heap_setCell_same w b 1 _ _ _ h]
  rfl
set_option maxHeartbeats 1000000 in
theorem pnext (b g o n c : Nat) (x : Bool) (X : ByteArray) (w : World) (h : RB w b (.slice (some ⟨g, o, none⟩) (n + 1) (c + 1)) x) (hw : w.cell? ⟨g, o, none⟩ = some (.string X)) (hc : n ≤ c) (hc2 : c ≤ 9223372036854775807) : Calls Tryd.prog 74 #[.pointer (some ⟨b, 0, none⟩)] w fun r w' => r = .returned (.string X) ∧ RB w' b (.slice (some ⟨g, adv o c, none⟩) n c) x ∧ Off [b] w w' := by
  obtain ⟨c0, c1, f0, f1, _⟩ := h.c
  have HR : Hid (RB w b (.slice (some ⟨g, o, none⟩) (n + 1) (c + 1)) x) := h
  clear h
  go_enter Tryd.func74, Tryd.ntmps74
  go_wp2_with fail
  · go_ret
    have ea : adv o c = o := by unfold adv; split <;> omega
    try rw [ea]
    exact ⟨rfl, HR.out.set0 _, Off.setCell _ _ _ _⟩
  · go_ret
    have ea : adv o c = o + 1 := by unfold adv; split <;> omega
    try rw [ea]
    exact ⟨rfl, HR.out.set0 _, Off.setCell _ _ _ _⟩
set_option maxHeartbeats 1000000 in
theorem pexpect (b : Nat) (v : Value) (x ok : Bool) (w : World) (h : RB w b v x) : Calls Tryd.prog 75 #[.pointer (some ⟨b, 0, none⟩), .bool ok] w fun r w' => r = .returned (.tuple #[]) ∧ RB w' b v (x || !ok) ∧ Off [b] w w' := by
  obtain ⟨c0, c1, f0, f1, _⟩ := h.c
  have HR : Hid (RB w b v x) := h
  clear h
  cases x <;> cases ok <;>
  · go_enter Tryd.func75, Tryd.ntmps75
    go_wp2_with fail
    go_end0
    exact ⟨rfl, HR.out.set1 _, Off.setCell _ _ _ _⟩
set_option maxHeartbeats 1000000 in
theorem pnumR (b g o n c : Nat) (x : Bool) (l : List UInt8) (u : Nat) (hu : u < 100) (hl : l.length ≤ 1000) (hp : Lib.parseUintB 32 l = .ok u) (hd : Lib.decDigits u = l) (w : World) (h : RB w b (.slice (some ⟨g, o, none⟩) (n + 1) (c + 1)) x) (hw : w.cell? ⟨g, o, none⟩ = some (.string (tx l))) (hc : n ≤ c) (hc2 : c ≤ 9223372036854775807) : Calls Tryd.prog 59 #[.pointer (some ⟨b, 0, none⟩)] w fun r w' => r = .returned (.int .u32 ((u : Nat) : Int)) ∧ RB w' b (.slice (some ⟨g, adv o c, none⟩) n c) x ∧ Off [b] w w' := by
  have h1 := pnext b g o n c x (tx l) w h hw hc hc2
  have h2 := pnum_small l u hu hl hp hd
  obtain ⟨X, hX⟩ : ∃ y, tx l = y := ⟨_, rfl⟩
  rw [hX] at h1 h2
  clear hX h hw hp hd
  go_enter Tryd.func59, Tryd.ntmps59
  go_wp2_with fail
  refine h1.mono ?_
  rintro r w1 ⟨rfl, r1, o1⟩
  have H1 : Hid (_) := And.intro r1 o1
  clear h1 r1 o1
  go_wp2_with fail
  refine (h2 w1).mono ?_
  rintro r w2 ⟨rfl, b2⟩
  have h3 := pexpect b _ x true w2 (RB.below H1.out.1 b2)
  have H2 : Hid (Off [b] w w2) := H1.out.2.trans (Off.of_below b2)
  clear h2 b2
  go_wp2_with fail
  refine h3.mono ?_
  rintro r w3 ⟨rfl, r3, o3⟩
  have H3 : Hid (_) := And.intro r3 (H2.out.trans o3)
  clear h3 r3 o3
  go_wp2_with fail
  go_ret
  exact ⟨rfl, by have := H3.out.1; simpa using this, H3.out.2⟩
set_option maxHeartbeats 1000000 in
theorem psideR (b g o n c : Nat) (x : Bool) (l : List UInt8) (w : World) (h : RB w b (.slice (some ⟨g, o, none⟩) (n + 1) (c + 1)) x) (hw : w.cell? ⟨g, o, none⟩ = some (.string (tx l))) (hc : n ≤ c) (hc2 : c ≤ 9223372036854775807) : Calls Tryd.prog 60 #[.pointer (some ⟨b, 0, none⟩)] w fun r w' => r = .returned (.int .i64 (sdI l)) ∧ RB w' b (.slice (some ⟨g, adv o c, none⟩) n c) (x || !(sdI l != 0)) ∧ Off [b] w w' := by
  have h1 := pnext b g o n c x (tx l) w h hw hc hc2
  have h2 := psideOf l
  obtain ⟨X, hX⟩ : ∃ y, tx l = y := ⟨_, rfl⟩
  obtain ⟨S, hS⟩ : ∃ y, sdI l = y := ⟨_, rfl⟩
  obtain ⟨T, hT⟩ : ∃ y, (S != 0) = y := ⟨_, rfl⟩
  rw [hX] at h1 h2
  rw [hS, hT] at h2 ⊢
  clear hX h hw hS hT
  go_enter Tryd.func60, Tryd.ntmps60
  go_wp2_with fail
  refine h1.mono ?_
  rintro r w1 ⟨rfl, r1, o1⟩
  have H1 : Hid (_) := And.intro r1 o1
  clear h1 r1 o1
  go_wp2_with fail
  refine (h2 w1).mono ?_
  rintro r w2 ⟨rfl, hw2⟩
  rw [hw2]
  have h3 := pexpect b _ x T w1 H1.out.1
  clear h2 hw2
  go_wp2_with fail
  refine h3.mono ?_
  rintro r w3 ⟨rfl, r3, o3⟩
  have H3 : Hid (_) := And.intro r3 (H1.out.2.trans o3)
  clear h3 r3 o3
  go_wp2_with fail
  go_ret
  exact ⟨rfl, H3.out.1, H3.out.2⟩
/-- What a kind's line has. -/
def m0 (k : Int) : Mv := ⟨k, 0, 0, 0, 0, 0, 0, false, 0, fun _ => 0⟩
theorem pplaces5 (w : World) : Calls Tryd.prog 34 #[.int .i64 5] w fun r w' => r = .returned (.tuple #[.int .i64 3, .int .i64 3]) ∧ Below w.heap.size w w' := by
  have h1 := plast (m0 5) ⟨by decide, by decide, by decide, by decide, by decide, by decide, by decide⟩ none 0 w
  rw [show (m0 5).ns = [0] from rfl] at h1
  have h2 := puses 5
  rw [show sided 5 = true from rfl] at h2
  go_enter Tryd.func34, Tryd.ntmps34
  go_wp2_with fail
  refine Calls.mono h1 ?_
  rintro r w1 ⟨a, c, rfl, q⟩
  have H1 : Hid (_) := q.out.2
  clear h1 q
  go_wp2_with fail
  refine (h2 _).mono ?_
  rintro r w2 ⟨rfl, hw2⟩
  rw [hw2]
  clear hw2 h2
  go_wp2_with fail
  go_ret2
  exact ⟨rfl, H1.out⟩
end Go.Proofs.YtiikebaehoobnaaDoor
