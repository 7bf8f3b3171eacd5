/- Layer 20: FormatUint of any number; numberOf of any word. -/
import Derived.Test.YtnmnjcjfgbpkaaaDoorJSrd
import Derived.Lib.ItoaMem
import Derived.Lib.ParseIntBCases
namespace Go.Proofs.YtnmnjcjfgbpkaaaDoor
set_option maxRecDepth 100000
open Go.RowKit Go.Maps Go.Sort
set_option maxRecDepth 100000
theorem below_put (w : World) (o : Obj) (dk : Array UInt8) (k : Nat) : Below w.heap.size w ((putRow (fun (b : UInt8) => Value.int .u8 (b.toNat : Int)) (w.alloc o) w.heap.size 0 dk).drewN k) := by
  rw [alloc_eq_grow]
  obtain ⟨os', _, e⟩ := putRow_grow_new (fun (b : UInt8) => Value.int .u8 (b.toNat : Int)) w #[o] w.heap.size 0 dk (Nat.le_refl _)
  rw [e]
  exact below_grow w k os'
theorem holds_zero0 (w : World) (T : TypeId) (nd : Nat) (hs : nd ≤ 24) : Holds (fun (b : UInt8) => Value.int .u8 (b.toNat : Int)) (w.alloc (.cells Lib.zeros24 T)) w.heap.size 0 (Array.replicate nd (0 : UInt8)) := fun j hj => by
  have hj' : j < nd := by simpa using hj
  refine ⟨?_, World.frozen?_alloc_new _ _ _ _⟩
  rw [World.cell?_alloc_new, Lib.zeros24_at _ (by omega), getElem!_pos _ j hj]
  simp
set_option maxHeartbeats 1000000 in
theorem pfmtI (u : Nat) (hu : 100 ≤ u) (hu64 : u < 18446744073709551616) (w : World) (L : Lw w) : Calls Tryd.prog 97 #[.int .u64 ((u : Nat) : Int), .int .i64 10] w fun r w' => r = .returned (.string (tx (Lib.decDigits u))) ∧ Below w.heap.size w w' := by
  have hu1 : 1 ≤ u := by omega
  have hnd20 : Lib.nDigits u ≤ 20 := by have := Lib.numDigits_eq u hu1 hu64; split at this <;> omega
  have hal : Tryd.prog.arrayLen 139 = 24 := by kernel_rfl
  have hsl : ∀ W, (Instr.sliceAt 139 (.pointer (some ⟨w.heap.size, 0, none⟩)) none (some (.int .i64 (Lib.nDigits u : Int))) none).run Tryd.prog W = .ok (.slice (some ⟨w.heap.size, 0, none⟩) (Lib.nDigits u) 24) W := fun W => by
    rw [run_sliceAt_array_h W 139 ⟨w.heap.size, 0, none⟩ (by kernel_rfl) .i64 (Lib.nDigits u : Int) (by omega) (by rw [hal]; omega)]
    go_simp
  have hH0 := holds_zero0 w 139 (Lib.nDigits u) (by omega)
  have hfmt := Tryd.internal_strconv_formatBase10 w.heap.size 0 24 u (Array.replicate (Lib.nDigits u) 0) (w.alloc (.cells Lib.zeros24 139)) hH0 (by rw [Array.size_replicate]; exact Lib.lt_pow_nDigits u) hu64 (by rw [Array.size_replicate]; omega)
  rw [Array.size_replicate] at hfmt
  have hnum := Tryd.internal_strconv_numDigits u hu1 hu64 (w.alloc (.cells Lib.zeros24 139)) (Lib.tabIs_alloc L.pow _)
  have HH0 : Hid (_) := hH0
  have g : ¬ ((u : Nat) : Int) < 100 := by omega
  clear hH0 hal L
  go_enter Tryd.func97, Tryd.ntmps97
  go_wp2_with fail
  refine hnum.mono ?_
  rintro r w' ⟨rfl, hw⟩
  rw [hw]
  clear hw hnum
  go_wp2_with fail
  refine hfmt.mono ?_
  rintro e w' ⟨rfl, k, v', dk, hw', hF⟩
  have hcv : (convert 43 9 (.slice (some ⟨w.heap.size, 0, none⟩) (Lib.nDigits u) 24)).run Tryd.prog w' = .ok (.string (tx (Lib.decDigits u))) w' := by
    rw [hw']
    have h := run_convert_bytes_back (P := Tryd.prog) ((putRow (fun (b : UInt8) => Value.int .u8 (b.toNat : Int)) (w.alloc (.cells Lib.zeros24 139)) w.heap.size 0 dk).drewN k) 43 9 5 ⟨w.heap.size, 0, none⟩ 24 (Lib.decDigits u) Tryd.underlying43 Tryd.underlying5 Tryd.underlying9 (fun j hj => by
      rw [Lib.row_is_numeral hF j hj, Lib.add_plain, World.cell?_drewN]
      exact cell?_putRow (fun (b : UInt8) => Value.int .u8 (b.toNat : Int)) _ w.heap.size 0 _ dk HH0.out (by rw [hF.size, Array.size_replicate]) j (by rw [hF.size]; rw [Lib.decDigits_length] at hj; exact hj))
    rw [Lib.decDigits_length] at h
    exact h
  have HB : Hid (Below w.heap.size w w') := by
    show Below w.heap.size w w'
    rw [hw']
    exact below_put _ _ _ _
  clear hw' hF HH0 hfmt
  go_wp2_with fail
  go_ret
  exact ⟨rfl, HB.out⟩
theorem pfmt (u : Nat) (hu64 : u < 18446744073709551616) (w : World) (L : Lw w) : Calls Tryd.prog 83 #[.int .u64 ((u : Nat) : Int), .int .i64 10] w fun r w' => r = .returned (.string (tx (Lib.decDigits u))) ∧ Below w.heap.size w w' := by
  by_cases h : u < 100
  · exact (pfmt_small u h w).mono fun _ _ ⟨e, q⟩ => ⟨e, by rw [q]; exact Below.refl _ _⟩
  · have h1 := pfmtI u (by omega) hu64 w L
    go_enter Tryd.func83, Tryd.ntmps83
    go_wp2_with fail
    refine h1.mono ?_
    rintro r w' ⟨rfl, hw⟩
    have HB : Hid (_) := hw
    clear h1 hw
    go_wp2_with fail
    go_ret
    exact ⟨rfl, HB.out⟩
end Go.Proofs.YtnmnjcjfgbpkaaaDoor
namespace Go.Proofs.YtnmnjcjfgbpkaaaDoor
set_option maxRecDepth 100000
open Go.RowKit Go.Maps
set_option maxRecDepth 100000
/-- What a word writes, and whether it writes a number. -/
def nmV (l : List UInt8) : Nat := match Lib.parseUintB 32 l with | .ok u => u | .«syntax» => 0 | .range => 4294967295
def nmO (l : List UInt8) : Bool := match Lib.parseUintB 32 l with | .ok u => Lib.decDigits u == l | .«syntax» => false | .range => false
theorem nmV_lt (l : List UInt8) : nmV l < 4294967296 := by
  unfold nmV
  cases h : Lib.parseUintB 32 l with
  | ok u =>
    have := Lib.parseUintB_le h
    show u < _
    omega
  | «syntax» => decide
  | range => decide
set_option maxHeartbeats 1000000 in
theorem pnumOf (l : List UInt8) (hl : l.length ≤ 281474976710656) (w : World) (L : Lw w) : Calls Tryd.prog 70 #[.string (tx l)] w fun r w' => r = .returned (.tuple #[.int .u32 ((nmV l : Nat) : Int), .bool (nmO l)]) ∧ Below w.heap.size w w' := by
  have ht : (tx l).data.toList = l := by simp [tx]
  have hs : (tx l).size ≤ 281474976710656 := by rw [tx_size]; exact hl
  obtain ⟨V, hV⟩ : ∃ x, nmV l = x := ⟨_, rfl⟩
  obtain ⟨O, hO⟩ : ∃ x, nmO l = x := ⟨_, rfl⟩
  have hv := nmV_lt l
  rw [hV] at hv
  rw [hV, hO]
  have q : IntKind.u32.wrap ((V : Nat) : Int) = ((V : Nat) : Int) := by rw [IntKind.wrap_u32]; omega
  cases h : Lib.parseUintB 32 l with
  | ok u =>
    have eV : u = V := by rw [← hV]; unfold nmV; rw [h]
    subst eV
    have hP := Tryd.strconv_ParseUint_10_at32_ok (tx l) (by omega) u (by rw [ht]; exact h) w
    have hF := fun wx (b : Below w.heap.size w wx) => pfmt u (by omega) wx (L.below b)
    have eO : ((tx (Lib.decDigits u)).toList == (tx l).toList) = O := by rw [tx_list, tx_list, ← hO]; unfold nmO; rw [h]
    obtain ⟨D, hD⟩ : ∃ x, tx (Lib.decDigits u) = x := ⟨_, rfl⟩
    obtain ⟨X, hX⟩ : ∃ x, tx l = x := ⟨_, rfl⟩
    rw [hD, hX] at eO
    rw [hX] at hP ⊢
    rw [hD] at hF
    clear hX hD ht hs hV hO h hl
    go_enter Tryd.func70, Tryd.ntmps70
    go_wp2_with fail
    refine hP.mono ?_
    rintro r w' ⟨rfl, hw⟩
    have bw : Below w.heap.size w w' := by
      rcases hw with rfl | rfl
      · exact Below.refl _ _
      · exact Joins.below_bytesWorld _ _ _ _ (Nat.le_refl _)
    have hF' := hF w' bw
    have HB : Hid (_) := bw
    clear hw hP bw hF
    go_wp2_with fail
    refine hF'.mono ?_
    rintro r w2 ⟨rfl, b2⟩
    have H2 : Hid (_) := b2
    clear hF' b2
    go_wp2_with fail
    go_ret2
    exact ⟨rfl, belTS H2.out HB.out⟩
  | «syntax» =>
    have eV : V = 0 := by rw [← hV]; unfold nmV; rw [h]
    have eO : O = false := by rw [← hO]; unfold nmO; rw [h]
    subst eV
    subst eO
    obtain ⟨tp, p, hvar⟩ := L.es
    have hP := Tryd.strconv_ParseUint_10_at32_syntax_var (tx l) hs (by rw [ht]; exact h) tp p w hvar
    obtain ⟨X, hX⟩ : ∃ x, tx l = x := ⟨_, rfl⟩
    rw [hX] at hP ⊢
    clear hX ht hs hV hO h hl L hvar
    go_enter Tryd.func70, Tryd.ntmps70
    go_wp2_with fail
    refine hP.mono ?_
    rintro r w' ⟨N, rfl, _, _, bw⟩
    have HB : Hid (_) := bw
    clear hP bw
    go_wp2_with fail
    go_ret2
    exact ⟨rfl, HB.out⟩
  | range =>
    have eV : V = 4294967295 := by rw [← hV]; unfold nmV; rw [h]
    have eO : O = false := by rw [← hO]; unfold nmO; rw [h]
    subst eV
    subst eO
    obtain ⟨tp, p, hvar⟩ := L.er
    have hP := Tryd.strconv_ParseUint_10_at32_range_var (tx l) hs (by rw [ht]; exact h) tp p w hvar
    obtain ⟨X, hX⟩ : ∃ x, tx l = x := ⟨_, rfl⟩
    rw [hX] at hP ⊢
    clear hX ht hs hV hO h hl L hvar
    go_enter Tryd.func70, Tryd.ntmps70
    go_wp2_with fail
    refine hP.mono ?_
    rintro r w' ⟨N, rfl, _, _, bw⟩
    have HB : Hid (_) := bw
    clear hP bw
    go_wp2_with fail
    go_ret2
    exact ⟨rfl, HB.out⟩
end Go.Proofs.YtnmnjcjfgbpkaaaDoor
namespace Go.Proofs.YtnmnjcjfgbpkaaaDoor
set_option maxRecDepth 100000
open Go.RowKit Go.Maps
set_option maxRecDepth 100000
set_option linter.unusedVariables false
set_option maxHeartbeats 1000000 in
theorem pnumG (b g o n c : Nat) (x : Bool) (l : List UInt8) (hl : l.length ≤ 281474976710656) (w : World) (L : Lw w) (hb : b ∉ [2, 0, 5, 6]) (hLo : ∀ wx, Off [b] w wx → Lw wx) (h : RB w b (.slice (some ⟨g, o, none⟩) (n + 1) (c + 1)) x) (hw : w.cell? ⟨g, o, none⟩ = some (.string (tx l))) (hc : n ≤ c) (hc2 : c ≤ 9223372036854775807) : Calls Tryd.prog 56 #[.pointer (some ⟨b, 0, none⟩)] w fun r w' => r = .returned (.int .u32 ((nmV l : Nat) : Int)) ∧ RB w' b (.slice (some ⟨g, adv o c, none⟩) n c) (x || !nmO l) ∧ Off [b] w w' := by
  have h1 := pnext b g o n c x (tx l) w h hw hc hc2
  have h2 := fun wx (ho : Off [b] w wx) => pnumOf l hl wx (hLo wx ho)
  obtain ⟨X, hX⟩ : ∃ y, tx l = y := ⟨_, rfl⟩
  obtain ⟨V, hV⟩ : ∃ y, nmV l = y := ⟨_, rfl⟩
  obtain ⟨O, hO⟩ : ∃ y, nmO l = y := ⟨_, rfl⟩
  rw [hX] at h1 h2
  rw [hV, hO] at h2 ⊢
  clear hX hV hO h hw
  go_enter Tryd.func56, Tryd.ntmps56
  go_wp2_with fail
  refine h1.mono ?_
  rintro r w1 ⟨rfl, r1, o1⟩
  have h2' := h2 w1 o1
  have H1 : Hid (_) := And.intro r1 o1
  clear h1 r1 o1 h2
  go_wp2_with fail
  refine h2'.mono ?_
  rintro r w2 ⟨rfl, b2⟩
  have h3 := pexpect b _ x O w2 (RB.below H1.out.1 b2)
  have H2 : Hid (Off [b] w w2) := H1.out.2.trans (Off.of_below b2)
  clear h2' b2
  go_wp2_with fail
  refine h3.mono ?_
  rintro r w3 ⟨rfl, r3, o3⟩
  have H3 : Hid (_) := And.intro r3 (H2.out.trans o3)
  clear h3 r3 o3
  go_wp2_with fail
  go_ret
  exact ⟨rfl, H3.out.1, H3.out.2⟩
/-- How many words stand behind the first one, at least and at most. -/
def plL (k : Nat) : Nat := [0, 3, 1, 3, 5, 3, 2, 3, 2].getD k 0
def plM (k : Nat) : Nat := [0, 4, 1, 3, 5, 3, 2, 3, 2].getD k 0
theorem pplace1 (w : World) : Calls Tryd.prog 40 #[.int .i64 1] w fun r w' => r = .returned (.tuple #[.int .i64 3, .int .i64 4]) ∧ Below w.heap.size w w' := by
  have h1 := plast (m0 1) ⟨by decide, by decide, by decide, by decide, by decide, by decide, by decide⟩ none 0 w
  rw [show (m0 1).ns = [] from rfl] at h1
  have h2 := puses 1
  rw [show sided 1 = true from rfl] at h2
  go_enter Tryd.func40, Tryd.ntmps40
  go_wp2_with fail
  refine Calls.mono h1 ?_
  rintro r w1 ⟨a, c, rfl, q⟩
  have H1 : Hid (_) := q.out.2
  clear h1 q
  go_wp2_with fail
  refine (h2 _).mono ?_
  rintro r w2 ⟨rfl, hw2⟩
  rw [hw2]
  clear hw2 h2
  go_wp2_with fail
  go_ret2
  exact ⟨rfl, H1.out⟩
theorem pplace2 (w : World) : Calls Tryd.prog 40 #[.int .i64 2] w fun r w' => r = .returned (.tuple #[.int .i64 1, .int .i64 1]) ∧ Below w.heap.size w w' := by
  have h1 := plast (m0 2) ⟨by decide, by decide, by decide, by decide, by decide, by decide, by decide⟩ none 0 w
  rw [show (m0 2).ns = [] from rfl] at h1
  have h2 := puses 2
  rw [show sided 2 = false from rfl] at h2
  go_enter Tryd.func40, Tryd.ntmps40
  go_wp2_with fail
  refine Calls.mono h1 ?_
  rintro r w1 ⟨a, c, rfl, q⟩
  have H1 : Hid (_) := q.out.2
  clear h1 q
  go_wp2_with fail
  refine (h2 _).mono ?_
  rintro r w2 ⟨rfl, hw2⟩
  rw [hw2]
  clear hw2 h2
  go_wp2_with fail
  go_ret2
  exact ⟨rfl, H1.out⟩
theorem pplace3 (w : World) : Calls Tryd.prog 40 #[.int .i64 3] w fun r w' => r = .returned (.tuple #[.int .i64 3, .int .i64 3]) ∧ Below w.heap.size w w' := by
  have h1 := plast (m0 3) ⟨by decide, by decide, by decide, by decide, by decide, by decide, by decide⟩ none 0 w
  rw [show (m0 3).ns = [0] from rfl] at h1
  have h2 := puses 3
  rw [show sided 3 = true from rfl] at h2
  go_enter Tryd.func40, Tryd.ntmps40
  go_wp2_with fail
  refine Calls.mono h1 ?_
  rintro r w1 ⟨a, c, rfl, q⟩
  have H1 : Hid (_) := q.out.2
  clear h1 q
  go_wp2_with fail
  refine (h2 _).mono ?_
  rintro r w2 ⟨rfl, hw2⟩
  rw [hw2]
  clear hw2 h2
  go_wp2_with fail
  go_ret2
  exact ⟨rfl, H1.out⟩
theorem pplace4 (w : World) : Calls Tryd.prog 40 #[.int .i64 4] w fun r w' => r = .returned (.tuple #[.int .i64 5, .int .i64 5]) ∧ Below w.heap.size w w' := by
  have h1 := plast (m0 4) ⟨by decide, by decide, by decide, by decide, by decide, by decide, by decide⟩ none 0 w
  rw [show (m0 4).ns = [0, 0, 0] from rfl] at h1
  have h2 := puses 4
  rw [show sided 4 = true from rfl] at h2
  go_enter Tryd.func40, Tryd.ntmps40
  go_wp2_with fail
  refine Calls.mono h1 ?_
  rintro r w1 ⟨a, c, rfl, q⟩
  have H1 : Hid (_) := q.out.2
  clear h1 q
  go_wp2_with fail
  refine (h2 _).mono ?_
  rintro r w2 ⟨rfl, hw2⟩
  rw [hw2]
  clear hw2 h2
  go_wp2_with fail
  go_ret2
  exact ⟨rfl, H1.out⟩
theorem pplace5 (w : World) : Calls Tryd.prog 40 #[.int .i64 5] w fun r w' => r = .returned (.tuple #[.int .i64 3, .int .i64 3]) ∧ Below w.heap.size w w' := by
  have h1 := plast (m0 5) ⟨by decide, by decide, by decide, by decide, by decide, by decide, by decide⟩ none 0 w
  rw [show (m0 5).ns = [0] from rfl] at h1
  have h2 := puses 5
  rw [show sided 5 = true from rfl] at h2
  go_enter Tryd.func40, Tryd.ntmps40
  go_wp2_with fail
  refine Calls.mono h1 ?_
  rintro r w1 ⟨a, c, rfl, q⟩
  have H1 : Hid (_) := q.out.2
  clear h1 q
  go_wp2_with fail
  refine (h2 _).mono ?_
  rintro r w2 ⟨rfl, hw2⟩
  rw [hw2]
  clear hw2 h2
  go_wp2_with fail
  go_ret2
  exact ⟨rfl, H1.out⟩
theorem pplace6 (w : World) : Calls Tryd.prog 40 #[.int .i64 6] w fun r w' => r = .returned (.tuple #[.int .i64 2, .int .i64 2]) ∧ Below w.heap.size w w' := by
  have h1 := plast (m0 6) ⟨by decide, by decide, by decide, by decide, by decide, by decide, by decide⟩ none 0 w
  rw [show (m0 6).ns = [] from rfl] at h1
  have h2 := puses 6
  rw [show sided 6 = true from rfl] at h2
  go_enter Tryd.func40, Tryd.ntmps40
  go_wp2_with fail
  refine Calls.mono h1 ?_
  rintro r w1 ⟨a, c, rfl, q⟩
  have H1 : Hid (_) := q.out.2
  clear h1 q
  go_wp2_with fail
  refine (h2 _).mono ?_
  rintro r w2 ⟨rfl, hw2⟩
  rw [hw2]
  clear hw2 h2
  go_wp2_with fail
  go_ret2
  exact ⟨rfl, H1.out⟩
theorem pplace7 (w : World) : Calls Tryd.prog 40 #[.int .i64 7] w fun r w' => r = .returned (.tuple #[.int .i64 3, .int .i64 3]) ∧ Below w.heap.size w w' := by
  have h1 := plast (m0 7) ⟨by decide, by decide, by decide, by decide, by decide, by decide, by decide⟩ none 0 w
  rw [show (m0 7).ns = [0] from rfl] at h1
  have h2 := puses 7
  rw [show sided 7 = true from rfl] at h2
  go_enter Tryd.func40, Tryd.ntmps40
  go_wp2_with fail
  refine Calls.mono h1 ?_
  rintro r w1 ⟨a, c, rfl, q⟩
  have H1 : Hid (_) := q.out.2
  clear h1 q
  go_wp2_with fail
  refine (h2 _).mono ?_
  rintro r w2 ⟨rfl, hw2⟩
  rw [hw2]
  clear hw2 h2
  go_wp2_with fail
  go_ret2
  exact ⟨rfl, H1.out⟩
theorem pplace8 (w : World) : Calls Tryd.prog 40 #[.int .i64 8] w fun r w' => r = .returned (.tuple #[.int .i64 2, .int .i64 2]) ∧ Below w.heap.size w w' := by
  have h1 := plast (m0 8) ⟨by decide, by decide, by decide, by decide, by decide, by decide, by decide⟩ none 0 w
  rw [show (m0 8).ns = [0] from rfl] at h1
  have h2 := puses 8
  rw [show sided 8 = false from rfl] at h2
  go_enter Tryd.func40, Tryd.ntmps40
  go_wp2_with fail
  refine Calls.mono h1 ?_
  rintro r w1 ⟨a, c, rfl, q⟩
  have H1 : Hid (_) := q.out.2
  clear h1 q
  go_wp2_with fail
  refine (h2 _).mono ?_
  rintro r w2 ⟨rfl, hw2⟩
  rw [hw2]
  clear hw2 h2
  go_wp2_with fail
  go_ret2
  exact ⟨rfl, H1.out⟩
theorem pplaces (k : Nat) (hk : 1 ≤ k ∧ k ≤ 8) (w : World) : Calls Tryd.prog 40 #[.int .i64 ((k : Nat) : Int)] w fun r w' => r = .returned (.tuple #[.int .i64 ((plL k : Nat) : Int), .int .i64 ((plM k : Nat) : Int)]) ∧ Below w.heap.size w w' := by
  have h : k = 1 ∨ k = 2 ∨ k = 3 ∨ k = 4 ∨ k = 5 ∨ k = 6 ∨ k = 7 ∨ k = 8 := by omega
  rcases h with rfl | rfl | rfl | rfl | rfl | rfl | rfl | rfl
  · exact pplace1 w
  · exact pplace2 w
  · exact pplace3 w
  · exact pplace4 w
  · exact pplace5 w
  · exact pplace6 w
  · exact pplace7 w
  · exact pplace8 w
end Go.Proofs.YtnmnjcjfgbpkaaaDoor
namespace Go.Proofs.YtnmnjcjfgbpkaaaDoor
set_option maxRecDepth 100000
open Go.RowKit Go.Maps
set_option maxRecDepth 100000
def hexD : List UInt8 := [48, 49, 50, 51, 52, 53, 54, 55, 56, 57, 97, 98, 99, 100, 101, 102]
/-- A digit's value; -1. -/
def dgI (c : UInt8) : Int := Lib.indexByte hexD c
theorem dgI_fin : ∀ n : Fin 256, -1 ≤ dgI (UInt8.ofNat n.val) ∧ dgI (UInt8.ofNat n.val) ≤ 15 := by decide +kernel
theorem dgI_le (c : UInt8) : -1 ≤ dgI c ∧ dgI c ≤ 15 := by
  have h := dgI_fin ⟨c.toNat, c.toNat_lt⟩
  simpa using h
/-- The j-th pair of a list of digits. -/
def pr (l : List UInt8) (j : Nat) : Nat := (dgI (l.getD (2 * j) 0) * 16 + dgI (l.getD (2 * j + 1) 0)).toNat
def prOk (l : List UInt8) (j : Nat) : Prop := 0 ≤ dgI (l.getD (2 * j) 0) ∧ 0 ≤ dgI (l.getD (2 * j + 1) 0)
instance (l : List UInt8) (j : Nat) : Decidable (prOk l j) := inferInstanceAs (Decidable (_ ∧ _))
theorem pr_lt {l : List UInt8} {j : Nat} : pr l j < 256 := by
  unfold pr
  have h1 := dgI_le (l.getD (2 * j) 0)
  have h2 := dgI_le (l.getD (2 * j + 1) 0)
  omega
/-- Is it data, and which bytes. -/
def dtO (l : List UInt8) : Bool := Lib.hasPrefix l [120] && decide ((Lib.trimPrefix l [120]).length % 2 = 0) && decide ((Lib.trimPrefix l [120]).length ≤ 16) && (List.range ((Lib.trimPrefix l [120]).length / 2)).all fun j => decide (prOk (Lib.trimPrefix l [120]) j)
theorem sidx (l : List UInt8) (i : Nat) (h : i < l.length) : ∀ w, (Instr.index 9 (.string (tx l)) (.int .i64 ((i : Nat) : Int))).run Tryd.prog w = .ok (.int .u8 (((l.getD i 0).toNat : Nat) : Int)) w := fun w => by
  have h1 : ((i : Nat) : Int) < (((tx l).size : Nat) : Int) := by rw [tx_size]; omega
  have h2 : (0 : Int) ≤ ((i : Nat) : Int) := by omega
  go_simp
  rfl
theorem or4_fin : ∀ a : Fin 16, ∀ b : Fin 16, bits .or .i64 (((a.val : Nat) : Int) * 16) ((b.val : Nat) : Int) = ((a.val * 16 + b.val : Nat) : Int) := by decide +kernel
theorem one_u8 (w : World) (x : Nat) : ∀ j u, ([.int .u8 ((x : Nat) : Int)] : List Value)[j]? = some u → (w.alloc (.cells #[.int .u8 ((x : Nat) : Int)] 5)).cell? ((⟨w.heap.size, 0, none⟩ : Addr).add j) = some u := fun j u hu => by
  have e : (Addr.add ⟨w.heap.size, 0, none⟩ j) = ⟨w.heap.size, j, none⟩ := by unfold Addr.add; simp; omega
  rw [e, cell_of_row _ w.heap.size j _ _ _ (heap_alloc_new w (.cells #[.int .u8 ((x : Nat) : Int)] 5))]
  simpa using hu
set_option maxHeartbeats 2000000 in
/-- The digits, pair by pair. -/
theorem pdataOf (l : List UInt8) (w : World) : Calls Tryd.prog 74 #[.string (tx l)] w fun r w' => ∃ v, r = .returned (.tuple #[v, .bool (dtO l)]) ∧ Hid ((dtO l = false → v = .slice none 0 0) ∧ (dtO l = true → w'.ownsRow w.heap.size 5 1 v ((Lib.trimPrefix l [120]).length / 2) (CB (pr (Lib.trimPrefix l [120])) ((Lib.trimPrefix l [120]).length / 2))) ∧ Below w.heap.size w w') := by
  have hC := Tryd.strings_CutPrefix (tx l) (ByteArray.mk #[120]) w
  rw [show (tx l).data.toList = l by simp [tx], show (ByteArray.mk #[120]).data.toList = [120] from rfl] at hC
  obtain ⟨O, hO⟩ : ∃ x, dtO l = x := ⟨_, rfl⟩
  rw [hO]
  unfold dtO at hO
  obtain ⟨P, hP⟩ : ∃ x, Lib.trimPrefix l [120] = x := ⟨_, rfl⟩
  obtain ⟨M, hM⟩ : ∃ x, Lib.hasPrefix l [120] = x := ⟨_, rfl⟩
  rw [hP, hM] at hC hO
  rw [hP]
  have hs := sidx P
  have hPs : (tx P).size = P.length := tx_size P
  obtain ⟨Y, hY⟩ : ∃ x, tx l = x := ⟨_, rfl⟩
  obtain ⟨X, hX⟩ : ∃ x, tx P = x := ⟨_, rfl⟩
  have hC' : Calls Tryd.prog 84 #[.string Y, .string (ByteArray.mk #[120])] w fun e w' => e = .returned (.tuple #[.string X, .bool M]) ∧ w' = w := by
    rw [← hY, ← hX]
    exact hC
  rw [hY]
  rw [hX] at hs hPs
  have HO : Hid (_) := hO
  clear hC hY hX hP hM hO
  by_cases hg : M = true ∧ P.length % 2 = 0 ∧ P.length ≤ 16
  · obtain ⟨rfl, h2, h16⟩ := hg
    obtain ⟨n, hn⟩ : ∃ n, P.length = 2 * n := ⟨P.length / 2, by omega⟩
    have hn2 : P.length / 2 = n := by omega
    rw [hn2]
    have HO2 : Hid (O = (List.range n).all fun j => decide (prOk P j)) := by
      show O = _
      rw [← HO.out, hn2]
      simp [h2, h16]
    rw [hn] at hPs
    have t2 : Int.tmod ((X.size : Nat) : Int) 2 = 0 := by rw [hPs, Int.tmod_eq_emod_of_nonneg (by omega)]; omega
    have g2 : ¬ (16 : Int) < ((X.size : Nat) : Int) := by rw [hPs]; omega
    have hI := Tryd.strings_IndexByte (ByteArray.mk #[48, 49, 50, 51, 52, 53, 54, 55, 56, 57, 97, 98, 99, 100, 101, 102])
    rw [show (ByteArray.mk #[48, 49, 50, 51, 52, 53, 54, 55, 56, 57, 97, 98, 99, 100, 101, 102]).data.toList = hexD from rfl] at hI
    have hIc : ∀ (c : UInt8) (wx : World), Calls Tryd.prog 85 #[.string (ByteArray.mk #[48, 49, 50, 51, 52, 53, 54, 55, 56, 57, 97, 98, 99, 100, 101, 102]), .int .u8 ((c.toNat : Nat) : Int)] wx fun e w' => e = .returned (.int .i64 (dgI c)) ∧ w' = wx := fun c wx => by
      have h := hI ((c.toNat : Nat) : Int) wx
      have e : (((c.toNat : Nat) : Int)).toNat.toUInt8 = c := by simp
      rw [e] at h
      exact h
    clear hI HO h2
    go_enter Tryd.func74, Tryd.ntmps74
    go_wp2_with fail
    refine hC'.mono ?_
    rintro r w' ⟨rfl, hw⟩
    rw [hw]
    clear hw hC' w'
    go_wp2_with fail
    go_loopw [6, 7, 8, 9, 28, 29, 30, 31, 32, 33, 34, 35, 36, 37, 38, 39, 40, 41, 42, 43, 44, 45, 46, 47, 48, 49, 50, 51, 52, 53, 54, 55, 56] (fun v c _ _ _ _ _ _ _ _ _ _ _ _ _ _ _ _ _ _ _ _ _ _ _ _ _ _ _ _ _ _ _ wr => ∃ i : Nat, i ≤ n ∧ c = .int .i64 ((2 * i : Nat) : Int) ∧ Hid (wr.ownsRow w.heap.size 5 1 v i (CB (pr P) i) ∧ (∀ j, j < i → prOk P j) ∧ Below w.heap.size w wr)) (fun _ c _ _ _ _ _ _ _ _ _ _ _ _ _ _ _ _ _ _ _ _ _ _ _ _ _ _ _ _ _ _ _ _ => 2 * n - natV c)
    case atStart => exact ⟨0, by omega, rfl, ⟨rfl, .inl ⟨rfl, rfl⟩⟩, fun j hj => absurd hj (by omega), Below.refl _ _⟩
    case round =>
      obtain ⟨i, hi, rfl, HI⟩ := hrel
      by_cases hlt : i < n
      · have hlt' : ((2 * i : Nat) : Int) < ((X.size : Nat) : Int) := by rw [hPs]; omega
        have s1 := hs (2 * i) (by omega)
        have s2 := hs (2 * i + 1) (by omega)
        have hw1 : IntKind.i64.wrap (((2 * i : Nat) : Int) + 1) = ((2 * i + 1 : Nat) : Int) := by rw [IntKind.wrap_i64]; omega
        have hw2 : IntKind.i64.wrap (((2 * i : Nat) : Int) + 2) = ((2 * i + 2 : Nat) : Int) := by rw [IntKind.wrap_i64]; omega
        have r1 := dgI_le (P.getD (2 * i) 0)
        have r2 := dgI_le (P.getD (2 * i + 1) 0)
        have ep : pr P i = (dgI (P.getD (2 * i) 0) * 16 + dgI (P.getD (2 * i + 1) 0)).toNat := rfl
        have eo : prOk P i ↔ 0 ≤ dgI (P.getD (2 * i) 0) ∧ 0 ≤ dgI (P.getD (2 * i + 1) 0) := Iff.rfl
        have I1 := hIc (P.getD (2 * i) 0)
        have I2 := hIc (P.getD (2 * i + 1) 0)
        obtain ⟨ca, hca⟩ : ∃ x, (P.getD (2 * i) 0).toNat = x := ⟨_, rfl⟩
        obtain ⟨cb, hcb⟩ : ∃ x, (P.getD (2 * i + 1) 0).toNat = x := ⟨_, rfl⟩
        obtain ⟨A, hA⟩ : ∃ x, dgI (P.getD (2 * i) 0) = x := ⟨_, rfl⟩
        obtain ⟨B, hB⟩ : ∃ x, dgI (P.getD (2 * i + 1) 0) = x := ⟨_, rfl⟩
        rw [hca] at s1 I1
        rw [hcb] at s2 I2
        rw [hA] at I1 r1
        rw [hB] at I2 r2
        rw [hA, hB] at ep eo
        obtain ⟨J, hJ⟩ : ∃ x, 2 * i = x := ⟨_, rfl⟩
        rw [hJ] at s1 s2 hw1 hw2 hlt' ⊢
        obtain ⟨J1, hJ1⟩ : ∃ x, J + 1 = x := ⟨_, rfl⟩
        obtain ⟨J2, hJ2⟩ : ∃ x, J + 2 = x := ⟨_, rfl⟩
        rw [hJ1] at s2 hw1
        rw [hJ2] at hw2
        have e2 : J2 = 2 * (i + 1) := by omega
        have HH : Hid (_) := And.intro ep (And.intro eo (And.intro e2 hJ))
        clear hca hcb hA hB ep eo hs hIc hJ hJ1 hJ2 e2
        have no : ¬ prOk P i → Hid (O = false) := fun h => by
          show O = false
          rw [HO2.out]
          simp only [List.all_eq_false]
          exact ⟨i, List.mem_range.2 hlt, by simpa using h⟩
        by_cases hA : A < 0
        · have HF := no (fun h => by have := (HH.out.2.1.1 h).1; omega)
          clear no
          go_wp2_with fail
          refine (I1 _).mono ?_
          rintro r w' ⟨rfl, hw⟩
          rw [hw]
          clear hw w'
          go_wp2_with fail
          refine (I2 _).mono ?_
          rintro r w' ⟨rfl, hw⟩
          rw [hw]
          clear hw w'
          go_wp2_with fail
          go_ret2
          exact ⟨_, by rw [HF.out]; rfl, fun _ => rfl, fun h => (by rw [HF.out] at h; cases h), HI.out.2.2⟩
        by_cases hB : B < 0
        · have HF := no (fun h => by have := (HH.out.2.1.1 h).2; omega)
          clear no
          go_wp2_with fail
          refine (I1 _).mono ?_
          rintro r w' ⟨rfl, hw⟩
          rw [hw]
          clear hw w'
          go_wp2_with fail
          refine (I2 _).mono ?_
          rintro r w' ⟨rfl, hw⟩
          rw [hw]
          clear hw w'
          go_wp2_with fail
          go_ret2
          exact ⟨_, by rw [HF.out]; rfl, fun _ => rfl, fun h => (by rw [HF.out] at h; cases h), HI.out.2.2⟩
        clear no
        obtain ⟨x, rfl⟩ : ∃ x : Nat, A = ((x : Nat) : Int) := ⟨A.toNat, by omega⟩
        obtain ⟨y, rfl⟩ : ∃ y : Nat, B = ((y : Nat) : Int) := ⟨B.toNat, by omega⟩
        have hx : x < 16 := by omega
        have hy : y < 16 := by omega
        have eor := or4_fin ⟨x, hx⟩ ⟨y, hy⟩
        simp only at eor
        have es : IntKind.i64.wrap (((x : Nat) : Int) * 16) = ((x : Nat) : Int) * 16 := by rw [IntKind.wrap_i64]; omega
        have eu : IntKind.u8.wrap ((x * 16 + y : Nat) : Int) = ((x * 16 + y : Nat) : Int) := by rw [IntKind.wrap_u8]; omega
        obtain ⟨Z, hZ⟩ : ∃ z, x * 16 + y = z := ⟨_, rfl⟩
        rw [hZ] at eor eu
        have O3 := ownB HI.out.1 (belA (Below.refl _ wr) (.cells #[.int .u8 ((Z : Nat) : Int)] 5))
        have B3 : w.heap.size ≤ (wr.alloc (.cells #[.int .u8 ((Z : Nat) : Int)] 5)).heap.size := Nat.le_trans HI.out.2.2.size (belA (Below.refl _ wr) (.cells #[.int .u8 ((Z : Nat) : Int)] 5)).size
        have N3 := one_u8 wr Z
        have M3 : ∀ u ∈ ([.int .u8 ((Z : Nat) : Int)] : List Value), u.oneCell' = true := fun u hu => by rw [List.mem_singleton.1 hu]; rfl
        obtain ⟨i0, hIn, hz0, hz1, hz2⟩ := info_parts info_u8
        have eZ : pr P i = Z := by have := HH.out.1; omega
        have HK : Hid (Below w.heap.size w (wr.alloc (.cells #[.int .u8 ((Z : Nat) : Int)] 5)) ∧ pr P i = Z) := ⟨belA HI.out.2.2 _, eZ⟩
        have hi8 : i ≤ 8 := by omega
        clear hZ eZ
        go_wp2_with fail
        refine (I1 _).mono ?_
        rintro r w' ⟨rfl, hw⟩
        rw [hw]
        clear hw w'
        go_wp2_with fail
        refine (I2 _).mono ?_
        rintro r w' ⟨rfl, hw⟩
        rw [hw]
        clear hw w' I1 I2
        go_wp2_with (at_builtin; refine wpList_append_own_at _ rfl _ _ 43 rfl w.heap.size 5 i0 (.int .u8 0) 1 1 Tryd.underlying43 hIn hz0 hz1 hz2 rfl (by decide) u6 i (CB (pr P) i) rfl O3 ⟨wr.heap.size, 0, none⟩ 1 1 [.int .u8 ((Z : Nat) : Int)] rfl rfl N3 M3 (by unfold maxLen; omega) (by omega) B3 ?_)
        intro v7 w7 O7 G7 _ _
        have HF : Hid (w7.ownsRow w.heap.size 5 1 v7 (i + 1) (CB (pr P) (i + 1)) ∧ (∀ j, j < i + 1 → prOk P j) ∧ Below w.heap.size w w7) := by
          refine ⟨?_, fun j hj => ?_, HK.out.1.grown G7 HK.out.1.size (fun k hk => (O3.lt k hk).1)⟩
          · have e : CB (pr P) (i + 1) = CB (pr P) i ++ [.int .u8 ((Z : Nat) : Int)] := by
              unfold CB
              rw [List.range_succ, List.map_append]
              simp [HK.out.2]
            rw [e]
            exact O7
          · by_cases hji : j < i
            · exact HI.out.2.1 j hji
            · obtain rfl : j = i := by omega
              exact HH.out.2.1.2 ⟨by omega, by omega⟩
        obtain ⟨x7, y7, rfl, _⟩ := own_slcS O7
        clear O7 G7 O3 B3 N3 M3 HI hIn hz0 hz1 hz2
        go_wp2_with fail
        go_roundw
        case rel => exact ⟨i + 1, by omega, by rw [← HH.out.2.2.1], HF⟩
        case measure =>
          have := HH.out.2.2
          simp [natV]
          omega
      · obtain rfl : i = n := by omega
        have hlt' : ¬ ((2 * i : Nat) : Int) < ((X.size : Nat) : Int) := by rw [hPs]; omega
        have HT : Hid (O = true) := by
          show O = true
          rw [HO2.out]
          simp only [List.all_eq_true]
          intro j hj
          simpa using HI.out.2.1 j (List.mem_range.1 hj)
        go_wp2_with fail
        go_ret2
        exact ⟨_, by rw [HT.out]; rfl, fun h => (by rw [HT.out] at h; cases h), fun _ => HI.out.1, HI.out.2.2⟩
  · have HF : Hid (O = false) := by
      show O = false
      rw [← HO.out]
      cases M with
      | false => simp
      | true =>
        have : ¬ (P.length % 2 = 0 ∧ P.length ≤ 16) := fun h => hg ⟨rfl, h⟩
        by_cases h2 : P.length % 2 = 0
        · have : ¬ P.length ≤ 16 := fun h => this ⟨h2, h⟩
          simp [this]
        · simp [h2]
    rw [HF.out]
    clear HF HO
    cases M with
    | false =>
      clear hg hs
      go_enter Tryd.func74, Tryd.ntmps74
      go_wp2_with fail
      refine hC'.mono ?_
      rintro r w' ⟨rfl, hw⟩
      rw [hw]
      clear hw hC'
      go_wp2_with fail
      go_ret2
      exact ⟨_, rfl, fun _ => rfl, fun h => (by cases h), Below.refl _ _⟩
    | true =>
      by_cases h2 : P.length % 2 = 0
      · have h16 : ¬ P.length ≤ 16 := fun h => hg ⟨rfl, h2, h⟩
        have t2 : Int.tmod ((X.size : Nat) : Int) 2 = 0 := by rw [hPs, Int.tmod_eq_emod_of_nonneg (by omega)]; omega
        have g2 : (16 : Int) < ((X.size : Nat) : Int) := by rw [hPs]; omega
        clear hg hs hPs h2 h16
        go_enter Tryd.func74, Tryd.ntmps74
        go_wp2_with fail
        refine hC'.mono ?_
        rintro r w' ⟨rfl, hw⟩
        rw [hw]
        clear hw hC'
        go_wp2_with fail
        go_ret2
        exact ⟨_, rfl, fun _ => rfl, fun h => (by cases h), Below.refl _ _⟩
      · have t2 : Int.tmod ((X.size : Nat) : Int) 2 = 1 := by rw [hPs, Int.tmod_eq_emod_of_nonneg (by omega)]; omega
        clear hg hs hPs h2
        go_enter Tryd.func74, Tryd.ntmps74
        go_wp2_with fail
        refine hC'.mono ?_
        rintro r w' ⟨rfl, hw⟩
        rw [hw]
        clear hw hC'
        go_wp2_with fail
        go_ret2
        exact ⟨_, rfl, fun _ => rfl, fun h => (by cases h), Below.refl _ _⟩
end Go.Proofs.YtnmnjcjfgbpkaaaDoor
namespace Go.Proofs.YtnmnjcjfgbpkaaaDoor
set_option maxRecDepth 100000
open Go.RowKit Go.Maps
set_option maxRecDepth 100000
set_option maxHeartbeats 1000000 in
theorem pkind_none (l : List UInt8) (hl : ∀ k, 1 ≤ k → k ≤ 8 → kws[k]? ≠ some l) (w : World) (L : Lw w) : Calls Tryd.prog 39 #[.string (tx l)] w fun r w' => r = .returned (.tuple #[.int .i64 0, .bool false]) ∧ w' = w := by
  obtain ⟨X, hX⟩ : ∃ x, tx l = x := ⟨_, rfl⟩
  rw [hX]
  have HX : Hid (_) := hX
  have HL : Hid (_) := And.intro L hl
  clear hX L hl
  go_enter Tryd.func39, Tryd.ntmps39
  go_wp2_with fail
  go_loopw [4, 5, 6, 7, 8, 9, 10, 11, 12, 13, 14] (fun c _ _ _ _ _ _ _ _ _ _ wr => ∃ i : Nat, 1 ≤ i ∧ i ≤ 9 ∧ c = .int .i64 ((i : Nat) : Int) ∧ wr = w) (fun c _ _ _ _ _ _ _ _ _ _ _ => 9 - natV c)
  case atStart => exact ⟨1, by omega, by omega, rfl, rfl⟩
  case round =>
    obtain ⟨i, hi, hik, rfl, rfl⟩ := hrel
    by_cases hi9 : i < 9
    · obtain ⟨Kw, hKw⟩ : ∃ l, kws[i]? = some l := by
        have : i < kws.length := hi9
        exact ⟨_, List.getElem?_eq_getElem this⟩
      have g0 := HL.out.1.word i hKw
      have g1 : ((i : Nat) : Int) ≤ 8 := by omega
      have g2 : (0 : Int) ≤ ((i : Nat) : Int) := by omega
      have g3 : ((i : Nat) : Int) < 9 := by omega
      have hw1 : IntKind.i64.wrap (((i : Nat) : Int) + 1) = ((i + 1 : Nat) : Int) := by rw [IntKind.wrap_i64]; omega
      obtain ⟨KW, hKW⟩ : ∃ x, tx Kw = x := ⟨_, rfl⟩
      rw [hKW] at g0
      have e : (KW.toList == X.toList) = false := by
        have : Kw ≠ l := fun h => HL.out.2 i hi (by omega) (by rw [hKw, h])
        rw [← hKW, ← HX.out, tx_list, tx_list]
        simpa using this
      clear hKW hKw
      go_wp2_with fail
      go_roundw
      case rel => exact ⟨i + 1, by omega, by omega, by first | rfl | go_num, by first | trivial | rfl⟩
      case measure => simp [natV] <;> omega
    · have g1 : ¬ ((i : Nat) : Int) ≤ 8 := by omega
      go_wp2_with fail
      go_ret2
      exact ⟨rfl, rfl⟩
end Go.Proofs.YtnmnjcjfgbpkaaaDoor
