/- Layer 21: what the package-level variables hold; words of states, kinds, sides; decimals. -/
import Derived.Test.YtbhbjdmdabkomaaDoorSi
namespace Go.Proofs.YtbhbjdmdabkomaaDoor
set_option maxRecDepth 100000
open Go.RowKit Go.Maps
set_option maxRecDepth 100000
/-- The states' words, the facts'. -/
def sws : List (List UInt8) := [[], [105, 100, 108, 101], [111, 102, 102, 101, 114, 101, 100], [97, 103, 114, 101, 101, 100], [114, 117, 110, 110, 105, 110, 103], [100, 111, 110, 101], [100, 111, 119, 110]]
def fws : List (List UInt8) := [[], [115, 101, 110, 116], [116, 97, 107, 101, 110], [115, 101, 115, 115, 105, 111, 110], [102, 114, 101, 115, 104], [116, 105, 99, 107], [97, 99, 107], [114, 101, 115, 101, 116], [111, 117, 116]]
structure Lt (w : World) : Prop where
  pow : Lib.TabIs Tryd.prog w "internal/strconv.uint64pow10" .u64 Lib.pow10Tab
  sw : w.var? Tryd.prog "parapet/trace.stateWords" = some (sws.map fun l => Value.string (tx l)).toArray
  fw : w.var? Tryd.prog "parapet/trace.factWords" = some (fws.map fun l => Value.string (tx l)).toArray
theorem Lt.below {w w' : World} (h : Lt w) (b : Below w.heap.size w w') : Lt w' := ⟨varB h.pow b, varB h.sw b, varB h.fw b⟩
theorem Lt.p {w : World} (h : Lt w) : Lp w := ⟨h.pow⟩
/-- A state's word, a fact's, a side's. -/
def stW (s : Int) : List UInt8 := if 1 ≤ s ∧ s ≤ 6 then sws.getD s.toNat [] else 63 :: Lib.itoa s
def fcW (k : Int) : List UInt8 := if 1 ≤ k ∧ k ≤ 8 then fws.getD k.toNat [] else [63]
def siW (s : Int) : List UInt8 := if s = 1 then [104] else if s = 2 then [100] else [63]
def onW (o : Bool) : List UInt8 := if o then [111, 110] else [111, 102, 102]
theorem sws_len (i : Nat) : (sws.getD i []).length ≤ 7 := by
  rw [List.getD_eq_getElem?_getD]
  cases h : sws[i]? with
  | none => simp
  | some l =>
    have : l ∈ sws := List.mem_of_getElem? h
    have hall : ∀ l ∈ sws, l.length ≤ 7 := by decide
    simpa using hall l this
theorem fws_len (i : Nat) : (fws.getD i []).length ≤ 7 := by
  rw [List.getD_eq_getElem?_getD]
  cases h : fws[i]? with
  | none => simp
  | some l =>
    have : l ∈ fws := List.mem_of_getElem? h
    have hall : ∀ l ∈ fws, l.length ≤ 7 := by decide
    simpa using hall l this
theorem stW_len {s : Int} (h0 : -9223372036854775808 ≤ s) (h1 : s ≤ 9223372036854775807) : (stW s).length ≤ 21 := by
  unfold stW
  split
  · have := sws_len s.toNat
    omega
  · have := itoa_len h0 h1
    simp
    omega
theorem fcW_len (k : Int) : (fcW k).length ≤ 7 := by
  unfold fcW
  split
  · exact fws_len k.toNat
  · simp
theorem siW_len (s : Int) : (siW s).length = 1 := by
  unfold siW
  repeat' split
  all_goals rfl
theorem onW_len (o : Bool) : (onW o).length ≤ 3 := by
  unfold onW
  split <;> simp
theorem gSw : Tryd.prog.globalNamed "parapet/trace.stateWords" = some 1 := by kernel_rfl
theorem Lt.st {w : World} (h : Lt w) (i : Nat) {l : List UInt8} (hi : sws[i]? = some l) : w.cell? ⟨1, i, none⟩ = some (.string (tx l)) := by
  have := World.var?_cell gSw h.sw i
  rw [this]
  simp [hi]
theorem gFw : Tryd.prog.globalNamed "parapet/trace.factWords" = some 2 := by kernel_rfl
theorem Lt.fc {w : World} (h : Lt w) (i : Nat) {l : List UInt8} (hi : fws[i]? = some l) : w.cell? ⟨2, i, none⟩ = some (.string (tx l)) := by
  have := World.var?_cell gFw h.fw i
  rw [this]
  simp [hi]
theorem tside (s : Int) (w : World) : Calls Tryd.prog 86 #[.int .i64 s] w fun r w' => r = .returned (.string (tx (siW s))) ∧ w' = w := by
  unfold siW
  by_cases h1 : s = 1
  · subst h1
    go_enter Tryd.func86, Tryd.ntmps86
    go_wp2_with fail
    go_ret
    exact ⟨rfl, rfl⟩
  · rw [if_neg h1]
    by_cases h2 : s = 2
    · subst h2
      clear h1
      go_enter Tryd.func86, Tryd.ntmps86
      go_wp2_with fail
      go_ret
      exact ⟨rfl, rfl⟩
    · rw [if_neg h2]
      have g1 : (s == 1) = false := by simpa using h1
      have g2 : (s == 2) = false := by simpa using h2
      go_enter Tryd.func86, Tryd.ntmps86
      go_wp2_with fail
      go_ret
      exact ⟨rfl, rfl⟩
theorem tonw (o : Bool) (w : World) : Calls Tryd.prog 102 #[.bool o] w fun r w' => r = .returned (.string (tx (onW o))) ∧ w' = w := by
  cases o
  all_goals
    go_enter Tryd.func102, Tryd.ntmps102
    go_wp2_with fail
    go_ret
    exact ⟨rfl, rfl⟩
theorem tfactw (k : Int) (w : World) (L : Lt w) : Calls Tryd.prog 85 #[.int .i64 k] w fun r w' => r = .returned (.string (tx (fcW k))) ∧ w' = w := by
  by_cases hk : 1 ≤ k ∧ k ≤ 8
  · obtain ⟨kk, rfl⟩ : ∃ kk : Nat, k = ((kk : Nat) : Int) := ⟨k.toNat, by omega⟩
    have hk9 : kk < 9 := by omega
    obtain ⟨Kw, hKw⟩ : ∃ l, fws[kk]? = some l := ⟨_, List.getElem?_eq_getElem (show kk < fws.length from hk9)⟩
    have g0 := L.fc kk hKw
    have e : fcW ((kk : Nat) : Int) = Kw := by
      unfold fcW
      rw [if_pos hk, Int.toNat_natCast, List.getD_eq_getElem?_getD, hKw]
      rfl
    rw [e]
    obtain ⟨X, hX⟩ : ∃ X, tx Kw = X := ⟨_, rfl⟩
    rw [hX] at g0 ⊢
    have q1 : decide (((kk : Nat) : Int) < 1) = false := by simp; omega
    have q2 : decide ((8 : Int) < ((kk : Nat) : Int)) = false := by simp; omega
    have n1 : ¬ ((kk : Nat) : Int) < 1 := by omega
    have n2 : ¬ (8 : Int) < ((kk : Nat) : Int) := by omega
    have hk0 : (0 : Int) ≤ ((kk : Nat) : Int) := by omega
    have hk9' : ((kk : Nat) : Int) < 9 := by omega
    clear e hX hKw hk L hk9
    go_enter Tryd.func85, Tryd.ntmps85
    go_wp2_with fail
    go_ret
    exact ⟨rfl, rfl⟩
  · have e : fcW k = [63] := by unfold fcW; rw [if_neg hk]
    rw [e]
    by_cases h1 : k < 1
    · clear L hk e
      go_enter Tryd.func85, Tryd.ntmps85
      go_wp2_with fail
      go_ret
      exact ⟨rfl, rfl⟩
    · have h8 : 8 < k := by omega
      have h8' : k > 8 := h8
      clear L hk e
      go_enter Tryd.func85, Tryd.ntmps85
      go_wp2_with fail
      go_ret
      exact ⟨rfl, rfl⟩
theorem tstate (s : Int) (h0 : -9223372036854775808 ≤ s) (h1 : s ≤ 9223372036854775807) (w : World) (L : Lt w) : Calls Tryd.prog 80 #[.int .i64 s] w fun r w' => r = .returned (.string (tx (stW s))) ∧ Below w.heap.size w w' := by
  by_cases hk : 1 ≤ s ∧ s ≤ 6
  · obtain ⟨kk, rfl⟩ : ∃ kk : Nat, s = ((kk : Nat) : Int) := ⟨s.toNat, by omega⟩
    have hk9 : kk < 7 := by omega
    obtain ⟨Kw, hKw⟩ : ∃ l, sws[kk]? = some l := ⟨_, List.getElem?_eq_getElem (show kk < sws.length from hk9)⟩
    have g0 := L.st kk hKw
    have e : stW ((kk : Nat) : Int) = Kw := by
      unfold stW
      rw [if_pos hk, Int.toNat_natCast, List.getD_eq_getElem?_getD, hKw]
      rfl
    rw [e]
    obtain ⟨X, hX⟩ : ∃ X, tx Kw = X := ⟨_, rfl⟩
    rw [hX] at g0 ⊢
    have n1 : ¬ ((kk : Nat) : Int) < 1 := by omega
    have n2 : ¬ (6 : Int) < ((kk : Nat) : Int) := by omega
    have q1 : decide (((kk : Nat) : Int) < 1) = false := by simp; omega
    have q2 : decide ((6 : Int) < ((kk : Nat) : Int)) = false := by simp; omega
    have hk0 : (0 : Int) ≤ ((kk : Nat) : Int) := by omega
    have hk9' : ((kk : Nat) : Int) < 7 := by omega
    clear e hX hKw hk L hk9 h0 h1
    go_enter Tryd.func80, Tryd.ntmps80
    go_wp2_with fail
    go_ret
    exact ⟨rfl, Below.refl _ _⟩
  · have e : stW s = 63 :: Lib.itoa s := by unfold stW; rw [if_neg hk]
    rw [e]
    have hI := pitoa s h0 h1
    have hl := itoa_len h0 h1
    obtain ⟨X, hX⟩ : ∃ X, tx (Lib.itoa s) = X := ⟨_, rfl⟩
    have hs : ¬ 9223372036854775807 < (ByteArray.mk #[63]).size + X.size := by
      rw [← hX, tx_size]
      show ¬ 9223372036854775807 < 1 + _
      omega
    have HX : Hid (ByteArray.mk #[63] ++ X = tx (63 :: Lib.itoa s)) := by
      rw [← hX]
      exact tx_app [63] _
    rw [hX] at hI
    have HL : Hid (_) := L.p
    clear e hX hl L
    by_cases h1' : s < 1
    · clear hk
      go_enter Tryd.func80, Tryd.ntmps80
      go_wp2_with fail
      refine (hI _ HL.out).mono ?_
      rintro r w2 ⟨rfl, b2⟩
      have HB : Hid (_) := b2
      clear hI b2
      go_wp2_with fail
      go_ret
      exact ⟨by rw [← HX.out]; rfl, HB.out⟩
    · have h8 : 6 < s := by omega
      have h8' : s > 6 := h8
      clear hk
      go_enter Tryd.func80, Tryd.ntmps80
      go_wp2_with fail
      refine (hI _ HL.out).mono ?_
      rintro r w2 ⟨rfl, b2⟩
      have HB : Hid (_) := b2
      clear hI b2
      go_wp2_with fail
      go_ret
      exact ⟨by rw [← HX.out]; rfl, HB.out⟩
set_option maxHeartbeats 1000000 in
theorem tdecimals (a : Option Addr) (len cap : Nat) (z : Nat → Int) (w : World) (hr : NRow w a len z) (hz : ∀ i, i < len → -9223372036854775808 ≤ z i ∧ z i ≤ 9223372036854775807) (hlen : len ≤ 100) (L : Lp w) :
    Calls Tryd.prog 81 #[.slice a len cap] w fun r w' => ∃ v, r = .returned v ∧ Hid (w'.ownsRow w.heap.size 9 1 v len (sL len z) ∧ (len = 0 → v = .slice none 0 0) ∧ Below w.heap.size w w') := by
  have HW : Hid (_) := And.intro hr (And.intro hz L)
  clear hr hz L
  go_enter Tryd.func81, Tryd.ntmps81
  go_wp2_with fail
  go_loopw [3, 5, 8, 9, 10, 11, 12, 13, 14, 15, 16, 17] (fun v _ c _ _ _ _ _ _ _ _ _ wr => ∃ i : Nat, i ≤ len ∧ c = .int .i64 ((i : Nat) : Int) ∧ Hid (wr.ownsRow w.heap.size 9 1 v i (sL i z) ∧ (i = 0 → v = .slice none 0 0) ∧ Below w.heap.size w wr)) (fun _ _ c _ _ _ _ _ _ _ _ _ _ => len - natV c)
  case atStart => exact ⟨0, by omega, rfl, ⟨rfl, .inl ⟨rfl, rfl⟩⟩, fun _ => rfl, Below.refl _ _⟩
  case round =>
    obtain ⟨i, hi, rfl, HI⟩ := hrel
    by_cases hlt : i < len
    · have hlt' : ((i : Nat) : Int) < ((len : Nat) : Int) := by omega
      obtain ⟨o1, o2, b1⟩ := HI.out
      obtain ⟨hr, hz, L⟩ := HW.out
      obtain ⟨q, off, ea, c0⟩ := (hr.below b1) i hlt
      subst ea
      have hI := pitoa (z i) (hz i hlt).1 (hz i hlt).2 wr (L.below b1)
      have hw1 : IntKind.i64.wrap (((i : Nat) : Int) + 1) = ((i + 1 : Nat) : Int) := by rw [IntKind.wrap_i64]; omega
      clear hr hz L o1 o2 b1
      go_wp2_with fail
      refine hI.mono ?_
      rintro r w2 ⟨rfl, b2⟩
      obtain ⟨o1, o2, b1⟩ := HI.out
      obtain ⟨X, hX⟩ : ∃ X, tx (Lib.itoa (z i)) = X := ⟨_, rfl⟩
      have O3 := ownB o1 (belA b2 (.cells #[.string X] 9))
      have B3 : w.heap.size ≤ (w2.alloc (.cells #[.string X] 9)).heap.size := Nat.le_trans b1.size (belA b2 (.cells #[.string X] 9)).size
      have N3 := one_str w2 X
      have M3 := one_strO X
      obtain ⟨i0, hIn, hz0, hz1, hz2⟩ := info_parts info_str
      have HK : Hid (Below w.heap.size w (w2.alloc (.cells #[.string X] 9)) ∧ tx (Lib.itoa (z i)) = X) := ⟨b1.trans ((belA b2 _).mono b1.size), hX⟩
      rw [hX]
      clear hI o1 o2 b1 b2 hX c0
      go_wp2_with (at_builtin; refine wpList_append_own_at _ rfl _ _ 48 rfl w.heap.size 9 i0 (.string (ByteArray.mk #[])) 1 16 Tryd.underlying48 hIn hz0 hz1 hz2 rfl (by decide) u3 i (sL i z) rfl O3 ⟨w2.heap.size, 0, none⟩ 1 1 [.string X] rfl rfl N3 M3 (by unfold maxLen; omega) (by omega) B3 ?_)
      intro v7 w7 O7 G7 _ _
      obtain ⟨x7, y7, rfl, _⟩ := own_slcS O7
      have HF : Hid (w7.ownsRow w.heap.size 9 1 (.slice (some ⟨x7, 0, none⟩) (i + 1) y7) (i + 1) (sL (i + 1) z) ∧ (i + 1 = 0 → (Value.slice (some ⟨x7, 0, none⟩) (i + 1) y7) = .slice none 0 0) ∧ Below w.heap.size w w7) := by
        refine ⟨?_, fun h => by omega, HK.out.1.grown G7 HK.out.1.size (fun k hk => (O3.lt k hk).1)⟩
        rw [← sL_succ, HK.out.2]
        exact O7
      clear O7 G7 O3 B3 N3 M3 HI hIn hz0 hz1 hz2
      go_wp2_with fail
      go_roundw
      case rel => exact ⟨i + 1, by omega, by first | rfl | go_num, HF⟩
      case measure => simp [natV] <;> omega
    · obtain rfl : i = len := by omega
      have hlt' : ¬ ((i : Nat) : Int) < ((i : Nat) : Int) := by omega
      go_wp2_with fail
      go_ret
      exact ⟨_, rfl, HI⟩
end Go.Proofs.YtbhbjdmdabkomaaDoor
