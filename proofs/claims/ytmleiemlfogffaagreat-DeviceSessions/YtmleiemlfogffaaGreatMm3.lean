/- The memory of layer 7: Bytes, New, Load. -/
import Derived.Test.YtmleiemlfogffaaGreatMm2
namespace Go.Proofs.YtmleiemlfogffaaGreat
set_option maxRecDepth 100000
open Go.RowKit

set_option maxHeartbeats 1000000 in
theorem bytes_any (b g n : Nat) (s : Ms) (w : World) (h : MR w b g n s) :
    Calls Tryz.prog 44 #[.pointer (some ⟨b, 0, none⟩)] w fun e w' => ∃ v, e = .returned v ∧ Hid (w'.ownsRow w.heap.size 5 1 v n (CB s.bs n) ∧ Below w.heap.size w w') := by
  obtain ⟨i0, hi, hz0, hz1, hz2⟩ := info_parts info_u8
  obtain ⟨a, cap, c0, R, _⟩ := h.cells
  have hn := h.nn
  have O0 := World.ownsRow_nil w w.heap.size 5 1
  clear h
  go_enter Tryz.func44, Tryz.ntmps44
  go_wp2_with (at_builtin; refine wpList_append_row8 rfl (.const (.slice none 0 0)) (.tmp 8) 25 rfl w.heap.size 5 i0 (.int .u8 0) Tryz.underlying25 hi hz0 hz1 hz2 rfl _ 0 _ rfl O0 a n cap s.bs rfl R (by unfold maxLen; omega) (by omega) (Nat.le_refl _) ?_)
  intro v2 w2 hown2 hgrow2
  have hbel2 : Below w.heap.size w w2 := (Below.refl _ _).grown hgrow2 (Nat.le_refl _) (fun j hj => by cases hj)
  have H : Hid (_) := And.intro hown2 hbel2
  clear hown2 hbel2 hgrow2 O0 R c0
  go_wp2_with fail
  go_ret
  exact ⟨_, rfl, H⟩
theorem bytes_nil (w : World) :
    Calls Tryz.prog 44 #[.pointer none] w fun e w' => e = .returned (.slice none 0 0) ∧ w' = w := by
  go_enter Tryz.func44, Tryz.ntmps44
  go_wp2_with fail
  go_ret
  exact ⟨rfl, rfl⟩
def S0 (bs : Nat → Nat) : Ms := ⟨bs, false, false, 0, 0⟩
set_option maxHeartbeats 1000000 in
theorem new_ok (n : Nat) (w : World) (hn : n ≤ 4096) :
    Calls Tryz.prog 17 #[.int .i64 (n : Nat)] w fun e w' => ∃ b g, e = .returned (.tuple #[.pointer (some ⟨b, 0, none⟩), .int .i64 0]) ∧ Hid (w.heap.size ≤ b ∧ w.heap.size ≤ g ∧ Off [] w w' ∧ MR w' b g n (S0 fun _ => 0)) := by
  obtain ⟨i0, hi, hz0, hz1, hz2⟩ := info_parts info_u8
  go_enter Tryz.func17, Tryz.ntmps17
  go_wp2_with (at_make; refine wpList_make8 _ rfl (.tmp 10) (.tmp 10) 25 rfl w.heap.size 5 i0 Tryz.underlying25 hi hz0 hz1 hz2 _ _ _ _ n n rfl rfl rfl rfl (Nat.le_refl _) (by omega) (Nat.le_refl _) ?_)
  intro w1 hown1 hbel1
  have H : Hid (_) := And.intro hown1 hbel1
  clear hown1 hbel1
  go_wp2_with fail
  go_ret2
  obtain ⟨hown1, hbel1⟩ := H.out
  have hlt : w.heap.size < w1.heap.size := (hown1.lt _ rfl).2
  refine ⟨_, w.heap.size, rfl, hbel1.size, Nat.le_refl _, (Off.of_below hbel1).trans (Off.alloc _ _ _), ⟨⟨_, heap_alloc_new w1 _, ?_⟩, by intro i _; show 0 < 256; omega, Int.le_refl _, by show (0 : Int) ≤ _; omega, Int.le_refl _, hn⟩⟩
  refine ⟨own_below (own_base hown1 (Nat.zero_le _)) ((Below.refl _ _).alloc (Nat.le_refl _) _), .inr ⟨Nat.ne_of_lt hlt, _, rfl⟩⟩
theorem new_no (p : Int) (w : World) (hp : p < 0 ∨ 4096 < p) :
    Calls Tryz.prog 17 #[.int .i64 p] w fun e w' => e = .returned (.tuple #[.pointer none, .int .i64 2]) ∧ w' = w := by
  by_cases h : p < 0
  · go_enter Tryz.func17, Tryz.ntmps17
    go_wp2_with fail
    go_ret2
    exact ⟨rfl, rfl⟩
  · have h2 : 4096 < p := by omega
    clear hp
    go_enter Tryz.func17, Tryz.ntmps17
    go_wp2_with fail
    go_ret2
    exact ⟨rfl, rfl⟩
set_option maxHeartbeats 1000000 in
theorem load_ok (a : Option Addr) (len cap : Nat) (bs : Nat → Nat) (w : World) (R : Row8 w a len cap bs) (hn : len ≤ 4096) :
    Calls Tryz.prog 10 #[.slice a len cap] w fun e w' => ∃ b g, e = .returned (.tuple #[.pointer (some ⟨b, 0, none⟩), .int .i64 0]) ∧ Hid (w.heap.size ≤ b ∧ w.heap.size ≤ g ∧ Off [] w w' ∧ MR w' b g len (S0 bs)) := by
  obtain ⟨i0, hi, hz0, hz1, hz2⟩ := info_parts info_u8
  have O0 := World.ownsRow_nil w w.heap.size 5 1
  have hby := R.byte
  go_enter Tryz.func10, Tryz.ntmps10
  go_wp2_with (at_builtin; refine wpList_append_row8 rfl (.const (.slice none 0 0)) (.tmp 7) 25 rfl w.heap.size 5 i0 (.int .u8 0) Tryz.underlying25 hi hz0 hz1 hz2 rfl _ 0 _ rfl O0 a len cap bs rfl R (by unfold maxLen; omega) (by omega) (Nat.le_refl _) ?_)
  intro v2 w2 hown2 hgrow2
  have hbel2 : Below w.heap.size w w2 := (Below.refl _ _).grown hgrow2 (Nat.le_refl _) (fun j hj => by cases hj)
  obtain ⟨a2, c2, rfl, _⟩ := own_row8 hown2 hby
  have H : Hid (_) := And.intro hown2 hbel2
  clear hown2 hbel2 hgrow2 O0 R
  go_wp2_with fail
  go_ret2
  obtain ⟨hown, hbel⟩ := H.out
  have hA : Below w2.heap.size w2 (w2.alloc (.cells (MC (.slice a2 len c2) (S0 bs)) 86)) := (Below.refl _ _).alloc (Nat.le_refl _) _
  rcases hown.2 with ⟨he, rfl⟩ | ⟨g, cap', cur, he, hg, hgg, _⟩
  · exact ⟨_, w2.heap.size, rfl, hbel.size, hbel.size, (Off.of_below hbel).trans (Off.alloc _ _ _), ⟨⟨_, heap_alloc_new w2 _, own_below (own_base hown (Nat.zero_le _)) hA, .inl ⟨he, rfl, rfl⟩⟩, hby, Int.le_refl _, by show (0 : Int) ≤ _; omega, Int.le_refl _, hn⟩⟩
  · have hlt := (Array.getElem?_eq_some_iff.1 hgg).1
    exact ⟨_, g, rfl, hbel.size, hg, (Off.of_below hbel).trans (Off.alloc _ _ _), ⟨⟨_, heap_alloc_new w2 _, own_below (own_base hown (Nat.zero_le _)) hA, .inr ⟨Nat.ne_of_lt hlt, _, he⟩⟩, hby, Int.le_refl _, by show (0 : Int) ≤ _; omega, Int.le_refl _, hn⟩⟩
theorem load_no (a : Option Addr) (len cap : Nat) (w : World) (hn : 4096 < len) :
    Calls Tryz.prog 10 #[.slice a len cap] w fun e w' => e = .returned (.tuple #[.pointer none, .int .i64 2]) ∧ w' = w := by
  have hI : (4096 : Int) < (len : Int) := by omega
  go_enter Tryz.func10, Tryz.ntmps10
  go_wp2_with fail
  go_ret2
  exact ⟨rfl, rfl⟩

end Go.Proofs.YtmleiemlfogffaaGreat
