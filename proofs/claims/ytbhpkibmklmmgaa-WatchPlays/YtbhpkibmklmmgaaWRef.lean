/- The document's watchdog. -/
import Derived.Test.YtbhpkibmklmmgaaWatch2
namespace Go.Proofs.Ytbhpkibmklmmgaa
open Go.RowKit

/-- The block of the document's watchdog. -/
structure RD (w : World) (b l c : Nat) : Prop where
  at_ : w.heap[b]? = some (.cells (DC l c) 30 (0, 0))
  hi : l ≤ 1048576
  le : c ≤ l
section
variable {w w' : World} {b l c : Nat}
theorem RD.lt (h : RD w b l c) : b < w.heap.size := (Array.getElem?_eq_some_iff.1 h.at_).1
theorem RD.c0 (h : RD w b l c) : w.cell? ⟨b, 0, none⟩ = some (.int .i64 l) := cell_of_row w b 0 _ _ _ h.at_
theorem RD.c1 (h : RD w b l c) : w.cell? ⟨b, 1, none⟩ = some (.int .i64 c) := cell_of_row w b 1 _ _ _ h.at_
theorem RD.fz (h : RD w b l c) (j : Nat) : w.frozen? ⟨b, j, none⟩ = false := frozen_of_row w b j _ _ h.at_
theorem RD.off {m : List Nat} (h : RD w b l c) (q : Off m w w') (hb : b ∉ m) : RD w' b l c := ⟨(q.block b h.lt hb).trans h.at_, h.hi, h.le⟩
theorem RD.set (h : RD w b l c) (x : Nat) (hx : x ≤ l) : RD (w.setCell ⟨b, 1, none⟩ (.int .i64 x)) b l x := ⟨heap_setCell_same _ _ _ _ _ _ h.at_, h.hi, hx⟩
theorem RD.drewN (h : RD w b l c) (k : Nat) : RD (w.drewN k) b l c := h.off (Off.drewN [] _ k) (by simp)
end

set_option maxRecDepth 100000 in
set_option maxHeartbeats 2000000 in
theorem rticks_any (l c n b : Nat) (w : World) (h : RD w b l c) (hn : n ≤ 9223372036854775807) :
    Calls Try.prog 10 #[.pointer (some ⟨b, 0, none⟩), .int .i64 n] w fun e w' => e = .returned (.bool (told l c n)) ∧ (Off [b] w w' ∧ RD w' b l (tk l c n)) := by
  have h0 := h.c0
  have h1 := h.c1
  have hi := h.hi
  have le := h.le
  by_cases g1 : l ≤ c
  · have ht : told l c n = false := by unfold told; simp; omega
    have hk : tk l c n = c := by unfold tk; omega
    have H : Hid (_) := h
    rw [ht, hk]
    clear ht hk h
    go_enter Try.func10, Try.ntmps10
    go_wp2_with fail
    go_quiet (fail)
    go_wp2_with fail
    go_ret
    exact ⟨rfl, Off.drewN _ _ _, H.out.drewN _⟩
  · have e1 : IntKind.i64.wrap ((l : Int) - (c : Int)) = ((l - c : Nat) : Int) := by rw [IntKind.wrap_i64]; omega
    obtain ⟨L, hL⟩ : ∃ L, L = l - c := ⟨_, rfl⟩
    rw [← hL] at e1
    by_cases g2 : L ≤ n
    · have ht : told l c n = true := by unfold told; simp; omega
      have hk : tk l c n = l := by unfold tk; omega
      have H : Hid (_) := h
      rw [ht, hk]
      clear ht hk h
      go_enter Try.func10, Try.ntmps10
      go_wp2_with fail
      go_quiet (fail)
      go_wp2_with fail
      have H2 := H.out.drewN nq
      have O2 : Off [b] w (w.drewN nq) := Off.drewN _ _ _
      clear H h0 h1
      generalize w.drewN nq = w2 at *
      have h0 := H2.c0
      have h1 := H2.c1
      have hz := H2.fz 1
      have HH : Hid (_) := And.intro H2 O2
      clear H2 O2
      go_quiet (fail)
      go_wp2_with fail
      go_ret
      exact ⟨rfl, (HH.out.2.trans (Off.drewN _ _ _)).trans (Off.setCell _ _ _ _), (HH.out.1.drewN _).set _ (Nat.le_refl _)⟩
    · have ht : told l c n = false := by unfold told; simp; omega
      have hk : tk l c n = c + n := by unfold tk; omega
      have hcn : c + n ≤ l := by omega
      have e2 : IntKind.i64.wrap ((c : Int) + (n : Int)) = ((c + n : Nat) : Int) := by rw [IntKind.wrap_i64]; omega
      have H : Hid (_) := h
      rw [ht, hk]
      have HL : Hid (_) := hcn
      clear ht hk h hcn
      obtain ⟨s, hs⟩ : ∃ s, s = c + n := ⟨_, rfl⟩
      rw [← hs] at e2
      rw [← hs]
      have HS : Hid (_) := hs
      clear hs
      go_enter Try.func10, Try.ntmps10
      go_wp2_with fail
      go_quiet (fail)
      go_wp2_with fail
      have H2 := H.out.drewN nq
      have O2 : Off [b] w (w.drewN nq) := Off.drewN _ _ _
      clear H h0 h1
      generalize w.drewN nq = w2 at *
      have h0 := H2.c0
      have h1 := H2.c1
      have hz := H2.fz 1
      have HH : Hid (_) := And.intro H2 O2
      clear H2 O2
      go_quiet (fail)
      go_wp2_with fail
      go_ret
      exact ⟨rfl, (HH.out.2.trans (Off.drewN _ _ _)).trans (Off.setCell _ _ _ _), (HH.out.1.drewN _).set _ (by rw [HS.out]; exact HL.out)⟩

end Go.Proofs.Ytbhpkibmklmmgaa
