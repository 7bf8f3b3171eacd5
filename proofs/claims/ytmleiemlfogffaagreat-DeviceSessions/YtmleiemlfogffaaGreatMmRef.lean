/- The document's memory of layer 7. -/
import Derived.Test.YtmleiemlfogffaaGreatMm3
namespace Go.Proofs.YtmleiemlfogffaaGreat
set_option maxRecDepth 100000
open Go.RowKit

/-- The block of the document's memory. -/
def RC (v : Value) (s : Ms) : Array Value := #[v, .bool s.off, .bool s.ar, .int .i64 s.l, .int .i64 s.t]
structure RR (w : World) (b g n : Nat) (s : Ms) : Prop where
  ex : ∃ v, w.heap[b]? = some (.cells (RC v s) 88 (0, 0)) ∧ Held w b g n s.bs v
  byte : ∀ i, i < n → s.bs i < 256
  l0 : 0 ≤ s.l
  l1 : s.l ≤ 9223372036854775807
  t0 : 0 ≤ s.t
  nn : n ≤ 4096
section
variable {w w' : World} {b g n : Nat} {s : Ms}
theorem RR.lt (h : RR w b g n s) : b < w.heap.size := by
  obtain ⟨v, hv, _⟩ := h.ex
  exact (Array.getElem?_eq_some_iff.1 hv).1
theorem RR.lg (h : RR w b g n s) : g < w.heap.size := by
  obtain ⟨v, hv, hh⟩ := h.ex
  exact hh.lt h.lt
theorem RR.off {l : List Nat} (h : RR w b g n s) (q : Off l w w') (hb : b ∉ l) (hg : g ∉ l) : RR w' b g n s := by
  obtain ⟨v, hv, hh⟩ := h.ex
  exact ⟨⟨v, (q.block b h.lt hb).trans hv, hh.off q hg⟩, h.byte, h.l0, h.l1, h.t0, h.nn⟩
theorem RR.cells (h : RR w b g n s) : ∃ a cap, w.cell? ⟨b, 0, none⟩ = some (.slice a n cap) ∧ Row8 w a n cap s.bs ∧ (0 < n → g ≠ b ∧ a = some ⟨g, 0, none⟩) ∧ w.cell? ⟨b, 1, none⟩ = some (.bool s.off) ∧
    w.cell? ⟨b, 2, none⟩ = some (.bool s.ar) ∧ w.cell? ⟨b, 3, none⟩ = some (.int .i64 s.l) ∧ w.cell? ⟨b, 4, none⟩ = some (.int .i64 s.t) ∧ ∀ j, w.frozen? ⟨b, j, none⟩ = false := by
  obtain ⟨v, hv, hh⟩ := h.ex
  obtain ⟨a, cap, rfl, hr⟩ := hh.row h.byte
  refine ⟨a, cap, cell_of_row w b 0 _ _ _ hv, hr, fun hn => ?_, cell_of_row w b 1 _ _ _ hv, cell_of_row w b 2 _ _ _ hv, cell_of_row w b 3 _ _ _ hv, cell_of_row w b 4 _ _ _ hv, fun j => frozen_of_row w b j _ _ hv⟩
  obtain ⟨hg, cap', he⟩ := hh.plain hn
  simp only [Value.slice.injEq] at he
  exact ⟨hg, he.1⟩
theorem RR.held (h : RR w b g n s) (j : Nat) (hj : j < n) : w.cell? ⟨g, j, none⟩ = some (.int .u8 (s.bs j : Nat)) ∧ w.frozen? ⟨g, j, none⟩ = false := by
  obtain ⟨v, hv, hh⟩ := h.ex
  obtain ⟨hg, cap, rfl⟩ := hh.plain (by omega)
  exact ⟨by rw [hh.own.cellAt j (by omega), CB_get _ _ _ hj], hh.own.frozenAt j⟩
theorem RR.upd (h : RR w b g n s) (s' : Ms) (q : Off [b] w w') (hc : ∀ v, w.heap[b]? = some (.cells (RC v s) 88 (0, 0)) → w'.heap[b]? = some (.cells (RC v s') 88 (0, 0)))
    (hbs : s'.bs = s.bs) (l0 : 0 ≤ s'.l) (l1 : s'.l ≤ 9223372036854775807) (t0 : 0 ≤ s'.t) : RR w' b g n s' := by
  obtain ⟨v, hv, hh⟩ := h.ex
  exact ⟨⟨v, hc v hv, hbs ▸ hh.here q⟩, hbs ▸ h.byte, l0, l1, t0, h.nn⟩
theorem RR.put (h : RR w b g n s) (j x : Nat) (hj : j < n) (hx : x < 256) : RR (w.setCell ⟨g, j, none⟩ (.int .u8 (x : Nat))) b g n { s with bs := fun i => if i = j then x else s.bs i } := by
  obtain ⟨v, hv, hh⟩ := h.ex
  have hg := (hh.plain (by omega)).1
  refine ⟨⟨v, (heap_setCell_other w _ b _ (Ne.symm hg)).trans hv, hh.set j x hj⟩, fun i hi => ?_, h.l0, h.l1, h.t0, h.nn⟩
  by_cases e : i = j
  · simp [e, hx]
  · simp [e, h.byte i hi]
end
set_option maxRecDepth 100000 in
set_option maxHeartbeats 2000000 in
theorem rwrite_any (b g n : Nat) (s : Ms) (p : Int) (c : Nat) (w : World) (h : RR w b g n s) (hc : c < 256) (ht : s.t < 9223372036854775807) :
    Calls Tryz.prog 83 #[.pointer (some ⟨b, 0, none⟩), .int .i64 p, .int .u8 (c : Nat)] w fun e w' => e = .returned (.int .i64 (wrE s n p)) ∧ (Off [b, g] w w' ∧ RR w' b g n (wrS s n p c)) := by
  obtain ⟨a, cap, c0, _, hpl, c1, c2, c3, c4, fz⟩ := h.cells
  have fz1 := fz 1
  have fz3 := fz 3
  have fz4 := fz 4
  have hl0 := h.l0
  have hl1 := h.l1
  have ht0 := h.t0
  by_cases hr : rch s n p = 0
  · obtain ⟨hoff, hp0, hpn⟩ := rch_zero hr
    obtain ⟨j, rfl⟩ := Int.eq_ofNat_of_zero_le hp0
    have hj : j < n := by omega
    obtain ⟨hgb, rfl⟩ := hpl (by omega)
    obtain ⟨cg, fg⟩ := h.held j hj
    have H : Hid (_) := h
    rw [hoff] at c1
    clear h fz hpl
    cases ha : s.ar
    · rw [ha] at c2
      obtain ⟨hE, hS⟩ := wr_free (c := c) hr ha
      rw [hE, hS]
      clear hE hS hr
      go_enter Tryz.func83, Tryz.ntmps83
      go_wp2_with fail
      go_ret
      refine ⟨rfl, (Off.setCell g j _ _).pair'.trans (Off.setCell b 4 _ _).pair, ?_⟩
      exact (H.out.put j c hj hc).upd { s with bs := lay s.bs j c, t := s.t + 1 } (Off.setCell b 4 _ _) (fun v hv => heap_setCell_same _ _ _ _ _ _ hv) rfl hl0 hl1 (by show 0 ≤ s.t + 1; omega)
    · rw [ha] at c2
      by_cases hz : s.l = 0
      · obtain ⟨hE, hS⟩ := wr_cut (c := c) hr ha hz
        rw [hE, hS]
        rw [hz] at c3
        clear hE hS hr
        go_enter Tryz.func83, Tryz.ntmps83
        go_wp2_with fail
        go_ret
        refine ⟨rfl, (Off.setCell b 1 _ _).pair, ?_⟩
        exact H.out.upd { s with off := true } (Off.setCell b 1 _ _) (fun v hv => heap_setCell_same _ _ _ _ _ _ hv) rfl hl0 hl1 ht0
      · obtain ⟨hE, hS⟩ := wr_left (c := c) hr ha hz
        rw [hE, hS]
        clear hE hS hr
        go_enter Tryz.func83, Tryz.ntmps83
        go_wp2_with fail
        go_ret
        refine ⟨rfl, ((Off.setCell b 3 _ _).pair.trans (Off.setCell g j _ _).pair').trans (Off.setCell b 4 _ _).pair, ?_⟩
        have h1 := H.out.upd { s with l := s.l - 1 } (Off.setCell b 3 _ (.int .i64 (s.l - 1))) (fun v hv => heap_setCell_same _ _ _ _ _ _ hv) rfl (by show 0 ≤ s.l - 1; omega) (by show s.l - 1 ≤ _; omega) ht0
        exact (h1.put j c hj hc).upd { s with bs := lay s.bs j c, l := s.l - 1, t := s.t + 1 } (Off.setCell b 4 _ _) (fun v hv => heap_setCell_same _ _ _ _ _ _ hv) rfl (by show 0 ≤ s.l - 1; omega) (by show s.l - 1 ≤ _; omega) (by show 0 ≤ s.t + 1; omega)
  · obtain ⟨hE, hS⟩ := wr_no (c := c) hr
    rw [hE, hS]
    have H : Hid (_) := h
    clear h hE hS fz hpl
    unfold rch at hr ⊢
    cases ho : s.off
    · rw [ho] at c1
      rw [ho, if_neg (by simp)] at hr
      rw [if_neg (by simp)]
      by_cases hp : p < 0
      · rw [if_pos (.inl hp)]
        clear hr
        go_enter Tryz.func83, Tryz.ntmps83
        go_wp2_with fail
        go_ret
        exact ⟨rfl, Off.refl _ _, H.out⟩
      · by_cases hn : (n : Int) ≤ p
        · rw [if_pos (.inr hn)]
          clear hr
          go_enter Tryz.func83, Tryz.ntmps83
          go_wp2_with fail
          go_ret
          exact ⟨rfl, Off.refl _ _, H.out⟩
        · exact absurd (if_neg (by omega)) hr
    · rw [ho] at c1
      rw [if_pos rfl]
      clear hr
      go_enter Tryz.func83, Tryz.ntmps83
      go_wp2_with fail
      go_ret
      exact ⟨rfl, Off.refl _ _, H.out⟩
theorem rarm_any (b g n : Nat) (s : Ms) (p : Int) (w : World) (h : RR w b g n s) (hp : p ≤ 9223372036854775807) :
    Calls Tryz.prog 50 #[.pointer (some ⟨b, 0, none⟩), .int .i64 p] w fun e w' => e = .returned (.int .i64 (arE p)) ∧ (Off [b] w w' ∧ RR w' b g n (arS s p)) := by
  obtain ⟨a, cap, c0, _, _, c1, c2, c3, c4, fz⟩ := h.cells
  have fz2 := fz 2
  have fz3 := fz 3
  unfold arE arS
  by_cases hn : p < 0
  · rw [if_pos hn, if_pos hn]
    go_enter Tryz.func50, Tryz.ntmps50
    go_wp2_with fail
    go_ret
    exact ⟨rfl, Off.refl _ _, h⟩
  · rw [if_neg hn, if_neg hn]
    have H : Hid (_) := h
    clear h fz c0 c1 c4
    go_enter Tryz.func50, Tryz.ntmps50
    go_wp2_with fail
    go_ret
    exact ⟨rfl, (Off.setCell b 2 _ _).trans (Off.setCell b 3 _ _), H.out.upd _ ((Off.setCell b 2 _ _).trans (Off.setCell b 3 _ _)) (fun v hv => heap_setCell_same _ _ _ _ _ _ (heap_setCell_same _ _ _ _ _ _ hv)) rfl (by show 0 ≤ p; omega) hp H.out.t0⟩
theorem ron_any (b g n : Nat) (s : Ms) (w : World) (h : RR w b g n s) :
    Calls Tryz.prog 92 #[.pointer (some ⟨b, 0, none⟩)] w fun e w' => e = .returned (.tuple #[]) ∧ (Off [b] w w' ∧ RR w' b g n { s with off := false, ar := false }) := by
  obtain ⟨a, cap, c0, _, _, c1, c2, c3, c4, fz⟩ := h.cells
  have fz1 := fz 1
  have fz2 := fz 2
  have H : Hid (_) := h
  clear h fz c0 c3 c4
  go_enter Tryz.func92, Tryz.ntmps92
  go_wp2_with fail
  go_end0
  exact ⟨rfl, (Off.setCell b 1 _ _).trans (Off.setCell b 2 _ _), H.out.upd _ ((Off.setCell b 1 _ _).trans (Off.setCell b 2 _ _)) (fun v hv => heap_setCell_same _ _ _ _ _ _ (heap_setCell_same _ _ _ _ _ _ hv)) rfl H.out.l0 H.out.l1 H.out.t0⟩
set_option maxHeartbeats 1000000 in
theorem rnew_ok (n : Nat) (w : World) (hn : n ≤ 4096) :
    Calls Tryz.prog 18 #[.int .i64 (n : Nat)] w fun e w' => ∃ b g, e = .returned (.tuple #[.pointer (some ⟨b, 0, none⟩), .int .i64 0]) ∧ Hid (w.heap.size ≤ b ∧ w.heap.size ≤ g ∧ Off [] w w' ∧ RR w' b g n (S0 fun _ => 0)) := by
  obtain ⟨i0, hi, hz0, hz1, hz2⟩ := info_parts info_u8
  go_enter Tryz.func18, Tryz.ntmps18
  go_wp2_with (at_make; refine wpList_make8 _ rfl (.tmp 10) (.tmp 10) 25 rfl w.heap.size 5 i0 Tryz.underlying25 hi hz0 hz1 hz2 _ _ _ _ n n rfl rfl rfl rfl (Nat.le_refl _) (by omega) (Nat.le_refl _) ?_)
  intro w1 hown1 hbel1
  have H : Hid (_) := And.intro hown1 hbel1
  clear hown1 hbel1
  go_wp2_with fail
  go_ret2
  obtain ⟨hown1, hbel1⟩ := H.out
  have hlt : w.heap.size < w1.heap.size := (hown1.lt _ rfl).2
  refine ⟨_, w.heap.size, rfl, hbel1.size, Nat.le_refl _, (Off.of_below hbel1).trans (Off.alloc _ _ _), ⟨⟨_, heap_alloc_new w1 _, ?_⟩, by intro i _; show 0 < 256; omega, Int.le_refl _, by show (0 : Int) ≤ _; omega, Int.le_refl _, hn⟩⟩
  refine ⟨own_below (own_base hown1 (Nat.zero_le _)) ((Below.refl _ _).alloc (Nat.le_refl _) _), .inr ⟨Nat.ne_of_lt hlt, _, rfl⟩⟩
theorem rnew_no (p : Int) (w : World) (hp : p < 0 ∨ 4096 < p) :
    Calls Tryz.prog 18 #[.int .i64 p] w fun e w' => e = .returned (.tuple #[.pointer none, .int .i64 2]) ∧ w' = w := by
  by_cases h : p < 0
  · go_enter Tryz.func18, Tryz.ntmps18
    go_wp2_with fail
    go_ret2
    exact ⟨rfl, rfl⟩
  · have h2 : 4096 < p := by omega
    clear hp
    go_enter Tryz.func18, Tryz.ntmps18
    go_wp2_with fail
    go_ret2
    exact ⟨rfl, rfl⟩
set_option maxHeartbeats 1000000 in
theorem rload_ok (a : Option Addr) (len cap : Nat) (bs : Nat → Nat) (w : World) (R : Row8 w a len cap bs) (hn : len ≤ 4096) :
    Calls Tryz.prog 11 #[.slice a len cap] w fun e w' => ∃ b g, e = .returned (.tuple #[.pointer (some ⟨b, 0, none⟩), .int .i64 0]) ∧ Hid (w.heap.size ≤ b ∧ w.heap.size ≤ g ∧ Off [] w w' ∧ RR w' b g len (S0 bs)) := by
  obtain ⟨i0, hi, hz0, hz1, hz2⟩ := info_parts info_u8
  have hbelA : Below w.heap.size w (w.alloc (.cells #[] 5)) := (Below.refl _ _).alloc (Nat.le_refl _) _
  have O0 : (w.alloc (.cells #[] 5)).ownsRow w.heap.size 5 1 (.slice (some ⟨w.heap.size, 0, none⟩) 0 0) 0 [] := World.ownsRow_made w #[] 0 (Nat.le_refl _) (Nat.zero_le _) rfl
  have RA := R.below hbelA
  have hby := R.byte
  have hszA := hbelA.size
  clear R
  go_enter Tryz.func11, Tryz.ntmps11
  go_wp2_with (at_builtin; refine wpList_append_row8 rfl (.tmp 7) (.tmp 8) 25 rfl w.heap.size 5 i0 (.int .u8 0) Tryz.underlying25 hi hz0 hz1 hz2 rfl _ 0 _ rfl O0 a len cap bs rfl RA (by unfold maxLen; omega) (by omega) hszA ?_)
  intro v2 w2 hown2 hgrow2
  have hbel2 : Below w.heap.size w w2 := hbelA.grown hgrow2 hszA (fun j hj => (O0.lt j hj).1)
  obtain ⟨a2, c2, rfl, _⟩ := own_row8 hown2 hby
  have H : Hid (_) := And.intro hown2 hbel2
  clear hown2 hbel2 hgrow2 O0 RA hbelA
  go_wp2_with fail
  go_ret2
  obtain ⟨hown, hbel⟩ := H.out
  have hA : Below w2.heap.size w2 (w2.alloc (.cells (RC (.slice a2 len c2) (S0 bs)) 88)) := (Below.refl _ _).alloc (Nat.le_refl _) _
  rcases hown.2 with ⟨he, rfl⟩ | ⟨g, cap', cur, he, hg, hgg, _⟩
  · exact ⟨_, w2.heap.size, rfl, hbel.size, hbel.size, (Off.of_below hbel).trans (Off.alloc _ _ _), ⟨⟨_, heap_alloc_new w2 _, own_below (own_base hown (Nat.zero_le _)) hA, .inl ⟨he, rfl, rfl⟩⟩, hby, Int.le_refl _, by show (0 : Int) ≤ _; omega, Int.le_refl _, hn⟩⟩
  · have hlt := (Array.getElem?_eq_some_iff.1 hgg).1
    exact ⟨_, g, rfl, hbel.size, hg, (Off.of_below hbel).trans (Off.alloc _ _ _), ⟨⟨_, heap_alloc_new w2 _, own_below (own_base hown (Nat.zero_le _)) hA, .inr ⟨Nat.ne_of_lt hlt, _, he⟩⟩, hby, Int.le_refl _, by show (0 : Int) ≤ _; omega, Int.le_refl _, hn⟩⟩
theorem rload_no (a : Option Addr) (len cap : Nat) (w : World) (hn : 4096 < len) :
    Calls Tryz.prog 11 #[.slice a len cap] w fun e w' => e = .returned (.tuple #[.pointer none, .int .i64 2]) ∧ w' = w := by
  have hI : (4096 : Int) < (len : Int) := by omega
  go_enter Tryz.func11, Tryz.ntmps11
  go_wp2_with fail
  go_ret2
  exact ⟨rfl, rfl⟩

end Go.Proofs.YtmleiemlfogffaaGreat
