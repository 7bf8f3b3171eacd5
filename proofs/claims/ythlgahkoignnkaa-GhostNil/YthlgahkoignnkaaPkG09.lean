/- Part 10 of the texts on which the proof rests: contracts of Go functions. -/
import Derived.Test.YthlgahkoignnkaaPkG08
namespace Go.Proofs.Ythlgahkoignnkaa
open Go.RowKit Go.Maps
set_option maxRecDepth 100000
def oth (s : Int) : Int := if s = 1 then 2 else 1
theorem goth (s : Int) (w : World) : Calls Try.prog 39 #[.int .i64 s] w fun r w' => r = .returned (.int .i64 (oth s)) ∧ w' = w := by
  unfold oth
  by_cases hs : s = 1
  · rw [if_pos hs]
    subst hs
    go_enter Try.func39, Try.ntmps39
    go_wp2_with fail
    go_ret
    exact ⟨rfl, rfl⟩
  · rw [if_neg hs]
    have hsb : (s == 1) = false := by simpa using hs
    go_enter Try.func39, Try.ntmps39
    go_wp2_with fail
    go_ret
    exact ⟨rfl, rfl⟩
def takR (was dev nos took abo : Bool) : Int := if (!was || (dev && nos)) = true then 2 else if (took && !abo) = true then 3 else 0
open Classical in
noncomputable def Ju.tak (J : Ju) (c : Co) (f : Fa) : Int := takR (decide (J.S ⟨f.c, oth f.s, f.ss⟩ f.nn f.x)) (f.s == 2) (f.ss != c.s) (c.at_ f.s).took (abv f.ss f.nn (c.at_ f.s).ls (c.at_ f.s).ln)
open Classical in
set_option maxHeartbeats 16000000 in
theorem gtaken (jb g cap0 ob N : Nat) (M : TK → Option Nat) (J : Ju) (i : Nat) (c : Co) (fk fs : Int) (fss fnn : Nat) (fon : Bool) (fcd : Int) (fn : Nat) (fb : Nat → Nat) (a : Option Addr) (cap : Nat) (w : World) (h : GJ w jb g cap0 ob N M J) (hi : J.cs[i]? = some c) (hr : Row8 w a fn cap fb) (ht : (TK.mk ((i : Nat) : Int) (oth fs) fss).ok) (hnn : fnn < 4294967296) (hx : (BA fb fn).size ≤ maxLen) :
    Calls Try.prog 25 #[.pointer (some ⟨jb, 0, none⟩), .agg #[.int .i64 fk, .int .i64 ((i : Nat) : Int), .int .i64 fs, .int .u32 (fss : Nat), .int .u32 (fnn : Nat), .bool fon, .int .i64 fcd, .slice a fn cap]] w fun r w' => r = .returned (.int .i64 (J.tak c ⟨fk, ((i : Nat) : Int), fs, fss, fnn, fon, fcd, fn, fb⟩)) ∧ Below w.heap.size w w' := by
  obtain ⟨b1, c0⟩ : Below w.heap.size w (w.alloc (.cells #[.int .i64 fk, .int .i64 ((i : Nat) : Int), .int .i64 fs, .int .u32 (fss : Nat), .int .u32 (fnn : Nat), .bool fon, .int .i64 fcd, .slice a fn cap] 43)) ∧ (w.alloc (.cells #[.int .i64 fk, .int .i64 ((i : Nat) : Int), .int .i64 fs, .int .u32 (fss : Nat), .int .u32 (fnn : Nat), .bool fon, .int .i64 fcd, .slice a fn cap] 43)).heap[w.heap.size]? = some (.cells #[.int .i64 fk, .int .i64 ((i : Nat) : Int), .int .i64 fs, .int .u32 (fss : Nat), .int .u32 (fnn : Nat), .bool fon, .int .i64 fcd, .slice a fn cap] 43 (0, 0)) := ⟨(Below.refl _ _).alloc (Nat.le_refl _) _, heap_alloc_new w _⟩
  have h1 := h.below b1
  have hA := fun wx => cat g (i * 19) wx fs
  rw [show (if fs = 1 then i * 19 else i * 19 + 9) = atP (i * 19) fs from rfl] at hA
  have hO := fun wx => goth fs wx
  have hil := (List.getElem?_eq_some_iff.1 hi).1
  have hfew := h.few
  unfold Ju.tak
  show Calls Try.prog _ _ _ fun r w' => r = .returned (.int .i64 (takR (decide (J.S ⟨((i : Nat) : Int), oth fs, fss⟩ fnn (BA fb fn))) (fs == 2) (fss != c.s) (c.at_ fs).took (abv fss fnn (c.at_ fs).ls (c.at_ fs).ln))) ∧ _
  have hW : ∀ wx, Below (w.alloc (.cells #[.int .i64 fk, .int .i64 ((i : Nat) : Int), .int .i64 fs, .int .u32 (fss : Nat), .int .u32 (fnn : Nat), .bool fon, .int .i64 fcd, .slice a fn cap] 43)).heap.size (w.alloc (.cells #[.int .i64 fk, .int .i64 ((i : Nat) : Int), .int .i64 fs, .int .u32 (fss : Nat), .int .u32 (fnn : Nat), .bool fon, .int .i64 fcd, .slice a fn cap] 43)) wx → Calls Try.prog 38 #[.pointer (some ⟨jb, 0, none⟩), .int .i64 (oth fs), .agg #[.int .i64 fk, .int .i64 ((i : Nat) : Int), .int .i64 fs, .int .u32 (fss : Nat), .int .u32 (fnn : Nat), .bool fon, .int .i64 fcd, .slice a fn cap]] wx fun r w' => r = .returned (.bool (decide (J.S ⟨((i : Nat) : Int), oth fs, fss⟩ fnn (BA fb fn)))) ∧ Below (w.alloc (.cells #[.int .i64 fk, .int .i64 ((i : Nat) : Int), .int .i64 fs, .int .u32 (fss : Nat), .int .u32 (fnn : Nat), .bool fon, .int .i64 fcd, .slice a fn cap] 43)).heap.size (w.alloc (.cells #[.int .i64 fk, .int .i64 ((i : Nat) : Int), .int .i64 fs, .int .u32 (fss : Nat), .int .u32 (fnn : Nat), .bool fon, .int .i64 fcd, .slice a fn cap] 43)) w' := fun wx bx => by
    have hg := h1.below bx
    exact (gwas jb ob N M J.S (oth fs) ⟨fk, ((i : Nat) : Int), fs, fss, fnn, fon, fcd, fn, fb⟩ a cap wx (cell_of_row wx jb 1 _ _ _ hg.blk) hg.sm (hr.below (b1.trans (bx.mono b1.size))) ht hnn hx).mono fun _ _ ⟨e, b⟩ => ⟨e, bx.trans (b.mono bx.size)⟩
  have hP : ∀ wx, Below (w.alloc (.cells #[.int .i64 fk, .int .i64 ((i : Nat) : Int), .int .i64 fs, .int .u32 (fss : Nat), .int .u32 (fnn : Nat), .bool fon, .int .i64 fcd, .slice a fn cap] 43)).heap.size (w.alloc (.cells #[.int .i64 fk, .int .i64 ((i : Nat) : Int), .int .i64 fs, .int .u32 (fss : Nat), .int .u32 (fnn : Nat), .bool fon, .int .i64 fcd, .slice a fn cap] 43)) wx → Calls Try.prog 40 #[.agg #[.int .i64 fk, .int .i64 ((i : Nat) : Int), .int .i64 fs, .int .u32 (fss : Nat), .int .u32 (fnn : Nat), .bool fon, .int .i64 fcd, .slice a fn cap]] wx fun r w' => r = .returned (.agg #[.int .u32 (fss : Nat), .int .u32 (fnn : Nat)]) ∧ Below (w.alloc (.cells #[.int .i64 fk, .int .i64 ((i : Nat) : Int), .int .i64 fs, .int .u32 (fss : Nat), .int .u32 (fnn : Nat), .bool fon, .int .i64 fcd, .slice a fn cap] 43)).heap.size (w.alloc (.cells #[.int .i64 fk, .int .i64 ((i : Nat) : Int), .int .i64 fs, .int .u32 (fss : Nat), .int .u32 (fnn : Nat), .bool fon, .int .i64 fcd, .slice a fn cap] 43)) w' := fun wx bx =>
    (gplace wx ⟨fk, ((i : Nat) : Int), fs, fss, fnn, fon, fcd, fn, fb⟩ a cap).mono fun _ _ ⟨e, b⟩ => ⟨e, bx.trans (b.mono bx.size)⟩
  have hE := (h1.con i c hi).at_ fs
  have hs := (h1.con i c hi).s
  have hV : ∀ wx, Below (w.alloc (.cells #[.int .i64 fk, .int .i64 ((i : Nat) : Int), .int .i64 fs, .int .u32 (fss : Nat), .int .u32 (fnn : Nat), .bool fon, .int .i64 fcd, .slice a fn cap] 43)).heap.size (w.alloc (.cells #[.int .i64 fk, .int .i64 ((i : Nat) : Int), .int .i64 fs, .int .u32 (fss : Nat), .int .u32 (fnn : Nat), .bool fon, .int .i64 fcd, .slice a fn cap] 43)) wx → Calls Try.prog 41 #[.agg #[.int .u32 (fss : Nat), .int .u32 (fnn : Nat)], .agg #[.int .u32 ((c.at_ fs).ls : Nat), .int .u32 ((c.at_ fs).ln : Nat)]] wx fun r w' => r = .returned (.bool (abv fss fnn (c.at_ fs).ls (c.at_ fs).ln)) ∧ Below (w.alloc (.cells #[.int .i64 fk, .int .i64 ((i : Nat) : Int), .int .i64 fs, .int .u32 (fss : Nat), .int .u32 (fnn : Nat), .bool fon, .int .i64 fcd, .slice a fn cap] 43)).heap.size (w.alloc (.cells #[.int .i64 fk, .int .i64 ((i : Nat) : Int), .int .i64 fs, .int .u32 (fss : Nat), .int .u32 (fnn : Nat), .bool fon, .int .i64 fcd, .slice a fn cap] 43)) w' := fun wx bx =>
    (gabove wx _ _ _ _).mono fun _ _ ⟨e, b⟩ => ⟨e, bx.trans (b.mono bx.size)⟩
  have k0 := h1.sl hi
  generalize decide (J.S ⟨((i : Nat) : Int), oth fs, fss⟩ fnn (BA fb fn)) = was at *
  generalize abv fss fnn (c.at_ fs).ls (c.at_ fs).ln = abo at *
  generalize J.cs.length = nl at *
  generalize c.at_ fs = e at *
  generalize atP (i * 19) fs = q at *
  generalize oth fs = os at *
  have hS : ∀ wx, Below (w.alloc (.cells #[.int .i64 fk, .int .i64 ((i : Nat) : Int), .int .i64 fs, .int .u32 (fss : Nat), .int .u32 (fnn : Nat), .bool fon, .int .i64 fcd, .slice a fn cap] 43)).heap.size (w.alloc (.cells #[.int .i64 fk, .int .i64 ((i : Nat) : Int), .int .i64 fs, .int .u32 (fss : Nat), .int .u32 (fnn : Nat), .bool fon, .int .i64 fcd, .slice a fn cap] 43)) wx → wx.cell? ⟨w.heap.size, 0, none⟩ = some (.int .i64 fk) ∧ wx.cell? ⟨w.heap.size, 1, none⟩ = some (.int .i64 ((i : Nat) : Int)) ∧ wx.cell? ⟨w.heap.size, 2, none⟩ = some (.int .i64 fs) ∧ wx.cell? ⟨w.heap.size, 3, none⟩ = some (.int .u32 (fss : Nat)) ∧ wx.cell? ⟨w.heap.size, 4, none⟩ = some (.int .u32 (fnn : Nat)) ∧ wx.cell? ⟨w.heap.size, 5, none⟩ = some (.bool fon) ∧ wx.cell? ⟨w.heap.size, 6, none⟩ = some (.int .i64 fcd) ∧ wx.cell? ⟨w.heap.size, 7, none⟩ = some (.slice a fn cap) ∧ wx.cell? ⟨jb, 0, none⟩ = some (.slice (some ⟨g, 0, none⟩) nl cap0) ∧ wx.cell? ⟨g, q + 1, none⟩ = some (.bool e.took) ∧ wx.cell? ⟨g, q + 2, none⟩ = some (.int .u32 (e.ls : Nat)) ∧ wx.cell? ⟨g, q + 3, none⟩ = some (.int .u32 (e.ln : Nat)) ∧ wx.cell? ⟨g, i * 19 + 18, none⟩ = some (.int .u32 (c.s : Nat)) := fun wx bx => by
    have hq := (bx.block w.heap.size (Array.getElem?_eq_some_iff.1 c0).1).trans c0
    have h2 := hE.below bx
    exact ⟨cell_of_row wx _ 0 _ _ _ hq, cell_of_row wx _ 1 _ _ _ hq, cell_of_row wx _ 2 _ _ _ hq, cell_of_row wx _ 3 _ _ _ hq, cell_of_row wx _ 4 _ _ _ hq, cell_of_row wx _ 5 _ _ _ hq, cell_of_row wx _ 6 _ _ _ hq, cell_of_row wx _ 7 _ _ _ hq, cell_belowJ k0 bx, h2.c1, h2.c2, h2.c3, cell_belowJ hs bx⟩
  obtain ⟨k0, k1, k2, k3, k4, k5, k6, k7, k8, k9, k10, k11, k12⟩ := hS _ (Below.refl _ _)
  have hil' : ((i : Nat) : Int) < (nl : Int) := by omega
  have HB : Hid (_) := b1
  have hnos : (((fss : Nat) : Int) != ((c.s : Nat) : Int)) = (fss != c.s) := by
    by_cases hh : fss = c.s
    · rw [hh]; simp
    · have h2 : ¬ ((fss : Nat) : Int) = ((c.s : Nat) : Int) := by omega
      rw [bne_iff_ne.2 h2, bne_iff_ne.2 hh]
  generalize hno : (fss != c.s) = nos at *
  generalize hdv : (fs == 2) = dev at *
  clear hE hs k0 h1 h hr ht hx hnn c0 b1 hi hil hno
  generalize e.took = tk at *
  unfold takR
  cases was
  · go_enter Try.func25, Try.ntmps25
    go_wp2_with fail
    go_quiet (fail)
    go_wp2_with (go_at_call 27; refine (hA _).mono ?_; rintro r w2 ⟨rfl, hw⟩; have hw := hw.symm; subst hw)
    have HS := hS _ (Below.drew (belowN (Below.refl _ _) nq))
    go_region_held3 (fun wx => wx.cell? ⟨w.heap.size, 0, none⟩ = some (.int .i64 fk) ∧ wx.cell? ⟨w.heap.size, 1, none⟩ = some (.int .i64 ((i : Nat) : Int)) ∧ wx.cell? ⟨w.heap.size, 2, none⟩ = some (.int .i64 fs) ∧ wx.cell? ⟨w.heap.size, 3, none⟩ = some (.int .u32 (fss : Nat)) ∧ wx.cell? ⟨w.heap.size, 4, none⟩ = some (.int .u32 (fnn : Nat)) ∧ wx.cell? ⟨w.heap.size, 5, none⟩ = some (.bool fon) ∧ wx.cell? ⟨w.heap.size, 6, none⟩ = some (.int .i64 fcd) ∧ wx.cell? ⟨w.heap.size, 7, none⟩ = some (.slice a fn cap) ∧ wx.cell? ⟨jb, 0, none⟩ = some (.slice (some ⟨g, 0, none⟩) nl cap0) ∧ wx.cell? ⟨g, q + 1, none⟩ = some (.bool tk) ∧ wx.cell? ⟨g, q + 2, none⟩ = some (.int .u32 (e.ls : Nat)) ∧ wx.cell? ⟨g, q + 3, none⟩ = some (.int .u32 (e.ln : Nat)) ∧ wx.cell? ⟨g, i * 19 + 18, none⟩ = some (.int .u32 (c.s : Nat))) (first | with_reducible assumption | exact hS _ (by repeat (first | with_reducible assumption | with_reducible exact Below.refl _ _ | with_reducible refine belowN ?_ _ | with_reducible refine Below.drew ?_))) (first
      | (go_at_call 39; refine (hO _).mono ?_; rintro r w2 ⟨rfl, hw⟩; have hw := hw.symm; subst hw)
      | (go_at_call 38; refine (hW _ (by repeat (first | with_reducible assumption | with_reducible exact Below.refl _ _ | with_reducible refine belowN ?_ _ | with_reducible refine Below.drew ?_))).mono ?_; rintro r w3 ⟨rfl, b3⟩))
    all_goals
      go_wp2_with fail
      go_ret
      refine ⟨by simp, HB.out.trans (Below.mono (B := _) ?_ HB.out.size)⟩
      exact (by repeat (first | with_reducible assumption | with_reducible exact Below.refl _ _ | with_reducible refine belowN ?_ _ | with_reducible refine Below.drew ?_))
  · cases dev
    · cases tk
      · go_enter Try.func25, Try.ntmps25
        go_wp2_with fail
        go_quiet (fail)
        go_wp2_with (go_at_call 27; refine (hA _).mono ?_; rintro r w2 ⟨rfl, hw⟩; have hw := hw.symm; subst hw)
        have HS := hS _ (Below.drew (belowN (Below.refl _ _) nq))
        go_region_held3 (fun wx => wx.cell? ⟨w.heap.size, 0, none⟩ = some (.int .i64 fk) ∧ wx.cell? ⟨w.heap.size, 1, none⟩ = some (.int .i64 ((i : Nat) : Int)) ∧ wx.cell? ⟨w.heap.size, 2, none⟩ = some (.int .i64 fs) ∧ wx.cell? ⟨w.heap.size, 3, none⟩ = some (.int .u32 (fss : Nat)) ∧ wx.cell? ⟨w.heap.size, 4, none⟩ = some (.int .u32 (fnn : Nat)) ∧ wx.cell? ⟨w.heap.size, 5, none⟩ = some (.bool fon) ∧ wx.cell? ⟨w.heap.size, 6, none⟩ = some (.int .i64 fcd) ∧ wx.cell? ⟨w.heap.size, 7, none⟩ = some (.slice a fn cap) ∧ wx.cell? ⟨jb, 0, none⟩ = some (.slice (some ⟨g, 0, none⟩) nl cap0) ∧ wx.cell? ⟨g, q + 1, none⟩ = some (.bool false) ∧ wx.cell? ⟨g, q + 2, none⟩ = some (.int .u32 (e.ls : Nat)) ∧ wx.cell? ⟨g, q + 3, none⟩ = some (.int .u32 (e.ln : Nat)) ∧ wx.cell? ⟨g, i * 19 + 18, none⟩ = some (.int .u32 (c.s : Nat))) (first | with_reducible assumption | exact hS _ (by repeat (first | with_reducible assumption | with_reducible exact Below.refl _ _ | with_reducible refine belowN ?_ _ | with_reducible refine Below.drew ?_))) (first
          | (go_at_call 39; refine (hO _).mono ?_; rintro r w2 ⟨rfl, hw⟩; have hw := hw.symm; subst hw)
          | (go_at_call 38; refine (hW _ (by repeat (first | with_reducible assumption | with_reducible exact Below.refl _ _ | with_reducible refine belowN ?_ _ | with_reducible refine Below.drew ?_))).mono ?_; rintro r w3 ⟨rfl, b3⟩))
        all_goals
          obtain ⟨m0, m1, m2, m3, m4, m5, m6, m7, m8, m9, m10, m11, m12⟩ := hS _ b3
          clear HS hW hO
          go_wp2_with fail
          go_quiet (fail)
          go_wp2_with fail
          go_quiet (fail)
          go_wp2_with fail
          go_ret
          refine ⟨by simp, HB.out.trans (Below.mono (B := _) ?_ HB.out.size)⟩
          exact (by repeat (first | with_reducible assumption | with_reducible exact Below.refl _ _ | with_reducible refine belowN ?_ _ | with_reducible refine Below.drew ?_))
      · cases abo
        all_goals
          go_enter Try.func25, Try.ntmps25
          go_wp2_with fail
          go_quiet (fail)
          go_wp2_with (go_at_call 27; refine (hA _).mono ?_; rintro r w2 ⟨rfl, hw⟩; have hw := hw.symm; subst hw)
          have HS := hS _ (Below.drew (belowN (Below.refl _ _) nq))
          go_region_held3 (fun wx => wx.cell? ⟨w.heap.size, 0, none⟩ = some (.int .i64 fk) ∧ wx.cell? ⟨w.heap.size, 1, none⟩ = some (.int .i64 ((i : Nat) : Int)) ∧ wx.cell? ⟨w.heap.size, 2, none⟩ = some (.int .i64 fs) ∧ wx.cell? ⟨w.heap.size, 3, none⟩ = some (.int .u32 (fss : Nat)) ∧ wx.cell? ⟨w.heap.size, 4, none⟩ = some (.int .u32 (fnn : Nat)) ∧ wx.cell? ⟨w.heap.size, 5, none⟩ = some (.bool fon) ∧ wx.cell? ⟨w.heap.size, 6, none⟩ = some (.int .i64 fcd) ∧ wx.cell? ⟨w.heap.size, 7, none⟩ = some (.slice a fn cap) ∧ wx.cell? ⟨jb, 0, none⟩ = some (.slice (some ⟨g, 0, none⟩) nl cap0) ∧ wx.cell? ⟨g, q + 1, none⟩ = some (.bool true) ∧ wx.cell? ⟨g, q + 2, none⟩ = some (.int .u32 (e.ls : Nat)) ∧ wx.cell? ⟨g, q + 3, none⟩ = some (.int .u32 (e.ln : Nat)) ∧ wx.cell? ⟨g, i * 19 + 18, none⟩ = some (.int .u32 (c.s : Nat))) (first | with_reducible assumption | exact hS _ (by repeat (first | with_reducible assumption | with_reducible exact Below.refl _ _ | with_reducible refine belowN ?_ _ | with_reducible refine Below.drew ?_))) (first
            | (go_at_call 39; refine (hO _).mono ?_; rintro r w2 ⟨rfl, hw⟩; have hw := hw.symm; subst hw)
            | (go_at_call 38; refine (hW _ (by repeat (first | with_reducible assumption | with_reducible exact Below.refl _ _ | with_reducible refine belowN ?_ _ | with_reducible refine Below.drew ?_))).mono ?_; rintro r w3 ⟨rfl, b3⟩))
          all_goals
            obtain ⟨m0, m1, m2, m3, m4, m5, m6, m7, m8, m9, m10, m11, m12⟩ := hS _ b3
            clear HS hW hO
            go_wp2_with fail
            go_quiet (fail)
            go_wp2_with fail
            have HS6 := hS _ (Below.drew (belowN b3 nq))
            go_region_held3 (fun wx => wx.cell? ⟨w.heap.size, 0, none⟩ = some (.int .i64 fk) ∧ wx.cell? ⟨w.heap.size, 1, none⟩ = some (.int .i64 ((i : Nat) : Int)) ∧ wx.cell? ⟨w.heap.size, 2, none⟩ = some (.int .i64 fs) ∧ wx.cell? ⟨w.heap.size, 3, none⟩ = some (.int .u32 (fss : Nat)) ∧ wx.cell? ⟨w.heap.size, 4, none⟩ = some (.int .u32 (fnn : Nat)) ∧ wx.cell? ⟨w.heap.size, 5, none⟩ = some (.bool fon) ∧ wx.cell? ⟨w.heap.size, 6, none⟩ = some (.int .i64 fcd) ∧ wx.cell? ⟨w.heap.size, 7, none⟩ = some (.slice a fn cap) ∧ wx.cell? ⟨jb, 0, none⟩ = some (.slice (some ⟨g, 0, none⟩) nl cap0) ∧ wx.cell? ⟨g, q + 1, none⟩ = some (.bool true) ∧ wx.cell? ⟨g, q + 2, none⟩ = some (.int .u32 (e.ls : Nat)) ∧ wx.cell? ⟨g, q + 3, none⟩ = some (.int .u32 (e.ln : Nat)) ∧ wx.cell? ⟨g, i * 19 + 18, none⟩ = some (.int .u32 (c.s : Nat))) (first | with_reducible assumption | exact hS _ (by repeat (first | with_reducible assumption | with_reducible exact Below.refl _ _ | with_reducible refine belowN ?_ _ | with_reducible refine Below.drew ?_))) (first
              | (go_at_call 40; refine (hP _ (by repeat (first | with_reducible assumption | with_reducible exact Below.refl _ _ | with_reducible refine belowN ?_ _ | with_reducible refine Below.drew ?_))).mono ?_; rintro r w5 ⟨rfl, b5⟩)
              | (go_at_call 41; refine (hV _ (by repeat (first | with_reducible assumption | with_reducible exact Below.refl _ _ | with_reducible refine belowN ?_ _ | with_reducible refine Below.drew ?_))).mono ?_; rintro r w6 ⟨rfl, b6⟩))
            all_goals
              go_wp2_with fail
              go_ret
              refine ⟨by simp, HB.out.trans (Below.mono (B := _) ?_ HB.out.size)⟩
              exact (by repeat (first | with_reducible assumption | with_reducible exact Below.refl _ _ | with_reducible refine belowN ?_ _ | with_reducible refine Below.drew ?_))
    · cases nos
      · cases tk
        · go_enter Try.func25, Try.ntmps25
          go_wp2_with fail
          go_quiet (fail)
          go_wp2_with (go_at_call 27; refine (hA _).mono ?_; rintro r w2 ⟨rfl, hw⟩; have hw := hw.symm; subst hw)
          have HS := hS _ (Below.drew (belowN (Below.refl _ _) nq))
          go_region_held3 (fun wx => wx.cell? ⟨w.heap.size, 0, none⟩ = some (.int .i64 fk) ∧ wx.cell? ⟨w.heap.size, 1, none⟩ = some (.int .i64 ((i : Nat) : Int)) ∧ wx.cell? ⟨w.heap.size, 2, none⟩ = some (.int .i64 fs) ∧ wx.cell? ⟨w.heap.size, 3, none⟩ = some (.int .u32 (fss : Nat)) ∧ wx.cell? ⟨w.heap.size, 4, none⟩ = some (.int .u32 (fnn : Nat)) ∧ wx.cell? ⟨w.heap.size, 5, none⟩ = some (.bool fon) ∧ wx.cell? ⟨w.heap.size, 6, none⟩ = some (.int .i64 fcd) ∧ wx.cell? ⟨w.heap.size, 7, none⟩ = some (.slice a fn cap) ∧ wx.cell? ⟨jb, 0, none⟩ = some (.slice (some ⟨g, 0, none⟩) nl cap0) ∧ wx.cell? ⟨g, q + 1, none⟩ = some (.bool false) ∧ wx.cell? ⟨g, q + 2, none⟩ = some (.int .u32 (e.ls : Nat)) ∧ wx.cell? ⟨g, q + 3, none⟩ = some (.int .u32 (e.ln : Nat)) ∧ wx.cell? ⟨g, i * 19 + 18, none⟩ = some (.int .u32 (c.s : Nat))) (first | with_reducible assumption | exact hS _ (by repeat (first | with_reducible assumption | with_reducible exact Below.refl _ _ | with_reducible refine belowN ?_ _ | with_reducible refine Below.drew ?_))) (first
            | (go_at_call 39; refine (hO _).mono ?_; rintro r w2 ⟨rfl, hw⟩; have hw := hw.symm; subst hw)
            | (go_at_call 38; refine (hW _ (by repeat (first | with_reducible assumption | with_reducible exact Below.refl _ _ | with_reducible refine belowN ?_ _ | with_reducible refine Below.drew ?_))).mono ?_; rintro r w3 ⟨rfl, b3⟩))
          all_goals
            obtain ⟨m0, m1, m2, m3, m4, m5, m6, m7, m8, m9, m10, m11, m12⟩ := hS _ b3
            clear HS hW hO
            go_wp2_with fail
            go_quiet (fail)
            go_wp2_with fail
            go_quiet (fail)
            go_wp2_with fail
            go_ret
            refine ⟨by simp, HB.out.trans (Below.mono (B := _) ?_ HB.out.size)⟩
            exact (by repeat (first | with_reducible assumption | with_reducible exact Below.refl _ _ | with_reducible refine belowN ?_ _ | with_reducible refine Below.drew ?_))
        · cases abo
          all_goals
            go_enter Try.func25, Try.ntmps25
            go_wp2_with fail
            go_quiet (fail)
            go_wp2_with (go_at_call 27; refine (hA _).mono ?_; rintro r w2 ⟨rfl, hw⟩; have hw := hw.symm; subst hw)
            have HS := hS _ (Below.drew (belowN (Below.refl _ _) nq))
            go_region_held3 (fun wx => wx.cell? ⟨w.heap.size, 0, none⟩ = some (.int .i64 fk) ∧ wx.cell? ⟨w.heap.size, 1, none⟩ = some (.int .i64 ((i : Nat) : Int)) ∧ wx.cell? ⟨w.heap.size, 2, none⟩ = some (.int .i64 fs) ∧ wx.cell? ⟨w.heap.size, 3, none⟩ = some (.int .u32 (fss : Nat)) ∧ wx.cell? ⟨w.heap.size, 4, none⟩ = some (.int .u32 (fnn : Nat)) ∧ wx.cell? ⟨w.heap.size, 5, none⟩ = some (.bool fon) ∧ wx.cell? ⟨w.heap.size, 6, none⟩ = some (.int .i64 fcd) ∧ wx.cell? ⟨w.heap.size, 7, none⟩ = some (.slice a fn cap) ∧ wx.cell? ⟨jb, 0, none⟩ = some (.slice (some ⟨g, 0, none⟩) nl cap0) ∧ wx.cell? ⟨g, q + 1, none⟩ = some (.bool true) ∧ wx.cell? ⟨g, q + 2, none⟩ = some (.int .u32 (e.ls : Nat)) ∧ wx.cell? ⟨g, q + 3, none⟩ = some (.int .u32 (e.ln : Nat)) ∧ wx.cell? ⟨g, i * 19 + 18, none⟩ = some (.int .u32 (c.s : Nat))) (first | with_reducible assumption | exact hS _ (by repeat (first | with_reducible assumption | with_reducible exact Below.refl _ _ | with_reducible refine belowN ?_ _ | with_reducible refine Below.drew ?_))) (first
              | (go_at_call 39; refine (hO _).mono ?_; rintro r w2 ⟨rfl, hw⟩; have hw := hw.symm; subst hw)
              | (go_at_call 38; refine (hW _ (by repeat (first | with_reducible assumption | with_reducible exact Below.refl _ _ | with_reducible refine belowN ?_ _ | with_reducible refine Below.drew ?_))).mono ?_; rintro r w3 ⟨rfl, b3⟩))
            all_goals
              obtain ⟨m0, m1, m2, m3, m4, m5, m6, m7, m8, m9, m10, m11, m12⟩ := hS _ b3
              clear HS hW hO
              go_wp2_with fail
              go_quiet (fail)
              go_wp2_with fail
              have HS6 := hS _ (Below.drew (belowN b3 nq))
              go_region_held3 (fun wx => wx.cell? ⟨w.heap.size, 0, none⟩ = some (.int .i64 fk) ∧ wx.cell? ⟨w.heap.size, 1, none⟩ = some (.int .i64 ((i : Nat) : Int)) ∧ wx.cell? ⟨w.heap.size, 2, none⟩ = some (.int .i64 fs) ∧ wx.cell? ⟨w.heap.size, 3, none⟩ = some (.int .u32 (fss : Nat)) ∧ wx.cell? ⟨w.heap.size, 4, none⟩ = some (.int .u32 (fnn : Nat)) ∧ wx.cell? ⟨w.heap.size, 5, none⟩ = some (.bool fon) ∧ wx.cell? ⟨w.heap.size, 6, none⟩ = some (.int .i64 fcd) ∧ wx.cell? ⟨w.heap.size, 7, none⟩ = some (.slice a fn cap) ∧ wx.cell? ⟨jb, 0, none⟩ = some (.slice (some ⟨g, 0, none⟩) nl cap0) ∧ wx.cell? ⟨g, q + 1, none⟩ = some (.bool true) ∧ wx.cell? ⟨g, q + 2, none⟩ = some (.int .u32 (e.ls : Nat)) ∧ wx.cell? ⟨g, q + 3, none⟩ = some (.int .u32 (e.ln : Nat)) ∧ wx.cell? ⟨g, i * 19 + 18, none⟩ = some (.int .u32 (c.s : Nat))) (first | with_reducible assumption | exact hS _ (by repeat (first | with_reducible assumption | with_reducible exact Below.refl _ _ | with_reducible refine belowN ?_ _ | with_reducible refine Below.drew ?_))) (first
                | (go_at_call 40; refine (hP _ (by repeat (first | with_reducible assumption | with_reducible exact Below.refl _ _ | with_reducible refine belowN ?_ _ | with_reducible refine Below.drew ?_))).mono ?_; rintro r w5 ⟨rfl, b5⟩)
                | (go_at_call 41; refine (hV _ (by repeat (first | with_reducible assumption | with_reducible exact Below.refl _ _ | with_reducible refine belowN ?_ _ | with_reducible refine Below.drew ?_))).mono ?_; rintro r w6 ⟨rfl, b6⟩))
              all_goals
                go_wp2_with fail
                go_ret
                refine ⟨by simp, HB.out.trans (Below.mono (B := _) ?_ HB.out.size)⟩
                exact (by repeat (first | with_reducible assumption | with_reducible exact Below.refl _ _ | with_reducible refine belowN ?_ _ | with_reducible refine Below.drew ?_))
      · go_enter Try.func25, Try.ntmps25
        go_wp2_with fail
        go_quiet (fail)
        go_wp2_with (go_at_call 27; refine (hA _).mono ?_; rintro r w2 ⟨rfl, hw⟩; have hw := hw.symm; subst hw)
        have HS := hS _ (Below.drew (belowN (Below.refl _ _) nq))
        go_region_held3 (fun wx => wx.cell? ⟨w.heap.size, 0, none⟩ = some (.int .i64 fk) ∧ wx.cell? ⟨w.heap.size, 1, none⟩ = some (.int .i64 ((i : Nat) : Int)) ∧ wx.cell? ⟨w.heap.size, 2, none⟩ = some (.int .i64 fs) ∧ wx.cell? ⟨w.heap.size, 3, none⟩ = some (.int .u32 (fss : Nat)) ∧ wx.cell? ⟨w.heap.size, 4, none⟩ = some (.int .u32 (fnn : Nat)) ∧ wx.cell? ⟨w.heap.size, 5, none⟩ = some (.bool fon) ∧ wx.cell? ⟨w.heap.size, 6, none⟩ = some (.int .i64 fcd) ∧ wx.cell? ⟨w.heap.size, 7, none⟩ = some (.slice a fn cap) ∧ wx.cell? ⟨jb, 0, none⟩ = some (.slice (some ⟨g, 0, none⟩) nl cap0) ∧ wx.cell? ⟨g, q + 1, none⟩ = some (.bool tk) ∧ wx.cell? ⟨g, q + 2, none⟩ = some (.int .u32 (e.ls : Nat)) ∧ wx.cell? ⟨g, q + 3, none⟩ = some (.int .u32 (e.ln : Nat)) ∧ wx.cell? ⟨g, i * 19 + 18, none⟩ = some (.int .u32 (c.s : Nat))) (first | with_reducible assumption | exact hS _ (by repeat (first | with_reducible assumption | with_reducible exact Below.refl _ _ | with_reducible refine belowN ?_ _ | with_reducible refine Below.drew ?_))) (first
          | (go_at_call 39; refine (hO _).mono ?_; rintro r w2 ⟨rfl, hw⟩; have hw := hw.symm; subst hw)
          | (go_at_call 38; refine (hW _ (by repeat (first | with_reducible assumption | with_reducible exact Below.refl _ _ | with_reducible refine belowN ?_ _ | with_reducible refine Below.drew ?_))).mono ?_; rintro r w3 ⟨rfl, b3⟩))
        all_goals
          obtain ⟨m0, m1, m2, m3, m4, m5, m6, m7, m8, m9, m10, m11, m12⟩ := hS _ b3
          clear HS hW hO
          go_wp2_with fail
          go_quiet (fail)
          go_wp2_with fail
          go_ret
          refine ⟨by simp, HB.out.trans (Below.mono (B := _) ?_ HB.out.size)⟩
          exact (by repeat (first | with_reducible assumption | with_reducible exact Below.refl _ _ | with_reducible refine belowN ?_ _ | with_reducible refine Below.drew ?_))
end Go.Proofs.Ythlgahkoignnkaa
