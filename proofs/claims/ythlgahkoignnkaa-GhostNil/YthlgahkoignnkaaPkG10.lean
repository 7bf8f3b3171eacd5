/- Part 11 of the texts on which the proof rests: contracts of Go functions. -/
import Derived.Test.YthlgahkoignnkaaPkG09
namespace Go.Proofs.Ythlgahkoignnkaa
open Go.RowKit Go.Maps
set_option maxRecDepth 100000
def isK (k : Int) : Bool := decide (1 ≤ k) && decide (k ≤ 8)
def isS (s : Int) : Bool := (s == 1) || (s == 2)
theorem gkind (k : Int) (w : World) : Calls Try.prog 23 #[.int .i64 k] w fun r w' => r = .returned (.bool (isK k)) ∧ w' = w := by
  unfold isK
  by_cases h : 1 ≤ k
  · go_enter Try.func23, Try.ntmps23
    go_wp2_with fail
    go_ret
    exact ⟨by simp [h], rfl⟩
  · go_enter Try.func23, Try.ntmps23
    go_wp2_with fail
    go_ret
    exact ⟨by simp; omega, rfl⟩
theorem gside (s : Int) (w : World) : Calls Try.prog 24 #[.int .i64 s] w fun r w' => r = .returned (.bool (isS s)) ∧ w' = w := by
  unfold isS
  cases h : (s == 1)
  · go_enter Try.func24, Try.ntmps24
    go_wp2_with fail
    go_ret
    exact ⟨by simp, rfl⟩
  · go_enter Try.func24, Try.ntmps24
    go_wp2_with fail
    go_ret
    exact ⟨by simp, rfl⟩
theorem csV_sl (n g cap : Nat) : ∃ sa sc, csV n g cap = .slice sa n sc := by
  unfold csV
  split
  · rename_i h; exact ⟨none, 0, by rw [h]⟩
  · exact ⟨_, _, rfl⟩
set_option maxHeartbeats 8000000 in
theorem grule_bad (jb g cap0 ob N : Nat) (M : TK → Option Nat) (J : Ju) (fk fc fs : Int) (fss fnn : Nat) (fon : Bool) (fcd : Int) (fn : Nat) (a : Option Addr) (cap : Nat) (w : World) (h : GJ w jb g cap0 ob N M J) (hb : isK fk = false ∨ fc < 0 ∨ (J.cs.length : Int) ≤ fc ∨ isS fs = false) :
    Calls Try.prog 19 #[.pointer (some ⟨jb, 0, none⟩), .agg #[.int .i64 fk, .int .i64 fc, .int .i64 fs, .int .u32 (fss : Nat), .int .u32 (fnn : Nat), .bool fon, .int .i64 fcd, .slice a fn cap]] w fun r w' => r = .returned (.int .i64 1) ∧ Below w.heap.size w w' := by
  have b1 : Below w.heap.size w (w.alloc (.cells #[.int .i64 fk, .int .i64 fc, .int .i64 fs, .int .u32 (fss : Nat), .int .u32 (fnn : Nat), .bool fon, .int .i64 fcd, .slice a fn cap] 43)) := (Below.refl _ _).alloc (Nat.le_refl _) _
  have hK := fun wx => gkind fk wx
  have hD := fun wx => gside fs wx
  have h1 := h.below b1
  have k0 : (w.alloc (.cells #[.int .i64 fk, .int .i64 fc, .int .i64 fs, .int .u32 (fss : Nat), .int .u32 (fnn : Nat), .bool fon, .int .i64 fcd, .slice a fn cap] 43)).cell? ⟨jb, 0, none⟩ = some (csV J.cs.length g cap0) := cell_of_row _ jb 0 _ _ _ h1.blk
  have hfew := h.few
  obtain ⟨sa, sc, e⟩ := csV_sl J.cs.length g cap0
  rw [e] at k0
  generalize J.cs.length = nl at *
  have HB : Hid (_) := b1
  clear h h1 b1 e
  cases hk : isK fk
  · rw [hk] at hK
    go_enter Try.func19, Try.ntmps19
    go_wp2_with fail
    go_quiet ((first | (go_at_call 23; exact Calls.quiet_of_same (hK _)) | (go_at_call 24; exact Calls.quiet_of_same (hD _))))
    go_wp2_with fail
    go_ret
    exact ⟨rfl, belowN HB.out _⟩
  · rw [hk] at hK
    by_cases h0 : fc < 0
    · go_enter Try.func19, Try.ntmps19
      go_wp2_with fail
      go_quiet ((first | (go_at_call 23; exact Calls.quiet_of_same (hK _)) | (go_at_call 24; exact Calls.quiet_of_same (hD _))))
      go_wp2_with fail
      go_ret
      exact ⟨rfl, belowN HB.out _⟩
    · by_cases h2 : (nl : Int) ≤ fc
      · go_enter Try.func19, Try.ntmps19
        go_wp2_with fail
        go_quiet ((first | (go_at_call 23; exact Calls.quiet_of_same (hK _)) | (go_at_call 24; exact Calls.quiet_of_same (hD _))))
        go_wp2_with fail
        go_ret
        exact ⟨rfl, belowN HB.out _⟩
      · have hs : isS fs = false := by rcases hb with x | x | x | x
                                       · rw [hk] at x; cases x
                                       · exact absurd x h0
                                       · exact absurd x h2
                                       · exact x
        rw [hs] at hD
        go_enter Try.func19, Try.ntmps19
        go_wp2_with fail
        go_quiet ((first | (go_at_call 23; exact Calls.quiet_of_same (hK _)) | (go_at_call 24; exact Calls.quiet_of_same (hD _))))
        go_wp2_with fail
        go_ret
        exact ⟨rfl, belowN HB.out _⟩
noncomputable def Ju.rul (J : Ju) (c : Co) (f : Fa) : Int := if f.k = 2 then J.tak c f else if f.k = 8 then c.out f else 0
set_option maxHeartbeats 8000000 in
theorem grule_ok (jb g cap0 ob N : Nat) (M : TK → Option Nat) (J : Ju) (i : Nat) (c : Co) (fk fs : Int) (fss fnn : Nat) (fon : Bool) (fcd : Int) (fn : Nat) (fb : Nat → Nat) (a : Option Addr) (cap : Nat) (w : World) (h : GJ w jb g cap0 ob N M J) (hi : J.cs[i]? = some c) (hr : Row8 w a fn cap fb) (hk : isK fk = true) (hs : isS fs = true) (hss : fss < 4294967296) (hiw : (Lit.int .i64 ((i : Nat) : Int)).wf = true) (hnn : fnn < 4294967296) (hx : (BA fb fn).size ≤ maxLen) (hn : fn ≤ 140737488351232) :
    Calls Try.prog 19 #[.pointer (some ⟨jb, 0, none⟩), .agg #[.int .i64 fk, .int .i64 ((i : Nat) : Int), .int .i64 fs, .int .u32 (fss : Nat), .int .u32 (fnn : Nat), .bool fon, .int .i64 fcd, .slice a fn cap]] w fun r w' => r = .returned (.int .i64 (J.rul c ⟨fk, ((i : Nat) : Int), fs, fss, fnn, fon, fcd, fn, fb⟩)) ∧ Below w.heap.size w w' := by
  obtain ⟨b1, c0⟩ : Below w.heap.size w (w.alloc (.cells #[.int .i64 fk, .int .i64 ((i : Nat) : Int), .int .i64 fs, .int .u32 (fss : Nat), .int .u32 (fnn : Nat), .bool fon, .int .i64 fcd, .slice a fn cap] 43)) ∧ (w.alloc (.cells #[.int .i64 fk, .int .i64 ((i : Nat) : Int), .int .i64 fs, .int .u32 (fss : Nat), .int .u32 (fnn : Nat), .bool fon, .int .i64 fcd, .slice a fn cap] 43)).heap[w.heap.size]? = some (.cells #[.int .i64 fk, .int .i64 ((i : Nat) : Int), .int .i64 fs, .int .u32 (fss : Nat), .int .u32 (fnn : Nat), .bool fon, .int .i64 fcd, .slice a fn cap] 43 (0, 0)) := ⟨(Below.refl _ _).alloc (Nat.le_refl _) _, heap_alloc_new w _⟩
  have hK := fun wx => gkind fk wx
  have hD := fun wx => gside fs wx
  rw [hk] at hK
  rw [hs] at hD
  have h1 := h.below b1
  have k0 := h1.sl hi
  have hil := (List.getElem?_eq_some_iff.1 hi).1
  have hfew := h.few
  have hoth : (Lit.int .i64 (oth fs)).wf = true := by unfold oth; split <;> decide
  have hT : ∀ wx, Below (w.alloc (.cells #[.int .i64 fk, .int .i64 ((i : Nat) : Int), .int .i64 fs, .int .u32 (fss : Nat), .int .u32 (fnn : Nat), .bool fon, .int .i64 fcd, .slice a fn cap] 43)).heap.size (w.alloc (.cells #[.int .i64 fk, .int .i64 ((i : Nat) : Int), .int .i64 fs, .int .u32 (fss : Nat), .int .u32 (fnn : Nat), .bool fon, .int .i64 fcd, .slice a fn cap] 43)) wx → Calls Try.prog 25 #[.pointer (some ⟨jb, 0, none⟩), .agg #[.int .i64 fk, .int .i64 ((i : Nat) : Int), .int .i64 fs, .int .u32 (fss : Nat), .int .u32 (fnn : Nat), .bool fon, .int .i64 fcd, .slice a fn cap]] wx fun r w' => r = .returned (.int .i64 (J.tak c ⟨fk, ((i : Nat) : Int), fs, fss, fnn, fon, fcd, fn, fb⟩)) ∧ Below (w.alloc (.cells #[.int .i64 fk, .int .i64 ((i : Nat) : Int), .int .i64 fs, .int .u32 (fss : Nat), .int .u32 (fnn : Nat), .bool fon, .int .i64 fcd, .slice a fn cap] 43)).heap.size (w.alloc (.cells #[.int .i64 fk, .int .i64 ((i : Nat) : Int), .int .i64 fs, .int .u32 (fss : Nat), .int .u32 (fnn : Nat), .bool fon, .int .i64 fcd, .slice a fn cap] 43)) w' := fun wx bx =>
    (gtaken jb g cap0 ob N M J i c fk fs fss fnn fon fcd fn fb a cap wx (h1.below bx) hi (hr.below (b1.trans (bx.mono b1.size))) ⟨hiw, hoth, hss⟩ hnn hx).mono fun _ _ ⟨e, b⟩ => ⟨e, bx.trans (b.mono bx.size)⟩
  have hU : ∀ wx, Below (w.alloc (.cells #[.int .i64 fk, .int .i64 ((i : Nat) : Int), .int .i64 fs, .int .u32 (fss : Nat), .int .u32 (fnn : Nat), .bool fon, .int .i64 fcd, .slice a fn cap] 43)).heap.size (w.alloc (.cells #[.int .i64 fk, .int .i64 ((i : Nat) : Int), .int .i64 fs, .int .u32 (fss : Nat), .int .u32 (fnn : Nat), .bool fon, .int .i64 fcd, .slice a fn cap] 43)) wx → Calls Try.prog 26 #[.pointer (some ⟨g, i * 19, none⟩), .agg #[.int .i64 fk, .int .i64 ((i : Nat) : Int), .int .i64 fs, .int .u32 (fss : Nat), .int .u32 (fnn : Nat), .bool fon, .int .i64 fcd, .slice a fn cap]] wx fun r w' => r = .returned (.int .i64 (c.out ⟨fk, ((i : Nat) : Int), fs, fss, fnn, fon, fcd, fn, fb⟩)) ∧ Below (w.alloc (.cells #[.int .i64 fk, .int .i64 ((i : Nat) : Int), .int .i64 fs, .int .u32 (fss : Nat), .int .u32 (fnn : Nat), .bool fon, .int .i64 fcd, .slice a fn cap] 43)).heap.size (w.alloc (.cells #[.int .i64 fk, .int .i64 ((i : Nat) : Int), .int .i64 fs, .int .u32 (fss : Nat), .int .u32 (fnn : Nat), .bool fon, .int .i64 fcd, .slice a fn cap] 43)) w' := fun wx bx =>
    (cout g (i * 19) c wx ⟨fk, ((i : Nat) : Int), fs, fss, fnn, fon, fcd, fn, fb⟩ a cap ((h1.below bx).con i c hi) (hr.below (b1.trans (bx.mono b1.size))) hn).mono fun _ _ ⟨e, b⟩ => ⟨e, bx.trans (b.mono bx.size)⟩
  unfold Ju.rul
  show Calls Try.prog _ _ _ fun r w' => r = .returned (.int .i64 (if fk = 2 then J.tak c ⟨fk, ((i : Nat) : Int), fs, fss, fnn, fon, fcd, fn, fb⟩ else if fk = 8 then c.out ⟨fk, ((i : Nat) : Int), fs, fss, fnn, fon, fcd, fn, fb⟩ else 0)) ∧ _
  generalize J.tak c ⟨fk, ((i : Nat) : Int), fs, fss, fnn, fon, fcd, fn, fb⟩ = rt at *
  generalize c.out ⟨fk, ((i : Nat) : Int), fs, fss, fnn, fon, fcd, fn, fb⟩ = ro at *
  generalize J.cs.length = nl at *
  have hil' : ((i : Nat) : Int) < (nl : Int) := by omega
  have h0 : ¬ ((i : Nat) : Int) < 0 := by omega
  have h2 : ¬ (nl : Int) ≤ ((i : Nat) : Int) := by omega
  have hd0 : decide (((i : Nat) : Int) < 0) = false := by simp
  have hd1 : decide (nl ≤ i) = false := by simp; omega
  have hS : ∀ wx, Below (w.alloc (.cells #[.int .i64 fk, .int .i64 ((i : Nat) : Int), .int .i64 fs, .int .u32 (fss : Nat), .int .u32 (fnn : Nat), .bool fon, .int .i64 fcd, .slice a fn cap] 43)).heap.size (w.alloc (.cells #[.int .i64 fk, .int .i64 ((i : Nat) : Int), .int .i64 fs, .int .u32 (fss : Nat), .int .u32 (fnn : Nat), .bool fon, .int .i64 fcd, .slice a fn cap] 43)) wx → wx.cell? ⟨w.heap.size, 0, none⟩ = some (.int .i64 fk) ∧ wx.cell? ⟨w.heap.size, 1, none⟩ = some (.int .i64 ((i : Nat) : Int)) ∧ wx.cell? ⟨w.heap.size, 2, none⟩ = some (.int .i64 fs) ∧ wx.cell? ⟨w.heap.size, 3, none⟩ = some (.int .u32 (fss : Nat)) ∧ wx.cell? ⟨w.heap.size, 4, none⟩ = some (.int .u32 (fnn : Nat)) ∧ wx.cell? ⟨w.heap.size, 5, none⟩ = some (.bool fon) ∧ wx.cell? ⟨w.heap.size, 6, none⟩ = some (.int .i64 fcd) ∧ wx.cell? ⟨w.heap.size, 7, none⟩ = some (.slice a fn cap) ∧ wx.cell? ⟨jb, 0, none⟩ = some (.slice (some ⟨g, 0, none⟩) nl cap0) := fun wx bx => by
    have hq := (bx.block w.heap.size (Array.getElem?_eq_some_iff.1 c0).1).trans c0
    exact ⟨cell_of_row wx _ 0 _ _ _ hq, cell_of_row wx _ 1 _ _ _ hq, cell_of_row wx _ 2 _ _ _ hq, cell_of_row wx _ 3 _ _ _ hq, cell_of_row wx _ 4 _ _ _ hq, cell_of_row wx _ 5 _ _ _ hq, cell_of_row wx _ 6 _ _ _ hq, cell_of_row wx _ 7 _ _ _ hq, cell_belowJ k0 bx⟩
  have HB : Hid (_) := b1
  clear h h1 b1 c0 hi hr hx hn hnn hiw hss hoth hil hk hs
  by_cases e2 : fk = 2
  · rw [if_pos e2]
    subst e2
    go_enter Try.func19, Try.ntmps19
    go_wp2_with fail
    go_quiet ((first | (go_at_call 23; exact Calls.quiet_of_same (hK _)) | (go_at_call 24; exact Calls.quiet_of_same (hD _))))
    go_wp2_with fail
    refine (hT _ (by repeat (first | with_reducible assumption | with_reducible exact Below.refl _ _ | with_reducible refine belowN ?_ _ | with_reducible refine Below.drew ?_))).mono ?_
    rintro r w2 ⟨rfl, b2⟩
    go_wp2_with fail
    go_ret
    exact ⟨rfl, HB.out.trans (Below.mono (B := _) b2 HB.out.size)⟩
  · rw [if_neg e2]
    have e2b : (fk == 2) = false := by simpa using e2
    by_cases e8 : fk = 8
    · rw [if_pos e8]
      subst e8
      go_enter Try.func19, Try.ntmps19
      go_wp2_with fail
      go_quiet ((first | (go_at_call 23; exact Calls.quiet_of_same (hK _)) | (go_at_call 24; exact Calls.quiet_of_same (hD _))))
      go_wp2_with fail
      have HS := hS _ (Below.drew (belowN (Below.refl _ _) nq))
      go_region_held3 (fun wx => wx.cell? ⟨w.heap.size, 0, none⟩ = some (.int .i64 8) ∧ wx.cell? ⟨w.heap.size, 1, none⟩ = some (.int .i64 ((i : Nat) : Int)) ∧ wx.cell? ⟨w.heap.size, 2, none⟩ = some (.int .i64 fs) ∧ wx.cell? ⟨w.heap.size, 3, none⟩ = some (.int .u32 (fss : Nat)) ∧ wx.cell? ⟨w.heap.size, 4, none⟩ = some (.int .u32 (fnn : Nat)) ∧ wx.cell? ⟨w.heap.size, 5, none⟩ = some (.bool fon) ∧ wx.cell? ⟨w.heap.size, 6, none⟩ = some (.int .i64 fcd) ∧ wx.cell? ⟨w.heap.size, 7, none⟩ = some (.slice a fn cap) ∧ wx.cell? ⟨jb, 0, none⟩ = some (.slice (some ⟨g, 0, none⟩) nl cap0)) (first | with_reducible assumption | exact hS _ (by repeat (first | with_reducible assumption | with_reducible exact Below.refl _ _ | with_reducible refine belowN ?_ _ | with_reducible refine Below.drew ?_))) (first
        | (go_at_call 26; refine (hU _ (by repeat (first | with_reducible assumption | with_reducible exact Below.refl _ _ | with_reducible refine belowN ?_ _ | with_reducible refine Below.drew ?_))).mono ?_; rintro r w2 ⟨rfl, b2⟩))
      all_goals
        go_wp2_with fail
        go_ret
        exact ⟨rfl, HB.out.trans (Below.mono (B := _) b2 HB.out.size)⟩
    · rw [if_neg e8]
      have e8b : (fk == 8) = false := by simpa using e8
      go_enter Try.func19, Try.ntmps19
      go_wp2_with fail
      go_quiet ((first | (go_at_call 23; exact Calls.quiet_of_same (hK _)) | (go_at_call 24; exact Calls.quiet_of_same (hD _))))
      go_wp2_with fail
      go_ret
      exact ⟨rfl, belowN HB.out _⟩
end Go.Proofs.Ythlgahkoignnkaa
