/- Layer 18: learn of a sending and of a session. (gengh9.py) -/
import Derived.Test.YtaeamogagaaodaaGh8
namespace Go.Proofs.Ytaeamogagaaodaa
open Go.RowKit Go.Maps
set_option maxRecDepth 100000

theorem EnW.same {w w' : World} {g p : Nat} {e : En} (h : EnW w g p e) (hb : w'.heap[g]? = w.heap[g]?) : EnW w' g p e := by
  have u : ∀ k, w'.cell? ⟨g, k, none⟩ = w.cell? ⟨g, k, none⟩ := fun k => World.cell?_of_block (a := ⟨g, k, none⟩) hb
  exact ⟨(u _).trans h.c0, (u _).trans h.c1, (u _).trans h.c2, (u _).trans h.c3, (u _).trans h.c4, (u _).trans h.c5, (u _).trans h.c6, (u _).trans h.c7, (u _).trans h.c8, fun k => by have := h.fz k; unfold World.frozen? at *; rw [hb]; exact this⟩
theorem CoW.same {w w' : World} {g p : Nat} {c : Co} (h : CoW w g p c) (hb : w'.heap[g]? = w.heap[g]?) : CoW w' g p c := ⟨h.h.same hb, h.d.same hb, (World.cell?_of_block (a := ⟨g, p + 18, none⟩) hb).trans h.s⟩
theorem GJ.sent {w w' : World} {jb g cap ob N N' : Nat} {M M' : TK → Option Nat} {J : Ju} {S' : Snt} (h : GJ w jb g cap ob N M J) {l : List Nat} (o : Off l w w') (hj : jb ∉ l) (hg : 0 < J.cs.length → g ∉ l) (hs : Sm w' ob M' S' N') : GJ w' jb g cap ob N' M' { J with S := S' } := by
  refine ⟨(o.block jb (Array.getElem?_eq_some_iff.1 h.blk).1 hj).trans h.blk, fun i c hc => ?_, hs, h.ne, h.few⟩
  have hc : J.cs[i]? = some c := hc
  have hg := hg (by have := (List.getElem?_eq_some_iff.1 hc).1; omega)
  have hw := h.con i c hc
  have hb := o.block g hw.lt hg
  exact hw.same hb
open Classical in
set_option maxHeartbeats 8000000 in
theorem glearn1 (jb g cap0 ob N : Nat) (M : TK → Option Nat) (J : Ju) (i : Nat) (c : Co) (fs : Int) (fss fnn : Nat) (fon : Bool) (fcd : Int) (fn : Nat) (fb : Nat → Nat) (a : Option Addr) (cap : Nat) (w : World) (h : GJ w jb g cap0 ob N M J) (hi : J.cs[i]? = some c) (hr : Row8 w a fn cap fb) (hN : N + 1 < maxLen) (ht : (TK.mk ((i : Nat) : Int) fs fss).ok) (hnn : fnn < 4294967296) (hx : (BA fb fn).size ≤ maxLen) :
    Calls Try.prog 20 #[.pointer (some ⟨jb, 0, none⟩), .agg #[.int .i64 1, .int .i64 ((i : Nat) : Int), .int .i64 fs, .int .u32 (fss : Nat), .int .u32 (fnn : Nat), .bool fon, .int .i64 fcd, .slice a fn cap]] w fun r w' => r = .returned (.tuple #[]) ∧ Hid (∃ M', (∀ t b, t.ok → M' t = some b → M t = some b ∨ w.heap.size ≤ b) ∧ GJ w' jb g cap0 ob (N + 2) M' { J with S := fun t n x => J.S t n x ∨ (t = ⟨((i : Nat) : Int), fs, fss⟩ ∧ n = fnn ∧ x = BA fb fn) } ∧ ∀ l, Ft jb g ob M l → Off l w w') := by
  obtain ⟨b1, c0⟩ : Below w.heap.size w (w.alloc (.cells #[.int .i64 1, .int .i64 ((i : Nat) : Int), .int .i64 fs, .int .u32 (fss : Nat), .int .u32 (fnn : Nat), .bool fon, .int .i64 fcd, .slice a fn cap] 43)) ∧ (w.alloc (.cells #[.int .i64 1, .int .i64 ((i : Nat) : Int), .int .i64 fs, .int .u32 (fss : Nat), .int .u32 (fnn : Nat), .bool fon, .int .i64 fcd, .slice a fn cap] 43)).heap[w.heap.size]? = some (.cells #[.int .i64 1, .int .i64 ((i : Nat) : Int), .int .i64 fs, .int .u32 (fss : Nat), .int .u32 (fnn : Nat), .bool fon, .int .i64 fcd, .slice a fn cap] 43 (0, 0)) := ⟨(Below.refl _ _).alloc (Nat.le_refl _) _, heap_alloc_new w _⟩
  have h1 := h.below b1
  have k0 := h1.sl hi
  have hA := fun wx => cat g (i * 19) wx fs
  rw [show (if fs = 1 then i * 19 else i * 19 + 9) = atP (i * 19) fs from rfl] at hA
  have hil := (List.getElem?_eq_some_iff.1 hi).1
  have hfew := h.few
  generalize J.cs.length = nl at *
  have hil' : ((i : Nat) : Int) < (nl : Int) := by omega
  have hF : ∀ wx, Below (w.alloc (.cells #[.int .i64 1, .int .i64 ((i : Nat) : Int), .int .i64 fs, .int .u32 (fss : Nat), .int .u32 (fnn : Nat), .bool fon, .int .i64 fcd, .slice a fn cap] 43)).heap.size (w.alloc (.cells #[.int .i64 1, .int .i64 ((i : Nat) : Int), .int .i64 fs, .int .u32 (fss : Nat), .int .u32 (fnn : Nat), .bool fon, .int .i64 fcd, .slice a fn cap] 43)) wx → Calls Try.prog 28 #[.pointer (some ⟨jb, 0, none⟩), .agg #[.int .i64 1, .int .i64 ((i : Nat) : Int), .int .i64 fs, .int .u32 (fss : Nat), .int .u32 (fnn : Nat), .bool fon, .int .i64 fcd, .slice a fn cap]] wx fun r w' => r = .returned (.tuple #[]) ∧ Hid (∃ M', (∀ t b, t.ok → M' t = some b → M t = some b ∨ wx.heap.size ≤ b) ∧ GJ w' jb g cap0 ob (N + 2) M' { J with S := fun t n x => J.S t n x ∨ (t = ⟨((i : Nat) : Int), fs, fss⟩ ∧ n = fnn ∧ x = BA fb fn) } ∧ ∀ l, Ft jb g ob M l → Off l wx w') := fun wx bx => by
    have hg := h1.below bx
    have hr1 := hr.below (b1.trans (bx.mono b1.size))
    refine (gkeep jb ob N M J.S ⟨1, ((i : Nat) : Int), fs, fss, fnn, fon, fcd, fn, fb⟩ a cap wx (cell_of_row wx jb 1 _ _ _ hg.blk) hg.sm hN hr1 ht hnn hx).mono ?_
    rintro r w' ⟨rfl, hh⟩
    obtain ⟨M', h1', h2', h3'⟩ := hh.out
    refine ⟨rfl, M', h1', ?_, fun l fl => h2' l fl.o fl.i⟩
    have cj := cell_of_row wx jb 1 _ _ _ hg.blk
    have cg := (hg.con i c hi).h.c0
    have mem : ∀ k, k ∈ (List.range wx.heap.size).filter (fun b => decide (b = ob ∨ ∃ t : TK, t.ok ∧ M t = some b)) ↔ k < wx.heap.size ∧ (k = ob ∨ ∃ t : TK, t.ok ∧ M t = some k) := fun k => by simp
    have out : ∀ (x : Addr) (v : Value), wx.cell? x = some v → x.block ∉ (List.range wx.heap.size).filter (fun b => decide (b = ob ∨ ∃ t : TK, t.ok ∧ M t = some b)) := fun x v hc hm => by
      obtain ⟨_, e | ⟨t, ht', e⟩⟩ := (mem _).1 hm
      · exact hg.sm.nob hc e
      · exact hg.sm.nin ht' e hc rfl
    exact hg.sent (h2' _ ((mem ob).2 ⟨hg.sm.lt0, .inl rfl⟩) (fun t b ht' hm => (mem b).2 ⟨hg.sm.lt1 ht' hm, .inr ⟨t, ht', hm⟩⟩)) (out ⟨jb, 1, none⟩ _ cj) (fun _ => out ⟨g, i * 19, none⟩ _ cg) h3'
  have HB : Hid (_) := b1
  clear h1 h hr b1
  go_enter Try.func20, Try.ntmps20
  go_wp2_with fail
  go_quiet (fail)
  go_wp2_with (first | (go_at_call 27; refine (hA _).mono ?_; rintro r w2 ⟨rfl, hw⟩; have hw := hw.symm; subst hw))
  refine (hF _ (by repeat (first | with_reducible assumption | with_reducible exact Below.refl _ _ | with_reducible refine belowN ?_ _ | with_reducible refine Below.drew ?_))).mono ?_
  rintro r w4 ⟨rfl, h4⟩
  go_wp2_with fail
  go_end0
  obtain ⟨M', h5, h6, h7⟩ := h4.out
  exact ⟨rfl, M', fun t b ht hm => (h5 t b ht hm).imp id (fun q => Nat.le_trans (belowN HB.out _).size q), h6, fun l fl => (Off.of_below (belowN HB.out _)).trans (h7 l fl)⟩
open Classical in
set_option maxHeartbeats 8000000 in
theorem glearn3 (jb g cap0 ob N : Nat) (M : TK → Option Nat) (J : Ju) (i : Nat) (c : Co) (fs : Int) (fss fnn : Nat) (fon : Bool) (fcd : Int) (fn : Nat) (fb : Nat → Nat) (a : Option Addr) (cap : Nat) (w : World) (h : GJ w jb g cap0 ob N M J) (hi : J.cs[i]? = some c) (_hr : Row8 w a fn cap fb) (ht : (TK.mk ((i : Nat) : Int) 1 fss).ok) :
    Calls Try.prog 20 #[.pointer (some ⟨jb, 0, none⟩), .agg #[.int .i64 3, .int .i64 ((i : Nat) : Int), .int .i64 fs, .int .u32 (fss : Nat), .int .u32 (fnn : Nat), .bool fon, .int .i64 fcd, .slice a fn cap]] w fun r w' => r = .returned (.tuple #[]) ∧ Hid (∃ M', (∀ t b, t.ok → M' t = some b → M t = some b ∨ w.heap.size ≤ b) ∧ GJ w' jb g cap0 ob N M' { J with cs := J.cs.set i { c with s := fss }, S := fun t n x => J.S t n x ∧ t ≠ ⟨((i : Nat) : Int), 1, fss⟩ } ∧ ∀ l, Ft jb g ob M l → Off l w w') := by
  obtain ⟨b1, c0⟩ : Below w.heap.size w (w.alloc (.cells #[.int .i64 3, .int .i64 ((i : Nat) : Int), .int .i64 fs, .int .u32 (fss : Nat), .int .u32 (fnn : Nat), .bool fon, .int .i64 fcd, .slice a fn cap] 43)) ∧ (w.alloc (.cells #[.int .i64 3, .int .i64 ((i : Nat) : Int), .int .i64 fs, .int .u32 (fss : Nat), .int .u32 (fnn : Nat), .bool fon, .int .i64 fcd, .slice a fn cap] 43)).heap[w.heap.size]? = some (.cells #[.int .i64 3, .int .i64 ((i : Nat) : Int), .int .i64 fs, .int .u32 (fss : Nat), .int .u32 (fnn : Nat), .bool fon, .int .i64 fcd, .slice a fn cap] 43 (0, 0)) := ⟨(Below.refl _ _).alloc (Nat.le_refl _) _, heap_alloc_new w _⟩
  have h1 := h.below b1
  have k0 := h1.sl hi
  have hA := fun wx => cat g (i * 19) wx fs
  rw [show (if fs = 1 then i * 19 else i * 19 + 9) = atP (i * 19) fs from rfl] at hA
  have hil := (List.getElem?_eq_some_iff.1 hi).1
  have hfew := h.few
  generalize J.cs.length = nl at *
  have hil' : ((i : Nat) : Int) < (nl : Int) := by omega
  have hk3 := h1.con i c hi
  have hs3 := hk3.s
  have hf3 := hk3.h.fz (i * 19 + 18)
  go_enter Try.func20, Try.ntmps20
  go_wp2_with fail
  go_quiet (fail)
  go_wp2_with (first | (go_at_call 27; refine (hA _).mono ?_; rintro r w2 ⟨rfl, hw⟩; have hw := hw.symm; subst hw))
  have g2 := h1.below (belowN (Below.refl _ _) nq)
  have k2 := g2.con i c hi
  have t2 : Tn ((w.alloc (.cells #[.int .i64 3, .int .i64 ((i : Nat) : Int), .int .i64 fs, .int .u32 (fss : Nat), .int .u32 (fnn : Nat), .bool fon, .int .i64 fcd, .slice a fn cap] 43)).drewN nq) (((w.alloc (.cells #[.int .i64 3, .int .i64 ((i : Nat) : Int), .int .i64 fs, .int .u32 (fss : Nat), .int .u32 (fnn : Nat), .bool fon, .int .i64 fcd, .slice a fn cap] 43)).drewN nq).setCell ⟨g, i * 19 + 18, none⟩ (.int .u32 (fss : Nat))) g (i * 19) (i * 19 + 19) := Tn.set _ g _ _ _ _ (by omega) (by omega)
  have t3 : Tn ((w.alloc (.cells #[.int .i64 3, .int .i64 ((i : Nat) : Int), .int .i64 fs, .int .u32 (fss : Nat), .int .u32 (fnn : Nat), .bool fon, .int .i64 fcd, .slice a fn cap] 43)).drewN nq) (((w.alloc (.cells #[.int .i64 3, .int .i64 ((i : Nat) : Int), .int .i64 fs, .int .u32 (fss : Nat), .int .u32 (fnn : Nat), .bool fon, .int .i64 fcd, .slice a fn cap] 43)).drewN nq).setCell ⟨g, i * 19 + 18, none⟩ (.int .u32 (fss : Nat))) g (i * 19 + 18) (i * 19 + 19) := Tn.set _ g _ _ _ _ (by omega) (by omega)
  have g3 := g2.turn hi t2 (c' := { c with s := fss }) ⟨k2.h.keep t3 (by omega), k2.d.keep t3 (by omega), World.cell?_setCell_same _ _ _ k2.s⟩
  have bx3 : (((w.alloc (.cells #[.int .i64 3, .int .i64 ((i : Nat) : Int), .int .i64 fs, .int .u32 (fss : Nat), .int .u32 (fnn : Nat), .bool fon, .int .i64 fcd, .slice a fn cap] 43)).drewN nq).setCell ⟨g, i * 19 + 18, none⟩ (.int .u32 (fss : Nat))).heap[w.heap.size]? = _ := (t2.off.block w.heap.size (by have := (Array.getElem?_eq_some_iff.1 c0).1; exact this) (by have := h.ltg hi; simp; omega)).trans c0
  obtain ⟨w5, hrun5, H5⟩ := (g3.below (Below.drew (Below.refl _ _))).sm.del ⟨((i : Nat) : Int), 1, fss⟩ ht 0
  unfold tkV at hrun5
  have cj3 := cell_of_row _ jb 1 _ _ _ g3.blk
  have HS : (((w.alloc (.cells #[.int .i64 3, .int .i64 ((i : Nat) : Int), .int .i64 fs, .int .u32 (fss : Nat), .int .u32 (fnn : Nat), .bool fon, .int .i64 fcd, .slice a fn cap] 43)).drewN nq).setCell ⟨g, i * 19 + 18, none⟩ (.int .u32 (fss : Nat))).drew.cell? ⟨w.heap.size, 1, none⟩ = some (.int .i64 ((i : Nat) : Int)) ∧ (((w.alloc (.cells #[.int .i64 3, .int .i64 ((i : Nat) : Int), .int .i64 fs, .int .u32 (fss : Nat), .int .u32 (fnn : Nat), .bool fon, .int .i64 fcd, .slice a fn cap] 43)).drewN nq).setCell ⟨g, i * 19 + 18, none⟩ (.int .u32 (fss : Nat))).drew.cell? ⟨w.heap.size, 3, none⟩ = some (.int .u32 (fss : Nat)) ∧ (((w.alloc (.cells #[.int .i64 3, .int .i64 ((i : Nat) : Int), .int .i64 fs, .int .u32 (fss : Nat), .int .u32 (fnn : Nat), .bool fon, .int .i64 fcd, .slice a fn cap] 43)).drewN nq).setCell ⟨g, i * 19 + 18, none⟩ (.int .u32 (fss : Nat))).drew.cell? ⟨jb, 1, none⟩ = some (.map (some ob)) := ⟨cell_of_row _ _ 1 _ _ _ bx3, cell_of_row _ _ 3 _ _ _ bx3, cj3⟩
  have T5 : w5.cell? ⟨w.heap.size, 1, none⟩ = some (.int .i64 ((i : Nat) : Int)) ∧ w5.cell? ⟨w.heap.size, 3, none⟩ = some (.int .u32 (fss : Nat)) ∧ w5.cell? ⟨jb, 1, none⟩ = some (.map (some ob)) := by
    obtain ⟨o5, _⟩ := H5.out
    have l1 := (Array.getElem?_eq_some_iff.1 bx3).1
    have hq := (o5.block w.heap.size l1 (by have := h.sm.lt0; simp; omega)).trans bx3
    have hq3 := (World.cell?_of_block (a := ⟨jb, 1, none⟩) (o5.block jb (World.block_lt_of_cell? _ _ cj3) (by have := g3.sm.nob cj3; simpa using this))).trans cj3
    exact ⟨cell_of_row _ _ 1 _ _ _ hq, cell_of_row _ _ 3 _ _ _ hq, hq3⟩
  have HG : Hid (_) := And.intro g3 (And.intro t2 (And.intro b1 (And.intro h hi)))
  clear g2 k2 t2 t3 g3 bx3 cj3 h1 k0 hk3 hs3 hf3 hA b1 c0 h hi hil hil' hfew
  go_region_held3 (fun wx => wx.cell? ⟨w.heap.size, 1, none⟩ = some (.int .i64 ((i : Nat) : Int)) ∧ wx.cell? ⟨w.heap.size, 3, none⟩ = some (.int .u32 (fss : Nat)) ∧ wx.cell? ⟨jb, 1, none⟩ = some (.map (some ob))) (with_reducible assumption) (fail)
  all_goals
    clear HS T5
    go_wp2_with fail
    go_end0
    obtain ⟨g3, t2, b1, h, hi⟩ := HG.out
    obtain ⟨o5, s5⟩ := H5.out
    have cj3 := cell_of_row _ jb 1 _ _ _ g3.blk
    refine ⟨rfl, _, fun t b _ hm => ?_, (g3.below (Below.drew (Below.refl _ _))).sent o5 (by have := g3.sm.nob cj3; simpa using this) (fun _ => by have := h.sm.nob (h.con i c hi).h.c0; simpa using this) s5, fun l fl => ?_⟩
    · split at hm
      · cases hm
      · exact .inl hm
    · exact ((Off.of_below (belowN b1 _)).trans (t2.off.more (fun k hk => by simp at hk; subst hk; exact fl.g))).trans ((Off.drew _ _).trans (o5.more (fun k hk => by simp at hk; subst hk; exact fl.o)))
end Go.Proofs.Ytaeamogagaaodaa
