/- Part 12 of the texts on which the proof rests: contracts of Go functions. -/
import Derived.Deep.MidRow
import Derived.Deep.Upon
import Derived.Deep.RegionLaw
import Derived.Maps.AppendAt
import Derived.Sort.WalkA
import Derived.Test.YthlgahkoignnkaaProg
import Derived.WalkKit
import Derived.ProofKit
import Derived.Lib.SmallJoins
import Derived.Test.YthlgahkoignnkaaPkG08
import Derived.Test.YthlgahkoignnkaaPkG10
namespace Go.Proofs.Ythlgahkoignnkaa
open Go.RowKit Go.Maps
set_option maxRecDepth 100000
theorem EnW.same {w w' : World} {g p : Nat} {e : En} (h : EnW w g p e) (hb : w'.heap[g]? = w.heap[g]?) : EnW w' g p e := by
  have u : ∀ k, w'.cell? ⟨g, k, none⟩ = w.cell? ⟨g, k, none⟩ := fun k => World.cell?_of_block (a := ⟨g, k, none⟩) hb
  exact ⟨(u _).trans h.c0, (u _).trans h.c1, (u _).trans h.c2, (u _).trans h.c3, (u _).trans h.c4, (u _).trans h.c5, (u _).trans h.c6, (u _).trans h.c7, (u _).trans h.c8, fun k => by have := h.fz k; unfold World.frozen? at *; rw [hb]; exact this⟩
theorem CoW.same {w w' : World} {g p : Nat} {c : Co} (h : CoW w g p c) (hb : w'.heap[g]? = w.heap[g]?) : CoW w' g p c := ⟨h.h.same hb, h.d.same hb, (World.cell?_of_block (a := ⟨g, p + 18, none⟩) hb).trans h.s⟩
theorem GJ.sent {w w' : World} {jb g cap ob N N' : Nat} {M M' : TK → Option Nat} {J : Ju} {S' : Snt} (h : GJ w jb g cap ob N M J) {l : List Nat} (o : Off l w w') (hj : jb ∉ l) (hg : 0 < J.cs.length → g ∉ l) (hs : Sm w' ob M' S' N') : GJ w' jb g cap ob N' M' { J with S := S' } := by
  refine ⟨(o.block jb (Array.getElem?_eq_some_iff.1 h.blk).1 hj).trans h.blk, fun i c hc => ?_, hs, h.ne, h.few⟩
  have hc : J.cs[i]? = some c := hc
  have hg := hg (by have := (List.getElem?_eq_some_iff.1 hc).1; omega)
  have hw := h.con i c hc
  have hb := o.block g hw.lt hg
  exact hw.same hb
open Classical in
set_option maxHeartbeats 8000000 in
theorem glearn1 (jb g cap0 ob N : Nat) (M : TK → Option Nat) (J : Ju) (i : Nat) (c : Co) (fs : Int) (fss fnn : Nat) (fon : Bool) (fcd : Int) (fn : Nat) (fb : Nat → Nat) (a : Option Addr) (cap : Nat) (w : World) (h : GJ w jb g cap0 ob N M J) (hi : J.cs[i]? = some c) (hr : Row8 w a fn cap fb) (hN : N + 1 < maxLen) (ht : (TK.mk ((i : Nat) : Int) fs fss).ok) (hnn : fnn < 4294967296) (hx : (BA fb fn).size ≤ maxLen) :
    Calls Try.prog 20 #[.pointer (some ⟨jb, 0, none⟩), .agg #[.int .i64 1, .int .i64 ((i : Nat) : Int), .int .i64 fs, .int .u32 (fss : Nat), .int .u32 (fnn : Nat), .bool fon, .int .i64 fcd, .slice a fn cap]] w fun r w' => r = .returned (.tuple #[]) ∧ Hid (∃ M', (∀ t b, t.ok → M' t = some b → M t = some b ∨ w.heap.size ≤ b) ∧ GJ w' jb g cap0 ob (N + 2) M' { J with S := fun t n x => J.S t n x ∨ (t = ⟨((i : Nat) : Int), fs, fss⟩ ∧ n = fnn ∧ x = BA fb fn) } ∧ ∀ l, Ft jb g ob M l → Off l w w') := by
  obtain ⟨b1, c0⟩ : Below w.heap.size w (w.alloc (.cells #[.int .i64 1, .int .i64 ((i : Nat) : Int), .int .i64 fs, .int .u32 (fss : Nat), .int .u32 (fnn : Nat), .bool fon, .int .i64 fcd, .slice a fn cap] 43)) ∧ (w.alloc (.cells #[.int .i64 1, .int .i64 ((i : Nat) : Int), .int .i64 fs, .int .u32 (fss : Nat), .int .u32 (fnn : Nat), .bool fon, .int .i64 fcd, .slice a fn cap] 43)).heap[w.heap.size]? = some (.cells #[.int .i64 1, .int .i64 ((i : Nat) : Int), .int .i64 fs, .int .u32 (fss : Nat), .int .u32 (fnn : Nat), .bool fon, .int .i64 fcd, .slice a fn cap] 43 (0, 0)) := ⟨(Below.refl _ _).alloc (Nat.le_refl _) _, heap_alloc_new w _⟩
  have h1 := h.below b1
  have k0 := h1.sl hi
  have hA := fun wx => cat g (i * 19) wx fs
  rw [show (if fs = 1 then i * 19 else i * 19 + 9) = atP (i * 19) fs from rfl] at hA
  have hil := (List.getElem?_eq_some_iff.1 hi).1
  have hfew := h.few
  generalize J.cs.length = nl at *
  have hil' : ((i : Nat) : Int) < (nl : Int) := by omega
  have hF : ∀ wx, Below (w.alloc (.cells #[.int .i64 1, .int .i64 ((i : Nat) : Int), .int .i64 fs, .int .u32 (fss : Nat), .int .u32 (fnn : Nat), .bool fon, .int .i64 fcd, .slice a fn cap] 43)).heap.size (w.alloc (.cells #[.int .i64 1, .int .i64 ((i : Nat) : Int), .int .i64 fs, .int .u32 (fss : Nat), .int .u32 (fnn : Nat), .bool fon, .int .i64 fcd, .slice a fn cap] 43)) wx → Calls Try.prog 28 #[.pointer (some ⟨jb, 0, none⟩), .agg #[.int .i64 1, .int .i64 ((i : Nat) : Int), .int .i64 fs, .int .u32 (fss : Nat), .int .u32 (fnn : Nat), .bool fon, .int .i64 fcd, .slice a fn cap]] wx fun r w' => r = .returned (.tuple #[]) ∧ Hid (∃ M', (∀ t b, t.ok → M' t = some b → M t = some b ∨ wx.heap.size ≤ b) ∧ GJ w' jb g cap0 ob (N + 2) M' { J with S := fun t n x => J.S t n x ∨ (t = ⟨((i : Nat) : Int), fs, fss⟩ ∧ n = fnn ∧ x = BA fb fn) } ∧ ∀ l, Ft jb g ob M l → Off l wx w') := fun wx bx => by
    have hg := h1.below bx
    have hr1 := hr.below (b1.trans (bx.mono b1.size))
    refine (gkeep jb ob N M J.S ⟨1, ((i : Nat) : Int), fs, fss, fnn, fon, fcd, fn, fb⟩ a cap wx (cell_of_row wx jb 1 _ _ _ hg.blk) hg.sm hN hr1 ht hnn hx).mono ?_
    rintro r w' ⟨rfl, hh⟩
    obtain ⟨M', h1', h2', h3'⟩ := hh.out
    refine ⟨rfl, M', h1', ?_, fun l fl => h2' l fl.o fl.i⟩
    have cj := cell_of_row wx jb 1 _ _ _ hg.blk
    have cg := (hg.con i c hi).h.c0
    have mem : ∀ k, k ∈ (List.range wx.heap.size).filter (fun b => decide (b = ob ∨ ∃ t : TK, t.ok ∧ M t = some b)) ↔ k < wx.heap.size ∧ (k = ob ∨ ∃ t : TK, t.ok ∧ M t = some k) := fun k => by simp
    have out : ∀ (x : Addr) (v : Value), wx.cell? x = some v → x.block ∉ (List.range wx.heap.size).filter (fun b => decide (b = ob ∨ ∃ t : TK, t.ok ∧ M t = some b)) := fun x v hc hm => by
      obtain ⟨_, e | ⟨t, ht', e⟩⟩ := (mem _).1 hm
      · exact hg.sm.nob hc e
      · exact hg.sm.nin ht' e hc rfl
    exact hg.sent (h2' _ ((mem ob).2 ⟨hg.sm.lt0, .inl rfl⟩) (fun t b ht' hm => (mem b).2 ⟨hg.sm.lt1 ht' hm, .inr ⟨t, ht', hm⟩⟩)) (out ⟨jb, 1, none⟩ _ cj) (fun _ => out ⟨g, i * 19, none⟩ _ cg) h3'
  have HB : Hid (_) := b1
  clear h1 h hr b1
  go_enter Try.func20, Try.ntmps20
  go_wp2_with fail
  go_quiet (fail)
  go_wp2_with (first | (go_at_call 27; refine (hA _).mono ?_; rintro r w2 ⟨rfl, hw⟩; have hw := hw.symm; subst hw))
  refine (hF _ (by repeat (first | with_reducible assumption | with_reducible exact Below.refl _ _ | with_reducible refine belowN ?_ _ | with_reducible refine Below.drew ?_))).mono ?_
  rintro r w4 ⟨rfl, h4⟩
  go_wp2_with fail
  go_end0
  obtain ⟨M', h5, h6, h7⟩ := h4.out
  exact ⟨rfl, M', fun t b ht hm => (h5 t b ht hm).imp id (fun q => Nat.le_trans (belowN HB.out _).size q), h6, fun l fl => (Off.of_below (belowN HB.out _)).trans (h7 l fl)⟩
open Classical in
set_option maxHeartbeats 8000000 in
theorem glearn3 (jb g cap0 ob N : Nat) (M : TK → Option Nat) (J : Ju) (i : Nat) (c : Co) (fs : Int) (fss fnn : Nat) (fon : Bool) (fcd : Int) (fn : Nat) (fb : Nat → Nat) (a : Option Addr) (cap : Nat) (w : World) (h : GJ w jb g cap0 ob N M J) (hi : J.cs[i]? = some c) (_hr : Row8 w a fn cap fb) (ht : (TK.mk ((i : Nat) : Int) 1 fss).ok) :
    Calls Try.prog 20 #[.pointer (some ⟨jb, 0, none⟩), .agg #[.int .i64 3, .int .i64 ((i : Nat) : Int), .int .i64 fs, .int .u32 (fss : Nat), .int .u32 (fnn : Nat), .bool fon, .int .i64 fcd, .slice a fn cap]] w fun r w' => r = .returned (.tuple #[]) ∧ Hid (∃ M', (∀ t b, t.ok → M' t = some b → M t = some b ∨ w.heap.size ≤ b) ∧ GJ w' jb g cap0 ob N M' { J with cs := J.cs.set i { c with s := fss }, S := fun t n x => J.S t n x ∧ t ≠ ⟨((i : Nat) : Int), 1, fss⟩ } ∧ ∀ l, Ft jb g ob M l → Off l w w') := by
  obtain ⟨b1, c0⟩ : Below w.heap.size w (w.alloc (.cells #[.int .i64 3, .int .i64 ((i : Nat) : Int), .int .i64 fs, .int .u32 (fss : Nat), .int .u32 (fnn : Nat), .bool fon, .int .i64 fcd, .slice a fn cap] 43)) ∧ (w.alloc (.cells #[.int .i64 3, .int .i64 ((i : Nat) : Int), .int .i64 fs, .int .u32 (fss : Nat), .int .u32 (fnn : Nat), .bool fon, .int .i64 fcd, .slice a fn cap] 43)).heap[w.heap.size]? = some (.cells #[.int .i64 3, .int .i64 ((i : Nat) : Int), .int .i64 fs, .int .u32 (fss : Nat), .int .u32 (fnn : Nat), .bool fon, .int .i64 fcd, .slice a fn cap] 43 (0, 0)) := ⟨(Below.refl _ _).alloc (Nat.le_refl _) _, heap_alloc_new w _⟩
  have h1 := h.below b1
  have k0 := h1.sl hi
  have hA := fun wx => cat g (i * 19) wx fs
  rw [show (if fs = 1 then i * 19 else i * 19 + 9) = atP (i * 19) fs from rfl] at hA
  have hil := (List.getElem?_eq_some_iff.1 hi).1
  have hfew := h.few
  generalize J.cs.length = nl at *
  have hil' : ((i : Nat) : Int) < (nl : Int) := by omega
  have hk3 := h1.con i c hi
  have hs3 := hk3.s
  have hf3 := hk3.h.fz (i * 19 + 18)
  go_enter Try.func20, Try.ntmps20
  go_wp2_with fail
  go_quiet (fail)
  go_wp2_with (first | (go_at_call 27; refine (hA _).mono ?_; rintro r w2 ⟨rfl, hw⟩; have hw := hw.symm; subst hw))
  have g2 := h1.below (belowN (Below.refl _ _) nq)
  have k2 := g2.con i c hi
  have t2 : Tn ((w.alloc (.cells #[.int .i64 3, .int .i64 ((i : Nat) : Int), .int .i64 fs, .int .u32 (fss : Nat), .int .u32 (fnn : Nat), .bool fon, .int .i64 fcd, .slice a fn cap] 43)).drewN nq) (((w.alloc (.cells #[.int .i64 3, .int .i64 ((i : Nat) : Int), .int .i64 fs, .int .u32 (fss : Nat), .int .u32 (fnn : Nat), .bool fon, .int .i64 fcd, .slice a fn cap] 43)).drewN nq).setCell ⟨g, i * 19 + 18, none⟩ (.int .u32 (fss : Nat))) g (i * 19) (i * 19 + 19) := Tn.set _ g _ _ _ _ (by omega) (by omega)
  have t3 : Tn ((w.alloc (.cells #[.int .i64 3, .int .i64 ((i : Nat) : Int), .int .i64 fs, .int .u32 (fss : Nat), .int .u32 (fnn : Nat), .bool fon, .int .i64 fcd, .slice a fn cap] 43)).drewN nq) (((w.alloc (.cells #[.int .i64 3, .int .i64 ((i : Nat) : Int), .int .i64 fs, .int .u32 (fss : Nat), .int .u32 (fnn : Nat), .bool fon, .int .i64 fcd, .slice a fn cap] 43)).drewN nq).setCell ⟨g, i * 19 + 18, none⟩ (.int .u32 (fss : Nat))) g (i * 19 + 18) (i * 19 + 19) := Tn.set _ g _ _ _ _ (by omega) (by omega)
  have g3 := g2.turn hi t2 (c' := { c with s := fss }) ⟨k2.h.keep t3 (by omega), k2.d.keep t3 (by omega), World.cell?_setCell_same _ _ _ k2.s⟩
  have bx3 : (((w.alloc (.cells #[.int .i64 3, .int .i64 ((i : Nat) : Int), .int .i64 fs, .int .u32 (fss : Nat), .int .u32 (fnn : Nat), .bool fon, .int .i64 fcd, .slice a fn cap] 43)).drewN nq).setCell ⟨g, i * 19 + 18, none⟩ (.int .u32 (fss : Nat))).heap[w.heap.size]? = _ := (t2.off.block w.heap.size (by have := (Array.getElem?_eq_some_iff.1 c0).1; exact this) (by have := h.ltg hi; simp; omega)).trans c0
  obtain ⟨w5, hrun5, H5⟩ := (g3.below (Below.drew (Below.refl _ _))).sm.del ⟨((i : Nat) : Int), 1, fss⟩ ht 0
  unfold tkV at hrun5
  have cj3 := cell_of_row _ jb 1 _ _ _ g3.blk
  have HS : (((w.alloc (.cells #[.int .i64 3, .int .i64 ((i : Nat) : Int), .int .i64 fs, .int .u32 (fss : Nat), .int .u32 (fnn : Nat), .bool fon, .int .i64 fcd, .slice a fn cap] 43)).drewN nq).setCell ⟨g, i * 19 + 18, none⟩ (.int .u32 (fss : Nat))).drew.cell? ⟨w.heap.size, 1, none⟩ = some (.int .i64 ((i : Nat) : Int)) ∧ (((w.alloc (.cells #[.int .i64 3, .int .i64 ((i : Nat) : Int), .int .i64 fs, .int .u32 (fss : Nat), .int .u32 (fnn : Nat), .bool fon, .int .i64 fcd, .slice a fn cap] 43)).drewN nq).setCell ⟨g, i * 19 + 18, none⟩ (.int .u32 (fss : Nat))).drew.cell? ⟨w.heap.size, 3, none⟩ = some (.int .u32 (fss : Nat)) ∧ (((w.alloc (.cells #[.int .i64 3, .int .i64 ((i : Nat) : Int), .int .i64 fs, .int .u32 (fss : Nat), .int .u32 (fnn : Nat), .bool fon, .int .i64 fcd, .slice a fn cap] 43)).drewN nq).setCell ⟨g, i * 19 + 18, none⟩ (.int .u32 (fss : Nat))).drew.cell? ⟨jb, 1, none⟩ = some (.map (some ob)) := ⟨cell_of_row _ _ 1 _ _ _ bx3, cell_of_row _ _ 3 _ _ _ bx3, cj3⟩
  have T5 : w5.cell? ⟨w.heap.size, 1, none⟩ = some (.int .i64 ((i : Nat) : Int)) ∧ w5.cell? ⟨w.heap.size, 3, none⟩ = some (.int .u32 (fss : Nat)) ∧ w5.cell? ⟨jb, 1, none⟩ = some (.map (some ob)) := by
    obtain ⟨o5, _⟩ := H5.out
    have l1 := (Array.getElem?_eq_some_iff.1 bx3).1
    have hq := (o5.block w.heap.size l1 (by have := h.sm.lt0; simp; omega)).trans bx3
    have hq3 := (World.cell?_of_block (a := ⟨jb, 1, none⟩) (o5.block jb (World.block_lt_of_cell? _ _ cj3) (by have := g3.sm.nob cj3; simpa using this))).trans cj3
    exact ⟨cell_of_row _ _ 1 _ _ _ hq, cell_of_row _ _ 3 _ _ _ hq, hq3⟩
  have HG : Hid (_) := And.intro g3 (And.intro t2 (And.intro b1 (And.intro h hi)))
  clear g2 k2 t2 t3 g3 bx3 cj3 h1 k0 hk3 hs3 hf3 hA b1 c0 h hi hil hil' hfew
  go_region_held3 (fun wx => wx.cell? ⟨w.heap.size, 1, none⟩ = some (.int .i64 ((i : Nat) : Int)) ∧ wx.cell? ⟨w.heap.size, 3, none⟩ = some (.int .u32 (fss : Nat)) ∧ wx.cell? ⟨jb, 1, none⟩ = some (.map (some ob))) (with_reducible assumption) (fail)
  all_goals
    clear HS T5
    go_wp2_with fail
    go_end0
    obtain ⟨g3, t2, b1, h, hi⟩ := HG.out
    obtain ⟨o5, s5⟩ := H5.out
    have cj3 := cell_of_row _ jb 1 _ _ _ g3.blk
    refine ⟨rfl, _, fun t b _ hm => ?_, (g3.below (Below.drew (Below.refl _ _))).sent o5 (by have := g3.sm.nob cj3; simpa using this) (fun _ => by have := h.sm.nob (h.con i c hi).h.c0; simpa using this) s5, fun l fl => ?_⟩
    · split at hm
      · cases hm
      · exact .inl hm
    · exact ((Off.of_below (belowN b1 _)).trans (t2.off.more (fun k hk => by simp at hk; subst hk; exact fl.g))).trans ((Off.drew _ _).trans (o5.more (fun k hk => by simp at hk; subst hk; exact fl.o)))
end Go.Proofs.Ythlgahkoignnkaa
namespace Go.Proofs.Ythlgahkoignnkaa
open Go.RowKit Go.Maps
set_option maxRecDepth 100000
structure Fa.Ok (f : Fa) : Prop where
  c : (Lit.int .i64 f.c).wf = true
  s : (Lit.int .i64 f.s).wf = true
  ss : f.ss < 4294967296
  nn : f.nn < 4294967296
  n : f.n ≤ 140737488351232
theorem BA_size (b : Nat → Nat) (n : Nat) : (BA b n).size = n := by
  have key : ∀ (l : List Int) (r : ByteArray), (l.foldl (fun r m => r.push (UInt8.ofNat m.toNat)) r).size = r.size + l.length := by
    intro l
    induction l with
    | nil => intro r; rfl
    | cons x l ih =>
      intro r
      rw [List.foldl_cons, ih, ByteArray.size_push, List.length_cons]
      omega
  unfold BA
  rw [key]
  simp
def Ju.bad (J : Ju) (f : Fa) : Prop := isK f.k = false ∨ f.c < 0 ∨ (J.cs.length : Int) ≤ f.c ∨ isS f.s = false
theorem Ju.good {J : Ju} {f : Fa} (h : ¬ J.bad f) : isK f.k = true ∧ isS f.s = true ∧ ∃ (i : Nat) (c : Co), f.c = ((i : Nat) : Int) ∧ J.cs[i]? = some c := by
  unfold Ju.bad at h
  have h1 : isK f.k = true := by cases e : isK f.k with
    | true => rfl
    | false => exact absurd (.inl e) h
  have h2 : isS f.s = true := by cases e : isS f.s with
    | true => rfl
    | false => exact absurd (.inr (.inr (.inr e))) h
  have h3 : 0 ≤ f.c := by
    apply Int.not_lt.1
    intro e
    exact h (.inr (.inl e))
  have h4 : f.c < (J.cs.length : Int) := by
    apply Int.not_le.1
    intro e
    exact h (.inr (.inr (.inl e)))
  refine ⟨h1, h2, f.c.toNat, J.cs[f.c.toNat]'(by omega), by omega, List.getElem?_eq_getElem _⟩
open Classical in
noncomputable def Ju.rule (J : Ju) (f : Fa) : Int := if J.bad f then 1 else match J.cs[f.c.toNat]? with
  | some c => J.rul c f
  | none => 1
noncomputable def Ju.lrn (J : Ju) (f : Fa) : Ju := match J.cs[f.c.toNat]? with
  | none => J
  | some c =>
    if f.k = 1 then { J with S := fun t n x => J.S t n x ∨ (t = ⟨f.c, f.s, f.ss⟩ ∧ n = f.nn ∧ x = f.x) }
    else if f.k = 2 then { J with cs := J.cs.set f.c.toNat (c.put f.s ((c.at_ f.s).tak f)) }
    else if f.k = 3 then { J with cs := J.cs.set f.c.toNat { c with s := f.ss }, S := fun t n x => J.S t n x ∧ t ≠ ⟨f.c, 1, f.ss⟩ }
    else if f.k = 4 then { J with cs := J.cs.set f.c.toNat (c.put f.s (c.at_ f.s).rfr) }
    else if f.k = 5 then { J with cs := J.cs.set f.c.toNat (c.put f.s ((c.at_ f.s).tck ((f.nn : Nat) : Int))) }
    else if f.k = 6 then { J with cs := J.cs.set f.c.toNat (c.put f.s (c.at_ f.s).ack) }
    else if f.k = 7 then { J with cs := J.cs.set f.c.toNat (c.put f.s ((c.at_ f.s).rst f.s)) }
    else { J with cs := J.cs.set f.c.toNat (c.put f.s ((c.at_ f.s).shw f.cd)) }
open Classical in
noncomputable def Ju.see (J : Ju) (f : Fa) : Ju := if J.r ≠ 0 then J else if J.rule f ≠ 0 then { J with r := J.rule f, a := ((J.n : Nat) : Int) } else { J.lrn f with n := J.n + 1 }
open Classical in
theorem glearn (jb g cap0 ob N : Nat) (M : TK → Option Nat) (J : Ju) (f : Fa) (a : Option Addr) (cap : Nat) (w : World) (h : GJ w jb g cap0 ob N M J) (hN : N + 1 < maxLen) (hf : f.Ok) (hb : ¬ J.bad f) (hr : Row8 w a f.n cap f.b) :
    Calls Try.prog 20 #[.pointer (some ⟨jb, 0, none⟩), .agg (faC f a cap)] w fun r w' => r = .returned (.tuple #[]) ∧ Hid (∃ M' N', N' ≤ N + 2 ∧ (∀ t b, t.ok → M' t = some b → M t = some b ∨ w.heap.size ≤ b) ∧ GJ w' jb g cap0 ob N' M' (J.lrn f) ∧ ∀ l, Ft jb g ob M l → Off l w w') := by
  obtain ⟨hk, hs, i, c, hc, hi⟩ := Ju.good hb
  obtain ⟨o1, o2, o3, o4, o5⟩ := hf
  obtain ⟨fk, fc, fs, fss, fnn, fon, fcd, fn, fb⟩ := f
  dsimp only at hc hk hs o1 o2 o3 o4 o5 hr
  subst hc
  have hx : (BA fb fn).size ≤ maxLen := by rw [BA_size]; unfold maxLen; omega
  unfold isK at hk
  simp only [Bool.and_eq_true, decide_eq_true_eq] at hk
  unfold faC
  show Calls Try.prog _ #[.pointer (some ⟨jb, 0, none⟩), .agg #[.int .i64 fk, .int .i64 ((i : Nat) : Int), .int .i64 fs, .int .u32 (fss : Nat), .int .u32 (fnn : Nat), .bool fon, .int .i64 fcd, .slice a fn cap]] w _
  have eL : ∀ J', J.lrn ⟨fk, ((i : Nat) : Int), fs, fss, fnn, fon, fcd, fn, fb⟩ = J' → J.lrn ⟨fk, ((i : Nat) : Int), fs, fss, fnn, fon, fcd, fn, fb⟩ = J' := fun _ h => h
  have hk : fk = 1 ∨ fk = 2 ∨ fk = 3 ∨ fk = 4 ∨ fk = 5 ∨ fk = 6 ∨ fk = 7 ∨ fk = 8 := by omega
  unfold Ju.lrn
  simp only [Int.toNat_natCast, hi]
  rcases hk with rfl | rfl | rfl | rfl | rfl | rfl | rfl | rfl
  · refine (glearn1 jb g cap0 ob N M J i c fs fss fnn fon fcd fn fb a cap w h hi hr hN ⟨o1, o2, o3⟩ o4 hx).mono ?_
    rintro r w' ⟨rfl, hh⟩
    obtain ⟨M', h1, h2, h3⟩ := hh.out
    exact ⟨rfl, M', N + 2, Nat.le_refl _, h1, by simpa [Fa.x] using h2, h3⟩
  · refine (glearn2 jb g cap0 ob N M J i c fs fss fnn fon fcd fn fb a cap w h hi hr).mono ?_
    rintro r w' ⟨rfl, hh⟩
    exact ⟨rfl, M, N, by omega, fun _ _ _ hm => .inl hm, by simpa using hh.out.1, hh.out.2⟩
  · refine (glearn3 jb g cap0 ob N M J i c fs fss fnn fon fcd fn fb a cap w h hi hr ⟨o1, (show (Lit.int .i64 1).wf = true by decide), o3⟩).mono ?_
    rintro r w' ⟨rfl, hh⟩
    obtain ⟨M', h1, h2, h3⟩ := hh.out
    exact ⟨rfl, M', N, by omega, h1, by simpa using h2, h3⟩
  · refine (glearn4 jb g cap0 ob N M J i c fs fss fnn fon fcd fn fb a cap w h hi hr).mono ?_
    rintro r w' ⟨rfl, hh⟩
    exact ⟨rfl, M, N, by omega, fun _ _ _ hm => .inl hm, by simpa using hh.out.1, hh.out.2⟩
  · refine (glearn5 jb g cap0 ob N M J i c fs fss fnn fon fcd fn fb a cap w h hi hr o4).mono ?_
    rintro r w' ⟨rfl, hh⟩
    exact ⟨rfl, M, N, by omega, fun _ _ _ hm => .inl hm, by simpa using hh.out.1, hh.out.2⟩
  · refine (glearn6 jb g cap0 ob N M J i c fs fss fnn fon fcd fn fb a cap w h hi hr).mono ?_
    rintro r w' ⟨rfl, hh⟩
    exact ⟨rfl, M, N, by omega, fun _ _ _ hm => .inl hm, by simpa using hh.out.1, hh.out.2⟩
  · refine (glearn7 jb g cap0 ob N M J i c fs fss fnn fon fcd fn fb a cap w h hi hr).mono ?_
    rintro r w' ⟨rfl, hh⟩
    exact ⟨rfl, M, N, by omega, fun _ _ _ hm => .inl hm, by simpa using hh.out.1, hh.out.2⟩
  · refine (glearn8 jb g cap0 ob N M J i c fs fss fnn fon fcd fn fb a cap w h hi hr).mono ?_
    rintro r w' ⟨rfl, hh⟩
    exact ⟨rfl, M, N, by omega, fun _ _ _ hm => .inl hm, by simpa using hh.out.1, hh.out.2⟩
open Classical in
theorem grule (jb g cap0 ob N : Nat) (M : TK → Option Nat) (J : Ju) (f : Fa) (a : Option Addr) (cap : Nat) (w : World) (h : GJ w jb g cap0 ob N M J) (hf : f.Ok) (hr : Row8 w a f.n cap f.b) :
    Calls Try.prog 19 #[.pointer (some ⟨jb, 0, none⟩), .agg (faC f a cap)] w fun r w' => r = .returned (.int .i64 (J.rule f)) ∧ Below w.heap.size w w' := by
  unfold Ju.rule
  by_cases hb : J.bad f
  · rw [if_pos hb]
    exact grule_bad jb g cap0 ob N M J f.k f.c f.s f.ss f.nn f.on f.cd f.n a cap w h hb
  · rw [if_neg hb]
    obtain ⟨hk, hs, i, c, hc, hi⟩ := Ju.good hb
    obtain ⟨o1, o2, o3, o4, o5⟩ := hf
    obtain ⟨fk, fc, fs, fss, fnn, fon, fcd, fn, fb⟩ := f
    dsimp only at hc hk hs o1 o2 o3 o4 o5 hr
    subst hc
    have hx : (BA fb fn).size ≤ maxLen := by rw [BA_size]; unfold maxLen; omega
    simp only [Int.toNat_natCast, hi]
    exact grule_ok jb g cap0 ob N M J i c fk fs fss fnn fon fcd fn fb a cap w h hi hr hk hs o3 o1 o4 hx o5
end Go.Proofs.Ythlgahkoignnkaa
namespace Go.Proofs.Ythlgahkoignnkaa
open Go.RowKit Go.Maps
set_option maxRecDepth 100000
section
variable {w w' : World} {jb g cap ob N : Nat} {M : TK → Option Nat} {J : Ju}
theorem GJ.cells (h : GJ w jb g cap ob N M J) : w.cell? ⟨jb, 2, none⟩ = some (.int .i64 ((J.n : Nat) : Int)) ∧ w.cell? ⟨jb, 3, none⟩ = some (.int .i64 J.r) ∧ w.cell? ⟨jb, 4, none⟩ = some (.int .i64 J.a) ∧ ∀ k, w.frozen? ⟨jb, k, none⟩ = false :=
  ⟨cell_of_row w jb 2 _ _ _ h.blk, cell_of_row w jb 3 _ _ _ h.blk, cell_of_row w jb 4 _ _ _ h.blk, fun k => frozen_of_row w jb k _ _ h.blk⟩
theorem GJ.own (h : GJ w jb g cap ob N M J) (x y z : Value) {J' : Ju} (h1 : J'.cs = J.cs) (h2 : J'.S = J.S) (o : Off [jb] w w') (hb : w'.heap[jb]? = some (.cells #[csV J.cs.length g cap, .map (some ob), x, y, z] 59 (0, 0))) (hx : x = .int .i64 ((J'.n : Nat) : Int)) (hy : y = .int .i64 J'.r) (hz : z = .int .i64 J'.a) : GJ w' jb g cap ob N M J' := by
  subst hx hy hz
  refine ⟨by rw [h1]; exact hb, fun i c hc => ?_, ?_, by rw [h1]; exact h.ne, by rw [h1]; exact h.few⟩
  · rw [h1] at hc
    have hne := h.ne (by have := (List.getElem?_eq_some_iff.1 hc).1; omega)
    exact (h.con i c hc).same (o.block g (h.con i c hc).lt (by simp; omega))
  · rw [h2]
    have cj := cell_of_row w jb 1 _ _ _ h.blk
    refine h.sm.off o ?_ ?_
    · have := h.sm.nob cj
      simp at this ⊢
      omega
    · intro t b ht hm
      have := h.sm.nin ht hm cj
      simp at this ⊢
      omega
theorem GJ.offR (h : GJ w jb g cap ob N M J) {R : Nat} {v0 : Value} (o : Off [R] w w') (p0 : w.cell? ⟨R, 0, none⟩ = some v0) (hj : jb ≠ R) (hg : 0 < J.cs.length → g ≠ R) : GJ w' jb g cap ob N M J := by
  have := h.sm.nob p0
  exact h.sent o (by simpa using hj) (fun q => by simpa using hg q) (h.sm.off o (by simp at this ⊢; omega) (fun t b ht hm => by have := h.sm.nin ht hm p0; simp at this ⊢; omega))
theorem GJ.res (h : GJ w jb g cap ob N M J) {R : Nat} {v0 : Value} (p0 : w.cell? ⟨R, 0, none⟩ = some v0) (hj : jb ≠ R) (hg : 0 < J.cs.length → g ≠ R) (x y : Value) : GJ ((w.setCell ⟨R, 0, none⟩ x).setCell ⟨R, 1, none⟩ y) jb g cap ob N M J ∧ Off [R] w ((w.setCell ⟨R, 0, none⟩ x).setCell ⟨R, 1, none⟩ y) := by
  have o1 : Off [R] w (w.setCell ⟨R, 0, none⟩ x) := Off.setCell R 0 w x
  have o2 : Off [R] (w.setCell ⟨R, 0, none⟩ x) ((w.setCell ⟨R, 0, none⟩ x).setCell ⟨R, 1, none⟩ y) := Off.setCell R 1 _ y
  exact ⟨(h.offR o1 p0 hj hg).offR o2 (World.cell?_setCell_same _ _ _ p0) hj hg, o1.trans o2⟩
theorem off_res {w0 : World} {R : Nat} {l : List Nat} (h : Off l w0 w) (o : Off [R] w w') (hR : w0.heap.size ≤ R) : Off l w0 w' := by
  have : Off (R :: l) w0 w' := (h.more (fun k hk => by simp [hk])).trans (o.more (fun k hk => by simp at hk; subst hk; simp))
  exact this.only (fun k hk hlt => by
    rcases List.mem_cons.1 hk with rfl | q
    · omega
    · exact q)
end
theorem gverdict (jb g cap0 ob N : Nat) (M : TK → Option Nat) (J : Ju) (w : World) (h : GJ w jb g cap0 ob N M J) :
    Calls Try.prog 11 #[.pointer (some ⟨jb, 0, none⟩)] w fun r w' => r = .returned (.agg #[.int .i64 J.r, .int .i64 J.a]) ∧ Below w.heap.size w w' := by
  have b1 : Below w.heap.size w (w.alloc (.cells #[.int .i64 0, .int .i64 0] 34)) := (Below.refl _ _).alloc (Nat.le_refl _) _
  obtain ⟨c2, c3, c4, fz⟩ := (h.below b1).cells
  go_enter Try.func11, Try.ntmps11
  go_wp2_with fail
  refine bodyPost_ret (v := .agg #[.int .i64 J.r, .int .i64 J.a]) (by simp [results, Try.results11, go_sem]) rfl ⟨rfl, ?_⟩
  exact belowG (Below.refl _ _) _
theorem gverdict_nil (w : World) :
    Calls Try.prog 11 #[.pointer none] w fun r w' => r = .returned (.agg #[.int .i64 0, .int .i64 0]) ∧ Below w.heap.size w w' := by
  go_enter Try.func11, Try.ntmps11
  go_wp2_with fail
  refine bodyPost_ret (v := .agg #[.int .i64 0, .int .i64 0]) (by simp [results, Try.results11, go_sem]) rfl ⟨rfl, ?_⟩
  exact belowG (Below.refl _ _) _
open Classical in
set_option maxHeartbeats 8000000 in
theorem gsee (jb g cap0 ob N : Nat) (M : TK → Option Nat) (J : Ju) (f : Fa) (a : Option Addr) (cap : Nat) (w : World) (h : GJ w jb g cap0 ob N M J) (hN : N + 1 < maxLen) (hn : J.n < 1000000) (hf : f.Ok) (hr : Row8 w a f.n cap f.b) :
    Calls Try.prog 13 #[.pointer (some ⟨jb, 0, none⟩), .agg (faC f a cap)] w fun r w' => r = .returned (.agg #[.int .i64 (J.see f).r, .int .i64 (J.see f).a]) ∧ Hid (∃ M' N', N' ≤ N + 2 ∧ (∀ t b, t.ok → M' t = some b → M t = some b ∨ w.heap.size ≤ b) ∧ GJ w' jb g cap0 ob N' M' (J.see f) ∧ ∀ l, Ft jb g ob M l → Off l w w') := by
  have b1 : Below w.heap.size w ((w.alloc (.cells #[.int .i64 f.k, .int .i64 f.c, .int .i64 f.s, .int .u32 (f.ss : Nat), .int .u32 (f.nn : Nat), .bool f.on, .int .i64 f.cd, .slice a f.n cap] 43)).alloc (.cells #[.int .i64 0, .int .i64 0] 34)) := belowG (belowG (Below.refl _ _) _) _
  have hk : ((w.alloc (.cells #[.int .i64 f.k, .int .i64 f.c, .int .i64 f.s, .int .u32 (f.ss : Nat), .int .u32 (f.nn : Nat), .bool f.on, .int .i64 f.cd, .slice a f.n cap] 43)).alloc (.cells #[.int .i64 0, .int .i64 0] 34)).heap[w.heap.size]? = some (.cells #[.int .i64 f.k, .int .i64 f.c, .int .i64 f.s, .int .u32 (f.ss : Nat), .int .u32 (f.nn : Nat), .bool f.on, .int .i64 f.cd, .slice a f.n cap] 43 (0, 0)) := (((Below.refl _ _).alloc (Nat.le_refl _) (.cells #[.int .i64 0, .int .i64 0] 34)).block w.heap.size (by simp)).trans (heap_alloc_new w _)
  have hk2 : ((w.alloc (.cells #[.int .i64 f.k, .int .i64 f.c, .int .i64 f.s, .int .u32 (f.ss : Nat), .int .u32 (f.nn : Nat), .bool f.on, .int .i64 f.cd, .slice a f.n cap] 43)).alloc (.cells #[.int .i64 0, .int .i64 0] 34)).heap[w.heap.size + 1]? = some (.cells #[.int .i64 0, .int .i64 0] 34 (0, 0)) := by
    have := heap_alloc_new (w.alloc (.cells #[.int .i64 f.k, .int .i64 f.c, .int .i64 f.s, .int .u32 (f.ss : Nat), .int .u32 (f.nn : Nat), .bool f.on, .int .i64 f.cd, .slice a f.n cap] 43)) (.cells #[.int .i64 0, .int .i64 0] 34)
    simpa using this
  have h1 := h.below b1
  have hlj := (Array.getElem?_eq_some_iff.1 h.blk).1
  have hne1 : jb ≠ w.heap.size + 1 := by omega
  have hR : ∀ wx, Below ((w.alloc (.cells #[.int .i64 f.k, .int .i64 f.c, .int .i64 f.s, .int .u32 (f.ss : Nat), .int .u32 (f.nn : Nat), .bool f.on, .int .i64 f.cd, .slice a f.n cap] 43)).alloc (.cells #[.int .i64 0, .int .i64 0] 34)).heap.size ((w.alloc (.cells #[.int .i64 f.k, .int .i64 f.c, .int .i64 f.s, .int .u32 (f.ss : Nat), .int .u32 (f.nn : Nat), .bool f.on, .int .i64 f.cd, .slice a f.n cap] 43)).alloc (.cells #[.int .i64 0, .int .i64 0] 34)) wx → Calls Try.prog 19 #[.pointer (some ⟨jb, 0, none⟩), .agg #[.int .i64 f.k, .int .i64 f.c, .int .i64 f.s, .int .u32 (f.ss : Nat), .int .u32 (f.nn : Nat), .bool f.on, .int .i64 f.cd, .slice a f.n cap]] wx fun r w' => r = .returned (.int .i64 (J.rule f)) ∧ Below ((w.alloc (.cells #[.int .i64 f.k, .int .i64 f.c, .int .i64 f.s, .int .u32 (f.ss : Nat), .int .u32 (f.nn : Nat), .bool f.on, .int .i64 f.cd, .slice a f.n cap] 43)).alloc (.cells #[.int .i64 0, .int .i64 0] 34)).heap.size ((w.alloc (.cells #[.int .i64 f.k, .int .i64 f.c, .int .i64 f.s, .int .u32 (f.ss : Nat), .int .u32 (f.nn : Nat), .bool f.on, .int .i64 f.cd, .slice a f.n cap] 43)).alloc (.cells #[.int .i64 0, .int .i64 0] 34)) w' := fun wx bx =>
    (grule jb g cap0 ob N M J f a cap wx (h1.below bx) hf (hr.below (b1.trans (bx.mono b1.size)))).mono fun _ _ ⟨e, b⟩ => ⟨e, bx.trans (b.mono bx.size)⟩
  have hV : ∀ wx, Below ((w.alloc (.cells #[.int .i64 f.k, .int .i64 f.c, .int .i64 f.s, .int .u32 (f.ss : Nat), .int .u32 (f.nn : Nat), .bool f.on, .int .i64 f.cd, .slice a f.n cap] 43)).alloc (.cells #[.int .i64 0, .int .i64 0] 34)).heap.size ((w.alloc (.cells #[.int .i64 f.k, .int .i64 f.c, .int .i64 f.s, .int .u32 (f.ss : Nat), .int .u32 (f.nn : Nat), .bool f.on, .int .i64 f.cd, .slice a f.n cap] 43)).alloc (.cells #[.int .i64 0, .int .i64 0] 34)) wx → Calls Try.prog 11 #[.pointer (some ⟨jb, 0, none⟩)] wx fun r w' => r = .returned (.agg #[.int .i64 J.r, .int .i64 J.a]) ∧ Below ((w.alloc (.cells #[.int .i64 f.k, .int .i64 f.c, .int .i64 f.s, .int .u32 (f.ss : Nat), .int .u32 (f.nn : Nat), .bool f.on, .int .i64 f.cd, .slice a f.n cap] 43)).alloc (.cells #[.int .i64 0, .int .i64 0] 34)).heap.size ((w.alloc (.cells #[.int .i64 f.k, .int .i64 f.c, .int .i64 f.s, .int .u32 (f.ss : Nat), .int .u32 (f.nn : Nat), .bool f.on, .int .i64 f.cd, .slice a f.n cap] 43)).alloc (.cells #[.int .i64 0, .int .i64 0] 34)) w' := fun wx bx =>
    (gverdict jb g cap0 ob N M J wx (h1.below bx)).mono fun _ _ ⟨e, b⟩ => ⟨e, bx.trans (b.mono bx.size)⟩
  have hL : ¬ J.bad f → ∀ wx, Below ((w.alloc (.cells #[.int .i64 f.k, .int .i64 f.c, .int .i64 f.s, .int .u32 (f.ss : Nat), .int .u32 (f.nn : Nat), .bool f.on, .int .i64 f.cd, .slice a f.n cap] 43)).alloc (.cells #[.int .i64 0, .int .i64 0] 34)).heap.size ((w.alloc (.cells #[.int .i64 f.k, .int .i64 f.c, .int .i64 f.s, .int .u32 (f.ss : Nat), .int .u32 (f.nn : Nat), .bool f.on, .int .i64 f.cd, .slice a f.n cap] 43)).alloc (.cells #[.int .i64 0, .int .i64 0] 34)) wx → Calls Try.prog 20 #[.pointer (some ⟨jb, 0, none⟩), .agg #[.int .i64 f.k, .int .i64 f.c, .int .i64 f.s, .int .u32 (f.ss : Nat), .int .u32 (f.nn : Nat), .bool f.on, .int .i64 f.cd, .slice a f.n cap]] wx fun r w' => r = .returned (.tuple #[]) ∧ Hid (∃ M' N', N' ≤ N + 2 ∧ (∀ t b, t.ok → M' t = some b → M t = some b ∨ wx.heap.size ≤ b) ∧ GJ w' jb g cap0 ob N' M' (J.lrn f) ∧ ∀ l, Ft jb g ob M l → Off l wx w') := fun hb wx bx =>
    glearn jb g cap0 ob N M J f a cap wx (h1.below bx) hN hf hb (hr.below (b1.trans (bx.mono b1.size)))
  have hS : ∀ wx, Below ((w.alloc (.cells #[.int .i64 f.k, .int .i64 f.c, .int .i64 f.s, .int .u32 (f.ss : Nat), .int .u32 (f.nn : Nat), .bool f.on, .int .i64 f.cd, .slice a f.n cap] 43)).alloc (.cells #[.int .i64 0, .int .i64 0] 34)).heap.size ((w.alloc (.cells #[.int .i64 f.k, .int .i64 f.c, .int .i64 f.s, .int .u32 (f.ss : Nat), .int .u32 (f.nn : Nat), .bool f.on, .int .i64 f.cd, .slice a f.n cap] 43)).alloc (.cells #[.int .i64 0, .int .i64 0] 34)) wx → wx.cell? ⟨w.heap.size, 0, none⟩ = some (.int .i64 f.k) ∧ wx.cell? ⟨w.heap.size, 1, none⟩ = some (.int .i64 f.c) ∧ wx.cell? ⟨w.heap.size, 2, none⟩ = some (.int .i64 f.s) ∧ wx.cell? ⟨w.heap.size, 3, none⟩ = some (.int .u32 (f.ss : Nat)) ∧ wx.cell? ⟨w.heap.size, 4, none⟩ = some (.int .u32 (f.nn : Nat)) ∧ wx.cell? ⟨w.heap.size, 5, none⟩ = some (.bool f.on) ∧ wx.cell? ⟨w.heap.size, 6, none⟩ = some (.int .i64 f.cd) ∧ wx.cell? ⟨w.heap.size, 7, none⟩ = some (.slice a f.n cap) ∧ wx.cell? ⟨w.heap.size + 1, 0, none⟩ = some (.int .i64 0) ∧ wx.cell? ⟨w.heap.size + 1, 1, none⟩ = some (.int .i64 0) ∧ (∀ k, wx.frozen? ⟨w.heap.size + 1, k, none⟩ = false) := fun wx bx => by
    have hq := (bx.block w.heap.size (Array.getElem?_eq_some_iff.1 hk).1).trans hk
    have hq2 := (bx.block (w.heap.size + 1) (Array.getElem?_eq_some_iff.1 hk2).1).trans hk2
    exact ⟨cell_of_row wx _ 0 _ _ _ hq, cell_of_row wx _ 1 _ _ _ hq, cell_of_row wx _ 2 _ _ _ hq, cell_of_row wx _ 3 _ _ _ hq, cell_of_row wx _ 4 _ _ _ hq, cell_of_row wx _ 5 _ _ _ hq, cell_of_row wx _ 6 _ _ _ hq, cell_of_row wx _ 7 _ _ _ hq, cell_of_row wx _ 0 _ _ _ hq2, cell_of_row wx _ 1 _ _ _ hq2, fun k => frozen_of_row wx _ k _ _ hq2⟩
  obtain ⟨d2, d3, d4, dz⟩ := h1.cells
  unfold faC
  unfold Ju.see
  by_cases hr0 : J.r = 0
  · rw [if_neg (by simp [hr0])]
    have hbad : J.rule f = 0 → ¬ J.bad f := fun e hb => by unfold Ju.rule at e; rw [if_pos hb] at e; cases e
    by_cases hru : J.rule f = 0
    · rw [if_neg (by simp [hru])]
      have hL := hL (hbad hru)
      rw [hru] at hR
      rw [hr0] at d3
      have HH : Hid (_) := And.intro h (And.intro h1 (And.intro b1 (And.intro hk2 (hbad hru))))
      clear h h1 hr hf hk hk2 hV hbad hru
      go_enter Try.func13, Try.ntmps13
      go_wp2_with fail
      refine (hR _ (Below.refl _ _)).mono ?_
      rintro r w2 ⟨rfl, b2⟩
      obtain ⟨s0, s1, s2, s3, s4, s5, s6, s7, s8, s9, s10⟩ := hS _ b2
      go_wp2_with fail
      refine (hL _ b2).mono ?_
      rintro r w3 ⟨rfl, h3⟩
      have key : Hid (∃ M' N', N' ≤ N + 2 ∧ (∀ t b, t.ok → M' t = some b → M t = some b ∨ w.heap.size ≤ b) ∧ GJ w3 jb g cap0 ob N' M' (J.lrn f) ∧ (∀ l, Ft jb g ob M l → Off l w w3) ∧ w3.heap[w.heap.size + 1]? = some (.cells #[.int .i64 0, .int .i64 0] 34 (0, 0))) := by
        obtain ⟨h, h1, b1, hk2, hb⟩ := HH.out
        obtain ⟨M', N', e1, e2, e3, e4⟩ := h3.out
        obtain ⟨_, _, i, c, hc, hi⟩ := Ju.good hb
        have hg := h.ltg hi
        refine ⟨M', N', e1, fun t b ht hm => (e2 t b ht hm).imp id (fun q => Nat.le_trans (Nat.le_trans b1.size b2.size) q), e3, fun l fl => ((Off.of_below b1).trans (Off.of_below b2)).trans (e4 l fl), ?_⟩
        have mem : ∀ k, k ∈ jb :: g :: ob :: (List.range w.heap.size).filter (fun b => decide (∃ t : TK, t.ok ∧ M t = some b)) ↔ k = jb ∨ k = g ∨ k = ob ∨ (k < w.heap.size ∧ ∃ t : TK, t.ok ∧ M t = some k) := fun k => by simp
        have o := e4 (jb :: g :: ob :: (List.range w.heap.size).filter (fun b => decide (∃ t : TK, t.ok ∧ M t = some b))) ⟨(mem _).2 (.inl rfl), (mem _).2 (.inr (.inl rfl)), (mem _).2 (.inr (.inr (.inl rfl))), fun t b ht hm => (mem _).2 (.inr (.inr (.inr ⟨h.sm.lt1 ht hm, t, ht, hm⟩)))⟩
        have l2 := (Array.getElem?_eq_some_iff.1 hk2).1
        have ho := h.sm.lt0
        rw [o.block _ (Nat.lt_of_lt_of_le l2 b2.size) (fun hm => by
          rcases (mem _).1 hm with e | e | e | ⟨e, _⟩ <;> omega), b2.block _ l2]
        exact hk2
      have hLr : (J.lrn f).r = J.r ∧ (J.lrn f).a = J.a ∧ (J.lrn f).n = J.n := by
        unfold Ju.lrn
        split
        · exact ⟨rfl, rfl, rfl⟩
        · repeat' split
          all_goals exact ⟨rfl, rfl, rfl⟩
      obtain ⟨M', N', e1, e2, e3, e4, e5⟩ := key.out
      obtain ⟨f2, f3, f4, fz⟩ := e3.cells
      rw [hLr.2.2] at f2
      rw [hLr.1, hr0] at f3
      rw [hLr.2.1] at f4
      have p0 := cell_of_row w3 _ 0 _ _ _ e5
      have p1 := cell_of_row w3 _ 1 _ _ _ e5
      have pz := fun k => frozen_of_row w3 _ k _ _ e5
      have HL : Hid (_) := hLr
      clear e1 e2 e3 e4 e5 hR hL hS d2 d3 d4 dz s0 s1 s2 s3 s4 s5 s6 s7 s8 s9 s10 hLr
      go_wp2_with fail
      refine bodyPost_ret (v := .agg #[.int .i64 0, .int .i64 J.a]) (by simp [results, Try.results13, go_sem, p0, p1]) rfl ?_
      obtain ⟨M', N', e1, e2, e3, e4, e5⟩ := key.out
      obtain ⟨h, h1, b1, hk2, hb⟩ := HH.out
      have o3 : Off [jb] w3 (w3.setCell ⟨jb, 2, none⟩ (.int .i64 (((J.n : Nat) : Int) + 1))) := Off.setCell jb 2 w3 _
      have g4 : GJ (w3.setCell ⟨jb, 2, none⟩ (.int .i64 (((J.n : Nat) : Int) + 1))) jb g cap0 ob N' M' { J.lrn f with n := J.n + 1 } := e3.own _ _ _ rfl rfl o3 (heap_setCell_same _ _ _ _ _ _ e3.blk) (by simp) rfl rfl
      obtain ⟨_, _, i, c, hc, hi⟩ := Ju.good hb
      have hg := h.ltg hi
      have p4 : (w3.setCell ⟨jb, 2, none⟩ (.int .i64 (((J.n : Nat) : Int) + 1))).cell? ⟨w.heap.size + 1, 0, none⟩ = some (.int .i64 0) := (World.cell?_setCell_other _ _ _ _ (by intro q; have := congrArg Addr.block q; simp at this; omega)).trans p0
      obtain ⟨g5, o5⟩ := g4.res p4 hne1 (fun _ => by omega) (.int .i64 0) (.int .i64 J.a)
      refine ⟨by rw [HL.out.1, HL.out.2.1, hr0], M', N', e1, e2, g5, fun l fl => off_res ((e4 l fl).trans (o3.more (fun k hk => by simp at hk; subst hk; exact fl.j))) o5 (by omega)⟩
    · rw [if_pos hru]
      have hrb : (J.rule f != 0) = true := by simpa using hru
      rw [hr0] at d3
      have HH : Hid (_) := And.intro h (And.intro h1 (And.intro b1 hk2))
      clear h hr hf hk hk2 hV hL hbad
      generalize J.rule f = ru at *
      go_enter Try.func13, Try.ntmps13
      go_wp2_with fail
      refine (hR _ (Below.refl _ _)).mono ?_
      rintro r w2 ⟨rfl, b2⟩
      obtain ⟨s0, s1, s2, s3, s4, s5, s6, s7, s8, s9, s10⟩ := hS _ b2
      obtain ⟨f2, f3, f4, fz⟩ := (h1.below b2).cells
      clear h1
      go_wp2_with fail
      refine bodyPost_ret (v := .agg #[.int .i64 ru, .int .i64 ((J.n : Nat) : Int)]) (by simp [results, Try.results13, go_sem, s8, s9]) rfl ?_
      obtain ⟨h, h1, b1, hk2⟩ := HH.out
      have e3 := h1.below b2
      have o3 : Off [jb] w2 ((w2.setCell ⟨jb, 3, none⟩ (.int .i64 ru)).setCell ⟨jb, 4, none⟩ (.int .i64 ((J.n : Nat) : Int))) := (Off.setCell jb 3 w2 _).trans (Off.setCell jb 4 _ _)
      have g4 : GJ ((w2.setCell ⟨jb, 3, none⟩ (.int .i64 ru)).setCell ⟨jb, 4, none⟩ (.int .i64 ((J.n : Nat) : Int))) jb g cap0 ob N M { J with r := ru, a := ((J.n : Nat) : Int) } := e3.own _ _ _ rfl rfl o3 (heap_setCell_same _ _ _ _ _ _ (heap_setCell_same _ _ _ _ _ _ e3.blk)) rfl rfl rfl
      have p4 : ((w2.setCell ⟨jb, 3, none⟩ (.int .i64 ru)).setCell ⟨jb, 4, none⟩ (.int .i64 ((J.n : Nat) : Int))).cell? ⟨w.heap.size + 1, 0, none⟩ = some (.int .i64 0) := (World.cell?_setCell_other _ _ _ _ (by intro q; have := congrArg Addr.block q; simp at this; omega)).trans ((World.cell?_setCell_other _ _ _ _ (by intro q; have := congrArg Addr.block q; simp at this; omega)).trans s8)
      have hgl : 0 < J.cs.length → g ≠ w.heap.size + 1 := fun q => by have := (h.con 0 (J.cs[0]) (List.getElem?_eq_getElem q)).lt; omega
      obtain ⟨g5, o5⟩ := g4.res p4 hne1 hgl (.int .i64 ru) (.int .i64 ((J.n : Nat) : Int))
      exact ⟨rfl, M, N, by omega, fun _ _ _ hm => .inl hm, g5, fun l fl => off_res (((Off.of_below b1).trans (Off.of_below b2)).trans (o3.more (fun k hk => by simp at hk; subst hk; exact fl.j))) o5 (by omega)⟩
  · rw [if_pos hr0]
    have hrb : (J.r != 0) = true := by simpa using hr0
    have HH : Hid (_) := And.intro h (And.intro h1 (And.intro b1 hk2))
    clear h h1 hr hf hk hk2 hL hR
    go_enter Try.func13, Try.ntmps13
    go_wp2_with fail
    refine (hV _ (Below.refl _ _)).mono ?_
    rintro r w2 ⟨rfl, b2⟩
    obtain ⟨s0, s1, s2, s3, s4, s5, s6, s7, s8, s9, s10⟩ := hS _ b2
    go_wp2_with fail
    refine bodyPost_ret (v := .agg #[.int .i64 J.r, .int .i64 J.a]) (by simp [results, Try.results13, go_sem, s8, s9]) rfl ?_
    obtain ⟨h, h1, b1, hk2⟩ := HH.out
    have hgl : 0 < J.cs.length → g ≠ w.heap.size + 1 := fun q => by have := (h.con 0 (J.cs[0]) (List.getElem?_eq_getElem q)).lt; omega
    obtain ⟨g5, o5⟩ := (h1.below b2).res s8 hne1 hgl (.int .i64 J.r) (.int .i64 J.a)
    exact ⟨rfl, M, N, by omega, fun _ _ _ hm => .inl hm, g5, fun l fl => off_res ((Off.of_below b1).trans (Off.of_below b2)) o5 (by omega)⟩
end Go.Proofs.Ythlgahkoignnkaa
namespace Go.Proofs.Ythlgahkoignnkaa
open Go.RowKit Go.Maps
set_option maxRecDepth 100000
structure Pg where
  c : Nat
  o : Int
  i : Int
  t : Int
  n : Nat
def coL (h d : Int) : List Value := [.int .i64 h, .bool false, .int .u32 0, .int .u32 0, .string (ByteArray.mk #[]), .int .i64 0, .int .i64 0, .bool false, .bool false, .int .i64 d, .bool false, .int .u32 0, .int .u32 0, .string (ByteArray.mk #[]), .int .i64 0, .int .i64 0, .bool false, .bool false, .int .u32 0]
theorem coL_len (h d : Int) : (coL h d).length = 19 := rfl
theorem coL_one (h d : Int) : ∀ u ∈ coL h d, u.oneCell' = true := by
  intro u hu
  simp [coL] at hu
  rcases hu with rfl | rfl | rfl | rfl | rfl | rfl | rfl | rfl | rfl | rfl | rfl | rfl | rfl | rfl | rfl | rfl | rfl | rfl | rfl <;> rfl
theorem info_con : (Try.prog.info? 67).map (fun i => (i.zero, i.size, i.bytes)) = some (some (.agg #[.int .i64 0, .bool false, .int .u32 0, .int .u32 0, .string (ByteArray.mk #[]), .int .i64 0, .int .i64 0, .bool false, .bool false, .int .i64 0, .bool false, .int .u32 0, .int .u32 0, .string (ByteArray.mk #[]), .int .i64 0, .int .i64 0, .bool false, .bool false, .int .u32 0]), 19, 136) := by kernel_rfl
theorem size_con : (Try.prog.info? 67).map (·.size) = some 19 := by kernel_rfl
theorem zv_con (w : World) : (zeroValue 67).run Try.prog w = .ok (.agg #[.int .i64 0, .bool false, .int .u32 0, .int .u32 0, .string (ByteArray.mk #[]), .int .i64 0, .int .i64 0, .bool false, .bool false, .int .i64 0, .bool false, .int .u32 0, .int .u32 0, .string (ByteArray.mk #[]), .int .i64 0, .int .i64 0, .bool false, .bool false, .int .u32 0]) w := by kernel_rfl
theorem bld_con (x y : Int) (w : World) : (Instr.build 67 #[(0, .agg #[.int .i64 x, .bool false, .int .u32 0, .int .u32 0, .string (ByteArray.mk #[]), .int .i64 0, .int .i64 0, .bool false, .bool false]), (1, .agg #[.int .i64 y, .bool false, .int .u32 0, .int .u32 0, .string (ByteArray.mk #[]), .int .i64 0, .int .i64 0, .bool false, .bool false])]).run Try.prog w = .ok (.agg #[.int .i64 x, .bool false, .int .u32 0, .int .u32 0, .string (ByteArray.mk #[]), .int .i64 0, .int .i64 0, .bool false, .bool false, .int .i64 y, .bool false, .int .u32 0, .int .u32 0, .string (ByteArray.mk #[]), .int .i64 0, .int .i64 0, .bool false, .bool false, .int .u32 0]) w := by kernel_rfl
theorem setCells_tape (b : Nat) : ∀ (vs : List Value) (o : Nat) (w : World), (w.setCells b o vs).tape = w.tape ∧ w.heap.size ≤ (w.setCells b o vs).heap.size
  | [], _, _ => ⟨rfl, Nat.le_refl _⟩
  | v :: vs, o, w => by
    have h := setCells_tape b vs (o + 1) (w.setCell ⟨b, o, none⟩ v)
    have e : (w.setCell ⟨b, o, none⟩ v).heap.size = w.heap.size := by simp [World.setCell]
    rw [e] at h
    exact h
theorem op_bld {op : Oper} {a : Act} {w : World} {K : Act → World → Prop} {Q : Exit → Act → World → Prop} (t : TypeId) (parts : Array (Nat × Operand)) (ho : op.op = .build t parts) (v : Value) (hrun : (Instr.build t (parts.map fun (i, x) => (i, a.eval x))).run Try.prog w = .ok v w) (h : K (a.put op.dst v) w) : op.wp Try.prog a w K Q := by
  unfold Oper.wp execOp
  simp only [ho, Sem.run_bind, Sem.run_pure, Result.andThen_ok, hrun]
  exact h
set_option maxHeartbeats 400000 in
theorem gnewconn (p q : Pg) (w : World) :
    Calls Try.prog 18 #[.agg #[.int .u32 ((p).c : Nat), .int .i64 (p).o, .int .i64 (p).i, .int .i64 (p).t, .int .u32 ((p).n : Nat)], .agg #[.int .u32 ((q).c : Nat), .int .i64 (q).o, .int .i64 (q).i, .int .i64 (q).t, .int .u32 ((q).n : Nat)]] w fun r w' => r = .returned (.agg #[.int .i64 p.t, .bool false, .int .u32 0, .int .u32 0, .string (ByteArray.mk #[]), .int .i64 0, .int .i64 0, .bool false, .bool false, .int .i64 q.t, .bool false, .int .u32 0, .int .u32 0, .string (ByteArray.mk #[]), .int .i64 0, .int .i64 0, .bool false, .bool false, .int .u32 0]) ∧ Below w.heap.size w w' := by
  have hb := fun w => bld_con p.t q.t w
  obtain ⟨C, hC⟩ : ∃ C : Array Value, #[.int .i64 p.t, .bool false, .int .u32 0, .int .u32 0, .string (ByteArray.mk #[]), .int .i64 0, .int .i64 0, .bool false, .bool false, .int .i64 q.t, .bool false, .int .u32 0, .int .u32 0, .string (ByteArray.mk #[]), .int .i64 0, .int .i64 0, .bool false, .bool false, .int .u32 0] = C := ⟨_, rfl⟩
  have HC : Hid (_) := hC
  have hsz : C.size = 19 := by rw [← hC]; rfl
  have hone : C.all (·.oneCell') = true := by rw [← hC]; exact all_oneCell_toArray (coL_one p.t q.t)
  rw [hC] at hb ⊢
  have hk : (((w.alloc (.cells #[.int .u32 ((p).c : Nat), .int .i64 (p).o, .int .i64 (p).i, .int .i64 (p).t, .int .u32 ((p).n : Nat)] 70)).alloc (.cells #[.int .u32 ((q).c : Nat), .int .i64 (q).o, .int .i64 (q).i, .int .i64 (q).t, .int .u32 ((q).n : Nat)] 70)).alloc (.cells #[.int .i64 0, .bool false, .int .u32 0, .int .u32 0, .string (ByteArray.mk #[]), .int .i64 0, .int .i64 0, .bool false, .bool false, .int .i64 0, .bool false, .int .u32 0, .int .u32 0, .string (ByteArray.mk #[]), .int .i64 0, .int .i64 0, .bool false, .bool false, .int .u32 0] 67)).heap[w.heap.size + 1 + 1]? = some (.cells #[.int .i64 0, .bool false, .int .u32 0, .int .u32 0, .string (ByteArray.mk #[]), .int .i64 0, .int .i64 0, .bool false, .bool false, .int .i64 0, .bool false, .int .u32 0, .int .u32 0, .string (ByteArray.mk #[]), .int .i64 0, .int .i64 0, .bool false, .bool false, .int .u32 0] 67 (0, 0)) := by
    have := heap_alloc_new ((w.alloc (.cells #[.int .u32 ((p).c : Nat), .int .i64 (p).o, .int .i64 (p).i, .int .i64 (p).t, .int .u32 ((p).n : Nat)] 70)).alloc (.cells #[.int .u32 ((q).c : Nat), .int .i64 (q).o, .int .i64 (q).i, .int .i64 (q).t, .int .u32 ((q).n : Nat)] 70)) (.cells #[.int .i64 0, .bool false, .int .u32 0, .int .u32 0, .string (ByteArray.mk #[]), .int .i64 0, .int .i64 0, .bool false, .bool false, .int .i64 0, .bool false, .int .u32 0, .int .u32 0, .string (ByteArray.mk #[]), .int .i64 0, .int .i64 0, .bool false, .bool false, .int .u32 0] 67)
    simpa using this
  have hth : (((w.alloc (.cells #[.int .u32 ((p).c : Nat), .int .i64 (p).o, .int .i64 (p).i, .int .i64 (p).t, .int .u32 ((p).n : Nat)] 70)).alloc (.cells #[.int .u32 ((q).c : Nat), .int .i64 (q).o, .int .i64 (q).i, .int .i64 (q).t, .int .u32 ((q).n : Nat)] 70)).alloc (.cells #[.int .i64 0, .bool false, .int .u32 0, .int .u32 0, .string (ByteArray.mk #[]), .int .i64 0, .int .i64 0, .bool false, .bool false, .int .i64 0, .bool false, .int .u32 0, .int .u32 0, .string (ByteArray.mk #[]), .int .i64 0, .int .i64 0, .bool false, .bool false, .int .u32 0] 67)).there (w.heap.size + 1 + 1) 0 C.size := fun j hj => by
    rw [hsz] at hj
    rw [Nat.zero_add]
    refine ⟨?_, frozen_of_row _ _ j _ _ hk⟩
    rw [cell_of_row _ _ j _ _ _ hk, Array.getElem?_eq_getElem (by simpa using hj)]
    rfl
  clear hC hk
  go_enter Try.func18, Try.ntmps18
  iterate 36 go_step
  refine op_bld 67 #[(0, .tmp 7), (1, .tmp 10)] rfl (.agg C) (by simp only [List.map_toArray, List.map_cons, List.map_nil]; exact hb _) ?_
  iterate 2 go_step
  refine wp_store_mid 67 (.tmp 4) (.tmp 11) rfl (w.heap.size + 1 + 1) 0 C (by rfl) (by rfl) hth (by rw [hsz]; exact size_con) hone ?_
  have HT : Hid (_) := hth
  clear hth hb
  go_wp2_with fail
  have hB : Below w.heap.size w ((((w.alloc (.cells #[.int .u32 ((p).c : Nat), .int .i64 (p).o, .int .i64 (p).i, .int .i64 (p).t, .int .u32 ((p).n : Nat)] 70)).alloc (.cells #[.int .u32 ((q).c : Nat), .int .i64 (q).o, .int .i64 (q).i, .int .i64 (q).t, .int .u32 ((q).n : Nat)] 70)).alloc (.cells #[.int .i64 0, .bool false, .int .u32 0, .int .u32 0, .string (ByteArray.mk #[]), .int .i64 0, .int .i64 0, .bool false, .bool false, .int .i64 0, .bool false, .int .u32 0, .int .u32 0, .string (ByteArray.mk #[]), .int .i64 0, .int .i64 0, .bool false, .bool false, .int .u32 0] 67)).setCells (w.heap.size + 1 + 1) 0 C.toList) := by
    refine Below.trans (belowG (belowG (belowG (Below.refl _ _) _) _) _) ⟨World.os_setCells _ _ _ _, (setCells_tape _ _ _ _).1, World.output_setCells _ _ _ _, (setCells_tape _ _ _ _).2, fun k hk => World.heap_setCells_other _ _ _ _ (by simp; omega) (by omega)⟩
  have hR := World.rangeAt_setCells_same _ (w.heap.size + 1 + 1) 0 C.toList (by rw [Array.length_toList]; exact HT.out)
  have hl := run_loadVar_mid (P := Try.prog) _ (w.heap.size + 1 + 1) 0 67 C.toList _ hR Try.underlying67 rfl (by rw [size_con]; simp [hsz])
  rw [Array.toArray_toList] at hl
  generalize ((((w.alloc (.cells #[.int .u32 ((p).c : Nat), .int .i64 (p).o, .int .i64 (p).i, .int .i64 (p).t, .int .u32 ((p).n : Nat)] 70)).alloc (.cells #[.int .u32 ((q).c : Nat), .int .i64 (q).o, .int .i64 (q).i, .int .i64 (q).t, .int .u32 ((q).n : Nat)] 70)).alloc (.cells #[.int .i64 0, .bool false, .int .u32 0, .int .u32 0, .string (ByteArray.mk #[]), .int .i64 0, .int .i64 0, .bool false, .bool false, .int .i64 0, .bool false, .int .u32 0, .int .u32 0, .string (ByteArray.mk #[]), .int .i64 0, .int .i64 0, .bool false, .bool false, .int .u32 0] 67)).setCells (w.heap.size + 1 + 1) 0 C.toList) = wf at hB hl ⊢
  clear HT hR
  refine bodyPost_ret (v := .agg C) ?_ rfl ⟨rfl, hB⟩
  simp [results, Try.results18, Act.put, asAddr, hl]
end Go.Proofs.Ythlgahkoignnkaa
namespace Go.Proofs.Ythlgahkoignnkaa
open Go.RowKit Go.Maps
set_option maxRecDepth 100000
def PRow (w : World) (a : Option Addr) (len : Nat) (P : Nat → Pg) : Prop := ∀ i, i < len → ∃ q off, a = some ⟨q, off, none⟩ ∧ w.cell? ⟨q, off + i * 5, none⟩ = some (.int .u32 ((P i).c : Nat)) ∧ w.cell? ⟨q, off + i * 5 + 1, none⟩ = some (.int .i64 (P i).o) ∧ w.cell? ⟨q, off + i * 5 + 2, none⟩ = some (.int .i64 (P i).i) ∧ w.cell? ⟨q, off + i * 5 + 3, none⟩ = some (.int .i64 (P i).t) ∧ w.cell? ⟨q, off + i * 5 + 4, none⟩ = some (.int .u32 ((P i).n : Nat))
theorem PRow.below {w w' : World} {a : Option Addr} {len : Nat} {P : Nat → Pg} (h : PRow w a len P) (b : Below w.heap.size w w') : PRow w' a len P := fun i hi => by
  obtain ⟨q, off, e, c0, c1, c2, c3, c4⟩ := h i hi
  exact ⟨q, off, e, cell_belowJ c0 b, cell_belowJ c1 b, cell_belowJ c2 b, cell_belowJ c3 b, cell_belowJ c4 b⟩
def enN (t : Int) : En := ⟨t, false, 0, 0, ByteArray.mk #[], 0, 0, false, false⟩
def coN (h d : Int) : Co := ⟨enN h, enN d, 0⟩
def flC (k : Nat) (h d : Nat → Int) : List Value := (List.range k).flatMap fun i => coL (h i) (d i)
theorem flC_len (k : Nat) (h d : Nat → Int) : (flC k h d).length = k * 19 := by
  induction k with
  | zero => rfl
  | succ k ih =>
    unfold flC at *
    rw [List.range_succ, List.flatMap_append, List.length_append, ih]
    simp [coL_len]
    omega
theorem flC_succ (k : Nat) (h d : Nat → Int) : flC (k + 1) h d = flC k h d ++ coL (h k) (d k) := by
  unfold flC
  rw [List.range_succ, List.flatMap_append]
  simp
theorem flC_get (k : Nat) (h d : Nat → Int) (i j : Nat) (hi : i < k) (hj : j < 19) : (flC k h d)[i * 19 + j]? = (coL (h i) (d i))[j]? := by
  induction k with
  | zero => omega
  | succ k ih =>
    rw [flC_succ]
    by_cases e : i < k
    · rw [List.getElem?_append_left (by rw [flC_len]; omega), ih e]
    · obtain rfl : i = k := by omega
      rw [List.getElem?_append_right (by rw [flC_len]; omega), flC_len]
      congr 1
      omega
theorem app_con (B k g : Nat) (h d : Nat → Int) (v : Value) (w w0 : World) (hown : w.ownsRow B 67 19 v k (flC k h d)) (hg : w.heap[g]? = some (.cells (coL (h k) (d k)).toArray 67 (0, 0))) (hn : k < 1000000) (hB0 : B ≤ w0.heap.size) (hb : Below B w0 w) :
    ∃ v' w', (Builtin.append_ #[57, 57] 57 #[v, .slice (some ⟨g, 0, none⟩) 1 1]).run Try.prog w = .ok v' w' ∧ Hid (w'.ownsRow B 67 19 v' (k + 1) (flC (k + 1) h d) ∧ Below B w0 w' ∧ w.grownBy w' v.ownBlock) := by
  obtain ⟨i, hi, h0, h1, h2⟩ := info_parts info_con
  have hBw : B ≤ w.heap.size := Nat.le_trans hB0 hb.size
  obtain ⟨v', w', hrun, h3, h4, _⟩ := run_append_own w B 57 57 67 i _ 19 136 Try.underlying57 hi h0 h1 h2 rfl (by decide) v k (flC k h d) hown ⟨g, 0, none⟩ 1 1 (coL (h k) (d k)) rfl (by
    intro j u hu
    have := cell_of_row w g j _ _ _ hg
    have e : (Addr.add ⟨g, 0, none⟩ j) = ⟨g, j, none⟩ := by unfold Addr.add; simp; omega
    rw [e, this]
    simpa using hu) (coL_one _ _) (by unfold maxLen; omega) (by omega) hBw
  rw [flC_succ]
  exact ⟨v', w', hrun, h3, hb.grown h4 hBw (fun j hj => (hown.lt j hj).1), h4⟩
theorem step_appC {ops : Array Oper} {o : Oper} {a : Act} {w : World} {K : Act → World → Prop} {Q : Exit → Act → World → Prop} {E : Prop}
    (hg : o.guard = none) (s x : Operand) (hop : o.op = Op.call { callee := Callee.builtin Builtin.append, args := #[s, x], argTypes := #[57, 57] }) (hty : o.type = 57)
    (B k g : Nat) (h d : Nat → Int) (v : Value) (hs : a.eval s = v) (hown : w.ownsRow B 67 19 v k (flC k h d)) (hx : a.eval x = .slice (some ⟨g, 0, none⟩) 1 1)
    (hgc : w.heap[g]? = some (.cells (coL (h k) (d k)).toArray 67 (0, 0))) (hn : k < 1000000) (w0 : World) (hB0 : B ≤ w0.heap.size) (hb : Below B w0 w)
    (hK : ∀ v' w', Hid (w'.ownsRow B 67 19 v' (k + 1) (flC (k + 1) h d) ∧ w.grownBy w' v.ownBlock) → Below B w0 w' → K (a.put o.dst v') w') :
    if Region.wanted o (yielded ops a.tmps) = true then Oper.wp Try.prog o a w K Q else E := by
  have hw : Region.wanted o (yielded ops a.tmps) = true := by simp [Region.wanted, hg]
  rw [if_pos hw]
  obtain ⟨v', w', hrun, hO⟩ := app_con B k g h d v w w0 hown hgc hn hB0 hb
  unfold Oper.wp execOp
  simp only [hop, hty, resolve, invoke, builtin, Sem.run_bind, Sem.run_pure, Result.andThen_ok, List.map_toArray, List.map_cons, List.map_nil, hs, hx, hrun]
  exact hK v' w' ⟨hO.out.1, hO.out.2.2⟩ hO.out.2.1
def ju0 (k : Nat) (h d : Nat → Int) : Ju := ⟨(List.range k).map fun i => coN (h i) (d i), fun _ _ _ => False, 0, 0, 0⟩
theorem ju0_get (k : Nat) (h d : Nat → Int) {i : Nat} {c : Co} (hc : (ju0 k h d).cs[i]? = some c) : i < k ∧ c = coN (h i) (d i) := by
  obtain ⟨hi, he⟩ := List.getElem?_eq_some_iff.1 hc
  simp [ju0] at hi he
  exact ⟨hi, he.symm⟩
theorem con_of_own {w : World} {B k : Nat} {v : Value} {h d : Nat → Int} (o : w.ownsRow B 67 19 v k (flC k h d)) (hv : k = 0 → v = .slice none 0 0) : ∃ g cap, v = csV k g cap ∧ (0 < k → B ≤ g ∧ (∃ c, w.heap[g]? = some (.cells c 67 (0, 0)))) ∧ ∀ i, i < k → CoW w g (i * 19) (coN (h i) (d i)) := by
  rcases o.2 with ⟨rfl, hn⟩ | ⟨g, cap, cur, rfl, hg, hgg, h1, h2, h3, h4⟩
  · have : k = 0 := by have := hn; omega
    subst this
    exact ⟨0, 0, rfl, fun q => by omega, fun i hi => by omega⟩
  · by_cases k0 : k = 0
    · have := hv k0
      cases this
    · refine ⟨g, cap, by unfold csV; rw [if_neg k0], fun _ => ⟨hg, cur, hgg⟩, fun i hi => ?_⟩
      have cl : ∀ j, j < 19 → w.cell? ⟨g, i * 19 + j, none⟩ = (coL (h i) (d i))[j]? := fun j hj => by
        rw [cell_of_row w g (i * 19 + j) _ _ _ hgg, ← flC_get k h d i j hi hj, ← h4, List.getElem?_take_of_lt (by omega), Array.getElem?_toList]
      have fz : ∀ k, w.frozen? ⟨g, k, none⟩ = false := fun k => frozen_of_row w g k _ _ hgg
      exact ⟨⟨cl 0 (by omega), cl 1 (by omega), cl 2 (by omega), cl 3 (by omega), cl 4 (by omega), cl 5 (by omega), cl 6 (by omega), cl 7 (by omega), cl 8 (by omega), fz⟩, ⟨cl 9 (by omega), cl 10 (by omega), cl 11 (by omega), cl 12 (by omega), cl 13 (by omega), cl 14 (by omega), cl 15 (by omega), cl 16 (by omega), cl 17 (by omega), fz⟩, cl 18 (by omega)⟩
end Go.Proofs.Ythlgahkoignnkaa
namespace Go.Proofs.Ythlgahkoignnkaa
open Go.ChangeShapes Go.WideShapes Go.ChangeAt Go.RowKit Go.Joins Go.Deep
theorem list3 {α : Type} {l : List α} (h : l.length = 3) : ∃ c0 c1 c2, l = [c0, c1, c2] := by
  match l, h with
  | [c0, c1, c2], _ => exact ⟨c0, c1, c2, rfl⟩
theorem array3 {α : Type} {cs : Array α} (h : cs.size = 3) : ∃ c0 c1 c2, cs = #[c0, c1, c2] := by
  obtain ⟨l⟩ := cs
  obtain ⟨c0, c1, c2, rfl⟩ := list3 (l := l) (by simpa using h)
  exact ⟨c0, c1, c2, rfl⟩
theorem open_agg3 {H : Type} {enc : TypeId × Value → H} {P : Program} {w : World} {base : Nat} {spare : TypeId → Bool} {held : Bool} {r : Reach} {b0 : Nat} {t : TypeId} {f0 f1 f2 : Field} {v : Value} {d : DataW H} {p : List MemPlace}
    (hs : P.underlying t = some (.struct #[f0, f1, f2])) (hone : oneCellFields P #[f0, f1, f2] = true) (hC : P.cellsOf t = 3) (hv : Value.okWide P w r b0 t v) (h : DataW.Trod enc P w base spare held t v d p) :
    ∃ (v0 v1 v2 : Value) (y0 y1 y2 : DataW H × List MemPlace) (n : Nat), v = .agg #[v0, v1, v2] ∧
      DataW.trod enc P w base spare held n f0.type [v0] = some y0 ∧ DataW.trod enc P w base spare held n f1.type [v1] = some y1 ∧ DataW.trod enc P w base spare held n f2.type [v2] = some y2 := by
  obtain ⟨cs, rfl, hsz⟩ := okWide_struct hs hv
  obtain ⟨c0, c1, c2, rfl⟩ := array3 (hsz.trans hC)
  obtain ⟨fuel, hf⟩ := h
  obtain ⟨xs, n, _, _, _, hlen, hx⟩ := DataW.trod_struct hs hf
  obtain ⟨y0, y1, y2, rfl⟩ := list3 (l := xs) (by simpa using hlen)
  obtain ⟨o0, k0⟩ := hone_of hone 0 f0 rfl
  obtain ⟨o1, k1⟩ := hone_of hone 1 f1 rfl
  obtain ⟨o2, k2⟩ := hone_of hone 2 f2 rfl
  exact ⟨c0, c1, c2, y0, y1, y2, n, rfl, by simpa [Value.cells, o0, k0] using hx 0 f0 rfl, by simpa [Value.cells, o1, k1] using hx 1 f1 rfl, by simpa [Value.cells, o2, k2] using hx 2 f2 rfl⟩
end Go.Proofs.Ythlgahkoignnkaa
