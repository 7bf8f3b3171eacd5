/- Part 4 of the texts on which the proof rests: contracts of Go functions. -/
import Derived.Deep.RegionHeld3
import Derived.Test.YthlgahkoignnkaaPkG02
namespace Go.Proofs.Ythlgahkoignnkaa
open Go.RowKit
structure En where
  w : Int
  took : Bool
  ls : Nat
  ln : Nat
  v : ByteArray
  tk : Int
  lat : Int
  fr : Bool
  ak : Bool
structure EnW (w : World) (g p : Nat) (e : En) : Prop where
  c0 : w.cell? ⟨g, p, none⟩ = some (.int .i64 e.w)
  c1 : w.cell? ⟨g, p + 1, none⟩ = some (.bool e.took)
  c2 : w.cell? ⟨g, p + 2, none⟩ = some (.int .u32 (e.ls : Nat))
  c3 : w.cell? ⟨g, p + 3, none⟩ = some (.int .u32 (e.ln : Nat))
  c4 : w.cell? ⟨g, p + 4, none⟩ = some (.string e.v)
  c5 : w.cell? ⟨g, p + 5, none⟩ = some (.int .i64 e.tk)
  c6 : w.cell? ⟨g, p + 6, none⟩ = some (.int .i64 e.lat)
  c7 : w.cell? ⟨g, p + 7, none⟩ = some (.bool e.fr)
  c8 : w.cell? ⟨g, p + 8, none⟩ = some (.bool e.ak)
  fz : ∀ k, w.frozen? ⟨g, k, none⟩ = false
structure Tn (w w' : World) (g p q : Nat) : Prop where
  off : Off [g] w w'
  oth : ∀ k, (k < p ∨ q ≤ k) → w'.cell? ⟨g, k, none⟩ = w.cell? ⟨g, k, none⟩
  fz : ∀ k, w'.frozen? ⟨g, k, none⟩ = w.frozen? ⟨g, k, none⟩
theorem Tn.refl (w : World) (g p q : Nat) : Tn w w g p q := ⟨Off.refl _ _, fun _ _ => rfl, fun _ => rfl⟩
theorem Tn.trans {w w1 w2 : World} {g p q : Nat} (h : Tn w w1 g p q) (k : Tn w1 w2 g p q) : Tn w w2 g p q := ⟨h.off.trans k.off, fun i hi => (k.oth i hi).trans (h.oth i hi), fun i => (k.fz i).trans (h.fz i)⟩
theorem Tn.wide {w w1 : World} {g p q p' q' : Nat} (h : Tn w w1 g p q) (h1 : p' ≤ p) (h2 : q ≤ q') : Tn w w1 g p' q' := ⟨h.off, fun i hi => h.oth i (by omega), h.fz⟩
theorem Tn.set (w : World) (g p q i : Nat) (v : Value) (h1 : p ≤ i) (h2 : i < q) : Tn w (w.setCell ⟨g, i, none⟩ v) g p q := ⟨Off.setCell g i w v, fun k hk => World.cell?_setCell_other _ _ _ _ (by intro q; have := congrArg Addr.off q; simp at this; omega), fun k => World.frozen?_setCell _ _ _ _⟩
theorem Tn.of_below {w w' : World} {g : Nat} (p q : Nat) (h : Below w.heap.size w w') (hg : g < w.heap.size) : Tn w w' g p q := by
  have hb := h.block g hg
  refine ⟨Off.of_below h, fun k _ => World.cell?_of_block (a := ⟨g, k, none⟩) hb, fun k => ?_⟩
  unfold World.frozen?
  rw [hb]
theorem belowN {B : Nat} {w0 w : World} (h : Below B w0 w) (n : Nat) : Below B w0 (w.drewN n) := ⟨h.os, h.tape, h.output, h.size, h.block⟩
theorem Tn.drewN (w : World) (g p q n : Nat) : Tn w (w.drewN n) g p q := ⟨Off.drewN _ _ _, fun _ _ => rfl, fun _ => rfl⟩
theorem row8_off {l : List Nat} {w w' : World} {a : Option Addr} {len cap : Nat} {bs : Nat → Nat} (h : Row8 w a len cap bs) (q : Off l w w') (hl : ∀ x, a = some x → x.block ∉ l) : Row8 w' a len cap bs := by
  refine ⟨h.byte, h.nil, fun x hx i hi => ?_, h.le⟩
  have h1 := h.src x hx i hi
  have hlt := World.block_lt_of_cell? w _ h1
  have hb : (x.add i).block = x.block := by unfold Addr.add; split <;> rfl
  have he : w'.heap[(x.add i).block]? = w.heap[(x.add i).block]? := q.block _ hlt (by rw [hb]; exact hl x hx)
  rw [← h1]
  unfold World.cell?
  rw [he]
structure Gd (w : World) (g : Nat) (x : World) : Prop where
  off : Off [g] w x
  is : ∀ k, (w.cell? ⟨g, k, none⟩).isSome = true → (x.cell? ⟨g, k, none⟩).isSome = true
  fz : ∀ k, x.frozen? ⟨g, k, none⟩ = w.frozen? ⟨g, k, none⟩
theorem Gd.refl (w : World) (g : Nat) : Gd w g w := ⟨Off.refl _ _, fun _ h => h, fun _ => rfl⟩
theorem Gd.drew {w x : World} {g : Nat} (h : Gd w g x) : Gd w g x.drew := ⟨h.off.trans (Off.drew _ _), h.is, h.fz⟩
theorem Gd.drewN {w x : World} {g : Nat} (h : Gd w g x) (n : Nat) : Gd w g (x.drewN n) := ⟨h.off.trans (Off.drewN _ _ _), h.is, h.fz⟩
theorem Gd.set {w x : World} {g : Nat} (h : Gd w g x) (i : Nat) (v : Value) : Gd w g (x.setCell ⟨g, i, none⟩ v) := by
  refine ⟨h.off.trans (Off.setCell g i x v), fun k hk => ?_, fun k => (World.frozen?_setCell _ _ _ _).trans (h.fz k)⟩
  by_cases e : i = k
  · subst e
    obtain ⟨u, hu⟩ := Option.isSome_iff_exists.1 (h.is i hk)
    rw [World.cell?_setCell_same _ _ _ hu]; rfl
  · rw [World.cell?_setCell_other _ _ _ _ (by intro q; have := congrArg Addr.off q; simp at this; omega)]
    exact h.is k hk
theorem Gd.below {w x x' : World} {g : Nat} (h : Gd w g x) (b : Below x.heap.size x x') (hg : g < x.heap.size) : Gd w g x' := by
  have t := Tn.of_below 0 0 b hg
  exact ⟨h.off.trans t.off, fun k hk => by rw [t.oth k (.inr (Nat.zero_le _))]; exact h.is k hk, fun k => (t.fz k).trans (h.fz k)⟩
theorem EnW.lt {w : World} {g p : Nat} {e : En} (h : EnW w g p e) : g < w.heap.size := World.block_lt_of_cell? w _ h.c0
theorem EnW.keep {w w' : World} {g p p' q' : Nat} {e : En} (h : EnW w g p e) (t : Tn w w' g p' q') (hp : p + 9 ≤ p' ∨ q' ≤ p) : EnW w' g p e :=
  ⟨(t.oth _ (by omega)).trans h.c0, (t.oth _ (by omega)).trans h.c1, (t.oth _ (by omega)).trans h.c2, (t.oth _ (by omega)).trans h.c3, (t.oth _ (by omega)).trans h.c4, (t.oth _ (by omega)).trans h.c5, (t.oth _ (by omega)).trans h.c6, (t.oth _ (by omega)).trans h.c7, (t.oth _ (by omega)).trans h.c8, fun k => (t.fz k).trans (h.fz k)⟩
theorem EnW.drewN {w : World} {g p : Nat} {e : En} (h : EnW w g p e) (n : Nat) : EnW (w.drewN n) g p e := h.keep (Tn.drewN w g 0 0 n) (.inr (by omega))
theorem EnW.below {w w' : World} {g p : Nat} {e : En} (h : EnW w g p e) (b : Below w.heap.size w w') : EnW w' g p e := h.keep (Tn.of_below 0 0 b h.lt) (.inr (by omega))
theorem EnW.s1 {w : World} {g p : Nat} {e : En} (h : EnW w g p e) (x : Bool) : EnW (w.setCell ⟨g, p + 1, none⟩ (.bool x)) g p { e with took := x } := ⟨(World.cell?_setCell_other _ _ _ _ (by simp)).trans h.c0, World.cell?_setCell_same _ _ _ h.c1, (World.cell?_setCell_other _ _ _ _ (by simp)).trans h.c2, (World.cell?_setCell_other _ _ _ _ (by simp)).trans h.c3, (World.cell?_setCell_other _ _ _ _ (by simp)).trans h.c4, (World.cell?_setCell_other _ _ _ _ (by simp)).trans h.c5, (World.cell?_setCell_other _ _ _ _ (by simp)).trans h.c6, (World.cell?_setCell_other _ _ _ _ (by simp)).trans h.c7, (World.cell?_setCell_other _ _ _ _ (by simp)).trans h.c8, fun k => (World.frozen?_setCell _ _ _ _).trans (h.fz k)⟩
theorem EnW.s2 {w : World} {g p : Nat} {e : En} (h : EnW w g p e) (x : Nat) : EnW (w.setCell ⟨g, p + 2, none⟩ (.int .u32 (x : Nat))) g p { e with ls := x } := ⟨(World.cell?_setCell_other _ _ _ _ (by simp)).trans h.c0, (World.cell?_setCell_other _ _ _ _ (by simp)).trans h.c1, World.cell?_setCell_same _ _ _ h.c2, (World.cell?_setCell_other _ _ _ _ (by simp)).trans h.c3, (World.cell?_setCell_other _ _ _ _ (by simp)).trans h.c4, (World.cell?_setCell_other _ _ _ _ (by simp)).trans h.c5, (World.cell?_setCell_other _ _ _ _ (by simp)).trans h.c6, (World.cell?_setCell_other _ _ _ _ (by simp)).trans h.c7, (World.cell?_setCell_other _ _ _ _ (by simp)).trans h.c8, fun k => (World.frozen?_setCell _ _ _ _).trans (h.fz k)⟩
theorem EnW.s3 {w : World} {g p : Nat} {e : En} (h : EnW w g p e) (x : Nat) : EnW (w.setCell ⟨g, p + 3, none⟩ (.int .u32 (x : Nat))) g p { e with ln := x } := ⟨(World.cell?_setCell_other _ _ _ _ (by simp)).trans h.c0, (World.cell?_setCell_other _ _ _ _ (by simp)).trans h.c1, (World.cell?_setCell_other _ _ _ _ (by simp)).trans h.c2, World.cell?_setCell_same _ _ _ h.c3, (World.cell?_setCell_other _ _ _ _ (by simp)).trans h.c4, (World.cell?_setCell_other _ _ _ _ (by simp)).trans h.c5, (World.cell?_setCell_other _ _ _ _ (by simp)).trans h.c6, (World.cell?_setCell_other _ _ _ _ (by simp)).trans h.c7, (World.cell?_setCell_other _ _ _ _ (by simp)).trans h.c8, fun k => (World.frozen?_setCell _ _ _ _).trans (h.fz k)⟩
theorem EnW.s4 {w : World} {g p : Nat} {e : En} (h : EnW w g p e) (x : ByteArray) : EnW (w.setCell ⟨g, p + 4, none⟩ (.string x)) g p { e with v := x } := ⟨(World.cell?_setCell_other _ _ _ _ (by simp)).trans h.c0, (World.cell?_setCell_other _ _ _ _ (by simp)).trans h.c1, (World.cell?_setCell_other _ _ _ _ (by simp)).trans h.c2, (World.cell?_setCell_other _ _ _ _ (by simp)).trans h.c3, World.cell?_setCell_same _ _ _ h.c4, (World.cell?_setCell_other _ _ _ _ (by simp)).trans h.c5, (World.cell?_setCell_other _ _ _ _ (by simp)).trans h.c6, (World.cell?_setCell_other _ _ _ _ (by simp)).trans h.c7, (World.cell?_setCell_other _ _ _ _ (by simp)).trans h.c8, fun k => (World.frozen?_setCell _ _ _ _).trans (h.fz k)⟩
theorem EnW.s5 {w : World} {g p : Nat} {e : En} (h : EnW w g p e) (x : Int) : EnW (w.setCell ⟨g, p + 5, none⟩ (.int .i64 x)) g p { e with tk := x } := ⟨(World.cell?_setCell_other _ _ _ _ (by simp)).trans h.c0, (World.cell?_setCell_other _ _ _ _ (by simp)).trans h.c1, (World.cell?_setCell_other _ _ _ _ (by simp)).trans h.c2, (World.cell?_setCell_other _ _ _ _ (by simp)).trans h.c3, (World.cell?_setCell_other _ _ _ _ (by simp)).trans h.c4, World.cell?_setCell_same _ _ _ h.c5, (World.cell?_setCell_other _ _ _ _ (by simp)).trans h.c6, (World.cell?_setCell_other _ _ _ _ (by simp)).trans h.c7, (World.cell?_setCell_other _ _ _ _ (by simp)).trans h.c8, fun k => (World.frozen?_setCell _ _ _ _).trans (h.fz k)⟩
theorem EnW.s6 {w : World} {g p : Nat} {e : En} (h : EnW w g p e) (x : Int) : EnW (w.setCell ⟨g, p + 6, none⟩ (.int .i64 x)) g p { e with lat := x } := ⟨(World.cell?_setCell_other _ _ _ _ (by simp)).trans h.c0, (World.cell?_setCell_other _ _ _ _ (by simp)).trans h.c1, (World.cell?_setCell_other _ _ _ _ (by simp)).trans h.c2, (World.cell?_setCell_other _ _ _ _ (by simp)).trans h.c3, (World.cell?_setCell_other _ _ _ _ (by simp)).trans h.c4, (World.cell?_setCell_other _ _ _ _ (by simp)).trans h.c5, World.cell?_setCell_same _ _ _ h.c6, (World.cell?_setCell_other _ _ _ _ (by simp)).trans h.c7, (World.cell?_setCell_other _ _ _ _ (by simp)).trans h.c8, fun k => (World.frozen?_setCell _ _ _ _).trans (h.fz k)⟩
theorem EnW.s7 {w : World} {g p : Nat} {e : En} (h : EnW w g p e) (x : Bool) : EnW (w.setCell ⟨g, p + 7, none⟩ (.bool x)) g p { e with fr := x } := ⟨(World.cell?_setCell_other _ _ _ _ (by simp)).trans h.c0, (World.cell?_setCell_other _ _ _ _ (by simp)).trans h.c1, (World.cell?_setCell_other _ _ _ _ (by simp)).trans h.c2, (World.cell?_setCell_other _ _ _ _ (by simp)).trans h.c3, (World.cell?_setCell_other _ _ _ _ (by simp)).trans h.c4, (World.cell?_setCell_other _ _ _ _ (by simp)).trans h.c5, (World.cell?_setCell_other _ _ _ _ (by simp)).trans h.c6, World.cell?_setCell_same _ _ _ h.c7, (World.cell?_setCell_other _ _ _ _ (by simp)).trans h.c8, fun k => (World.frozen?_setCell _ _ _ _).trans (h.fz k)⟩
theorem EnW.s8 {w : World} {g p : Nat} {e : En} (h : EnW w g p e) (x : Bool) : EnW (w.setCell ⟨g, p + 8, none⟩ (.bool x)) g p { e with ak := x } := ⟨(World.cell?_setCell_other _ _ _ _ (by simp)).trans h.c0, (World.cell?_setCell_other _ _ _ _ (by simp)).trans h.c1, (World.cell?_setCell_other _ _ _ _ (by simp)).trans h.c2, (World.cell?_setCell_other _ _ _ _ (by simp)).trans h.c3, (World.cell?_setCell_other _ _ _ _ (by simp)).trans h.c4, (World.cell?_setCell_other _ _ _ _ (by simp)).trans h.c5, (World.cell?_setCell_other _ _ _ _ (by simp)).trans h.c6, (World.cell?_setCell_other _ _ _ _ (by simp)).trans h.c7, World.cell?_setCell_same _ _ _ h.c8, fun k => (World.frozen?_setCell _ _ _ _).trans (h.fz k)⟩
structure Fa where
  k : Int
  c : Int
  s : Int
  ss : Nat
  nn : Nat
  on : Bool
  cd : Int
  n : Nat
  b : Nat → Nat
def Fa.x (f : Fa) : ByteArray := BA f.b f.n
def faC (f : Fa) (a : Option Addr) (cap : Nat) : Array Value := #[.int .i64 f.k, .int .i64 f.c, .int .i64 f.s, .int .u32 (f.ss : Nat), .int .u32 (f.nn : Nat), .bool f.on, .int .i64 f.cd, .slice a f.n cap]
def En.rfr (e : En) : En := { e with tk := 0, fr := e.lat != 0 }
def En.tck (e : En) (n : Int) : En := if n < wrap64 (e.w - e.tk) then { e with tk := wrap64 (e.tk + n) } else { e with tk := e.w, fr := false }
def En.ack (e : En) : En := { e with ak := e.ak || e.fr }
def En.shw (e : En) (c : Int) : En := if c = e.lat then { e with lat := c, ak := false } else { e with fr := false, lat := c, ak := false }
def En.rst (e : En) (s : Int) : En := if s = 1 then ⟨e.w, false, 0, 0, ByteArray.mk #[], 0, 0, false, false⟩ else ⟨e.w, e.took, e.ls, e.ln, ByteArray.mk #[], 0, 0, false, false⟩
def En.tak (e : En) (f : Fa) : En := { e with took := true, ls := f.ss, ln := f.nn, v := f.x }
def En.ovr (e : En) : Bool := decide (e.w ≤ e.tk)
section
variable (g p : Nat) (e : En) (w : World)
theorem erefresh (h : EnW w g p e) :
    Calls Try.prog 30 #[.pointer (some ⟨g, p, none⟩)] w fun r w' => r = .returned (.tuple #[]) ∧ Hid (Tn w w' g p (p + 9) ∧ EnW w' g p e.rfr) := by
  have H : Hid (_) := h
  obtain ⟨c0, c1, c2, c3, c4, c5, c6, c7, c8, fz⟩ := h
  go_enter Try.func30, Try.ntmps30
  go_wp2_with fail
  go_end0
  exact ⟨rfl, (Tn.set _ g _ _ _ _ (by omega) (by omega)).trans (Tn.set _ g _ _ _ _ (by omega) (by omega)), (H.out.s5 0).s7 (e.lat != 0)⟩
theorem etick (n : Int) (h : EnW w g p e) :
    Calls Try.prog 31 #[.pointer (some ⟨g, p, none⟩), .int .i64 n] w fun r w' => r = .returned (.tuple #[]) ∧ Hid (Tn w w' g p (p + 9) ∧ EnW w' g p (e.tck n)) := by
  have H : Hid (_) := h
  obtain ⟨c0, c1, c2, c3, c4, c5, c6, c7, c8, fz⟩ := h
  unfold En.tck
  by_cases hlt : n < wrap64 (e.w - e.tk)
  · rw [if_pos hlt]
    go_enter Try.func31, Try.ntmps31
    go_wp2_with fail
    go_quiet (fail)
    go_wp2_with fail
    refine bodyPost_ret (results_none rfl _ _ _) rfl ?_
    exact ⟨rfl, (Tn.drewN w g _ _ nq).trans (Tn.set _ g _ _ _ _ (by omega) (by omega)), (H.out.drewN nq).s5 _⟩
  · rw [if_neg hlt]
    go_enter Try.func31, Try.ntmps31
    go_wp2_with fail
    go_quiet (fail)
    go_wp2_with fail
    go_end0
    exact ⟨rfl, (Tn.drewN w g _ _ nq).trans ((Tn.set _ g _ _ _ _ (by omega) (by omega)).trans (Tn.set _ g _ _ _ _ (by omega) (by omega))), ((H.out.drewN nq).s5 _).s7 false⟩
theorem eack (h : EnW w g p e) :
    Calls Try.prog 32 #[.pointer (some ⟨g, p, none⟩)] w fun r w' => r = .returned (.tuple #[]) ∧ Hid (Tn w w' g p (p + 9) ∧ EnW w' g p e.ack) := by
  have H : Hid (_) := h
  obtain ⟨c0, c1, c2, c3, c4, c5, c6, c7, c8, fz⟩ := h
  unfold En.ack
  cases ha : e.ak
  · rw [ha] at c8
    go_enter Try.func32, Try.ntmps32
    go_wp2_with fail
    go_end0
    exact ⟨rfl, Tn.set _ g _ _ _ _ (by omega) (by omega), by simpa using H.out.s8 e.fr⟩
  · rw [ha] at c8
    go_enter Try.func32, Try.ntmps32
    go_wp2_with fail
    go_end0
    exact ⟨rfl, Tn.set _ g _ _ _ _ (by omega) (by omega), by simpa using H.out.s8 true⟩
theorem eshow (c : Int) (h : EnW w g p e) :
    Calls Try.prog 34 #[.pointer (some ⟨g, p, none⟩), .int .i64 c] w fun r w' => r = .returned (.tuple #[]) ∧ Hid (Tn w w' g p (p + 9) ∧ EnW w' g p (e.shw c)) := by
  have H : Hid (_) := h
  obtain ⟨c0, c1, c2, c3, c4, c5, c6, c7, c8, fz⟩ := h
  unfold En.shw
  by_cases hc : c = e.lat
  · rw [if_pos hc]
    subst hc
    go_enter Try.func34, Try.ntmps34
    go_wp2_with fail
    go_end0
    exact ⟨rfl, (Tn.set _ g _ _ _ _ (by omega) (by omega)).trans (Tn.set _ g _ _ _ _ (by omega) (by omega)), (H.out.s6 _).s8 false⟩
  · rw [if_neg hc]
    have hcb : (c != e.lat) = true := by simpa using hc
    go_enter Try.func34, Try.ntmps34
    go_wp2_with fail
    go_end0
    exact ⟨rfl, (Tn.set _ g _ _ _ _ (by omega) (by omega)).trans ((Tn.set _ g _ _ _ _ (by omega) (by omega)).trans (Tn.set _ g _ _ _ _ (by omega) (by omega))), ((H.out.s7 false).s6 _).s8 false⟩
theorem eover (h : EnW w g p e) :
    Calls Try.prog 44 #[.pointer (some ⟨g, p, none⟩)] w fun r w' => r = .returned (.bool e.ovr) ∧ Below w.heap.size w w' := by
  obtain ⟨c0, c1, c2, c3, c4, c5, c6, c7, c8, fz⟩ := h
  unfold En.ovr
  go_enter Try.func44, Try.ntmps44
  go_wp2_with fail
  go_quiet (fail)
  go_wp2_with fail
  go_ret
  exact ⟨by simp, belowN (Below.refl _ _) _⟩
theorem cat (s : Int) :
    Calls Try.prog 27 #[.pointer (some ⟨g, p, none⟩), .int .i64 s] w fun r w' => r = .returned (.pointer (some ⟨g, if s = 1 then p else p + 9, none⟩)) ∧ w' = w := by
  by_cases hs : s = 1
  · rw [if_pos hs]
    subst hs
    go_enter Try.func27, Try.ntmps27
    go_wp2_with fail
    go_ret
    exact ⟨rfl, rfl⟩
  · rw [if_neg hs]
    have hsb : (s == 1) = false := by simpa using hs
    go_enter Try.func27, Try.ntmps27
    go_wp2_with fail
    go_ret
    exact ⟨rfl, rfl⟩
theorem gplace (f : Fa) (a : Option Addr) (cap : Nat) :
    Calls Try.prog 40 #[.agg (faC f a cap)] w fun r w' => r = .returned (.agg #[.int .u32 (f.ss : Nat), .int .u32 (f.nn : Nat)]) ∧ Below w.heap.size w w' := by
  unfold faC
  go_enter Try.func40, Try.ntmps40
  go_wp2_with fail
  refine bodyPost_ret (v := .agg #[.int .u32 (f.ss : Nat), .int .u32 (f.nn : Nat)]) (by simp [results, Try.results40, go_sem]) rfl ⟨rfl, ?_⟩
  exact ((Below.refl _ _).alloc (Nat.le_refl _) _).alloc (by simp) _
def abv (a b c d : Nat) : Bool := decide (c < a) || (decide (a = c) && decide (d < b))
theorem gabove (a b c d : Nat) :
    Calls Try.prog 41 #[.agg #[.int .u32 (a : Nat), .int .u32 (b : Nat)], .agg #[.int .u32 (c : Nat), .int .u32 (d : Nat)]] w fun r w' => r = .returned (.bool (abv a b c d)) ∧ Below w.heap.size w w' := by
  have bb : ∀ (x y : Array Value), Below w.heap.size w ((w.alloc (.cells x 61)).alloc (.cells y 61)) := fun x y => ((Below.refl _ _).alloc (Nat.le_refl _) _).alloc (by simp) _
  unfold abv
  by_cases h1 : c < a
  · have h1' : ((c : Int) < (a : Int)) = True := by simp; omega
    go_enter Try.func41, Try.ntmps41
    go_wp2_with fail
    go_ret
    exact ⟨by simp [h1], bb _ _⟩
  · have h1' : ((c : Int) < (a : Int)) = False := by simp; omega
    by_cases h2 : a = c
    · subst h2
      go_enter Try.func41, Try.ntmps41
      go_wp2_with fail
      go_ret
      exact ⟨by simp, bb _ _⟩
    · have h2' : ((a : Int) = (c : Int)) = False := by simp; omega
      have h2b : ((a : Int) == (c : Int)) = false := by simp; omega
      go_enter Try.func41, Try.ntmps41
      go_wp2_with fail
      go_ret
      exact ⟨by simp [h1, h2], bb _ _⟩
theorem gitem (f : Fa) (a : Option Addr) (cap : Nat) (hr : Row8 w a f.n cap f.b) :
    Calls Try.prog 45 #[.agg (faC f a cap)] w fun r w' => r = .returned (.agg #[.int .u32 (f.nn : Nat), .string f.x]) ∧ Below w.heap.size w w' := by
  unfold faC
  have b1 : ∀ x T, Below w.heap.size w (w.alloc (.cells x T)) := fun x T => (Below.refl _ _).alloc (Nat.le_refl _) _
  have b2 : ∀ x y T T', Below w.heap.size w ((w.alloc (.cells x T)).alloc (.cells y T')) := fun x y T T' => (b1 x T).alloc (by simp) _
  have q := fun x y T T' => conv_any a f.n cap f.b _ (hr.below (b2 x y T T'))
  obtain ⟨X, hX⟩ : ∃ X, f.x = X := ⟨_, rfl⟩
  rw [hX]
  have q' : ∀ x y T T', (convert 41 9 (.slice a f.n cap)).run Try.prog ((w.alloc (.cells x T)).alloc (.cells y T')) = .ok (.string X) ((w.alloc (.cells x T)).alloc (.cells y T')) := fun x y T T' => by rw [← hX]; exact q x y T T'
  clear q hX
  go_enter Try.func45, Try.ntmps45
  go_wp2_with fail
  refine bodyPost_ret (v := .agg #[.int .u32 (f.nn : Nat), .string X]) (by simp [results, Try.results45, go_sem]) rfl ⟨rfl, ?_⟩
  exact b2 _ _ _ _
set_option maxHeartbeats 8000000 in
theorem gtake (f : Fa) (a : Option Addr) (cap : Nat) (h : EnW w g p e) (hr : Row8 w a f.n cap f.b) :
    Calls Try.prog 29 #[.pointer (some ⟨g, p, none⟩), .agg (faC f a cap)] w fun r w' => r = .returned (.tuple #[]) ∧ Hid (Tn w w' g p (p + 9) ∧ EnW w' g p (e.tak f)) := by
  have hP := fun wx => gplace wx f a cap
  unfold faC at hP
  unfold faC
  have b1 : Below w.heap.size w (w.alloc (.cells #[.int .i64 f.k, .int .i64 f.c, .int .i64 f.s, .int .u32 (f.ss : Nat), .int .u32 (f.nn : Nat), .bool f.on, .int .i64 f.cd, .slice a f.n cap] 43)) := (Below.refl _ _).alloc (Nat.le_refl _) _
  have hg1 := Nat.lt_of_lt_of_le h.lt b1.size
  have hk : (w.alloc (.cells #[.int .i64 f.k, .int .i64 f.c, .int .i64 f.s, .int .u32 (f.ss : Nat), .int .u32 (f.nn : Nat), .bool f.on, .int .i64 f.cd, .slice a f.n cap] 43)).heap[w.heap.size]? = _ := heap_alloc_new w _
  have h1 := h.below b1
  have r1 := hr.below b1
  have hne : w.heap.size ≠ g := by have := h.lt; omega
  obtain ⟨X, hX⟩ : ∃ X, f.x = X := ⟨_, rfl⟩
  go_enter Try.func29, Try.ntmps29
  go_wp2_with fail
  generalize (w.alloc (.cells #[.int .i64 f.k, .int .i64 f.c, .int .i64 f.s, .int .u32 (f.ss : Nat), .int .u32 (f.nn : Nat), .bool f.on, .int .i64 f.cd, .slice a f.n cap] 43)) = w1 at *
  have hS : ∀ wx, Below w1.heap.size w1 wx → wx.cell? ⟨w.heap.size, 0, none⟩ = some (.int .i64 f.k) ∧ wx.cell? ⟨w.heap.size, 1, none⟩ = some (.int .i64 f.c) ∧ wx.cell? ⟨w.heap.size, 2, none⟩ = some (.int .i64 f.s) ∧ wx.cell? ⟨w.heap.size, 3, none⟩ = some (.int .u32 (f.ss : Nat)) ∧ wx.cell? ⟨w.heap.size, 4, none⟩ = some (.int .u32 (f.nn : Nat)) ∧ wx.cell? ⟨w.heap.size, 5, none⟩ = some (.bool f.on) ∧ wx.cell? ⟨w.heap.size, 6, none⟩ = some (.int .i64 f.cd) ∧ wx.cell? ⟨w.heap.size, 7, none⟩ = some (.slice a f.n cap) ∧ wx.cell? ⟨g, p + 1, none⟩ = some (.bool e.took) ∧ wx.cell? ⟨g, p + 2, none⟩ = some (.int .u32 (e.ls : Nat)) ∧ wx.cell? ⟨g, p + 3, none⟩ = some (.int .u32 (e.ln : Nat)) ∧ wx.cell? ⟨g, p + 4, none⟩ = some (.string e.v) ∧ (∀ k, wx.frozen? ⟨g, k, none⟩ = false) ∧ (convert 41 9 (.slice a f.n cap)).run Try.prog wx = .ok (.string X) wx := fun wx hx => by
    have hq := (hx.block w.heap.size (Array.getElem?_eq_some_iff.1 hk).1).trans hk
    have hc := conv_any a f.n cap f.b wx (r1.below hx)
    have e : BA f.b f.n = X := hX
    rw [e] at hc
    have h2 := h1.below hx
    exact ⟨cell_of_row wx _ 0 _ _ _ hq, cell_of_row wx _ 1 _ _ _ hq, cell_of_row wx _ 2 _ _ _ hq, cell_of_row wx _ 3 _ _ _ hq, cell_of_row wx _ 4 _ _ _ hq, cell_of_row wx _ 5 _ _ _ hq, cell_of_row wx _ 6 _ _ _ hq, cell_of_row wx _ 7 _ _ _ hq, h2.c1, h2.c2, h2.c3, h2.c4, h2.fz, hc⟩
  obtain ⟨s0, s1, s2, s3, s4, s5, s6, s7, s8, s9, s10, s11, s12, s13⟩ := hS _ (Below.drew (Below.refl _ _))
  have HH : Hid (_) := And.intro h1 (And.intro hX (And.intro b1 h))
  clear h1 hX b1 h hg1 hk r1 hr
  go_region_with (first
    | (go_at_call 40; refine (hP _).mono ?_; rintro r w2 ⟨rfl, h2⟩; have G2 : Below w1.heap.size w1 w2 := (Below.drew (Below.refl _ _)).trans h2; obtain ⟨t0, t1, t2, t3, t4, t5, t6, t7, t8, t9, t10, t11, t12, t13⟩ := hS _ G2))
  all_goals
    clear s0 s1 s2 s3 s4 s5 s6 s7 s8 s9 s10 s11 s12 s13 hS hP
    go_wp2_with fail
    go_end0
    obtain ⟨h1, hX, b1, h⟩ := HH.out
    refine ⟨rfl, (Tn.of_below _ _ b1 h.lt).trans ((Tn.of_below _ _ G2 h1.lt).trans ((Tn.set _ g _ _ _ _ (by omega) (by omega)).trans ((Tn.set _ g _ _ _ _ (by omega) (by omega)).trans ((Tn.set _ g _ _ _ _ (by omega) (by omega)).trans (Tn.set _ g _ _ _ _ (by omega) (by omega)))))), ?_⟩
    unfold En.tak
    rw [hX]
    exact ((((h1.below G2).s1 true).s2 f.ss).s3 f.nn).s4 X
end
end Go.Proofs.Ythlgahkoignnkaa
