/- Part 44 of the texts on which the proof rests: contracts of Go functions. -/
import Derived.Test.YthlgahkoignnkaaPkG14
import Derived.Test.YthlgahkoignnkaaPkG42
namespace Go.Proofs.Ythlgahkoignnkaa
open Go.RowKit Go.Maps Go.Sort
set_option maxRecDepth 100000
theorem gsee_nil (f : Fa) (a : Option Addr) (cap : Nat) (w : World) :
    Calls Try.prog 13 #[.pointer none, .agg #[.int .i64 f.k, .int .i64 f.c, .int .i64 f.s, .int .u32 (f.ss : Nat), .int .u32 (f.nn : Nat), .bool f.on, .int .i64 f.cd, .slice a f.n cap]] w fun r w' => r = .returned (.agg #[.int .i64 0, .int .i64 0]) ∧ Below w.heap.size w w' := by
  obtain ⟨W, hW⟩ : ∃ W : World, (w.alloc (.cells #[.int .i64 f.k, .int .i64 f.c, .int .i64 f.s, .int .u32 (f.ss : Nat), .int .u32 (f.nn : Nat), .bool f.on, .int .i64 f.cd, .slice a f.n cap] 43)).alloc (.cells #[.int .i64 0, .int .i64 0] 34) = W := ⟨_, rfl⟩
  have bW : Below w.heap.size w W := by rw [← hW]; exact belowG (belowG (Below.refl _ _) _) _
  have kW : W.heap[w.heap.size + 1]? = some (.cells #[.int .i64 0, .int .i64 0] 34 (0, 0)) := by
    rw [← hW]
    have := heap_alloc_new (w.alloc (.cells #[.int .i64 f.k, .int .i64 f.c, .int .i64 f.s, .int .u32 (f.ss : Nat), .int .u32 (f.nn : Nat), .bool f.on, .int .i64 f.cd, .slice a f.n cap] 43)) (.cells #[.int .i64 0, .int .i64 0] 34)
    simpa using this
  have hV := fun wx => gverdict_nil wx
  have HW : Hid (_) := And.intro bW kW
  clear bW kW
  go_enter Try.func13, Try.ntmps13
  go_wp2_with fail
  try rw [hW]
  clear hW
  refine (hV _).mono ?_
  rintro e w2 ⟨rfl, b2⟩
  obtain ⟨bW, kW⟩ := HW.out
  have k2 := (b2.block _ (Array.getElem?_eq_some_iff.1 kW).1).trans kW
  have z0 := cell_of_row w2 _ 0 _ _ _ k2
  have z1 := cell_of_row w2 _ 1 _ _ _ k2
  have zz := fun k => frozen_of_row w2 _ k _ _ k2
  have b3 : Below w.heap.size w w2 := bW.trans (b2.mono bW.size)
  have HB : Hid (Below w.heap.size w ((w2.setCell ⟨w.heap.size + 1, 0, none⟩ (.int .i64 0)).setCell ⟨w.heap.size + 1, 1, none⟩ (.int .i64 0)) ∧ ((w2.setCell ⟨w.heap.size + 1, 0, none⟩ (.int .i64 0)).setCell ⟨w.heap.size + 1, 1, none⟩ (.int .i64 0)).heap[w.heap.size + 1]? = some (.cells #[.int .i64 0, .int .i64 0] 34 (0, 0))) := by
    have o : Off [w.heap.size + 1] w2 ((w2.setCell ⟨w.heap.size + 1, 0, none⟩ (.int .i64 0)).setCell ⟨w.heap.size + 1, 1, none⟩ (.int .i64 0)) := (Off.setCell _ _ _ _).trans (Off.setCell _ _ _ _)
    exact ⟨o.below b3 (fun j hj => by simp at hj; omega) b3.size, heap_setCell_same _ _ _ _ _ _ (heap_setCell_same _ _ _ _ _ _ k2)⟩
  clear hV HW bW kW k2 b2 b3
  go_wp2_with fail
  have y0 := cell_of_row _ _ 0 _ _ _ HB.out.2
  have y1 := cell_of_row _ _ 1 _ _ _ HB.out.2
  refine bodyPost_ret (v := .agg #[.int .i64 0, .int .i64 0]) (by simp [results, Try.results13, go_sem, y0, y1]) rfl ⟨rfl, HB.out.1⟩
theorem ver_eq (a0 a1 b0 b1 : Int) (w : World) : (Op.equalIn 10000 34 (.agg #[.int .i64 a0, .int .i64 a1]) (.agg #[.int .i64 b0, .int .i64 b1])).run Try.prog w = .ok (decide ((a0, a1) = (b0, b1))) w := by
  have hS : Try.prog.underlying 34 = some (.struct (Try.prog.fieldsOf 34)) := by kernel_rfl
  have hp : Try.prog.stoodInHeld 34 = false := by kernel_rfl
  rw [show (10000 : Nat) = 9999 + 1 from rfl, run_equalIn_agg w 9999 34 _ _ hS hp]
  simp only [Program.fieldsOf, Try.underlying34]
  go_simp
  by_cases h1 : a0 = b0 <;> by_cases h2 : a1 = b1 <;> simp [h1, h2]
theorem ver_same (a0 a1 : Int) (w : World) : (Op.equalIn 10000 34 (.agg #[.int .i64 a0, .int .i64 a1]) (.agg #[.int .i64 a0, .int .i64 a1])).run Try.prog w = .ok true w := by
  rw [ver_eq]
  simp
theorem row8_blk {w w' : World} {a : Option Addr} {n cap : Nat} {bs : Nat → Nat} (h : Row8 w a n cap bs) (hl : ∀ y, a = some y → 0 < n → w'.heap[y.block]? = w.heap[y.block]?) : Row8 w' a n cap bs := by
  refine ⟨h.byte, h.nil, fun x hx i hi => ?_, h.le⟩
  have h1 := h.src x hx i hi
  have hb : (x.add i).block = x.block := by unfold Addr.add; split <;> rfl
  rw [← h1]
  unfold World.cell?
  rw [hb, hl x hx (by omega)]
structure NI (w Wc wr : World) (len t : Nat) (F : Nat → Fa) (A : Nat → Option Addr) (jb p n : Nat) (J : Ju) : Prop where
  jj : JJ wr Wc.heap.size jb p n J n J
  bel : Below w.heap.size w wr
  kp : ∀ q, q < Wc.heap.size → (∀ j, j < t → j < len → ∀ y, A j = some y → 0 < (F j).n → y.block ≠ q) → wr.heap[q]? = Wc.heap[q]?
structure Dt (w : World) (q n : Nat) : Prop where
  ty : Ty w q 5
  c : ∀ x, x < n → ∃ v : Int, w.cell? ⟨q, x, none⟩ = some (.int .u8 v)
section
variable {w Wn Wc wr w' : World} {g cp len t : Nat} {F : Nat → Fa} {A : Nat → Option Addr} {C : Nat → Nat} {jb p n : Nat} {J : Ju}
theorem CqN.bg (h : CqN Wn Wc g cp len len F A C) : g < Wc.heap.size := by
  obtain ⟨cur, hc, _⟩ := h.blk
  exact (Array.getElem?_eq_some_iff.1 hc).1
theorem NI.cells (h : NI w Wc wr len t F A jb p n J) (hc : CqN Wn Wc g cp len len F A C) {i : Nat} (hi : i < len) : ∀ j u, (faL (F i) (A i) (C i))[j]? = some u → wr.cell? ⟨g, i * 8 + j, none⟩ = some u := fun j u hu => by
  have hk := h.kp g hc.bg (fun j hj hjl y hy hp => by
    obtain ⟨q, rfl, _, h2, _⟩ := hc.new j hjl hjl y hy hp
    exact h2)
  exact (World.cell?_of_block (a := ⟨g, i * 8 + j, none⟩) hk).trans ((hc.row i hi).1 j u hu)
theorem NI.data (h : NI w Wc wr len t F A jb p n J) (hc : CqN Wn Wc g cp len len F A C) {i : Nat} (hi : i < len) (ht : t ≤ i) : Row8 wr (A i) (F i).n (C i) (F i).b :=
  row8_blk (hc.row i hi).2 (fun y hy hp => by
    obtain ⟨q, rfl, _, _, h3⟩ := hc.new i hi hi y hy hp
    refine h.kp q (ty_lt h3) (fun j hj hjl z hz hp' e => ?_)
    have := hc.dis j i hjl hi hjl hi z _ hz hy hp' hp e
    omega)
theorem NI.typ (h : NI w Wc wr len t F A jb p n J) (hc : CqN Wn Wc g cp len len F A C) {i : Nat} (hi : i < len) (ht : t ≤ i) {q : Nat} (hy : A i = some ⟨q, 0, none⟩) (hp : 0 < (F i).n) : Dt wr q (F i).n := by
  have hR := h.data hc hi ht
  obtain ⟨q', e, _, _, h3⟩ := hc.new i hi hi _ hy hp
  cases e
  have hk := h.kp q (ty_lt h3) (fun j hj hjl z hz hp' e => by
    have := hc.dis j i hjl hi hjl hi z _ hz hy hp' hp e
    omega)
  refine ⟨?_, fun x hx => ?_⟩
  · obtain ⟨cs, hcs⟩ := h3
    exact ⟨cs, hk.trans hcs⟩
  · have := hR.src _ hy x hx
    refine ⟨(((F i).b x : Nat) : Int), ?_⟩
    have e : (Addr.add ⟨q, 0, none⟩ x) = ⟨q, x, none⟩ := by unfold Addr.add; simp; omega
    rw [e] at this
    exact this
theorem NI.more (h : NI w Wc wr len t F A jb p n J) {t' : Nat} (ht : t ≤ t') : NI w Wc wr len t' F A jb p n J := ⟨h.jj, h.bel, fun q hq hn => h.kp q hq (fun j hj => hn j (by omega))⟩
theorem NI.below (h : NI w Wc wr len t F A jb p n J) (b : Below wr.heap.size wr w') : NI w Wc w' len t F A jb p n J :=
  ⟨h.jj.below b, h.bel.trans (b.mono h.bel.size), fun q hq hn => (b.block q (by have := h.jj.size; omega)).trans (h.kp q hq hn)⟩
theorem NI.turn (h : NI w Wc wr len (t + 1) F A jb p n J) (hc : CqN Wn Wc g cp len len F A C) (hw : w.heap.size ≤ Wn.heap.size) (ht : t < len) {q : Nat} (hy : A t = some ⟨q, 0, none⟩) (hp : 0 < (F t).n) (x : Nat) (v : Int) : NI w Wc (wr.setCell ⟨q, x, none⟩ (.int .u8 v)) len (t + 1) F A jb p n J := by
  obtain ⟨q', e, h1, _, h3⟩ := hc.new t ht ht _ hy hp
  cases e
  have o : Off [q] wr (wr.setCell ⟨q, x, none⟩ (.int .u8 v)) := Off.setCell _ _ _ _
  have lq := ty_lt h3
  refine ⟨h.jj.off o (fun k hk => by simp at hk; subst hk; exact .inl lq), o.below h.bel (fun k hk => by simp at hk; omega) h.bel.size, fun k hk hn => ?_⟩
  have hne : k ≠ q := fun e => hn t (by omega) ht _ hy hp e.symm
  exact (o.block k (by have := h.jj.size; omega) (by simpa using hne)).trans (h.kp k hk hn)
theorem Dt.turn {q n : Nat} (h : Dt wr q n) {x : Nat} (hx : x < n) (v : Int) : Dt (wr.setCell ⟨q, x, none⟩ (.int .u8 v)) q n := by
  refine ⟨ty_set h.ty, fun y hy => ?_⟩
  by_cases e : y = x
  · subst e
    obtain ⟨u, hu⟩ := h.c y hy
    exact ⟨v, World.cell?_setCell_same _ _ _ hu⟩
  · obtain ⟨u, hu⟩ := h.c y hy
    exact ⟨u, (World.cell?_setCell_other _ _ _ _ (by intro q; have := congrArg Addr.off q; simp at this; omega)).trans hu⟩
end
theorem gcopyN (a : Option Addr) (cap len : Nat) (F : Nat → Fa) (w : World) (hlen : len * 72 ≤ 140737488351232) (hF : FRow w a len F) (hO : ∀ i, i < len → (F i).Ok) : Calls Try.prog 12 #[.slice a len cap] w fun r w' => ∃ a' c, r = .returned (.slice a' len c) ∧ Hid (Below w.heap.size w w' ∧ ∃ g A C, 0 < len → a' = some ⟨g, 0, none⟩ ∧ CqN w w' g c len len F A C) := by
  by_cases h0 : 0 < len
  · refine (gcopiedN a cap len F w w (Below.refl _ _) h0 hlen hF (fun i hi => by have := (hO i hi).n; omega)).mono ?_
    rintro r w' ⟨g, c, rfl, h⟩
    obtain ⟨h1, A, C, h2⟩ := h.out
    exact ⟨_, c, rfl, h2.bel, g, A, C, fun _ => ⟨rfl, h2⟩⟩
  · obtain rfl : len = 0 := by omega
    refine (gcopied0 a cap w).mono ?_
    rintro r w' ⟨a', c, rfl, h⟩
    exact ⟨a', c, rfl, h.out.1, 0, fun _ => none, fun _ => 0, fun q => absurd q h0⟩
theorem JJ.verdict {w : World} {B jb p n1 n2 : Nat} {J1 J2 : Ju} (h : JJ w B jb p n1 J1 n2 J2) : Calls Try.prog 11 #[.pointer (some ⟨jb, 0, none⟩)] w fun r w' => r = .returned (.agg #[.int .i64 J1.r, .int .i64 J1.a]) ∧ Below w.heap.size w w' := by
  obtain ⟨LG, LR, ⟨g, cap, ob, N, M, h1, _⟩, _⟩ := h
  exact gverdict jb g cap ob N M J1 w h1
end Go.Proofs.Ythlgahkoignnkaa
