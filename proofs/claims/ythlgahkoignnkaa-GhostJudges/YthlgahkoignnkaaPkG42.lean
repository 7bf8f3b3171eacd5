/- Part 43 of the texts on which the proof rests: contracts of Go functions. -/
import Derived.Test.YthlgahkoignnkaaPkG13
import Derived.Test.YthlgahkoignnkaaPkG17
import Derived.Test.YthlgahkoignnkaaPkG39
import Derived.Test.YthlgahkoignnkaaPkG40
import Derived.Test.YthlgahkoignnkaaPkG41
namespace Go.Proofs.Ythlgahkoignnkaa
open Go.RowKit Go.Maps Go.Sort
set_option maxRecDepth 100000
def rng (a b : Nat) : List Nat := (List.range (b - a)).map fun i => a + i
theorem mem_rng {a b x : Nat} : x ∈ rng a b ↔ a ≤ x ∧ x < b := by
  unfold rng
  rw [List.mem_map]
  constructor
  · rintro ⟨i, hi, rfl⟩
    have := List.mem_range.1 hi
    omega
  · intro h
    exact ⟨x - a, List.mem_range.2 (by omega), by omega⟩
def GS (w : World) (B : Nat) (L : List Nat) (jb n : Nat) (J : Ju) : Prop := ∃ g cap ob N M, GJ w jb g cap ob N M J ∧ Ft jb g ob M L ∧ N ≤ 2 * n ∧ J.n ≤ n ∧ ∀ x, x ∈ L → B ≤ x ∧ x < w.heap.size
theorem GS.off {w w' : World} {B : Nat} {L l : List Nat} {jb n : Nat} {J : Ju} (h : GS w B L jb n J) (o : Off l w w') (hd : ∀ x, x ∈ L → x ∉ l) : GS w' B L jb n J := by
  obtain ⟨g, cap, ob, N, M, h1, h2, h3, h4, h5⟩ := h
  exact ⟨g, cap, ob, N, M, h1.offB o (hd _ h2.j) (hd _ h2.g) (hd _ h2.o) (fun t b ht hm => hd _ (h2.i t b ht hm)), h2, h3, h4, fun x hx => ⟨(h5 x hx).1, Nat.lt_of_lt_of_le (h5 x hx).2 o.size⟩⟩
theorem GJ.zero {w : World} {jb g cap ob N : Nat} {M : TK → Option Nat} {J : Ju} (h : GJ w jb g cap ob N M J) (h0 : J.cs.length = 0) : GJ w jb jb cap ob N M J := by
  refine ⟨?_, fun i c hc => ?_, h.sm, fun q => by omega, h.few⟩
  · have := h.blk
    unfold csV at this ⊢
    rw [if_pos h0] at this ⊢
    exact this
  · have := (List.getElem?_eq_some_iff.1 hc).1
    omega
theorem GJ.lto {w : World} {jb g cap ob N : Nat} {M : TK → Option Nat} {J : Ju} (h : GJ w jb g cap ob N M J) : ob < w.heap.size := by
  obtain ⟨D, hD, _⟩ := h.sm.out
  exact hD.lt
theorem GS.made {w w' : World} {k jb g cap ob : Nat} {t0 t1 : Nat → Int} (e1 : w.heap.size ≤ jb) (e2 : w.heap.size ≤ ob) (e3 : w.heap.size ≤ g) (h : GJ w' jb g cap ob 0 (fun _ => none) (ju0 k t0 t1)) : ∃ L, GS w' w.heap.size L jb 0 (ju0 k t0 t1) := by
  have lj : jb < w'.heap.size := (Array.getElem?_eq_some_iff.1 h.blk).1
  have lo := h.lto
  by_cases k0 : k = 0
  · have hz : (ju0 k t0 t1).cs.length = 0 := by simp [ju0, k0]
    refine ⟨[jb, ob], jb, cap, ob, 0, _, h.zero hz, ⟨by simp, by simp, by simp, fun t b _ hm => by cases hm⟩, by omega, Nat.le_refl _, fun x hx => ?_⟩
    simp at hx
    rcases hx with rfl | rfl <;> omega
  · have lg : g < w'.heap.size := by
      have hc : (ju0 k t0 t1).cs[0]? = some (coN (t0 0) (t1 0)) := by
        show ((List.range k).map fun i => coN (t0 i) (t1 i))[0]? = _
        rw [List.getElem?_map, List.getElem?_range (by omega)]
        rfl
      exact h.ltg hc
    refine ⟨[jb, g, ob], g, cap, ob, 0, _, h, ⟨by simp, by simp, by simp, fun t b _ hm => by cases hm⟩, by omega, Nat.le_refl _, fun x hx => ?_⟩
    simp at hx
    rcases hx with rfl | rfl | rfl <;> omega
theorem gseeS {w : World} {B : Nat} {L : List Nat} {jb n : Nat} {J : Ju} (h : GS w B L jb n J) (hB : B ≤ w.heap.size) (hn : n ≤ 5000) (f : Fa) (hf : f.Ok) (a : Option Addr) (cap : Nat) (hr : Row8 w a f.n cap f.b) :
    Calls Try.prog 13 #[.pointer (some ⟨jb, 0, none⟩), .agg (faC f a cap)] w fun r w' => r = .returned (.agg #[.int .i64 (J.see f).r, .int .i64 (J.see f).a]) ∧ Hid (∃ L', GS w' B L' jb (n + 1) (J.see f) ∧ Off L w w' ∧ ∀ x, x ∈ L' → x ∈ L ∨ w.heap.size ≤ x) := by
  obtain ⟨g, cap0, ob, N, M, h1, h2, h3, h4, h5⟩ := h
  refine (gsee jb g cap0 ob N M J f a cap w h1 (by unfold maxLen; omega) (by omega) hf hr).mono ?_
  rintro r w' ⟨rfl, q⟩
  obtain ⟨M', N', hN', hM', hG, hO⟩ := q.out
  have o := hO L h2
  refine ⟨rfl, L ++ rng w.heap.size w'.heap.size, ⟨g, cap0, ob, N', M', hG, ⟨by simp [h2.j], by simp [h2.g], by simp [h2.o], fun t b ht hm => ?_⟩, by omega, by have := see_n J f; omega, fun x hx => ?_⟩, o, fun x hx => ?_⟩
  · rw [List.mem_append, mem_rng]
    rcases hM' t b ht hm with e | e
    · exact .inl (h2.i t b ht e)
    · have hb : b < w'.heap.size := by
        obtain ⟨D, hD, _⟩ := hG.sm.inn t b ht hm
        exact hD.lt
      exact .inr ⟨e, hb⟩
  · rw [List.mem_append, mem_rng] at hx
    have := o.size
    rcases hx with e | e
    · have := h5 x e
      omega
    · omega
  · rw [List.mem_append, mem_rng] at hx
    rcases hx with e | e
    · exact .inl e
    · exact .inr e.1
def RSS (w : World) (B : Nat) (L : List Nat) (p n : Nat) (J : Ju) : Prop := ∃ (ge ec gs sc k : Nat) (b : Nat → Nat) (c : Nat → RC) (sa : Option Addr) (m sx : Nat) (F : Nat → Fa) (A : Nat → Option Addr) (C : Nat → Nat) (Bs : Nat), RJ w p ge ec gs sc k b c sa m sx F A C Bs n J.r J.a ∧ SJ J k c m F ∧ FR p gs k b (.slice sa m sx) L ∧ ge ∈ L ∧ (∀ j, j < m → ∀ y, A j = some y → 0 < (F j).n → y.block ∈ L) ∧ m ≤ n ∧ (J.r = 0 → n = J.n) ∧ ∀ x, x ∈ L → B ≤ x ∧ x < w.heap.size
theorem RSS.off {w w' : World} {B : Nat} {L l : List Nat} {p n : Nat} {J : Ju} (h : RSS w B L p n J) (o : Off l w w') (hd : ∀ x, x ∈ L → x ∉ l) : RSS w' B L p n J := by
  obtain ⟨ge, ec, gs, sc, k, b, c, sa, m, sx, F, A, C, Bs, h1, h2, h3, h4, h5, h6, h7, h8⟩ := h
  exact ⟨ge, ec, gs, sc, k, b, c, sa, m, sx, F, A, C, Bs, h1.offB o (hd _ h3.p) (fun _ => hd _ h4) (fun _ => hd _ h3.g) (fun i hi => hd _ (h3.b i hi)) (fun g hg => hd _ (h3.o g hg)) (fun j hj y hy hp => hd _ (h5 j hj y hy hp)), h2, h3, h4, h5, h6, h7, fun x hx => ⟨(h8 x hx).1, Nat.lt_of_lt_of_le (h8 x hx).2 o.size⟩⟩
theorem RSS.made {w w' : World} {a0 : Option Addr} {l0 c0 : Nat} {a1 : Option Addr} {l1 c1 ms : Nat} {P0 P1 : Nat → Pg} {k : Nat} {vE vS : Value} {b : Nat → Nat} (h : Sr w w' a0 l0 c0 a1 l1 c1 ms P0 P1 k k vE vS b) (hk : k ≤ 1000) : ∃ L, RSS w' w.heap.size L (w.heap.size + 1) 0 (ju0 k (fun i => (P0 i).t) (fun i => (P1 i).t)) := by
  obtain ⟨ge, ec, gs, sc, e1, e2, e3, e4, e5, hR, hS⟩ := h.done hk
  have lj := h.ltJ
  refine ⟨[w.heap.size + 1, ge, gs] ++ (List.range k).map b, ge, ec, gs, sc, k, b, _, none, 0, 0, _, _, _, _, hR, hS, ⟨by simp, by simp, fun i hi => ?_, fun g hg => by cases hg⟩, by simp, fun j hj => by omega, Nat.le_refl _, fun _ => rfl, fun x hx => ?_⟩
  · rw [List.mem_append]
    exact .inr (List.mem_map.2 ⟨i, List.mem_range.2 hi, rfl⟩)
  · rw [List.mem_append] at hx
    rcases hx with hx | hx
    · simp at hx
      rcases hx with rfl | rfl | rfl <;> omega
    · obtain ⟨i, hi, rfl⟩ := List.mem_map.1 hx
      have hi' := List.mem_range.1 hi
      exact ⟨e5 i hi', hR.lt hi'⟩
theorem rseeS {w : World} {B : Nat} {L : List Nat} {p n : Nat} {J : Ju} (h : RSS w B L p n J) (hB : B ≤ w.heap.size) (hn : n ≤ 5000) (f : Fa) (hf : f.Ok) (d : Option Addr) (cap : Nat) (hr : Row8 w d f.n cap f.b) (hd : ∀ y, d = some y → 0 < f.n → y.block ∉ L) :
    Calls Try.prog 14 #[.pointer (some ⟨p, 0, none⟩), .agg (faC f d cap)] w fun r w' => r = .returned (.agg #[.int .i64 (J.see f).r, .int .i64 (J.see f).a]) ∧ Hid (∃ L', RSS w' B L' p (n + 1) (J.see f) ∧ Off L w w' ∧ ∀ x, x ∈ L' → x ∈ L ∨ w.heap.size ≤ x) := by
  obtain ⟨ge, ec, gs, sc, k, b, c, sa, m, sx, F, A, C, Bs, h1, h2, h3, h4, h5, h6, h7, h8⟩ := h
  refine (rsee h1 h2 (h8 _ h3.g).2 f hf d cap hr (fun y hy hp i hi e => hd y hy hp (by rw [e]; exact h3.b i hi)) (by omega) (by omega) h7).mono ?_
  rintro r w' ⟨rfl, q⟩
  obtain ⟨⟨c', sa', m', sx', F', A', C', Bs', g1, g2, g3, g4, g5, g6⟩, g7⟩ := q.out
  have o := g6 L h3
  have os := o.size
  refine ⟨rfl, L ++ rng w.heap.size w'.heap.size, ⟨ge, ec, gs, sc, k, b, c', sa', m', sx', F', A', C', Bs', g2, g3, ⟨by simp [h3.p], by simp [h3.g], fun i hi => by simp [h3.b i hi], fun g hg => ?_⟩, by simp [h4], fun j hj y hy hp => ?_, by omega, g7, fun x hx => ?_⟩, o, fun x hx => ?_⟩
  · rw [List.mem_append, mem_rng]
    rcases g4 g hg with e | e
    · exact .inl (h3.o g e)
    · exact .inr ⟨e, (g2.own.lt g hg).2⟩
  · rw [List.mem_append, mem_rng]
    rcases g5 j hj y hy hp with ⟨j0, hj0, e, e'⟩ | e
    · exact .inl (h5 j0 hj0 y e e')
    · refine .inr ⟨e, ?_⟩
      obtain ⟨cs, hc⟩ := (g2.row j hj).2 y hy hp
      exact (Array.getElem?_eq_some_iff.1 hc).1
  · rw [List.mem_append, mem_rng] at hx
    rcases hx with e | e
    · have := h8 x e
      omega
    · omega
  · rw [List.mem_append, mem_rng] at hx
    rcases hx with e | e
    · exact .inl e
    · exact .inr e.1
def JJ (w : World) (B jb p n1 : Nat) (J1 : Ju) (n2 : Nat) (J2 : Ju) : Prop := ∃ LG LR, GS w B LG jb n1 J1 ∧ RSS w B LR p n2 J2 ∧ ∀ x, x ∈ LG → x ∉ LR
theorem JJ.made {w1 w2 : World} {B jb p : Nat} {LG LR : List Nat} {J : Ju} (hG : GS w1 B LG jb 0 J) (b : Below w1.heap.size w1 w2) (hR : RSS w2 w1.heap.size LR p 0 J) (hB : B ≤ w1.heap.size) : JJ w2 B jb p 0 J 0 J := by
  have hG5 : ∀ x, x ∈ LG → B ≤ x ∧ x < w1.heap.size := by
    obtain ⟨g, cap, ob, N, M, h1, h2, h3, h4, h5⟩ := hG
    exact h5
  obtain ⟨ge, ec, gs, sc, k, b', c, sa, m, sx, F, A, C, Bs, h1, h2, h3, h4, h5, h6, h7, h8⟩ := hR
  refine ⟨LG, LR, hG.off (l := []) (Off.of_below b) (fun x _ hx => by cases hx), ⟨ge, ec, gs, sc, k, b', c, sa, m, sx, F, A, C, Bs, h1, h2, h3, h4, h5, h6, h7, fun x hx => ⟨by have := (h8 x hx).1; omega, (h8 x hx).2⟩⟩, fun x hx hm => ?_⟩
  have := hG5 x hx
  have := (h8 x hm).1
  omega
section
variable {w w' : World} {B jb p n1 n2 : Nat} {J1 J2 : Ju}
theorem JJ.size (h : JJ w B jb p n1 J1 n2 J2) : B ≤ w.heap.size := by
  obtain ⟨LG, LR, ⟨g, cap, ob, N, M, h1, h2, h3, h4, h5⟩, _⟩ := h
  have := h5 _ h2.j
  omega
theorem JJ.off {l : List Nat} (h : JJ w B jb p n1 J1 n2 J2) (o : Off l w w') (hl : ∀ x, x ∈ l → x < B ∨ w.heap.size ≤ x) : JJ w' B jb p n1 J1 n2 J2 := by
  obtain ⟨LG, LR, hG, hR, hd⟩ := h
  have hG5 : ∀ x, x ∈ LG → B ≤ x ∧ x < w.heap.size := by
    obtain ⟨g, cap, ob, N, M, h1, h2, h3, h4, h5⟩ := hG
    exact h5
  have hR5 : ∀ x, x ∈ LR → B ≤ x ∧ x < w.heap.size := by
    obtain ⟨ge, ec, gs, sc, k, b, c, sa, m, sx, F, A, C, Bs, h1, h2, h3, h4, h5, h6, h7, h8⟩ := hR
    exact h8
  exact ⟨LG, LR, hG.off o (fun x hx hm => by have := hG5 x hx; have := hl x hm; omega), hR.off o (fun x hx hm => by have := hR5 x hx; have := hl x hm; omega), hd⟩
theorem JJ.below (h : JJ w B jb p n1 J1 n2 J2) (b : Below w.heap.size w w') : JJ w' B jb p n1 J1 n2 J2 := h.off (l := []) (Off.of_below b) (fun x hx => by cases hx)
theorem jsee_g (h : JJ w B jb p n1 J1 n2 J2) (hn : n1 ≤ 5000) (f : Fa) (hf : f.Ok) (a : Option Addr) (cap : Nat) (hr : Row8 w a f.n cap f.b) :
    Calls Try.prog 13 #[.pointer (some ⟨jb, 0, none⟩), .agg (faC f a cap)] w fun r w' => r = .returned (.agg #[.int .i64 (J1.see f).r, .int .i64 (J1.see f).a]) ∧ Hid (JJ w' B jb p (n1 + 1) (J1.see f) n2 J2 ∧ Below B w w') := by
  have hB := h.size
  obtain ⟨LG, LR, hG, hR, hd⟩ := h
  have hG5 : ∀ x, x ∈ LG → B ≤ x ∧ x < w.heap.size := by
    obtain ⟨g, cap, ob, N, M, h1, h2, h3, h4, h5⟩ := hG
    exact h5
  have hR5 : ∀ x, x ∈ LR → B ≤ x ∧ x < w.heap.size := by
    obtain ⟨ge, ec, gs, sc, k, b, c, sa, m, sx, F, A, C, Bs, h1, h2, h3, h4, h5, h6, h7, h8⟩ := hR
    exact h8
  refine (gseeS hG hB hn f hf a cap hr).mono ?_
  rintro r w' ⟨rfl, q⟩
  obtain ⟨L', q1, q2, q3⟩ := q.out
  refine ⟨rfl, ⟨L', LR, q1, hR.off q2 (fun x hx hm => hd x hm hx), fun x hx hm => ?_⟩, q2.below (Below.refl _ _) (fun k hk => (hG5 k hk).1) hB⟩
  rcases q3 x hx with e | e
  · exact hd x e hm
  · have := hR5 x hm
    omega
theorem jsee_r (h : JJ w B jb p n1 J1 n2 J2) (hn : n2 ≤ 5000) (f : Fa) (hf : f.Ok) (a : Option Addr) (cap : Nat) (hr : Row8 w a f.n cap f.b) (ha : ∀ y, a = some y → 0 < f.n → y.block < B) :
    Calls Try.prog 14 #[.pointer (some ⟨p, 0, none⟩), .agg (faC f a cap)] w fun r w' => r = .returned (.agg #[.int .i64 (J2.see f).r, .int .i64 (J2.see f).a]) ∧ Hid (JJ w' B jb p n1 J1 (n2 + 1) (J2.see f) ∧ Below B w w') := by
  have hB := h.size
  obtain ⟨LG, LR, hG, hR, hd⟩ := h
  have hG5 : ∀ x, x ∈ LG → B ≤ x ∧ x < w.heap.size := by
    obtain ⟨g, cap, ob, N, M, h1, h2, h3, h4, h5⟩ := hG
    exact h5
  have hR5 : ∀ x, x ∈ LR → B ≤ x ∧ x < w.heap.size := by
    obtain ⟨ge, ec, gs, sc, k, b, c, sa, m, sx, F, A, C, Bs, h1, h2, h3, h4, h5, h6, h7, h8⟩ := hR
    exact h8
  refine (rseeS hR hB hn f hf a cap hr (fun y hy hp hm => by have := ha y hy hp; have := (hR5 _ hm).1; omega)).mono ?_
  rintro r w' ⟨rfl, q⟩
  obtain ⟨L', q1, q2, q3⟩ := q.out
  refine ⟨rfl, ⟨LG, L', hG.off q2 hd, q1, fun x hx hm => ?_⟩, q2.below (Below.refl _ _) (fun k hk => (hR5 k hk).1) hB⟩
  rcases q3 x hm with e | e
  · exact hd x hx e
  · have := hG5 x hx
    omega
theorem JJ.said (h : JJ w B jb p n1 J1 n2 J2) : w.cell? ⟨jb, 3, none⟩ = some (.int .i64 J1.r) ∧ w.cell? ⟨jb, 4, none⟩ = some (.int .i64 J1.a) ∧ w.cell? ⟨p, 4, none⟩ = some (.int .i64 J2.r) ∧ w.cell? ⟨p, 5, none⟩ = some (.int .i64 J2.a) := by
  obtain ⟨LG, LR, ⟨g, cap, ob, N, M, h1, _⟩, ⟨ge, ec, gs, sc, k, b, c, sa, m, sx, F, A, C, Bs, r1, _⟩, hd⟩ := h
  exact ⟨cell_of_row w jb 3 _ _ _ h1.blk, cell_of_row w jb 4 _ _ _ h1.blk, cell_of_row w p 4 _ _ _ r1.blk, cell_of_row w p 5 _ _ _ r1.blk⟩
end
end Go.Proofs.Ythlgahkoignnkaa
namespace Go.Proofs.Ythlgahkoignnkaa
open Go.RowKit Go.Maps Go.Sort
set_option maxRecDepth 100000
structure CqN (w wr : World) (g cp len t : Nat) (F : Nat → Fa) (A : Nat → Option Addr) (C : Nat → Nat) : Prop where
  bel : Below w.heap.size w wr
  blk : ∃ cur, wr.heap[g]? = some (.cells cur 43 (0, 0)) ∧ cur.size = cp * 8
  row : ∀ i, i < len → (∀ j u, (faL (F i) (A i) (C i))[j]? = some u → wr.cell? ⟨g, i * 8 + j, none⟩ = some u) ∧ Row8 wr (A i) (F i).n (C i) (F i).b
  old : ∀ i, t ≤ i → i < len → ∀ y, A i = some y → 0 < (F i).n → y.block < w.heap.size
  new : ∀ i, i < t → i < len → ∀ y, A i = some y → 0 < (F i).n → ∃ q, y = ⟨q, 0, none⟩ ∧ w.heap.size ≤ q ∧ q ≠ g ∧ Ty wr q 5
  dis : ∀ i j, i < t → j < t → i < len → j < len → ∀ y z, A i = some y → A j = some z → 0 < (F i).n → 0 < (F j).n → y.block = z.block → i = j
theorem ty_lt {w : World} {k : Nat} {t : TypeId} (h : Ty w k t) : k < w.heap.size := by
  obtain ⟨cs, hc⟩ := h
  exact (Array.getElem?_eq_some_iff.1 hc).1
theorem CqN.made {w w2 : World} {g cp len : Nat} {cur : Array Value} {F : Nat → Fa} {A : Nat → Option Addr} {C : Nat → Nat} (b : Below w.heap.size w w2) (hgg : w2.heap[g]? = some (.cells cur 43 (0, 0))) (h3 : cur.size = cp * 8) (ht : cur.toList.take (len * 8) = flF len F A C) (R : ∀ i, i < len → Row8 w (A i) (F i).n (C i) (F i).b) (R0 : ∀ i, i < len → ∀ y, A i = some y → 0 < (F i).n → y.block < w.heap.size) : CqN w w2 g cp len 0 F A C := by
  refine ⟨b, ⟨cur, hgg, h3⟩, fun i hi => ⟨fun j u hu => ?_, (R i hi).below b⟩, fun i _ hi => R0 i hi, fun i hi => by omega, fun i j hi => by omega⟩
  have hj : j < 8 := by
    have := (List.getElem?_eq_some_iff.1 hu).1
    simpa [faL] using this
  rw [cell_of_row w2 g (i * 8 + j) _ _ _ hgg, ← hu, ← flF_get len F A C i j hi hj, ← ht, List.getElem?_take_of_lt (by omega), Array.getElem?_toList]
theorem CqN.set {w wr w3 : World} {g cp len i n3 : Nat} {F : Nat → Fa} {A : Nat → Option Addr} {C : Nat → Nat} {a3 : Option Addr} (h : CqN w wr g cp len i F A C) (hg : w.heap.size ≤ g) (hi : i < len) (b3 : Below wr.heap.size wr w3) (R3 : Row8 w3 a3 (F i).n n3 (F i).b) (hq : ∀ y, a3 = some y → 0 < (F i).n → ∃ q, y = ⟨q, 0, none⟩ ∧ wr.heap.size ≤ q ∧ Ty w3 q 5) : CqN w (w3.setCell ⟨g, i * 8 + 7, none⟩ (.slice a3 (F i).n n3)) g cp len (i + 1) F (fun k => if k = i then a3 else A k) (fun k => if k = i then n3 else C k) := by
  have o : Off [g] w3 (w3.setCell ⟨g, i * 8 + 7, none⟩ (.slice a3 (F i).n n3)) := Off.setCell _ _ _ _
  obtain ⟨cur, hc, hz⟩ := h.blk
  have lg : g < wr.heap.size := (Array.getElem?_eq_some_iff.1 hc).1
  have hc3 := (b3.block g lg).trans hc
  have hs := h.bel.size
  have b4 : Below w.heap.size w w3 := h.bel.trans (b3.mono hs)
  have nd : ∀ y, a3 = some y → 0 < (F i).n → y.block ≠ g := fun y hy hp => by
    obtain ⟨q, rfl, h1, _⟩ := hq y hy hp
    show q ≠ g
    omega
  have ndk : ∀ k, k < len → ∀ y, A k = some y → 0 < (F k).n → y.block ≠ g := fun k hk y hy hp => by
    by_cases e : k < i
    · obtain ⟨q, rfl, _, h2, _⟩ := h.new k e hk y hy hp
      exact h2
    · have := h.old k (by omega) hk y hy hp
      omega
  refine ⟨o.below b4 (fun k hk => by simp at hk; omega) b4.size, ⟨_, heap_setCell_same _ _ _ _ _ _ hc3, by simpa using hz⟩, fun k hk => ?_, fun k hk hkl y hy hp => ?_, fun k hk hkl y hy hp => ?_, fun k j hk hj hkl hjl y z hy hz' hp hp' he => ?_⟩
  · obtain ⟨h1, h2⟩ := h.row k hk
    by_cases e : k = i
    · subst e
      simp only [if_true]
      refine ⟨fun j u hu => ?_, row8_off2 R3 o nd⟩
      have hj : j < 8 := by
        have := (List.getElem?_eq_some_iff.1 hu).1
        simpa [faL] using this
      by_cases e7 : j = 7
      · subst e7
        simp [faL] at hu
        subst hu
        exact World.cell?_setCell_same _ _ _ (cell_belowJ (h1 7 _ rfl) b3)
      · rw [World.cell?_setCell_other _ _ _ _ (by intro q; have := congrArg Addr.off q; simp at this; omega)]
        refine cell_belowJ (h1 j u ?_) b3
        have : j = 0 ∨ j = 1 ∨ j = 2 ∨ j = 3 ∨ j = 4 ∨ j = 5 ∨ j = 6 := by omega
        rcases this with rfl | rfl | rfl | rfl | rfl | rfl | rfl
        all_goals exact hu
    · simp only [e, if_false]
      refine ⟨fun j u hu => ?_, row8_off2 (h2.below b3) o (ndk k hk)⟩
      have hj : j < 8 := by
        have := (List.getElem?_eq_some_iff.1 hu).1
        simpa [faL] using this
      rw [World.cell?_setCell_other _ _ _ _ (by intro q; have := congrArg Addr.off q; simp at this; omega)]
      exact cell_belowJ (h1 j u hu) b3
  · have e : ¬ k = i := by omega
    simp only [e, if_false] at hy
    exact h.old k (by omega) hkl y hy hp
  · by_cases e : k = i
    · subst e
      simp only [if_true] at hy
      obtain ⟨q, rfl, h1, h2⟩ := hq y hy hp
      refine ⟨q, rfl, by omega, by omega, ty_set h2⟩
    · simp only [e, if_false] at hy
      obtain ⟨q, rfl, h1, h2, h3⟩ := h.new k (by omega) hkl y hy hp
      exact ⟨q, rfl, h1, h2, ty_set (ty_below h3 b3)⟩
  · have lo : ∀ k, k < i → k < len → ∀ y, A k = some y → 0 < (F k).n → y.block < wr.heap.size := fun k hk hkl y hy hp => by
      obtain ⟨q, rfl, _, _, h3⟩ := h.new k hk hkl y hy hp
      exact ty_lt h3
    by_cases e1 : k = i
    · by_cases e2 : j = i
      · omega
      · subst e1
        simp only [if_true] at hy
        simp only [e2, if_false] at hz'
        obtain ⟨q, rfl, h1, _⟩ := hq y hy hp
        have := lo j (by omega) hjl z hz' hp'
        have he' : q = z.block := he
        omega
    · by_cases e2 : j = i
      · subst e2
        simp only [e1, if_false] at hy
        simp only [if_true] at hz'
        obtain ⟨q, rfl, h1, _⟩ := hq z hz' hp'
        have := lo k (by omega) hkl y hy hp
        have he' : y.block = q := he
        omega
      · simp only [e1, if_false] at hy
        simp only [e2, if_false] at hz'
        exact h.dis k j (by omega) (by omega) hkl hjl y z hy hz' hp hp' he
set_option maxHeartbeats 4000000 in
theorem gcopiedN (a : Option Addr) (cap len : Nat) (F : Nat → Fa) (w w0 : World) (bb : Below w0.heap.size w0 w) (h0 : 0 < len) (hlen : len * 72 ≤ 140737488351232) (hF0 : FRow w0 a len F) (hO : ∀ i, i < len → (F i).n ≤ 140737488355328) : Calls Try.prog 12 #[.slice a len cap] w fun r w' => ∃ g c, r = .returned (.slice (some ⟨g, 0, none⟩) len c) ∧ Hid (w.heap.size ≤ g ∧ ∃ A C, CqN w w' g c len len F A C) := by
  obtain ⟨q, off, A, C, rfl, hA0⟩ := hF0.at_ h0
  have HR0 : Hid (∀ i, i < len → ∀ y, A i = some y → 0 < (F i).n → y.block < w.heap.size) := fun i hi y hy hn => by
    have h1 := (hA0 i hi).2.src y hy 0 hn
    have hlt := World.block_lt_of_cell? w0 _ h1
    have hb : (y.add 0).block = y.block := by unfold Addr.add; split <;> rfl
    have := bb.size
    omega
  have hA : ∀ i, i < len → (∀ j u, (faL (F i) (A i) (C i))[j]? = some u → w.cell? ⟨q, off + i * 8 + j, none⟩ = some u) ∧ Row8 w (A i) (F i).n (C i) (F i).b := fun i hi => ⟨fun j u hu => cell_belowJ ((hA0 i hi).1 j u hu) bb, (hA0 i hi).2.below bb⟩
  clear hA0 hF0 bb
  obtain ⟨i0, hI, hz0, hz1, hz2⟩ := info_parts info_fact
  have hbF := build0F
  have bA : Below w.heap.size w (w.alloc (.cells #[] 43)) := (Below.refl _ _).alloc (Nat.le_refl _) _
  have hszA := bA.size
  have O0 := own0F w F A C
  have hnews := flF_cells (W := w.alloc (.cells #[] 43)) (F := F) (A := A) (C := C) (fun i hi j u hu => cell_belowJ ((hA i hi).1 j u hu) bA)
  have hl := flF_len len F A C
  have ho := flF_one len F A C
  go_enter Try.func12, Try.ntmps12
  go_wp2_with (at_builtin; refine wpList_append_own_at _ rfl _ _ 26 rfl w.heap.size 43 i0 (.agg #[.int .i64 0, .int .i64 0, .int .i64 0, .int .u32 0, .int .u32 0, .bool false, .int .i64 0, .slice none 0 0]) 8 72 Try.underlying26 hI hz0 hz1 hz2 rfl (by decide) (.slice (some ⟨w.heap.size, 0, none⟩) 0 0) 0 (flF 0 F A C) rfl O0 ⟨q, off, none⟩ len cap (flF len F A C) rfl hl hnews ho (by unfold maxLen; omega) (by omega) hszA ?_)
  intro v2 w2 O2 G2 _ _
  have b2 : Below w.heap.size w w2 := bA.grown G2 hszA (fun k hk => (O0.lt k hk).1)
  replace O2 : w2.ownsRow w.heap.size 43 8 v2 len (flF len F A C) := O2
  obtain ⟨g, cp, cur, rfl, hg, hgg, h1, h2, h3, h4⟩ := O2.2.resolve_left (fun x => by have := x.2; omega)
  have HQ : Hid (w.heap.size ≤ g ∧ CqN w w2 g cp len 0 F A C) := ⟨hg, CqN.made b2 hgg h3 h4 (fun i hi => (hA i hi).2) HR0.out⟩
  clear O2 G2 b2 O0 hnews hl ho bA hszA hA HR0 hgg h1 h2 h3 h4
  go_wp2_with fail
  go_loopw [4, 10, 11, 12, 13, 14, 15, 16, 17, 18, 19, 20, 21, 22, 23, 24] (fun _ c _ _ _ _ _ _ _ _ _ _ _ _ _ _ wr => ∃ (i : Nat) (A : Nat → Option Addr) (C : Nat → Nat), i ≤ len ∧ c = .int .i64 ((i : Nat) : Int) ∧ Hid (w.heap.size ≤ g ∧ CqN w wr g cp len i F A C)) (fun _ c _ _ _ _ _ _ _ _ _ _ _ _ _ _ _ => len - natG c)
  case atStart => exact ⟨0, A, C, by omega, rfl, HQ⟩
  case round =>
    clear HQ A C
    obtain ⟨i, A, C, hi, rfl, HI⟩ := hrel
    by_cases hlt : i < len
    · have hlt' : ((i : Nat) : Int) < ((len : Nat) : Int) := by omega
      obtain ⟨j0, hJ, hy0, hy1, hy2⟩ := info_parts info_u8
      have hbG := build0G
      obtain ⟨cur2, hc2, _⟩ := HI.out.2.blk
      have hgl : g < wr.heap.size := (Array.getElem?_eq_some_iff.1 hc2).1
      obtain ⟨k1, k2⟩ := HI.out.2.row i hlt
      obtain ⟨da, hda⟩ : ∃ x, A i = x := ⟨_, rfl⟩
      obtain ⟨dc, hdc⟩ : ∃ x, C i = x := ⟨_, rfl⟩
      rw [hda, hdc] at k1 k2
      clear hda hdc
      have bw : Below wr.heap.size wr (wr.alloc (.cells #[] 5)) := (Below.refl _ _).alloc (Nat.le_refl _) _
      have hsw := bw.size
      have c7 := cell_belowJ (k1 7 _ rfl) bw
      have R0 := k2.below bw
      have hby := k2.byte
      have hn := hO i hlt
      have O1 : (wr.alloc (.cells #[] 5)).ownsRow wr.heap.size 5 1 (.slice (some ⟨wr.heap.size, 0, none⟩) 0 0) 0 (CB (F i).b 0) := World.ownsRow_made wr #[] 0 (Nat.le_refl _) (Nat.zero_le _) rfl
      have HK : Hid (_) := k1
      clear k1
      go_wp2_with (at_builtin; refine wpList_append_row8 rfl (.tmp 15) (.tmp 20) 41 rfl wr.heap.size 5 j0 (.int .u8 0) Try.underlying41 hJ hy0 hy1 hy2 rfl _ 0 _ rfl O1 da (F i).n dc (F i).b rfl R0 (by unfold maxLen; omega) (by omega) hsw ?_)
      intro v3 w3 O3 G3
      have b3 : Below wr.heap.size wr w3 := bw.grown G3 hsw (fun k hk => (O1.lt k hk).1)
      replace O3 : w3.ownsRow wr.heap.size 5 1 v3 (F i).n (CB (F i).b (F i).n) := by simpa [CB] using O3
      obtain ⟨a3, n3, rfl, R3⟩ := own_row8 O3 hby
      have hwr : w.heap.size ≤ wr.heap.size := HI.out.2.bel.size
      have hd : ∀ y, a3 = some y → 0 < (F i).n → ∃ q, y = ⟨q, 0, none⟩ ∧ wr.heap.size ≤ q ∧ Ty w3 q 5 := fun y hy hp => by
        rcases O3.2 with ⟨_, hx⟩ | ⟨g', cap', cur', e', hg', hgg', _⟩
        · omega
        · simp only [Value.slice.injEq] at e'
          rw [e'.1] at hy
          cases hy
          exact ⟨g', rfl, hg', cur', hgg'⟩
      have HS : Hid (w.heap.size ≤ g ∧ CqN w (w3.setCell ⟨g, i * 8 + 7, none⟩ (.slice a3 (F i).n n3)) g cp len (i + 1) F (fun k => if k = i then a3 else A k) (fun k => if k = i then n3 else C k)) := ⟨hg, HI.out.2.set hg hlt b3 R3 hd⟩
      have c73 := cell_belowJ (HK.out 7 _ rfl) b3
      have fz : w3.frozen? ⟨g, i * 8 + 7, none⟩ = false := frozen_of_row w3 g _ _ _ ((b3.block g hgl).trans hc2)
      clear O3 G3 R3 hd O1 R0 bw b3 HK HI hwr
      go_wp2_with fail
      refine ⟨⟨i + 1, _, _, by omega, by simp, HS⟩, ?_⟩
      have e1 : natG (.int .i64 ((i : Nat) : Int)) = i := by simp [natG]
      have e2 : natG (.int .i64 (((i : Nat) : Int) + 1)) = i + 1 := by simp [natG]
      rw [e1, e2]
      omega
    · obtain rfl : i = len := by omega
      have hlt' : ¬ ((i : Nat) : Int) < ((i : Nat) : Int) := by omega
      go_wp2_with fail
      go_ret
      first | exact ⟨g, cp, rfl, HI.out.1, A, C, HI.out.2⟩ | exact ⟨g, HI.out.1, A, C, HI.out.2⟩ | exact ⟨HI.out.1, A, C, HI.out.2⟩ | exact ⟨g, rfl, HI.out.1, A, C, HI.out.2⟩ | fail
end Go.Proofs.Ythlgahkoignnkaa
namespace Go.Proofs.Ythlgahkoignnkaa
open Go.RowKit Go.Maps Go.Sort
set_option maxRecDepth 100000
theorem PRow.one {w : World} {g : Nat} {p : Pg} (h : w.heap[g]? = some (.cells (pgL p).toArray 70 (0, 0))) : PRow w (some ⟨g, 0, none⟩) 1 (fun _ => p) := fun i hi => by
  obtain rfl : i = 0 := by omega
  exact ⟨g, 0, rfl, cell_of_row w g 0 _ _ _ h, cell_of_row w g 1 _ _ _ h, cell_of_row w g 2 _ _ _ h, cell_of_row w g 3 _ _ _ h, cell_of_row w g 4 _ _ _ h⟩
set_option maxHeartbeats 2000000 in
theorem glone (w : World) : Calls Try.prog 17 #[] w fun r w' => ∃ a0 a1, r = .returned (.agg #[.slice a0 1 1, .slice a1 1 1, .int .u32 50]) ∧ Hid (PRow w' a0 1 (fun _ => pgS) ∧ PRow w' a1 1 (fun _ => pgS) ∧ Below w.heap.size w w') := by
  have hS := fun wx => gsmall wx
  have b1 : Below w.heap.size w (w.alloc (.cells #[.slice none 0 0, .slice none 0 0, .int .u32 0] 25)) := belowG (Below.refl _ _) _
  have hk := heap_alloc_new w (.cells #[.slice none 0 0, .slice none 0 0, .int .u32 0] 25)
  go_enter Try.func17, Try.ntmps17
  go_wp2_with fail
  refine (hS _).mono ?_
  rintro r w3 ⟨rfl, b3⟩
  have k3 := (b3.block w.heap.size (by simp)).trans hk
  have b5 : Below w3.heap.size w3 (((w3.alloc (.cells #[.int .u32 7, .int .i64 2, .int .i64 1, .int .i64 10, .int .u32 9] 70)).alloc (.cells #[.int .u32 7, .int .i64 2, .int .i64 1, .int .i64 10, .int .u32 9] 70)).alloc (.cells #[.int .u32 7, .int .i64 2, .int .i64 1, .int .i64 10, .int .u32 9] 70)) := belowG (belowG (belowG (Below.refl _ _) _) _) _
  have l3 : w.heap.size < w3.heap.size := by have := b3.size; simp at this; omega
  have k5 := (b5.block w.heap.size l3).trans k3
  have y0 := cell_of_row (((w3.alloc (.cells #[.int .u32 7, .int .i64 2, .int .i64 1, .int .i64 10, .int .u32 9] 70)).alloc (.cells #[.int .u32 7, .int .i64 2, .int .i64 1, .int .i64 10, .int .u32 9] 70)).alloc (.cells #[.int .u32 7, .int .i64 2, .int .i64 1, .int .i64 10, .int .u32 9] 70)) _ 0 _ _ _ k5
  have y1 := cell_of_row (((w3.alloc (.cells #[.int .u32 7, .int .i64 2, .int .i64 1, .int .i64 10, .int .u32 9] 70)).alloc (.cells #[.int .u32 7, .int .i64 2, .int .i64 1, .int .i64 10, .int .u32 9] 70)).alloc (.cells #[.int .u32 7, .int .i64 2, .int .i64 1, .int .i64 10, .int .u32 9] 70)) _ 1 _ _ _ k5
  have y2 := cell_of_row (((w3.alloc (.cells #[.int .u32 7, .int .i64 2, .int .i64 1, .int .i64 10, .int .u32 9] 70)).alloc (.cells #[.int .u32 7, .int .i64 2, .int .i64 1, .int .i64 10, .int .u32 9] 70)).alloc (.cells #[.int .u32 7, .int .i64 2, .int .i64 1, .int .i64 10, .int .u32 9] 70)) _ 2 _ _ _ k5
  have yz := fun k => frozen_of_row (((w3.alloc (.cells #[.int .u32 7, .int .i64 2, .int .i64 1, .int .i64 10, .int .u32 9] 70)).alloc (.cells #[.int .u32 7, .int .i64 2, .int .i64 1, .int .i64 10, .int .u32 9] 70)).alloc (.cells #[.int .u32 7, .int .i64 2, .int .i64 1, .int .i64 10, .int .u32 9] 70)) _ k _ _ k5
  have n1 := ((belowG (Below.refl _ _) (.cells #[.int .u32 7, .int .i64 2, .int .i64 1, .int .i64 10, .int .u32 9] 70)).block (w3.heap.size + 1) (by simp)).trans (by have := heap_alloc_new (w3.alloc (.cells #[.int .u32 7, .int .i64 2, .int .i64 1, .int .i64 10, .int .u32 9] 70)) (.cells #[.int .u32 7, .int .i64 2, .int .i64 1, .int .i64 10, .int .u32 9] 70); simp only [World.size_alloc] at this; exact this : ((w3.alloc (.cells #[.int .u32 7, .int .i64 2, .int .i64 1, .int .i64 10, .int .u32 9] 70)).alloc (.cells #[.int .u32 7, .int .i64 2, .int .i64 1, .int .i64 10, .int .u32 9] 70)).heap[w3.heap.size + 1]? = some (.cells (pgL pgS).toArray 70 (0, 0)))
  have n2 : (((w3.alloc (.cells #[.int .u32 7, .int .i64 2, .int .i64 1, .int .i64 10, .int .u32 9] 70)).alloc (.cells #[.int .u32 7, .int .i64 2, .int .i64 1, .int .i64 10, .int .u32 9] 70)).alloc (.cells #[.int .u32 7, .int .i64 2, .int .i64 1, .int .i64 10, .int .u32 9] 70)).heap[w3.heap.size + 1 + 1]? = some (.cells (pgL pgS).toArray 70 (0, 0)) := by
    have := heap_alloc_new ((w3.alloc (.cells #[.int .u32 7, .int .i64 2, .int .i64 1, .int .i64 10, .int .u32 9] 70)).alloc (.cells #[.int .u32 7, .int .i64 2, .int .i64 1, .int .i64 10, .int .u32 9] 70)) (.cells #[.int .u32 7, .int .i64 2, .int .i64 1, .int .i64 10, .int .u32 9] 70)
    simp only [World.size_alloc] at this
    exact this
  have HN : Hid (_) := And.intro n1 (And.intro n2 (And.intro b3 (And.intro b5 l3)))
  have HB1 : Hid (_) := b1
  clear n1 n2 b3 b5 k3 k5 hk b1
  go_wp2_with fail
  refine bodyPost_ret (v := .agg #[.slice (some ⟨w3.heap.size + 1, 0, none⟩) 1 1, .slice (some ⟨w3.heap.size + 1 + 1, 0, none⟩) 1 1, .int .u32 50]) (by simp [results, Try.results17, go_sem, y0, y1, y2]) rfl ?_
  obtain ⟨n1, n2, b3, b5, l3⟩ := HN.out
  have o : Off [w.heap.size] (((w3.alloc (.cells #[.int .u32 7, .int .i64 2, .int .i64 1, .int .i64 10, .int .u32 9] 70)).alloc (.cells #[.int .u32 7, .int .i64 2, .int .i64 1, .int .i64 10, .int .u32 9] 70)).alloc (.cells #[.int .u32 7, .int .i64 2, .int .i64 1, .int .i64 10, .int .u32 9] 70)) ((((((w3.alloc (.cells #[.int .u32 7, .int .i64 2, .int .i64 1, .int .i64 10, .int .u32 9] 70)).alloc (.cells #[.int .u32 7, .int .i64 2, .int .i64 1, .int .i64 10, .int .u32 9] 70)).alloc (.cells #[.int .u32 7, .int .i64 2, .int .i64 1, .int .i64 10, .int .u32 9] 70)).setCell ⟨w.heap.size, 0, none⟩ (.slice (some ⟨w3.heap.size + 1, 0, none⟩) 1 1)).setCell ⟨w.heap.size, 1, none⟩ (.slice (some ⟨w3.heap.size + 1 + 1, 0, none⟩) 1 1)).setCell ⟨w.heap.size, 2, none⟩ (.int .u32 50)) := ((Off.setCell _ _ _ _).trans (Off.setCell _ _ _ _)).trans (Off.setCell _ _ _ _)
  have s5 : (((w3.alloc (.cells #[.int .u32 7, .int .i64 2, .int .i64 1, .int .i64 10, .int .u32 9] 70)).alloc (.cells #[.int .u32 7, .int .i64 2, .int .i64 1, .int .i64 10, .int .u32 9] 70)).alloc (.cells #[.int .u32 7, .int .i64 2, .int .i64 1, .int .i64 10, .int .u32 9] 70)).heap.size = w3.heap.size + 3 := by simp
  have m1 := (o.block (w3.heap.size + 1) (by omega) (by simp; omega)).trans n1
  have m2 := (o.block (w3.heap.size + 1 + 1) (by omega) (by simp; omega)).trans n2
  have bw : Below w.heap.size w (((w3.alloc (.cells #[.int .u32 7, .int .i64 2, .int .i64 1, .int .i64 10, .int .u32 9] 70)).alloc (.cells #[.int .u32 7, .int .i64 2, .int .i64 1, .int .i64 10, .int .u32 9] 70)).alloc (.cells #[.int .u32 7, .int .i64 2, .int .i64 1, .int .i64 10, .int .u32 9] 70)) := (HB1.out.trans (b3.mono (by simp))).trans (b5.mono (by omega))
  exact ⟨_, _, rfl, PRow.one m1, PRow.one m2, o.below bw (fun k hk => by simp at hk; omega) bw.size⟩
end Go.Proofs.Ythlgahkoignnkaa
namespace Go.Proofs.Ythlgahkoignnkaa
open Go.RowKit Go.Maps
set_option maxRecDepth 100000
theorem gcheck (a0 : Option Addr) (l0 c0 : Nat) (P0 : Nat → Pg) (a1 : Option Addr) (l1 c1 : Nat) (P1 : Nat → Pg) (ms : Nat) (af : Option Addr) (lf cf : Nat) (F : Nat → Fa) (w : World) (h0 : PRow w a0 l0 P0) (h1 : PRow w a1 l1 P1) (k : Nat) (hk : min l0 l1 = k) (hk1 : k ≤ 1000) (hF : FRow w af lf F) (hO : ∀ i, i < lf → (F i).Ok) (hlf : lf ≤ 100000) :
    Calls Try.prog 15 #[.agg #[.slice a0 l0 c0, .slice a1 l1 c1, .int .u32 (ms : Nat)], .slice af lf cf] w fun r w' => r = .returned (.agg #[.int .i64 (sees (ju0 k (fun i => (P0 i).t) (fun i => (P1 i).t)) F lf).r, .int .i64 (sees (ju0 k (fun i => (P0 i).t) (fun i => (P1 i).t)) F lf).a]) ∧ Below w.heap.size w w' :=
  gcheck_core a0 l0 c0 a1 l1 c1 ms af lf cf F w (ju0 k (fun i => (P0 i).t) (fun i => (P1 i).t)) rfl (fun wx b => gnew a0 l0 c0 P0 a1 l1 c1 P1 ms wx (h0.below b) (h1.below b) k hk hk1) hF hO hlf
end Go.Proofs.Ythlgahkoignnkaa
namespace Go.Proofs.Ythlgahkoignnkaa
open Go.RowKit Go.Maps
set_option maxRecDepth 100000
def awF : Nat → Fa
  | 0 => ⟨3, 0, 2, 1, 0, false, 0, 0, fun _ => 0⟩
  | 1 => ⟨1, 0, 1, 1, 1, false, 0, 1, fun _ => 5⟩
  | 2 => ⟨2, 0, 2, 1, 1, false, 0, 1, fun _ => 5⟩
  | _ => ⟨8, 0, 2, 0, 0, true, 0, 1, fun _ => 5⟩
def awG (i : Nat) : Fa := awF (i + 2)
def awJ : Ju := ju0 1 (fun _ => 10) (fun _ => 10)
theorem aw_bad : (sees awJ awG 2).r = 2 ∧ (sees awJ awG 2).a = 0 := by
  have h1 : awJ.rule (awG 0) = 2 := by
    simp [awJ, awG, awF, Ju.rule, Ju.bad, Ju.rul, Ju.tak, takR, ju0, coN, enN, isK, isS]
  have h2 : sees awJ awG 1 = { awJ with r := 2, a := 0 } := by
    unfold sees sees Ju.see
    rw [h1]
    simp [awJ, ju0]
  unfold sees
  rw [h2]
  unfold Ju.see
  simp
theorem aw_good : (sees awJ awF 4).r = 0 ∧ (sees awJ awF 4).a = 0 := by
  have hb : (BA (fun _ => 5) 1).toList.isEmpty = false := by kernel_rfl
  have h1 : awJ.see (awF 0) = { awJ with cs := [{ coN 10 10 with s := 1 }], S := fun t n x => False, n := 1 } := by
    simp [awJ, awF, Ju.see, Ju.rule, Ju.bad, Ju.rul, Ju.lrn, ju0, coN, enN, isK, isS]
  have h2 : ({ awJ with cs := [{ coN 10 10 with s := 1 }], S := fun t n x => False, n := 1 } : Ju).see (awF 1) = { awJ with cs := [{ coN 10 10 with s := 1 }], S := fun t n x => t = ⟨0, 1, 1⟩ ∧ n = 1 ∧ x = BA (fun _ => 5) 1, n := 2 } := by
    simp [awJ, awF, Ju.see, Ju.rule, Ju.bad, Ju.rul, Ju.lrn, ju0, coN, enN, isK, isS, Fa.x]
  have h3 : ({ awJ with cs := [{ coN 10 10 with s := 1 }], S := fun t n x => t = ⟨0, 1, 1⟩ ∧ n = 1 ∧ x = BA (fun _ => 5) 1, n := 2 } : Ju).see (awF 2) = { awJ with cs := [{ coN 10 10 with d := { enN 10 with took := true, ls := 1, ln := 1, v := BA (fun _ => 5) 1 }, s := 1 }], S := fun t n x => t = ⟨0, 1, 1⟩ ∧ n = 1 ∧ x = BA (fun _ => 5) 1, n := 3 } := by
    simp [awJ, awF, Ju.see, Ju.rule, Ju.bad, Ju.rul, Ju.lrn, ju0, coN, enN, isK, isS, Fa.x, Ju.tak, takR, Co.at_, Co.put, En.tak, oth, abv]
  have h4 : ({ awJ with cs := [{ coN 10 10 with d := { enN 10 with took := true, ls := 1, ln := 1, v := BA (fun _ => 5) 1 }, s := 1 }], S := fun t n x => t = ⟨0, 1, 1⟩ ∧ n = 1 ∧ x = BA (fun _ => 5) 1, n := 3 } : Ju).rule (awF 3) = 0 := by
    simp [awF, Ju.rule, Ju.bad, Ju.rul, coN, enN, isK, isS, Fa.x, Co.out, outR, Co.may, Co.at_, En.ovr, hb]
  have e : sees awJ awF 3 = { awJ with cs := [{ coN 10 10 with d := { enN 10 with took := true, ls := 1, ln := 1, v := BA (fun _ => 5) 1 }, s := 1 }], S := fun t n x => t = ⟨0, 1, 1⟩ ∧ n = 1 ∧ x = BA (fun _ => 5) 1, n := 3 } := by
    rw [← h3, ← h2, ← h1]
    rfl
  have hr : (sees awJ awF 4).r = 0 := by
    rw [sees, e, Ju.see, h4]
    simp [awJ, ju0, Ju.lrn, awF]
  exact ⟨hr, (sees_good rfl rfl awF 4 hr).1⟩
end Go.Proofs.Ythlgahkoignnkaa
namespace Go.Proofs.Ythlgahkoignnkaa
open Go.RowKit Go.Maps Go.Sort
set_option maxRecDepth 100000
theorem awF_ok : ∀ i, (awF i).Ok
  | 0 => ⟨rfl, rfl, by decide, by decide, by decide⟩
  | 1 => ⟨rfl, rfl, by decide, by decide, by decide⟩
  | 2 => ⟨rfl, rfl, by decide, by decide, by decide⟩
  | _ + 3 => ⟨rfl, rfl, by show 0 < 4294967296; omega, by show 0 < 4294967296; omega, by show 1 ≤ 140737488351232; omega⟩
theorem aw_row {W : World} {g p : Nat} {cur : Array Value} (hg : W.heap[g]? = some (.cells cur 43 (0, 0))) (hp : W.heap[p]? = some (.cells #[.int .u8 5] 5 (0, 0))) (hc : cur = #[.int .i64 3, .int .i64 0, .int .i64 2, .int .u32 1, .int .u32 0, .bool false, .int .i64 0, .slice none 0 0, .int .i64 1, .int .i64 0, .int .i64 1, .int .u32 1, .int .u32 1, .bool false, .int .i64 0, .slice (some ⟨p, 0, none⟩) 1 1, .int .i64 2, .int .i64 0, .int .i64 2, .int .u32 1, .int .u32 1, .bool false, .int .i64 0, .slice (some ⟨p, 0, none⟩) 1 1, .int .i64 8, .int .i64 0, .int .i64 2, .int .u32 0, .int .u32 0, .bool true, .int .i64 0, .slice (some ⟨p, 0, none⟩) 1 1]) : FRow W (some ⟨g, 0, none⟩) 4 awF ∧ FRow W (some ⟨g, 16, none⟩) 2 awG := by
  subst hc
  have cl := fun j => cell_of_row W g j _ _ _ hg
  have R1 : Row8 W (some ⟨p, 0, none⟩) 1 1 (fun _ => 5) := by
    refine ⟨fun _ _ => by omega, (fun h => by cases h), fun x hx i hi => ?_, Nat.le_refl _⟩
    cases hx
    obtain rfl : i = 0 := by omega
    exact cell_of_row W p 0 _ _ _ hp
  have R0 : Row8 W none 0 0 (fun _ => 0) := ⟨fun _ h => by omega, fun _ => ⟨rfl, rfl⟩, (fun x hx => by cases hx), Nat.le_refl _⟩
  constructor
  · intro i hi
    have : i = 0 ∨ i = 1 ∨ i = 2 ∨ i = 3 := by omega
    rcases this with rfl | rfl | rfl | rfl
    · exact ⟨g, 0, none, 0, rfl, cl 0, cl 1, cl 2, cl 3, cl 4, cl 5, cl 6, cl 7, R0⟩
    · exact ⟨g, 0, some ⟨p, 0, none⟩, 1, rfl, cl 8, cl 9, cl 10, cl 11, cl 12, cl 13, cl 14, cl 15, R1⟩
    · exact ⟨g, 0, some ⟨p, 0, none⟩, 1, rfl, cl 16, cl 17, cl 18, cl 19, cl 20, cl 21, cl 22, cl 23, R1⟩
    · exact ⟨g, 0, some ⟨p, 0, none⟩, 1, rfl, cl 24, cl 25, cl 26, cl 27, cl 28, cl 29, cl 30, cl 31, R1⟩
  · intro i hi
    have : i = 0 ∨ i = 1 := by omega
    rcases this with rfl | rfl
    · exact ⟨g, 16, some ⟨p, 0, none⟩, 1, rfl, cl 16, cl 17, cl 18, cl 19, cl 20, cl 21, cl 22, cl 23, R1⟩
    · exact ⟨g, 16, some ⟨p, 0, none⟩, 1, rfl, cl 24, cl 25, cl 26, cl 27, cl 28, cl 29, cl 30, cl 31, R1⟩
set_option maxHeartbeats 4000000 in
theorem awake18 (w : World) : Calls Try.prog 7 #[] w fun r w' => r = .returned (.bool true) ∧ Below w.heap.size w w' := by
  have hL := fun wx => glone wx
  go_enter Try.func7, Try.ntmps7
  go_wp2_with fail
  refine (hL _).mono ?_
  rintro r w1 ⟨a0, a1, rfl, h1⟩
  go_wp2_with fail
  obtain ⟨W, hW⟩ : ∃ W : World, (((w1.alloc (.cells #[.slice a0 1 1, .slice a1 1 1, .int .u32 50] 25)).alloc (.cells #[.int .u8 5] 5)).alloc (.cells #[.int .i64 3, .int .i64 0, .int .i64 2, .int .u32 1, .int .u32 0, .bool false, .int .i64 0, .slice none 0 0, .int .i64 1, .int .i64 0, .int .i64 1, .int .u32 1, .int .u32 1, .bool false, .int .i64 0, .slice (some ⟨w1.heap.size + 1, 0, none⟩) 1 1, .int .i64 2, .int .i64 0, .int .i64 2, .int .u32 1, .int .u32 1, .bool false, .int .i64 0, .slice (some ⟨w1.heap.size + 1, 0, none⟩) 1 1, .int .i64 8, .int .i64 0, .int .i64 2, .int .u32 0, .int .u32 0, .bool true, .int .i64 0, .slice (some ⟨w1.heap.size + 1, 0, none⟩) 1 1] 43)) = W := ⟨_, rfl⟩
  rw [hW]
  have z0 := heap_alloc_new w1 (.cells #[.slice a0 1 1, .slice a1 1 1, .int .u32 50] 25)
  have z1 := heap_alloc_new (w1.alloc (.cells #[.slice a0 1 1, .slice a1 1 1, .int .u32 50] 25)) (.cells #[.int .u8 5] 5)
  have z2 := heap_alloc_new ((w1.alloc (.cells #[.slice a0 1 1, .slice a1 1 1, .int .u32 50] 25)).alloc (.cells #[.int .u8 5] 5)) (.cells #[.int .i64 3, .int .i64 0, .int .i64 2, .int .u32 1, .int .u32 0, .bool false, .int .i64 0, .slice none 0 0, .int .i64 1, .int .i64 0, .int .i64 1, .int .u32 1, .int .u32 1, .bool false, .int .i64 0, .slice (some ⟨w1.heap.size + 1, 0, none⟩) 1 1, .int .i64 2, .int .i64 0, .int .i64 2, .int .u32 1, .int .u32 1, .bool false, .int .i64 0, .slice (some ⟨w1.heap.size + 1, 0, none⟩) 1 1, .int .i64 8, .int .i64 0, .int .i64 2, .int .u32 0, .int .u32 0, .bool true, .int .i64 0, .slice (some ⟨w1.heap.size + 1, 0, none⟩) 1 1] 43)
  simp only [World.size_alloc] at z1 z2
  have b1 : Below w1.heap.size w1 W := by
    rw [← hW]
    exact belowG (belowG (belowG (Below.refl _ _) _) _) _
  have e0 : W.heap[w1.heap.size]? = some (.cells #[.slice a0 1 1, .slice a1 1 1, .int .u32 50] 25 (0, 0)) := by
    rw [← hW]
    exact ((belowG (belowG (Below.refl _ _) _) _).block _ (by simp)).trans z0
  have e1 : W.heap[w1.heap.size + 1]? = some (.cells #[.int .u8 5] 5 (0, 0)) := by
    rw [← hW]
    exact ((belowG (Below.refl _ _) _).block _ (by simp)).trans z1
  have e2 : W.heap[w1.heap.size + 1 + 1]? = some (.cells #[.int .i64 3, .int .i64 0, .int .i64 2, .int .u32 1, .int .u32 0, .bool false, .int .i64 0, .slice none 0 0, .int .i64 1, .int .i64 0, .int .i64 1, .int .u32 1, .int .u32 1, .bool false, .int .i64 0, .slice (some ⟨w1.heap.size + 1, 0, none⟩) 1 1, .int .i64 2, .int .i64 0, .int .i64 2, .int .u32 1, .int .u32 1, .bool false, .int .i64 0, .slice (some ⟨w1.heap.size + 1, 0, none⟩) 1 1, .int .i64 8, .int .i64 0, .int .i64 2, .int .u32 0, .int .u32 0, .bool true, .int .i64 0, .slice (some ⟨w1.heap.size + 1, 0, none⟩) 1 1] 43 (0, 0)) := by
    rw [← hW]
    exact z2
  obtain ⟨f1, f2⟩ := aw_row e2 e1 rfl
  obtain ⟨p0, p1, bw⟩ := h1.out
  have q0 := p0.below b1
  have q1 := p1.below b1
  have hC1 : ∀ wx, Below W.heap.size W wx → Calls Try.prog 15 #[.agg #[.slice a0 1 1, .slice a1 1 1, .int .u32 (50 : Nat)], .slice (some ⟨w1.heap.size + 1 + 1, 0, none⟩) 4 4] wx fun r w' => ∃ x, r = .returned x ∧ (x = .agg #[.int .i64 0, .int .i64 0] ∧ Below W.heap.size W w') := fun wx bx =>
    (gcheck a0 1 1 (fun _ => pgS) a1 1 1 (fun _ => pgS) 50 _ 4 4 awF wx (q0.below bx) (q1.below bx) 1 rfl (by omega) (f1.below bx) (fun i _ => awF_ok i) (by omega)).mono fun _ _ ⟨e, b⟩ => ⟨_, e, (by show Value.agg #[.int .i64 (sees awJ awF 4).r, .int .i64 (sees awJ awF 4).a] = _; rw [aw_good.1, aw_good.2]), bx.trans (b.mono bx.size)⟩
  have hC2 : ∀ wx, Below W.heap.size W wx → Calls Try.prog 15 #[.agg #[.slice a0 1 1, .slice a1 1 1, .int .u32 (50 : Nat)], .slice (some ⟨w1.heap.size + 1 + 1, 16, none⟩) 2 2] wx fun r w' => ∃ x, r = .returned x ∧ (x = .agg #[.int .i64 2, .int .i64 0] ∧ Below W.heap.size W w') := fun wx bx =>
    (gcheck a0 1 1 (fun _ => pgS) a1 1 1 (fun _ => pgS) 50 _ 2 2 awG wx (q0.below bx) (q1.below bx) 1 rfl (by omega) (f2.below bx) (fun i _ => awF_ok (i + 2)) (by omega)).mono fun _ _ ⟨e, b⟩ => ⟨_, e, (by show Value.agg #[.int .i64 (sees awJ awG 2).r, .int .i64 (sees awJ awG 2).a] = _; rw [aw_bad.1, aw_bad.2]), bx.trans (b.mono bx.size)⟩
  have hx : ∀ wx, Below W.heap.size W wx → wx.cell? ⟨w1.heap.size, 0, none⟩ = some (.slice a0 1 1) ∧ wx.cell? ⟨w1.heap.size, 1, none⟩ = some (.slice a1 1 1) ∧ wx.cell? ⟨w1.heap.size, 2, none⟩ = some (.int .u32 50) := fun wx bx => ⟨cell_belowJ (cell_of_row W _ 0 _ _ _ e0) bx, cell_belowJ (cell_of_row W _ 1 _ _ _ e0) bx, cell_belowJ (cell_of_row W _ 2 _ _ _ e0) bx⟩
  obtain ⟨x0, x1, x2⟩ := hx W (Below.refl _ _)
  have HB : Hid (_) := bw.trans (b1.mono bw.size)
  clear f1 f2 p0 p1 q0 q1 e0 e1 e2 hW h1 b1 bw hL z0 z1 z2
  go_region_law (first
    | (refine step_callN 15 #[.tmp 14, .tmp 15] #[25, 26] rfl (by kernel_rfl) #[.agg #[.slice a0 1 1, .slice a1 1 1, .int .u32 50], .slice (some ⟨w1.heap.size + 1 + 1, 0, none⟩) 4 4] (by kernel_rfl) (hC1 _ (by repeat (first | with_reducible assumption | with_reducible exact Below.refl _ _ | with_reducible refine belowN ?_ _ | with_reducible refine Below.drew ?_ | with_reducible refine belowG ?_ _))) ?_; rintro x w4 ⟨rfl, b4⟩; obtain ⟨y0, y1, y2⟩ := hx _ b4)
    | (refine step_callN 15 #[.tmp 20, .tmp 22] #[25, 26] rfl (by kernel_rfl) #[.agg #[.slice a0 1 1, .slice a1 1 1, .int .u32 50], .slice (some ⟨w1.heap.size + 1 + 1, 16, none⟩) 2 2] (by kernel_rfl) (hC2 _ (by repeat (first | with_reducible assumption | with_reducible exact Below.refl _ _ | with_reducible refine belowN ?_ _ | with_reducible refine Below.drew ?_ | with_reducible refine belowG ?_ _))) ?_; rintro x w5 ⟨rfl, b5⟩))
  all_goals
    have b6 := HB.out.trans (b5.mono HB.out.size)
    clear hC1 hC2 hx
    go_wp2_with fail
    go_ret
    first
    | exact ⟨rfl, (by repeat (first | with_reducible assumption | with_reducible exact Below.refl _ _ | with_reducible refine belowN ?_ _ | with_reducible refine Below.drew ?_ | with_reducible refine belowG ?_ _))⟩
    | exact (by repeat (first | with_reducible assumption | with_reducible exact Below.refl _ _ | with_reducible refine belowN ?_ _ | with_reducible refine Below.drew ?_ | with_reducible refine belowG ?_ _))
    | trace_state
end Go.Proofs.Ythlgahkoignnkaa
