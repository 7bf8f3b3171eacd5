/- Part 21 of the texts on which the proof rests: contracts of Go functions. -/
import Derived.Test.YthlgahkoignnkaaPkG18
import Derived.Test.YthlgahkoignnkaaPkG19
namespace Go.Proofs.Ythlgahkoignnkaa
open Go.RowKit Go.Maps Go.Sort
set_option maxRecDepth 100000
structure RC where
  h : Ex
  d : Ex
  s : Nat
def RC.at_ (c : RC) (s : Int) : Ex := if s = 1 then c.h else c.d
def RC.put (c : RC) (s : Int) (x : Ex) : RC := if s = 1 then { c with h := x } else { c with d := x }
def RC.co (c : RC) : Co := ⟨c.h.e, c.d.e, c.s⟩
def xP (s : Int) : Nat := if s = 1 then 0 else 11
theorem ty_ne {w : World} {k k' : Nat} {t t' : TypeId} (h : Ty w k t) (h' : Ty w k' t') (hn : t ≠ t') : k ≠ k' := by
  rintro rfl
  obtain ⟨c, e⟩ := h
  obtain ⟨c', e'⟩ := h'
  rw [e] at e'
  simp at e'
  exact hn e'.2
theorem ty_off {l : List Nat} {w w' : World} {k : Nat} {t : TypeId} (h : Ty w k t) (o : Off l w w') (hk : k ∉ l) : Ty w' k t := by
  obtain ⟨cs, hc⟩ := h
  exact ⟨cs, (o.block k (Array.getElem?_eq_some_iff.1 hc).1 hk).trans hc⟩
theorem ty_set {w : World} {k g i : Nat} {t : TypeId} {v : Value} (h : Ty w k t) : Ty (w.setCell ⟨g, i, none⟩ v) k t := by
  obtain ⟨cs, hc⟩ := h
  by_cases e : k = g
  · subst e
    exact ⟨_, heap_setCell_same _ _ _ _ _ _ hc⟩
  · have o : Off [g] w (w.setCell ⟨g, i, none⟩ v) := Off.setCell _ _ _ _
    exact ⟨cs, (o.block k (Array.getElem?_eq_some_iff.1 hc).1 (by simpa using e)).trans hc⟩
structure RJ (w : World) (p ge ec gs sc k : Nat) (b : Nat → Nat) (c : Nat → RC) (sa : Option Addr) (m sx : Nat) (F : Nat → Fa) (A : Nat → Option Addr) (C : Nat → Nat) (Bs n : Nat) (r a : Int) : Prop where
  blk : w.heap[p]? = some (.cells #[csV k ge ec, csV k gs sc, .slice sa m sx, .int .i64 ((n : Nat) : Int), .int .i64 r, .int .i64 a] 48 (0, 0))
  out : ∀ i, i < k → w.cell? ⟨ge, i, none⟩ = some (.slice (some ⟨b i, 0, none⟩) 2 2)
  tge : 0 < k → Ty w ge 73
  eh : ∀ i, i < k → ExW w (b i) 0 (c i).h
  ed : ∀ i, i < k → ExW w (b i) 11 (c i).d
  nb : ∀ i, i < k → b i ≠ p ∧ b i ≠ ge ∧ b i ≠ gs
  no : ∀ i, i < k → ∀ g, (Value.slice sa m sx).ownBlock = some g → b i ≠ g
  nd : ∀ i, i < k → ∀ j, j < m → ∀ y, A j = some y → 0 < (F j).n → y.block ≠ b i
  ok : ∀ i, i < k → (c i).h.Ok ∧ (c i).d.Ok
  ses : ∀ i, i < k → w.cell? ⟨gs, i, none⟩ = some (.int .u32 ((c i).s : Nat))
  tgs : 0 < k → Ty w gs 23
  inj : ∀ i j, i < k → j < k → b i = b j → i = j
  own : w.ownsRow Bs 43 8 (.slice sa m sx) m (flF m F A C)
  row : ∀ j, j < m → Row8 w (A j) (F j).n (C j) (F j).b ∧ ∀ y, A j = some y → 0 < (F j).n → Ty w y.block 5
  few : k ≤ 1000
section
variable {w w' : World} {p ge ec gs sc k : Nat} {b : Nat → Nat} {c : Nat → RC} {sa : Option Addr} {m sx : Nat} {F : Nat → Fa} {A : Nat → Option Addr} {C : Nat → Nat} {Bs n : Nat} {r a : Int}
theorem RJ.below (h : RJ w p ge ec gs sc k b c sa m sx F A C Bs n r a) (q : Below w.heap.size w w') : RJ w' p ge ec gs sc k b c sa m sx F A C Bs n r a :=
  ⟨(q.block _ (Array.getElem?_eq_some_iff.1 h.blk).1).trans h.blk, fun i hi => cell_belowJ (h.out i hi) q, fun hk => ty_below (h.tge hk) q, fun i hi => (h.eh i hi).below q, fun i hi => (h.ed i hi).below q, h.nb, h.no, h.nd, h.ok, fun i hi => cell_belowJ (h.ses i hi) q, fun hk => ty_below (h.tgs hk) q, h.inj, own_belowP h.own q, fun j hj => ⟨(h.row j hj).1.below q, fun y hy hp => ty_below ((h.row j hj).2 y hy hp) q⟩, h.few⟩
theorem RJ.typ (h : RJ w p ge ec gs sc k b c sa m sx F A C Bs n r a) : Ty w p 48 := ⟨_, h.blk⟩
theorem RJ.tow (h : RJ w p ge ec gs sc k b c sa m sx F A C Bs n r a) : ∀ g, (Value.slice sa m sx).ownBlock = some g → Ty w g 43 := fun g hg => by
  rcases h.own.2 with ⟨e, _⟩ | ⟨g', cap, cur, e, _, hgg, _⟩
  · rw [e] at hg
    cases hg
  · rw [e] at hg
    cases hg
    exact ⟨cur, hgg⟩
theorem RJ.lt (h : RJ w p ge ec gs sc k b c sa m sx F A C Bs n r a) {i : Nat} (hi : i < k) : b i < w.heap.size := (h.eh i hi).lt
theorem RJ.endT (h : RJ w p ge ec gs sc k b c sa m sx F A C Bs n r a) {i : Nat} (hi : i < k) {s : Int} {x' : Ex} (t : Tn w w' (b i) (xP s) (xP s + 11)) (hx : ExW w' (b i) (xP s) x') (hok : x'.Ok) : RJ w' p ge ec gs sc k b (fun j => if j = i then (c i).put s x' else c j) sa m sx F A C Bs n r a := by
  obtain ⟨n1, n2, n3⟩ := h.nb i hi
  have cc : ∀ g q u, g ≠ b i → w.cell? ⟨g, q, none⟩ = some u → w'.cell? ⟨g, q, none⟩ = some u := fun g q u hg hu => by
    have hl : g < w.heap.size := World.block_lt_of_cell? w _ hu
    rw [World.cell?_of_block (a := ⟨g, q, none⟩) (t.off.block g hl (by simpa using hg))]
    exact hu
  have tt : ∀ g ty, g ≠ b i → Ty w g ty → Ty w' g ty := fun g ty hg hu => ty_off hu t.off (by simpa using hg)
  have xx : ∀ j, j < k → j ≠ i → ∀ q x, ExW w (b j) q x → ExW w' (b j) q x := fun j hj hne q x hx => by
    have hb : b j ≠ b i := fun e => hne (h.inj j i hj hi e)
    have hl := hx.lt
    have he := t.off.block (b j) hl (by simpa using hb)
    have fzz : ∀ z, w'.frozen? ⟨b j, z, none⟩ = w.frozen? ⟨b j, z, none⟩ := fun z => by unfold World.frozen?; rw [he]
    obtain ⟨c0, c1, c2, c3, c4, c5, c6, c7, c8, c9, c10, fz⟩ := hx
    exact ⟨cc _ _ _ hb c0, cc _ _ _ hb c1, cc _ _ _ hb c2, cc _ _ _ hb c3, cc _ _ _ hb c4, cc _ _ _ hb c5, cc _ _ _ hb c6, cc _ _ _ hb c7, cc _ _ _ hb c8, cc _ _ _ hb c9, cc _ _ _ hb c10, fun z => (fzz z).trans (fz z)⟩
  refine ⟨(t.off.block p (Array.getElem?_eq_some_iff.1 h.blk).1 (by simpa using (Ne.symm n1))).trans h.blk, fun j hj => cc _ _ _ (Ne.symm n2) (h.out j hj), fun hk => tt _ _ (Ne.symm n2) (h.tge hk), fun j hj => ?_, fun j hj => ?_, h.nb, h.no, h.nd, fun j hj => ?_, fun j hj => ?_, fun hk => tt _ _ (Ne.symm n3) (h.tgs hk), h.inj, ?_, fun j hj => ⟨row8_off2 (h.row j hj).1 t.off (fun y hy hp => h.nd i hi j hj y hy hp), fun y hy hp => tt _ _ (h.nd i hi j hj y hy hp) ((h.row j hj).2 y hy hp)⟩, h.few⟩
  · by_cases e : j = i
    · subst e
      simp only [if_true]
      unfold RC.put
      by_cases hs : s = 1
      · rw [if_pos hs]
        unfold xP at hx
        rw [if_pos hs] at hx
        exact hx
      · rw [if_neg hs]
        unfold xP at t
        rw [if_neg hs] at t
        exact (h.eh j hj).keep t (.inl (by omega))
    · simp only [e, if_false]
      exact xx j hj e _ _ (h.eh j hj)
  · by_cases e : j = i
    · subst e
      simp only [if_true]
      unfold RC.put
      by_cases hs : s = 1
      · rw [if_pos hs]
        unfold xP at t
        rw [if_pos hs] at t
        exact (h.ed j hj).keep t (.inr (by omega))
      · rw [if_neg hs]
        unfold xP at hx
        rw [if_neg hs] at hx
        exact hx
    · simp only [e, if_false]
      exact xx j hj e _ _ (h.ed j hj)
  · by_cases e : j = i
    · subst e
      simp only [if_true]
      unfold RC.put
      split
      · exact ⟨hok, (h.ok j hj).2⟩
      · exact ⟨(h.ok j hj).1, hok⟩
    · simp only [e, if_false]
      exact h.ok j hj
  · by_cases e : j = i
    · subst e
      simp only [if_true]
      have : ((c j).put s x').s = (c j).s := by unfold RC.put; split <;> rfl
      rw [this]
      exact cc _ _ _ (Ne.symm n3) (h.ses j hj)
    · simp only [e, if_false]
      exact cc _ _ _ (Ne.symm n3) (h.ses j hj)
  · exact own_keepP h.own (fun g hg => t.off.block g (h.own.lt g hg).2 (by simpa using (Ne.symm (h.no i hi g hg))))
end
end Go.Proofs.Ythlgahkoignnkaa
namespace Go.Proofs.Ythlgahkoignnkaa
open Go.RowKit Go.Maps Go.Sort
set_option maxRecDepth 100000
def exF {α : Type} (F : Nat → α) (m : Nat) (f : α) (j : Nat) : α := if j < m then F j else f
theorem flF_snoc (F : Nat → Fa) (A : Nat → Option Addr) (C : Nat → Nat) (m : Nat) (f : Fa) (a : Option Addr) (c : Nat) : flF m F A C ++ faL f a c = flF (m + 1) (exF F m f) (exF A m a) (exF C m c) := by
  have h : flF m (exF F m f) (exF A m a) (exF C m c) = flF m F A C := flF_congr m (fun i hi => by simp [exF, hi])
  rw [flF_succ, h]
  simp [exF]
section
variable {w w' : World} {p ge ec gs sc k : Nat} {b : Nat → Nat} {c : Nat → RC} {sa : Option Addr} {m sx : Nat} {F : Nat → Fa} {A : Nat → Option Addr} {C : Nat → Nat} {Bs n : Nat} {r a : Int}
theorem csV_block {k g cp x : Nat} (h : (csV k g cp).ownBlock = some x) : 0 < k ∧ x = g := by
  unfold csV at h
  split at h
  · cases h
  · cases h
    exact ⟨by omega, rfl⟩
theorem RJ.sent (h : RJ w p ge ec gs sc k b c sa m sx F A C Bs n r a) {f : Fa} (q : Sn1 w w' p Bs sa m sx F A C f) : ∃ sa' sx' A' C', RJ w' p ge ec gs sc k b c sa' (m + 1) sx' (exF F m f) A' C' Bs n r a ∧ (∀ g, (Value.slice sa' (m + 1) sx').ownBlock = some g → (Value.slice sa m sx).ownBlock = some g ∨ w.heap.size ≤ g) ∧ (∀ j, j < m + 1 → ∀ y, A' j = some y → 0 < (exF F m f j).n → (∃ j0, j0 < m ∧ A j0 = some y ∧ 0 < (F j0).n) ∨ w.heap.size ≤ y.block) ∧ ∀ l, p ∈ l → (∀ g, (Value.slice sa m sx).ownBlock = some g → g ∈ l) → Off l w w' := by
  obtain ⟨W3, W4, sa', sx', a3, c3, b3, g4, o4, blk4, R3, hge, hty, rfl⟩ := q
  have h3 := h.below b3
  have tow := h3.tow
  have s3 := b3.size
  have nw : ∀ x ty, Ty W3 x ty → ty ≠ 43 → W4.heap[x]? = W3.heap[x]? := fun x ty hx hne => g4.block x (by obtain ⟨_, hc⟩ := hx; exact (Array.getElem?_eq_some_iff.1 hc).1) (fun e => ty_ne hx (tow x e.symm) hne rfl)
  have nwb : ∀ i, i < k → W4.heap[b i]? = W3.heap[b i]? := fun i hi => g4.block (b i) (h3.lt hi) (fun e => h.no i hi (b i) e.symm rfl)
  have kp := nw p _ h3.typ (by decide)
  have blk := kp.trans h3.blk
  have o5 : Off [p] W4 (W4.setCell ⟨p, 2, none⟩ (.slice sa' (m + 1) sx')) := Off.setCell _ _ _ _
  have tyK : ∀ x ty, Ty W3 x ty → ty ≠ 43 → Ty (W4.setCell ⟨p, 2, none⟩ (.slice sa' (m + 1) sx')) x ty := fun x ty hx hne => by
    have e := nw x ty hx hne
    obtain ⟨cs, hc⟩ := hx
    exact ty_set ⟨cs, e.trans hc⟩
  have ceK : ∀ x q u, x ≠ p → W4.heap[x]? = W3.heap[x]? → W3.cell? ⟨x, q, none⟩ = some u → (W4.setCell ⟨p, 2, none⟩ (.slice sa' (m + 1) sx')).cell? ⟨x, q, none⟩ = some u := fun x q u hx he hu => by
    rw [World.cell?_setCell_other _ _ _ _ (by intro e; have := congrArg Addr.block e; simp at this; omega), World.cell?_of_block (a := ⟨x, q, none⟩) he]
    exact hu
  have exK : ∀ i, i < k → ∀ q x, ExW W3 (b i) q x → ExW (W4.setCell ⟨p, 2, none⟩ (.slice sa' (m + 1) sx')) (b i) q x := fun i hi q x hx => by
    have hb := (h.nb i hi).1
    have he := nwb i hi
    obtain ⟨c0, c1, c2, c3, c4, c5, c6, c7, c8, c9, c10, fz⟩ := hx
    exact ⟨ceK _ _ _ hb he c0, ceK _ _ _ hb he c1, ceK _ _ _ hb he c2, ceK _ _ _ hb he c3, ceK _ _ _ hb he c4, ceK _ _ _ hb he c5, ceK _ _ _ hb he c6, ceK _ _ _ hb he c7, ceK _ _ _ hb he c8, ceK _ _ _ hb he c9, ceK _ _ _ hb he c10, fun z => by rw [World.frozen?_setCell]; have := fz z; unfold World.frozen? at this ⊢; rw [he]; exact this⟩
  have rwK : ∀ x cc (bs : Nat → Nat) nn, Row8 W3 x nn cc bs → (∀ y, x = some y → 0 < nn → Ty W3 y.block 5) → Row8 (W4.setCell ⟨p, 2, none⟩ (.slice sa' (m + 1) sx')) x nn cc bs := fun x cc bs nn hr hy => by
    refine row8_off2 (row8_grown hr g4 (fun y e hp g hg => ty_ne (hy y e hp) (tow g hg) (by decide))) o5 (fun y e hp => ty_ne (hy y e hp) h3.typ (by decide))
  rw [flF_snoc] at o4
  refine ⟨sa', sx', exF A m a3, exF C m c3, ⟨heap_setCell_same _ _ _ _ _ _ blk, fun i hi => ceK _ _ _ (fun e => ty_ne (h3.tge (by omega)) h3.typ (by decide) e) (nw ge _ (h3.tge (by omega)) (by decide)) (h3.out i hi), fun hk => tyK _ _ (h3.tge hk) (by decide), fun i hi => exK i hi _ _ (h3.eh i hi), fun i hi => exK i hi _ _ (h3.ed i hi), h.nb, fun i hi g hg => ?_, fun i hi j hj y hy hp => ?_, h.ok, fun i hi => ceK _ _ _ (fun e => ty_ne (h3.tgs (by omega)) h3.typ (by decide) e) (nw gs _ (h3.tgs (by omega)) (by decide)) (h3.ses i hi), fun hk => tyK _ _ (h3.tgs hk) (by decide), h.inj, own_keepP o4 (fun g hg => o5.block g (o4.lt g hg).2 ?_), fun j hj => ?_, h.few⟩, fun g hg => ?_, fun j hj y hy hp => ?_, fun l hp hg => ?_⟩
  · have hl := h.lt hi
    rcases blk4 with e | e
    · rw [e] at hg
      exact h.no i hi g hg
    · rw [e] at hg
      cases hg
      omega
  · have hl := h.lt hi
    by_cases e : j < m
    · simp only [exF, e, if_true] at hy hp
      exact h.nd i hi j e y hy hp
    · simp only [exF, e, if_false] at hy hp
      have := hge y hy hp
      omega
  · have hlp : p < w.heap.size := (Array.getElem?_eq_some_iff.1 h.blk).1
    have hn : g ≠ p := by
      rcases blk4 with e | e
      · rw [e] at hg
        exact ty_ne (tow g hg) h3.typ (by decide)
      · rw [e] at hg
        cases hg
        omega
    simpa using hn
  · by_cases e : j < m
    · simp only [exF, e, if_true]
      exact ⟨rwK _ _ _ _ (h3.row j e).1 (h3.row j e).2, fun y hy hp => tyK _ _ ((h3.row j e).2 y hy hp) (by decide)⟩
    · simp only [exF, e, if_false]
      exact ⟨rwK _ _ _ _ R3 hty, fun y hy hp => tyK _ _ (hty y hy hp) (by decide)⟩
  · rcases blk4 with e | e
    · rw [e] at hg
      exact .inl hg
    · rw [e] at hg
      cases hg
      exact .inr s3
  · by_cases e : j < m
    · simp only [exF, e, if_true] at hy hp
      exact .inl ⟨j, e, hy, hp⟩
    · simp only [exF, e, if_false] at hy hp
      exact .inr (hge y hy hp)
  · have o4' : Off l W3 W4 := ⟨g4.os, g4.tape, g4.output, g4.size, fun x hx hl => g4.block x hx (fun e => hl (hg x e.symm))⟩
    have o5' : Off l W4 (W4.setCell ⟨p, 2, none⟩ (.slice sa' (m + 1) sx')) := ⟨o5.os, o5.tape, o5.output, o5.size, fun x hx hl => o5.block x hx (by simp; rintro rfl; exact hl hp)⟩
    exact (Off.of_below b3).trans (o4'.trans o5')
end
end Go.Proofs.Ythlgahkoignnkaa
