/- Part 23 of the texts on which the proof rests: contracts of Go functions. -/
import Derived.Test.YthlgahkoignnkaaPkG17
import Derived.Test.YthlgahkoignnkaaPkG20
import Derived.Test.YthlgahkoignnkaaPkG21
namespace Go.Proofs.Ythlgahkoignnkaa
open Go.RowKit Go.Maps Go.Sort
set_option maxRecDepth 100000
theorem row8_off2' {l : List Nat} {w w' : World} {a : Option Addr} {n cap : Nat} {bs : Nat → Nat} (h : Row8 w a n cap bs) (q : Off l w w') (hl : ∀ y, a = some y → 0 < n → y.block ∉ l) : Row8 w' a n cap bs := by
  refine ⟨h.byte, h.nil, fun x hx i hi => ?_, h.le⟩
  have h1 := h.src x hx i hi
  have hlt := World.block_lt_of_cell? w _ h1
  have hb : (x.add i).block = x.block := by unfold Addr.add; split <;> rfl
  have he : w'.heap[(x.add i).block]? = w.heap[(x.add i).block]? := q.block _ hlt (by rw [hb]; exact hl x hx (by omega))
  rw [← h1]
  unfold World.cell?
  rw [he]
section
variable {w w' : World} {p ge ec gs sc k : Nat} {b : Nat → Nat} {c : Nat → RC} {sa : Option Addr} {m sx : Nat} {F : Nat → Fa} {A : Nat → Option Addr} {C : Nat → Nat} {Bs n : Nat} {r a : Int}
theorem ExW.offB {w w' : World} {g q : Nat} {x : Ex} {l : List Nat} (h : ExW w g q x) (o : Off l w w') (hg : g ∉ l) : ExW w' g q x := by
  have he := o.block g h.lt hg
  have cc : ∀ z u, w.cell? ⟨g, z, none⟩ = some u → w'.cell? ⟨g, z, none⟩ = some u := fun z u hu => by rw [World.cell?_of_block (a := ⟨g, z, none⟩) he]; exact hu
  obtain ⟨c0, c1, c2, c3, c4, c5, c6, c7, c8, c9, c10, fz⟩ := h
  exact ⟨cc _ _ c0, cc _ _ c1, cc _ _ c2, cc _ _ c3, cc _ _ c4, cc _ _ c5, cc _ _ c6, cc _ _ c7, cc _ _ c8, cc _ _ c9, cc _ _ c10, fun z => by have := fz z; unfold World.frozen? at this ⊢; rw [he]; exact this⟩
theorem cell_offB {l : List Nat} {w w' : World} {g q : Nat} {u : Value} (hu : w.cell? ⟨g, q, none⟩ = some u) (o : Off l w w') (hg : g ∉ l) : w'.cell? ⟨g, q, none⟩ = some u := by
  rw [World.cell?_of_block (a := ⟨g, q, none⟩) (o.block g (World.block_lt_of_cell? w _ hu) hg)]
  exact hu
theorem RJ.pturn (h : RJ w p ge ec gs sc k b c sa m sx F A C Bs n r a) (o : Off [p] w w') {n' : Nat} {r' a' : Int} (hb : w'.heap[p]? = some (.cells #[csV k ge ec, csV k gs sc, .slice sa m sx, .int .i64 ((n' : Nat) : Int), .int .i64 r', .int .i64 a'] 48 (0, 0))) : RJ w' p ge ec gs sc k b c sa m sx F A C Bs n' r' a' := by
  have np : ∀ x ty, Ty w x ty → ty ≠ 48 → x ∉ [p] := fun x ty hx hne => by simpa using ty_ne hx h.typ hne
  have nb : ∀ i, i < k → b i ∉ [p] := fun i hi => by simpa using (h.nb i hi).1
  exact ⟨hb, fun i hi => cell_offB (h.out i hi) o (np _ _ (h.tge (by omega)) (by decide)), fun hk => ty_off (h.tge hk) o (np _ _ (h.tge hk) (by decide)), fun i hi => (h.eh i hi).offB o (nb i hi), fun i hi => (h.ed i hi).offB o (nb i hi), h.nb, h.no, h.nd, h.ok, fun i hi => cell_offB (h.ses i hi) o (np _ _ (h.tgs (by omega)) (by decide)), fun hk => ty_off (h.tgs hk) o (np _ _ (h.tgs hk) (by decide)), h.inj, own_keepP h.own (fun g hg => o.block g (h.own.lt g hg).2 (np _ _ (h.tow g hg) (by decide))), fun j hj => ⟨row8_off2 (h.row j hj).1 o (fun y hy hp => by simpa using np _ _ ((h.row j hj).2 y hy hp) (by decide)), fun y hy hp => ty_off ((h.row j hj).2 y hy hp) o (np _ _ ((h.row j hj).2 y hy hp) (by decide))⟩, h.few⟩
theorem RJ.begin (h : RJ w p ge ec gs sc k b c sa m sx F A C Bs n r a) {i fss : Nat} (hi : i < k) (q : Bg3 w w' p gs i m F A C fss) : ∃ sa' sx', RJ w' p ge ec gs sc k b (fun j => if j = i then { c i with s := fss } else c j) sa' (kps F ((i : Nat) : Int) fss m).length sx' (fun j => F ((kps F ((i : Nat) : Int) fss m).getD j 0)) (fun j => A ((kps F ((i : Nat) : Int) fss m).getD j 0)) (fun j => C ((kps F ((i : Nat) : Int) fss m).getD j 0)) w.heap.size n r a ∧ Off [p, gs] w w' := by
  obtain ⟨w2, sa', sx', b2, o2, rfl⟩ := q
  generalize hL : kps F ((i : Nat) : Int) fss m = L at o2 ⊢
  have h2 := h.below b2
  have hg2 := h2.tgs (by omega)
  have ngp : gs ≠ p := ty_ne hg2 h2.typ (by decide)
  have o5 : Off [p, gs] w2 ((w2.setCell ⟨p, 2, none⟩ (.slice sa' L.length sx')).setCell ⟨gs, i, none⟩ (.int .u32 (fss : Nat))).drew := by
    have o1 : Off [p] w2 (w2.setCell ⟨p, 2, none⟩ (.slice sa' L.length sx')) := Off.setCell _ _ _ _
    have o2' : Off [gs] (w2.setCell ⟨p, 2, none⟩ (.slice sa' L.length sx')) ((w2.setCell ⟨p, 2, none⟩ (.slice sa' L.length sx')).setCell ⟨gs, i, none⟩ (.int .u32 (fss : Nat))) := Off.setCell _ _ _ _
    refine ⟨o2'.os.trans o1.os, o2'.tape.trans o1.tape, o2'.output.trans o1.output, Nat.le_trans o1.size o2'.size, fun x hx hl => ?_⟩
    simp at hl
    exact (o2'.block x (Nat.lt_of_lt_of_le hx o1.size) (by simpa using hl.2)).trans (o1.block x hx (by simpa using hl.1))
  have hlp : p < w.heap.size := (Array.getElem?_eq_some_iff.1 h.blk).1
  have hlg : gs < w.heap.size := World.block_lt_of_cell? w _ (h.ses i hi)
  have memL : ∀ x, x ∈ L → x < m := fun x hx => by
    rw [← hL] at hx
    unfold kps at hx
    simpa using (List.mem_filter.1 hx).1
  have mem : ∀ j, j < L.length → L.getD j 0 < m := fun j hj => by
    have : L.getD j 0 ∈ L := by rw [List.getD_eq_getElem?_getD, List.getElem?_eq_getElem hj]; exact List.getElem_mem _
    exact memL _ this
  have npg : ∀ x ty, Ty w2 x ty → ty ≠ 48 → ty ≠ 23 → x ∉ [p, gs] := fun x ty hx h1 h3 => by
    have e1 := ty_ne hx h2.typ h1
    have e2 := ty_ne hx hg2 h3
    simp
    exact ⟨e1, e2⟩
  have nb : ∀ j, j < k → b j ∉ [p, gs] := fun j hj => by
    have := h.nb j hj
    simp
    exact ⟨this.1, this.2.2⟩
  have kp : ((w2.setCell ⟨p, 2, none⟩ (.slice sa' L.length sx')).setCell ⟨gs, i, none⟩ (.int .u32 (fss : Nat))).heap[p]? = (w2.setCell ⟨p, 2, none⟩ (.slice sa' L.length sx')).heap[p]? := (Off.setCell gs i (w2.setCell ⟨p, 2, none⟩ (.slice sa' L.length sx')) (.int .u32 (fss : Nat))).block p (by have := (Off.setCell p 2 w2 (.slice sa' L.length sx')).size; have := b2.size; omega) (by simpa using (Ne.symm ngp))
  have cg : ∀ j u, j ≠ i → w2.cell? ⟨gs, j, none⟩ = some u → ((w2.setCell ⟨p, 2, none⟩ (.slice sa' L.length sx')).setCell ⟨gs, i, none⟩ (.int .u32 (fss : Nat))).cell? ⟨gs, j, none⟩ = some u := fun j u hj hu => by
    rw [World.cell?_setCell_other _ _ _ _ (by intro e; have := congrArg Addr.off e; simp at this; omega), World.cell?_setCell_other _ _ _ _ (by intro e; have := congrArg Addr.block e; simp at this; omega)]
    exact hu
  have cgi : ((w2.setCell ⟨p, 2, none⟩ (.slice sa' L.length sx')).setCell ⟨gs, i, none⟩ (.int .u32 (fss : Nat))).cell? ⟨gs, i, none⟩ = some (.int .u32 (fss : Nat)) := World.cell?_setCell_same _ _ _ ((World.cell?_setCell_other _ _ _ _ (by intro e; have := congrArg Addr.block e; simp at this; omega)).trans (h2.ses i hi))
  have olt := fun g hg => o2.lt g hg
  rw [flL_F] at o2
  refine ⟨sa', sx', ⟨kp.trans (heap_setCell_same _ _ _ _ _ _ h2.blk), fun j hj => cell_offB (h2.out j hj) o5 (npg _ _ (h2.tge (by omega)) (by decide) (by decide)), fun hk => ty_off (h2.tge hk) o5 (npg _ _ (h2.tge hk) (by decide) (by decide)), fun j hj => ?_, fun j hj => ?_, h.nb, fun j hj g hg => ?_, fun j hj t ht y hy hp => h.nd j hj _ (mem t ht) y hy hp, fun j hj => ?_, fun j hj => ?_, fun hk => ty_set (ty_set hg2), h.inj, own_keepP o2 (fun g hg => o5.block g (o2.lt g hg).2 ?_), fun j hj => ?_, h.few⟩, (Off.of_below b2).trans o5⟩
  · by_cases e : j = i
    · subst e
      simp only [if_true]
      exact (h2.eh j hj).offB o5 (nb j hj)
    · simp only [e, if_false]
      exact (h2.eh j hj).offB o5 (nb j hj)
  · by_cases e : j = i
    · subst e
      simp only [if_true]
      exact (h2.ed j hj).offB o5 (nb j hj)
    · simp only [e, if_false]
      exact (h2.ed j hj).offB o5 (nb j hj)
  · have h1 := (olt g hg).1
    have h3 := h.lt hj
    omega
  · by_cases e : j = i
    · subst e
      simp only [if_true]
      exact h.ok j hj
    · simp only [e, if_false]
      exact h.ok j hj
  · by_cases e : j = i
    · subst e
      simp only [if_true]
      exact cgi
    · simp only [e, if_false]
      exact cg j _ e (h2.ses j hj)
  · have h1 := (olt g hg).1
    simp
    omega
  · have hr := h2.row _ (mem j hj)
    exact ⟨row8_off2' hr.1 o5 (fun y hy hp => npg _ _ (hr.2 y hy hp) (by decide) (by decide)), fun y hy hp => ty_off (hr.2 y hy hp) o5 (npg _ _ (hr.2 y hy hp) (by decide) (by decide))⟩
end
end Go.Proofs.Ythlgahkoignnkaa
namespace Go.Proofs.Ythlgahkoignnkaa
open Go.RowKit Go.Maps Go.Sort
structure SJ (J : Ju) (k : Nat) (c : Nat → RC) (m : Nat) (F : Nat → Fa) : Prop where
  len : J.cs.length = k
  con : ∀ i, i < k → J.cs[i]? = some (c i).co
  snt : ∀ (t : TK) n x, J.S t n x ↔ ∃ j, j < m ∧ (F j).c = t.c ∧ (F j).s = t.s ∧ (F j).ss = t.ss ∧ (F j).nn = n ∧ (F j).x = x
  sd : ∀ j, j < m → (F j).s = 1 ∨ (F j).s = 2
theorem SJ.was {J : Ju} {k : Nat} {c : Nat → RC} {m : Nat} {F : Nat → Fa} (h : SJ J k c m F) {f : Fa} (hs : f.s = 1 ∨ f.s = 2) : (∃ j, j < m ∧ mtF (F j) f) ↔ J.S ⟨f.c, oth f.s, f.ss⟩ f.nn f.x := by
  rw [h.snt]
  have ho : ∀ j, j < m → ((F j).s ≠ f.s ↔ (F j).s = oth f.s) := fun j hj => by
    unfold oth
    rcases h.sd j hj with e | e <;> rcases hs with e' | e' <;> rw [e, e'] <;> decide
  constructor
  · rintro ⟨j, hj, h1, h2, h3, h4, h5⟩
    exact ⟨j, hj, h1, (ho j hj).1 h2, h3, h4, h5⟩
  · rintro ⟨j, hj, h1, h2, h3, h4, h5⟩
    exact ⟨j, hj, h1, (ho j hj).2 h2, h3, h4, h5⟩
theorem BA_nil {b : Nat → Nat} {n : Nat} (h : BA b n = ByteArray.mk #[]) : n = 0 := by
  have := congrArg ByteArray.size h
  rw [BA_size] at this
  exact this
theorem nil_list : (ByteArray.mk #[]).toList = [] := by rw [ByteArray.toList_eq]
theorem may_same {x : Ex} (h : x.Ok) (f : Fa) (dev : Bool) (ses : Nat) : x.may f dev ses = (if x.e.v.toList.isEmpty = true ∨ f.x.toList ≠ x.e.v.toList then false else (!dev || decide (x.e.ls = ses))) := by
  unfold Ex.may
  by_cases hv : x.e.v.toList = f.x.toList
  · have hvb : (x.e.v.toList == f.x.toList) = true := by simpa using hv
    by_cases he : x.e.v.toList.isEmpty = true
    · rw [if_pos (.inl he)]
      have hn : f.n = 0 := by
        have e0 : f.x = ByteArray.mk #[] := by
          rw [← toList_iff, ← hv]
          have : x.e.v.toList = [] := by simpa using he
          rw [this, nil_list]
        exact BA_nil e0
      rw [hn]
      simp
    · rw [if_neg (by rintro (h1 | h1); exact he h1; exact h1 hv.symm)]
      have hh : x.has = true := by
        cases e : x.has with
        | true => rfl
        | false =>
          exfalso
          apply he
          rw [h.b e, nil_list]
          rfl
      have hn : f.n ≠ 0 := fun e => by
        apply he
        have e0 : f.x.toList = [] := by
          have hz : f.x.data.size = 0 := by show f.x.size = 0; unfold Fa.x; rw [BA_size]; exact e
          have hq : f.x.data = #[] := Array.eq_empty_of_size_eq_zero hz
          rw [ByteArray.toList_eq, hq]
        rw [hv, e0]
        rfl
      have hnb : (f.n != 0) = true := by simpa using hn
      rw [hh, hvb, h.a hh, hnb]
      cases dev with
      | false => rfl
      | true =>
        by_cases hq : x.e.ls = ses
        · simp [hq]
        · simp [hq]
  · have hvb : (x.e.v.toList == f.x.toList) = false := by simpa using hv
    rw [if_pos (.inr (fun e => hv e.symm)), hvb]
    simp
theorem may_co {c : RC} (h1 : c.h.Ok) (h2 : c.d.Ok) {f : Fa} (hs : f.s = 1 ∨ f.s = 2) : (c.at_ f.s).may f (f.s == 2) c.s = c.co.may f := by
  have ea : (c.at_ f.s).e = c.co.at_ f.s := by
    unfold RC.at_ Co.at_ RC.co
    split <;> rfl
  have ok : (c.at_ f.s).Ok := by
    unfold RC.at_
    split
    · exact h1
    · exact h2
  rw [may_same ok]
  unfold Co.may
  rw [ea]
  have es : c.co.s = c.s := rfl
  rw [es]
  rcases hs with e | e
  · rw [e]
    rfl
  · rw [e]
    rfl
end Go.Proofs.Ythlgahkoignnkaa
namespace Go.Proofs.Ythlgahkoignnkaa
open Go.RowKit Go.Maps Go.Sort
set_option maxRecDepth 100000
theorem RC.co_put (c : RC) (s : Int) (x : Ex) : (c.put s x).co = c.co.put s x.e := by
  unfold RC.put Co.put RC.co
  split <;> rfl
theorem RC.co_at (c : RC) (s : Int) : c.co.at_ s = (c.at_ s).e := by
  unfold RC.at_ Co.at_ RC.co
  split <;> rfl
theorem SJ.endT {J : Ju} {k : Nat} {c : Nat → RC} {m : Nat} {F : Nat → Fa} (h : SJ J k c m F) {i : Nat} (hi : i < k) (s : Int) (x : Ex) : SJ { J with cs := J.cs.set i ((c i).co.put s x.e) } k (fun j => if j = i then (c i).put s x else c j) m F := by
  have hl := h.len
  refine ⟨by simpa using hl, fun j hj => ?_, h.snt, h.sd⟩
  by_cases e : j = i
  · subst e
    simp only [if_true]
    rw [List.getElem?_set_self (by omega), RC.co_put]
  · simp only [e, if_false]
    rw [List.getElem?_set_ne (Ne.symm e)]
    exact h.con j hj
theorem SJ.get {J : Ju} {k : Nat} {c : Nat → RC} {m : Nat} {F : Nat → Fa} (h : SJ J k c m F) {i : Nat} (hi : i < k) {f : Fa} (hf : f.c = ((i : Nat) : Int)) : J.cs[f.c.toNat]? = some (c i).co := by
  rw [hf, Int.toNat_natCast]
  exact h.con i hi
theorem SJ.good {J : Ju} {k : Nat} {c : Nat → RC} {m : Nat} {F : Nat → Fa} (h : SJ J k c m F) {i : Nat} (hi : i < k) {f : Fa} (hf : f.c = ((i : Nat) : Int)) (hk : isK f.k = true) (hs : isS f.s = true) : ¬ J.bad f := by
  unfold Ju.bad
  rw [hk, hs, h.len, hf]
  rintro (e | e | e | e)
  · cases e
  · omega
  · omega
  · cases e
theorem SJ.rule {J : Ju} {k : Nat} {c : Nat → RC} {m : Nat} {F : Nat → Fa} (h : SJ J k c m F) {i : Nat} (hi : i < k) {f : Fa} (hf : f.c = ((i : Nat) : Int)) (hk : isK f.k = true) (hs : isS f.s = true) : J.rule f = J.rul (c i).co f := by
  unfold Ju.rule
  rw [if_neg (h.good hi hf hk hs), h.get hi hf]
theorem RC.okAt {c : RC} (h : c.h.Ok ∧ c.d.Ok) (s : Int) : (c.at_ s).Ok := by
  unfold RC.at_
  split
  · exact h.1
  · exact h.2
structure FR (p gs k : Nat) (b : Nat → Nat) (v : Value) (l : List Nat) : Prop where
  p : p ∈ l
  g : gs ∈ l
  b : ∀ i, i < k → b i ∈ l
  o : ∀ g, v.ownBlock = some g → g ∈ l
section
variable {w w' : World} {p ge ec gs sc k : Nat} {b : Nat → Nat} {c : Nat → RC} {sa : Option Addr} {m sx : Nat} {F : Nat → Fa} {A : Nat → Option Addr} {C : Nat → Nat} {Bs n : Nat} {r a : Int}
theorem RJ.j0 (h : RJ w p ge ec gs sc k b c sa m sx F A C Bs n r a) (hk : 0 < k) : w.cell? ⟨p, 0, none⟩ = some (.slice (some ⟨ge, 0, none⟩) k ec) := by
  have e := cell_of_row w p 0 _ _ _ h.blk
  rw [e]
  show some (csV k ge ec) = _
  unfold csV
  rw [if_neg (by omega)]
theorem RJ.j1 (h : RJ w p ge ec gs sc k b c sa m sx F A C Bs n r a) (hk : 0 < k) : w.cell? ⟨p, 1, none⟩ = some (.slice (some ⟨gs, 0, none⟩) k sc) := by
  have e := cell_of_row w p 1 _ _ _ h.blk
  rw [e]
  show some (csV k gs sc) = _
  unfold csV
  rw [if_neg (by omega)]
theorem RJ.j2 (h : RJ w p ge ec gs sc k b c sa m sx F A C Bs n r a) : w.cell? ⟨p, 2, none⟩ = some (.slice sa m sx) := cell_of_row w p 2 _ _ _ h.blk
theorem RJ.at_ (h : RJ w p ge ec gs sc k b c sa m sx F A C Bs n r a) {i : Nat} (hi : i < k) (s : Int) : ExW w (b i) (xP s) ((c i).at_ s) := by
  unfold xP RC.at_
  split
  · exact h.eh i hi
  · exact h.ed i hi
theorem RJ.frow (h : RJ w p ge ec gs sc k b c sa m sx F A C Bs n r a) : FRow w sa m F := FRow.of_own h.own (fun j hj => (h.row j hj).1)
def RR (w w' : World) (p ge ec gs sc k : Nat) (b : Nat → Nat) (sa : Option Addr) (m sx : Nat) (F : Nat → Fa) (A : Nat → Option Addr) (n : Nat) (r a : Int) (J' : Ju) : Prop := ∃ (c' : Nat → RC) (sa' : Option Addr) (m' sx' : Nat) (F' : Nat → Fa) (A' : Nat → Option Addr) (C' : Nat → Nat) (Bs' : Nat), m' ≤ m + 1 ∧ RJ w' p ge ec gs sc k b c' sa' m' sx' F' A' C' Bs' n r a ∧ SJ J' k c' m' F' ∧ (∀ g, (Value.slice sa' m' sx').ownBlock = some g → (Value.slice sa m sx).ownBlock = some g ∨ w.heap.size ≤ g) ∧ (∀ j, j < m' → ∀ y, A' j = some y → 0 < (F' j).n → (∃ j0, j0 < m ∧ A j0 = some y ∧ 0 < (F j0).n) ∨ w.heap.size ≤ y.block) ∧ ∀ l, FR p gs k b (.slice sa m sx) l → Off l w w'
theorem RR.endT {J : Ju} (h : RJ w p ge ec gs sc k b c sa m sx F A C Bs n r a) (hS : SJ J k c m F) {i : Nat} (hi : i < k) {s : Int} {x' : Ex} (t : Tn w w' (b i) (xP s) (xP s + 11)) (hx : ExW w' (b i) (xP s) x') (hok : x'.Ok) : RR w w' p ge ec gs sc k b sa m sx F A n r a { J with cs := J.cs.set i ((c i).co.put s x'.e) } :=
  ⟨_, sa, m, sx, F, A, C, Bs, by omega, h.endT hi t hx hok, hS.endT hi s x', fun g hg => .inl hg, fun j hj y hy hp => .inl ⟨j, hj, hy, hp⟩, fun l hl => ⟨t.off.os, t.off.tape, t.off.output, t.off.size, fun q hq hn => t.off.block q hq (by simp; rintro rfl; exact hn (hl.b i hi))⟩⟩
theorem RR.same {J : Ju} (h : RJ w p ge ec gs sc k b c sa m sx F A C Bs n r a) (hS : SJ J k c m F) (q : Below w.heap.size w w') : RR w w' p ge ec gs sc k b sa m sx F A n r a J :=
  ⟨c, sa, m, sx, F, A, C, Bs, by omega, h.below q, hS, fun g hg => .inl hg, fun j hj y hy hp => .inl ⟨j, hj, hy, hp⟩, fun _ _ => Off.of_below q⟩
end
end Go.Proofs.Ythlgahkoignnkaa
