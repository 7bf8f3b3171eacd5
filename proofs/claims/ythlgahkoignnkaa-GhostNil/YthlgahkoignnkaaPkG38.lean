/- Part 39 of the texts on which the proof rests: contracts of Go functions. -/
import Derived.Test.YthlgahkoignnkaaPkG11
import Derived.Test.YthlgahkoignnkaaPkG17
import Derived.Test.YthlgahkoignnkaaPkG35
import Derived.Test.YthlgahkoignnkaaPkG36
import Derived.Test.YthlgahkoignnkaaPkG37
namespace Go.Proofs.Ythlgahkoignnkaa
open Go.RowKit Go.Maps Go.Sort
set_option maxRecDepth 100000
set_option maxHeartbeats 2000000 in
theorem rule_bad (p k ec : Nat) (ea : Option Addr) (fk fc fs : Int) (fss fnn : Nat) (fon : Bool) (fcd : Int) (fn : Nat) (a : Option Addr) (cap : Nat) (w : World) (j0 : w.cell? ⟨p, 0, none⟩ = some (.slice ea k ec)) (hb : fk < 1 ∨ 8 < fk ∨ fc < 0 ∨ ((k : Nat) : Int) ≤ fc ∨ fs < 1 ∨ 2 < fs) :
    Calls Try.prog 21 #[.pointer (some ⟨p, 0, none⟩), .agg #[.int .i64 fk, .int .i64 fc, .int .i64 fs, .int .u32 (fss : Nat), .int .u32 (fnn : Nat), .bool fon, .int .i64 fcd, .slice a fn cap]] w fun r w' => r = .returned (.int .i64 1) ∧ Below w.heap.size w w' := by
  have b1 : Below w.heap.size w (w.alloc (.cells #[.int .i64 fk, .int .i64 fc, .int .i64 fs, .int .u32 (fss : Nat), .int .u32 (fnn : Nat), .bool fon, .int .i64 fcd, .slice a fn cap] 43)) := belowG (Below.refl _ _) _
  have e0 := heap_alloc_new w (.cells #[.int .i64 fk, .int .i64 fc, .int .i64 fs, .int .u32 (fss : Nat), .int .u32 (fnn : Nat), .bool fon, .int .i64 fcd, .slice a fn cap] 43)
  obtain ⟨w1, hw1⟩ : ∃ x : World, w.alloc (.cells #[.int .i64 fk, .int .i64 fc, .int .i64 fs, .int .u32 (fss : Nat), .int .u32 (fnn : Nat), .bool fon, .int .i64 fcd, .slice a fn cap] 43) = x := ⟨_, rfl⟩
  obtain ⟨B, hB⟩ : ∃ x, w.heap.size = x := ⟨_, rfl⟩
  rw [hw1] at b1 e0
  rw [hB] at e0
  have y0 := cell_belowJ j0 b1
  have HB : Hid (Below w.heap.size w w1) := b1
  go_enter Try.func21, Try.ntmps21
  go_wp2_with fail
  clear hw1 hB b1 j0
  have z0 := cell_of_row w1 B 0 _ _ _ e0
  have z1 := cell_of_row w1 B 1 _ _ _ e0
  have z2 := cell_of_row w1 B 2 _ _ _ e0
  by_cases h1 : fk < 1
  · skip
    go_region
    all_goals
      go_wp2_with fail
      go_ret
      exact ⟨rfl, (by repeat (first | with_reducible exact HB.out | with_reducible assumption | with_reducible exact Below.refl _ _ | with_reducible refine belowN ?_ _ | with_reducible refine Below.drew ?_ | with_reducible refine belowG ?_ _))⟩
  · by_cases h2 : 8 < fk
    · skip
      go_region
      all_goals
        go_wp2_with fail
        go_ret
        exact ⟨rfl, (by repeat (first | with_reducible exact HB.out | with_reducible assumption | with_reducible exact Below.refl _ _ | with_reducible refine belowN ?_ _ | with_reducible refine Below.drew ?_ | with_reducible refine belowG ?_ _))⟩
    · by_cases h3 : fc < 0
      · skip
        go_region
        all_goals
          go_wp2_with fail
          go_ret
          exact ⟨rfl, (by repeat (first | with_reducible exact HB.out | with_reducible assumption | with_reducible exact Below.refl _ _ | with_reducible refine belowN ?_ _ | with_reducible refine Below.drew ?_ | with_reducible refine belowG ?_ _))⟩
      · by_cases h4 : ((k : Nat) : Int) ≤ fc
        · skip
          go_region
          all_goals
            go_wp2_with fail
            go_ret
            exact ⟨rfl, (by repeat (first | with_reducible exact HB.out | with_reducible assumption | with_reducible exact Below.refl _ _ | with_reducible refine belowN ?_ _ | with_reducible refine Below.drew ?_ | with_reducible refine belowG ?_ _))⟩
        · by_cases h5 : fs < 1
          · skip
            go_region
            all_goals
              go_wp2_with fail
              go_ret
              exact ⟨rfl, (by repeat (first | with_reducible exact HB.out | with_reducible assumption | with_reducible exact Below.refl _ _ | with_reducible refine belowN ?_ _ | with_reducible refine Below.drew ?_ | with_reducible refine belowG ?_ _))⟩
          · have h6 : 2 < fs := by omega
            go_region
            all_goals
              go_wp2_with fail
              go_ret
              exact ⟨rfl, (by repeat (first | with_reducible exact HB.out | with_reducible assumption | with_reducible exact Below.refl _ _ | with_reducible refine belowN ?_ _ | with_reducible refine Below.drew ?_ | with_reducible refine belowG ?_ _))⟩
end Go.Proofs.Ythlgahkoignnkaa
namespace Go.Proofs.Ythlgahkoignnkaa
open Go.RowKit Go.Maps Go.Sort
set_option maxRecDepth 100000
theorem kps_lt {F : Nat → Fa} {fc : Int} {fss m j : Nat} (hj : j < (kps F fc fss m).length) : (kps F fc fss m).getD j 0 < m := by
  have h : (kps F fc fss m).getD j 0 ∈ kps F fc fss m := by rw [List.getD_eq_getElem?_getD, List.getElem?_eq_getElem hj]; exact List.getElem_mem _
  generalize (kps F fc fss m).getD j 0 = x at h
  unfold kps at h
  simpa using (List.mem_filter.1 h).1
theorem ty_frz {w : World} {k i : Nat} {t : TypeId} (h : Ty w k t) : w.frozen? ⟨k, i, none⟩ = false := by
  obtain ⟨cs, hc⟩ := h
  exact frozen_of_row w k i _ _ hc
theorem SJ.sent {J : Ju} {k : Nat} {c : Nat → RC} {m : Nat} {F : Nat → Fa} (h : SJ J k c m F) {g f : Fa} (hc : g.c = f.c) (hs : g.s = f.s) (hss : g.ss = f.ss) (hn : g.nn = f.nn) (hx : g.x = f.x) (h12 : f.s = 1 ∨ f.s = 2) : SJ { J with S := fun t n x => J.S t n x ∨ (t = ⟨f.c, f.s, f.ss⟩ ∧ n = f.nn ∧ x = f.x) } k c (m + 1) (exF F m g) := by
  refine ⟨h.len, h.con, fun t n x => ?_, fun j hj => ?_⟩
  · constructor
    · rintro (q | ⟨rfl, rfl, rfl⟩)
      · obtain ⟨j, hj, r1, r2, r3, r4, r5⟩ := (h.snt t n x).1 q
        exact ⟨j, by omega, by simpa [exF, hj] using r1, by simpa [exF, hj] using r2, by simpa [exF, hj] using r3, by simpa [exF, hj] using r4, by simpa [exF, hj] using r5⟩
      · exact ⟨m, by omega, by simpa [exF] using hc, by simpa [exF] using hs, by simpa [exF] using hss, by simpa [exF] using hn, by simpa [exF] using hx⟩
    · rintro ⟨j, hj, r1, r2, r3, r4, r5⟩
      by_cases e : j < m
      · simp only [exF, e, if_true] at r1 r2 r3 r4 r5
        exact .inl ((h.snt t n x).2 ⟨j, e, r1, r2, r3, r4, r5⟩)
      · simp only [exF, e, if_false] at r1 r2 r3 r4 r5
        refine .inr ⟨?_, r4.symm.trans hn, r5.symm.trans hx⟩
        cases t
        simp at r1 r2 r3 ⊢
        exact ⟨r1.symm.trans hc, r2.symm.trans hs, r3.symm.trans hss⟩
  · by_cases e : j < m
    · simp only [exF, e, if_true]
      exact h.sd j e
    · simp only [exF, e, if_false]
      rw [hs]
      exact h12
theorem SJ.beg {J : Ju} {k : Nat} {c : Nat → RC} {m : Nat} {F : Nat → Fa} (h : SJ J k c m F) {i fss : Nat} (hi : i < k) : SJ { J with cs := J.cs.set i { (c i).co with s := fss }, S := fun t n x => J.S t n x ∧ t ≠ ⟨((i : Nat) : Int), 1, fss⟩ } k (fun j => if j = i then { c i with s := fss } else c j) (kps F ((i : Nat) : Int) fss m).length (fun j => F ((kps F ((i : Nat) : Int) fss m).getD j 0)) := by
  have memL : ∀ x, x ∈ kps F ((i : Nat) : Int) fss m ↔ x < m ∧ kpF F ((i : Nat) : Int) fss x = true := fun x => by
    unfold kps
    rw [List.mem_filter]
    simp
  have at_ : ∀ j, j < (kps F ((i : Nat) : Int) fss m).length → (kps F ((i : Nat) : Int) fss m).getD j 0 ∈ kps F ((i : Nat) : Int) fss m := fun j hj => by
    rw [List.getD_eq_getElem?_getD, List.getElem?_eq_getElem hj]
    exact List.getElem_mem _
  have hl := h.len
  refine ⟨by simpa using hl, fun j hj => ?_, fun t n x => ?_, fun j hj => h.sd _ ((memL _).1 (at_ j hj)).1⟩
  · by_cases e : j = i
    · subst e
      simp only [if_true]
      rw [List.getElem?_set_self (by omega)]
      rfl
    · simp only [e, if_false]
      rw [List.getElem?_set_ne (Ne.symm e)]
      exact h.con j hj
  · have kt : ∀ j, (F j).c = t.c → (F j).s = t.s → (F j).ss = t.ss → (kpF F ((i : Nat) : Int) fss j = true ↔ t ≠ ⟨((i : Nat) : Int), 1, fss⟩) := fun j r1 r2 r3 => by
      unfold kpF
      rw [r1, r2, r3]
      obtain ⟨tc, ts, tss⟩ := t
      by_cases h1 : tc = ((i : Nat) : Int)
      · by_cases h2 : ts = 1
        · simp [h1, h2]
        · simp [h2]
      · simp [h1]
    constructor
    · rintro ⟨q, hne⟩
      obtain ⟨j, hj, r1, r2, r3, r4, r5⟩ := (h.snt t n x).1 q
      have hm := (memL j).2 ⟨hj, (kt j r1 r2 r3).2 hne⟩
      obtain ⟨z, hz, ez⟩ := List.getElem_of_mem hm
      have eg : (kps F ((i : Nat) : Int) fss m).getD z 0 = j := by rw [List.getD_eq_getElem?_getD, List.getElem?_eq_getElem hz, ez]; rfl
      exact ⟨z, hz, by rw [eg]; exact r1, by rw [eg]; exact r2, by rw [eg]; exact r3, by rw [eg]; exact r4, by rw [eg]; exact r5⟩
    · rintro ⟨z, hz, r1, r2, r3, r4, r5⟩
      obtain ⟨h1, h2⟩ := (memL _).1 (at_ z hz)
      exact ⟨(h.snt t n x).2 ⟨_, h1, r1, r2, r3, r4, r5⟩, (kt _ r1 r2 r3).1 h2⟩
section
variable {w w' : World} {p ge ec gs sc k : Nat} {b : Nat → Nat} {c : Nat → RC} {sa : Option Addr} {m sx : Nat} {F : Nat → Fa} {A : Nat → Option Addr} {C : Nat → Nat} {Bs n : Nat} {r a : Int} {J : Ju}
theorem RJ.zero (h : RJ w p ge ec gs sc k b c sa m sx F A C Bs n r a) : RJ w p ge ec gs sc k b c sa m sx F A C 0 n r a := ⟨h.blk, h.out, h.tge, h.eh, h.ed, h.nb, h.no, h.nd, h.ok, h.ses, h.tgs, h.inj, own_baseR h.own (Nat.zero_le _), h.row, h.few⟩
theorem RJ.spots (h : RJ w p ge ec gs sc k b c sa m sx F A C Bs n r a) : ∀ j, j < m → ∃ q off, sa = some ⟨q, off, none⟩ ∧ ∀ t u, (faL (F j) (A j) (C j))[t]? = some u → w.cell? ⟨q, off + j * 8 + t, none⟩ = some u := fun j hj => by
  rcases h.own.2 with ⟨_, hn⟩ | ⟨g, cap, cur, e, hg, hgg, h1, h2, h3, h4⟩
  · omega
  · simp only [Value.slice.injEq] at e
    refine ⟨g, 0, e.1, fun t u hu => ?_⟩
    have ht : t < 8 := by
      have := (List.getElem?_eq_some_iff.1 hu).1
      simpa [faL] using this
    rw [Nat.zero_add, cell_of_row w g (j * 8 + t) _ _ _ hgg, ← hu, ← flF_get m F A C j t hj ht, ← h4, List.getElem?_take_of_lt (by omega), Array.getElem?_toList]
theorem rr1_1 (h : RJ w p ge ec gs sc k b c sa m sx F A C Bs n r a) (hS : SJ J k c m F) {i : Nat} (hi : i < k) (fss fnn : Nat) (fon : Bool) (fcd : Int) (fn : Nat) (fb : Nat → Nat) (d : Option Addr) (cap : Nat) (hr : Row8 w d fn cap fb) (hn : fn ≤ 140737488351232) (hm : m ≤ 100000) : Calls Try.prog 21 #[.pointer (some ⟨p, 0, none⟩), .agg #[.int .i64 1, .int .i64 ((i : Nat) : Int), .int .i64 1, .int .u32 (fss : Nat), .int .u32 (fnn : Nat), .bool fon, .int .i64 fcd, .slice d fn cap]] w fun r' w' => r' = .returned (.int .i64 0) ∧ Hid (RR w w' p ge ec gs sc k b sa m sx F A n r a (J.lrn ⟨1, ((i : Nat) : Int), 1, fss, fnn, fon, fcd, fn, fb⟩)) := by
  have hz := h.zero
  refine (rule1_1 p ge ec k i (b i) (c i).h fss fnn fon fcd fn d cap w (h.j0 (by omega)) (h.out i hi) hi (h.eh i hi) fb hr hn sa m sx 0 F A C h.j2 (frozen_of_row w p 2 _ _ h.blk) hz.own (Nat.zero_le _) hm (fun g hg => ty_ne (h.tow g hg) h.typ (by decide))).mono ?_
  rintro r' w' ⟨rfl, q⟩
  refine ⟨rfl, ?_⟩
  have hq := q.out
  obtain ⟨sa', sx', A', C', hJ, ho, hda, hl⟩ := hz.sent hq
  have e : J.lrn ⟨1, ((i : Nat) : Int), 1, fss, fnn, fon, fcd, fn, fb⟩ = { J with S := fun t n x => J.S t n x ∨ (t = ⟨((i : Nat) : Int), 1, fss⟩ ∧ n = fnn ∧ x = Fa.x ⟨1, ((i : Nat) : Int), 1, fss, fnn, fon, fcd, fn, fb⟩) } := by
    unfold Ju.lrn
    rw [hS.get hi rfl]
    rfl
  rw [e]
  exact ⟨c, sa', m + 1, sx', _, A', C', 0, by omega, hJ, hS.sent (f := ⟨1, ((i : Nat) : Int), 1, fss, fnn, fon, fcd, fn, fb⟩) rfl rfl rfl rfl rfl (.inl rfl), ho, hda, fun l hf => hl l hf.p hf.o⟩
theorem rr3_1 (h : RJ w p ge ec gs sc k b c sa m sx F A C Bs n r a) (hS : SJ J k c m F) {i : Nat} (hi : i < k) (fss fnn : Nat) (fon : Bool) (fcd : Int) (fn : Nat) (fb : Nat → Nat) (d : Option Addr) (cap : Nat) (hm : m ≤ 100000) : Calls Try.prog 21 #[.pointer (some ⟨p, 0, none⟩), .agg #[.int .i64 3, .int .i64 ((i : Nat) : Int), .int .i64 1, .int .u32 (fss : Nat), .int .u32 (fnn : Nat), .bool fon, .int .i64 fcd, .slice d fn cap]] w fun r' w' => r' = .returned (.int .i64 0) ∧ Hid (RR w w' p ge ec gs sc k b sa m sx F A n r a (J.lrn ⟨3, ((i : Nat) : Int), 1, fss, fnn, fon, fcd, fn, fb⟩)) := by
  have hgp : p ≠ gs := Ne.symm (ty_ne (h.tgs (by omega)) h.typ (by decide))
  refine (rule3_1 p ge ec k i (b i) (c i).h fss fnn fon fcd fn d cap w (h.j0 (by omega)) (h.out i hi) hi (h.eh i hi) gs sc (c i).s sa m sx F A C (h.j1 (by omega)) (h.ses i hi) h.j2 (frozen_of_row w p 2 _ _ h.blk) (ty_frz (h.tgs (by omega))) hgp h.spots hm).mono ?_
  rintro r' w' ⟨rfl, q⟩
  refine ⟨rfl, ?_⟩
  obtain ⟨sa', sx', hJ, hl⟩ := h.begin hi q.out
  have e : J.lrn ⟨3, ((i : Nat) : Int), 1, fss, fnn, fon, fcd, fn, fb⟩ = { J with cs := J.cs.set i { (c i).co with s := fss }, S := fun t n x => J.S t n x ∧ t ≠ ⟨((i : Nat) : Int), 1, fss⟩ } := by
    unfold Ju.lrn
    rw [hS.get hi rfl, Int.toNat_natCast]
    rfl
  rw [e]
  exact ⟨_, sa', _, sx', _, _, _, w.heap.size, Nat.le_trans (kps_len _ _ _ _) (by omega), hJ, hS.beg hi, fun g hg => .inr (hJ.own.lt g hg).1, fun j hj y hy hp => .inl ⟨_, kps_lt hj, hy, hp⟩, fun l hf => ⟨hl.os, hl.tape, hl.output, hl.size, fun x hx hn => hl.block x hx (by simp; constructor; (rintro rfl; exact hn hf.p); (rintro rfl; exact hn hf.g))⟩⟩
theorem rr1_2 (h : RJ w p ge ec gs sc k b c sa m sx F A C Bs n r a) (hS : SJ J k c m F) {i : Nat} (hi : i < k) (fss fnn : Nat) (fon : Bool) (fcd : Int) (fn : Nat) (fb : Nat → Nat) (d : Option Addr) (cap : Nat) (hr : Row8 w d fn cap fb) (hn : fn ≤ 140737488351232) (hm : m ≤ 100000) : Calls Try.prog 21 #[.pointer (some ⟨p, 0, none⟩), .agg #[.int .i64 1, .int .i64 ((i : Nat) : Int), .int .i64 2, .int .u32 (fss : Nat), .int .u32 (fnn : Nat), .bool fon, .int .i64 fcd, .slice d fn cap]] w fun r' w' => r' = .returned (.int .i64 0) ∧ Hid (RR w w' p ge ec gs sc k b sa m sx F A n r a (J.lrn ⟨1, ((i : Nat) : Int), 2, fss, fnn, fon, fcd, fn, fb⟩)) := by
  have hz := h.zero
  refine (rule1_2 p ge ec k i (b i) (c i).d fss fnn fon fcd fn d cap w (h.j0 (by omega)) (h.out i hi) hi (h.ed i hi) fb hr hn sa m sx 0 F A C h.j2 (frozen_of_row w p 2 _ _ h.blk) hz.own (Nat.zero_le _) hm (fun g hg => ty_ne (h.tow g hg) h.typ (by decide))).mono ?_
  rintro r' w' ⟨rfl, q⟩
  refine ⟨rfl, ?_⟩
  have hq := q.out
  obtain ⟨sa', sx', A', C', hJ, ho, hda, hl⟩ := hz.sent hq
  have e : J.lrn ⟨1, ((i : Nat) : Int), 2, fss, fnn, fon, fcd, fn, fb⟩ = { J with S := fun t n x => J.S t n x ∨ (t = ⟨((i : Nat) : Int), 2, fss⟩ ∧ n = fnn ∧ x = Fa.x ⟨1, ((i : Nat) : Int), 2, fss, fnn, fon, fcd, fn, fb⟩) } := by
    unfold Ju.lrn
    rw [hS.get hi rfl]
    rfl
  rw [e]
  exact ⟨c, sa', m + 1, sx', _, A', C', 0, by omega, hJ, hS.sent (f := ⟨1, ((i : Nat) : Int), 2, fss, fnn, fon, fcd, fn, fb⟩) rfl rfl rfl rfl rfl (.inr rfl), ho, hda, fun l hf => hl l hf.p hf.o⟩
theorem rr3_2 (h : RJ w p ge ec gs sc k b c sa m sx F A C Bs n r a) (hS : SJ J k c m F) {i : Nat} (hi : i < k) (fss fnn : Nat) (fon : Bool) (fcd : Int) (fn : Nat) (fb : Nat → Nat) (d : Option Addr) (cap : Nat) (hm : m ≤ 100000) : Calls Try.prog 21 #[.pointer (some ⟨p, 0, none⟩), .agg #[.int .i64 3, .int .i64 ((i : Nat) : Int), .int .i64 2, .int .u32 (fss : Nat), .int .u32 (fnn : Nat), .bool fon, .int .i64 fcd, .slice d fn cap]] w fun r' w' => r' = .returned (.int .i64 0) ∧ Hid (RR w w' p ge ec gs sc k b sa m sx F A n r a (J.lrn ⟨3, ((i : Nat) : Int), 2, fss, fnn, fon, fcd, fn, fb⟩)) := by
  have hgp : p ≠ gs := Ne.symm (ty_ne (h.tgs (by omega)) h.typ (by decide))
  refine (rule3_2 p ge ec k i (b i) (c i).d fss fnn fon fcd fn d cap w (h.j0 (by omega)) (h.out i hi) hi (h.ed i hi) gs sc (c i).s sa m sx F A C (h.j1 (by omega)) (h.ses i hi) h.j2 (frozen_of_row w p 2 _ _ h.blk) (ty_frz (h.tgs (by omega))) hgp h.spots hm).mono ?_
  rintro r' w' ⟨rfl, q⟩
  refine ⟨rfl, ?_⟩
  obtain ⟨sa', sx', hJ, hl⟩ := h.begin hi q.out
  have e : J.lrn ⟨3, ((i : Nat) : Int), 2, fss, fnn, fon, fcd, fn, fb⟩ = { J with cs := J.cs.set i { (c i).co with s := fss }, S := fun t n x => J.S t n x ∧ t ≠ ⟨((i : Nat) : Int), 1, fss⟩ } := by
    unfold Ju.lrn
    rw [hS.get hi rfl, Int.toNat_natCast]
    rfl
  rw [e]
  exact ⟨_, sa', _, sx', _, _, _, w.heap.size, Nat.le_trans (kps_len _ _ _ _) (by omega), hJ, hS.beg hi, fun g hg => .inr (hJ.own.lt g hg).1, fun j hj y hy hp => .inl ⟨_, kps_lt hj, hy, hp⟩, fun l hf => ⟨hl.os, hl.tape, hl.output, hl.size, fun x hx hn => hl.block x hx (by simp; constructor; (rintro rfl; exact hn hf.p); (rintro rfl; exact hn hf.g))⟩⟩
theorem rr_bad (h : RJ w p ge ec gs sc k b c sa m sx F A C Bs n r a) (hS : SJ J k c m F) (f : Fa) (d : Option Addr) (cap : Nat) (hb : J.bad f) : Calls Try.prog 21 #[.pointer (some ⟨p, 0, none⟩), .agg (faC f d cap)] w fun r' w' => r' = .returned (.int .i64 1) ∧ Hid (RR w w' p ge ec gs sc k b sa m sx F A n r a J) := by
  have hj : ∃ ea kc, w.cell? ⟨p, 0, none⟩ = some (.slice ea k kc) := by
    have e := cell_of_row w p 0 _ _ _ h.blk
    by_cases hk : k = 0
    · refine ⟨none, 0, ?_⟩
      rw [e]
      show some (csV k ge ec) = _
      unfold csV
      rw [if_pos hk, hk]
    · exact ⟨_, _, h.j0 (by omega)⟩
  obtain ⟨ea, kc, j0⟩ := hj
  have hb' : f.k < 1 ∨ 8 < f.k ∨ f.c < 0 ∨ ((k : Nat) : Int) ≤ f.c ∨ f.s < 1 ∨ 2 < f.s := by
    unfold Ju.bad at hb
    rw [hS.len] at hb
    rcases hb with e | e | e | e
    · unfold isK at e
      simp at e
      omega
    · exact .inr (.inr (.inl e))
    · exact .inr (.inr (.inr (.inl e)))
    · unfold isS at e
      simp at e
      omega
  refine (rule_bad p k kc ea f.k f.c f.s f.ss f.nn f.on f.cd f.n d cap w j0 hb').mono ?_
  rintro r' w' ⟨rfl, q⟩
  exact ⟨rfl, RR.same h hS q⟩
end
end Go.Proofs.Ythlgahkoignnkaa
namespace Go.Proofs.Ythlgahkoignnkaa
open Go.RowKit Go.Maps Go.Sort
set_option maxRecDepth 100000
section
variable {w w' : World} {p ge ec gs sc k : Nat} {b : Nat → Nat} {c : Nat → RC} {sa : Option Addr} {m sx : Nat} {F : Nat → Fa} {A : Nat → Option Addr} {C : Nat → Nat} {Bs n : Nat} {r a : Int} {J : Ju}
theorem rrule (h : RJ w p ge ec gs sc k b c sa m sx F A C Bs n r a) (hS : SJ J k c m F) (f : Fa) (hf : f.Ok) (d : Option Addr) (cap : Nat) (hr : Row8 w d f.n cap f.b) (hd : ∀ y, d = some y → 0 < f.n → ∀ i, i < k → y.block ≠ b i) (hm : m ≤ 100000) : Calls Try.prog 21 #[.pointer (some ⟨p, 0, none⟩), .agg (faC f d cap)] w fun r' w' => r' = .returned (.int .i64 (J.rule f)) ∧ Hid (RR w w' p ge ec gs sc k b sa m sx F A n r a (if J.rule f = 0 then J.lrn f else J)) := by
  by_cases hb : J.bad f
  · have e : J.rule f = 1 := by unfold Ju.rule; rw [if_pos hb]
    refine (rr_bad h hS f d cap hb).mono ?_
    rintro r' w' ⟨rfl, q⟩
    rw [e, if_neg (by decide)]
    exact ⟨rfl, q⟩
  · obtain ⟨hk, hs, i, co, hc, hco⟩ := Ju.good hb
    have hi : i < k := by
      have := (List.getElem?_eq_some_iff.1 hco).1
      have := hS.len
      omega
    obtain ⟨o1, o2, o3, o4, o5⟩ := hf
    obtain ⟨fk, fc, fs, fss, fnn, fon, fcd, fn, fb⟩ := f
    dsimp only at hc hk hs o1 o2 o3 o4 o5 hr hd
    subst hc
    have h2 : fs = 1 ∨ fs = 2 := by
      unfold isS at hs
      simpa using hs
    have h8 : fk = 1 ∨ fk = 2 ∨ fk = 3 ∨ fk = 4 ∨ fk = 5 ∨ fk = 6 ∨ fk = 7 ∨ fk = 8 := by
      unfold isK at hk
      simp at hk
      omega
    clear hb hco o1 o2 o3
    rcases h2 with rfl | rfl
    · rcases h8 with rfl | rfl | rfl | rfl | rfl | rfl | rfl | rfl
      · have e : J.rule ⟨1, ((i : Nat) : Int), 1, fss, fnn, fon, fcd, fn, fb⟩ = 0 := by rw [hS.rule hi rfl rfl rfl]; rfl
        refine (rr1_1 h hS hi fss fnn fon fcd fn fb d cap hr o5 hm).mono ?_
        rintro r' w' ⟨rfl, q⟩
        rw [e, if_pos rfl]
        exact ⟨rfl, q⟩
      · exact rr2_1 h hS hi fss fnn fon fcd fn fb d cap hr (fun y hy hp => hd y hy hp i hi) (by omega)
      · have e : J.rule ⟨3, ((i : Nat) : Int), 1, fss, fnn, fon, fcd, fn, fb⟩ = 0 := by rw [hS.rule hi rfl rfl rfl]; rfl
        refine (rr3_1 h hS hi fss fnn fon fcd fn fb d cap hm).mono ?_
        rintro r' w' ⟨rfl, q⟩
        rw [e, if_pos rfl]
        exact ⟨rfl, q⟩
      · have e : J.rule ⟨4, ((i : Nat) : Int), 1, fss, fnn, fon, fcd, fn, fb⟩ = 0 := by rw [hS.rule hi rfl rfl rfl]; rfl
        refine (rr4_1 h hS hi fss fnn fon fcd fn fb d cap).mono ?_
        rintro r' w' ⟨rfl, q⟩
        rw [e, if_pos rfl]
        exact ⟨rfl, q⟩
      · have e : J.rule ⟨5, ((i : Nat) : Int), 1, fss, fnn, fon, fcd, fn, fb⟩ = 0 := by rw [hS.rule hi rfl rfl rfl]; rfl
        refine (rr5_1 h hS hi fss fnn fon fcd fn fb d cap o4).mono ?_
        rintro r' w' ⟨rfl, q⟩
        rw [e, if_pos rfl]
        exact ⟨rfl, q⟩
      · have e : J.rule ⟨6, ((i : Nat) : Int), 1, fss, fnn, fon, fcd, fn, fb⟩ = 0 := by rw [hS.rule hi rfl rfl rfl]; rfl
        refine (rr6_1 h hS hi fss fnn fon fcd fn fb d cap).mono ?_
        rintro r' w' ⟨rfl, q⟩
        rw [e, if_pos rfl]
        exact ⟨rfl, q⟩
      · have e : J.rule ⟨7, ((i : Nat) : Int), 1, fss, fnn, fon, fcd, fn, fb⟩ = 0 := by rw [hS.rule hi rfl rfl rfl]; rfl
        refine (rr7_1 h hS hi fss fnn fon fcd fn fb d cap).mono ?_
        rintro r' w' ⟨rfl, q⟩
        rw [e, if_pos rfl]
        exact ⟨rfl, q⟩
      · exact rr8_1 h hS hi fss fnn fon fcd fn fb d cap hr o5
    · rcases h8 with rfl | rfl | rfl | rfl | rfl | rfl | rfl | rfl
      · have e : J.rule ⟨1, ((i : Nat) : Int), 2, fss, fnn, fon, fcd, fn, fb⟩ = 0 := by rw [hS.rule hi rfl rfl rfl]; rfl
        refine (rr1_2 h hS hi fss fnn fon fcd fn fb d cap hr o5 hm).mono ?_
        rintro r' w' ⟨rfl, q⟩
        rw [e, if_pos rfl]
        exact ⟨rfl, q⟩
      · exact rr2_2 h hS hi fss fnn fon fcd fn fb d cap hr (fun y hy hp => hd y hy hp i hi) (by omega)
      · have e : J.rule ⟨3, ((i : Nat) : Int), 2, fss, fnn, fon, fcd, fn, fb⟩ = 0 := by rw [hS.rule hi rfl rfl rfl]; rfl
        refine (rr3_2 h hS hi fss fnn fon fcd fn fb d cap hm).mono ?_
        rintro r' w' ⟨rfl, q⟩
        rw [e, if_pos rfl]
        exact ⟨rfl, q⟩
      · have e : J.rule ⟨4, ((i : Nat) : Int), 2, fss, fnn, fon, fcd, fn, fb⟩ = 0 := by rw [hS.rule hi rfl rfl rfl]; rfl
        refine (rr4_2 h hS hi fss fnn fon fcd fn fb d cap).mono ?_
        rintro r' w' ⟨rfl, q⟩
        rw [e, if_pos rfl]
        exact ⟨rfl, q⟩
      · have e : J.rule ⟨5, ((i : Nat) : Int), 2, fss, fnn, fon, fcd, fn, fb⟩ = 0 := by rw [hS.rule hi rfl rfl rfl]; rfl
        refine (rr5_2 h hS hi fss fnn fon fcd fn fb d cap o4).mono ?_
        rintro r' w' ⟨rfl, q⟩
        rw [e, if_pos rfl]
        exact ⟨rfl, q⟩
      · have e : J.rule ⟨6, ((i : Nat) : Int), 2, fss, fnn, fon, fcd, fn, fb⟩ = 0 := by rw [hS.rule hi rfl rfl rfl]; rfl
        refine (rr6_2 h hS hi fss fnn fon fcd fn fb d cap).mono ?_
        rintro r' w' ⟨rfl, q⟩
        rw [e, if_pos rfl]
        exact ⟨rfl, q⟩
      · have e : J.rule ⟨7, ((i : Nat) : Int), 2, fss, fnn, fon, fcd, fn, fb⟩ = 0 := by rw [hS.rule hi rfl rfl rfl]; rfl
        refine (rr7_2 h hS hi fss fnn fon fcd fn fb d cap).mono ?_
        rintro r' w' ⟨rfl, q⟩
        rw [e, if_pos rfl]
        exact ⟨rfl, q⟩
      · exact rr8_2 h hS hi fss fnn fon fcd fn fb d cap hr o5
end
end Go.Proofs.Ythlgahkoignnkaa
namespace Go.Proofs.Ythlgahkoignnkaa
open Go.RowKit Go.Maps Go.Sort
set_option maxRecDepth 100000
section
variable {w w' : World} {p ge ec gs sc k : Nat} {b : Nat → Nat} {c : Nat → RC} {sa : Option Addr} {m sx : Nat} {F : Nat → Fa} {A : Nat → Option Addr} {C : Nat → Nat} {Bs n : Nat} {r a : Int} {J : Ju}
def RS (w w' : World) (p ge ec gs sc k : Nat) (b : Nat → Nat) (sa : Option Addr) (m sx : Nat) (F : Nat → Fa) (A : Nat → Option Addr) (n : Nat) (J' : Ju) : Prop := RR w w' p ge ec gs sc k b sa m sx F A n J'.r J'.a J'
theorem see_off {w1 w2 : World} (h : RJ w p ge ec gs sc k b c sa m sx F A C Bs n r a) (q : ∀ l, FR p gs k b (.slice sa m sx) l → Off l w1 w2) {x : Nat} (hx : w.heap.size ≤ x) (hx1 : x < w1.heap.size) (hg : gs ≠ x) : w2.heap[x]? = w1.heap[x]? := by
  have hlp : p < w.heap.size := (Array.getElem?_eq_some_iff.1 h.blk).1
  refine (q (p :: gs :: ((List.range k).map b ++ (match (Value.slice sa m sx).ownBlock with | some g => [g] | none => []))) ⟨by simp, by simp, fun i hi => by simp; exact .inr (.inr (.inl ⟨i, hi, rfl⟩)), fun g hg => by rw [hg]; simp⟩).block x hx1 ?_
  simp only [List.mem_cons, List.mem_append, List.mem_map, List.mem_range, not_or]
  refine ⟨by omega, fun e => hg e.symm, ?_, ?_⟩
  · rintro ⟨i, hi, e⟩
    have := h.lt hi
    omega
  · cases ho : (Value.slice sa m sx).ownBlock with
    | none => simp
    | some g =>
      have := (h.own.lt g ho).2
      simp
      omega
theorem RJ.pturn2 (h : RJ w p ge ec gs sc k b c sa m sx F A C Bs n r a) {x : Nat} (o : Off [p, x] w w') (tx : Ty w x 34) (nx : ∀ i, i < k → b i ≠ x) {n' : Nat} {r' a' : Int} (hb : w'.heap[p]? = some (.cells #[csV k ge ec, csV k gs sc, .slice sa m sx, .int .i64 ((n' : Nat) : Int), .int .i64 r', .int .i64 a'] 48 (0, 0))) : RJ w' p ge ec gs sc k b c sa m sx F A C Bs n' r' a' := by
  have np : ∀ y ty, Ty w y ty → ty ≠ 48 → ty ≠ 34 → y ∉ [p, x] := fun y ty hy h1 h2 => by
    have e1 := ty_ne hy h.typ h1
    have e2 := ty_ne hy tx h2
    simp
    exact ⟨e1, e2⟩
  have nb : ∀ i, i < k → b i ∉ [p, x] := fun i hi => by
    simp
    exact ⟨(h.nb i hi).1, nx i hi⟩
  exact ⟨hb, fun i hi => cell_offB (h.out i hi) o (np _ _ (h.tge (by omega)) (by decide) (by decide)), fun hk => ty_off (h.tge hk) o (np _ _ (h.tge hk) (by decide) (by decide)), fun i hi => (h.eh i hi).offB o (nb i hi), fun i hi => (h.ed i hi).offB o (nb i hi), h.nb, h.no, h.nd, h.ok, fun i hi => cell_offB (h.ses i hi) o (np _ _ (h.tgs (by omega)) (by decide) (by decide)), fun hk => ty_off (h.tgs hk) o (np _ _ (h.tgs hk) (by decide) (by decide)), h.inj, own_keepP h.own (fun g hg => o.block g (h.own.lt g hg).2 (np _ _ (h.tow g hg) (by decide) (by decide))), fun j hj => ⟨row8_off2' (h.row j hj).1 o (fun y hy hp => np _ _ ((h.row j hj).2 y hy hp) (by decide) (by decide)), fun y hy hp => ty_off ((h.row j hj).2 y hy hp) o (np _ _ ((h.row j hj).2 y hy hp) (by decide) (by decide))⟩, h.few⟩
theorem off_two {l : List Nat} {w w2 w' : World} {p x : Nat} (o1 : Off l w w2) (o : Off [p, x] w2 w') (hp : p ∈ l) (hx : w.heap.size ≤ x) : Off l w w' := ⟨o.os.trans o1.os, o.tape.trans o1.tape, o.output.trans o1.output, Nat.le_trans o1.size o.size, fun q hq hn => (o.block q (Nat.lt_of_lt_of_le hq o1.size) (by simp; constructor; (rintro rfl; exact hn hp); omega)).trans (o1.block q hq hn)⟩
theorem off_in {l : List Nat} {w w' : World} {p : Nat} (o : Off [p] w w') (hp : p ∈ l) : Off l w w' := ⟨o.os, o.tape, o.output, o.size, fun x hx hn => o.block x hx (by simp; rintro rfl; exact hn hp)⟩
theorem see_fin {w w1 : World} {p vb : Nat} {x y z : Value} {cs : Array Value} {t : TypeId} (b1 : Below w.heap.size w w1) (lp : p < w.heap.size) (hv : w.heap.size ≤ vb) (hb : w1.heap[p]? = some (.cells cs t (0, 0))) : Off [p] w (((w1.setCell ⟨p, 3, none⟩ x).setCell ⟨vb, 0, none⟩ y).setCell ⟨vb, 1, none⟩ z) ∧ (((w1.setCell ⟨p, 3, none⟩ x).setCell ⟨vb, 0, none⟩ y).setCell ⟨vb, 1, none⟩ z).heap[p]? = some (.cells (cs.setIfInBounds 3 x) t (0, 0)) := by
  have o1 : Off [p] w1 (w1.setCell ⟨p, 3, none⟩ x) := Off.setCell _ _ _ _
  have o2 : Off [vb] (w1.setCell ⟨p, 3, none⟩ x) ((w1.setCell ⟨p, 3, none⟩ x).setCell ⟨vb, 0, none⟩ y) := Off.setCell _ _ _ _
  have o3 : Off [vb] ((w1.setCell ⟨p, 3, none⟩ x).setCell ⟨vb, 0, none⟩ y) (((w1.setCell ⟨p, 3, none⟩ x).setCell ⟨vb, 0, none⟩ y).setCell ⟨vb, 1, none⟩ z) := Off.setCell _ _ _ _
  have s1 := b1.size
  have s2 := o1.size
  have s3 := o2.size
  have kk : ∀ q, q < w.heap.size → (((w1.setCell ⟨p, 3, none⟩ x).setCell ⟨vb, 0, none⟩ y).setCell ⟨vb, 1, none⟩ z).heap[q]? = (w1.setCell ⟨p, 3, none⟩ x).heap[q]? := fun q hq => (o3.block q (by omega) (by simp; omega)).trans (o2.block q (by omega) (by simp; omega))
  refine ⟨⟨((o3.os.trans o2.os).trans o1.os).trans b1.os, ((o3.tape.trans o2.tape).trans o1.tape).trans b1.tape, ((o3.output.trans o2.output).trans o1.output).trans b1.output, Nat.le_trans s1 (Nat.le_trans s2 (Nat.le_trans s3 o3.size)), fun q hq hn => (kk q hq).trans ((o1.block q (by omega) hn).trans (b1.block q hq))⟩, (kk p lp).trans (heap_setCell_same _ _ _ _ _ _ hb)⟩
theorem off3 (w : World) (p v : Nat) (x y z : Value) : Off [p, v] w (((w.setCell ⟨p, 3, none⟩ x).setCell ⟨v, 0, none⟩ y).setCell ⟨v, 1, none⟩ z) := by
  have o1 : Off [p] w (w.setCell ⟨p, 3, none⟩ x) := Off.setCell _ _ _ _
  have o2 : Off [v] (w.setCell ⟨p, 3, none⟩ x) ((w.setCell ⟨p, 3, none⟩ x).setCell ⟨v, 0, none⟩ y) := Off.setCell _ _ _ _
  have o3 : Off [v] ((w.setCell ⟨p, 3, none⟩ x).setCell ⟨v, 0, none⟩ y) (((w.setCell ⟨p, 3, none⟩ x).setCell ⟨v, 0, none⟩ y).setCell ⟨v, 1, none⟩ z) := Off.setCell _ _ _ _
  have wide : ∀ {q : Nat} {u u' : World}, q ∈ [p, v] → Off [q] u u' → Off [p, v] u u' := fun hq o => off_in o hq
  exact ((wide (by simp) o1).trans (wide (by simp) o2)).trans (wide (by simp) o3)
theorem heap_two {w : World} {p v : Nat} {y z : Value} {ob : Obj} (h : w.heap[p]? = some ob) (hp : p < w.heap.size) (hv : p ≠ v) : ((w.setCell ⟨v, 0, none⟩ y).setCell ⟨v, 1, none⟩ z).heap[p]? = some ob := by
  have o2 : Off [v] w (w.setCell ⟨v, 0, none⟩ y) := Off.setCell _ _ _ _
  have o3 : Off [v] (w.setCell ⟨v, 0, none⟩ y) ((w.setCell ⟨v, 0, none⟩ y).setCell ⟨v, 1, none⟩ z) := Off.setCell _ _ _ _
  exact (o3.block p (Nat.lt_of_lt_of_le hp o2.size) (by simpa using hv)).trans ((o2.block p hp (by simpa using hv)).trans h)
set_option maxHeartbeats 2000000 in
theorem rsee_done (h : RJ w p ge ec gs sc k b c sa m sx F A C Bs n r a) (hS : SJ J k c m F) (f : Fa) (d : Option Addr) (cap : Nat) (hn : n < 1000000) (hr : r = J.r) (ha : a = J.a) (hJ : J.r ≠ 0) : Calls Try.prog 14 #[.pointer (some ⟨p, 0, none⟩), .agg #[.int .i64 f.k, .int .i64 f.c, .int .i64 f.s, .int .u32 (f.ss : Nat), .int .u32 (f.nn : Nat), .bool f.on, .int .i64 f.cd, .slice d f.n cap]] w fun e w' => e = .returned (.agg #[.int .i64 J.r, .int .i64 J.a]) ∧ Hid (RS w w' p ge ec gs sc k b sa m sx F A (n + 1) J) := by
  subst hr
  subst ha
  have b1 : Below w.heap.size w ((w.alloc (.cells #[.int .i64 f.k, .int .i64 f.c, .int .i64 f.s, .int .u32 (f.ss : Nat), .int .u32 (f.nn : Nat), .bool f.on, .int .i64 f.cd, .slice d f.n cap] 43)).alloc (.cells #[.int .i64 0, .int .i64 0] 34)) := belowG (belowG (Below.refl _ _) _) _
  have h1 := h.below b1
  have lp : p < w.heap.size := (Array.getElem?_eq_some_iff.1 h.blk).1
  have e3 := heap_alloc_new (w.alloc (.cells #[.int .i64 f.k, .int .i64 f.c, .int .i64 f.s, .int .u32 (f.ss : Nat), .int .u32 (f.nn : Nat), .bool f.on, .int .i64 f.cd, .slice d f.n cap] 43)) (.cells #[.int .i64 0, .int .i64 0] 34)
  rw [World.size_alloc] at e3
  obtain ⟨w1, hw1⟩ : ∃ x : World, ((w.alloc (.cells #[.int .i64 f.k, .int .i64 f.c, .int .i64 f.s, .int .u32 (f.ss : Nat), .int .u32 (f.nn : Nat), .bool f.on, .int .i64 f.cd, .slice d f.n cap] 43)).alloc (.cells #[.int .i64 0, .int .i64 0] 34)) = x := ⟨_, rfl⟩
  rw [hw1] at b1 h1 e3
  have q3 := cell_of_row w1 p 3 _ _ _ h1.blk
  have q4 := cell_of_row w1 p 4 _ _ _ h1.blk
  have q5 := cell_of_row w1 p 5 _ _ _ h1.blk
  have qz := fun j => frozen_of_row w1 p j _ _ h1.blk
  have v0 := cell_of_row w1 (w.heap.size + 1) 0 _ _ _ e3
  have v1 := cell_of_row w1 (w.heap.size + 1) 1 _ _ _ e3
  have vz := fun j => frozen_of_row w1 (w.heap.size + 1) j _ _ e3
  have hrb : (J.r == 0) = false := by simpa using hJ
  have hnw : IntKind.i64.wrap (((n : Nat) : Int) + 1) = ((n + 1 : Nat) : Int) := by rw [IntKind.wrap_i64]; omega
  have hpv : ¬ p = w.heap.size + 1 := by omega
  have hpv' : ¬ w.heap.size + 1 = p := by omega
  have HH : Hid (_) := And.intro h (And.intro h1 (And.intro b1 hS))
  clear h h1 b1 hS lp
  go_enter Try.func14, Try.ntmps14
  go_wp2_with fail
  refine bodyPost_ret (v := .agg #[.int .i64 J.r, .int .i64 J.a]) (by simp [results, Try.results14, go_sem, v0, v1]) rfl ⟨rfl, ?_⟩
  obtain ⟨h, h1, b1, hS⟩ := HH.out
  have lp : p < w.heap.size := (Array.getElem?_eq_some_iff.1 h.blk).1
  obtain ⟨o, hb⟩ := see_fin (x := .int .i64 (((n : Nat) : Int) + 1)) (y := .int .i64 J.r) (z := .int .i64 J.a) b1 lp (Nat.le_succ w.heap.size) h1.blk
  exact ⟨c, sa, m, sx, F, A, C, Bs, by omega, h.pturn o hb, hS, fun g hg => .inl hg, fun j hj y hy hp => .inl ⟨j, hj, hy, hp⟩, fun l hl => off_in o hl.p⟩
set_option maxHeartbeats 2000000 in
theorem rsee_zero (h : RJ w p ge ec gs sc k b c sa m sx F A C Bs n r a) (hS : SJ J k c m F) (hgs : gs < w.heap.size) (f : Fa) (hf : f.Ok) (d : Option Addr) (cap : Nat) (hrw : Row8 w d f.n cap f.b) (hd : ∀ y, d = some y → 0 < f.n → ∀ i, i < k → y.block ≠ b i) (hm : m ≤ 100000) (hn : n < 1000000) (hr : r = J.r) (ha : a = J.a) (hJ : J.r = 0) (hru : J.rule f = 0) : Calls Try.prog 14 #[.pointer (some ⟨p, 0, none⟩), .agg #[.int .i64 f.k, .int .i64 f.c, .int .i64 f.s, .int .u32 (f.ss : Nat), .int .u32 (f.nn : Nat), .bool f.on, .int .i64 f.cd, .slice d f.n cap]] w fun e w' => e = .returned (.agg #[.int .i64 (Ju.r { J.lrn f with n := J.n + 1 }), .int .i64 (Ju.a { J.lrn f with n := J.n + 1 })]) ∧ Hid (RS w w' p ge ec gs sc k b sa m sx F A (n + 1) { J.lrn f with n := J.n + 1 }) := by
  subst hr
  subst ha
  have b1 : Below w.heap.size w ((w.alloc (.cells #[.int .i64 f.k, .int .i64 f.c, .int .i64 f.s, .int .u32 (f.ss : Nat), .int .u32 (f.nn : Nat), .bool f.on, .int .i64 f.cd, .slice d f.n cap] 43)).alloc (.cells #[.int .i64 0, .int .i64 0] 34)) := belowG (belowG (Below.refl _ _) _) _
  have h1 := h.below b1
  have lp : p < w.heap.size := (Array.getElem?_eq_some_iff.1 h.blk).1
  have e2 := heap_alloc_new w (.cells #[.int .i64 f.k, .int .i64 f.c, .int .i64 f.s, .int .u32 (f.ss : Nat), .int .u32 (f.nn : Nat), .bool f.on, .int .i64 f.cd, .slice d f.n cap] 43)
  have e3 := heap_alloc_new (w.alloc (.cells #[.int .i64 f.k, .int .i64 f.c, .int .i64 f.s, .int .u32 (f.ss : Nat), .int .u32 (f.nn : Nat), .bool f.on, .int .i64 f.cd, .slice d f.n cap] 43)) (.cells #[.int .i64 0, .int .i64 0] 34)
  rw [World.size_alloc] at e3
  have e2' := ((belowG (Below.refl _ _) (.cells #[.int .i64 0, .int .i64 0] 34)).block w.heap.size (by simp : w.heap.size < (w.alloc (.cells #[.int .i64 f.k, .int .i64 f.c, .int .i64 f.s, .int .u32 (f.ss : Nat), .int .u32 (f.nn : Nat), .bool f.on, .int .i64 f.cd, .slice d f.n cap] 43)).heap.size)).trans e2
  obtain ⟨w1, hw1⟩ : ∃ x : World, ((w.alloc (.cells #[.int .i64 f.k, .int .i64 f.c, .int .i64 f.s, .int .u32 (f.ss : Nat), .int .u32 (f.nn : Nat), .bool f.on, .int .i64 f.cd, .slice d f.n cap] 43)).alloc (.cells #[.int .i64 0, .int .i64 0] 34)) = x := ⟨_, rfl⟩
  rw [hw1] at b1 h1 e3 e2'
  have q4 := cell_of_row w1 p 4 _ _ _ h1.blk
  rw [hJ] at q4
  have f0 := cell_of_row w1 w.heap.size 0 _ _ _ e2'
  have f1 := cell_of_row w1 w.heap.size 1 _ _ _ e2'
  have f2 := cell_of_row w1 w.heap.size 2 _ _ _ e2'
  have f3 := cell_of_row w1 w.heap.size 3 _ _ _ e2'
  have f4 := cell_of_row w1 w.heap.size 4 _ _ _ e2'
  have f5 := cell_of_row w1 w.heap.size 5 _ _ _ e2'
  have f6 := cell_of_row w1 w.heap.size 6 _ _ _ e2'
  have f7 := cell_of_row w1 w.heap.size 7 _ _ _ e2'
  have hR := rrule h1 hS f hf d cap (hrw.below b1) hd hm
  obtain ⟨RV, hRV⟩ : ∃ x, J.rule f = x := ⟨_, rfl⟩
  rw [hRV] at hR hru
  obtain rfl : RV = 0 := hru
  rw [if_pos rfl] at hR
  have hR : Calls Try.prog 21 #[.pointer (some ⟨p, 0, none⟩), .agg #[.int .i64 f.k, .int .i64 f.c, .int .i64 f.s, .int .u32 (f.ss : Nat), .int .u32 (f.nn : Nat), .bool f.on, .int .i64 f.cd, .slice d f.n cap]] w1 fun r' w' => r' = .returned (.int .i64 0) ∧ Hid (RR w1 w' p ge ec gs sc k b sa m sx F A n J.r J.a (J.lrn f)) := hR
  have hnw : IntKind.i64.wrap (((n : Nat) : Int) + 1) = ((n + 1 : Nat) : Int) := by rw [IntKind.wrap_i64]; omega
  have hpv : ¬ p = w.heap.size + 1 := by omega
  have hpv' : ¬ w.heap.size + 1 = p := by omega
  have HRV : Hid (J.rule f = 0) := hRV
  have HH : Hid (_) := And.intro h (And.intro h1 (And.intro b1 (And.intro e3 (And.intro hgs lp))))
  have HJ0 : Hid (J.r = 0) := hJ
  obtain ⟨J2, hJ2⟩ : ∃ x : Ju, { J.lrn f with n := J.n + 1 } = x := ⟨_, rfl⟩
  rw [hJ2]
  have HJ2 : Hid (_) := hJ2
  clear h h1 b1 hS lp e2 e3 e2' hrw hd hf hgs hRV hJ hJ2
  go_enter Try.func14, Try.ntmps14
  go_wp2_with fail
  refine hR.mono ?_
  rintro e w2 ⟨rfl, q⟩
  obtain ⟨c', sa', m', sx', F', A', C', Bs', m1, R2, S2, o2, da, fr⟩ := q.out
  obtain ⟨h, h1, b1, e3, hgs, lp⟩ := HH.out
  have eV := (see_off h fr (x := w.heap.size + 1) (by omega) (Array.getElem?_eq_some_iff.1 e3).1 (by omega)).trans e3
  have p3 := cell_of_row w2 p 3 _ _ _ R2.blk
  have p4 := cell_of_row w2 p 4 _ _ _ R2.blk
  have p5 := cell_of_row w2 p 5 _ _ _ R2.blk
  have pz := fun j => frozen_of_row w2 p j _ _ R2.blk
  have v0 := cell_of_row w2 (w.heap.size + 1) 0 _ _ _ eV
  have v1 := cell_of_row w2 (w.heap.size + 1) 1 _ _ _ eV
  have vz := fun j => frozen_of_row w2 (w.heap.size + 1) j _ _ eV
  have KK : Hid (_) := And.intro R2 (And.intro S2 (And.intro o2 (And.intro fr (And.intro eV (And.intro m1 da)))))
  clear R2 S2 o2 da fr h h1 b1 e3 hgs eV q f0 f1 f2 f3 f4 f5 f6 f7 q4 m1
  clear lp
  go_wp2_with fail
  refine bodyPost_ret (v := .agg #[.int .i64 J.r, .int .i64 J.a]) (by simp [results, Try.results14, go_sem, v0, v1]) rfl ⟨?_, ?_⟩
  · rw [← HJ2.out]
    obtain ⟨l1, l2, _⟩ := lrn_rest J f
    show Ending.returned (.agg #[.int .i64 J.r, .int .i64 J.a]) = Ending.returned (.agg #[.int .i64 (J.lrn f).r, .int .i64 (J.lrn f).a])
    rw [l1, l2]
  · obtain ⟨R2, S2, o2, fr, eV, m1, da⟩ := KK.out
    obtain ⟨h, h1, b1, e3, hgs, lp⟩ := HH.out
    obtain ⟨l1, l2, _⟩ := lrn_rest J f
    have o : Off [p, w.heap.size + 1] w2 (((w2.setCell ⟨p, 3, none⟩ (.int .i64 (((n : Nat) : Int) + 1))).setCell ⟨w.heap.size + 1, 0, none⟩ (.int .i64 J.r)).setCell ⟨w.heap.size + 1, 1, none⟩ (.int .i64 J.a)) := off3 _ _ _ _ _ _
    have hb : (((w2.setCell ⟨p, 3, none⟩ (.int .i64 (((n : Nat) : Int) + 1))).setCell ⟨w.heap.size + 1, 0, none⟩ (.int .i64 J.r)).setCell ⟨w.heap.size + 1, 1, none⟩ (.int .i64 J.a)).heap[p]? = some (.cells #[csV k ge ec, csV k gs sc, .slice sa' m' sx', .int .i64 (((n : Nat) : Int) + 1), .int .i64 J.r, .int .i64 J.a] 48 (0, 0)) := heap_two (heap_setCell_same _ _ _ _ _ _ R2.blk) (by have := (Array.getElem?_eq_some_iff.1 R2.blk).1; simpa [World.setCell] using this) (by omega)
    have q := R2.pturn2 (n' := n + 1) o ⟨_, eV⟩ (fun i hi => by have := h.lt hi; omega) hb
    rw [← HJ2.out]
    refine ⟨c', sa', m', sx', F', A', C', Bs', m1, ?_, ⟨S2.len, S2.con, S2.snt, S2.sd⟩, fun g hg => (o2 g hg).imp id (fun z => Nat.le_trans b1.size z), fun j hj y hy hp => (da j hj y hy hp).imp id (fun z => Nat.le_trans b1.size z), fun l hl => off_two ((Off.of_below b1).trans (fr l hl)) o hl.p (Nat.le_succ _)⟩
    show RJ _ p ge ec gs sc k b c' sa' m' sx' F' A' C' Bs' (n + 1) (J.lrn f).r (J.lrn f).a
    rw [l1, l2]
    exact q
set_option maxHeartbeats 2000000 in
theorem rsee_bad (h : RJ w p ge ec gs sc k b c sa m sx F A C Bs n r a) (hS : SJ J k c m F) (hgs : gs < w.heap.size) (f : Fa) (hf : f.Ok) (d : Option Addr) (cap : Nat) (hrw : Row8 w d f.n cap f.b) (hd : ∀ y, d = some y → 0 < f.n → ∀ i, i < k → y.block ≠ b i) (hm : m ≤ 100000) (hn : n < 1000000) (hr : r = J.r) (ha : a = J.a) (hJ : J.r = 0) (hnn : n = J.n) (hru : J.rule f ≠ 0) : Calls Try.prog 14 #[.pointer (some ⟨p, 0, none⟩), .agg #[.int .i64 f.k, .int .i64 f.c, .int .i64 f.s, .int .u32 (f.ss : Nat), .int .u32 (f.nn : Nat), .bool f.on, .int .i64 f.cd, .slice d f.n cap]] w fun e w' => e = .returned (.agg #[.int .i64 (Ju.r { J with r := J.rule f, a := ((J.n : Nat) : Int) }), .int .i64 (Ju.a { J with r := J.rule f, a := ((J.n : Nat) : Int) })]) ∧ Hid (RS w w' p ge ec gs sc k b sa m sx F A (n + 1) { J with r := J.rule f, a := ((J.n : Nat) : Int) }) := by
  subst hr
  subst ha
  have b1 : Below w.heap.size w ((w.alloc (.cells #[.int .i64 f.k, .int .i64 f.c, .int .i64 f.s, .int .u32 (f.ss : Nat), .int .u32 (f.nn : Nat), .bool f.on, .int .i64 f.cd, .slice d f.n cap] 43)).alloc (.cells #[.int .i64 0, .int .i64 0] 34)) := belowG (belowG (Below.refl _ _) _) _
  have h1 := h.below b1
  have lp : p < w.heap.size := (Array.getElem?_eq_some_iff.1 h.blk).1
  have e2 := heap_alloc_new w (.cells #[.int .i64 f.k, .int .i64 f.c, .int .i64 f.s, .int .u32 (f.ss : Nat), .int .u32 (f.nn : Nat), .bool f.on, .int .i64 f.cd, .slice d f.n cap] 43)
  have e3 := heap_alloc_new (w.alloc (.cells #[.int .i64 f.k, .int .i64 f.c, .int .i64 f.s, .int .u32 (f.ss : Nat), .int .u32 (f.nn : Nat), .bool f.on, .int .i64 f.cd, .slice d f.n cap] 43)) (.cells #[.int .i64 0, .int .i64 0] 34)
  rw [World.size_alloc] at e3
  have e2' := ((belowG (Below.refl _ _) (.cells #[.int .i64 0, .int .i64 0] 34)).block w.heap.size (by simp : w.heap.size < (w.alloc (.cells #[.int .i64 f.k, .int .i64 f.c, .int .i64 f.s, .int .u32 (f.ss : Nat), .int .u32 (f.nn : Nat), .bool f.on, .int .i64 f.cd, .slice d f.n cap] 43)).heap.size)).trans e2
  obtain ⟨w1, hw1⟩ : ∃ x : World, ((w.alloc (.cells #[.int .i64 f.k, .int .i64 f.c, .int .i64 f.s, .int .u32 (f.ss : Nat), .int .u32 (f.nn : Nat), .bool f.on, .int .i64 f.cd, .slice d f.n cap] 43)).alloc (.cells #[.int .i64 0, .int .i64 0] 34)) = x := ⟨_, rfl⟩
  rw [hw1] at b1 h1 e3 e2'
  have q4 := cell_of_row w1 p 4 _ _ _ h1.blk
  rw [hJ] at q4
  have f0 := cell_of_row w1 w.heap.size 0 _ _ _ e2'
  have f1 := cell_of_row w1 w.heap.size 1 _ _ _ e2'
  have f2 := cell_of_row w1 w.heap.size 2 _ _ _ e2'
  have f3 := cell_of_row w1 w.heap.size 3 _ _ _ e2'
  have f4 := cell_of_row w1 w.heap.size 4 _ _ _ e2'
  have f5 := cell_of_row w1 w.heap.size 5 _ _ _ e2'
  have f6 := cell_of_row w1 w.heap.size 6 _ _ _ e2'
  have f7 := cell_of_row w1 w.heap.size 7 _ _ _ e2'
  have hR := rrule h1 hS f hf d cap (hrw.below b1) hd hm
  obtain ⟨RV, hRV⟩ : ∃ x, J.rule f = x := ⟨_, rfl⟩
  rw [hRV] at hR hru
  have hrv : (RV != 0) = true := by simpa using hru
  rw [if_neg hru] at hR
  have hR : Calls Try.prog 21 #[.pointer (some ⟨p, 0, none⟩), .agg #[.int .i64 f.k, .int .i64 f.c, .int .i64 f.s, .int .u32 (f.ss : Nat), .int .u32 (f.nn : Nat), .bool f.on, .int .i64 f.cd, .slice d f.n cap]] w1 fun r' w' => r' = .returned (.int .i64 RV) ∧ Hid (RR w1 w' p ge ec gs sc k b sa m sx F A n J.r J.a J) := hR
  have hnw : IntKind.i64.wrap (((n : Nat) : Int) + 1) = ((n + 1 : Nat) : Int) := by rw [IntKind.wrap_i64]; omega
  have hpv : ¬ p = w.heap.size + 1 := by omega
  have hpv' : ¬ w.heap.size + 1 = p := by omega
  have HRV : Hid (J.rule f = RV) := hRV
  have HNN : Hid (n = J.n) := hnn
  have HH : Hid (_) := And.intro h (And.intro h1 (And.intro b1 (And.intro e3 (And.intro hgs lp))))
  have HJ0 : Hid (J.r = 0) := hJ
  obtain ⟨J2, hJ2⟩ : ∃ x : Ju, { J with r := J.rule f, a := ((J.n : Nat) : Int) } = x := ⟨_, rfl⟩
  rw [hJ2]
  have HJ2 : Hid (_) := hJ2
  clear h h1 b1 hS lp e2 e3 e2' hrw hd hf hgs hRV hJ hJ2 hru hnn
  go_enter Try.func14, Try.ntmps14
  go_wp2_with fail
  refine hR.mono ?_
  rintro e w2 ⟨rfl, q⟩
  obtain ⟨c', sa', m', sx', F', A', C', Bs', m1, R2, S2, o2, da, fr⟩ := q.out
  obtain ⟨h, h1, b1, e3, hgs, lp⟩ := HH.out
  have eV := (see_off h fr (x := w.heap.size + 1) (by omega) (Array.getElem?_eq_some_iff.1 e3).1 (by omega)).trans e3
  have p3 := cell_of_row w2 p 3 _ _ _ R2.blk
  have p4 := cell_of_row w2 p 4 _ _ _ R2.blk
  have p5 := cell_of_row w2 p 5 _ _ _ R2.blk
  have pz := fun j => frozen_of_row w2 p j _ _ R2.blk
  have v0 := cell_of_row w2 (w.heap.size + 1) 0 _ _ _ eV
  have v1 := cell_of_row w2 (w.heap.size + 1) 1 _ _ _ eV
  have vz := fun j => frozen_of_row w2 (w.heap.size + 1) j _ _ eV
  have KK : Hid (_) := And.intro R2 (And.intro S2 (And.intro o2 (And.intro fr (And.intro eV (And.intro m1 da)))))
  clear R2 S2 o2 da fr h h1 b1 e3 hgs eV q f0 f1 f2 f3 f4 f5 f6 f7 q4 m1
  clear lp
  go_wp2_with fail
  refine bodyPost_ret (v := .agg #[.int .i64 RV, .int .i64 ((n : Nat) : Int)]) (by simp [results, Try.results14, go_sem, v0, v1]) rfl ⟨?_, ?_⟩
  · rw [← HJ2.out]
    show Ending.returned (.agg #[.int .i64 RV, .int .i64 ((n : Nat) : Int)]) = Ending.returned (.agg #[.int .i64 (J.rule f), .int .i64 ((J.n : Nat) : Int)])
    rw [HRV.out, HNN.out]
  · obtain ⟨R2, S2, o2, fr, eV, m1, da⟩ := KK.out
    obtain ⟨h, h1, b1, e3, hgs, lp⟩ := HH.out
    have oa : Off [p, w.heap.size + 1] w2 ((w2.setCell ⟨p, 4, none⟩ (.int .i64 RV)).setCell ⟨p, 5, none⟩ (.int .i64 ((n : Nat) : Int))) := (off_in (Off.setCell p 4 w2 (.int .i64 RV)) (by simp)).trans (off_in (Off.setCell p 5 (w2.setCell ⟨p, 4, none⟩ (.int .i64 RV)) (.int .i64 ((n : Nat) : Int))) (by simp))
    have o := oa.trans (off3 ((w2.setCell ⟨p, 4, none⟩ (.int .i64 RV)).setCell ⟨p, 5, none⟩ (.int .i64 ((n : Nat) : Int))) p (w.heap.size + 1) (.int .i64 (((n : Nat) : Int) + 1)) (.int .i64 RV) (.int .i64 ((n : Nat) : Int)))
    have hb := heap_two (y := .int .i64 RV) (z := .int .i64 ((n : Nat) : Int)) (v := w.heap.size + 1) (heap_setCell_same _ _ 3 _ _ (.int .i64 (((n : Nat) : Int) + 1)) (heap_setCell_same _ _ 5 _ _ (.int .i64 ((n : Nat) : Int)) (heap_setCell_same _ _ 4 _ _ (.int .i64 RV) R2.blk))) (by have := (Array.getElem?_eq_some_iff.1 R2.blk).1; simpa [World.setCell] using this) (by omega)
    have q := R2.pturn2 (n' := n + 1) o ⟨_, eV⟩ (fun i hi => by have := h.lt hi; omega) hb
    rw [← HJ2.out]
    refine ⟨c', sa', m', sx', F', A', C', Bs', m1, ?_, ⟨S2.len, S2.con, S2.snt, S2.sd⟩, fun g hg => (o2 g hg).imp id (fun z => Nat.le_trans b1.size z), fun j hj y hy hp => (da j hj y hy hp).imp id (fun z => Nat.le_trans b1.size z), fun l hl => off_two ((Off.of_below b1).trans (fr l hl)) o hl.p (Nat.le_succ _)⟩
    show RJ _ p ge ec gs sc k b c' sa' m' sx' F' A' C' Bs' (n + 1) (J.rule f) ((J.n : Nat) : Int)
    rw [HRV.out, ← HNN.out]
    exact q
end
end Go.Proofs.Ythlgahkoignnkaa
namespace Go.Proofs.Ythlgahkoignnkaa
open Go.RowKit Go.Maps Go.Sort
set_option maxRecDepth 100000
theorem rsee {w : World} {p ge ec gs sc k : Nat} {b : Nat → Nat} {c : Nat → RC} {sa : Option Addr} {m sx : Nat} {F : Nat → Fa} {A : Nat → Option Addr} {C : Nat → Nat} {Bs n : Nat} {J : Ju} (h : RJ w p ge ec gs sc k b c sa m sx F A C Bs n J.r J.a) (hS : SJ J k c m F) (hgs : gs < w.heap.size) (f : Fa) (hf : f.Ok) (d : Option Addr) (cap : Nat) (hrw : Row8 w d f.n cap f.b) (hd : ∀ y, d = some y → 0 < f.n → ∀ i, i < k → y.block ≠ b i) (hm : m ≤ 100000) (hn : n < 1000000) (hn0 : J.r = 0 → n = J.n) :
    Calls Try.prog 14 #[.pointer (some ⟨p, 0, none⟩), .agg (faC f d cap)] w fun e w' => e = .returned (.agg #[.int .i64 (J.see f).r, .int .i64 (J.see f).a]) ∧ Hid (RS w w' p ge ec gs sc k b sa m sx F A (n + 1) (J.see f) ∧ ((J.see f).r = 0 → n + 1 = (J.see f).n)) := by
  by_cases h0 : J.r = 0
  · by_cases hr : J.rule f = 0
    · have e : J.see f = { J.lrn f with n := J.n + 1 } := by
        unfold Ju.see
        rw [if_neg (by simp [h0]), if_neg (by simp [hr])]
      rw [e]
      refine (rsee_zero h hS hgs f hf d cap hrw hd hm hn rfl rfl h0 hr).mono ?_
      rintro r w' ⟨rfl, q⟩
      exact ⟨rfl, q, fun _ => by rw [hn0 h0]⟩
    · have e : J.see f = { J with r := J.rule f, a := ((J.n : Nat) : Int) } := by
        unfold Ju.see
        rw [if_neg (by simp [h0]), if_pos hr]
      rw [e]
      refine (rsee_bad h hS hgs f hf d cap hrw hd hm hn rfl rfl h0 (hn0 h0) hr).mono ?_
      rintro r w' ⟨rfl, q⟩
      exact ⟨rfl, q, fun z => absurd z hr⟩
  · have e : J.see f = J := see_stuck h0 f
    rw [e]
    refine (rsee_done h hS f d cap hn rfl rfl h0).mono ?_
    rintro r w' ⟨rfl, q⟩
    exact ⟨rfl, q, fun z => absurd z h0⟩
end Go.Proofs.Ythlgahkoignnkaa
namespace Go.Proofs.Ythlgahkoignnkaa
open Go.RowKit Go.Maps
theorem EnW.offB {l : List Nat} {w w' : World} {g p : Nat} {e : En} (h : EnW w g p e) (o : Off l w w') (hg : g ∉ l) : EnW w' g p e := by
  have he := o.block g h.lt hg
  have cc : ∀ z u, w.cell? ⟨g, z, none⟩ = some u → w'.cell? ⟨g, z, none⟩ = some u := fun z u hu => by rw [World.cell?_of_block (a := ⟨g, z, none⟩) he]; exact hu
  obtain ⟨c0, c1, c2, c3, c4, c5, c6, c7, c8, fz⟩ := h
  exact ⟨cc _ _ c0, cc _ _ c1, cc _ _ c2, cc _ _ c3, cc _ _ c4, cc _ _ c5, cc _ _ c6, cc _ _ c7, cc _ _ c8, fun z => by have := fz z; unfold World.frozen? at this ⊢; rw [he]; exact this⟩
theorem CoW.offB {l : List Nat} {w w' : World} {g p : Nat} {c : Co} (h : CoW w g p c) (o : Off l w w') (hg : g ∉ l) : CoW w' g p c :=
  ⟨h.h.offB o hg, h.d.offB o hg, by rw [World.cell?_of_block (a := ⟨g, p + 18, none⟩) (o.block g h.h.lt hg)]; exact h.s⟩
theorem GJ.offB {l : List Nat} {w w' : World} {jb g cap ob N : Nat} {M : TK → Option Nat} {J : Ju} (h : GJ w jb g cap ob N M J) (o : Off l w w') (hj : jb ∉ l) (hg : g ∉ l) (ho : ob ∉ l) (hM : ∀ t b, t.ok → M t = some b → b ∉ l) : GJ w' jb g cap ob N M J :=
  ⟨(o.block _ (Array.getElem?_eq_some_iff.1 h.blk).1 hj).trans h.blk, fun i c hc => (h.con i c hc).offB o hg, h.sm.off o ho hM, h.ne, h.few⟩
end Go.Proofs.Ythlgahkoignnkaa
