/- Part 41 of the texts on which the proof rests: contracts of Go functions. -/
import Derived.Test.YtpbcgpdfjplidaaGreatPkN39
namespace Go.Proofs.YtpbcgpdfjplidaaGreat
set_option maxRecDepth 100000
open Go.RowKit Go.Maps
set_option maxRecDepth 100000
set_option linter.unusedVariables false
def blT (l : List (Nat × Obj)) : Thing := ⟨l.map (·.1), fun w => ∀ p, p ∈ l → w.heap[p.1]? = some p.2, fun w w' q h o hl p hp => (o.block p.1 (Array.getElem?_eq_some_iff.1 (h p hp)).1 (hl p.1 (List.mem_map_of_mem hp))).trans (h p hp)⟩
theorem PW.layL {e : Nat → Nat} {w0 w1 w : World} {t : Nat → Thing} {L : Pw} (h : PW e w0 w1 t L) (b : Below w1.heap.size w1 w) {i : Nat} (hi : ∀ j, i ≠ e j) {l : List (Nat × Obj)} (R : ∀ p, p ∈ l → w.heap[p.1]? = some p.2) (hnew : ∀ p, p ∈ l → w1.heap.size ≤ p.1) : PW e w0 w (putT t i (blT l)) L := by
  have h2 := h.below b
  have hu : ∀ k, k ∈ (blT l).U → ∃ p, p ∈ l ∧ p.1 = k := fun k hk => by
    have hk : k ∈ l.map (·.1) := hk
    simpa using hk
  refine ⟨h2.1.turn i _ (Off.refl _ _) R (fun k hk => ?_) (fun k hk j hj hm => ?_), h.2.1, fun j => ?_⟩
  · obtain ⟨p, hp, rfl⟩ := hu k hk
    exact ⟨Nat.le_trans h.1.size (hnew p hp), (Array.getElem?_eq_some_iff.1 (R p hp)).1⟩
  · obtain ⟨p, hp, rfl⟩ := hu k hk
    have := (h.1.lt j _ hm).2
    have := hnew p hp
    omega
  · rw [putT_ne _ _ (fun q => hi j q.symm)]
    exact h.2.2 j
def Fre (e : Nat → Nat) (t : Nat → Thing) (i : Nat) : Prop := ∀ q, i ≤ q → (∀ j, 2 * q + 1 ≠ e j) ∧ t (2 * q + 1) = noT
theorem Fre.put {e : Nat → Nat} {t : Nat → Thing} {i : Nat} (h : Fre e t i) (x : Thing) : Fre e (putT t (2 * i + 1) x) (i + 1) := fun q hq => ⟨(h q (by omega)).1, by rw [putT_ne _ _ (by omega)]; exact (h q (by omega)).2⟩
theorem Fre.els {e : Nat → Nat} {t t' : Nat → Thing} {i : Nat} (h : Fre e t i) (l : Els e t t') : Fre e t' i := fun q hq => ⟨(h q hq).1, by rw [l _ (h q hq).1]; exact (h q hq).2⟩
set_option maxHeartbeats 4000000 in
theorem pnoteChange (e : Nat → Nat) (w0 w : World) (t : Nat → Thing) (L : Pw) (k : Nat) (a b : Sd) (n : Nat) (aa ab : Option Addr) (ca cb i : Nat) (h : PW e w0 w t L) (F : Fre e t i) (hF : L.S.fs.length ≤ 90000) : Calls Tryz.prog 87 #[.pointer (some ⟨L.x, 0, none⟩), .int .i64 (k : Nat), .agg #[.int .i64 (a.st : Nat), .int .u32 (a.ss : Nat), .int .u32 (a.nm : Nat), .int .u32 (a.sn : Nat), .int .i64 (a.dc : Nat), .int .i64 a.v.lat, .bool (vreq a.v), .bool (von a.v), .slice aa n ca], .agg #[.int .i64 (b.st : Nat), .int .u32 (b.ss : Nat), .int .u32 (b.nm : Nat), .int .u32 (b.sn : Nat), .int .i64 (b.dc : Nat), .int .i64 b.v.lat, .bool (vreq b.v), .bool (von b.v), .slice ab n cb]] w fun r w' => r = .returned (.tuple #[]) ∧ Hid (PWn e w0 t L w' (L.S.note (fChg k a b))) := by
  have kA := heap_alloc_new w (.cells #[.int .i64 (a.st : Nat), .int .u32 (a.ss : Nat), .int .u32 (a.nm : Nat), .int .u32 (a.sn : Nat), .int .i64 (a.dc : Nat), .int .i64 a.v.lat, .bool (vreq a.v), .bool (von a.v), .slice aa n ca] 33)
  have bA := belY (Below.refl _ w) (.cells #[.int .i64 (a.st : Nat), .int .u32 (a.ss : Nat), .int .u32 (a.nm : Nat), .int .u32 (a.sn : Nat), .int .i64 (a.dc : Nat), .int .i64 a.v.lat, .bool (vreq a.v), .bool (von a.v), .slice aa n ca] 33)
  have zA : (w.alloc (.cells #[.int .i64 (a.st : Nat), .int .u32 (a.ss : Nat), .int .u32 (a.nm : Nat), .int .u32 (a.sn : Nat), .int .i64 (a.dc : Nat), .int .i64 a.v.lat, .bool (vreq a.v), .bool (von a.v), .slice aa n ca] 33)).heap.size = w.heap.size + 1 := Array.size_push ..
  obtain ⟨wa, hwa⟩ : ∃ y, w.alloc (.cells #[.int .i64 (a.st : Nat), .int .u32 (a.ss : Nat), .int .u32 (a.nm : Nat), .int .u32 (a.sn : Nat), .int .i64 (a.dc : Nat), .int .i64 a.v.lat, .bool (vreq a.v), .bool (von a.v), .slice aa n ca] 33) = y := ⟨_, rfl⟩
  rw [hwa] at kA bA zA
  have kB := heap_alloc_new wa (.cells #[.int .i64 (b.st : Nat), .int .u32 (b.ss : Nat), .int .u32 (b.nm : Nat), .int .u32 (b.sn : Nat), .int .i64 (b.dc : Nat), .int .i64 b.v.lat, .bool (vreq b.v), .bool (von b.v), .slice ab n cb] 33)
  have bB := belY (Below.refl _ wa) (.cells #[.int .i64 (b.st : Nat), .int .u32 (b.ss : Nat), .int .u32 (b.nm : Nat), .int .u32 (b.sn : Nat), .int .i64 (b.dc : Nat), .int .i64 b.v.lat, .bool (vreq b.v), .bool (von b.v), .slice ab n cb] 33)
  obtain ⟨wb, hwb⟩ : ∃ y, wa.alloc (.cells #[.int .i64 (b.st : Nat), .int .u32 (b.ss : Nat), .int .u32 (b.nm : Nat), .int .u32 (b.sn : Nat), .int .i64 (b.dc : Nat), .int .i64 b.v.lat, .bool (vreq b.v), .bool (von b.v), .slice ab n cb] 33) = y := ⟨_, rfl⟩
  rw [hwb] at kB bB
  obtain ⟨x, hx⟩ : ∃ y, w.heap.size = y := ⟨_, rfl⟩
  obtain ⟨y, hy⟩ : ∃ y, wa.heap.size = y := ⟨_, rfl⟩
  have kA2 : wb.heap[x]? = some (.cells #[.int .i64 (a.st : Nat), .int .u32 (a.ss : Nat), .int .u32 (a.nm : Nat), .int .u32 (a.sn : Nat), .int .i64 (a.dc : Nat), .int .i64 a.v.lat, .bool (vreq a.v), .bool (von a.v), .slice aa n ca] 33 (0, 0)) := by
    rw [← hx]
    exact (bB.block _ (by omega)).trans kA
  have kB2 : wb.heap[y]? = some (.cells #[.int .i64 (b.st : Nat), .int .u32 (b.ss : Nat), .int .u32 (b.nm : Nat), .int .u32 (b.sn : Nat), .int .i64 (b.dc : Nat), .int .i64 b.v.lat, .bool (vreq b.v), .bool (von b.v), .slice ab n cb] 33 (0, 0)) := by
    rw [← hy]
    exact kB
  have bW : Below w.heap.size w wb := bA.trans (bB.mono bA.size)
  have h9 := h.layL bW (i := 2 * i + 1) (F i (Nat.le_refl _)).1 (l := [(x, .cells #[.int .i64 (a.st : Nat), .int .u32 (a.ss : Nat), .int .u32 (a.nm : Nat), .int .u32 (a.sn : Nat), .int .i64 (a.dc : Nat), .int .i64 a.v.lat, .bool (vreq a.v), .bool (von a.v), .slice aa n ca] 33 (0, 0)), (y, .cells #[.int .i64 (b.st : Nat), .int .u32 (b.ss : Nat), .int .u32 (b.nm : Nat), .int .u32 (b.sn : Nat), .int .i64 (b.dc : Nat), .int .i64 b.v.lat, .bool (vreq b.v), .bool (von b.v), .slice ab n cb] 33 (0, 0))]) (by
    intro p hp
    simp only [List.mem_cons, List.not_mem_nil, or_false] at hp
    rcases hp with rfl | rfl
    · exact kA2
    · exact kB2) (by
    intro p hp
    simp only [List.mem_cons, List.not_mem_nil, or_false] at hp
    rcases hp with rfl | rfl
    · exact Nat.le_of_eq hx
    · show w.heap.size ≤ y
      omega)
  obtain ⟨t9, ht9⟩ : ∃ z, putT t (2 * i + 1) (blT [(x, .cells #[.int .i64 (a.st : Nat), .int .u32 (a.ss : Nat), .int .u32 (a.nm : Nat), .int .u32 (a.sn : Nat), .int .i64 (a.dc : Nat), .int .i64 a.v.lat, .bool (vreq a.v), .bool (von a.v), .slice aa n ca] 33 (0, 0)), (y, .cells #[.int .i64 (b.st : Nat), .int .u32 (b.ss : Nat), .int .u32 (b.nm : Nat), .int .u32 (b.sn : Nat), .int .i64 (b.dc : Nat), .int .i64 b.v.lat, .bool (vreq b.v), .bool (von b.v), .slice ab n cb] 33 (0, 0))]) = z := ⟨_, rfl⟩
  have t9i : t9 (2 * i + 1) = blT [(x, .cells #[.int .i64 (a.st : Nat), .int .u32 (a.ss : Nat), .int .u32 (a.nm : Nat), .int .u32 (a.sn : Nat), .int .i64 (a.dc : Nat), .int .i64 a.v.lat, .bool (vreq a.v), .bool (von a.v), .slice aa n ca] 33 (0, 0)), (y, .cells #[.int .i64 (b.st : Nat), .int .u32 (b.ss : Nat), .int .u32 (b.nm : Nat), .int .u32 (b.sn : Nat), .int .i64 (b.dc : Nat), .int .i64 b.v.lat, .bool (vreq b.v), .bool (von b.v), .slice ab n cb] 33 (0, 0))] := by
    rw [← ht9]
    exact putT_same _ _ _
  have HZ : Hid (∀ w' S, PWn e w0 t9 L w' S → PWn e w0 t L w' S) := fun w' S q => by
    rw [← ht9] at q
    exact q.drop (F i (Nat.le_refl _)).1 (F i (Nat.le_refl _)).2
  rw [ht9] at h9
  have hN : Calls Tryz.prog 44 #[.pointer (some ⟨L.x, 0, none⟩), .agg #[.int .i64 7, .int .i64 (k : Nat), .int .i64 2, .int .u32 0, .int .u32 0, .bool false, .int .i64 0, .slice none 0 0]] wb fun r w' => r = .returned (.tuple #[]) ∧ Hid (PWn e w0 t9 L w' (L.S.note [fOne 7 k 2])) := pnote0 e w0 wb t9 L 7 k 2 0 0 h9 (by omega)
  have HK : Hid (∀ w1 l, PWn e w0 t9 L w1 (L.S.note l) → l.length ≤ 1 → w1.cell? ⟨x, 1, none⟩ = some (.int .u32 (a.ss : Nat)) ∧ w1.cell? ⟨y, 1, none⟩ = some (.int .u32 (b.ss : Nat)) ∧ Calls Tryz.prog 44 #[.pointer (some ⟨L.x, 0, none⟩), .agg #[.int .i64 3, .int .i64 (k : Nat), .int .i64 2, .int .u32 (b.ss : Nat), .int .u32 0, .bool false, .int .i64 0, .slice none 0 0]] w1 fun r w' => r = .returned (.tuple #[]) ∧ Hid (PWn e w0 t9 L w' (L.S.note (l ++ [⟨3, k, 2, b.ss, 0, false, 0, fm0⟩])))) := fun w1 l q hl => by
    obtain ⟨t1, L1, h1, hs, hf, he⟩ := q
    have ht := h1.1.get (i := 2 * i + 1) ((he _ (F i (Nat.le_refl _)).1).trans t9i)
    have g1 : w1.heap[x]? = _ := ht (x, .cells #[.int .i64 (a.st : Nat), .int .u32 (a.ss : Nat), .int .u32 (a.nm : Nat), .int .u32 (a.sn : Nat), .int .i64 (a.dc : Nat), .int .i64 a.v.lat, .bool (vreq a.v), .bool (von a.v), .slice aa n ca] 33 (0, 0)) (by simp)
    have g2 : w1.heap[y]? = _ := ht (y, .cells #[.int .i64 (b.st : Nat), .int .u32 (b.ss : Nat), .int .u32 (b.nm : Nat), .int .u32 (b.sn : Nat), .int .i64 (b.dc : Nat), .int .i64 b.v.lat, .bool (vreq b.v), .bool (von b.v), .slice ab n cb] 33 (0, 0)) (by simp)
    refine ⟨cell_of_row w1 x 1 _ _ _ g1, cell_of_row w1 y 1 _ _ _ g2, ?_⟩
    have e1 : L1.S.fs.length ≤ 100000 := by
      rw [hs]
      show (L.S.fs ++ l).length ≤ 100000
      rw [List.length_append]
      omega
    have := pnote0 e w0 w1 t1 L1 3 k 2 b.ss 0 h1 e1
    rw [hf.x] at this
    refine this.mono ?_
    rintro r w' ⟨rfl, H⟩
    refine ⟨rfl, PWn.bind hf he ?_⟩
    have e2 : L1.S.note [⟨3, k, 2, b.ss, 0, false, 0, fm0⟩] = L.S.note (l ++ [⟨3, k, 2, b.ss, 0, false, 0, fm0⟩]) := by
      rw [hs]
      unfold Ws.note
      simp
    rw [← e2]
    exact H.out
  have H0 : Hid (PWn e w0 t9 L wb (L.S.note [])) := by
    have e1 : L.S.note [] = L.S := by unfold Ws.note; rw [List.append_nil]
    show PWn e w0 t9 L wb (L.S.note [])
    rw [e1]
    exact h9.n
  obtain ⟨d1', d2', hM0⟩ := HK.out wb [] H0.out (by simp)
  have d01 : wb.cell? ⟨x, 0, none⟩ = some (.int .i64 (a.st : Nat)) := cell_of_row wb x 0 _ _ _ kA2
  have d02 : wb.cell? ⟨y, 0, none⟩ = some (.int .i64 (b.st : Nat)) := cell_of_row wb y 0 _ _ _ kB2
  obtain ⟨X, hX⟩ : ∃ y, L.x = y := ⟨_, rfl⟩
  rw [hX] at hN hM0 HK ⊢
  have HE : Hid (_ = wa) := hwa
  have HE2 : Hid (_ = wb) := hwb
  have HS : Hid (w.heap.size = x) := hx
  have HS2 : Hid (w.heap.size + 1 = y) := zA.symm.trans hy
  clear kA kB bA bB bW zA kA2 kB2 hwa hwb h h9 hx hy ht9 t9i F
  by_cases qb : b.st = 6
  · by_cases qa : a.st = 6
    · by_cases qs : b.ss = a.ss
      · skip
        have hi : ¬ (b.st = 6 ∧ a.st ≠ 6) := fun q => q.2 qa
        have hj : ¬ (b.ss ≠ a.ss ∧ b.ss ≠ 0) := fun q => q.1 qs
        have eL : fChg k a b = [] := by unfold fChg; rw [if_neg hi, if_neg hj]; rfl
        rw [eL]
        have u1 : (((b.st : Nat) : Int) == 6) = true := (natEqY b.st 6).trans (decide_eq_true qb)
        have u2 : (((a.st : Nat) : Int) == 6) = true := (natEqY a.st 6).trans (decide_eq_true qa)
        have u3 : (((b.ss : Nat) : Int) == ((a.ss : Nat) : Int)) = true := (natEqY b.ss a.ss).trans (decide_eq_true qs)
        have v2 : (((a.st : Nat) : Int) != 6) = false := congrArg not u2
        have v3 : (((b.ss : Nat) : Int) != ((a.ss : Nat) : Int)) = false := congrArg not u3
        clear hi hj eL qb qs qa
        go_enter Tryz.func87, Tryz.ntmps87
        go_upto_region 1 with fail
        rw [HE.out, HE2.out, HS2.out, HS.out]
        go_wp2_with fail
        go_end0
        exact ⟨rfl, HZ.out _ _ H0.out⟩
      · by_cases qz : b.ss = 0
        · skip
          have hi : ¬ (b.st = 6 ∧ a.st ≠ 6) := fun q => q.2 qa
          have hj : ¬ (b.ss ≠ a.ss ∧ b.ss ≠ 0) := fun q => q.2 qz
          have eL : fChg k a b = [] := by unfold fChg; rw [if_neg hi, if_neg hj]; rfl
          rw [eL]
          have u1 : (((b.st : Nat) : Int) == 6) = true := (natEqY b.st 6).trans (decide_eq_true qb)
          have u2 : (((a.st : Nat) : Int) == 6) = true := (natEqY a.st 6).trans (decide_eq_true qa)
          have u3 : (((b.ss : Nat) : Int) == ((a.ss : Nat) : Int)) = false := (natEqY b.ss a.ss).trans (decide_eq_false qs)
          have u4 : (((b.ss : Nat) : Int) == 0) = true := (natEqY b.ss 0).trans (decide_eq_true qz)
          have v2 : (((a.st : Nat) : Int) != 6) = false := congrArg not u2
          have v3 : (((b.ss : Nat) : Int) != ((a.ss : Nat) : Int)) = true := congrArg not u3
          have v4 : (((b.ss : Nat) : Int) != 0) = false := congrArg not u4
          clear hi hj eL qb qs qa qz
          go_enter Tryz.func87, Tryz.ntmps87
          go_upto_region 1 with fail
          rw [HE.out, HE2.out, HS2.out, HS.out]
          go_wp2_with fail
          go_end0
          exact ⟨rfl, HZ.out _ _ H0.out⟩
        · skip
          have hi : ¬ (b.st = 6 ∧ a.st ≠ 6) := fun q => q.2 qa
          have hj : b.ss ≠ a.ss ∧ b.ss ≠ 0 := ⟨qs, qz⟩
          have eL : fChg k a b = [] ++ [⟨3, k, 2, b.ss, 0, false, 0, fm0⟩] := by unfold fChg; rw [if_neg hi, if_pos hj]
          rw [eL]
          have u1 : (((b.st : Nat) : Int) == 6) = true := (natEqY b.st 6).trans (decide_eq_true qb)
          have u2 : (((a.st : Nat) : Int) == 6) = true := (natEqY a.st 6).trans (decide_eq_true qa)
          have u3 : (((b.ss : Nat) : Int) == ((a.ss : Nat) : Int)) = false := (natEqY b.ss a.ss).trans (decide_eq_false qs)
          have u4 : (((b.ss : Nat) : Int) == 0) = false := (natEqY b.ss 0).trans (decide_eq_false qz)
          have v2 : (((a.st : Nat) : Int) != 6) = false := congrArg not u2
          have v3 : (((b.ss : Nat) : Int) != ((a.ss : Nat) : Int)) = true := congrArg not u3
          have v4 : (((b.ss : Nat) : Int) != 0) = true := congrArg not u4
          clear hi hj eL qb qs qa qz
          go_enter Tryz.func87, Tryz.ntmps87
          go_upto_region 1 with fail
          rw [HE.out, HE2.out, HS2.out, HS.out]
          go_wp2_with fail
          refine (hM0).mono ?_
          rintro r w3 ⟨rfl, H3⟩
          go_wp2_with fail
          go_end0
          exact ⟨rfl, HZ.out _ _ H3.out⟩
    · by_cases qs : b.ss = a.ss
      · skip
        have hi : b.st = 6 ∧ a.st ≠ 6 := ⟨qb, qa⟩
        have hj : ¬ (b.ss ≠ a.ss ∧ b.ss ≠ 0) := fun q => q.1 qs
        have eL : fChg k a b = [fOne 7 k 2] := by unfold fChg; rw [if_pos hi, if_neg hj]; rfl
        rw [eL]
        have u1 : (((b.st : Nat) : Int) == 6) = true := (natEqY b.st 6).trans (decide_eq_true qb)
        have u2 : (((a.st : Nat) : Int) == 6) = false := (natEqY a.st 6).trans (decide_eq_false qa)
        have u3 : (((b.ss : Nat) : Int) == ((a.ss : Nat) : Int)) = true := (natEqY b.ss a.ss).trans (decide_eq_true qs)
        have v2 : (((a.st : Nat) : Int) != 6) = true := congrArg not u2
        have v3 : (((b.ss : Nat) : Int) != ((a.ss : Nat) : Int)) = false := congrArg not u3
        clear hi hj eL qb qs qa
        go_enter Tryz.func87, Tryz.ntmps87
        go_upto_region 1 with fail
        rw [HE.out, HE2.out, HS2.out, HS.out]
        go_wp2_with fail
        refine hN.mono ?_
        rintro r w1 ⟨rfl, H1⟩
        obtain ⟨d1, d2, hM⟩ := HK.out w1 _ H1.out (by simp)
        go_wp2_with fail
        go_end0
        exact ⟨rfl, HZ.out _ _ H1.out⟩
      · by_cases qz : b.ss = 0
        · skip
          have hi : b.st = 6 ∧ a.st ≠ 6 := ⟨qb, qa⟩
          have hj : ¬ (b.ss ≠ a.ss ∧ b.ss ≠ 0) := fun q => q.2 qz
          have eL : fChg k a b = [fOne 7 k 2] := by unfold fChg; rw [if_pos hi, if_neg hj]; rfl
          rw [eL]
          have u1 : (((b.st : Nat) : Int) == 6) = true := (natEqY b.st 6).trans (decide_eq_true qb)
          have u2 : (((a.st : Nat) : Int) == 6) = false := (natEqY a.st 6).trans (decide_eq_false qa)
          have u3 : (((b.ss : Nat) : Int) == ((a.ss : Nat) : Int)) = false := (natEqY b.ss a.ss).trans (decide_eq_false qs)
          have u4 : (((b.ss : Nat) : Int) == 0) = true := (natEqY b.ss 0).trans (decide_eq_true qz)
          have v2 : (((a.st : Nat) : Int) != 6) = true := congrArg not u2
          have v3 : (((b.ss : Nat) : Int) != ((a.ss : Nat) : Int)) = true := congrArg not u3
          have v4 : (((b.ss : Nat) : Int) != 0) = false := congrArg not u4
          clear hi hj eL qb qs qa qz
          go_enter Tryz.func87, Tryz.ntmps87
          go_upto_region 1 with fail
          rw [HE.out, HE2.out, HS2.out, HS.out]
          go_wp2_with fail
          refine hN.mono ?_
          rintro r w1 ⟨rfl, H1⟩
          obtain ⟨d1, d2, hM⟩ := HK.out w1 _ H1.out (by simp)
          go_wp2_with fail
          go_end0
          exact ⟨rfl, HZ.out _ _ H1.out⟩
        · skip
          have hi : b.st = 6 ∧ a.st ≠ 6 := ⟨qb, qa⟩
          have hj : b.ss ≠ a.ss ∧ b.ss ≠ 0 := ⟨qs, qz⟩
          have eL : fChg k a b = [fOne 7 k 2] ++ [⟨3, k, 2, b.ss, 0, false, 0, fm0⟩] := by unfold fChg; rw [if_pos hi, if_pos hj]
          rw [eL]
          have u1 : (((b.st : Nat) : Int) == 6) = true := (natEqY b.st 6).trans (decide_eq_true qb)
          have u2 : (((a.st : Nat) : Int) == 6) = false := (natEqY a.st 6).trans (decide_eq_false qa)
          have u3 : (((b.ss : Nat) : Int) == ((a.ss : Nat) : Int)) = false := (natEqY b.ss a.ss).trans (decide_eq_false qs)
          have u4 : (((b.ss : Nat) : Int) == 0) = false := (natEqY b.ss 0).trans (decide_eq_false qz)
          have v2 : (((a.st : Nat) : Int) != 6) = true := congrArg not u2
          have v3 : (((b.ss : Nat) : Int) != ((a.ss : Nat) : Int)) = true := congrArg not u3
          have v4 : (((b.ss : Nat) : Int) != 0) = true := congrArg not u4
          clear hi hj eL qb qs qa qz
          go_enter Tryz.func87, Tryz.ntmps87
          go_upto_region 1 with fail
          rw [HE.out, HE2.out, HS2.out, HS.out]
          go_wp2_with fail
          refine hN.mono ?_
          rintro r w1 ⟨rfl, H1⟩
          obtain ⟨d1, d2, hM⟩ := HK.out w1 _ H1.out (by simp)
          go_wp2_with fail
          refine (hM).mono ?_
          rintro r w3 ⟨rfl, H3⟩
          go_wp2_with fail
          go_end0
          exact ⟨rfl, HZ.out _ _ H3.out⟩
  · by_cases qs : b.ss = a.ss
    · skip
      have hi : ¬ (b.st = 6 ∧ a.st ≠ 6) := fun q => qb q.1
      have hj : ¬ (b.ss ≠ a.ss ∧ b.ss ≠ 0) := fun q => q.1 qs
      have eL : fChg k a b = [] := by unfold fChg; rw [if_neg hi, if_neg hj]; rfl
      rw [eL]
      have u1 : (((b.st : Nat) : Int) == 6) = false := (natEqY b.st 6).trans (decide_eq_false qb)
      have u3 : (((b.ss : Nat) : Int) == ((a.ss : Nat) : Int)) = true := (natEqY b.ss a.ss).trans (decide_eq_true qs)
      have v3 : (((b.ss : Nat) : Int) != ((a.ss : Nat) : Int)) = false := congrArg not u3
      clear hi hj eL qb qs
      go_enter Tryz.func87, Tryz.ntmps87
      go_upto_region 1 with fail
      rw [HE.out, HE2.out, HS2.out, HS.out]
      go_wp2_with fail
      go_end0
      exact ⟨rfl, HZ.out _ _ H0.out⟩
    · by_cases qz : b.ss = 0
      · skip
        have hi : ¬ (b.st = 6 ∧ a.st ≠ 6) := fun q => qb q.1
        have hj : ¬ (b.ss ≠ a.ss ∧ b.ss ≠ 0) := fun q => q.2 qz
        have eL : fChg k a b = [] := by unfold fChg; rw [if_neg hi, if_neg hj]; rfl
        rw [eL]
        have u1 : (((b.st : Nat) : Int) == 6) = false := (natEqY b.st 6).trans (decide_eq_false qb)
        have u3 : (((b.ss : Nat) : Int) == ((a.ss : Nat) : Int)) = false := (natEqY b.ss a.ss).trans (decide_eq_false qs)
        have u4 : (((b.ss : Nat) : Int) == 0) = true := (natEqY b.ss 0).trans (decide_eq_true qz)
        have v3 : (((b.ss : Nat) : Int) != ((a.ss : Nat) : Int)) = true := congrArg not u3
        have v4 : (((b.ss : Nat) : Int) != 0) = false := congrArg not u4
        clear hi hj eL qb qs qz
        go_enter Tryz.func87, Tryz.ntmps87
        go_upto_region 1 with fail
        rw [HE.out, HE2.out, HS2.out, HS.out]
        go_wp2_with fail
        go_end0
        exact ⟨rfl, HZ.out _ _ H0.out⟩
      · skip
        have hi : ¬ (b.st = 6 ∧ a.st ≠ 6) := fun q => qb q.1
        have hj : b.ss ≠ a.ss ∧ b.ss ≠ 0 := ⟨qs, qz⟩
        have eL : fChg k a b = [] ++ [⟨3, k, 2, b.ss, 0, false, 0, fm0⟩] := by unfold fChg; rw [if_neg hi, if_pos hj]
        rw [eL]
        have u1 : (((b.st : Nat) : Int) == 6) = false := (natEqY b.st 6).trans (decide_eq_false qb)
        have u3 : (((b.ss : Nat) : Int) == ((a.ss : Nat) : Int)) = false := (natEqY b.ss a.ss).trans (decide_eq_false qs)
        have u4 : (((b.ss : Nat) : Int) == 0) = false := (natEqY b.ss 0).trans (decide_eq_false qz)
        have v3 : (((b.ss : Nat) : Int) != ((a.ss : Nat) : Int)) = true := congrArg not u3
        have v4 : (((b.ss : Nat) : Int) != 0) = true := congrArg not u4
        clear hi hj eL qb qs qz
        go_enter Tryz.func87, Tryz.ntmps87
        go_upto_region 1 with fail
        rw [HE.out, HE2.out, HS2.out, HS.out]
        go_wp2_with fail
        refine (hM0).mono ?_
        rintro r w3 ⟨rfl, H3⟩
        go_wp2_with fail
        go_end0
        exact ⟨rfl, HZ.out _ _ H3.out⟩
end Go.Proofs.YtpbcgpdfjplidaaGreat
