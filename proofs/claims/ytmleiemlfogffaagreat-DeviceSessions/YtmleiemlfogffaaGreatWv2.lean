/- The valve of layer 11: New, Run, Hold, Fresh, Trip, Take, Ack. -/
import Derived.Test.YtmleiemlfogffaaGreatWv
namespace Go.Proofs.YtmleiemlfogffaaGreat
set_option maxRecDepth 100000
open Go.RowKit

section
variable {w w' : World} {b g : Nat} {M : List Nat} {n : Nat} {s : Vs}
/-- Its block alone is written. -/
theorem VR.upd (h : VR w b g M n s) (s' : Vs) (q : Off [b] w w') (hl : s'.lat = s.lat) (hc : ∀ v, w.heap[b]? = some (.cells (VC n s g v) 160 (0, 0)) → VV w M n s v → ∃ v', w'.heap[b]? = some (.cells (VC n s' g v') 160 (0, 0)) ∧ VV w' M n s' v') : VR w' b g M n s' := by
  obtain ⟨v, t, e, G, V⟩ := h.ex
  obtain ⟨v', e', V'⟩ := hc v e V
  exact ⟨⟨v', t, e', by rw [hl]; exact G.off q (by simpa using h.ne), V'⟩, h.bM, h.gM, h.ne, h.n1, h.n8⟩
end
theorem vrun_any (b g : Nat) (M : List Nat) (n : Nat) (s : Vs) (o : Bool) (w : World) (h : VR w b g M n s) :
    Calls Tryz.prog 171 #[.pointer (some ⟨b, 0, none⟩), .bool o] w fun e w' => e = .returned (.tuple #[]) ∧ Hid (Off [b, g] w w' ∧ VR w' b g M n (vrun s o)) := by
  obtain ⟨v, t, c0, c1, c2, c3, c4, c5, fz, G, V, hb⟩ := h.cells
  have z1 := fz 1
  have z2 := fz 2
  have z5 := fz 5
  unfold vrun
  by_cases hr : s.run = o
  · rw [if_pos hr]
    have H : Hid (_) := h
    rw [hr] at c1
    clear h G V hb
    cases o
    · go_enter Tryz.func171, Tryz.ntmps171
      go_wp2_with fail
      refine bodyPost_ret (results_none rfl _ _ _) rfl ?_
      exact ⟨rfl, Off.refl _ _, H.out⟩
    · go_enter Tryz.func171, Tryz.ntmps171
      go_wp2_with fail
      refine bodyPost_ret (results_none rfl _ _ _) rfl ?_
      exact ⟨rfl, Off.refl _ _, H.out⟩
  · rw [if_neg hr]
    have o1 := Off.setCell b 1 w (.bool o)
    have o2 := o1.trans (Off.setCell b 2 _ (.bool false))
    have o3 := o2.trans (Off.setCell b 5 _ (.slice none 0 0))
    have F : Hid (Off [b, g] w (((w.setCell ⟨b, 1, none⟩ (.bool o)).setCell ⟨b, 2, none⟩ (.bool false)).setCell ⟨b, 5, none⟩ (.slice none 0 0)) ∧ VR (((w.setCell ⟨b, 1, none⟩ (.bool o)).setCell ⟨b, 2, none⟩ (.bool false)).setCell ⟨b, 5, none⟩ (.slice none 0 0)) b g M n { s with run := o, held := false, sm := false }) :=
      ⟨o3.more (by simp), h.upd _ o3 rfl fun v e _ => ⟨.slice none 0 0, heap_setCell_same _ _ _ _ _ _ (heap_setCell_same _ _ _ _ _ _ (heap_setCell_same _ _ _ _ _ _ e)), .inl ⟨rfl, rfl⟩⟩⟩
    clear h G V hb o1 o2 o3
    have hr' : s.run = !o := by cases o <;> cases hq : s.run <;> simp_all
    rw [hr'] at c1
    clear hr
    cases o
    · go_enter Tryz.func171, Tryz.ntmps171
      go_wp2_with fail
      go_end0
      exact ⟨rfl, F⟩
    · go_enter Tryz.func171, Tryz.ntmps171
      go_wp2_with fail
      go_end0
      exact ⟨rfl, F⟩
theorem vrun_nil (o : Bool) (w : World) :
    Calls Tryz.prog 171 #[.pointer none, .bool o] w fun e w' => e = .returned (.tuple #[]) ∧ w' = w := by
  go_enter Tryz.func171, Tryz.ntmps171
  go_wp2_with fail
  refine bodyPost_ret (results_none rfl _ _ _) rfl ?_
  exact ⟨rfl, rfl⟩
theorem vhold_any (b g : Nat) (M : List Nat) (n : Nat) (s : Vs) (o : Bool) (w : World) (h : VR w b g M n s) :
    Calls Tryz.prog 172 #[.pointer (some ⟨b, 0, none⟩), .bool o] w fun e w' => e = .returned (.tuple #[]) ∧ Hid (Off [b, g] w w' ∧ VR w' b g M n (vhold s o)) := by
  obtain ⟨v, t, c0, c1, c2, c3, c4, c5, fz, G, V, hb⟩ := h.cells
  have z2 := fz 2
  unfold vhold
  have o1 := Off.setCell b 2 w (.bool (o && s.run))
  have F : Hid (Off [b, g] w (w.setCell ⟨b, 2, none⟩ (.bool (o && s.run))) ∧ VR (w.setCell ⟨b, 2, none⟩ (.bool (o && s.run))) b g M n { s with held := o && s.run }) :=
    ⟨o1.more (by simp), h.upd _ o1 rfl fun v e V => ⟨v, heap_setCell_same _ _ _ _ _ _ e, VV.off (s := { s with held := o && s.run }) V o1 (by simpa using h.bM)⟩⟩
  clear h G V hb o1
  cases o
  · go_enter Tryz.func172, Tryz.ntmps172
    go_wp2_with fail
    go_end0
    exact ⟨rfl, F⟩
  · go_enter Tryz.func172, Tryz.ntmps172
    go_wp2_with fail
    go_end0
    exact ⟨rfl, F⟩
theorem vhold_nil (o : Bool) (w : World) :
    Calls Tryz.prog 172 #[.pointer none, .bool o] w fun e w' => e = .returned (.tuple #[]) ∧ w' = w := by
  go_enter Tryz.func172, Tryz.ntmps172
  go_wp2_with fail
  go_end0
  exact ⟨rfl, rfl⟩
theorem vfresh_any (b g : Nat) (M : List Nat) (n : Nat) (s : Vs) (w : World) (h : VR w b g M n s) :
    Calls Tryz.prog 199 #[.pointer (some ⟨b, 0, none⟩)] w fun e w' => e = .returned (.tuple #[]) ∧ Hid (Off [b, g] w w' ∧ VR w' b g M n (vfresh s)) := by
  obtain ⟨v, t, c0, c1, c2, c3, c4, c5, fz, G, V, hb⟩ := h.cells
  have z4 := fz 4
  have hl := latched_any b g M n s w h
  unfold vfresh
  generalize (s.lat != 0) = q at hl ⊢
  have o1 := Off.setCell b 4 w (.bool q)
  have F : Hid (Off [b, g] w (w.setCell ⟨b, 4, none⟩ (.bool q)) ∧ VR (w.setCell ⟨b, 4, none⟩ (.bool q)) b g M n { s with fr := q }) :=
    ⟨o1.more (by simp), h.upd _ o1 rfl fun v e V => ⟨v, heap_setCell_same _ _ _ _ _ _ e, VV.off (s := { s with fr := q }) V o1 (by simpa using h.bM)⟩⟩
  clear h G V hb o1
  go_enter Tryz.func199, Tryz.ntmps199
  go_wp2_with (go_at_call 95; refine hl.mono ?_; rintro e w' ⟨rfl, rfl⟩)
  go_end0
  exact ⟨rfl, F⟩
theorem vfresh_nil (w : World) :
    Calls Tryz.prog 199 #[.pointer none] w fun e w' => e = .returned (.tuple #[]) ∧ w' = w := by
  go_enter Tryz.func199, Tryz.ntmps199
  go_wp2_with fail
  go_end0
  exact ⟨rfl, rfl⟩
/-- What Trip answers. -/
def vtripB (s : Vs) (x : Int) : Bool := decide (¬ x = 0 ∧ s.lat = 0)
theorem vtrip_ok (b : Nat) (w : World) :
    Calls Tryz.prog 108 #[.pointer (some ⟨b, 0, none⟩), .int .i64 0] w fun e w' => e = .returned (.bool false) ∧ w' = w := by
  go_enter Tryz.func108, Tryz.ntmps108
  go_wp2_with fail
  go_ret
  exact ⟨rfl, rfl⟩
theorem vtrip_nil (x : Int) (w : World) :
    Calls Tryz.prog 108 #[.pointer none, .int .i64 x] w fun e w' => e = .returned (.bool false) ∧ w' = w := by
  go_enter Tryz.func108, Tryz.ntmps108
  go_wp2_with fail
  go_ret
  exact ⟨rfl, rfl⟩
theorem vtrip_core (b g : Nat) (x : Int) (hx : ¬ x = 0) (q : Bool) (w : World) (P : World → Prop) (v y : Value) (c3 : w.cell? ⟨b, 3, none⟩ = some (.pointer (some ⟨g, 0, none⟩))) (c4 : w.cell? ⟨b, 4, none⟩ = some y) (c5 : w.cell? ⟨b, 5, none⟩ = some v) (z4 : w.frozen? ⟨b, 4, none⟩ = false) (z5 : w.frozen? ⟨b, 5, none⟩ = false)
    (hg : Calls Tryz.prog 145 #[.pointer (some ⟨g, 0, none⟩), .int .i64 x] ((w.setCell ⟨b, 5, none⟩ (.slice none 0 0)).setCell ⟨b, 4, none⟩ (.bool false)) fun e w' => e = .returned (.bool q) ∧ P w') :
    Calls Tryz.prog 108 #[.pointer (some ⟨b, 0, none⟩), .int .i64 x] w fun e w' => e = .returned (.bool q) ∧ P w' := by
  go_enter Tryz.func108, Tryz.ntmps108
  go_wp2_with fail
  refine hg.mono ?_
  rintro e w2 ⟨rfl, p⟩
  have H : Hid (_) := p
  clear p hg
  go_wp2_with fail
  go_ret
  exact ⟨rfl, H.out⟩
theorem vtrip_any (b g : Nat) (M : List Nat) (n : Nat) (s : Vs) (x : Int) (w : World) (h : VR w b g M n s) :
    Calls Tryz.prog 108 #[.pointer (some ⟨b, 0, none⟩), .int .i64 x] w fun e w' => e = .returned (.bool (vtripB s x)) ∧ Hid (Off [b, g] w w' ∧ VR w' b g M n (vtrip s x)) := by
  unfold vtripB vtrip
  by_cases hx : x = 0
  · rw [if_pos hx, decide_eq_false (fun k => k.1 hx)]
    subst hx
    exact (vtrip_ok b w).mono (fun _ _ ⟨he, hw⟩ => ⟨he, by subst hw; exact ⟨Off.refl _ _, h⟩⟩)
  · rw [if_neg hx]
    obtain ⟨v, t, c0, c1, c2, c3, c4, c5, fz, G, V, hb⟩ := h.cells
    have o1 := Off.setCell b 5 w (.slice none 0 0)
    have o2 := o1.trans (Off.setCell b 4 _ (.bool false))
    have e2 : ((w.setCell ⟨b, 5, none⟩ (.slice none 0 0)).setCell ⟨b, 4, none⟩ (.bool false)).heap[b]? = some (.cells (VC n { s with fr := false, sm := false } g (.slice none 0 0)) 160 (0, 0)) := heap_setCell_same _ _ _ _ _ _ (heap_setCell_same _ _ _ _ _ _ hb)
    have G2 := G.off o2 (by simpa using h.ne)
    have s2 := Nat.lt_of_lt_of_le h.lt o2.size
    refine vtrip_core b g x hx (decide (¬ x = 0 ∧ s.lat = 0)) w (fun w' => Hid (Off [b, g] w w' ∧ VR w' b g M n { s with fr := false, sm := false, lat := if s.lat = 0 then x else s.lat })) v _ c3 c4 c5 (fz 4) (fz 5) ?_
    generalize (w.setCell ⟨b, 5, none⟩ (.slice none 0 0)).setCell ⟨b, 4, none⟩ (.bool false) = w2 at *
    by_cases hl : s.lat = 0
    · rw [decide_eq_true ⟨hx, hl⟩, if_pos hl]
      rw [if_pos hl, hl] at G2
      refine (trip_first g x t hx w2 G2).mono ?_
      rintro e w3 ⟨rfl, o3, G3⟩
      refine ⟨rfl, (o2.more (by simp)).trans (o3.more (by simp)), ⟨⟨_, wrap64 (t + 1), (o3.block b s2 (by simpa using Ne.symm h.ne)).trans e2, ?_, .inl ⟨rfl, rfl⟩⟩, h.bM, h.gM, h.ne, h.n1, h.n8⟩⟩
      show GR w3 g 0 (if x = 0 then 0 else 1) 0 x _
      rw [if_neg hx]
      exact G3
    · rw [decide_eq_false (fun k => hl k.2), if_neg hl]
      rw [if_neg hl] at G2
      refine (trip_again g x s.lat t hx w2 G2).mono ?_
      rintro e w3 ⟨rfl, o3, G3⟩
      refine ⟨rfl, (o2.more (by simp)).trans (o3.more (by simp)), ⟨⟨_, wrap64 (t + 1), (o3.block b s2 (by simpa using Ne.symm h.ne)).trans e2, ?_, .inl ⟨rfl, rfl⟩⟩, h.bM, h.gM, h.ne, h.n1, h.n8⟩⟩
      show GR w3 g 0 (if s.lat = 0 then 0 else 1) 0 s.lat _
      rw [if_neg hl]
      exact G3
/-- What Take answers. -/
def vtakeE (n len : Nat) : Int := if len = n then 0 else 45
theorem vtake_nil (a : Option Addr) (len cap : Nat) (w : World) :
    Calls Tryz.prog 173 #[.pointer none, .slice a len cap] w fun e w' => e = .returned (.int .i64 1) ∧ w' = w := by
  go_enter Tryz.func173, Tryz.ntmps173
  go_wp2_with fail
  go_ret
  exact ⟨rfl, rfl⟩
theorem vtake_len (b n : Nat) (a : Option Addr) (len cap : Nat) (w : World) (c0 : w.cell? ⟨b, 0, none⟩ = some (.int .i64 (n : Nat))) (hn : ¬ len = n) :
    Calls Tryz.prog 173 #[.pointer (some ⟨b, 0, none⟩), .slice a len cap] w fun e w' => e = .returned (.int .i64 45) ∧ w' = w := by
  have hI : ¬ (len : Int) = (n : Int) := by omega
  go_enter Tryz.func173, Tryz.ntmps173
  go_wp2_with fail
  go_ret
  exact ⟨rfl, rfl⟩
theorem vtake_no (b n : Nat) (r q : Bool) (a : Option Addr) (cap : Nat) (w : World) (c0 : w.cell? ⟨b, 0, none⟩ = some (.int .i64 (n : Nat))) (c1 : w.cell? ⟨b, 1, none⟩ = some (.bool r))
    (hl : Calls Tryz.prog 95 #[.pointer (some ⟨b, 0, none⟩)] w fun e w' => e = .returned (.bool q) ∧ w' = w) (hx : r = false ∨ q = true) :
    Calls Tryz.prog 173 #[.pointer (some ⟨b, 0, none⟩), .slice a n cap] w fun e w' => e = .returned (.int .i64 0) ∧ w' = w := by
  cases r
  · go_enter Tryz.func173, Tryz.ntmps173
    go_wp2_with fail
    go_ret
    exact ⟨rfl, rfl⟩
  · have e : q = true := by rcases hx with h | h <;> simp_all
    subst e
    go_enter Tryz.func173, Tryz.ntmps173
    go_wp2_with (go_at_call 95; refine hl.mono ?_; rintro e w' ⟨rfl, rfl⟩)
    go_ret
    exact ⟨rfl, rfl⟩
set_option maxHeartbeats 1000000 in
theorem vtake_yes (b n : Nat) (v : Value) (a : Option Addr) (cap : Nat) (bs : Nat → Nat) (w : World) (R : Row8 w a n cap bs) (h8 : n ≤ 8) (c0 : w.cell? ⟨b, 0, none⟩ = some (.int .i64 (n : Nat))) (c1 : w.cell? ⟨b, 1, none⟩ = some (.bool true)) (c5 : w.cell? ⟨b, 5, none⟩ = some v) (z5 : w.frozen? ⟨b, 5, none⟩ = false) (hlt : b < w.heap.size)
    (hl : Calls Tryz.prog 95 #[.pointer (some ⟨b, 0, none⟩)] w fun e w' => e = .returned (.bool false) ∧ w' = w) :
    Calls Tryz.prog 173 #[.pointer (some ⟨b, 0, none⟩), .slice a n cap] w fun e w' => e = .returned (.int .i64 0) ∧ Hid (∃ u w2, w2.ownsRow w.heap.size 5 1 u n (CB bs n) ∧ Below w.heap.size w w2 ∧ w' = w2.setCell ⟨b, 5, none⟩ u) := by
  obtain ⟨i0, hi, hz0, hz1, hz2⟩ := info_parts info_u8
  have O0 := World.ownsRow_nil w w.heap.size 5 1
  go_enter Tryz.func173, Tryz.ntmps173
  go_wp2_with (first | (go_at_call 95; refine hl.mono ?_; rintro e w' ⟨rfl, hw⟩; have hw := hw.symm; subst hw) | (at_builtin; refine wpList_append_row8 rfl (.const (.slice none 0 0)) (.tmp 24) 25 rfl w.heap.size 5 i0 (.int .u8 0) Tryz.underlying25 hi hz0 hz1 hz2 rfl _ 0 _ rfl O0 a n cap bs rfl R (by unfold maxLen; omega) (by omega) (Nat.le_refl _) ?_))
  intro v2 w2 hown2 hgrow2
  have hbel2 : Below w.heap.size w w2 := (Below.refl _ _).grown hgrow2 (Nat.le_refl _) (fun j hj => by cases hj)
  have d5 : w2.cell? ⟨b, 5, none⟩ = some v := (hbel2.cell hlt).trans c5
  have y5 : w2.frozen? ⟨b, 5, none⟩ = false := (hbel2.frozen hlt).trans z5
  obtain ⟨a2, k2, rfl, _⟩ := own_row8 hown2 R.byte
  have H : Hid (∃ w2' , w2'.ownsRow w.heap.size 5 1 (.slice a2 n k2) n (CB bs n) ∧ Below w.heap.size w w2' ∧ w2 = w2') := ⟨w2, hown2, hbel2, rfl⟩
  clear hown2 hbel2 hgrow2 O0 R c0 c1 c5 z5 hl
  go_wp2_with fail
  go_ret
  obtain ⟨_, h1, h2, rfl⟩ := H.out
  exact ⟨rfl, _, _, h1, h2, rfl⟩
theorem vtake_any (b g : Nat) (M : List Nat) (n : Nat) (s : Vs) (a : Option Addr) (len cap : Nat) (bs : Nat → Nat) (w : World) (h : VR w b g M n s) (R : Row8 w a len cap bs) :
    Calls Tryz.prog 173 #[.pointer (some ⟨b, 0, none⟩), .slice a len cap] w fun e w' => e = .returned (.int .i64 (vtakeE n len)) ∧ Hid (∃ M', Off [b, g] w w' ∧ VR w' b g M' n (if len = n then vtake s bs else s) ∧ ∀ k, k ∈ M' → k ∈ M ∨ w.heap.size ≤ k ∧ k < w'.heap.size) := by
  obtain ⟨v, t, c0, c1, c2, c3, c4, c5, fz, G, V, hb⟩ := h.cells
  have hl := latched_any b g M n s w h
  unfold vtakeE
  by_cases hn : len = n
  · subst hn
    rw [if_pos rfl, if_pos rfl]
    unfold vtake
    by_cases hs : s.run = true ∧ s.lat = 0
    · rw [if_pos hs]
      rw [show (s.lat != 0) = false by simpa using hs.2] at hl
      refine (vtake_yes b len v a cap bs w R h.n8 c0 (hs.1 ▸ c1) c5 (fz 5) h.lt hl).mono ?_
      rintro e w3 ⟨rfl, H⟩
      obtain ⟨u, w2, h1, h2, rfl⟩ := H.out
      have o2 : Off [b] w w2 := Off.of_below h2
      have o3 := Off.setCell b 5 w2 u
      have hob : ∀ k, u.ownBlock = some k → w.heap.size ≤ k ∧ k < w2.heap.size := by
        intro k hk
        rcases h1.2 with hn | ⟨g', cap', cur', rfl, hg', hh, _⟩
        · rw [hn.1] at hk; cases hk
        · cases hk; exact ⟨hg', (Array.getElem?_eq_some_iff.1 hh).1⟩
      have hbk : ∀ k, u.ownBlock = some k → k ∉ [b] := fun k hk hm => by have := hob k hk; have := h.lt; simp at hm; omega
      cases hu : u.ownBlock with
      | none =>
        refine ⟨rfl, M, (o2.more (by simp)).trans (o3.more (by simp)), h.upd _ (o2.trans o3) rfl fun v' e' _ => ⟨u, heap_setCell_same _ _ _ _ _ _ ((h2.block b h.lt).trans e'), .inr ⟨rfl, ⟨own_offk (own_base h1 (Nat.zero_le _)) o3 hbk, ?_⟩, R.byte⟩⟩, fun k hk => .inl hk⟩
        intro k hk
        rw [hu] at hk; cases hk
      | some k0 =>
        have hk0 := hob k0 hu
        obtain ⟨v1, t1, x1, x2, _⟩ := h.ex
        have hb1 := h.lt
        have hg1 := x2.lt
        refine ⟨rfl, [k0], (o2.more (by simp)).trans (o3.more (by simp)), ⟨⟨u, t1, heap_setCell_same _ _ _ _ _ _ ((h2.block b h.lt).trans x1), x2.off (o2.trans o3) (by simpa using h.ne), .inr ⟨rfl, ⟨own_offk (own_base h1 (Nat.zero_le _)) o3 hbk, ?_⟩, R.byte⟩⟩, ?_, ?_, h.ne, h.n1, h.n8⟩, ?_⟩
        · intro k hk
          rw [hu] at hk; cases hk; simp
        · simp; omega
        · simp; omega
        · intro k hk
          simp at hk; subst hk; exact .inr ⟨hk0.1, Nat.lt_of_lt_of_le hk0.2 o3.size⟩
    · rw [if_neg hs]
      refine (vtake_no b len s.run _ a cap w c0 c1 hl ?_).mono (fun _ _ ⟨he, hw⟩ => ⟨he, by subst hw; exact ⟨M, Off.refl _ _, h, fun _ hk => .inl hk⟩⟩)
      cases hr : s.run
      · exact .inl rfl
      · exact .inr (by simpa using fun k => hs ⟨hr, k⟩)
  · rw [if_neg hn, if_neg hn]
    exact (vtake_len b n a len cap w c0 hn).mono (fun _ _ ⟨he, hw⟩ => ⟨he, by subst hw; exact ⟨M, Off.refl _ _, h, fun _ hk => .inl hk⟩⟩)
/-- What Ack answers. -/
def vackE (s : Vs) : Int := if vreq s = true then 0 else 110
theorem vack_nil (w : World) :
    Calls Tryz.prog 71 #[.pointer none] w fun e w' => e = .returned (.int .i64 1) ∧ w' = w := by
  go_enter Tryz.func71, Tryz.ntmps71
  go_wp2_with fail
  go_ret
  exact ⟨rfl, rfl⟩
theorem vack_any (b g : Nat) (M : List Nat) (n : Nat) (s : Vs) (w : World) (h : VR w b g M n s) :
    Calls Tryz.prog 71 #[.pointer (some ⟨b, 0, none⟩)] w fun e w' => e = .returned (.int .i64 (vackE s)) ∧ Hid (Off [b, g] w w' ∧ VR w' b g M n (vack s)) := by
  obtain ⟨v, t, c0, c1, c2, c3, c4, c5, fz, G, V, hb⟩ := h.cells
  have hq := vreq_any b g M n s w h
  unfold vackE vack
  by_cases hr : vreq s = true
  · rw [if_pos hr, if_pos hr]
    rw [hr] at hq
    have H : Hid (_) := h
    have HG : Hid (_) := G
    have HV : Hid (_) := V
    have HB : Hid (_) := hb
    have hlt := h.lt
    have hne := h.ne
    clear h G V hb
    go_enter Tryz.func71, Tryz.ntmps71
    go_wp2_with (go_at_call 54; refine hq.mono ?_; rintro e w' ⟨rfl, hw⟩; have hw := hw.symm; subst hw)
    refine (lift_any g _ _ t w HG.out).mono ?_
    rintro e w2 ⟨rfl, o2, G2⟩
    have e2 : w2.heap[b]? = _ := (o2.block b hlt (by simpa using Ne.symm hne)).trans HB.out
    have d4 : w2.cell? ⟨b, 4, none⟩ = some (.bool s.fr) := cell_of_row w2 b 4 _ _ _ e2
    have y4 : w2.frozen? ⟨b, 4, none⟩ = false := frozen_of_row w2 b 4 _ _ e2
    have K : Hid (Off [g] w w2 ∧ GR w2 g 0 0 0 0 0 ∧ w2.heap[b]? = some (.cells (VC n s g v) 160 (0, 0))) := ⟨o2, G2, e2⟩
    clear o2 G2 e2 c0 c1 c2 c3 c4 c5 hq
    go_wp2_with fail
    go_ret
    obtain ⟨o2, G2, e2⟩ := K.out
    have hh := H.out
    have o3 := Off.setCell b 4 w2 (.bool false)
    refine ⟨rfl, (o2.more (by simp)).trans (o3.more (by simp)), ⟨⟨v, 0, heap_setCell_same _ _ _ _ _ _ e2, ?_, ?_⟩, hh.bM, hh.gM, hh.ne, hh.n1, hh.n8⟩⟩
    · exact G2.off o3 (by simpa using hne)
    · exact VV.off (s := { s with lat := 0, fr := false }) (VV.off (s := { s with lat := 0, fr := false }) HV.out o2 (by simpa using hh.gM)) o3 (by simpa using hh.bM)
  · rw [if_neg hr, if_neg hr]
    rw [show vreq s = false by simpa using hr] at hq
    have H : Hid (_) := h
    clear h G V hb
    go_enter Tryz.func71, Tryz.ntmps71
    go_wp2_with (go_at_call 54; refine hq.mono ?_; rintro e w' ⟨rfl, rfl⟩)
    go_ret
    exact ⟨rfl, Off.refl _ _, H.out⟩
theorem vnew_no (p : Int) (w : World) (hp : p < 1 ∨ 8 < p) :
    Calls Tryz.prog 78 #[.int .i64 p] w fun e w' => e = .returned (.tuple #[.pointer none, .int .i64 2]) ∧ w' = w := by
  by_cases h : p < 1
  · go_enter Tryz.func78, Tryz.ntmps78
    go_wp2_with fail
    go_ret2
    exact ⟨rfl, rfl⟩
  · have h2 : 8 < p := by omega
    clear hp
    go_enter Tryz.func78, Tryz.ntmps78
    go_wp2_with fail
    go_ret2
    exact ⟨rfl, rfl⟩
set_option maxHeartbeats 1000000 in
theorem vnew_ok (n : Nat) (w : World) (h1 : 1 ≤ n) (h8 : n ≤ 8) :
    Calls Tryz.prog 78 #[.int .i64 (n : Nat)] w fun e w' => ∃ b g, e = .returned (.tuple #[.pointer (some ⟨b, 0, none⟩), .int .i64 0]) ∧ Hid (w.heap.size ≤ b ∧ w.heap.size ≤ g ∧ b < w'.heap.size ∧ g < w'.heap.size ∧ Off [] w w' ∧ VR w' b g [] n vnew) := by
  go_enter Tryz.func78, Tryz.ntmps78
  go_wp2_with fail
  refine (gnew_any w).mono ?_
  rintro e w2 ⟨rfl, o2, G2⟩
  have K : Hid (_) := And.intro o2 G2
  clear o2 G2
  go_wp2_with fail
  go_ret2
  obtain ⟨o2, G2⟩ := K.out
  have hg := G2.lt
  have oa := Off.alloc [] w2 (.cells (VC n vnew w.heap.size (.slice none 0 0)) 160)
  refine ⟨w2.heap.size, w.heap.size, rfl, o2.size, Nat.le_refl _, by rw [World.size_alloc]; omega, by rw [World.size_alloc]; omega, o2.trans (Off.alloc _ _ _), ⟨⟨_, 0, heap_alloc_new w2 _, G2.off (Off.alloc [] _ _) (by simp), .inl ⟨rfl, rfl⟩⟩, by simp, by simp, by omega, h1, h8⟩⟩

end Go.Proofs.YtmleiemlfogffaaGreat
