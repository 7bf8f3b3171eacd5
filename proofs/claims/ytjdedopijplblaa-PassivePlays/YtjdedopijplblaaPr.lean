/- The document's valve of layer 11: its block and its value's; every call. -/
import Derived.Test.YtjdedopijplblaaPv2
namespace Go.Proofs.Ytjdedopijplblaa
open Go.RowKit

/-- What holds between two calls. -/
structure Vok (s : Vs) : Prop where
  fr : s.lat = 0 → s.fr = false
  sm : s.sm = true → s.lat = 0
theorem Vok.new : Vok vnew := ⟨fun _ => rfl, fun h => by cases h⟩
theorem Vok.trip {s : Vs} (h : Vok s) (x : Int) : Vok (vtrip s x) := by
  unfold vtrip
  split
  · exact h
  · exact ⟨fun _ => rfl, fun h => by cases h⟩
theorem Vok.run {s : Vs} (h : Vok s) (o : Bool) : Vok (vrun s o) := by
  unfold vrun
  split
  · exact h
  · exact ⟨h.fr, fun h => by cases h⟩
theorem Vok.hold {s : Vs} (h : Vok s) (o : Bool) : Vok (vhold s o) := ⟨h.fr, h.sm⟩
theorem Vok.fresh {s : Vs} (h : Vok s) : Vok (vfresh s) := ⟨fun e => by show (s.lat != 0) = false; rw [show s.lat = 0 from e]; rfl, h.sm⟩
theorem Vok.take {s : Vs} (h : Vok s) (bs : Nat → Nat) : Vok (vtake s bs) := by
  unfold vtake
  split
  · rename_i k
    exact ⟨h.fr, fun _ => k.2⟩
  · exact h
theorem Vok.ack {s : Vs} (h : Vok s) : Vok (vack s) := by
  unfold vack
  split
  · exact ⟨fun _ => rfl, fun _ => rfl⟩
  · exact h

theorem build0V (w : World) : (Instr.buildSlice 29 0 #[]).run Try.prog w = .ok (.slice (some ⟨w.heap.size, 0, none⟩) 0 0) (w.alloc (.cells #[] 5)) := by kernel_rfl
theorem own0V (B : Nat) (bs : Nat → Nat) (w : World) (h : B ≤ w.heap.size) : (w.alloc (.cells #[] 5)).ownsRow B 5 1 (.slice (some ⟨w.heap.size, 0, none⟩) 0 0) 0 (CB bs 0) := World.ownsRow_made w #[] 0 h (Nat.zero_le _) rfl
/-- The block of the document's valve. -/
def RVC (n : Nat) (s : Vs) (v : Value) : Array Value := #[.int .i64 (n : Nat), .bool s.run, .bool s.held, .bool s.fr, .int .i64 s.lat, v, .bool s.sm]
structure RVR (w : World) (b M n : Nat) (s : Vs) : Prop where
  ex : ∃ v, w.heap[b]? = some (.cells (RVC n s v) 31 (0, 0)) ∧ VV w M n s v
  bM : b < M
  sz : M ≤ w.heap.size
  n1 : 1 ≤ n
  n8 : n ≤ 8
section
variable {w w' : World} {b M n : Nat} {s : Vs}
theorem RVR.lt (h : RVR w b M n s) : b < w.heap.size := Nat.lt_of_lt_of_le h.bM h.sz
theorem RVR.off {l : List Nat} (h : RVR w b M n s) (q : Off l w w') (hb : b ∉ l) (hl : ∀ k, k ∈ l → k < M) : RVR w' b M n s := by
  obtain ⟨v, h1, h3⟩ := h.ex
  exact ⟨⟨v, (q.block b h.lt hb).trans h1, h3.off q hl⟩, h.bM, Nat.le_trans h.sz q.size, h.n1, h.n8⟩
theorem RVR.new_ (h : RVR w b M n s) (q : Off [] w w') : RVR w' b M n s := h.off q (by simp) (by simp)
theorem RVR.cells (h : RVR w b M n s) : ∃ v, w.cell? ⟨b, 0, none⟩ = some (.int .i64 (n : Nat)) ∧ w.cell? ⟨b, 1, none⟩ = some (.bool s.run) ∧ w.cell? ⟨b, 2, none⟩ = some (.bool s.held) ∧ w.cell? ⟨b, 3, none⟩ = some (.bool s.fr) ∧
    w.cell? ⟨b, 4, none⟩ = some (.int .i64 s.lat) ∧ w.cell? ⟨b, 5, none⟩ = some v ∧ w.cell? ⟨b, 6, none⟩ = some (.bool s.sm) ∧ (∀ j, w.frozen? ⟨b, j, none⟩ = false) ∧ VV w M n s v ∧ w.heap[b]? = some (.cells (RVC n s v) 31 (0, 0)) := by
  obtain ⟨v, e, h3⟩ := h.ex
  exact ⟨v, cell_of_row w b 0 _ _ _ e, cell_of_row w b 1 _ _ _ e, cell_of_row w b 2 _ _ _ e, cell_of_row w b 3 _ _ _ e, cell_of_row w b 4 _ _ _ e, cell_of_row w b 5 _ _ _ e, cell_of_row w b 6 _ _ _ e, fun j => frozen_of_row w b j _ _ e, h3, e⟩
theorem RVR.upd (h : RVR w b M n s) (s' : Vs) (q : Off [b] w w') (hc : ∀ v, w.heap[b]? = some (.cells (RVC n s v) 31 (0, 0)) → VV w M n s v → ∃ v', w'.heap[b]? = some (.cells (RVC n s' v') 31 (0, 0)) ∧ VV w' M n s' v') : RVR w' b M n s' := by
  obtain ⟨v, e, V⟩ := h.ex
  exact ⟨hc v e V, h.bM, Nat.le_trans h.sz q.size, h.n1, h.n8⟩
end
theorem rreq_any (b M n : Nat) (s : Vs) (w : World) (h : RVR w b M n s) :
    Calls Try.prog 27 #[.pointer (some ⟨b, 0, none⟩)] w fun e w' => e = .returned (.bool (vreq s)) ∧ w' = w := by
  obtain ⟨v, c0, c1, c2, c3, c4, c5, c6, fz, V, hb⟩ := h.cells
  clear V hb h
  unfold vreq
  cases hr : s.run
  · rw [hr] at c1
    go_enter Try.func27, Try.ntmps27
    go_wp2_with fail
    go_ret
    exact ⟨rfl, rfl⟩
  · rw [hr] at c1
    by_cases hl : s.lat = 0
    · rw [hl] at c4 ⊢
      go_enter Try.func27, Try.ntmps27
      go_wp2_with fail
      go_ret
      exact ⟨rfl, rfl⟩
    · go_enter Try.func27, Try.ntmps27
      go_wp2_with fail
      go_ret
      exact ⟨rfl, rfl⟩
theorem rrun_any (b M n : Nat) (s : Vs) (o : Bool) (w : World) (h : RVR w b M n s) :
    Calls Try.prog 29 #[.pointer (some ⟨b, 0, none⟩), .bool o] w fun e w' => e = .returned (.tuple #[]) ∧ Hid (Off [b] w w' ∧ RVR w' b M n (vrun s o)) := by
  obtain ⟨v, c0, c1, c2, c3, c4, c5, c6, fz, V, hb⟩ := h.cells
  have z1 := fz 1
  have z2 := fz 2
  have z5 := fz 5
  have z6 := fz 6
  unfold vrun
  by_cases hr : s.run = o
  · rw [if_pos hr]
    have H : Hid (_) := h
    rw [hr] at c1
    clear h V hb
    cases o
    · go_enter Try.func29, Try.ntmps29
      go_wp2_with fail
      refine bodyPost_ret (results_none rfl _ _ _) rfl ?_
      exact ⟨rfl, Off.refl _ _, H.out⟩
    · go_enter Try.func29, Try.ntmps29
      go_wp2_with fail
      refine bodyPost_ret (results_none rfl _ _ _) rfl ?_
      exact ⟨rfl, Off.refl _ _, H.out⟩
  · rw [if_neg hr]
    have o1 := Off.setCell b 1 w (.bool o)
    have o2 := o1.trans (Off.setCell b 2 _ (.bool false))
    have o3 := o2.trans (Off.setCell b 6 _ (.bool false))
    have o4 := o3.trans (Off.setCell b 5 _ (.slice none 0 0))
    have F : Hid (Off [b] w ((((w.setCell ⟨b, 1, none⟩ (.bool o)).setCell ⟨b, 2, none⟩ (.bool false)).setCell ⟨b, 6, none⟩ (.bool false)).setCell ⟨b, 5, none⟩ (.slice none 0 0)) ∧ RVR ((((w.setCell ⟨b, 1, none⟩ (.bool o)).setCell ⟨b, 2, none⟩ (.bool false)).setCell ⟨b, 6, none⟩ (.bool false)).setCell ⟨b, 5, none⟩ (.slice none 0 0)) b M n { s with run := o, held := false, sm := false }) :=
      ⟨o4, h.upd _ o4 fun v e _ => ⟨.slice none 0 0, heap_setCell_same _ _ _ _ _ _ (heap_setCell_same _ _ _ _ _ _ (heap_setCell_same _ _ _ _ _ _ (heap_setCell_same _ _ _ _ _ _ e))), .inl ⟨rfl, rfl⟩⟩⟩
    clear h V hb o1 o2 o3 o4
    have hr' : s.run = !o := by cases o <;> cases hq : s.run <;> simp_all
    rw [hr'] at c1
    clear hr
    cases o
    · go_enter Try.func29, Try.ntmps29
      go_wp2_with fail
      go_end0
      exact ⟨rfl, F⟩
    · go_enter Try.func29, Try.ntmps29
      go_wp2_with fail
      go_end0
      exact ⟨rfl, F⟩
theorem rhold_any (b M n : Nat) (s : Vs) (o : Bool) (w : World) (h : RVR w b M n s) :
    Calls Try.prog 31 #[.pointer (some ⟨b, 0, none⟩), .bool o] w fun e w' => e = .returned (.tuple #[]) ∧ Hid (Off [b] w w' ∧ RVR w' b M n (vhold s o)) := by
  obtain ⟨v, c0, c1, c2, c3, c4, c5, c6, fz, V, hb⟩ := h.cells
  have z2 := fz 2
  unfold vhold
  have o1 := Off.setCell b 2 w (.bool (o && s.run))
  have F : Hid (Off [b] w (w.setCell ⟨b, 2, none⟩ (.bool (o && s.run))) ∧ RVR (w.setCell ⟨b, 2, none⟩ (.bool (o && s.run))) b M n { s with held := o && s.run }) :=
    ⟨o1, h.upd _ o1 fun v e V => ⟨v, heap_setCell_same _ _ _ _ _ _ e, VV.off (s := { s with held := o && s.run }) V o1 (by simpa using h.bM)⟩⟩
  clear h V hb o1
  cases o
  · go_enter Try.func31, Try.ntmps31
    go_wp2_with fail
    go_end0
    exact ⟨rfl, F⟩
  · go_enter Try.func31, Try.ntmps31
    go_wp2_with fail
    go_end0
    exact ⟨rfl, F⟩
theorem rcome_any (b M n : Nat) (s : Vs) (w : World) (h : RVR w b M n s) (k : Vok s) :
    Calls Try.prog 30 #[.pointer (some ⟨b, 0, none⟩)] w fun e w' => e = .returned (.tuple #[]) ∧ Hid (Off [b] w w' ∧ RVR w' b M n (vfresh s)) := by
  obtain ⟨v, c0, c1, c2, c3, c4, c5, c6, fz, V, hb⟩ := h.cells
  have z3 := fz 3
  unfold vfresh
  by_cases hl : s.lat = 0
  · have e : ({ s with fr := s.lat != 0 } : Vs) = s := by
      have := k.fr hl
      cases s
      simp_all
    rw [e]
    have H : Hid (_) := h
    rw [hl] at c4
    clear h V hb
    go_enter Try.func30, Try.ntmps30
    go_wp2_with fail
    go_end0
    exact ⟨rfl, Off.refl _ _, H.out⟩
  · rw [show (s.lat != 0) = true by simpa using hl]
    have o1 := Off.setCell b 3 w (.bool true)
    have F : Hid (Off [b] w (w.setCell ⟨b, 3, none⟩ (.bool true)) ∧ RVR (w.setCell ⟨b, 3, none⟩ (.bool true)) b M n { s with fr := true }) :=
      ⟨o1, h.upd _ o1 fun v e V => ⟨v, heap_setCell_same _ _ _ _ _ _ e, VV.off (s := { s with fr := true }) V o1 (by simpa using h.bM)⟩⟩
    clear h V hb o1
    go_enter Try.func30, Try.ntmps30
    go_wp2_with fail
    go_end0
    exact ⟨rfl, F⟩
theorem rtrip_any (b M n : Nat) (s : Vs) (x : Int) (w : World) (h : RVR w b M n s) :
    Calls Try.prog 28 #[.pointer (some ⟨b, 0, none⟩), .int .i64 x] w fun e w' => e = .returned (.bool (vtripB s x)) ∧ Hid (Off [b] w w' ∧ RVR w' b M n (vtrip s x)) := by
  obtain ⟨v, c0, c1, c2, c3, c4, c5, c6, fz, V, hb⟩ := h.cells
  have z3 := fz 3
  have z4 := fz 4
  have z5 := fz 5
  have z6 := fz 6
  unfold vtripB vtrip
  by_cases hx : x = 0
  · rw [if_pos hx, decide_eq_false (fun k => k.1 hx)]
    subst hx
    have H : Hid (_) := h
    clear h V hb
    go_enter Try.func28, Try.ntmps28
    go_wp2_with fail
    go_ret
    exact ⟨rfl, Off.refl _ _, H.out⟩
  · rw [if_neg hx]
    have o1 := Off.setCell b 6 w (.bool false)
    have o2 := o1.trans (Off.setCell b 5 _ (.slice none 0 0))
    have o3 := o2.trans (Off.setCell b 3 _ (.bool false))
    by_cases hl : s.lat = 0
    · rw [decide_eq_true ⟨hx, hl⟩, if_pos hl]
      have o4 := o3.trans (Off.setCell b 4 _ (.int .i64 x))
      have F : Hid (Off [b] w ((((w.setCell ⟨b, 6, none⟩ (.bool false)).setCell ⟨b, 5, none⟩ (.slice none 0 0)).setCell ⟨b, 3, none⟩ (.bool false)).setCell ⟨b, 4, none⟩ (.int .i64 x)) ∧ RVR ((((w.setCell ⟨b, 6, none⟩ (.bool false)).setCell ⟨b, 5, none⟩ (.slice none 0 0)).setCell ⟨b, 3, none⟩ (.bool false)).setCell ⟨b, 4, none⟩ (.int .i64 x)) b M n { s with fr := false, sm := false, lat := x }) :=
        ⟨o4, h.upd _ o4 fun v e _ => ⟨.slice none 0 0, heap_setCell_same _ _ _ _ _ _ (heap_setCell_same _ _ _ _ _ _ (heap_setCell_same _ _ _ _ _ _ (heap_setCell_same _ _ _ _ _ _ e))), .inl ⟨rfl, rfl⟩⟩⟩
      rw [hl] at c4
      clear h V hb o1 o2 o3 o4
      go_enter Try.func28, Try.ntmps28
      go_wp2_with fail
      go_ret
      exact ⟨rfl, F⟩
    · rw [decide_eq_false (fun k => hl k.2), if_neg hl]
      have F : Hid (Off [b] w (((w.setCell ⟨b, 6, none⟩ (.bool false)).setCell ⟨b, 5, none⟩ (.slice none 0 0)).setCell ⟨b, 3, none⟩ (.bool false)) ∧ RVR (((w.setCell ⟨b, 6, none⟩ (.bool false)).setCell ⟨b, 5, none⟩ (.slice none 0 0)).setCell ⟨b, 3, none⟩ (.bool false)) b M n { s with fr := false, sm := false, lat := s.lat }) :=
        ⟨o3, h.upd _ o3 fun v e _ => ⟨.slice none 0 0, heap_setCell_same _ _ _ _ _ _ (heap_setCell_same _ _ _ _ _ _ (heap_setCell_same _ _ _ _ _ _ e)), .inl ⟨rfl, rfl⟩⟩⟩
      clear h V hb o1 o2 o3
      go_enter Try.func28, Try.ntmps28
      go_wp2_with fail
      go_ret
      exact ⟨rfl, F⟩
theorem rack_any (b M n : Nat) (s : Vs) (w : World) (h : RVR w b M n s) :
    Calls Try.prog 33 #[.pointer (some ⟨b, 0, none⟩)] w fun e w' => e = .returned (.bool (vreq s)) ∧ Hid (Off [b] w w' ∧ RVR w' b M n (vack s)) := by
  obtain ⟨v, c0, c1, c2, c3, c4, c5, c6, fz, V, hb⟩ := h.cells
  have z3 := fz 3
  have z4 := fz 4
  have hq := rreq_any b M n s w h
  unfold vack
  by_cases hr : vreq s = true
  · rw [if_pos hr, hr]
    rw [hr] at hq
    have o1 := Off.setCell b 4 w (.int .i64 0)
    have o2 := o1.trans (Off.setCell b 3 _ (.bool false))
    have F : Hid (Off [b] w ((w.setCell ⟨b, 4, none⟩ (.int .i64 0)).setCell ⟨b, 3, none⟩ (.bool false)) ∧ RVR ((w.setCell ⟨b, 4, none⟩ (.int .i64 0)).setCell ⟨b, 3, none⟩ (.bool false)) b M n { s with lat := 0, fr := false }) :=
      ⟨o2, h.upd _ o2 fun v e V => ⟨v, heap_setCell_same _ _ _ _ _ _ (heap_setCell_same _ _ _ _ _ _ e), VV.off (s := { s with lat := 0, fr := false }) V o2 (by simpa using h.bM)⟩⟩
    clear h V hb o1 o2
    go_enter Try.func33, Try.ntmps33
    go_wp2_with (go_at_call 27; refine hq.mono ?_; rintro e w' ⟨rfl, rfl⟩)
    go_ret
    exact ⟨rfl, F⟩
  · rw [if_neg hr, show vreq s = false by simpa using hr]
    rw [show vreq s = false by simpa using hr] at hq
    have H : Hid (_) := h
    clear h V hb
    go_enter Try.func33, Try.ntmps33
    go_wp2_with (go_at_call 27; refine hq.mono ?_; rintro e w' ⟨rfl, rfl⟩)
    go_ret
    exact ⟨rfl, Off.refl _ _, H.out⟩
set_option maxHeartbeats 1000000 in
theorem rtake_yes (b n : Nat) (v y : Value) (a : Option Addr) (cap : Nat) (bs : Nat → Nat) (w : World) (R : Row8 w a n cap bs) (hab : ∀ x, a = some x → x.block ≠ b) (h8 : n ≤ 8) (c1 : w.cell? ⟨b, 1, none⟩ = some (.bool true)) (c4 : w.cell? ⟨b, 4, none⟩ = some (.int .i64 0)) (c5 : w.cell? ⟨b, 5, none⟩ = some v) (c6 : w.cell? ⟨b, 6, none⟩ = some y) (z5 : w.frozen? ⟨b, 5, none⟩ = false) (z6 : w.frozen? ⟨b, 6, none⟩ = false) (hlt : b < w.heap.size) :
    Calls Try.prog 32 #[.pointer (some ⟨b, 0, none⟩), .slice a n cap] w fun e w' => e = .returned (.tuple #[]) ∧ Hid (∃ u w2, w2.ownsRow w.heap.size 5 1 u n (CB bs n) ∧ Below w.heap.size (w.setCell ⟨b, 6, none⟩ (.bool true)) w2 ∧ w' = w2.setCell ⟨b, 5, none⟩ u) := by
  obtain ⟨i0, hi, hz0, hz1, hz2⟩ := info_parts info_u8
  have hbd := build0V
  obtain ⟨w1, hw1⟩ : ∃ w1, w1 = w.setCell ⟨b, 6, none⟩ (.bool true) := ⟨_, rfl⟩
  have s1 : w1.heap.size = w.heap.size := by rw [hw1]; simp [World.setCell]
  have R1 : Row8 w1 a n cap bs := hw1 ▸ R.off (Off.setCell b 6 w _) (fun x hx => by simpa using hab x hx)
  have d5 : w1.cell? ⟨b, 5, none⟩ = some v := by rw [hw1, World.cell?_setCell_other _ _ _ _ (by simp)]; exact c5
  have y5 : w1.frozen? ⟨b, 5, none⟩ = false := by rw [hw1]; simpa using z5
  have hbelA : Below w.heap.size w1 (w1.alloc (.cells #[] 5)) := (Below.refl _ _).alloc (Nat.le_of_eq s1.symm) _
  have R0 : Row8 (w1.alloc (.cells #[] 5)) a n cap bs := R1.below ((Below.refl _ _).alloc (Nat.le_refl _) _)
  have O0 := own0V w.heap.size bs w1 (Nat.le_of_eq s1.symm)
  have hszA : w.heap.size ≤ (w1.alloc (.cells #[] 5)).heap.size := by rw [World.size_alloc]; omega
  go_enter Try.func32, Try.ntmps32
  go_upto_region 2 with fail
  rw [← hw1]
  have HW : Hid (_) := hw1
  clear R c1 c4 c5 c6 z5 z6 hw1 s1
  go_wp2_with (at_builtin; refine wpList_append_row8 rfl (.tmp 19) (.tmp 20) 29 rfl w.heap.size 5 i0 (.int .u8 0) Try.underlying29 hi hz0 hz1 hz2 rfl _ 0 _ rfl O0 a n cap bs rfl R0 (by unfold maxLen; omega) (by omega) hszA ?_)
  intro v2 w2 hown2 hgrow2
  have hbel2 : Below w.heap.size w1 w2 := hbelA.grown hgrow2 hszA (fun k hk => (O0.lt k hk).1)
  rw [show CB bs 0 = [] from rfl, List.nil_append] at hown2
  have e5 : w2.cell? ⟨b, 5, none⟩ = some v := (hbel2.cell hlt).trans d5
  have x5 : w2.frozen? ⟨b, 5, none⟩ = false := (hbel2.frozen hlt).trans y5
  obtain ⟨a2, k2, rfl, _⟩ := own_row8 hown2 R1.byte
  have H : Hid (∃ w2', w2'.ownsRow w.heap.size 5 1 (.slice a2 n k2) n (CB bs n) ∧ Below w.heap.size w1 w2' ∧ w2 = w2') := ⟨w2, hown2, hbel2, rfl⟩
  clear hown2 hbel2 hgrow2 O0 R0 R1 d5 y5 hbelA
  go_wp2_with fail
  go_end0
  obtain ⟨_, h1, h2, rfl⟩ := H.out
  exact ⟨rfl, _, _, h1, HW.out ▸ h2, rfl⟩
theorem rtake_no (b : Nat) (r : Bool) (l : Int) (a : Option Addr) (len cap : Nat) (w : World) (c1 : w.cell? ⟨b, 1, none⟩ = some (.bool r)) (c4 : w.cell? ⟨b, 4, none⟩ = some (.int .i64 l)) (hx : r = false ∨ ¬ l = 0) :
    Calls Try.prog 32 #[.pointer (some ⟨b, 0, none⟩), .slice a len cap] w fun e w' => e = .returned (.tuple #[]) ∧ w' = w := by
  cases r
  · go_enter Try.func32, Try.ntmps32
    go_wp2_with fail
    go_end0
    exact ⟨rfl, rfl⟩
  · have e : ¬ l = 0 := by rcases hx with h | h <;> simp_all
    go_enter Try.func32, Try.ntmps32
    go_wp2_with fail
    go_end0
    exact ⟨rfl, rfl⟩
theorem rtake_any (b M n : Nat) (s : Vs) (a : Option Addr) (cap : Nat) (bs : Nat → Nat) (w : World) (h : RVR w b M n s) (R : Row8 w a n cap bs) (hab : ∀ x, a = some x → x.block ≠ b) :
    Calls Try.prog 32 #[.pointer (some ⟨b, 0, none⟩), .slice a n cap] w fun e w' => e = .returned (.tuple #[]) ∧ Hid (Off [b] w w' ∧ RVR w' b M n (vtake s bs)) := by
  obtain ⟨v, c0, c1, c2, c3, c4, c5, c6, fz, V, hb⟩ := h.cells
  unfold vtake
  by_cases hs : s.run = true ∧ s.lat = 0
  · rw [if_pos hs]
    refine (rtake_yes b n v _ a cap bs w R hab h.n8 (hs.1 ▸ c1) (hs.2 ▸ c4) c5 c6 (fz 5) (fz 6) h.lt).mono ?_
    rintro e w3 ⟨rfl, H⟩
    obtain ⟨u, w2, h1, h2, rfl⟩ := H.out
    have o1 := Off.setCell b 6 w (.bool true)
    have o2 : Off [b] (w.setCell ⟨b, 6, none⟩ (.bool true)) w2 := ⟨h2.os, h2.tape, h2.output, h2.size, fun k hk _ => h2.block k (by simpa [World.setCell] using hk)⟩
    have o3 := Off.setCell b 5 w2 u
    refine ⟨rfl, (o1.trans o2).trans o3, h.upd _ ((o1.trans o2).trans o3) fun v' e' _ => ⟨u, heap_setCell_same _ _ _ _ _ _ ((h2.block b h.lt).trans (heap_setCell_same _ _ _ _ _ _ e')), .inr ⟨rfl, ?_, R.byte⟩⟩⟩
    exact own_off (own_base h1 h.sz) o3 (by simpa using h.bM)
  · rw [if_neg hs]
    refine (rtake_no b s.run s.lat a n cap w c1 c4 ?_).mono (fun _ _ ⟨he, hw⟩ => ⟨he, by subst hw; exact ⟨Off.refl _ _, h⟩⟩)
    cases hr : s.run
    · exact .inl rfl
    · exact .inr (fun k => hs ⟨hr, k⟩)
set_option maxHeartbeats 1000000 in
theorem rout_off (b n : Nat) (r hd sm : Bool) (w : World) (c0 : w.cell? ⟨b, 0, none⟩ = some (.int .i64 (n : Nat))) (c1 : w.cell? ⟨b, 1, none⟩ = some (.bool r)) (c2 : w.cell? ⟨b, 2, none⟩ = some (.bool hd)) (c6 : w.cell? ⟨b, 6, none⟩ = some (.bool sm)) (h8 : n ≤ 8)
    (hx : (r && (!hd && sm)) = false) :
    Calls Try.prog 26 #[.pointer (some ⟨b, 0, none⟩)] w fun e w' => ∃ v, e = .returned (.tuple #[v, .bool false]) ∧ Hid (w'.ownsRow w.heap.size 5 1 v n (CB (fun _ => 0) n) ∧ Below w.heap.size w w') := by
  obtain ⟨i0, hi, hz0, hz1, hz2⟩ := info_parts info_u8
  cases r
  · go_enter Try.func26, Try.ntmps26
    go_wp2_with (at_make; refine wpList_make8 _ rfl (.tmp 30) (.tmp 30) 29 rfl w.heap.size 5 i0 Try.underlying29 hi hz0 hz1 hz2 _ _ _ _ n n rfl rfl rfl rfl (Nat.le_refl _) (by omega) (Nat.le_refl _) ?_)
    intro w1 hown1 hbel1
    have H : Hid (_) := And.intro hown1 hbel1
    clear hown1 hbel1
    go_wp2_with fail
    go_ret2
    exact ⟨_, rfl, H⟩
  · cases hd
    · have e : sm = false := by simpa using hx
      subst e
      go_enter Try.func26, Try.ntmps26
      go_wp2_with (at_make; refine wpList_make8 _ rfl (.tmp 30) (.tmp 30) 29 rfl w.heap.size 5 i0 Try.underlying29 hi hz0 hz1 hz2 _ _ _ _ n n rfl rfl rfl rfl (Nat.le_refl _) (by omega) (Nat.le_refl _) ?_)
      intro w1 hown1 hbel1
      have H : Hid (_) := And.intro hown1 hbel1
      clear hown1 hbel1
      go_wp2_with fail
      go_ret2
      exact ⟨_, rfl, H⟩
    · go_enter Try.func26, Try.ntmps26
      go_wp2_with (at_make; refine wpList_make8 _ rfl (.tmp 30) (.tmp 30) 29 rfl w.heap.size 5 i0 Try.underlying29 hi hz0 hz1 hz2 _ _ _ _ n n rfl rfl rfl rfl (Nat.le_refl _) (by omega) (Nat.le_refl _) ?_)
      intro w1 hown1 hbel1
      have H : Hid (_) := And.intro hown1 hbel1
      clear hown1 hbel1
      go_wp2_with fail
      go_ret2
      exact ⟨_, rfl, H⟩
set_option maxHeartbeats 1000000 in
theorem rout_on (b n : Nat) (a : Option Addr) (cap : Nat) (bs : Nat → Nat) (w : World) (hlt : b < w.heap.size) (c1 : w.cell? ⟨b, 1, none⟩ = some (.bool true)) (c2 : w.cell? ⟨b, 2, none⟩ = some (.bool false)) (c5 : w.cell? ⟨b, 5, none⟩ = some (.slice a n cap)) (c6 : w.cell? ⟨b, 6, none⟩ = some (.bool true)) (h8 : n ≤ 8)
    (R : Row8 w a n cap bs) :
    Calls Try.prog 26 #[.pointer (some ⟨b, 0, none⟩)] w fun e w' => ∃ v, e = .returned (.tuple #[v, .bool true]) ∧ Hid (w'.ownsRow w.heap.size 5 1 v n (CB bs n) ∧ Below w.heap.size w w') := by
  obtain ⟨i0, hi, hz0, hz1, hz2⟩ := info_parts info_u8
  have hbd := build0V
  have hbelA : Below w.heap.size w (w.alloc (.cells #[] 5)) := (Below.refl _ _).alloc (Nat.le_refl _) _
  have R0 := R.below hbelA
  have O0 := own0V w.heap.size bs w (Nat.le_refl _)
  have d5 : (w.alloc (.cells #[] 5)).cell? ⟨b, 5, none⟩ = some (.slice a n cap) := (hbelA.cell hlt).trans c5
  have hszA := hbelA.size
  go_enter Try.func26, Try.ntmps26
  go_wp2_with (at_builtin; refine wpList_append_row8 rfl (.tmp 21) (.tmp 25) 29 rfl w.heap.size 5 i0 (.int .u8 0) Try.underlying29 hi hz0 hz1 hz2 rfl _ 0 _ rfl O0 a n cap bs rfl R0 (by unfold maxLen; omega) (by omega) hszA ?_)
  intro v2 w2 hown2 hgrow2
  have hbel2 : Below w.heap.size w w2 := hbelA.grown hgrow2 hszA (fun k hk => (O0.lt k hk).1)
  rw [show CB bs 0 = [] from rfl, List.nil_append] at hown2
  have H : Hid (w2.ownsRow w.heap.size 5 1 v2 n (CB bs n) ∧ Below w.heap.size w w2) := ⟨by simpa using hown2, hbel2⟩
  clear hown2 hbel2 hgrow2 O0 R R0
  go_wp2_with fail
  go_ret2
  exact ⟨_, rfl, H⟩
theorem rout_any (b M n : Nat) (s : Vs) (w : World) (h : RVR w b M n s) :
    Calls Try.prog 26 #[.pointer (some ⟨b, 0, none⟩)] w fun e w' => ∃ v, e = .returned (.tuple #[v, .bool (von s)]) ∧ Hid (w'.ownsRow w.heap.size 5 1 v n (CB (vout s) n) ∧ Below w.heap.size w w') := by
  obtain ⟨v, c0, c1, c2, c3, c4, c5, c6, fz, V, hb⟩ := h.cells
  by_cases ho : von s = true
  · unfold vout
    rw [if_pos ho, ho]
    simp only [von, Bool.and_eq_true, Bool.not_eq_true'] at ho
    obtain ⟨o1, o2, o3⟩ := ho
    rcases V with ⟨e, _⟩ | ⟨_, V, hby⟩
    · rw [o3] at e; cases e
    obtain ⟨a, cap, rfl, R⟩ := own_row8 V hby
    exact rout_on b n a cap s.bs w h.lt (o1 ▸ c1) (o2 ▸ c2) c5 (o3 ▸ c6) h.n8 R
  · have ho' : von s = false := by simpa using ho
    unfold vout
    rw [if_neg ho, ho']
    exact rout_off b n s.run s.held s.sm w c0 c1 c2 c6 h.n8 ho'

end Go.Proofs.Ytjdedopijplblaa
