/- Lists cloned; two lists that are written while others are kept. -/
import Derived.Test.YteaekoacongbcaaRf5
namespace Go.Proofs.Yteaekoacongbcaa
open Go.RowKit Go.Maps

set_option maxHeartbeats 1600000 in
set_option maxRecDepth 100000 in
theorem clone4_any (v : Value) (B : Nat) (l : List R4) (w : World) (h : w.ownsRow B 32 4 v l.length (rvs l)) (hl : l.length ≤ 1000000) :
    Calls Try.prog 21 #[v] w fun e w' => ∃ v', e = .returned v' ∧ Hid (w'.ownsRow w.heap.size 32 4 v' l.length (rvs l) ∧ Below w.heap.size w w') := by
  rcases h.2 with ⟨rfl, hn⟩ | ⟨g, cap, cur, rfl, hg, hgg, h1, h2, h3, h4⟩
  · have hb : ∀ w, (binOp .eql 22 (.slice none 0 0) (.slice none 0 0)).run Try.prog w = .ok (.bool true) w := fun _ => rfl
    have HL : Hid (l = []) := List.eq_nil_of_length_eq_zero hn
    clear h hn hl
    go_enter Try.func21, Try.ntmps21
    go_wp2_with fail
    go_ret
    refine ⟨_, rfl, ?_⟩
    rw [HL.out]
    exact ⟨World.ownsRow_nil _ _ _ _, Below.refl _ _⟩
  · have hb : ∀ w, (binOp .eql 22 (.slice (some ⟨g, 0, none⟩) l.length cap) (.slice none 0 0)).run Try.prog w = .ok (.bool false) w := fun _ => rfl
    obtain ⟨i0, hi, hz0, hz1, hz2⟩ := info_parts info_rec
    have hown : (w.alloc (.cells #[] 32)).ownsRow w.heap.size 32 4 (.slice (some ⟨w.heap.size, 0, none⟩) 0 0) 0 [] := World.ownsRow_made w #[] 0 (Nat.le_refl _) (Nat.zero_le _) rfl
    have hbl : Below w.heap.size w (w.alloc (.cells #[] 32)) := (Below.refl _ _).alloc (Nat.le_refl _) _
    have hsz : w.heap.size ≤ (w.alloc (.cells #[] 32)).heap.size := by simp
    have hnews : ∀ j u, (rvs l)[j]? = some u → (w.alloc (.cells #[] 32)).cell? ((⟨g, 0, none⟩ : Addr).add j) = some u := by
      intro j u hu
      rw [Go.WideShapes.add_plain, Nat.zero_add]
      refine (World.cell?_of_block ((Off.alloc [] w _).block g (Array.getElem?_eq_some_iff.1 hgg).1 (by simp))).trans (cell_at hgg ?_)
      have hj : j < l.length * 4 := by have := (List.getElem?_eq_some_iff.1 hu).1; rw [rvs_len] at this; exact this
      have : (cur.toList.take (l.length * 4))[j]? = (rvs l)[j]? := by rw [h4]
      rw [List.getElem?_take_of_lt hj] at this
      rw [← hu, ← this]; simp
    have hl4 : (rvs l).length = l.length * 4 := rvs_len l
    have h1' := rvs_one' l
    clear h h4 hgg
    generalize rvs l = xs at *
    generalize l.length = n at *
    go_enter Try.func21, Try.ntmps21
    go_wp2_with (at_builtin; refine wpList_append_own _ rfl (.tmp 5) (.tmp 6) 22 rfl w.heap.size 32 i0 _ 4 24 Try.underlying22 hi hz0 hz1 hz2 rfl (by decide) _ 0 [] rfl hown ⟨g, 0, none⟩ n cap xs rfl hl4 hnews h1' (by unfold maxLen; omega) (by omega) hsz ?_)
    intro v3 w3 hown3 hgrow3 _
    have HO : Hid (w3.ownsRow w.heap.size 32 4 v3 n xs ∧ Below w.heap.size w w3) := ⟨by simpa using hown3, hbl.grown hgrow3 hsz (fun j hj => (hown.lt j hj).1)⟩
    clear hown3 hgrow3 hown hnews hl4 hbl
    go_wp2_with fail
    go_ret
    exact ⟨_, rfl, HO⟩
set_option maxHeartbeats 1600000 in
set_option maxRecDepth 100000 in
theorem clone1_any (v : Value) (B : Nat) (l : List Int) (w : World) (h : w.ownsRow B 29 1 v l.length (l.map encZ)) (hl : l.length ≤ 1000000) :
    Calls Try.prog 22 #[v] w fun e w' => ∃ v', e = .returned v' ∧ Hid (w'.ownsRow w.heap.size 29 1 v' l.length (l.map encZ) ∧ Below w.heap.size w w') := by
  rcases h.2 with ⟨rfl, hn⟩ | ⟨g, cap, cur, rfl, hg, hgg, h1, h2, h3, h4⟩
  · have hb : ∀ w, (binOp .eql 42 (.slice none 0 0) (.slice none 0 0)).run Try.prog w = .ok (.bool true) w := fun _ => rfl
    have HL : Hid (l = []) := List.eq_nil_of_length_eq_zero hn
    clear h hn hl
    go_enter Try.func22, Try.ntmps22
    go_wp2_with fail
    go_ret
    refine ⟨_, rfl, ?_⟩
    rw [HL.out]
    exact ⟨World.ownsRow_nil _ _ _ _, Below.refl _ _⟩
  · have hb : ∀ w, (binOp .eql 42 (.slice (some ⟨g, 0, none⟩) l.length cap) (.slice none 0 0)).run Try.prog w = .ok (.bool false) w := fun _ => rfl
    obtain ⟨i0, hi, hz0, hz1, hz2⟩ := info_parts info_err
    have hown : (w.alloc (.cells #[] 29)).ownsRow w.heap.size 29 1 (.slice (some ⟨w.heap.size, 0, none⟩) 0 0) 0 [] := World.ownsRow_made w #[] 0 (Nat.le_refl _) (Nat.zero_le _) rfl
    have hbl : Below w.heap.size w (w.alloc (.cells #[] 29)) := (Below.refl _ _).alloc (Nat.le_refl _) _
    have hsz : w.heap.size ≤ (w.alloc (.cells #[] 29)).heap.size := by simp
    have hnews : ∀ j u, (l.map encZ)[j]? = some u → (w.alloc (.cells #[] 29)).cell? ((⟨g, 0, none⟩ : Addr).add j) = some u := by
      intro j u hu
      rw [Go.WideShapes.add_plain, Nat.zero_add]
      refine (World.cell?_of_block ((Off.alloc [] w _).block g (Array.getElem?_eq_some_iff.1 hgg).1 (by simp))).trans (cell_at hgg ?_)
      have hj : j < l.length * 1 := by have := (List.getElem?_eq_some_iff.1 hu).1; simpa using this
      have : (cur.toList.take (l.length * 1))[j]? = (l.map encZ)[j]? := by rw [h4]
      rw [List.getElem?_take_of_lt hj] at this
      rw [← hu, ← this]; simp
    have hl4 : (l.map encZ).length = l.length * 1 := by simp
    have h1' : ∀ u ∈ l.map encZ, u.oneCell' = true := by intro u hu; obtain ⟨y, _, rfl⟩ := List.mem_map.1 hu; rfl
    clear h h4 hgg
    generalize l.map encZ = xs at *
    generalize l.length = n at *
    go_enter Try.func22, Try.ntmps22
    go_wp2_with (at_builtin; refine wpList_append_own _ rfl (.tmp 5) (.tmp 6) 42 rfl w.heap.size 29 i0 _ 1 8 Try.underlying42 hi hz0 hz1 hz2 rfl (by decide) _ 0 [] rfl hown ⟨g, 0, none⟩ n cap xs rfl hl4 hnews h1' (by unfold maxLen; omega) (by omega) hsz ?_)
    intro v3 w3 hown3 hgrow3 _
    have HO : Hid (w3.ownsRow w.heap.size 29 1 v3 n xs ∧ Below w.heap.size w w3) := ⟨by simpa using hown3, hbl.grown hgrow3 hsz (fun j hj => (hown.lt j hj).1)⟩
    clear hown3 hgrow3 hown hnews hl4 hbl
    go_wp2_with fail
    go_ret
    exact ⟨_, rfl, HO⟩

/-- A list of ours, whatever it holds. -/
def Ro (W : World) (e : TypeId) (size : Nat) (v : Value) (n : Nat) : Prop := ∃ xs, W.ownsRow 0 e size v n xs
theorem Ro.set {W : World} {e : TypeId} {size : Nat} {v : Value} {n : Nat} (h : Ro W e size v n) (k j : Nat) (y : Value) : Ro (W.setCell ⟨k, j, none⟩ y) e size v n := by
  obtain ⟨xs, h0, h⟩ := h
  rcases h with ⟨rfl, rfl⟩ | ⟨g, cap, cur, rfl, hg, hgg, h1, h2, h3, h4⟩
  · exact ⟨xs, h0, .inl ⟨rfl, rfl⟩⟩
  · by_cases hk : g = k
    · subst hk
      refine ⟨(cur.setIfInBounds j y).toList.take (n * size), ?_, .inr ⟨g, cap, _, rfl, hg, heap_setCell_same _ _ _ _ _ _ hgg, h1, h2, by simpa using h3, rfl⟩⟩
      simp [h3, Nat.min_eq_left h1]
    · exact ⟨xs, h0, .inr ⟨g, cap, cur, rfl, hg, (heap_setCell_other W _ g y hk).trans hgg, h1, h2, h3, h4⟩⟩
theorem Ro.off {l : List Nat} {W W' : World} {e : TypeId} {size : Nat} {v : Value} {n : Nat} (h : Ro W e size v n) (ho : Off l W W') (hl : ∀ k, v.ownBlock = some k → k ∉ l) : Ro W' e size v n := by
  obtain ⟨xs, h⟩ := h; exact ⟨xs, own_off' h ho hl⟩
theorem Ro.there {W : World} {e : TypeId} {size : Nat} {v : Value} {n i : Nat} (h : Ro W e size v n) (hi : i < n) : ∃ g cap, v = .slice (some ⟨g, 0, none⟩) n cap ∧ g < W.heap.size ∧ ∀ f, f < size → (∃ u, W.cell? ⟨g, i * size + f, none⟩ = some u) ∧ W.frozen? ⟨g, i * size + f, none⟩ = false := by
  obtain ⟨xs, h0, h⟩ := h
  rcases h with ⟨rfl, rfl⟩ | ⟨g, cap, cur, rfl, hg, hgg, h1, h2, h3, h4⟩
  · omega
  · refine ⟨g, cap, rfl, (Array.getElem?_eq_some_iff.1 hgg).1, fun f hf => ⟨?_, frozen_of_row W g _ _ _ hgg⟩⟩
    have hb : i * size + f < cur.size := by
      rw [h3]
      have : (i + 1) * size ≤ cap * size := Nat.mul_le_mul_right _ (by omega)
      rw [Nat.add_mul] at this
      omega
    exact ⟨cur[i * size + f], cell_at hgg (Array.getElem?_eq_getElem hb)⟩
/-- Two lists that are written, while all else of the world W0 is kept. -/
structure Ph (W0 W : World) (la : List Nat) (va : Value) (n : Nat) (vx : Value) (m : Nat) : Prop where
  off : Off la W0 W
  ra : Ro W 32 4 va n
  rx : Ro W 29 1 vx m
  ba : ∀ k, va.ownBlock = some k → k ∈ la ∨ W0.heap.size ≤ k
  bx : ∀ k, vx.ownBlock = some k → k ∈ la ∨ W0.heap.size ≤ k
  ne : ∀ k, va.ownBlock = some k → vx.ownBlock ≠ some k
theorem Ph.set {W0 W : World} {la : List Nat} {va vx : Value} {n m : Nat} (h : Ph W0 W la va n vx m) {g : Nat} (hg : va.ownBlock = some g ∨ vx.ownBlock = some g) (j : Nat) (y : Value) : Ph W0 (W.setCell ⟨g, j, none⟩ y) la va n vx m := by
  refine ⟨?_, h.ra.set g j y, h.rx.set g j y, h.ba, h.bx, h.ne⟩
  have hb : g ∈ la ∨ W0.heap.size ≤ g := by rcases hg with hg | hg; exact h.ba g hg; exact h.bx g hg
  have h1 : Off (g :: la) W0 (W.setCell ⟨g, j, none⟩ y) := (h.off.more (fun k hk => List.mem_cons_of_mem _ hk)).trans ((Off.setCell g j W y).more (by simp))
  exact h1.only (fun k hk hlt => by
    rcases List.mem_cons.1 hk with rfl | hk
    · rcases hb with hb | hb
      · exact hb
      · omega
    · exact hk)
theorem Ph.alloc {W0 W : World} {la : List Nat} {va vx : Value} {n m : Nat} (h : Ph W0 W la va n vx m) (o : Obj) : Ph W0 (W.alloc o) la va n vx m :=
  ⟨h.off.trans (Off.alloc la W o), h.ra.off (Off.alloc [] W o) (by simp), h.rx.off (Off.alloc [] W o) (by simp), h.ba, h.bx, h.ne⟩
theorem off_grown {la : List Nat} {W0 W W' : World} {v : Value} (h : Off la W0 W) (hg : W.grownBy W' v.ownBlock) (hb : ∀ k, v.ownBlock = some k → k ∈ la ∨ W0.heap.size ≤ k) : Off la W0 W' :=
  ⟨hg.os.trans h.os, hg.tape.trans h.tape, hg.output.trans h.output, Nat.le_trans h.size hg.size, fun k hk hm => (hg.block k (Nat.lt_of_lt_of_le hk h.size) (fun e => by
    rcases hb k e.symm with h | h
    · exact hm h
    · omega)).trans (h.block k hk hm)⟩
theorem Ro.grown {W W' : World} {e : TypeId} {size : Nat} {v : Value} {n : Nat} {row : Option Nat} (h : Ro W e size v n) (hg : W.grownBy W' row) (hne : ∀ k, v.ownBlock = some k → row ≠ some k) : Ro W' e size v n := by
  obtain ⟨xs, h⟩ := h
  refine ⟨xs, h.kept hg ?_⟩
  cases hv : v.ownBlock with
  | none => exact .inl rfl
  | some k => right; exact (hne k hv).symm
theorem Ph.appA {W0 W W' : World} {la : List Nat} {va va' vx : Value} {n n' m : Nat} {xs : List Value} (h : Ph W0 W la va n vx m) (ho : W'.ownsRow 0 32 4 va' n' xs) (hg : W.grownBy W' va.ownBlock) (hb : va'.ownBlock = va.ownBlock ∨ va'.ownBlock = some W.heap.size) : Ph W0 W' la va' n' vx m := by
  refine ⟨off_grown h.off hg h.ba, ⟨xs, ho⟩, h.rx.grown hg (fun k hk e => h.ne k e hk), ?_, h.bx, ?_⟩
  · intro k hk
    rcases hb with hb | hb
    · exact h.ba k (hb ▸ hk)
    · right; rw [hb] at hk; have := h.off.size; simp at hk; omega
  · intro k hk e
    rcases hb with hb | hb
    · exact h.ne k (hb ▸ hk) e
    · rw [hb] at hk
      obtain ⟨ys, hx⟩ := h.rx
      have := (hx.lt k e).2
      simp at hk; omega
theorem Ph.appX {W0 W W' : World} {la : List Nat} {va vx vx' : Value} {n m m' : Nat} {xs : List Value} (h : Ph W0 W la va n vx m) (ho : W'.ownsRow 0 29 1 vx' m' xs) (hg : W.grownBy W' vx.ownBlock) (hb : vx'.ownBlock = vx.ownBlock ∨ vx'.ownBlock = some W.heap.size) : Ph W0 W' la va n vx' m' := by
  refine ⟨off_grown h.off hg h.bx, h.ra.grown hg (fun k hk e => h.ne k hk e), ⟨xs, ho⟩, h.ba, ?_, ?_⟩
  · intro k hk
    rcases hb with hb | hb
    · exact h.bx k (hb ▸ hk)
    · right; rw [hb] at hk; have := h.off.size; simp at hk; omega
  · intro k hk e
    rcases hb with hb | hb
    · exact h.ne k hk (hb ▸ e)
    · rw [hb] at e
      obtain ⟨ys, hx⟩ := h.ra
      have := (hx.lt k hk).2
      simp at e; omega
end Go.Proofs.Yteaekoacongbcaa
