/- Layer 20: a page: a text that grows by lines; bytes that grow by texts. -/
import Derived.Test.YtnmnjcjfgbpkaaaDoorJPck
import Derived.Test.YtnmnjcjfgbpkaaaDoorJBu
import Derived.Test.YtnmnjcjfgbpkaaaDoorJSj
import Derived.Lib.ConvBytes
import Derived.Lib.UnsafeStr
namespace Go.Proofs.YtnmnjcjfgbpkaaaDoor
set_option maxRecDepth 100000
open Go.RowKit Go.Maps
set_option maxRecDepth 100000
theorem range_appG {w : World} {b o : Nat} {l1 l2 : List Value} (h1 : w.rangeAt b o l1) (h2 : w.rangeAt b (o + l1.length) l2) : w.rangeAt b o (l1 ++ l2) := fun j v hv => by
  by_cases q : j < l1.length
  · rw [List.getElem?_append_left q] at hv
    exact h1 j v hv
  · rw [List.getElem?_append_right (by omega)] at hv
    have := h2 _ v hv
    rw [show o + l1.length + (j - l1.length) = o + j by omega] at this
    exact this
theorem strC (l : List UInt8) : Lib.strCells (tx l) = vb l := by
  rw [Lib.strCells_eq]
  show Lib.byteCells (tx l).data.toList = Lib.byteCells l
  simp [tx]
theorem vb_len (l : List UInt8) : (vb l).length = l.length := by simp [vb]
/-- Bytes at the head of a block that is new since B, with room that may be written. -/
structure Tg (w : World) (B : Nat) (v : Value) (l : List UInt8) : Prop where
  ex : ∃ g cap, v = .slice (some ⟨g, 0, none⟩) l.length cap ∧ B ≤ g ∧ l.length ≤ cap ∧ cap ≤ maxLen ∧ w.rangeAt g 0 (vb l) ∧ (∀ j, l.length ≤ j → j < cap → (w.cell? ⟨g, j, none⟩).isSome = true ∧ w.frozen? ⟨g, j, none⟩ = false) ∧ g < w.heap.size
theorem Tg.below {w w' : World} {B : Nat} {v : Value} {l : List UInt8} (h : Tg w B v l) (b : Below w.heap.size w w') : Tg w' B v l := by
  obtain ⟨g, cap, e, h1, h2, h3, h4, h5, h6⟩ := h.ex
  refine ⟨g, cap, e, h1, h2, h3, rangeB h4 b, fun j hj hc => ?_, Nat.lt_of_lt_of_le h6 b.size⟩
  obtain ⟨u, hu⟩ := Option.isSome_iff_exists.1 (h5 j hj hc).1
  refine ⟨by rw [cellB hu b]; rfl, ?_⟩
  rw [World.frozen?_of_block (a := ⟨g, j, none⟩) (b.block g h6)]
  exact (h5 j hj hc).2
theorem setCells_size (b : Nat) : ∀ (vs : List Value) (o : Nat) (w : World), (w.setCells b o vs).heap.size = w.heap.size := fun vs o w => (setA_tape b vs o w).2
theorem Tg.conv {w : World} {B : Nat} {v : Value} {l : List UInt8} (h : Tg w B v l) : (convert 43 9 v).run Tryd.prog w = .ok (.string (tx l)) w := by
  obtain ⟨g, cap, rfl, h1, h2, h3, h4, h5, h6⟩ := h.ex
  have R : Row8 w (some ⟨g, 0, none⟩) l.length cap (bf l) := by
    refine ⟨fun i _ => bf_lt l i, (fun h => by cases h), fun x hx i hi => ?_, h2⟩
    cases hx
    have e : (Addr.add ⟨g, 0, none⟩ i) = ⟨g, i, none⟩ := by unfold Addr.add; simp; omega
    rw [e]
    have := h4 i (.int .u8 ((bf l i : Nat) : Int)) (by rw [vb_CB, CB_get _ _ _ hi])
    rwa [Nat.zero_add] at this
  rw [conv_any _ _ _ _ _ R, BA_bf]
/-- append of a text. -/
theorem Tg.app {w w0 : World} {B : Nat} {v : Value} {l : List UInt8} (h : Tg w B v l) (m : List UInt8) (hm : l.length + m.length ≤ 140737488355328) (hB : B ≤ w.heap.size) (hb : Below B w0 w) : ∃ v' w', (Builtin.append_ #[43, 9] 43 #[v, .string (tx m)]).run Tryd.prog w = .ok v' w' ∧ Tg w' B v' (l ++ m) ∧ Below B w0 w' := by
  obtain ⟨i0, hi, hz0, hz1, hz2⟩ := info_parts info_u8
  obtain ⟨g, cap, rfl, h1, h2, h3, h4, h5, h6⟩ := h.ex
  have sz : (tx m).size = m.length := tx_size m
  by_cases hroom : l.length + m.length ≤ cap
  · have hst := run_storeCells_cells (P := Tryd.prog) g l.length (vb m) 0 w (fun j hj => by
        rw [vb_len] at hj
        simpa using (h5 (l.length + j) (by omega) (by omega)).1) (fun j hj => by
        rw [vb_len] at hj
        simpa using (h5 (l.length + j) (by omega) (by omega)).2) (vb_one m)
    simp only [Nat.add_zero] at hst
    have hf := Lib.run_firstCells_string (P := Tryd.prog) w 1 (tx m)
    rw [strC, sz] at hf
    have e : (⟨g, 0, none⟩ : Addr).add l.length = ⟨g, l.length, none⟩ := by rw [Addr.add_mid, Nat.zero_add]
    refine ⟨.slice (some ⟨g, 0, none⟩) (l.length + m.length) cap, w.setCells g l.length (vb m), ?_, ⟨g, cap, by rw [List.length_append], h1, by rw [List.length_append]; exact hroom, h3, ?_, fun j hj hc => ?_, by rw [setCells_size]; exact h6⟩, ?_⟩
    · simp [Builtin.append_, run_underlying Tryd.underlying43, run_underlying Tryd.underlying9, sizeOf, typeInfo, hi, hz1, Builtin.lenOf, hroom, hf, e, hst, sz]
    · rw [vb_app]
      refine range_appG (World.rangeAt_setCells_apart h4 _ _ _ (.inr (.inl (by rw [vb_len]; omega)))) ?_
      rw [vb_len, Nat.zero_add]
      exact World.rangeAt_setCells_same w g l.length (vb m) (fun j hj => by rw [vb_len] at hj; exact h5 _ (by omega) (by omega))
    · rw [List.length_append] at hj
      have := World.there_setCells (w := w) (b' := g) (o' := j) (n := 1) (fun k hk => by
        obtain rfl : k = 0 := by omega
        exact h5 j (by omega) hc) g l.length (vb m) 0 (by omega)
      exact this
    · exact hb.trans ⟨World.os_setCells _ _ _ _, (setA_tape _ _ _ _).1, World.output_setCells _ _ _ _, by rw [setCells_size]; exact Nat.le_refl _, fun k hk => World.heap_setCells_other _ _ _ _ (by omega) (by omega)⟩
  · have hr := Lib.run_append_grow_string (P := Tryd.prog) w 43 9 43 5 i0 (.int .u8 0) Tryd.underlying43 Tryd.underlying9 hi hz0 ⟨g, 0, none⟩ l.length cap (vb l) (by rw [hz1, vb_len]; omega) (fun j u hu => by
      have e : (Addr.add ⟨g, 0, none⟩ j) = ⟨g, j, none⟩ := by unfold Addr.add; simp; omega
      rw [e]
      have := h4 j u hu
      rwa [Nat.zero_add] at this) (tx m) (by rw [sz]; omega) (by rw [sz]; omega) (by rw [hz2]; exact growslice_fits (by rw [sz]; omega) (by rw [sz]; omega))
    rw [strC, sz] at hr
    have hge := grownCap_ge w (l.length + m.length) cap 5
    have hcm : grownCap w (l.length + m.length) cap 5 ≤ maxLen := grownCap_le_maxLen w _ _ _ (by unfold maxLen; omega)
    refine ⟨_, _, hr, ?_, ?_⟩
    · have hnew := heap_alloc_new w.drew (.cells ((vb l).toArray ++ (vb m).toArray ++ Builtin.zeroCells (Value.int IntKind.u8 0).cells (grownCap w (l.length + m.length) cap 5 - (l.length + m.length))) 5)
      have hzc : (Builtin.zeroCells (Value.int IntKind.u8 0).cells (grownCap w (l.length + m.length) cap 5 - (l.length + m.length))).size = grownCap w (l.length + m.length) cap 5 - (l.length + m.length) := by
        rw [size_zeroCells]
        exact Nat.mul_one _
      have hs : ((vb l).toArray ++ (vb m).toArray ++ Builtin.zeroCells (Value.int IntKind.u8 0).cells (grownCap w (l.length + m.length) cap 5 - (l.length + m.length))).size = grownCap w (l.length + m.length) cap 5 := by
        simp only [Array.size_append, List.size_toArray, vb_len, hzc]
        omega
      refine ⟨w.heap.size, _, by rw [List.length_append], hB, by rw [List.length_append]; exact hge, hcm, fun j u hu => ?_, fun j hj hc => ⟨?_, frozen_of_row _ _ j _ _ hnew⟩, by simp⟩
      · rw [Nat.zero_add]
        have hj : j < (vb (l ++ m)).length := (List.getElem?_eq_some_iff.1 hu).1
        rw [show (⟨w.heap.size, j, none⟩ : Addr) = ⟨w.drew.heap.size, j, none⟩ from rfl, cell_of_row _ _ j _ _ _ hnew, ← hu, vb_app]
        rw [Array.getElem?_append_left (by rw [vb_app, List.length_append] at hj; simpa using hj)]
        simp
      · rw [show (⟨w.heap.size, j, none⟩ : Addr) = ⟨w.drew.heap.size, j, none⟩ from rfl, cell_of_row _ _ j _ _ _ hnew, Array.getElem?_eq_getElem (by rw [hs]; exact hc)]
        rfl
    · exact (hb.drew).alloc hB _
theorem wpList_appG {ops : Array Oper} {rest : List Oper} {o : Oper} {a : Act} {Q : Exit → Act → World → Prop} {w w0 : World} {B : Nat} (hgd : o.guard = none) (s x : Operand) (hop : o.op = Op.call { callee := Callee.builtin Builtin.append, args := #[s, x], argTypes := #[43, 9] }) (hty : o.type = 43)
    {v : Value} {l : List UInt8} (h : Tg w B v l) (m : List UInt8) {X : ByteArray} (hX : tx m = X) (hs : a.eval s = v) (hx : a.eval x = .string X) (hm : l.length + m.length ≤ 140737488355328) (hB : B ≤ w.heap.size) (hb : Below B w0 w)
    (hK : ∀ v' w', Hid (Tg w' B v' (l ++ m) ∧ Below B w0 w') → wpList Tryd.prog ops Q rest (a.put o.dst v') w') : wpList Tryd.prog ops Q (o :: rest) a w :=
  wpList_plain hgd fun _ hK' => by
    obtain ⟨v', w', hr, h1, h2⟩ := h.app m hm hB hb
    rw [hX] at hr
    unfold Oper.wp execOp
    simp only [hop, hty, resolve, invoke, builtin, Sem.run_bind, Sem.run_pure, Result.andThen_ok, List.map_toArray, List.map_cons, List.map_nil, hs, hx, hr]
    exact hK' _ _ (hK v' w' ⟨h1, h2⟩)
/-- A text made into bytes. -/
theorem tg_bytes (w : World) (l : List UInt8) (hl : l.length ≤ 140737488355328) : ∃ v w', (convert 9 43 (.string (tx l))).run Tryd.prog w = .ok v w' ∧ Tg w' w.heap.size v l ∧ Below w.heap.size w w' := by
  have sz : (tx l).size = l.length := tx_size l
  refine ⟨_, _, Lib.run_convert_string_bytes (P := Tryd.prog) w 9 43 5 (tx l) Tryd.underlying9 Tryd.underlying43 Tryd.underlying5, ?_, ?_⟩
  · have hge := grownCap_ge w (tx l).size 0 5
    have hcm : grownCap w (tx l).size 0 5 ≤ maxLen := grownCap_le_maxLen w _ _ _ (by rw [sz]; unfold maxLen; omega)
    have hnew := Lib.bytesWorld_at_new w 5 (tx l)
    have hcs : (Lib.bytesCells w 5 (tx l)).size = grownCap w (tx l).size 0 5 := by
      have e : (tx l).data.size = (tx l).size := rfl
      simp only [Lib.bytesCells, Array.size_append, Array.size_map, Array.size_replicate, e]
      omega
    refine ⟨w.heap.size, _, by rw [sz], Nat.le_refl _, by rw [← sz]; exact hge, hcm, fun j u hu => ?_, fun j hj hc => ⟨?_, ?_⟩, by rw [Lib.bytesWorld_size]; omega⟩
    · have hj : j < l.length := by
        have := (List.getElem?_eq_some_iff.1 hu).1
        rwa [vb_len] at this
      rw [Nat.zero_add, Lib.bytesWorld_cell w 5 (tx l) j (by rw [sz]; exact hj), ← hu]
      simp [vb, tx, hj]
    · rw [cell_of_row _ _ j _ _ _ hnew, Array.getElem?_eq_getElem (by rw [hcs]; exact hc)]
      rfl
    · simp [World.frozen?, hnew]
      omega
  · exact Lib.below_freeze ((Below.drew (Below.refl _ w)).alloc (Nat.le_refl _) _) (p := ⟨w.heap.size, _, none⟩) (Nat.le_refl _) 1
/-- String of a builder that holds something. -/
theorem bstr {T : TypeId} {rs : List Value} {B b : Nat} (l : List UInt8) (w : World) (h : Bl T rs B b (Lib.byteCells l) w) (h0 : l ≠ []) : Calls Tryd.prog 30 #[.pointer (some ⟨b, 0, none⟩)] w fun e w' => e = .returned (.string (tx l)) ∧ Below B w w' := by
  obtain ⟨p, hB, v, hbk, hown, hne⟩ : ∃ p, BlA T rs B b p (Lib.byteCells l) w := h.elim (fun h => ⟨_, h⟩) (fun h => ⟨_, h⟩)
  have hl0 : l.length ≠ 0 := by simpa using h0
  rw [Lib.byteCells_length] at hown
  obtain ⟨g, cap, cur, rfl, hbg, hg, hnc, hcm, hcs, htake⟩ : ∃ g cap cur, v = .slice (some ⟨g, 0, none⟩) l.length cap ∧ B ≤ g ∧ w.heap[g]? = some (.cells cur 5 (0, 0)) ∧ l.length ≤ cap ∧ cap ≤ maxLen ∧ cur.size = cap * 1 ∧ cur.toList.take (l.length * 1) = Lib.byteCells l := by
    rcases hown.2 with ⟨_, hz⟩ | ⟨g, cap, cur, hv, r⟩
    · exact absurd hz hl0
    · exact ⟨g, cap, cur, hv, r⟩
  have c1 : w.drew.cell? ⟨b, 1, none⟩ = some (.slice (some ⟨g, 0, none⟩) l.length cap) := by
    have : w.drew.heap[b]? = some (.cells (p :: .slice (some ⟨g, 0, none⟩) l.length cap :: rs).toArray T (0, 0)) := hbk
    rw [cell_of_row _ b 1 _ _ _ this]
    rfl
  have hSD : (Builtin.unsafeSliceData_ #[43] 114 #[.slice (some ⟨g, 0, none⟩) l.length cap]).run Tryd.prog w.drew = .ok (.pointer (some ⟨g, 0, none⟩)) w.drew := Lib.run_unsafeSliceData_row _ _ _ _ _ _ (by omega)
  have hUS : (Builtin.unsafeString_ #[114, 3] 9 #[.pointer (some ⟨g, 0, none⟩), .int .i64 l.length]).run Tryd.prog w.drew = .ok (.string (tx l)) (w.drew.freeze ⟨g, 0, none⟩ l.length) := by
    refine Lib.run_unsafeString_row w.drew 114 3 9 5 Tryd.underlying114 (by kernel_rfl) g cur.size (by have hg' : w.drew.heap[g]? = some (.cells cur 5 (0, 0)) := hg; simp [World.shape?, hg']) l h0 (by omega) (by unfold maxLen at hcm; omega) ?_
    intro j x hx
    exact hown.cells (g := g) rfl j (.int .u8 x.toNat) (by simp [Lib.byteCells, hx])
  have HB : Hid (B ≤ g) := hbg
  clear hown htake hcs hcm hnc hbk hne hg hbg
  go_enter Tryd.func30, Tryd.ntmps30
  go_wp2
  go_region
  all_goals (go_wp2; go_ret; exact ⟨rfl, Lib.below_freeze (Below.drew (Below.refl B w)) (p := ⟨g, 0, none⟩) HB.out _⟩)
/-- A page: these bytes were added. -/
structure Pa (w : World) (B b : Nat) (l : List UInt8) : Prop where
  ex : ∃ bs, Bl 72 [.int .i64 ((l.length : Nat) : Int)] B b bs w ∧ (l.length ≤ 262144 → bs = Lib.byteCells l) ∧ bs.length ≤ 262144
theorem Pa.below {w w' : World} {B b : Nat} {l : List UInt8} (h : Pa w B b l) (hb : Below w.heap.size w w') : Pa w' B b l := by
  obtain ⟨bs, h1, h2, h3⟩ := h.ex
  exact ⟨bs, h1.below hb, h2, h3⟩
theorem bltP (n : Nat) (hn : n = 1) : BlT 72 n := by
  subst hn
  exact ⟨by decide, by kernel_rfl⟩
theorem BlA.rs {T : TypeId} {r v' : Value} {B b : Nat} {p : Value} {bs : List Value} {w : World} (h : BlA T [r] B b p bs w) : BlA T [v'] B b p bs (w.setCell ⟨b, 2, none⟩ v') := by
  obtain ⟨hB, v, hb, ho, hne⟩ := h
  refine ⟨hB, v, ?_, ?_, hne⟩
  · simp [World.setCell, Array.getElem?_modify, hb]
  · exact ho.kept (row := some b) ⟨rfl, rfl, rfl, by simp [World.setCell], fun k _ hk => Below.heap_setCell _ _ _ _ (fun e => hk (by simp [e]))⟩ (Or.inr hne)
theorem Bl.rs {T : TypeId} {r v' : Value} {B b : Nat} {bs : List Value} {w : World} (h : Bl T [r] B b bs w) : Bl T [v'] B b bs (w.setCell ⟨b, 2, none⟩ v') := h.elim (fun h => .inl h.rs) (fun h => .inr h.rs)
theorem Bl.cell2 {T : TypeId} {r : Value} {B b : Nat} {bs : List Value} {w : World} (h : Bl T [r] B b bs w) : w.cell? ⟨b, 2, none⟩ = some r ∧ w.frozen? ⟨b, 2, none⟩ = false ∧ B ≤ b := by
  rcases h with ⟨hB, v, hb, _⟩ | ⟨hB, v, hb, _⟩
  · exact ⟨by rw [cell_of_row w b 2 _ _ _ hb]; rfl, Lib.frozen_of_heap hb 2, hB⟩
  · exact ⟨by rw [cell_of_row w b 2 _ _ _ hb]; rfl, Lib.frozen_of_heap hb 2, hB⟩
set_option maxHeartbeats 2000000 in
theorem padd {B b g n c : Nat} {B2 : Nat} (l : List UInt8) (ls : List (List UInt8)) (w : World) (h : Pa w B b l) (o : w.ownsRow B2 9 1 (.slice (some ⟨g, 0, none⟩) n c) n (wsT ls)) (hn : n ≤ 1000) (hL : (Lib.join ls [32]).length ≤ 3000000) (hl : l.length ≤ 9000000000000) (hB : B ≤ w.heap.size) :
    Calls Tryd.prog 27 #[.pointer (some ⟨b, 0, none⟩), .slice (some ⟨g, 0, none⟩) n c] w fun r w' => r = .returned (.tuple #[]) ∧ Hid (Pa w' B b (l ++ Lib.join ls [32] ++ [10]) ∧ Below B w w') := by
  have hJ := pjoin ls o (by omega) (by omega)
  obtain ⟨X, hX⟩ : ∃ y, tx (Lib.join ls [32]) = y := ⟨_, rfl⟩
  rw [hX] at hJ
  have lX : X.size = (Lib.join ls [32]).length := by rw [← hX, tx_size]
  obtain ⟨Y, p1, t1, z1⟩ := catS hX (show tx [10] = ByteArray.mk #[10] from rfl)
  rw [show (ByteArray.mk #[10]).size = 1 from rfl] at z1
  have s1 : ¬ 9223372036854775807 < X.size + 1 := by omega
  have HP : Hid (_) := h
  have HY : Hid (tx (Lib.join ls [32] ++ [10]) = Y) := t1
  obtain ⟨N, hN⟩ : ∃ y, l.length = y := ⟨_, rfl⟩
  obtain ⟨M, hM⟩ : ∃ y, Y.size = y := ⟨_, rfl⟩
  have hw1 : IntKind.i64.wrap (((N : Nat) : Int) + ((M : Nat) : Int)) = ((N : Nat) : Int) + ((M : Nat) : Int) := by rw [IntKind.wrap_i64]; omega
  have HI : Hid (((N : Nat) : Int) + ((M : Nat) : Int) = ((N + M : Nat) : Int)) := by show ((N : Nat) : Int) + ((M : Nat) : Int) = ((N + M : Nat) : Int); omega
  have HM : Hid ((Lib.join ls [32] ++ [10]).length = M ∧ l.length = N ∧ M ≤ 3000001) := ⟨by rw [← hM, ← t1, tx_size], hN, by omega⟩
  clear h o hL lX t1 z1 hX
  go_enter Tryd.func27, Tryd.ntmps27
  go_wp2_with fail
  refine hJ.mono ?_
  rintro r w1 ⟨rfl, b1⟩
  obtain ⟨bs, k1, k2, k3⟩ := (HP.out.below b1).ex
  rw [hN] at k1
  obtain ⟨c2, f2, hBb⟩ := k1.cell2
  have B1 : Below B w w1 := b1.mono hB
  obtain ⟨w2, hw2⟩ : ∃ y, w1.setCell ⟨b, 2, none⟩ (.int .i64 (((N : Nat) : Int) + ((M : Nat) : Int))) = y := ⟨_, rfl⟩
  have K2 : Bl 72 [.int .i64 (((N : Nat) : Int) + ((M : Nat) : Int))] B b bs w2 := by rw [← hw2]; exact k1.rs
  have B2' : Below B w w2 := by rw [← hw2]; exact B1.setCell (p := ⟨b, 2, none⟩) hBb _
  have d2 := K2.cell2.1
  have HK : Hid (_) := And.intro K2 (And.intro B2' (And.intro k2 k3))
  have hS2 : B ≤ w2.heap.size := Nat.le_trans hB B2'.size
  clear hJ b1 k1 K2 B1 B2' k2 k3 hBb HP
  go_upto_region 2 with fail
  try rw [hw2]
  clear hw2 c2 f2 p1 s1 hw1
  by_cases hle : N + M ≤ 262144
  · have g1 : ((N : Nat) : Int) + ((M : Nat) : Int) ≤ 262144 := by omega
    have e0 := HK.out.2.2.1 (by have := HM.out; omega)
    have q := bstring Y w2 (bltP _ rfl) HK.out.1 (by have := HK.out.2.2.2; omega) hS2
    have HN : Hid (_) := And.intro e0 hle
    clear e0 hle
    go_wp2_with fail
    refine q.mono ?_
    rintro r w3 ⟨rfl, k3, b3⟩
    have HF : Hid (Pa w3 B b (l ++ Lib.join ls [32] ++ [10]) ∧ Below B w w3) := by
      have e1 : (l ++ Lib.join ls [32] ++ [10]).length = N + M := by
        rw [List.append_assoc, List.length_append, HM.out.1, HM.out.2.1]
      have e2 : bs ++ Lib.strCells Y = Lib.byteCells (l ++ Lib.join ls [32] ++ [10]) := by
        rw [HN.out.1, ← HY.out, strC, List.append_assoc]
        exact (vb_app l (Lib.join ls [32] ++ [10])).symm
      refine ⟨⟨_, by rw [e1, ← HI.out]; exact .inr k3, fun _ => e2, ?_⟩, HK.out.2.1.trans b3⟩
      rw [e2, Lib.byteCells_length, e1]
      exact HN.out.2
    clear q k3 b3
    go_wp2_with fail
    go_end0
    first | exact ⟨rfl, HF⟩ | exact ⟨rfl, by rw [← List.append_assoc]; exact HF⟩
  · have g1 : ¬ ((N : Nat) : Int) + ((M : Nat) : Int) ≤ 262144 := by omega
    have HF : Hid (Pa w2 B b (l ++ Lib.join ls [32] ++ [10]) ∧ Below B w w2) := by
      have e1 : (l ++ Lib.join ls [32] ++ [10]).length = N + M := by
        rw [List.append_assoc, List.length_append, HM.out.1, HM.out.2.1]
      exact ⟨⟨bs, by rw [e1, ← HI.out]; exact HK.out.1, fun h => by rw [e1] at h; omega, HK.out.2.2.2⟩, HK.out.2.1⟩
    clear hle
    go_wp2_with fail
    go_end0
    first | exact ⟨rfl, HF⟩ | exact ⟨rfl, by rw [← List.append_assoc]; exact HF⟩
end Go.Proofs.YtnmnjcjfgbpkaaaDoor
namespace Go.Proofs.YtnmnjcjfgbpkaaaDoor
set_option maxRecDepth 100000
open Go.RowKit Go.Maps
set_option maxRecDepth 100000
set_option maxHeartbeats 2000000 in
theorem pcopymL (m : Mv) (d : Option Addr) (e : Nat) (w : World) (hr : Row8 w d m.l e m.b) (hlen : m.l ≤ 140737488355328) : Calls Tryd.prog 31 #[.agg #[.int .i64 m.k, .int .i64 m.c, .int .i64 m.s, .int .i64 m.f, .int .i64 m.a, .int .u32 (m.w : Nat), .int .i64 m.n, .bool m.h, .slice d m.l e]] w fun r w' => ∃ a' c', r = .returned (.agg #[.int .i64 m.k, .int .i64 m.c, .int .i64 m.s, .int .i64 m.f, .int .i64 m.a, .int .u32 (m.w : Nat), .int .i64 m.n, .bool m.h, .slice a' m.l c']) ∧ Hid (Row8 w' a' m.l c' m.b ∧ Below w.heap.size w w' ∧ ∀ y, a' = some y → 0 < m.l → w.heap.size ≤ y.block) := by
  obtain ⟨i0, hi, hz0, hz1, hz2⟩ := info_parts info_u8
  have hbd := build0S
  have hX := fun wx hb => mv_cells w #[.int .i64 m.k, .int .i64 m.c, .int .i64 m.s, .int .i64 m.f, .int .i64 m.a, .int .u32 (m.w : Nat), .int .i64 m.n, .bool m.h, .slice d m.l e] wx hb
  have hXf := fun i wx hb => mv_frozen w #[.int .i64 m.k, .int .i64 m.c, .int .i64 m.s, .int .i64 m.f, .int .i64 m.a, .int .u32 (m.w : Nat), .int .i64 m.n, .bool m.h, .slice d m.l e] i wx hb
  obtain ⟨wa, hwa⟩ : ∃ x, x = w.alloc (.cells #[.int .i64 m.k, .int .i64 m.c, .int .i64 m.s, .int .i64 m.f, .int .i64 m.a, .int .u32 (m.w : Nat), .int .i64 m.n, .bool m.h, .slice d m.l e] 45) := ⟨_, rfl⟩
  rw [← hwa] at hX hXf
  have hA : Below w.heap.size w wa := by rw [hwa]; exact (Below.refl _ _).alloc (Nat.le_refl _) _
  have hAs : wa.heap.size = w.heap.size + 1 := by rw [hwa]; simp
  have hY := fun wx hb => mv_cells wa #[.int .i64 0, .int .i64 0, .int .i64 0, .int .i64 0, .int .i64 0, .int .u32 0, .int .i64 0, .bool false, .slice none 0 0] wx hb
  have hYf := fun i wx hb => mv_frozen wa #[.int .i64 0, .int .i64 0, .int .i64 0, .int .i64 0, .int .i64 0, .int .u32 0, .int .i64 0, .bool false, .slice none 0 0] i wx hb
  obtain ⟨wb, hwb⟩ : ∃ x, x = wa.alloc (.cells #[.int .i64 0, .int .i64 0, .int .i64 0, .int .i64 0, .int .i64 0, .int .u32 0, .int .i64 0, .bool false, .slice none 0 0] 45) := ⟨_, rfl⟩
  rw [← hwb] at hY hYf
  have hB : Below wa.heap.size wa wb := by rw [hwb]; exact (Below.refl _ _).alloc (Nat.le_refl _) _
  have hBs : wb.heap.size = w.heap.size + 1 + 1 := by rw [hwb, hwa]; simp
  have hC : Below wb.heap.size wb (wb.alloc (.cells #[] 5)) := (Below.refl _ _).alloc (Nat.le_refl _) _
  have O0 : (wb.alloc (.cells #[] 5)).ownsRow wb.heap.size 5 1 (.slice (some ⟨wb.heap.size, 0, none⟩) 0 0) 0 (CB m.b 0) := World.ownsRow_made wb #[] 0 (Nat.le_refl _) (Nat.zero_le _) rfl
  have hszC := hC.size
  have R0 := ((hr.below hA).below hB).below hC
  rw [hAs] at hY hYf
  go_enter Tryd.func31, Tryd.ntmps31
  go_upto_region 1 with fail
  try rw [← hwa]
  try rw [← hwb]
  have H0 : Hid (_) := And.intro hwa (And.intro hwb (And.intro hAs hBs))
  clear hwa hwb
  have x8 : (wb.alloc (.cells #[] 5)).cell? ⟨w.heap.size, 8, none⟩ = some (.slice d m.l e) := hX (wb.alloc (.cells #[] 5)) (hB.trans (hC.mono (by omega))) 8
  clear hAs hBs
  go_wp2_with (at_builtin; refine wpList_append_row8 rfl (.tmp 3) (.tmp 5) 43 rfl wb.heap.size 5 i0 (.int .u8 0) Tryd.underlying43 hi hz0 hz1 hz2 rfl _ 0 _ rfl O0 d m.l e m.b rfl R0 (by unfold maxLen; omega) (by omega) hszC ?_)
  intro v2 w2 hown2 hgrow2
  have hbel2 : Below wb.heap.size wb w2 := hC.grown hgrow2 hszC (fun j hj => (O0.lt j hj).1)
  rw [show CB m.b 0 = [] from rfl, List.nil_append] at hown2
  have hlt : w.heap.size < wb.heap.size ∧ w.heap.size + 1 < wb.heap.size := by have := H0.out; omega
  have hbelA : Below wa.heap.size wa w2 := hB.trans (hbel2.mono (by have := H0.out; omega))
  have x0 : w2.cell? ⟨w.heap.size, 0, none⟩ = some ((.int .i64 m.k)) := hX w2 hbelA 0
  have x1 : w2.cell? ⟨w.heap.size, 1, none⟩ = some ((.int .i64 m.c)) := hX w2 hbelA 1
  have x2 : w2.cell? ⟨w.heap.size, 2, none⟩ = some ((.int .i64 m.s)) := hX w2 hbelA 2
  have x3 : w2.cell? ⟨w.heap.size, 3, none⟩ = some ((.int .i64 m.f)) := hX w2 hbelA 3
  have x4 : w2.cell? ⟨w.heap.size, 4, none⟩ = some ((.int .i64 m.a)) := hX w2 hbelA 4
  have x5 : w2.cell? ⟨w.heap.size, 5, none⟩ = some ((.int .u32 (m.w : Nat))) := hX w2 hbelA 5
  have x6 : w2.cell? ⟨w.heap.size, 6, none⟩ = some ((.int .i64 m.n)) := hX w2 hbelA 6
  have x7 : w2.cell? ⟨w.heap.size, 7, none⟩ = some ((.bool m.h)) := hX w2 hbelA 7
  have x8 : w2.cell? ⟨w.heap.size, 8, none⟩ = some ((.slice d m.l e)) := hX w2 hbelA 8
  have y0 : w2.cell? ⟨w.heap.size + 1, 0, none⟩ = some (.int .i64 0) := hY w2 hbel2 0
  have y1 : w2.cell? ⟨w.heap.size + 1, 1, none⟩ = some (.int .i64 0) := hY w2 hbel2 1
  have y2 : w2.cell? ⟨w.heap.size + 1, 2, none⟩ = some (.int .i64 0) := hY w2 hbel2 2
  have y3 : w2.cell? ⟨w.heap.size + 1, 3, none⟩ = some (.int .i64 0) := hY w2 hbel2 3
  have y4 : w2.cell? ⟨w.heap.size + 1, 4, none⟩ = some (.int .i64 0) := hY w2 hbel2 4
  have y5 : w2.cell? ⟨w.heap.size + 1, 5, none⟩ = some (.int .u32 0) := hY w2 hbel2 5
  have y6 : w2.cell? ⟨w.heap.size + 1, 6, none⟩ = some (.int .i64 0) := hY w2 hbel2 6
  have y7 : w2.cell? ⟨w.heap.size + 1, 7, none⟩ = some (.bool false) := hY w2 hbel2 7
  have y8 : w2.cell? ⟨w.heap.size + 1, 8, none⟩ = some (.slice none 0 0) := hY w2 hbel2 8
  have xf := fun i => hXf i w2 hbelA
  have yf := fun i => hYf i w2 hbel2
  obtain ⟨a2, c2, rfl, R2⟩ := own_row8 hown2 hr.byte
  have HR : Hid (w2.ownsRow wb.heap.size 5 1 (.slice a2 m.l c2) m.l (CB m.b m.l) ∧ Below wb.heap.size wb w2) := ⟨hown2, hbel2⟩
  clear hgrow2 O0 R0 hC hszC hX hY hXf hYf hown2 R2 hbel2 hbelA hbd
  go_wp2_with fail
  refine bodyPost_ret (v := .agg #[.int .i64 m.k, .int .i64 m.c, .int .i64 m.s, .int .i64 m.f, .int .i64 m.a, .int .u32 (m.w : Nat), .int .i64 m.n, .bool m.h, .slice a2 m.l c2]) (by simp [results, Tryd.results31, go_sem, y0, y1, y2, y3, y4, y5, y6, y7, y8]) rfl ⟨a2, c2, rfl, ?_, ?_, ?_⟩
  · obtain ⟨a3, c3, e, R3⟩ := own_row8 (ownsRow_setCell_below (ownsRow_setCell_below (ownsRow_setCell_below (ownsRow_setCell_below (ownsRow_setCell_below (ownsRow_setCell_below (ownsRow_setCell_below (ownsRow_setCell_below (ownsRow_setCell_below (ownsRow_setCell_below HR.out.1 (a := ⟨w.heap.size, 8, none⟩) hlt.1 _) (a := ⟨w.heap.size + 1, 0, none⟩) hlt.2 _) (a := ⟨w.heap.size + 1, 1, none⟩) hlt.2 _) (a := ⟨w.heap.size + 1, 2, none⟩) hlt.2 _) (a := ⟨w.heap.size + 1, 3, none⟩) hlt.2 _) (a := ⟨w.heap.size + 1, 4, none⟩) hlt.2 _) (a := ⟨w.heap.size + 1, 5, none⟩) hlt.2 _) (a := ⟨w.heap.size + 1, 6, none⟩) hlt.2 _) (a := ⟨w.heap.size + 1, 7, none⟩) hlt.2 _) (a := ⟨w.heap.size + 1, 8, none⟩) hlt.2 _) hr.byte
    simp only [Value.slice.injEq, true_and] at e
    obtain ⟨rfl, rfl⟩ := e
    exact R3
  · have hb : Below w.heap.size w w2 := (hA.trans (hB.mono (by have := H0.out; omega))).trans (HR.out.2.mono (by omega))
    exact ((((((((((hb.setCell (p := ⟨w.heap.size, 8, none⟩) (Nat.le_refl _) _).setCell (p := ⟨w.heap.size + 1, 0, none⟩) (Nat.le_succ _) _).setCell (p := ⟨w.heap.size + 1, 1, none⟩) (Nat.le_succ _) _).setCell (p := ⟨w.heap.size + 1, 2, none⟩) (Nat.le_succ _) _).setCell (p := ⟨w.heap.size + 1, 3, none⟩) (Nat.le_succ _) _).setCell (p := ⟨w.heap.size + 1, 4, none⟩) (Nat.le_succ _) _).setCell (p := ⟨w.heap.size + 1, 5, none⟩) (Nat.le_succ _) _).setCell (p := ⟨w.heap.size + 1, 6, none⟩) (Nat.le_succ _) _).setCell (p := ⟨w.heap.size + 1, 7, none⟩) (Nat.le_succ _) _).setCell (p := ⟨w.heap.size + 1, 8, none⟩) (Nat.le_succ _) _)
  · intro y hy hn
    rcases HR.out.1.2 with ⟨e, _⟩ | ⟨g, cap, cur, e, hg, _⟩
    · simp only [Value.slice.injEq] at e
      rw [e.1] at hy
      cases hy
    · simp only [Value.slice.injEq] at e
      rw [e.1] at hy
      cases hy
      have := hlt.1
      show w.heap.size ≤ g
      omega
/-- Where a move's data lie. -/
structure Md where
  a : Option Addr
  c : Nat
def Mv.ls (m : Mv) (d : Md) : List Value := (m.cs d.a d.c).toList
/-- Moves in a list. -/
def MvRow (w : World) (a : Option Addr) (len : Nat) (M : Nat → Mv) (D : Nat → Md) : Prop := ∀ i, i < len → ∃ b off, a = some ⟨b, off, none⟩ ∧ w.rangeAt b (off + i * 9) ((M i).ls (D i)) ∧ Row8 w (D i).a (M i).l (D i).c (M i).b
theorem MvRow.below {w w' : World} {a : Option Addr} {len : Nat} {M : Nat → Mv} {D : Nat → Md} (h : MvRow w a len M D) (b : Below w.heap.size w w') : MvRow w' a len M D := fun i hi => by
  obtain ⟨q, off, e, c, r⟩ := h i hi
  exact ⟨q, off, e, rangeB c b, r.below b⟩
def mb (m : Mv) (d : Md) : List Bt8 := [⟨d.a, m.l, d.c, m.b⟩]
theorem OL.congrM {W wx : World} {T K : Nat} {v : Value} {n : Nat} {cs cs' : Nat → List Value} {bt bt' : Nat → List Bt8} (h : OL W wx T K v n cs bt) (h1 : ∀ i, i < n → cs i = cs' i) (h2 : ∀ i, i < n → bt i = bt' i) : OL W wx T K v n cs' bt' :=
  ⟨by rw [← fl_congr h1]; exact h.own, h.bel, fun i hi => by rw [← h1 i hi]; exact h.len i hi, fun i hi r hr => by rw [← h2 i hi] at hr; exact h.row i hi r hr⟩
/-- The list of copies so far. -/
def Mc (W wx : World) (T : Nat) (v : Value) (n : Nat) (M : Nat → Mv) (D : Nat → Md) : Prop := OL W wx T 9 v n (fun j => (M j).ls (D j)) (fun j => mb (M j) (D j))
theorem Mc.rows {W wx : World} {T : Nat} {v : Value} {n : Nat} {M : Nat → Mv} {D : Nat → Md} (h : Mc W wx T v n M D) : ∃ a c, v = .slice a n c ∧ MvRow wx a n M D := by
  by_cases h0 : 0 < n
  · obtain ⟨g, c, e, _, _, hc⟩ := OL.form h h0
    refine ⟨_, c, e, fun i hi => ⟨g, 0, rfl, fun j u hu => ?_, (OL.row h i hi ⟨(D i).a, (M i).l, (D i).c, (M i).b⟩ (by simp [mb])).1⟩⟩
    rw [Nat.zero_add]
    exact hc i j u hi hu
  · obtain ⟨a, c, e, _⟩ := OL.shape h
    exact ⟨a, c, e, fun i hi => by omega⟩
theorem build1M (m : Mv) (d : Md) (w : World) : (Instr.buildSlice 27 1 #[(0, .agg (m.cs d.a d.c))]).run Tryd.prog w = .ok (.slice (some ⟨w.heap.size, 0, none⟩) 1 1) (w.alloc (.cells (m.cs d.a d.c) 45)) := by
  show (Instr.buildSlice 27 1 #[(0, .agg #[.int .i64 m.k, .int .i64 m.c, .int .i64 m.s, .int .i64 m.f, .int .i64 m.a, .int .u32 (m.w : Nat), .int .i64 m.n, .bool m.h, .slice d.a m.l d.c])]).run Tryd.prog w = .ok (.slice (some ⟨w.heap.size, 0, none⟩) 1 1) (w.alloc (.cells #[.int .i64 m.k, .int .i64 m.c, .int .i64 m.s, .int .i64 m.f, .int .i64 m.a, .int .u32 (m.w : Nat), .int .i64 m.n, .bool m.h, .slice d.a m.l d.c] 45))
  kernel_rfl
theorem info_mv : (Tryd.prog.info? 45).map (fun i => (i.zero, i.size, i.bytes)) = some (some (.agg #[.int .i64 0, .int .i64 0, .int .i64 0, .int .i64 0, .int .i64 0, .int .u32 0, .int .i64 0, .bool false, .slice none 0 0]), 9, 88) := by kernel_rfl
theorem size_mv : (Tryd.prog.info? 45).map (·.size) = some 9 := by kernel_rfl
theorem Mv.cs_one (m : Mv) (d : Option Addr) (e : Nat) : ∀ u ∈ (m.cs d e).toList, u.oneCell' = true := fun v hv => by
  unfold Mv.cs at hv
  simp only [List.mem_cons, List.not_mem_nil, or_false] at hv
  rcases hv with rfl | rfl | rfl | rfl | rfl | rfl | rfl | rfl | rfl <;> rfl
def CopP (len : Nat) (M : Nat → Mv) (w : World) (q : Ending) (w' : World) : Prop := ∃ a' c' D', q = .returned (.slice a' len c') ∧ Hid (MvRow w' a' len M D' ∧ Below w.heap.size w w')
set_option maxHeartbeats 4000000 in
theorem pcopies (a : Option Addr) (len cap : Nat) (M : Nat → Mv) (D : Nat → Md) (w : World) (hr : MvRow w a len M D) (hl : ∀ i, i < len → (M i).l ≤ 140737488355328) (hlen : len ≤ 1000) : Calls Tryd.prog 14 #[.slice a len cap] w (CopP len M w) := by
  have HW : Hid (MvRow w a len M D ∧ ∀ i, i < len → (M i).l ≤ 140737488355328) := ⟨hr, hl⟩
  clear hr hl
  have H0 : Hid (∃ D', Mc w w 45 (.slice none 0 0) 0 M D') := ⟨D, OL.none w 45 9 _ _⟩
  go_enter Tryd.func14, Tryd.ntmps14
  go_wp2_with fail
  go_loopw [3, 4, 5, 6, 7, 8, 9, 10, 11, 12, 13, 14, 15, 16, 17, 18] (fun v c _ _ _ _ _ _ _ _ _ _ _ _ _ _ wr => ∃ i : Nat, i ≤ len ∧ c = .int .i64 ((i : Nat) : Int) ∧ Hid (∃ D', Mc w wr 45 v i M D')) (fun _ c _ _ _ _ _ _ _ _ _ _ _ _ _ _ _ => len - natV c)
  case atStart => exact ⟨0, by omega, rfl, H0⟩
  case round =>
    clear H0
    obtain ⟨i, hi, rfl, HI⟩ := hrel
    obtain ⟨D', hL'⟩ := HI.out
    have HL : Hid (Mc w wr 45 u3 i M D') := hL'
    clear HI hL'
    by_cases hlt : i < len
    rotate_left
    · obtain rfl : i = len := by omega
      have hlt' : ¬ ((i : Nat) : Int) < ((i : Nat) : Int) := by omega
      obtain ⟨al, cl, e, hrow⟩ := Mc.rows HL.out
      subst e
      have HF : Hid (_) := And.intro hrow (OL.bel HL.out)
      clear hrow
      go_wp2_with fail
      go_ret
      exact ⟨_, _, _, rfl, HF⟩
    have hlt' : ((i : Nat) : Int) < ((len : Nat) : Int) := by omega
    have hw1 : IntKind.i64.wrap (((i : Nat) : Int) + 1) = ((i + 1 : Nat) : Int) := by rw [IntKind.wrap_i64]; omega
    obtain ⟨q, off, ea, cc, RR⟩ := (MvRow.below HW.out.1 (OL.bel HL.out)) i hlt
    subst ea
    have hok := HW.out.2 i hlt
    obtain ⟨m, hM⟩ : ∃ y, M i = y := ⟨_, rfl⟩
    obtain ⟨d, hD⟩ : ∃ y, D i = y := ⟨_, rfl⟩
    rw [hM] at hok
    rw [hM, hD] at cc RR
    have hOw := pcopymL m d.a d.c wr RR hok
    have hOw' : Calls Tryd.prog 31 #[.agg (m.cs d.a d.c)] wr fun r w' => ∃ a' c', r = .returned (.agg (m.cs a' c')) ∧ Hid (Row8 w' a' m.l c' m.b ∧ Below wr.heap.size wr w' ∧ ∀ y, a' = some y → 0 < m.l → wr.heap.size ≤ y.block) := hOw
    obtain ⟨A, hA⟩ : ∃ y, m.cs d.a d.c = y := ⟨_, rfl⟩
    rw [hA] at hOw'
    have cA : wr.rangeAt q (off + i * 9) A.toList := by rw [← hA]; exact cc
    have iA : (Tryd.prog.info? 45).map (·.size) = some A.size := by rw [← hA]; exact size_mv
    have HM : Hid (_) := hM
    clear hOw RR hok hM hD hA cc
    go_wp2_with (refine wpList_loadA rfl 45 (.tmp 14) rfl q (off + i * 9) rfl A _ cA Tryd.underlying45 rfl iA ?_)
    refine hOw'.mono ?_
    rintro z w3 ⟨a', c', rfl, h3⟩
    clear hOw' cA iA
    obtain ⟨y, hy⟩ : ∃ y : Md, ⟨a', c'⟩ = y := ⟨_, rfl⟩
    have ea : a' = y.a := by rw [← hy]
    have ec : c' = y.c := by rw [← hy]
    rw [ea, ec] at h3 ⊢
    clear hy ea ec
    obtain ⟨A', hA'⟩ : ∃ z, m.cs y.a y.c = z := ⟨_, rfl⟩
    have hbd := build1M m y
    rw [hA'] at hbd
    try rw [hA']
    have sA' : A'.size = 9 := by rw [← hA']; rfl
    have L3 : OL w w3 45 9 u3 i (fun j => (M j).ls (D' j)) (fun j => mb (M j) (D' j)) := OL.below HL.out h3.out.2.1
    have bA := belA (Below.refl _ w3) (.cells A' 45)
    have L4 : OL w (w3.alloc (.cells A' 45)) 45 9 u3 i (fun j => (M j).ls (D' j)) (fun j => mb (M j) (D' j)) := OL.below L3 bA
    obtain ⟨i0, hi0, hz0, hz1, hz2⟩ := info_parts info_mv
    have src : ∀ j u, A'.toList[j]? = some u → (w3.alloc (.cells A' 45)).cell? ((⟨w3.heap.size, 0, none⟩ : Addr).add j) = some u := fun j u hu => by
      rw [Addr.add_mid]
      exact range_new w3 A' 45 j u hu
    have one : ∀ u ∈ A'.toList, u.oneCell' = true := by rw [← hA']; exact m.cs_one y.a y.c
    have lA' : A'.toList.length = 1 * 9 := by simp [sA']
    have hBw : w.heap.size ≤ (w3.alloc (.cells A' 45)).heap.size := (OL.bel L4).size
    have H3 : Hid (_) := And.intro h3.out (And.intro hA' (fun k (hk : u3.ownBlock = some k) => ((OL.own HL.out).lt k hk).2))
    clear h3 L3 bA
    go_wp2_with (first
      | refine wpList_buildA rfl 27 (.tmp 16) rfl (.agg A') _ rfl (hbd w3) ?_
      | (at_builtin; refine wpList_append_own_at _ rfl _ _ 27 rfl w.heap.size 45 i0 (.agg #[.int .i64 0, .int .i64 0, .int .i64 0, .int .i64 0, .int .i64 0, .int .u32 0, .int .i64 0, .bool false, .slice none 0 0]) 9 88 Tryd.underlying27 hi0 hz0 hz1 hz2 rfl (by decide) u3 i _ rfl (OL.own L4) ⟨w3.heap.size, 0, none⟩ 1 1 A'.toList rfl lA' src one (by unfold maxLen; omega) (by omega) hBw ?_)
      | fail)
    intro v5 w5 O5 G5 _ E5
    have L5 : Mc w w5 45 v5 (i + 1) M (fun j => if j = i then y else D' j) := by
      refine OL.congrM (OL.more L4 (m.ls y) (mb m y) rfl (fun t ht => ⟨?_, fun z hz hn => ?_⟩) (by rw [show m.ls y = A'.toList from by rw [← H3.out.2.1]; rfl]; exact O5) G5 (by simpa using E5)) (fun j hj => ?_) (fun j hj => ?_)
      · simp only [mb, List.mem_singleton] at ht
        subst ht
        exact H3.out.1.1.below (belA (Below.refl _ w3) _)
      · intro q5
        have h1 := H3.out.2.2 z.block q5.symm
        simp only [mb, List.mem_singleton] at ht
        subst ht
        have h2 := H3.out.1.2.2 z hz hn
        omega
      · by_cases e : j = i
        · subst e; simp [HM.out]
        · simp [e]
      · by_cases e : j = i
        · subst e; simp [HM.out]
        · simp [e]
    have HF : Hid (∃ D', Mc w w5 45 v5 (i + 1) M D') := ⟨_, L5⟩
    clear L4 O5 G5 E5 L5 src one lA' hBw hbd hi0 hz0 hz1 hz2 sA' H3 HL HM
    go_wp2_with fail
    go_roundw
    case rel => exact ⟨i + 1, by omega, by first | rfl | go_num, HF⟩
    case measure => simp [natV] <;> omega
end Go.Proofs.YtnmnjcjfgbpkaaaDoor
