/- Layer 20: a page: a text that grows by lines; bytes that grow by texts. -/
import Derived.Test.YtiikebaehoobnaaDoorSp1
import Derived.Test.YtiikebaehoobnaaDoorBu
import Derived.Lib.ConvBytes
import Derived.Lib.UnsafeStr
namespace Go.Proofs.YtiikebaehoobnaaDoor
set_option maxRecDepth 100000
open Go.RowKit Go.Maps
set_option maxRecDepth 100000
theorem range_appG {w : World} {b o : Nat} {l1 l2 : List Value} (h1 : w.rangeAt b o l1) (h2 : w.rangeAt b (o + l1.length) l2) : w.rangeAt b o (l1 ++ l2) := fun j v hv => by
  by_cases q : j < l1.length
  · rw [List.getElem?_append_left q] at hv
    exact h1 j v hv
  · rw [List.getElem?_append_right (by omega)] at hv
    have := h2 _ v hv
    rw [show o + l1.length + (j - l1.length) = o + j by omega] at this
    exact this
theorem strC (l : List UInt8) : Lib.strCells (tx l) = vb l := by
  rw [Lib.strCells_eq]
  show Lib.byteCells (tx l).data.toList = Lib.byteCells l
  simp [tx]
theorem vb_len (l : List UInt8) : (vb l).length = l.length := by simp [vb]
/-- Bytes at the head of a block that is new since B, with room that may be written. -/
structure Tg (w : World) (B : Nat) (v : Value) (l : List UInt8) : Prop where
  ex : ∃ g cap, v = .slice (some ⟨g, 0, none⟩) l.length cap ∧ B ≤ g ∧ l.length ≤ cap ∧ cap ≤ maxLen ∧ w.rangeAt g 0 (vb l) ∧ (∀ j, l.length ≤ j → j < cap → (w.cell? ⟨g, j, none⟩).isSome = true ∧ w.frozen? ⟨g, j, none⟩ = false) ∧ g < w.heap.size
theorem Tg.below {w w' : World} {B : Nat} {v : Value} {l : List UInt8} (h : Tg w B v l) (b : Below w.heap.size w w') : Tg w' B v l := by
  obtain ⟨g, cap, e, h1, h2, h3, h4, h5, h6⟩ := h.ex
  refine ⟨g, cap, e, h1, h2, h3, rangeB h4 b, fun j hj hc => ?_, Nat.lt_of_lt_of_le h6 b.size⟩
  obtain ⟨u, hu⟩ := Option.isSome_iff_exists.1 (h5 j hj hc).1
  refine ⟨by rw [cellB hu b]; rfl, ?_⟩
  rw [World.frozen?_of_block (a := ⟨g, j, none⟩) (b.block g h6)]
  exact (h5 j hj hc).2
theorem setCells_size (b : Nat) : ∀ (vs : List Value) (o : Nat) (w : World), (w.setCells b o vs).heap.size = w.heap.size := fun vs o w => (setA_tape b vs o w).2
theorem Tg.conv {w : World} {B : Nat} {v : Value} {l : List UInt8} (h : Tg w B v l) : (convert 32 9 v).run Tryd.prog w = .ok (.string (tx l)) w := by
  obtain ⟨g, cap, rfl, h1, h2, h3, h4, h5, h6⟩ := h.ex
  have R : Row8 w (some ⟨g, 0, none⟩) l.length cap (bf l) := by
    refine ⟨fun i _ => bf_lt l i, (fun h => by cases h), fun x hx i hi => ?_, h2⟩
    cases hx
    have e : (Addr.add ⟨g, 0, none⟩ i) = ⟨g, i, none⟩ := by unfold Addr.add; simp; omega
    rw [e]
    have := h4 i (.int .u8 ((bf l i : Nat) : Int)) (by rw [vb_CB, CB_get _ _ _ hi])
    rwa [Nat.zero_add] at this
  rw [conv_any _ _ _ _ _ R, BA_bf]
/-- append of a text. -/
theorem Tg.app {w w0 : World} {B : Nat} {v : Value} {l : List UInt8} (h : Tg w B v l) (m : List UInt8) (hm : l.length + m.length ≤ 140737488355328) (hB : B ≤ w.heap.size) (hb : Below B w0 w) : ∃ v' w', (Builtin.append_ #[32, 9] 32 #[v, .string (tx m)]).run Tryd.prog w = .ok v' w' ∧ Tg w' B v' (l ++ m) ∧ Below B w0 w' := by
  obtain ⟨i0, hi, hz0, hz1, hz2⟩ := info_parts info_u8
  obtain ⟨g, cap, rfl, h1, h2, h3, h4, h5, h6⟩ := h.ex
  have sz : (tx m).size = m.length := tx_size m
  by_cases hroom : l.length + m.length ≤ cap
  · have hst := run_storeCells_cells (P := Tryd.prog) g l.length (vb m) 0 w (fun j hj => by
        rw [vb_len] at hj
        simpa using (h5 (l.length + j) (by omega) (by omega)).1) (fun j hj => by
        rw [vb_len] at hj
        simpa using (h5 (l.length + j) (by omega) (by omega)).2) (vb_one m)
    simp only [Nat.add_zero] at hst
    have hf := Lib.run_firstCells_string (P := Tryd.prog) w 1 (tx m)
    rw [strC, sz] at hf
    have e : (⟨g, 0, none⟩ : Addr).add l.length = ⟨g, l.length, none⟩ := by rw [Addr.add_mid, Nat.zero_add]
    refine ⟨.slice (some ⟨g, 0, none⟩) (l.length + m.length) cap, w.setCells g l.length (vb m), ?_, ⟨g, cap, by rw [List.length_append], h1, by rw [List.length_append]; exact hroom, h3, ?_, fun j hj hc => ?_, by rw [setCells_size]; exact h6⟩, ?_⟩
    · simp [Builtin.append_, run_underlying Tryd.underlying32, run_underlying Tryd.underlying9, sizeOf, typeInfo, hi, hz1, Builtin.lenOf, hroom, hf, e, hst, sz]
    · rw [vb_app]
      refine range_appG (World.rangeAt_setCells_apart h4 _ _ _ (.inr (.inl (by rw [vb_len]; omega)))) ?_
      rw [vb_len, Nat.zero_add]
      exact World.rangeAt_setCells_same w g l.length (vb m) (fun j hj => by rw [vb_len] at hj; exact h5 _ (by omega) (by omega))
    · rw [List.length_append] at hj
      have := World.there_setCells (w := w) (b' := g) (o' := j) (n := 1) (fun k hk => by
        obtain rfl : k = 0 := by omega
        exact h5 j (by omega) hc) g l.length (vb m) 0 (by omega)
      exact this
    · exact hb.trans ⟨World.os_setCells _ _ _ _, (setA_tape _ _ _ _).1, World.output_setCells _ _ _ _, by rw [setCells_size]; exact Nat.le_refl _, fun k hk => World.heap_setCells_other _ _ _ _ (by omega) (by omega)⟩
  · have hr := Lib.run_append_grow_string (P := Tryd.prog) w 32 9 32 5 i0 (.int .u8 0) Tryd.underlying32 Tryd.underlying9 hi hz0 ⟨g, 0, none⟩ l.length cap (vb l) (by rw [hz1, vb_len]; omega) (fun j u hu => by
      have e : (Addr.add ⟨g, 0, none⟩ j) = ⟨g, j, none⟩ := by unfold Addr.add; simp; omega
      rw [e]
      have := h4 j u hu
      rwa [Nat.zero_add] at this) (tx m) (by rw [sz]; omega) (by rw [sz]; omega) (by rw [hz2]; exact growslice_fits (by rw [sz]; omega) (by rw [sz]; omega))
    rw [strC, sz] at hr
    have hge := grownCap_ge w (l.length + m.length) cap 5
    have hcm : grownCap w (l.length + m.length) cap 5 ≤ maxLen := grownCap_le_maxLen w _ _ _ (by unfold maxLen; omega)
    refine ⟨_, _, hr, ?_, ?_⟩
    · have hnew := heap_alloc_new w.drew (.cells ((vb l).toArray ++ (vb m).toArray ++ Builtin.zeroCells (Value.int IntKind.u8 0).cells (grownCap w (l.length + m.length) cap 5 - (l.length + m.length))) 5)
      have hzc : (Builtin.zeroCells (Value.int IntKind.u8 0).cells (grownCap w (l.length + m.length) cap 5 - (l.length + m.length))).size = grownCap w (l.length + m.length) cap 5 - (l.length + m.length) := by
        rw [size_zeroCells]
        exact Nat.mul_one _
      have hs : ((vb l).toArray ++ (vb m).toArray ++ Builtin.zeroCells (Value.int IntKind.u8 0).cells (grownCap w (l.length + m.length) cap 5 - (l.length + m.length))).size = grownCap w (l.length + m.length) cap 5 := by
        simp only [Array.size_append, List.size_toArray, vb_len, hzc]
        omega
      refine ⟨w.heap.size, _, by rw [List.length_append], hB, by rw [List.length_append]; exact hge, hcm, fun j u hu => ?_, fun j hj hc => ⟨?_, frozen_of_row _ _ j _ _ hnew⟩, by simp⟩
      · rw [Nat.zero_add]
        have hj : j < (vb (l ++ m)).length := (List.getElem?_eq_some_iff.1 hu).1
        rw [show (⟨w.heap.size, j, none⟩ : Addr) = ⟨w.drew.heap.size, j, none⟩ from rfl, cell_of_row _ _ j _ _ _ hnew, ← hu, vb_app]
        rw [Array.getElem?_append_left (by rw [vb_app, List.length_append] at hj; simpa using hj)]
        simp
      · rw [show (⟨w.heap.size, j, none⟩ : Addr) = ⟨w.drew.heap.size, j, none⟩ from rfl, cell_of_row _ _ j _ _ _ hnew, Array.getElem?_eq_getElem (by rw [hs]; exact hc)]
        rfl
    · exact (hb.drew).alloc hB _
theorem wpList_appG {ops : Array Oper} {rest : List Oper} {o : Oper} {a : Act} {Q : Exit → Act → World → Prop} {w w0 : World} {B : Nat} (hgd : o.guard = none) (s x : Operand) (hop : o.op = Op.call { callee := Callee.builtin Builtin.append, args := #[s, x], argTypes := #[32, 9] }) (hty : o.type = 32)
    {v : Value} {l : List UInt8} (h : Tg w B v l) (m : List UInt8) {X : ByteArray} (hX : tx m = X) (hs : a.eval s = v) (hx : a.eval x = .string X) (hm : l.length + m.length ≤ 140737488355328) (hB : B ≤ w.heap.size) (hb : Below B w0 w)
    (hK : ∀ v' w', Hid (Tg w' B v' (l ++ m) ∧ Below B w0 w') → wpList Tryd.prog ops Q rest (a.put o.dst v') w') : wpList Tryd.prog ops Q (o :: rest) a w :=
  wpList_plain hgd fun _ hK' => by
    obtain ⟨v', w', hr, h1, h2⟩ := h.app m hm hB hb
    rw [hX] at hr
    unfold Oper.wp execOp
    simp only [hop, hty, resolve, invoke, builtin, Sem.run_bind, Sem.run_pure, Result.andThen_ok, List.map_toArray, List.map_cons, List.map_nil, hs, hx, hr]
    exact hK' _ _ (hK v' w' ⟨h1, h2⟩)
/-- A text made into bytes. -/
theorem tg_bytes (w : World) (l : List UInt8) (hl : l.length ≤ 140737488355328) : ∃ v w', (convert 9 32 (.string (tx l))).run Tryd.prog w = .ok v w' ∧ Tg w' w.heap.size v l ∧ Below w.heap.size w w' := by
  have sz : (tx l).size = l.length := tx_size l
  refine ⟨_, _, Lib.run_convert_string_bytes (P := Tryd.prog) w 9 32 5 (tx l) Tryd.underlying9 Tryd.underlying32 Tryd.underlying5, ?_, ?_⟩
  · have hge := grownCap_ge w (tx l).size 0 5
    have hcm : grownCap w (tx l).size 0 5 ≤ maxLen := grownCap_le_maxLen w _ _ _ (by rw [sz]; unfold maxLen; omega)
    have hnew := Lib.bytesWorld_at_new w 5 (tx l)
    have hcs : (Lib.bytesCells w 5 (tx l)).size = grownCap w (tx l).size 0 5 := by
      have e : (tx l).data.size = (tx l).size := rfl
      simp only [Lib.bytesCells, Array.size_append, Array.size_map, Array.size_replicate, e]
      omega
    refine ⟨w.heap.size, _, by rw [sz], Nat.le_refl _, by rw [← sz]; exact hge, hcm, fun j u hu => ?_, fun j hj hc => ⟨?_, ?_⟩, by rw [Lib.bytesWorld_size]; omega⟩
    · have hj : j < l.length := by
        have := (List.getElem?_eq_some_iff.1 hu).1
        rwa [vb_len] at this
      rw [Nat.zero_add, Lib.bytesWorld_cell w 5 (tx l) j (by rw [sz]; exact hj), ← hu]
      simp [vb, tx, hj]
    · rw [cell_of_row _ _ j _ _ _ hnew, Array.getElem?_eq_getElem (by rw [hcs]; exact hc)]
      rfl
    · simp [World.frozen?, hnew]
      omega
  · exact Lib.below_freeze ((Below.drew (Below.refl _ w)).alloc (Nat.le_refl _) _) (p := ⟨w.heap.size, _, none⟩) (Nat.le_refl _) 1
/-- String of a builder that holds something. -/
theorem bstr {T : TypeId} {rs : List Value} {B b : Nat} (l : List UInt8) (w : World) (h : Bl T rs B b (Lib.byteCells l) w) (h0 : l ≠ []) : Calls Tryd.prog 49 #[.pointer (some ⟨b, 0, none⟩)] w fun e w' => e = .returned (.string (tx l)) ∧ Below B w w' := by
  obtain ⟨p, hB, v, hbk, hown, hne⟩ : ∃ p, BlA T rs B b p (Lib.byteCells l) w := h.elim (fun h => ⟨_, h⟩) (fun h => ⟨_, h⟩)
  have hl0 : l.length ≠ 0 := by simpa using h0
  rw [Lib.byteCells_length] at hown
  obtain ⟨g, cap, cur, rfl, hbg, hg, hnc, hcm, hcs, htake⟩ : ∃ g cap cur, v = .slice (some ⟨g, 0, none⟩) l.length cap ∧ B ≤ g ∧ w.heap[g]? = some (.cells cur 5 (0, 0)) ∧ l.length ≤ cap ∧ cap ≤ maxLen ∧ cur.size = cap * 1 ∧ cur.toList.take (l.length * 1) = Lib.byteCells l := by
    rcases hown.2 with ⟨_, hz⟩ | ⟨g, cap, cur, hv, r⟩
    · exact absurd hz hl0
    · exact ⟨g, cap, cur, hv, r⟩
  have c1 : w.drew.cell? ⟨b, 1, none⟩ = some (.slice (some ⟨g, 0, none⟩) l.length cap) := by
    have : w.drew.heap[b]? = some (.cells (p :: .slice (some ⟨g, 0, none⟩) l.length cap :: rs).toArray T (0, 0)) := hbk
    rw [cell_of_row _ b 1 _ _ _ this]
    rfl
  have hSD : (Builtin.unsafeSliceData_ #[32] 132 #[.slice (some ⟨g, 0, none⟩) l.length cap]).run Tryd.prog w.drew = .ok (.pointer (some ⟨g, 0, none⟩)) w.drew := Lib.run_unsafeSliceData_row _ _ _ _ _ _ (by omega)
  have hUS : (Builtin.unsafeString_ #[132, 3] 9 #[.pointer (some ⟨g, 0, none⟩), .int .i64 l.length]).run Tryd.prog w.drew = .ok (.string (tx l)) (w.drew.freeze ⟨g, 0, none⟩ l.length) := by
    refine Lib.run_unsafeString_row w.drew 132 3 9 5 Tryd.underlying132 (by kernel_rfl) g cur.size (by have hg' : w.drew.heap[g]? = some (.cells cur 5 (0, 0)) := hg; simp [World.shape?, hg']) l h0 (by omega) (by unfold maxLen at hcm; omega) ?_
    intro j x hx
    exact hown.cells (g := g) rfl j (.int .u8 x.toNat) (by simp [Lib.byteCells, hx])
  have HB : Hid (B ≤ g) := hbg
  clear hown htake hcs hcm hnc hbk hne hg hbg
  go_enter Tryd.func49, Tryd.ntmps49
  go_wp2
  go_region
  all_goals (go_wp2; go_ret; exact ⟨rfl, Lib.below_freeze (Below.drew (Below.refl B w)) (p := ⟨g, 0, none⟩) HB.out _⟩)
/-- A page: these bytes were added. -/
structure Pa (w : World) (B b : Nat) (l : List UInt8) : Prop where
  ex : ∃ bs, Bl 102 [.int .i64 ((l.length : Nat) : Int)] B b bs w ∧ (l.length ≤ 262144 → bs = Lib.byteCells l) ∧ bs.length ≤ 262144
theorem Pa.below {w w' : World} {B b : Nat} {l : List UInt8} (h : Pa w B b l) (hb : Below w.heap.size w w') : Pa w' B b l := by
  obtain ⟨bs, h1, h2, h3⟩ := h.ex
  exact ⟨bs, h1.below hb, h2, h3⟩
theorem bltP (n : Nat) (hn : n = 1) : BlT 102 n := by
  subst hn
  exact ⟨by decide, by kernel_rfl⟩
theorem BlA.rs {T : TypeId} {r v' : Value} {B b : Nat} {p : Value} {bs : List Value} {w : World} (h : BlA T [r] B b p bs w) : BlA T [v'] B b p bs (w.setCell ⟨b, 2, none⟩ v') := by
  obtain ⟨hB, v, hb, ho, hne⟩ := h
  refine ⟨hB, v, ?_, ?_, hne⟩
  · simp [World.setCell, Array.getElem?_modify, hb]
  · exact ho.kept (row := some b) ⟨rfl, rfl, rfl, by simp [World.setCell], fun k _ hk => Below.heap_setCell _ _ _ _ (fun e => hk (by simp [e]))⟩ (Or.inr hne)
theorem Bl.rs {T : TypeId} {r v' : Value} {B b : Nat} {bs : List Value} {w : World} (h : Bl T [r] B b bs w) : Bl T [v'] B b bs (w.setCell ⟨b, 2, none⟩ v') := h.elim (fun h => .inl h.rs) (fun h => .inr h.rs)
theorem Bl.cell2 {T : TypeId} {r : Value} {B b : Nat} {bs : List Value} {w : World} (h : Bl T [r] B b bs w) : w.cell? ⟨b, 2, none⟩ = some r ∧ w.frozen? ⟨b, 2, none⟩ = false ∧ B ≤ b := by
  rcases h with ⟨hB, v, hb, _⟩ | ⟨hB, v, hb, _⟩
  · exact ⟨by rw [cell_of_row w b 2 _ _ _ hb]; rfl, Lib.frozen_of_heap hb 2, hB⟩
  · exact ⟨by rw [cell_of_row w b 2 _ _ _ hb]; rfl, Lib.frozen_of_heap hb 2, hB⟩
set_option maxHeartbeats 2000000 in
theorem padd {B b g n c : Nat} {B2 : Nat} (l : List UInt8) (ls : List (List UInt8)) (w : World) (h : Pa w B b l) (o : w.ownsRow B2 9 1 (.slice (some ⟨g, 0, none⟩) n c) n (wsT ls)) (hn : n ≤ 1000) (hL : (Lib.join ls [32]).length ≤ 3000000) (hl : l.length ≤ 9000000000000) (hB : B ≤ w.heap.size) :
    Calls Tryd.prog 46 #[.pointer (some ⟨b, 0, none⟩), .slice (some ⟨g, 0, none⟩) n c] w fun r w' => r = .returned (.tuple #[]) ∧ Hid (Pa w' B b (l ++ Lib.join ls [32] ++ [10]) ∧ Below B w w') := by
  have hJ := pjoin ls o (by omega) (by omega)
  obtain ⟨X, hX⟩ : ∃ y, tx (Lib.join ls [32]) = y := ⟨_, rfl⟩
  rw [hX] at hJ
  have lX : X.size = (Lib.join ls [32]).length := by rw [← hX, tx_size]
  obtain ⟨Y, p1, t1, z1⟩ := catS hX (show tx [10] = ByteArray.mk #[10] from rfl)
  rw [show (ByteArray.mk #[10]).size = 1 from rfl] at z1
  have s1 : ¬ 9223372036854775807 < X.size + 1 := by omega
  have HP : Hid (_) := h
  have HY : Hid (tx (Lib.join ls [32] ++ [10]) = Y) := t1
  obtain ⟨N, hN⟩ : ∃ y, l.length = y := ⟨_, rfl⟩
  obtain ⟨M, hM⟩ : ∃ y, Y.size = y := ⟨_, rfl⟩
  have hw1 : IntKind.i64.wrap (((N : Nat) : Int) + ((M : Nat) : Int)) = ((N : Nat) : Int) + ((M : Nat) : Int) := by rw [IntKind.wrap_i64]; omega
  have HI : Hid (((N : Nat) : Int) + ((M : Nat) : Int) = ((N + M : Nat) : Int)) := by show ((N : Nat) : Int) + ((M : Nat) : Int) = ((N + M : Nat) : Int); omega
  have HM : Hid ((Lib.join ls [32] ++ [10]).length = M ∧ l.length = N ∧ M ≤ 3000001) := ⟨by rw [← hM, ← t1, tx_size], hN, by omega⟩
  clear h o hL lX t1 z1 hX
  go_enter Tryd.func46, Tryd.ntmps46
  go_wp2_with fail
  refine hJ.mono ?_
  rintro r w1 ⟨rfl, b1⟩
  obtain ⟨bs, k1, k2, k3⟩ := (HP.out.below b1).ex
  rw [hN] at k1
  obtain ⟨c2, f2, hBb⟩ := k1.cell2
  have B1 : Below B w w1 := b1.mono hB
  obtain ⟨w2, hw2⟩ : ∃ y, w1.setCell ⟨b, 2, none⟩ (.int .i64 (((N : Nat) : Int) + ((M : Nat) : Int))) = y := ⟨_, rfl⟩
  have K2 : Bl 102 [.int .i64 (((N : Nat) : Int) + ((M : Nat) : Int))] B b bs w2 := by rw [← hw2]; exact k1.rs
  have B2' : Below B w w2 := by rw [← hw2]; exact B1.setCell (p := ⟨b, 2, none⟩) hBb _
  have d2 := K2.cell2.1
  have HK : Hid (_) := And.intro K2 (And.intro B2' (And.intro k2 k3))
  have hS2 : B ≤ w2.heap.size := Nat.le_trans hB B2'.size
  clear hJ b1 k1 K2 B1 B2' k2 k3 hBb HP
  go_upto_region 2 with fail
  try rw [hw2]
  clear hw2 c2 f2 p1 s1 hw1
  by_cases hle : N + M ≤ 262144
  · have g1 : ((N : Nat) : Int) + ((M : Nat) : Int) ≤ 262144 := by omega
    have e0 := HK.out.2.2.1 (by have := HM.out; omega)
    have q := bstring Y w2 (bltP _ rfl) HK.out.1 (by have := HK.out.2.2.2; omega) hS2
    have HN : Hid (_) := And.intro e0 hle
    clear e0 hle
    go_wp2_with fail
    refine q.mono ?_
    rintro r w3 ⟨rfl, k3, b3⟩
    have HF : Hid (Pa w3 B b (l ++ Lib.join ls [32] ++ [10]) ∧ Below B w w3) := by
      have e1 : (l ++ Lib.join ls [32] ++ [10]).length = N + M := by
        rw [List.append_assoc, List.length_append, HM.out.1, HM.out.2.1]
      have e2 : bs ++ Lib.strCells Y = Lib.byteCells (l ++ Lib.join ls [32] ++ [10]) := by
        rw [HN.out.1, ← HY.out, strC, List.append_assoc]
        exact (vb_app l (Lib.join ls [32] ++ [10])).symm
      refine ⟨⟨_, by rw [e1, ← HI.out]; exact .inr k3, fun _ => e2, ?_⟩, HK.out.2.1.trans b3⟩
      rw [e2, Lib.byteCells_length, e1]
      exact HN.out.2
    clear q k3 b3
    go_wp2_with fail
    go_end0
    first | exact ⟨rfl, HF⟩ | exact ⟨rfl, by rw [← List.append_assoc]; exact HF⟩
  · have g1 : ¬ ((N : Nat) : Int) + ((M : Nat) : Int) ≤ 262144 := by omega
    have HF : Hid (Pa w2 B b (l ++ Lib.join ls [32] ++ [10]) ∧ Below B w w2) := by
      have e1 : (l ++ Lib.join ls [32] ++ [10]).length = N + M := by
        rw [List.append_assoc, List.length_append, HM.out.1, HM.out.2.1]
      exact ⟨⟨bs, by rw [e1, ← HI.out]; exact HK.out.1, fun h => by rw [e1] at h; omega, HK.out.2.2.2⟩, HK.out.2.1⟩
    clear hle
    go_wp2_with fail
    go_end0
    first | exact ⟨rfl, HF⟩ | exact ⟨rfl, by rw [← List.append_assoc]; exact HF⟩
end Go.Proofs.YtiikebaehoobnaaDoor
