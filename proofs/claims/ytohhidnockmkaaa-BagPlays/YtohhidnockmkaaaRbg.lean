/- Layer 15: the document's bag. -/
import Derived.Test.YtohhidnockmkaaaBg2
namespace Go.Proofs.Ytohhidnockmkaaa
open Go.RowKit Go.Maps

theorem step_append8B {ops : Array Oper} {o : Oper} {a : Act} {w : World} {K : Act → World → Prop} {Q : Exit → Act → World → Prop} {E : Prop}
    (hg : o.guard = none) (s x : Operand) (hop : o.op = Op.call { callee := Callee.builtin Builtin.append, args := #[s, x], argTypes := #[31, 31] })
    (B n N : Nat) (v : Value) (f : Nat → Nat) (hf : ∀ i, i < n → f i < 256) (hs : a.eval s = v) (hown : w.ownsRow B 5 1 v n (CB f n))
    (ao : Option Addr) (m c : Nat) (bs : Nat → Nat) (hx : a.eval x = .slice ao m c) (hrow : Row8 w ao m c bs) (hm : n + m ≤ 1000000) (hN : n + m = N)
    (w0 : World) (hb : Below B w0 w) (hB0 : B ≤ w0.heap.size)
    (hK : ∀ a' c' w', Hid (w'.ownsRow B 5 1 (.slice a' N c') N (CB (PM.ct f bs n) N)) → Hid (w.grownBy w' v.ownBlock) → Below B w0 w' → K (a.put o.dst (.slice a' N c')) w') :
    if Region.wanted o (yielded ops a.tmps) = true then Oper.wp Try.prog o a w K Q else E := by
  subst hN
  obtain ⟨i0, hi, hz0, hz1, hz2⟩ := info_parts info_u8
  have hw : Region.wanted o (yielded ops a.tmps) = true := by simp [Region.wanted, hg]
  rw [if_pos hw]
  have hBw : B ≤ w.heap.size := Nat.le_trans hB0 hb.size
  have fin : ∀ v' w', w'.ownsRow B 5 1 v' (n + m) (CB f n ++ CB bs m) → w.grownBy w' v.ownBlock → K (a.put o.dst v') w' := by
    intro v' w' h1 h2
    have h3 := hb.grown h2 hBw (fun j hj => (hown.lt j hj).1)
    rw [CB_append] at h1
    obtain ⟨a', c', rfl, _⟩ := own_row8 h1 (PM.ct_lt hf hrow.byte)
    exact hK a' c' w' h1 h2 h3
  cases ao with
  | none =>
    obtain ⟨rfl, rfl⟩ := hrow.nil rfl
    have hrun := run_append_owned_none (P := Try.prog) (w := w) B 31 o.type 5 i0 1 Try.underlying31 hi v n (CB f n) hown
    have he : CB f n ++ CB bs 0 = CB f n := by simp [CB]
    have hk := fin v w (by rw [he]; exact hown) ⟨rfl, rfl, rfl, Nat.le_refl _, fun _ _ _ => rfl⟩
    unfold Oper.wp
    simp [execOp, hop, resolve, invoke, builtin, hs, hx, hrun, Result.andThen]
    exact hk
  | some ad =>
    refine wp_append_own w s x _ hop B 5 i0 (.int .u8 0) 1 1 Try.underlying31 hi hz0 hz1 hz2 rfl (by decide) v n (CB f n) hs hown ad m c (CB bs m) hx (by rw [CB_length, Nat.mul_one]) ?_ (CB_one bs m) (by unfold maxLen; omega) (by omega) hBw (fun v' w' h1 h2 _ => fin v' w' h1 h2)
    intro j u hj
    by_cases hlt : j < m
    · rw [CB_get bs m j hlt] at hj
      cases hj
      exact hrow.src ad rfl j hlt
    · rw [CB_none bs m j (by omega)] at hj; cases hj
theorem ct0 (f bs : Nat → Nat) (n : Nat) : CB (PM.ct f bs 0) n = CB bs n := CB_congr _ _ _ (fun i _ => by simp [PM.ct])
/-- The document's bag: r its block. -/
structure Rg (B : Nat) (w : World) (r : Nat) (v : Value) (vs : List Value) (L : List Bfm) : Prop where
  at_ : w.heap[r]? = some (.cells #[v] 29 (0, 0))
  fl : Fl B w v vs L
  rB : B ≤ r
theorem Rg.lt {B : Nat} {w : World} {r : Nat} {v : Value} {vs : List Value} {L : List Bfm} (h : Rg B w r v vs L) : r < w.heap.size := (Array.getElem?_eq_some_iff.1 h.at_).1
theorem Rg.c0 {B : Nat} {w : World} {r : Nat} {v : Value} {vs : List Value} {L : List Bfm} (h : Rg B w r v vs L) : w.cell? ⟨r, 0, none⟩ = some v := cell_of_row w r 0 _ _ _ h.at_
theorem Rg.off {B : Nat} {w w' : World} {r : Nat} {v : Value} {vs : List Value} {L : List Bfm} (h : Rg B w r v vs L) {l : List Nat} (k : Off l w w') (hl : ∀ x, x ∈ l → x < w.heap.size → x ≠ r ∧ v.ownBlock ≠ some x ∧ ∀ c f, w.heap[x]? ≠ some (.cells c 5 f)) : Rg B w' r v vs L :=
  ⟨(k.block r h.lt fun hm => (hl r hm h.lt).1 rfl).trans h.at_, h.fl.keep k fun x hx hs => (hl x hx hs).2, h.rB⟩
theorem Rg.below {B : Nat} {w w' : World} {r : Nat} {v : Value} {vs : List Value} {L : List Bfm} (h : Rg B w r v vs L) (k : Below w.heap.size w w') : Rg B w' r v vs L := h.off (l := []) (Off.of_below k) (fun x hx => by cases hx)
set_option maxRecDepth 100000 in
set_option maxHeartbeats 1000000 in
theorem rget_any (B : Nat) (r : Nat) (v : Value) (vs : List Value) (L : List Bfm) (i : Nat) (f : Bfm) (w : World) (h : Rg B w r v vs L) (hi : L[i]? = some f) :
    Calls Try.prog 13 #[.pointer (some ⟨r, 0, none⟩), .int .i64 (i : Nat)] w fun e w' => ∃ a' cap', e = .returned (.tuple #[.slice a' f.1 cap', .int .i64 0]) ∧ Hid (Below w.heap.size w w' ∧ w'.ownsRow w.heap.size 5 1 (.slice a' f.1 cap') f.1 (CB f.2 f.1)) := by
  obtain ⟨i0, hi0, hz0, hz1, hz2⟩ := info_parts info_u8
  have hbd := build0B
  have hlt := (List.getElem?_eq_some_iff.1 hi).1
  have hlen := h.fl.len
  have hbelA : Below w.heap.size w (w.alloc (.cells #[] 5)) := (Below.refl _ _).alloc (Nat.le_refl _) _
  have hA := h.below hbelA
  obtain ⟨a, cap, hv, R⟩ := hA.fl.at_ hi
  have h27 := (h.fl.small f (List.mem_of_getElem? hi)).1
  have c0 := h.c0
  have c0' := hA.c0
  have hr := hA.fl.rows
  have hby := (h.fl.small f (List.mem_of_getElem? hi)).2
  have O0 := own0B w.heap.size f.2 w (Nat.le_refl _)
  have hszA := hbelA.size
  obtain ⟨n, en⟩ : ∃ n, n = L.length := ⟨_, rfl⟩
  rw [← en] at hlt hlen hr
  cases n with
  | zero => omega
  | succ n =>
    obtain ⟨g, capv, rfl, _, _⟩ := own_some1 hr
    have cv : (w.alloc (.cells #[] 5)).cell? ⟨g, i, none⟩ = some (.slice a f.1 cap) := (hr.cellAt i (by omega)).trans hv
    have h0 : ¬ ((i : Int) < 0) := by omega
    have h1 : ¬ (((n + 1 : Nat) : Int) ≤ (i : Int)) := by omega
    clear h hr hv hi hA
    go_enter Try.func13, Try.ntmps13
    go_wp2_with (at_builtin; refine wpList_append_row8 rfl (.tmp 17) (.tmp 24) 31 rfl w.heap.size 5 i0 (.int .u8 0) Try.underlying31 hi0 hz0 hz1 hz2 rfl _ 0 _ rfl O0 a f.1 cap f.2 rfl R (by unfold maxLen; omega) (by omega) hszA ?_)
    intro v2 w2 hown2 hgrow2
    have hbel2 : Below w.heap.size w w2 := hbelA.grown hgrow2 hszA (fun k hk => (O0.lt k hk).1)
    replace hown2 : w2.ownsRow w.heap.size 5 1 v2 f.1 (CB f.2 f.1) := by simpa [CB] using hown2
    obtain ⟨a2, k2, rfl, _⟩ := own_row8 hown2 hby
    have H : Hid (Below w.heap.size w w2 ∧ w2.ownsRow w.heap.size 5 1 (.slice a2 f.1 k2) f.1 (CB f.2 f.1)) := ⟨hbel2, hown2⟩
    clear hown2 hbel2 hgrow2 O0 R hbelA hby cv c0 c0'
    go_wp2_with fail
    go_ret2
    exact ⟨_, _, rfl, H.out⟩
theorem rget_out (B : Nat) (r : Nat) (v : Value) (vs : List Value) (L : List Bfm) (i : Int) (w : World) (h : Rg B w r v vs L) (hi : i < 0 ∨ (L.length : Int) ≤ i) :
    Calls Try.prog 13 #[.pointer (some ⟨r, 0, none⟩), .int .i64 i] w fun e w' => e = .returned (.tuple #[.slice none 0 0, .int .i64 151]) ∧ w' = w := by
  have c0 := h.c0
  obtain ⟨a, cap, rfl⟩ := own_shape h.fl.rows
  generalize L.length = n at *
  clear h
  by_cases h0 : i < 0
  · clear hi
    go_enter Try.func13, Try.ntmps13
    go_wp2_with fail
    go_ret2
    exact ⟨rfl, rfl⟩
  · have h1 : (n : Int) ≤ i := by omega
    clear hi
    go_enter Try.func13, Try.ntmps13
    go_wp2_with fail
    go_ret2
    exact ⟨rfl, rfl⟩
set_option maxHeartbeats 1000000 in
theorem rgarb_good (B : Nat) (r : Nat) (v : Value) (vs : List Value) (L : List Bfm) (i : Nat) (f : Bfm) (at_ x : Nat) (w : World) (h : Rg B w r v vs L) (hi : L[i]? = some f) (hx : x < 4294967296) (hx0 : x ≠ 0) (hfit : at_ + PM.bl x ≤ 8 * f.1) :
    Calls Try.prog 15 #[.pointer (some ⟨r, 0, none⟩), .int .i64 (i : Nat), .int .i64 (at_ : Nat), .int .u32 (x : Nat)] w fun e w' => ∃ g c, e = .returned (.tuple #[.slice (some ⟨g, 0, none⟩) f.1 c, .int .i64 0]) ∧ Hid (Below w.heap.size w w' ∧ Grb w.heap.size w' f.1 at_ x f.2 (.slice (some ⟨g, 0, none⟩) f.1 c) ∧ w.heap.size ≤ g) := by
  have h27 := (h.fl.small f (List.mem_of_getElem? hi)).1
  have hby := (h.fl.small f (List.mem_of_getElem? hi)).2
  have hG := rget_any B r v vs L i f w h hi
  clear h hi
  go_enter Try.func15, Try.ntmps15
  go_wp2_with fail
  refine hG.mono ?_
  rintro e w1 ⟨a1, cap1, rfl, H1⟩
  have hM := refMake_good f.1 at_ x w1 hx hx0 (by omega) hfit
  clear hG
  go_wp2_with fail
  refine hM.mono ?_
  rintro e w2 ⟨v2, rfl, H2⟩
  obtain ⟨b2, g, og, gb, gl⟩ := H2.out
  obtain ⟨a2, cap2, rfl, R2⟩ := own_row8 og gb
  have R1 : Row8 w2 a1 f.1 cap1 f.2 := by
    obtain ⟨a1', cap1', e1, R1⟩ := own_row8 (own_below H1.out.2 b2) hby
    simp only [Value.slice.injEq, true_and] at e1
    obtain ⟨rfl, rfl⟩ := e1
    exact R1
  have hT := refTurn_good a1 a2 f.1 cap1 cap2 f.2 g w2 R1 R2 (by omega)
  have HH : Hid (_) := And.intro gb (And.intro gl (And.intro H1.out.1 b2))
  clear hM H2 H1 og gb gl R1 R2 b2
  go_wp2_with fail
  refine hT.mono ?_
  rintro e w3 ⟨c3, rfl, H3⟩
  clear hT
  go_wp2_with fail
  go_ret2
  have s1 := HH.out.2.2.1.size
  have s2 := HH.out.2.2.2.size
  exact ⟨_, _, rfl, HH.out.2.2.1.trans ((HH.out.2.2.2.trans (H3.out.1.mono s2)).mono s1), ⟨g, own_base H3.out.2 (Nat.le_trans s1 s2), HH.out.1, HH.out.2.1⟩, Nat.le_trans s1 s2⟩
theorem rgarb_bad (B : Nat) (r : Nat) (v : Value) (vs : List Value) (L : List Bfm) (i : Nat) (f : Bfm) (at_ : Int) (x : Nat) (w : World) (h : Rg B w r v vs L) (hi : L[i]? = some f) (hx : x < 4294967296) (ha : -9223372036854775808 ≤ at_ ∧ at_ < 9223372036854775808) (he : mkErr f.1 at_ x ≠ 0) :
    Calls Try.prog 15 #[.pointer (some ⟨r, 0, none⟩), .int .i64 (i : Nat), .int .i64 at_, .int .u32 (x : Nat)] w fun e w' => e = .returned (.tuple #[.slice none 0 0, .int .i64 (mkErr f.1 at_ x)]) ∧ Hid (Below w.heap.size w w') := by
  have h27 := (h.fl.small f (List.mem_of_getElem? hi)).1
  have hG := rget_any B r v vs L i f w h hi
  have hM := fun w1 => refMake_bad f.1 at_ x w1 hx (by omega) ha he
  generalize mkErr f.1 at_ x = y at *
  clear h hi
  go_enter Try.func15, Try.ntmps15
  go_wp2_with fail
  refine hG.mono ?_
  rintro e w1 ⟨a1, cap1, rfl, H1⟩
  clear hG
  go_wp2_with fail
  refine (hM _).mono ?_
  rintro e w2 ⟨rfl, rfl⟩
  clear hM
  go_wp2_with fail
  go_ret2
  exact ⟨rfl, H1.out.1⟩
theorem rgarb_out (B : Nat) (r : Nat) (v : Value) (vs : List Value) (L : List Bfm) (i at_ x : Int) (w : World) (h : Rg B w r v vs L) (hi : i < 0 ∨ (L.length : Int) ≤ i) :
    Calls Try.prog 15 #[.pointer (some ⟨r, 0, none⟩), .int .i64 i, .int .i64 at_, .int .u32 x] w fun e w' => e = .returned (.tuple #[.slice none 0 0, .int .i64 151]) ∧ w' = w := by
  have hG := rget_out B r v vs L i w h hi
  clear h hi
  go_enter Try.func15, Try.ntmps15
  go_wp2_with fail
  refine hG.mono ?_
  rintro e w1 ⟨rfl, rfl⟩
  clear hG
  go_wp2_with fail
  go_ret2
  exact ⟨rfl, rfl⟩
theorem rput_long (r : Nat) (a : Option Addr) (n cap : Nat) (w : World) (hn : 27 < n) : Calls Try.prog 11 #[.pointer (some ⟨r, 0, none⟩), .slice a n cap] w fun e w' => e = .returned (.tuple #[.int .i64 0, .int .i64 41]) ∧ w' = w := by
  have h1 : (27 : Int) < (n : Int) := by omega
  go_enter Try.func11, Try.ntmps11
  go_wp2_with fail
  go_ret2
  exact ⟨rfl, rfl⟩
theorem rput_full (B : Nat) (r : Nat) (v : Value) (vs : List Value) (L : List Bfm) (a : Option Addr) (n cap : Nat) (w : World) (h : Rg B w r v vs L) (hn : n ≤ 27) (hL : L.length = 4096) :
    Calls Try.prog 11 #[.pointer (some ⟨r, 0, none⟩), .slice a n cap] w fun e w' => e = .returned (.tuple #[.int .i64 0, .int .i64 150]) ∧ w' = w := by
  have c0 := h.c0
  obtain ⟨a1, cap1, rfl⟩ := own_shape h.fl.rows
  have h1 : ¬ (27 : Int) < (n : Int) := by omega
  rw [hL] at c0
  clear h
  go_enter Try.func11, Try.ntmps11
  go_wp2_with fail
  go_ret2
  exact ⟨rfl, rfl⟩
theorem Rg.put {B : Nat} {w wx wa wy : World} {r g cap : Nat} {v : Value} {vs : List Value} {L : List Bfm} {x : Value} {n : Nat} {bs : Nat → Nat} (h : Rg B w r v vs L)
    (hx : Below w.heap.size w wx) (ho : wx.ownsRow w.heap.size 5 1 x n (CB bs n)) (h27 : n ≤ 27) (hb : ∀ i, i < n → bs i < 256) (hn : L.length < 4096) (hBw : B ≤ w.heap.size)
    (ha : Below wx.heap.size wx wa) (hr : wy.ownsRow B 31 1 (.slice (some ⟨g, 0, none⟩) (L.length + 1) cap) (L.length + 1) (vs ++ [x])) (hg : wa.grownBy wy v.ownBlock) (hgb : v.ownBlock = some g ∨ g = wa.heap.size) :
    Off (r :: v.ownBlock.toList) w (wy.setCell ⟨r, 0, none⟩ (.slice (some ⟨g, 0, none⟩) (L.length + 1) cap)) ∧
    Rg B (wy.setCell ⟨r, 0, none⟩ (.slice (some ⟨g, 0, none⟩) (L.length + 1) cap)) r (.slice (some ⟨g, 0, none⟩) (L.length + 1) cap) (vs ++ [x]) (L ++ [(n, bs)]) ∧ (v.ownBlock = some g ∨ w.heap.size ≤ g) := by
  have h2a : Below w.heap.size w wa := hx.trans (ha.mono hx.size)
  have f3 := h.fl.more h2a (own_below (own_base ho hBw) ha) h27 hb hn hr hg
  have by_ : wy.heap[r]? = some (.cells #[v] 29 (0, 0)) := by
    have hka : wa.heap[r]? = _ := (h2a.block r h.lt).trans h.at_
    refine (hg.block r (Nat.lt_of_lt_of_le h.lt h2a.size) fun ek => ?_).trans hka
    obtain ⟨c', hc'⟩ := own_type (h.fl.below h2a).rows ek.symm
    exact tdiff hka hc' (by decide) rfl
  have o3 := Off.setCell r 0 wy (.slice (some ⟨g, 0, none⟩) (L.length + 1) cap)
  have o4 : Off (r :: v.ownBlock.toList) w wy := by
    have q1 : Off (r :: v.ownBlock.toList) w wa := Off.of_below h2a
    have q2 : Off (r :: v.ownBlock.toList) wa wy := ⟨hg.os, hg.tape, hg.output, hg.size, fun k hk hm => hg.block k hk fun e => hm (by rw [← e]; simp)⟩
    exact q1.trans q2
  refine ⟨o4.trans (o3.more (by simp)), ⟨heap_setCell_same _ _ _ _ _ _ by_, f3.keep o3 fun y hy hs => ?_, h.rB⟩, ?_⟩
  · simp only [List.mem_singleton] at hy
    subst hy
    refine ⟨fun e => ?_, fun c f hc => ?_⟩
    · obtain ⟨c, hc⟩ := own_type f3.rows e
      exact tdiff by_ hc (by decide) rfl
    · exact tdiff by_ hc (by decide) rfl
  · rcases hgb with e | e
    · exact .inl e
    · right
      have := h2a.size
      omega
set_option maxRecDepth 100000 in
set_option maxHeartbeats 1000000 in
theorem rput_any (B : Nat) (r : Nat) (v : Value) (vs : List Value) (L : List Bfm) (a : Option Addr) (n cap : Nat) (bs : Nat → Nat) (w : World) (h : Rg B w r v vs L) (R : Row8 w a n cap bs) (hn : n ≤ 27) (hL : L.length < 4096) (hB : B ≤ w.heap.size) :
    Calls Try.prog 11 #[.pointer (some ⟨r, 0, none⟩), .slice a n cap] w fun e w' => e = .returned (.tuple #[.int .i64 (L.length : Nat), .int .i64 0]) ∧
      Hid (∃ g cap' x, Off (r :: v.ownBlock.toList) w w' ∧ Rg B w' r (.slice (some ⟨g, 0, none⟩) (L.length + 1) cap') (vs ++ [x]) (L ++ [(n, bs)]) ∧ (v.ownBlock = some g ∨ w.heap.size ≤ g)) := by
  have HB : Hid (Rg B w r v vs L) := h
  have c0 := h.c0
  have hbd := build0B
  obtain ⟨av, cv, rfl⟩ := own_shape h.fl.rows
  have hI : ¬ ((27 : Int) < (n : Int)) := by omega
  obtain ⟨N, eN⟩ : ∃ N, N = L.length := ⟨_, rfl⟩
  have HN : Hid (N = L.length) := eN
  rw [← eN] at c0 hL ⊢
  have hJ : ¬ ((4096 : Int) ≤ (N : Int)) := by omega
  have hx0 : ∀ wx, Below w.heap.size w wx → wx.cell? ⟨r, 0, none⟩ = some (.slice av N cv) := fun wx hx => by rw [HN.out]; exact (HB.out.below hx).c0
  have ho : Hid (∀ wx, Below w.heap.size w wx → wx.ownsRow B 31 1 (.slice av N cv) N vs) := fun wx hx => by have := (HB.out.below hx).fl.rows; rw [← HN.out] at this; exact this
  have hgb : Hid (∀ wx wy, Below w.heap.size w wx → wx.grownBy wy (Value.slice av N cv).ownBlock → wy.heap[r]? = some (.cells #[.slice av N cv] 29 (0, 0))) := by
    intro wx wy hx hg
    have hka := (hx.block r HB.out.lt).trans HB.out.at_
    rw [← HN.out] at hka
    refine (hg.block r (Nat.lt_of_lt_of_le HB.out.lt hx.size) fun ek => ?_).trans hka
    obtain ⟨c', hc'⟩ := own_type (ho.out wx hx) ek.symm
    exact tdiff hka hc' (by decide) rfl
  have hby := R.byte
  have c1 := hx0 (w.alloc (.cells #[] 5)) ((Below.refl _ _).alloc (Nat.le_refl _) _)
  have hbA : Below w.heap.size w (w.alloc (.cells #[] 5)) := (Below.refl _ _).alloc (Nat.le_refl _) _
  have RA : Hid (∀ wx, Below w.heap.size w wx → Row8 wx a n cap bs) := fun wx hx => R.below hx
  have OA := own0B w.heap.size (fun _ => 0) w (Nat.le_refl _)
  clear h eN R
  go_enter Try.func11, Try.ntmps11
  go_wp2_with fail
  go_region_law (first
    | (refine step_append8B rfl (.tmp 20) (.tmp 21) rfl w.heap.size 0 n (.slice (some ⟨w.heap.size, 0, none⟩) 0 0) (fun _ => 0) (fun i hi => by omega) rfl OA a n cap bs rfl (RA.out _ (by repeat (first | with_reducible assumption | with_reducible refine below_drewNB ?_ _ | with_reducible refine Below.drew ?_ | with_reducible refine belowAB ?_ (Nat.le_refl _) _ | with_reducible exact Below.refl _ _))) (by omega) (by omega) w (by repeat (first | with_reducible assumption | with_reducible refine below_drewNB ?_ _ | with_reducible refine Below.drew ?_ | with_reducible refine belowAB ?_ (Nat.le_refl _) _ | with_reducible exact Below.refl _ _)) (Nat.le_refl _) ?_; intro a3 cap3 w3 H3 G3 b3; have c3 := hx0 _ b3; have c3a := hx0 (w3.alloc (.cells #[.slice a3 n cap3] 31)) (belowAB b3 (Nat.le_refl _) _))
    | (refine step_appF rfl (.tmp 19) (.tmp 23) rfl rfl B N w3.heap.size vs (.slice a3 n cap3) (.slice av N cv) rfl (ho.out _ (by repeat (first | with_reducible assumption | with_reducible refine below_drewNB ?_ _ | with_reducible refine Below.drew ?_ | with_reducible refine belowAB ?_ (Nat.le_refl _) _ | with_reducible exact Below.refl _ _))) rfl (cell_of_row _ _ 0 _ _ _ (heap_alloc_new w3 _)) rfl (by omega) (by rw [World.size_alloc]; have := b3.size; omega) ?_; intro g4 cap4 w4 H4; have hp4 := hgb.out _ _ (by repeat (first | with_reducible assumption | with_reducible refine below_drewNB ?_ _ | with_reducible refine Below.drew ?_ | with_reducible refine belowAB ?_ (Nat.le_refl _) _ | with_reducible exact Below.refl _ _)) H4.out.2.1; have hc4 := cell_of_row w4 r 0 _ _ _ hp4; have hf4 := frozen_of_row w4 r 0 _ _ hp4))
  all_goals
    clear ho hx0 c0 c1 c3 c3a hp4 OA
    go_wp2_with fail
    go_ret2
    refine ⟨rfl, g4, cap4, .slice a3 n cap3, ?_⟩
    obtain rfl := HN.out
    exact HB.out.put b3 (by have := H3.out; rw [ct0] at this; exact this) hn hby hL hB ((Below.refl _ _).alloc (Nat.le_refl _) _) H4.out.1 H4.out.2.1 H4.out.2.2
def mst (L : List Bfm) : Nat := L.foldl (fun q f => if q < f.1 then f.1 else q) 0
theorem mst_app (L : List Bfm) (f : Bfm) : mst (L ++ [f]) = if mst L < f.1 then f.1 else mst L := by unfold mst; rw [List.foldl_append]; rfl
theorem pkf_mst (L : List Bfm) : (pkf L).getD 0 = (mst L : Int) := by
  have key : ∀ (M : List Bfm) (q : Option Int) (k : Nat), (q = none ∧ k = 0 ∨ q = some (k : Int)) →
      (M.foldl (fun q f => if q.all (fun x => decide (x < (f.1 : Int))) then some (f.1 : Int) else q) q).getD 0 = ((M.foldl (fun q f => if q < f.1 then f.1 else q) k : Nat) : Int) := by
    intro M
    induction M with
    | nil => intro q k h; rcases h with ⟨rfl, rfl⟩ | rfl <;> rfl
    | cons f M ih =>
      intro q k h
      simp only [List.foldl_cons]
      refine ih _ _ (.inr ?_)
      rcases h with ⟨rfl, rfl⟩ | rfl
      · rw [if_pos (show Option.all (fun x => decide (x < (f.1 : Int))) none = true from rfl)]
        by_cases h0 : 0 < f.1
        · rw [if_pos h0]
        · rw [if_neg h0, show f.1 = 0 by omega]
      · by_cases h0 : k < f.1
        · rw [if_pos h0, if_pos (by simpa using h0)]
        · rw [if_neg h0, if_neg (by simpa using h0)]
  exact key L none 0 (.inl ⟨rfl, rfl⟩)
theorem take_more {L : List Bfm} {i : Nat} {f : Bfm} (h : L[i]? = some f) : L.take (i + 1) = L.take i ++ [f] := by
  rw [List.take_add_one, h]; rfl
theorem mst_le {L : List Bfm} (h : ∀ f, f ∈ L → f.1 ≤ 27) : mst L ≤ 27 := by
  have key : ∀ (M : List Bfm) (k : Nat), k ≤ 27 → (∀ f, f ∈ M → f.1 ≤ 27) → M.foldl (fun q f => if q < f.1 then f.1 else q) k ≤ 27 := by
    intro M
    induction M with
    | nil => intro k hk _; exact hk
    | cons f M ih =>
      intro k hk hM
      simp only [List.foldl_cons]
      have := hM f (List.mem_cons_self ..)
      exact ih _ (by split <;> omega) (fun g hg => hM g (List.mem_cons_of_mem _ hg))
  exact key L 0 (by omega) h
set_option maxRecDepth 100000 in
set_option maxHeartbeats 1000000 in
theorem rbytes_any (B : Nat) (r : Nat) (v : Value) (vs : List Value) (L : List Bfm) (w : World) (h : Rg B w r v vs L) :
    Calls Try.prog 18 #[.pointer (some ⟨r, 0, none⟩)] w fun e w' => e = .returned (.tuple #[.int .i64 (tots L : Nat), .int .i64 (mst L : Nat)]) ∧ w' = w := by
  have HR : Hid (Rg B w r v vs L) := h
  have c0 := h.c0
  have hlen := h.fl.len
  obtain ⟨a, cap, rfl⟩ := own_shape h.fl.rows
  obtain ⟨N, eN⟩ : ∃ N, N = L.length := ⟨_, rfl⟩
  have HN : Hid (N = L.length) := eN
  rw [← eN] at c0 hlen
  clear h eN
  go_enter Try.func18, Try.ntmps18
  go_wp2_with fail
  go_loop [4, 5, 6] (fun x y c => ∃ i, i ≤ N ∧ x = .int .i64 ((tots (L.take i) : Nat) : Int) ∧ y = .int .i64 ((mst (L.take i) : Nat) : Int) ∧ c = .int .i64 ((i : Nat) : Int)) (fun _ _ c => N - (intOf c).toNat)
  case atStart => exact ⟨0, by omega, rfl, rfl, rfl⟩
  case round =>
    obtain ⟨i, hi, rfl, rfl, rfl⟩ := hrel
    by_cases hlt : i < N
    · obtain ⟨f, hf⟩ : ∃ f, L[i]? = some f := ⟨_, List.getElem?_eq_getElem (by have := HN.out; omega)⟩
      obtain ⟨ax, cx, hv, R⟩ := HR.out.fl.at_ hf
      have hr := HR.out.fl.rows
      have h27 := (HR.out.fl.small f (List.mem_of_getElem? hf)).1
      have hT : tots (L.take i) ≤ 27 * 4096 := by
        have h1 := tots_le (L := L.take i) (fun g hg => (HR.out.fl.small g (List.mem_of_mem_take hg)).1)
        have h2 : (L.take i).length ≤ 4096 := by simp; omega
        omega
      have HM : Hid (tots (L.take (i + 1)) = tots (L.take i) + f.1 ∧ mst (L.take (i + 1)) = if mst (L.take i) < f.1 then f.1 else mst (L.take i)) := by rw [take_more hf, tots_app, mst_app]; exact ⟨rfl, rfl⟩
      rw [← HN.out] at hr
      obtain ⟨g, rfl⟩ : ∃ g, a = some ⟨g, 0, none⟩ := by
        rcases hr.2 with ⟨_, h0⟩ | ⟨g, c', cur, e, _⟩
        · omega
        · simp at e; exact ⟨g, e.1⟩
      have cv : w.cell? ⟨g, i, none⟩ = some (.slice ax f.1 cx) := (hr.cellAt i (by omega)).trans hv
      have hI : (i : Int) < (N : Int) := by omega
      obtain ⟨k, ek⟩ : ∃ k, k = f.1 := ⟨_, rfl⟩
      rw [← ek] at cv h27 HM
      clear hr hv R hf ek
      generalize tots (L.take i) = t at *
      generalize mst (L.take i) = q at *
      by_cases hq : q < k
      · have hQ : (q : Int) < (k : Int) := by omega
        go_wp2_with fail
        go_round
        case rel =>
          refine ⟨i + 1, by omega, ?_, ?_, by go_num⟩
          · rw [HM.out.1]; go_num
          · rw [HM.out.2, if_pos hq]
        case measure => simp [intOf] <;> omega
      · have hQ : ¬ (q : Int) < (k : Int) := by omega
        go_wp2_with fail
        go_round
        case rel =>
          refine ⟨i + 1, by omega, ?_, ?_, by go_num⟩
          · rw [HM.out.1]; go_num
          · rw [HM.out.2, if_neg hq]
        case measure => simp [intOf] <;> omega
    · have hI : ¬ ((i : Int) < (N : Int)) := by omega
      have HE : Hid (L.take i = L) := List.take_of_length_le (by have := HN.out; omega)
      generalize hA : tots (L.take i) = t at *
      generalize hB : mst (L.take i) = q at *
      have HA : Hid (tots (L.take i) = t ∧ mst (L.take i) = q) := ⟨hA, hB⟩
      clear hA hB
      go_wp2_with fail
      go_ret2
      rw [HE.out] at HA
      rw [HA.out.1, HA.out.2]
      exact ⟨rfl, rfl⟩
end Go.Proofs.Ytohhidnockmkaaa
