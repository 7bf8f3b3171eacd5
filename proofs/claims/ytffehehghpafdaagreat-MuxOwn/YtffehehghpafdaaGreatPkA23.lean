/- Part 24 of the texts on which the proofs of layer 13 rest: contracts of Go functions. -/
import Derived.Test.YtffehehghpafdaaGreatPkA18
import Derived.Test.YtffehehghpafdaaGreatPkA22
namespace Go.Proofs.YtffehehghpafdaaGreat
set_option maxRecDepth 100000
open Go.RowKit Go.Maps Go.Sort Go.Shelf
set_option maxHeartbeats 1000000 in
theorem cloneU (B : Nat) (v : Value) (l : List Int) (w : World) (h : w.ownsRow B 30 1 v l.length (l.map encU)) (hn : l.length < 1000) :
    Calls Tryz.prog 28 #[v] w fun e w' => ∃ v', e = .returned v' ∧ Hid (w'.ownsRow w.heap.size 30 1 v' l.length (l.map encU) ∧ Below w.heap.size w w') := by
  rcases h.2 with ⟨rfl, hl⟩ | ⟨g, cap, cur, rfl, hB, hgg, h1, h2, h3, h4⟩
  · have hb : ∀ w, (binOp .eql 22 (.slice none 0 0) (.slice none 0 0)).run Tryz.prog w = .ok (.bool true) w := fun _ => rfl
    have HL : Hid (l = []) := List.eq_nil_of_length_eq_zero hl
    clear h hn hl
    go_enter Tryz.func28, Tryz.ntmps28
    go_wp2_with fail
    go_ret
    refine ⟨_, rfl, ?_⟩
    rw [HL.out]
    exact ⟨World.ownsRow_nil _ _ _ _, Below.refl _ _⟩
  · have hb : ∀ w, (binOp .eql 22 (.slice (some ⟨g, 0, none⟩) l.length cap) (.slice none 0 0)).run Tryz.prog w = .ok (.bool false) w := fun _ => rfl
    obtain ⟨i0, hi, hz0, hz1, hz2⟩ := info_parts info_u32
    have hown : (w.alloc (.cells #[] 30)).ownsRow w.heap.size 30 1 (.slice (some ⟨w.heap.size, 0, none⟩) 0 0) 0 [] := World.ownsRow_made w #[] 0 (Nat.le_refl _) (Nat.zero_le _) rfl
    have hbl : Below w.heap.size w (w.alloc (.cells #[] 30)) := (Below.refl _ _).alloc (Nat.le_refl _) _
    have hsz : w.heap.size ≤ (w.alloc (.cells #[] 30)).heap.size := by simp
    have hnews : ∀ j u, (l.map encU)[j]? = some u → (w.alloc (.cells #[] 30)).cell? ((⟨g, 0, none⟩ : Addr).add j) = some u := by
      intro j u hu
      rw [Go.WideShapes.add_plain, Nat.zero_add]
      refine (World.cell?_of_block ((Off.alloc [] w _).block g (Array.getElem?_eq_some_iff.1 hgg).1 (by simp))).trans (cell_at hgg ?_)
      have hj : j < l.length * 1 := by have := (List.getElem?_eq_some_iff.1 hu).1; simpa using this
      have : (cur.toList.take (l.length * 1))[j]? = (l.map encU)[j]? := by rw [h4]
      rw [List.getElem?_take_of_lt hj] at this
      rw [← hu, ← this]; simp
    have hl4 : (l.map encU).length = l.length * 1 := by simp
    have h1' : ∀ u ∈ l.map encU, u.oneCell' = true := by intro u hu; obtain ⟨y, _, rfl⟩ := List.mem_map.1 hu; rfl
    clear h h4 hgg
    generalize l.map encU = xs at *
    generalize l.length = n at *
    go_enter Tryz.func28, Tryz.ntmps28
    go_wp2_with (at_builtin; refine wpList_append_own _ rfl (.tmp 5) (.tmp 6) 22 rfl w.heap.size 30 i0 _ 1 4 Tryz.underlying22 hi hz0 hz1 hz2 rfl (by decide) _ 0 [] rfl hown ⟨g, 0, none⟩ n cap xs rfl hl4 hnews h1' (by unfold maxLen; omega) (by omega) hsz ?_)
    intro v3 w3 hown3 hgrow3 _
    have HO : Hid (w3.ownsRow w.heap.size 30 1 v3 n xs ∧ Below w.heap.size w w3) := ⟨by simpa using hown3, hbl.grown hgrow3 hsz (fun j hj => (hown.lt j hj).1)⟩
    clear hown3 hgrow3 hown hnews hl4 hbl
    go_wp2_with fail
    go_ret
    exact ⟨_, rfl, HO⟩
theorem BRow.belowB {k : IntKind} {w w' : World} {a : Option Addr} {len cap : Nat} {zs : List Int} (h : BRow k w a len cap zs) (hb : Below w.heap.size w w') : BRow k w' a len cap zs := by
  rcases h with h | ⟨x, h1, h2, h3, h4, h5, h6⟩
  · exact .inl h
  · exact .inr ⟨x, h1, h2, h3, h4, fun i hi => (World.cell?_of_block (hb.block _ (World.block_lt_of_cell? w _ (h5 i hi)))).trans (h5 i hi), h6⟩
structure Tu (w0 w : World) (va vb : Value) (ls : List Int) : Prop where
  ra : w.ownsRow w0.heap.size 30 1 va ls.length (ls.map encU)
  rb : w.ownsRow w0.heap.size 30 1 vb ls.length (ls.map encU)
  ne : ∀ k, va.ownBlock = some k → vb.ownBlock ≠ some k
  bel : Below w0.heap.size w0 w
theorem own_ltU {w : World} {B e size n k : Nat} {v : Value} {xs : List Value} (h : w.ownsRow B e size v n xs) (hk : v.ownBlock = some k) : B ≤ k ∧ k < w.heap.size := by
  rcases h.2 with ⟨rfl, _⟩ | ⟨g, cap, cur, rfl, hB, hgg, _⟩
  · cases hk
  · cases hk
    exact ⟨hB, (Array.getElem?_eq_some_iff.1 hgg).1⟩
theorem Tu.ab {w0 w w' : World} {va vb : Value} {ls : List Int} (ha : w.ownsRow w0.heap.size 30 1 va ls.length (ls.map encU)) (hb : w'.ownsRow w.heap.size 30 1 vb ls.length (ls.map encU)) (b1 : Below w0.heap.size w0 w) (b2 : Below w.heap.size w w') : Tu w0 w' va vb ls ∧ Tu w0 w' vb va ls := by
  have hn : ∀ k, va.ownBlock = some k → vb.ownBlock ≠ some k := fun k hk e => by
    have h1 := (own_ltU ha hk).2
    have h2 := (own_ltU hb e).1
    omega
  exact ⟨⟨own_below ha b2, own_baseU hb b1.size, hn, b1.trans (b2.mono b1.size)⟩, ⟨own_baseU hb b1.size, own_below ha b2, fun k hk e => hn k e hk, b1.trans (b2.mono b1.size)⟩⟩
theorem own_setVU {w : World} {B : Nat} {e : TypeId} {v : Value} {n g : Nat} {xs : List Value} (h : w.ownsRow B e 1 v n xs) (hv : v.ownBlock = some g) (j : Nat) (y : Value) : (w.setCell ⟨g, j, none⟩ y).ownsRow B e 1 v n (xs.set j y) := by
  refine ⟨by simpa using h.1, ?_⟩
  rcases h.2 with ⟨rfl, _⟩ | ⟨g', cap, cur, rfl, hB, hg, h1, h2, h3, h4⟩
  · cases hv
  · cases hv
    refine .inr ⟨g', cap, _, rfl, hB, heap_setCell_same _ _ _ _ _ _ hg, h1, h2, by simpa using h3, ?_⟩
    rw [Array.toList_setIfInBounds, List.take_set, h4]
structure Ga (w2 w : World) (v0 v : Value) (n : Nat) : Prop where
  row : ∃ xs, w.ownsRow 0 30 1 v n xs
  off : Off v0.ownBlock.toList w2 w
  blk : ∀ k, v.ownBlock = some k → v0.ownBlock = some k ∨ w2.heap.size ≤ k
theorem Ga.set {w2 w : World} {v0 v : Value} {n g : Nat} (h : Ga w2 w v0 v n) (hg : v.ownBlock = some g) (j : Nat) (y : Value) : Ga w2 (w.setCell ⟨g, j, none⟩ y) v0 v n := by
  obtain ⟨xs, hr⟩ := h.row
  refine ⟨⟨_, own_setVU hr hg j y⟩, ?_, h.blk⟩
  rcases h.blk g hg with e | e
  · exact h.off.trans ((Off.setCell g j w y).more (fun k hk => by simp at hk; subst hk; simp [e]))
  · refine ⟨h.off.os, h.off.tape, h.off.output, by simpa [World.setCell] using h.off.size, fun k hk hb => ?_⟩
    exact (heap_setCell_other w _ k y (by simp; omega)).trans (h.off.block k hk hb)
theorem Ga.app {w2 w w' : World} {v0 v v' : Value} {n : Nat} {ob : Obj} {xs : List Value} (h : Ga w2 w v0 v n) (hr : w'.ownsRow 0 30 1 v' (n + 1) xs) (g : (w.alloc ob).grownBy w' v.ownBlock) (hb : v'.ownBlock = v.ownBlock ∨ v'.ownBlock = some (w.heap.size + 1)) : Ga w2 w' v0 v' (n + 1) := by
  refine ⟨⟨xs, hr⟩, ⟨?_, ?_, ?_, ?_, fun k hk hn => ?_⟩, fun k hk => ?_⟩
  · exact g.os.trans h.off.os
  · exact g.tape.trans h.off.tape
  · exact g.output.trans h.off.output
  · have := g.size; have := h.off.size; simp at *; omega
  · have hkw : k < w.heap.size := Nat.lt_of_lt_of_le hk h.off.size
    have hk2 : v.ownBlock ≠ some k := fun e => by
      rcases h.blk k e with e2 | e2
      · exact hn (by simp [e2])
      · omega
    exact ((g.block k (by simp; omega) (fun e => hk2 e.symm)).trans ((Off.alloc [] w ob).block k hkw (by simp))).trans (h.off.block k hk hn)
  · rcases hb with hb | hb
    · exact h.blk k (hb ▸ hk)
    · rw [hb] at hk
      simp at hk
      have := h.off.size
      exact .inr (by omega)
set_option maxHeartbeats 8000000 in
theorem mown_core (a : Option Addr) (len cap : Nat) (zs : List Int) (w : World) (hr : BRow .u32 w a len cap zs) :
    Calls Tryz.prog 6 #[.slice a len cap] w fun e w' => e = .returned (.bool true) ∧ Below w.heap.size w w' := by
  have hA := awake16 w
  have HR : Hid (_) := hr
  clear hr
  obtain ⟨i0, hI, hz0, hz1, hz2⟩ := info_parts info_u32
  go_enter Tryz.func6, Tryz.ntmps6
  go_wp2_with (go_at_call 8; refine hA.mono ?_; rintro e w1 ⟨rfl, b1⟩)
  have hBu := build_any a len cap zs w1 (BRow.belowB HR.out b1)
  refine hBu.mono ?_
  rintro e w2 ⟨x, rfl, h2⟩
  obtain ⟨b, r, E, t, hW, _⟩ := h2.out
  obtain ⟨V, em⟩ := hW.mx
  have hle : (prts E).length ≤ 12 := by rw [prts_len]; have := hW.le; omega
  have hC : ∀ wx, Below w2.heap.size w2 wx → Calls Tryz.prog 24 #[.pointer (some ⟨b, 0, none⟩)] wx fun e w' => ∃ (v : Value), e = .returned v ∧ Hid (w'.ownsRow wx.heap.size 30 1 v (riseU (cdsM (prts E))).length ((riseU (cdsM (prts E))).map encU) ∧ Below wx.heap.size wx w') := by
    intro wx bx
    refine (mcodes_any b (prts E) 0 V wx ((hW.below bx).al.mx em) hle).mono ?_
    rintro e w' ⟨v, ls, rfl, h⟩
    obtain ⟨hp, hu, ho, _, hb⟩ := h.out
    have : ls = riseU (cdsM (prts E)) := up_one (hp.trans (riseU_perm _).symm) hu (riseU_up _)
    subst this
    exact ⟨v, rfl, ho, hb⟩
  have hX : ∀ wx, Below w2.heap.size w2 wx → wx.cell? ⟨x, 0, none⟩ = some (.pointer (some ⟨b, 0, none⟩)) := by
    intro wx bx
    obtain ⟨va, vm, vr, hb, _⟩ := (hW.below bx).cells
    exact cell_of_row wx x 0 _ _ _ hb
  have hll : (riseU (cdsM (prts E))).length ≤ 12 := by rw [(riseU_perm _).length_eq]; simpa [cdsM] using hle
  have HC : Hid (_) := And.intro hC (And.intro hX (b1.trans (hW.al.bel.mono b1.size)))
  generalize riseU (cdsM (prts E)) = ls at *
  have x0 := hX w2 (Below.refl _ _)
  have x0' := hX w2.drew (Below.drew (Below.refl _ _))
  have c0 := hC w2.drew (Below.drew (Below.refl _ _))
  clear hA b1 hBu h2 hW em hle hC hX
  go_wp2_with fail
  go_cut [5, 6] (fun va vb wx => ∃ a5 c5 a6 c6, va = .slice a5 ls.length c5 ∧ vb = .slice a6 ls.length c6 ∧ Hid (Tu w2 wx (.slice a5 ls.length c5) (.slice a6 ls.length c6) ls))
  case first =>
    go_region_with (go_at_call 24; first
      | (refine c1.mono ?_; rintro e w4 ⟨v4, rfl, h4⟩; obtain ⟨a4, k4, rfl, _⟩ := own_rowU h4.out.1)
      | (refine c0.mono ?_; rintro e w3 ⟨v3, rfl, h3⟩; obtain ⟨a3, k3, rfl, _⟩ := own_rowU h3.out.1; have bb3 : Below w2.heap.size w2 w3 := (Below.drew (Below.refl _ _)).trans h3.out.2; have x3 := HC.out.2.1 w3 bb3; have c1 := HC.out.1 w3 bb3))
    all_goals
      go_wp2_with fail
      go_meet
      first
        | exact ⟨_, _, _, _, rfl, rfl, (Tu.ab (w0 := w2) h3.out.1 h4.out.1 bb3 h4.out.2).1⟩
        | exact ⟨_, _, _, _, rfl, rfl, (Tu.ab (w0 := w2) h3.out.1 h4.out.1 bb3 h4.out.2).2⟩
  case rest =>
    obtain ⟨a5, c5, a6, c6, rfl, rfl, HT⟩ := hcut
    have hK := cloneU _ _ ls wc HT.out.rb (by omega)
    clear x0 x0' c0
    go_wp2_with (go_at_call 28; refine hK.mono ?_; rintro e w7 ⟨v7, rfl, h7⟩; obtain ⟨a7, c7, rfl, r7, q7⟩ := own_rowU h7.out.1)
    obtain ⟨a6', c6', e6, r6, q6⟩ := own_rowU HT.out.rb
    obtain ⟨rfl, rfl⟩ : a6 = a6' ∧ c6 = c6' := by simpa using e6
    have H7 : Hid (∀ wr v m, Ga w7 wr (.slice a5 ls.length c5) v m → RowU wr a6 ls ∧ RowU wr a7 ls ∧ Below w2.heap.size w2 wr) := by
      intro wr v m hG
      have b7 := h7.out.2
      have hne : ∀ k, (Value.slice a5 ls.length c5).ownBlock = some k → w2.heap.size ≤ k ∧ k < wc.heap.size := fun k hk => own_ltU HT.out.ra hk
      refine ⟨(r6.below b7).off hG.off (fun y hy hm => ?_), r7.off hG.off (fun y hy hm => ?_), ?_⟩
      · simp at hm
        exact HT.out.ne _ hm (q6 y hy).2
      · simp at hm
        have h1 := (hne _ hm).2
        have h2 := (q7 y hy).1
        omega
      · have b2 := HT.out.bel.trans (b7.mono HT.out.bel.size)
        exact hG.off.below b2 (fun k hk => by simp at hk; exact (hne k hk).1) b2.size
    have G0 : Hid (Ga w7 w7 (.slice a5 ls.length c5) (.slice a5 ls.length c5) ls.length) := ⟨⟨_, own_below (own_baseU HT.out.ra (Nat.zero_le _)) h7.out.2⟩, Off.refl _ _, fun k hk => .inl hk⟩
    have HRo : Hid (_) := HT.out.ra.2
    obtain ⟨n, en⟩ : ∃ n, n = ls.length := ⟨_, rfl⟩
    have HN : Hid (n = ls.length) := en
    rw [← en] at hll H7 G0 ⊢
    clear hK h7 r7 q7 e6 r6 q6 en HT HRo
    go_loopw [8, 33] (fun _ c wr => ∃ i : Nat, i ≤ n ∧ c = .int .i64 ((i : Nat) : Int) ∧ Hid (Ga w7 wr (.slice a5 n c5) (.slice a5 n c5) n)) (fun _ c _ => n - natU c)
    case atStart => exact ⟨0, by omega, rfl, G0⟩
    case round =>
      obtain ⟨i, hi, rfl, HG⟩ := hrel
      clear G0
      by_cases hlt : i < n
      · obtain ⟨xs, hrow⟩ := HG.out.row
        rcases hrow.2 with ⟨_, hn⟩ | ⟨g, cp, cur, e, _, hgg, h1, h2, h3, h4⟩
        · omega
        · obtain ⟨rfl, rfl⟩ : a5 = some ⟨g, 0, none⟩ ∧ c5 = cp := by simpa using e
          have hcl : i < cur.size := by omega
          obtain ⟨y, hy⟩ : ∃ y, wr.cell? ⟨g, i, none⟩ = some y := ⟨cur[i], (cell_of_row wr g i cur _ _ hgg).trans (Array.getElem?_eq_getElem hcl)⟩
          have hfz : wr.frozen? ⟨g, i, none⟩ = false := frozen_of_row wr g i _ _ hgg
          have hlt' : (i : Int) < (n : Int) := by omega
          clear hrow hgg h1 h2 h3 h4 e hcl
          go_wp2_with fail
          go_roundw
          case rel => exact ⟨i + 1, by omega, by go_num, HG.out.set rfl i _⟩
          case measure => simp [natU] <;> omega
      · have hlt' : ¬ (i : Int) < (n : Int) := by omega
        go_wp2_with fail
        go_loopw [5, 9] (fun v c wz => ∃ (k m : Nat) (ad : Option Addr), k ≤ 20 ∧ c = .int .i64 ((k : Nat) : Int) ∧ v = .slice ad (n + k) m ∧ Hid (Ga w7 wz (.slice a5 n c5) (.slice ad (n + k) m) (n + k))) (fun _ c _ => 20 - natU c)
        case atStart => exact ⟨0, c5, a5, by omega, rfl, rfl, HG⟩
        case round =>
          obtain ⟨k, m, ad, hk, rfl, rfl, HZ⟩ := hrel
          clear HG
          by_cases hk20 : k < 20
          · obtain ⟨xs, hrow⟩ := HZ.out.row
            have hk' : (k : Int) < 20 := by omega
            have hrow' := hrow.alloc (.cells #[.int .u32 78] 30)
            clear hrow
            go_wp2_with (at_builtin; refine wpList_append_own_at _ rfl (.tmp 44) (.tmp 45) 22 rfl 0 30 i0 (.int .u32 0) 1 4 Tryz.underlying22 hI hz0 hz1 hz2 rfl (by decide) (.slice ad (n + k) m) (n + k) xs rfl hrow' ⟨wr.heap.size, 0, none⟩ 1 1 [.int .u32 78] rfl rfl (one_cellG (heap_alloc_new wr _)) (by intro u hu; simp at hu; subst hu; rfl) (by unfold maxLen; omega) (by omega) (Nat.zero_le _) ?_)
            intro v8 w8 o8 g8 _ b8
            obtain ⟨x8, y8, rfl, _, _⟩ := own_some1M o8
            have HG8 : Hid (_) := HZ.out.app o8 g8 b8
            clear hrow' o8 g8 b8
            go_wp2_with fail
            go_roundw
            case rel => exact ⟨k + 1, y8, some ⟨x8, 0, none⟩, by omega, by go_num, rfl, HG8⟩
            case measure => simp [natU] <;> omega
          · obtain rfl : k = 20 := by omega
            obtain ⟨r6, r7, b8⟩ := H7.out wr _ _ HZ.out
            have Q8 := equalU a6 a7 c6 c7 ls wr r6 r7 (by have := HN.out; omega)
            rw [← HN.out] at Q8
            have hC8 : ∀ m, Calls Tryz.prog 24 #[.pointer (some ⟨b, 0, none⟩)] (wr.drewN m) _ := fun m => HC.out.1 (wr.drewN m) (below_drewNB' b8 m)
            have hX8 : ∀ m, (wr.drewN m).cell? ⟨x, 0, none⟩ = some (.pointer (some ⟨b, 0, none⟩)) := fun m => HC.out.2.1 (wr.drewN m) (below_drewNB' b8 m)
            have H8 : Hid (_) := And.intro b8 r7
            have hge : (20 : Int) ≤ ((n + 20 : Nat) : Int) := by omega
            have hge' : (20 : Int) ≤ (n : Int) + 20 := by omega
            clear r6 r7 b8 HZ hk20
            go_wp2_with (first
              | (go_at_call 29; first | (refine Q9.mono ?_; rintro e w10 ⟨rfl, m10, rfl⟩) | (refine Q8.mono ?_; rintro e w9 ⟨rfl, m9, rfl⟩; have x9 := hX8 m9; have c9 := hC8 m9))
              | (go_at_call 24; refine c9.mono ?_; rintro e w9 ⟨v9, rfl, h9⟩; obtain ⟨a9, k9, rfl, r9, _⟩ := own_rowU h9.out.1; have Q9 := equalU a9 a7 k9 c7 ls w9 r9 ((H8.out.2.below (below_drewNB' (Below.refl _ _) m9)).below h9.out.2) (by have := HN.out; omega); rw [← HN.out] at Q9 ⊢))
            go_ret
            have b9 : Below w2.heap.size w2 w9 := (below_drewNB' H8.out.1 m9).trans (h9.out.2.mono (Nat.le_trans H8.out.1.size (Nat.le_refl _)))
            exact ⟨rfl, below_drewNB' (HC.out.2.2.trans (b9.mono HC.out.2.2.size)) m10⟩
theorem muxOwn_walk (a0 : Option Addr) (len0 cap0 : Nat) (z0 : List Int) (w : World) (w0 : BRow .u32 w a0 len0 cap0 z0) :
    Calls Tryz.prog 6 #[.slice a0 len0 cap0] w fun e w' => e = .returned (.bool true) ∧ Below w.heap.size w w' := mown_core a0 len0 cap0 z0 w w0
end Go.Proofs.YtffehehghpafdaaGreat
