/- BagPlays: every call. -/
import Derived.Test.YtohhidnockmkaaaAw15
import Derived.Test.YtohhidnockmkaaaRbg
import Derived.Test.YtohhidnockmkaaaOp15
namespace Go.Proofs.Ytohhidnockmkaaa
open Go.RowKit Go.Maps

/-- Both bags side by side, with the same frames. -/
structure Tb (B : Nat) (w : World) (b m r : Nat) (L : List Bfm) (v v2 : Value) : Prop where
  pg : ∃ vs p, Bg B w b m v vs p L
  rf : ∃ vs, Rg B w r v2 vs L
  ne : ∀ x, v.ownBlock = some x → v2.ownBlock ≠ some x
theorem Tb.below {B : Nat} {w w' : World} {b m r : Nat} {L : List Bfm} {v v2 : Value} (h : Tb B w b m r L v v2) (k : Below w.heap.size w w') : Tb B w' b m r L v v2 := by
  obtain ⟨vs, p, G⟩ := h.pg
  obtain ⟨vs2, R⟩ := h.rf
  exact ⟨⟨vs, p, G.below k⟩, ⟨vs2, R.below k⟩, h.ne⟩
theorem Fl.own_lt {B : Nat} {w : World} {v : Value} {vs : List Value} {L : List Bfm} (h : Fl B w v vs L) {x : Nat} (hx : v.ownBlock = some x) : x < w.heap.size := (h.rows.lt x hx).2
theorem Tb_ref {B : Nat} {w w' : World} {b m r : Nat} {v v2 : Value} {vs vs2 : List Value} {p : Option Addr} {L L2 : List Bfm} (G : Bg B w b m v vs p L) (R : Rg B w r v2 vs2 L2) (ne : ∀ x, v.ownBlock = some x → v2.ownBlock ≠ some x) (o : Off (b :: m :: v.ownBlock.toList) w w') : Rg B w' r v2 vs2 L2 := by
  refine R.off o fun y hy _ => ?_
  simp only [List.mem_cons, Option.mem_toList] at hy
  rcases hy with rfl | rfl | hy
  · refine ⟨tdiff G.at_ R.at_ (by decide), fun e => ?_, fun c f hc => tdiff G.at_ hc (by decide) rfl⟩
    obtain ⟨c, hc⟩ := own_type R.fl.rows e
    exact tdiff G.at_ hc (by decide) rfl
  · refine ⟨tdiff G.met.at_ R.at_ (by decide), fun e => ?_, fun c f hc => tdiff G.met.at_ hc (by decide) rfl⟩
    obtain ⟨c, hc⟩ := own_type R.fl.rows e
    exact tdiff G.met.at_ hc (by decide) rfl
  · obtain ⟨c, hc⟩ := own_type G.fl.rows hy
    exact ⟨tdiff hc R.at_ (by decide), ne y hy, fun c' f' hc' => tdiff hc hc' (by decide) rfl⟩
theorem Tb_prog {B : Nat} {w w' : World} {b m r : Nat} {v v2 : Value} {vs vs2 : List Value} {p : Option Addr} {L L2 : List Bfm} (G : Bg B w b m v vs p L) (R : Rg B w r v2 vs2 L2) (ne : ∀ x, v.ownBlock = some x → v2.ownBlock ≠ some x) (o : Off (r :: v2.ownBlock.toList) w w') : Bg B w' b m v vs p L := by
  refine G.off o fun y hy _ => ?_
  simp only [List.mem_cons, Option.mem_toList] at hy
  rcases hy with rfl | hy
  · refine ⟨tdiff R.at_ G.at_ (by decide), tdiff R.at_ G.met.at_ (by decide), fun e => ?_, fun c f => ⟨fun hc => tdiff R.at_ hc (by decide) rfl, fun hc => tdiff R.at_ hc (by decide) rfl⟩⟩
    obtain ⟨c, hc⟩ := own_type G.fl.rows e
    exact tdiff R.at_ hc (by decide) rfl
  · obtain ⟨c, hc⟩ := own_type R.fl.rows hy
    exact ⟨tdiff hc G.at_ (by decide), tdiff hc G.met.at_ (by decide), fun e => ne y e hy, fun c' f' => ⟨fun hc' => tdiff hc hc' (by decide) rfl, fun hc' => tdiff hc hc' (by decide) rfl⟩⟩
/-- A block that is neither bag's is kept by Put. -/
theorem Tb_keep {B : Nat} {w w' : World} {b m q : Nat} {v : Value} {vs : List Value} {p : Option Addr} {L : List Bfm} {c : Array Value} (G : Bg B w b m v vs p L) (o : Off (b :: m :: v.ownBlock.toList) w w') (hq : w.heap[q]? = some (.cells c 33 (0, 0))) : w'.heap[q]? = some (.cells c 33 (0, 0)) := by
  refine (o.block q (Array.getElem?_eq_some_iff.1 hq).1 fun hm => ?_).trans hq
  simp only [List.mem_cons, Option.mem_toList] at hm
  rcases hm with rfl | rfl | hm
  · exact tdiff hq G.at_ (by decide) rfl
  · exact tdiff hq G.met.at_ (by decide) rfl
  · obtain ⟨c', hc'⟩ := own_type G.fl.rows hm
    exact tdiff hq hc' (by decide) rfl
theorem nilB (w : World) : Row8 w none 0 0 (fun _ => 0) := ⟨fun i hi => by omega, fun _ => ⟨rfl, rfl⟩, (fun x hx => by cases hx), Nat.le_refl _⟩
set_option maxRecDepth 100000 in
set_option maxHeartbeats 4000000 in
theorem plays15 (a : Option Addr) (len cap : Nat) (w : World) (hO : OpRow w a len) :
    Calls Try.prog 3 #[.slice a len cap] w fun e w' => e = .returned (.bool true) ∧ Below w.heap.size w w' := by
  obtain ⟨i0, hi0, hz0, hz1, hz2⟩ := info_parts info_u8
  have hbd := build0B
  have hlen := hO.1
  have HO : Hid (OpRow w a len) := hO
  clear hO
  go_enter Try.func3, Try.ntmps3
  go_wp2_with fail
  refine (awake15 w).mono ?_
  rintro e w1 ⟨rfl, b1⟩
  have B1 : Hid (_) := b1
  clear b1
  go_wp2_with fail
  refine (bnew_any w1).mono ?_
  rintro e w2 ⟨rfl, H2⟩
  obtain ⟨b, eb⟩ : ∃ b, b = w1.heap.size + 1 := ⟨_, rfl⟩
  obtain ⟨m, em⟩ : ∃ m, m = w1.heap.size := ⟨_, rfl⟩
  rw [← eb]
  have K2 : Hid (Below w.heap.size w w2 ∧ Bg m w2 b m (.slice none 0 0) [] none [] ∧ w.heap.size ≤ m ∧ m ≤ w2.heap.size) := by
    obtain ⟨c1, c2, c3⟩ := H2.out
    refine ⟨B1.out.trans (c1.mono B1.out.size), by rw [eb, em]; exact c2, by rw [em]; exact B1.out.size, by rw [em]; exact c1.size⟩
  clear H2 B1 eb em
  have K3 : Hid (Below w.heap.size w (w2.alloc (.cells #[.slice none 0 0] 29)) ∧ Tb m (w2.alloc (.cells #[.slice none 0 0] 29)) b m w2.heap.size [] (.slice none 0 0) (.slice none 0 0) ∧ w.heap.size ≤ m) := by
    obtain ⟨c1, c2, c3, c4⟩ := K2.out
    have bA : Below w2.heap.size w2 (w2.alloc (.cells #[.slice none 0 0] 29)) := (Below.refl _ _).alloc (Nat.le_refl _) _
    exact ⟨c1.trans (bA.mono c1.size), ⟨⟨_, _, c2.below bA⟩, ⟨[], heap_alloc_new w2 _, ⟨⟨rfl, .inl ⟨rfl, rfl⟩⟩, fun i f hi => by simp at hi, fun f hf => by simp at hf, by simp⟩, c4⟩, fun x hx => by cases hx⟩, c3⟩
  obtain ⟨r, er⟩ : ∃ r, r = w2.heap.size := ⟨_, rfl⟩
  rw [← er] at K3
  go_wp2_with fail
  rw [← er]
  clear er K2
  go_loopw [5] (fun c wr => ∃ i L v v2, i ≤ 5000 ∧ c = .int .i64 ((i : Nat) : Int) ∧ Below w.heap.size w wr ∧ Tb m wr b m r L v v2 ∧ w.heap.size ≤ m) (fun c _ => 5000 - (intOf c).toNat)
  case atStart => exact ⟨0, _, _, _, by omega, rfl, K3.out.1, K3.out.2.1, K3.out.2.2⟩
  case round =>
    clear K3
    obtain ⟨i, L, v, v2, hi, rfl, hb, T, hm⟩ := hrel
    have HT : Hid (Below w.heap.size w wr ∧ Tb m wr b m r L v v2 ∧ w.heap.size ≤ m) := ⟨hb, T, hm⟩
    clear hb T hm
    by_cases hlt : i < len ∧ i < 5000
    · obtain ⟨bo, off, rfl, hbo, hEl⟩ := HO.out.2 (by omega)
      obtain ⟨k, N, p, z, x, l, c, bs, c0, c1, c2, c3, c4, R, hl, hp, hz, hlow⟩ := hEl i hlt.1
      have d0 : wr.cell? ⟨bo, off + i * 5, none⟩ = some (.int .i64 k) := (HT.out.1.cell hbo).trans c0
      have d1 : wr.cell? ⟨bo, off + i * 5 + 1, none⟩ = some (.int .i64 N) := (HT.out.1.cell hbo).trans c1
      have d2 : wr.cell? ⟨bo, off + i * 5 + 2, none⟩ = some (.int .i64 p) := (HT.out.1.cell hbo).trans c2
      have d3 : wr.cell? ⟨bo, off + i * 5 + 3, none⟩ = some (.int .u32 (z : Nat)) := (HT.out.1.cell hbo).trans c3
      have d4 : wr.cell? ⟨bo, off + i * 5 + 4, none⟩ = some (.slice x l c) := (HT.out.1.cell hbo).trans c4
      have I1 : (i : Int) < (len : Int) := by omega
      have I2 : (i : Int) < 5000 := by omega
      have HR : Hid (_) := R
      clear c0 c1 c2 c3 c4 hEl R HO
      go_upto_region 9 with fail
      obtain ⟨wo, ewo⟩ : ∃ wo, wo = wr.alloc (.cells #[.int .i64 k, .int .i64 N, .int .i64 p, .int .u32 (z : Nat), .slice x l c] 33) := ⟨_, rfl⟩
      rw [← ewo]
      have bo_ : Below wr.heap.size wr wo := by rw [ewo]; exact (Below.refl _ _).alloc (Nat.le_refl _) _
      have qo : wo.heap[wr.heap.size]? = some (.cells #[.int .i64 k, .int .i64 N, .int .i64 p, .int .u32 (z : Nat), .slice x l c] 33 (0, 0)) := by rw [ewo]; exact heap_alloc_new wr _
      have HT2 : Hid (Below w.heap.size w wo ∧ Tb m wo b m r L v v2 ∧ w.heap.size ≤ m) := ⟨HT.out.1.trans (bo_.mono HT.out.1.size), HT.out.2.1.below bo_, HT.out.2.2⟩
      obtain ⟨q, eq⟩ : ∃ q, wr.heap.size = q := ⟨_, rfl⟩
      rw [eq] at qo
      rw [eq]
      clear ewo bo_ HT d0 d1 d2 d3 d4 eq hbo
      have HQ : Hid (_) := qo
      have x0 : wo.cell? ⟨q, 0, none⟩ = some (.int .i64 k) := cell_of_row wo q 0 _ _ _ qo
      clear qo
      have qx : Hid (∀ wx, Below wo.heap.size wo wx → wx.heap[q]? = some (.cells #[.int .i64 k, .int .i64 N, .int .i64 p, .int .u32 (z : Nat), .slice x l c] 33 (0, 0))) := fun wx hx => (hx.block q (Array.getElem?_eq_some_iff.1 HQ.out).1).trans HQ.out
      by_cases k1 : k = 1
      · subst k1
        have hby := HR.out.byte
        have x4 : wo.cell? ⟨q, 4, none⟩ = some (.slice x l c) := cell_of_row wo q 4 _ _ _ HQ.out
        have hbelA : Below wo.heap.size wo (wo.alloc (.cells #[] 5)) := (Below.refl _ _).alloc (Nat.le_refl _) _
        have y4 : (wo.alloc (.cells #[] 5)).cell? ⟨q, 4, none⟩ = some (.slice x l c) := cell_of_row _ q 4 _ _ _ (qx.out _ hbelA)
        have R0 : Row8 (wo.alloc (.cells #[] 5)) x l c bs := (HR.out.below HT2.out.1).below hbelA
        have O0 := own0B wo.heap.size bs wo (Nat.le_refl _)
        have hszA := hbelA.size
        go_wp2_with (at_builtin; refine wpList_append_row8 rfl (.tmp 48) (.tmp 50) 31 rfl wo.heap.size 5 i0 (.int .u8 0) Try.underlying31 hi0 hz0 hz1 hz2 rfl _ 0 _ rfl O0 x l c bs rfl R0 (by unfold maxLen; omega) (by omega) hszA ?_)
        intro v3 w3 hown3 hgrow3
        have b3 : Below wo.heap.size wo w3 := hbelA.grown hgrow3 hszA (fun k hk => (O0.lt k hk).1)
        replace hown3 : w3.ownsRow wo.heap.size 5 1 v3 l (CB bs l) := by simpa [CB] using hown3
        obtain ⟨a3, c3, rfl, R3⟩ := own_row8 hown3 hby
        obtain ⟨⟨vs, p0, G⟩, ⟨vs2, Rr⟩, ne⟩ := HT2.out.2.1
        have na3 : ∀ y, a3 = some y → y.block ≠ m := by
          intro y hy
          rcases hown3.2 with ⟨e, _⟩ | ⟨g, c, cur, e, hg, _⟩
          · simp at e; rw [e.1] at hy; cases hy
          · simp at e; rw [e.1] at hy; cases hy; have := G.met.lt; show g ≠ m; omega
        have HT3 : Hid (Below w.heap.size w w3 ∧ Tb m w3 b m r L v v2 ∧ w.heap.size ≤ m) := ⟨HT2.out.1.trans (b3.mono HT2.out.1.size), HT2.out.2.1.below b3, HT2.out.2.2⟩
        have q3 := qx.out _ b3
        have x4' : w3.cell? ⟨q, 4, none⟩ = some (.slice x l c) := cell_of_row w3 q 4 _ _ _ q3
        have HG : Hid (Bg m w3 b m v vs p0 L ∧ Rg m w3 r v2 vs2 L ∧ (∀ x, v.ownBlock = some x → v2.ownBlock ≠ some x) ∧ Row8 w3 a3 l c3 bs ∧ (∀ y, a3 = some y → y.block ≠ m) ∧ w3.heap[q]? = some (.cells #[.int .i64 1, .int .i64 N, .int .i64 p, .int .u32 (z : Nat), .slice x l c] 33 (0, 0))) := ⟨G.below b3, Rr.below b3, ne, R3, na3, q3⟩
        clear hown3 hgrow3 O0 R0 hbelA hszA b3 G Rr ne na3 q3 R3 y4 x4 qx HQ HT2 x0
        by_cases h27 : 27 < l
        · have hP := bput_long b a3 l c3 w3 h27
          have hQ := rput_long r x l c w3 h27
          clear HG
          go_wp2_with (first | (go_at_call 10; refine hP.mono ?_; rintro e w' ⟨rfl, hw⟩; rw [hw]; clear hw) | (go_at_call 11; refine hQ.mono ?_; rintro e w' ⟨rfl, hw⟩; rw [hw]; clear hw))
          clear hP hQ x4'
          obtain ⟨⟨vsz, pz, Gz⟩, ⟨vs2z, Rz⟩, _⟩ := HT3.out.2.1
          have hLz : ∀ wx, Below w3.heap.size w3 wx → Calls Try.prog 16 #[.pointer (some ⟨b, 0, none⟩)] wx fun e w' => ∃ u, e = .returned u ∧ u = .int .i64 (((L).length : Nat) : Int) ∧ w' = wx := fun wx hx => ((blen_any _ _ _ _ _ _ _ wx (Gz.below hx)).mono fun e w' h => ⟨_, h.1, rfl, h.2⟩)
          have rcz := Rz.c0
          obtain ⟨aR, cR, eR⟩ := own_shape Rz.fl.rows
          rw [eR] at rcz
          have hJz : ((L).length : Int) = ((L).length : Int) := rfl
          clear Gz Rz eR hJz
          generalize hNz : (L).length = NZ at *
          clear hNz
          go_wp2_with fail
          go_region_held3 (fun w' => w'.cell? ⟨r, 0, none⟩ = some (.slice aR NZ cR)) (assumption) (first
            | (refine step_callB 16 #[.tmp 130] #[24] rfl (by kernel_rfl) #[.pointer (some ⟨b, 0, none⟩)] (by kernel_rfl) (hLz _ (by repeat (first | with_reducible assumption | with_reducible refine below_drewNB ?_ _ | with_reducible refine Below.drew ?_ | with_reducible refine belowAB ?_ (Nat.le_refl _) _ | with_reducible exact Below.refl _ _))) ?_; rintro _ w9 ⟨rfl, rfl⟩))
          all_goals
            clear hLz rcz
            go_wp2_with fail
            go_roundw
            case rel => exact ⟨i + 1, _, _, _, by omega, by go_num, below_drewNB HT3.out.1 _, HT3.out.2.1.below (below_drewNB (Below.refl _ _) _), HT3.out.2.2⟩
            case measure => simp [intOf] <;> omega
        · by_cases hf : L.length = 4096
          · have hP := bput_full m b m v vs p0 L a3 l c3 w3 HG.out.1 (by omega) hf
            have hQ := rput_full m r v2 vs2 L x l c w3 HG.out.2.1 (by omega) hf
            clear HG hf
            go_wp2_with (first | (go_at_call 10; refine hP.mono ?_; rintro e w' ⟨rfl, hw⟩; rw [hw]; clear hw) | (go_at_call 11; refine hQ.mono ?_; rintro e w' ⟨rfl, hw⟩; rw [hw]; clear hw))
            clear hP hQ x4'
            obtain ⟨⟨vsz, pz, Gz⟩, ⟨vs2z, Rz⟩, _⟩ := HT3.out.2.1
            have hLz : ∀ wx, Below w3.heap.size w3 wx → Calls Try.prog 16 #[.pointer (some ⟨b, 0, none⟩)] wx fun e w' => ∃ u, e = .returned u ∧ u = .int .i64 (((L).length : Nat) : Int) ∧ w' = wx := fun wx hx => ((blen_any _ _ _ _ _ _ _ wx (Gz.below hx)).mono fun e w' h => ⟨_, h.1, rfl, h.2⟩)
            have rcz := Rz.c0
            obtain ⟨aR, cR, eR⟩ := own_shape Rz.fl.rows
            rw [eR] at rcz
            have hJz : ((L).length : Int) = ((L).length : Int) := rfl
            clear Gz Rz eR hJz
            generalize hNz : (L).length = NZ at *
            clear hNz
            go_wp2_with fail
            go_region_held3 (fun w' => w'.cell? ⟨r, 0, none⟩ = some (.slice aR NZ cR)) (assumption) (first
              | (refine step_callB 16 #[.tmp 130] #[24] rfl (by kernel_rfl) #[.pointer (some ⟨b, 0, none⟩)] (by kernel_rfl) (hLz _ (by repeat (first | with_reducible assumption | with_reducible refine below_drewNB ?_ _ | with_reducible refine Below.drew ?_ | with_reducible refine belowAB ?_ (Nat.le_refl _) _ | with_reducible exact Below.refl _ _))) ?_; rintro _ w9 ⟨rfl, rfl⟩))
            all_goals
              clear hLz rcz
              go_wp2_with fail
              go_roundw
              case rel => exact ⟨i + 1, _, _, _, by omega, by go_num, below_drewNB HT3.out.1 _, HT3.out.2.1.below (below_drewNB (Below.refl _ _) _), HT3.out.2.2⟩
              case measure => simp [intOf] <;> omega
          · have hlt4 : L.length < 4096 := by have := HG.out.1.fl.len; omega
            have hP := bput_any m b m v vs p0 L a3 l c3 bs w3 HG.out.1 HG.out.2.2.2.1 HG.out.2.2.2.2.1 (by omega) hlt4 (Nat.le_of_lt HG.out.1.met.lt)
            go_wp2_with fail
            refine hP.mono ?_
            rintro e w4 ⟨rfl, H4⟩
            obtain ⟨g4, cap4, y4, p4, o4, G4, hg4⟩ := H4.out
            obtain ⟨G3, Rr3, ne, R3, na3, q3⟩ := HG.out
            have Rr4 := Tb_ref G3 Rr3 ne o4
            have q4 := Tb_keep G3 o4 q3
            have b4 : Below w.heap.size w w4 := HT3.out.1.trans ((G3.after o4 (Below.refl _ _) (Nat.le_of_lt G3.met.lt)).mono HT3.out.2.2)
            have ne4 : ∀ x, (Value.slice (some ⟨g4, 0, none⟩) (L.length + 1) cap4).ownBlock = some x → v2.ownBlock ≠ some x := by
              intro x hx e
              simp only [Value.ownBlock, Option.some.injEq] at hx
              subst hx
              rcases hg4 with h | h
              · exact ne _ h e
              · have := Rr3.fl.own_lt e; omega
            have hQ := rput_any m r v2 vs2 L x l c bs w4 Rr4 (HR.out.below b4) (by omega) hlt4 (Nat.le_of_lt G4.met.lt)
            have z4 : w4.cell? ⟨q, 4, none⟩ = some (.slice x l c) := cell_of_row w4 q 4 _ _ _ q4
            have HG4 : Hid (_) := And.intro G4 (And.intro Rr4 (And.intro ne4 b4))
            clear hP H4 o4 G4 hg4 G3 Rr3 ne R3 na3 q3 Rr4 q4 b4 ne4 HG x4'
            go_wp2_with fail
            refine hQ.mono ?_
            rintro e w5 ⟨rfl, H5⟩
            have HT5 : Hid (Below w.heap.size w w5 ∧ (∃ v v2, Tb m w5 b m r (L ++ [(l, bs)]) v v2) ∧ w.heap.size ≤ m) := by
              obtain ⟨g5, cap5, y5, o5, R5, hg5⟩ := H5.out
              obtain ⟨G4, Rr4, ne4, b4⟩ := HG4.out
              have G5 := Tb_prog G4 Rr4 ne4 o5
              refine ⟨o5.below b4 (fun y hy => ?_) b4.size, ⟨_, _, ⟨_, _, G5⟩, ⟨_, R5⟩, fun x hx e => ?_⟩, HT3.out.2.2⟩
              · simp only [List.mem_cons, Option.mem_toList] at hy
                have := HT3.out.2.2
                rcases hy with rfl | hy
                · have := Rr4.rB; omega
                · have := (Rr4.fl.rows.lt y hy).1; omega
              · simp only [Value.ownBlock, Option.some.injEq] at hx e
                subst hx
                rcases hg5 with h | h
                · rw [e] at h; exact ne4 _ rfl h
                · have : g4 < w4.heap.size := G4.fl.own_lt rfl
                  omega
            obtain ⟨v5, v25, T5⟩ := HT5.out.2.1
            have HT6 : Hid (Below w.heap.size w w5 ∧ Tb m w5 b m r (L ++ [(l, bs)]) v5 v25 ∧ w.heap.size ≤ m) := ⟨HT5.out.1, T5, HT5.out.2.2⟩
            clear hQ H5 HG4 HT3 HT5 T5 z4
            obtain ⟨LX, hLX⟩ : ∃ LX, LX = L ++ [(l, bs)] := ⟨_, rfl⟩
            rw [← hLX] at HT6
            clear hLX
            obtain ⟨⟨vsz, pz, Gz⟩, ⟨vs2z, Rz⟩, _⟩ := HT6.out.2.1
            have hLz : ∀ wx, Below w5.heap.size w5 wx → Calls Try.prog 16 #[.pointer (some ⟨b, 0, none⟩)] wx fun e w' => ∃ u, e = .returned u ∧ u = .int .i64 (((LX).length : Nat) : Int) ∧ w' = wx := fun wx hx => ((blen_any _ _ _ _ _ _ _ wx (Gz.below hx)).mono fun e w' h => ⟨_, h.1, rfl, h.2⟩)
            have rcz := Rz.c0
            obtain ⟨aR, cR, eR⟩ := own_shape Rz.fl.rows
            rw [eR] at rcz
            have hJz : ((LX).length : Int) = ((LX).length : Int) := rfl
            clear Gz Rz eR hJz
            generalize hNz : (LX).length = NZ at *
            clear hNz
            go_wp2_with fail
            go_region_held3 (fun w' => w'.cell? ⟨r, 0, none⟩ = some (.slice aR NZ cR)) (assumption) (first
              | (refine step_callB 16 #[.tmp 130] #[24] rfl (by kernel_rfl) #[.pointer (some ⟨b, 0, none⟩)] (by kernel_rfl) (hLz _ (by repeat (first | with_reducible assumption | with_reducible refine below_drewNB ?_ _ | with_reducible refine Below.drew ?_ | with_reducible refine belowAB ?_ (Nat.le_refl _) _ | with_reducible exact Below.refl _ _))) ?_; rintro _ w9 ⟨rfl, rfl⟩))
            all_goals
              clear hLz rcz
              go_wp2_with fail
              go_roundw
              case rel => exact ⟨i + 1, _, _, _, by omega, by go_num, below_drewNB HT6.out.1 _, HT6.out.2.1.below (below_drewNB (Below.refl _ _) _), HT6.out.2.2⟩
              case measure => simp [intOf] <;> omega
      · by_cases k2 : k = 2
        · subst k2
          have x1 : wo.cell? ⟨q, 1, none⟩ = some (.int .i64 N) := cell_of_row wo q 1 _ _ _ HQ.out
          obtain ⟨⟨vs, p0, G⟩, ⟨vs2, Rr⟩, ne⟩ := HT2.out.2.1
          by_cases hN : N < 0 ∨ (L.length : Int) ≤ N
          · have hP := bget_out m b m v vs p0 L N wo G hN
            have hQ := rget_out m r v2 vs2 L N wo Rr hN
            have hc := conv_any none 0 0 _ wo (nilB wo)
            clear G Rr ne hN HQ qx
            go_wp2_with (first | (go_at_call 12; refine hP.mono ?_; rintro e w' ⟨rfl, hw⟩; rw [hw]; clear hw) | (go_at_call 13; refine hQ.mono ?_; rintro e w' ⟨rfl, hw⟩; rw [hw]; clear hw))
            clear hP hQ hc x1 x0
            obtain ⟨⟨vsz, pz, Gz⟩, ⟨vs2z, Rz⟩, _⟩ := HT2.out.2.1
            have hLz : ∀ wx, Below wo.heap.size wo wx → Calls Try.prog 16 #[.pointer (some ⟨b, 0, none⟩)] wx fun e w' => ∃ u, e = .returned u ∧ u = .int .i64 (((L).length : Nat) : Int) ∧ w' = wx := fun wx hx => ((blen_any _ _ _ _ _ _ _ wx (Gz.below hx)).mono fun e w' h => ⟨_, h.1, rfl, h.2⟩)
            have rcz := Rz.c0
            obtain ⟨aR, cR, eR⟩ := own_shape Rz.fl.rows
            rw [eR] at rcz
            have hJz : ((L).length : Int) = ((L).length : Int) := rfl
            clear Gz Rz eR hJz
            generalize hNz : (L).length = NZ at *
            clear hNz
            go_wp2_with fail
            go_region_held3 (fun w' => w'.cell? ⟨r, 0, none⟩ = some (.slice aR NZ cR)) (assumption) (first
              | (refine step_callB 16 #[.tmp 130] #[24] rfl (by kernel_rfl) #[.pointer (some ⟨b, 0, none⟩)] (by kernel_rfl) (hLz _ (by repeat (first | with_reducible assumption | with_reducible refine below_drewNB ?_ _ | with_reducible refine Below.drew ?_ | with_reducible refine belowAB ?_ (Nat.le_refl _) _ | with_reducible exact Below.refl _ _))) ?_; rintro _ w9 ⟨rfl, rfl⟩))
            all_goals
              clear hLz rcz
              go_wp2_with fail
              go_roundw
              case rel => exact ⟨i + 1, _, _, _, by omega, by go_num, below_drewNB HT2.out.1 _, HT2.out.2.1.below (below_drewNB (Below.refl _ _) _), HT2.out.2.2⟩
              case measure => simp [intOf] <;> omega
          · obtain ⟨j, rfl⟩ : ∃ j : Nat, N = j := ⟨N.toNat, by omega⟩
            obtain ⟨f, hf⟩ : ∃ f, L[j]? = some f := ⟨_, List.getElem?_eq_getElem (by omega)⟩
            have fby := (G.fl.small f (List.mem_of_getElem? hf)).2
            have hP := bget_any m b m v vs p0 L j f wo G hf
            have HG : Hid (_) := And.intro Rr hf
            clear G Rr ne hN hf
            go_wp2_with fail
            refine hP.mono ?_
            rintro e w4 ⟨a4, c4, rfl, H4⟩
            obtain ⟨b4, o4⟩ := H4.out
            have z1 : w4.cell? ⟨q, 1, none⟩ = some (.int .i64 (j : Nat)) := cell_of_row w4 q 1 _ _ _ (qx.out _ b4)
            have hQ := rget_any m r v2 vs2 L j f w4 (HG.out.1.below b4) HG.out.2
            have K4 : Hid (_) := And.intro b4 o4
            clear hP H4 b4 o4 x1 x0 HQ qx HG
            go_wp2_with fail
            refine hQ.mono ?_
            rintro e w5 ⟨a5, c5, rfl, H5⟩
            obtain ⟨b5, o5⟩ := H5.out
            obtain ⟨ay, cy, ey, R5⟩ := own_row8 o5 fby
            simp only [Value.slice.injEq, true_and] at ey
            obtain ⟨rfl, rfl⟩ := ey
            obtain ⟨ay, cy, ey, R4⟩ := own_row8 (own_below K4.out.2 b5) fby
            simp only [Value.slice.injEq, true_and] at ey
            obtain ⟨rfl, rfl⟩ := ey
            have hc4 := conv_any _ _ _ _ w5 R4
            have hc5 := conv_any _ _ _ _ w5 R5
            have b45 : Below wo.heap.size wo w5 := K4.out.1.trans (b5.mono K4.out.1.size)
            have HT5 : Hid (Below w.heap.size w w5 ∧ Tb m w5 b m r L v v2 ∧ w.heap.size ≤ m) := ⟨HT2.out.1.trans (b45.mono HT2.out.1.size), HT2.out.2.1.below b45, HT2.out.2.2⟩
            generalize BA f.2 f.1 = X at *
            generalize f.1 = fn at *
            clear hQ H5 b5 o5 R4 R5 K4 b45 HT2 z1 fby
            go_wp2_with fail
            clear hc4 hc5
            obtain ⟨⟨vsz, pz, Gz⟩, ⟨vs2z, Rz⟩, _⟩ := HT5.out.2.1
            have hLz : ∀ wx, Below w5.heap.size w5 wx → Calls Try.prog 16 #[.pointer (some ⟨b, 0, none⟩)] wx fun e w' => ∃ u, e = .returned u ∧ u = .int .i64 (((L).length : Nat) : Int) ∧ w' = wx := fun wx hx => ((blen_any _ _ _ _ _ _ _ wx (Gz.below hx)).mono fun e w' h => ⟨_, h.1, rfl, h.2⟩)
            have rcz := Rz.c0
            obtain ⟨aR, cR, eR⟩ := own_shape Rz.fl.rows
            rw [eR] at rcz
            have hJz : ((L).length : Int) = ((L).length : Int) := rfl
            clear Gz Rz eR hJz
            generalize hNz : (L).length = NZ at *
            clear hNz
            go_wp2_with fail
            go_region_held3 (fun w' => w'.cell? ⟨r, 0, none⟩ = some (.slice aR NZ cR)) (assumption) (first
              | (refine step_callB 16 #[.tmp 130] #[24] rfl (by kernel_rfl) #[.pointer (some ⟨b, 0, none⟩)] (by kernel_rfl) (hLz _ (by repeat (first | with_reducible assumption | with_reducible refine below_drewNB ?_ _ | with_reducible refine Below.drew ?_ | with_reducible refine belowAB ?_ (Nat.le_refl _) _ | with_reducible exact Below.refl _ _))) ?_; rintro _ w9 ⟨rfl, rfl⟩))
            all_goals
              clear hLz rcz
              go_wp2_with fail
              go_roundw
              case rel => exact ⟨i + 1, _, _, _, by omega, by go_num, below_drewNB HT5.out.1 _, HT5.out.2.1.below (below_drewNB (Below.refl _ _) _), HT5.out.2.2⟩
              case measure => simp [intOf] <;> omega
        · by_cases k3 : k = 3
          · subst k3
            have x1 : wo.cell? ⟨q, 1, none⟩ = some (.int .i64 N) := cell_of_row wo q 1 _ _ _ HQ.out
            have x2 : wo.cell? ⟨q, 2, none⟩ = some (.int .i64 p) := cell_of_row wo q 2 _ _ _ HQ.out
            have x3 : wo.cell? ⟨q, 3, none⟩ = some (.int .u32 (z : Nat)) := cell_of_row wo q 3 _ _ _ HQ.out
            obtain ⟨⟨vs, p0, G⟩, ⟨vs2, Rr⟩, ne⟩ := HT2.out.2.1
            by_cases hN : N < 0 ∨ (L.length : Int) ≤ N
            · have hP := bgarb_out m b m v vs p0 L N p (z : Nat) wo G hN
              have hQ := rgarb_out m r v2 vs2 L N p (z : Nat) wo Rr hN
              have hc := conv_any none 0 0 _ wo (nilB wo)
              clear G Rr ne hN HQ qx
              go_wp2_with (first | (go_at_call 14; refine hP.mono ?_; rintro e w' ⟨rfl, hw⟩; rw [hw]; clear hw) | (go_at_call 15; refine hQ.mono ?_; rintro e w' ⟨rfl, hw⟩; rw [hw]; clear hw))
              clear hP hQ hc x1 x2 x3 x0
              obtain ⟨⟨vsz, pz, Gz⟩, ⟨vs2z, Rz⟩, _⟩ := HT2.out.2.1
              have hLz : ∀ wx, Below wo.heap.size wo wx → Calls Try.prog 16 #[.pointer (some ⟨b, 0, none⟩)] wx fun e w' => ∃ u, e = .returned u ∧ u = .int .i64 (((L).length : Nat) : Int) ∧ w' = wx := fun wx hx => ((blen_any _ _ _ _ _ _ _ wx (Gz.below hx)).mono fun e w' h => ⟨_, h.1, rfl, h.2⟩)
              have rcz := Rz.c0
              obtain ⟨aR, cR, eR⟩ := own_shape Rz.fl.rows
              rw [eR] at rcz
              have hJz : ((L).length : Int) = ((L).length : Int) := rfl
              clear Gz Rz eR hJz
              generalize hNz : (L).length = NZ at *
              clear hNz
              go_wp2_with fail
              go_region_held3 (fun w' => w'.cell? ⟨r, 0, none⟩ = some (.slice aR NZ cR)) (assumption) (first
                | (refine step_callB 16 #[.tmp 130] #[24] rfl (by kernel_rfl) #[.pointer (some ⟨b, 0, none⟩)] (by kernel_rfl) (hLz _ (by repeat (first | with_reducible assumption | with_reducible refine below_drewNB ?_ _ | with_reducible refine Below.drew ?_ | with_reducible refine belowAB ?_ (Nat.le_refl _) _ | with_reducible exact Below.refl _ _))) ?_; rintro _ w9 ⟨rfl, rfl⟩))
              all_goals
                clear hLz rcz
                go_wp2_with fail
                go_roundw
                case rel => exact ⟨i + 1, _, _, _, by omega, by go_num, below_drewNB HT2.out.1 _, HT2.out.2.1.below (below_drewNB (Below.refl _ _) _), HT2.out.2.2⟩
                case measure => simp [intOf] <;> omega
            · obtain ⟨j, rfl⟩ : ∃ j : Nat, N = j := ⟨N.toNat, by omega⟩
              obtain ⟨f, hf⟩ : ∃ f, L[j]? = some f := ⟨_, List.getElem?_eq_getElem (by omega)⟩
              have fby := (G.fl.small f (List.mem_of_getElem? hf)).2
              by_cases hE : mkErr f.1 p z = 0
              · have h27 := (G.fl.small f (List.mem_of_getElem? hf)).1
                have hnr : ¬ ((f.1 : Int) < 0 ∨ 65536 < (f.1 : Int)) := by omega
                have hbr : ¬ (z = 0 ∨ p < 0 ∨ 8 * (f.1 : Int) < p + PM.bl z) := fun h => by rw [mkErr_burst hnr h] at hE; omega
                obtain ⟨A, rfl⟩ : ∃ A : Nat, p = A := ⟨p.toNat, by omega⟩
                have HF : Hid (z ≠ 0 ∧ A + PM.bl z ≤ 8 * f.1) := ⟨by omega, by omega⟩
                have hP := bgarb_good m b m v vs p0 L j f A z wo G hf hz HF.out.1 HF.out.2
                have HG : Hid (_) := And.intro Rr hf
                clear G Rr ne hN hf hE hnr hbr h27
                go_wp2_with fail
                refine hP.mono ?_
                rintro e w4 ⟨g4, c4, rfl, H4⟩
                obtain ⟨b4, o4, _⟩ := H4.out
                have q4 := qx.out _ b4
                have z1 : w4.cell? ⟨q, 1, none⟩ = some (.int .i64 (j : Nat)) := cell_of_row w4 q 1 _ _ _ q4
                have z2 : w4.cell? ⟨q, 2, none⟩ = some (.int .i64 (A : Nat)) := cell_of_row w4 q 2 _ _ _ q4
                have z3 : w4.cell? ⟨q, 3, none⟩ = some (.int .u32 (z : Nat)) := cell_of_row w4 q 3 _ _ _ q4
                have hQ := rgarb_good m r v2 vs2 L j f A z w4 (HG.out.1.below b4) HG.out.2 hz HF.out.1 HF.out.2
                have K4 : Hid (_) := And.intro b4 o4
                clear hP H4 b4 o4 x1 x2 x3 x0 HQ qx HG q4
                go_wp2_with fail
                refine hQ.mono ?_
                rintro e w5 ⟨g5, c5, rfl, H5⟩
                obtain ⟨b5, ⟨h5, o5, f5, l5⟩, _⟩ := H5.out
                obtain ⟨b4, h4, o4, f4, l4⟩ := K4.out
                obtain ⟨ay, cy, ey, R5⟩ := own_row8 o5 (xr_lt fby f5)
                simp only [Value.slice.injEq, true_and] at ey
                obtain ⟨rfl, rfl⟩ := ey
                obtain ⟨ay, cy, ey, R4⟩ := own_row8 (own_below o4 b5) (xr_lt fby f4)
                simp only [Value.slice.injEq, true_and] at ey
                obtain ⟨rfl, rfl⟩ := ey
                have hc4 := conv_any _ _ _ _ w5 R4
                have hc5 := conv_any _ _ _ _ w5 R5
                have eX : BA (xr f.2 h5) f.1 = BA (xr f.2 h4) f.1 := by
                  rw [BA_eq _ _ _ (xr_lt fby f5) (xr_lt fby f4)]
                  intro i hi
                  have hq : ∀ i, i < f.1 → h5 i = h4 i := PM.byte_ext f5 f4 (fun k hk => (l5 k hk).trans (l4 k hk).symm)
                  unfold xr
                  rw [hq i hi]
                rw [eX] at hc5
                have b45 : Below wo.heap.size wo w5 := b4.trans (b5.mono b4.size)
                have HT5 : Hid (Below w.heap.size w w5 ∧ Tb m w5 b m r L v v2 ∧ w.heap.size ≤ m) := ⟨HT2.out.1.trans (b45.mono HT2.out.1.size), HT2.out.2.1.below b45, HT2.out.2.2⟩
                generalize BA (xr f.2 h4) f.1 = X at *
                clear hQ H5 b5 o5 R4 R5 K4 b45 HT2 z1 z2 z3 fby b4 o4 f4 l4 f5 l5 eX HF
                generalize f.1 = fn at *
                go_wp2_with fail
                clear hc4 hc5
                obtain ⟨⟨vsz, pz, Gz⟩, ⟨vs2z, Rz⟩, _⟩ := HT5.out.2.1
                have hLz : ∀ wx, Below w5.heap.size w5 wx → Calls Try.prog 16 #[.pointer (some ⟨b, 0, none⟩)] wx fun e w' => ∃ u, e = .returned u ∧ u = .int .i64 (((L).length : Nat) : Int) ∧ w' = wx := fun wx hx => ((blen_any _ _ _ _ _ _ _ wx (Gz.below hx)).mono fun e w' h => ⟨_, h.1, rfl, h.2⟩)
                have rcz := Rz.c0
                obtain ⟨aR, cR, eR⟩ := own_shape Rz.fl.rows
                rw [eR] at rcz
                have hJz : ((L).length : Int) = ((L).length : Int) := rfl
                clear Gz Rz eR hJz
                generalize hNz : (L).length = NZ at *
                clear hNz
                go_wp2_with fail
                go_region_held3 (fun w' => w'.cell? ⟨r, 0, none⟩ = some (.slice aR NZ cR)) (assumption) (first
                  | (refine step_callB 16 #[.tmp 130] #[24] rfl (by kernel_rfl) #[.pointer (some ⟨b, 0, none⟩)] (by kernel_rfl) (hLz _ (by repeat (first | with_reducible assumption | with_reducible refine below_drewNB ?_ _ | with_reducible refine Below.drew ?_ | with_reducible refine belowAB ?_ (Nat.le_refl _) _ | with_reducible exact Below.refl _ _))) ?_; rintro _ w9 ⟨rfl, rfl⟩))
                all_goals
                  clear hLz rcz
                  go_wp2_with fail
                  go_roundw
                  case rel => exact ⟨i + 1, _, _, _, by omega, by go_num, below_drewNB HT5.out.1 _, HT5.out.2.1.below (below_drewNB (Below.refl _ _) _), HT5.out.2.2⟩
                  case measure => simp [intOf] <;> omega
              · have hP := bgarb_bad m b m v vs p0 L j f p z wo G hf hz hp hE
                have HG : Hid (_) := And.intro Rr (And.intro hf hE)
                generalize hY : mkErr f.1 p z = Y at hP
                have HY : Hid (mkErr f.1 p z = Y) := hY
                clear G Rr ne hN hf hE hY
                go_wp2_with fail
                refine hP.mono ?_
                rintro e w4 ⟨rfl, H4⟩
                have b4 := H4.out
                have q4 := qx.out _ b4
                have z1 : w4.cell? ⟨q, 1, none⟩ = some (.int .i64 (j : Nat)) := cell_of_row w4 q 1 _ _ _ q4
                have z2 : w4.cell? ⟨q, 2, none⟩ = some (.int .i64 p) := cell_of_row w4 q 2 _ _ _ q4
                have z3 : w4.cell? ⟨q, 3, none⟩ = some (.int .u32 (z : Nat)) := cell_of_row w4 q 3 _ _ _ q4
                have hQ := rgarb_bad m r v2 vs2 L j f p z w4 (HG.out.1.below b4) HG.out.2.1 hz hp HG.out.2.2
                rw [HY.out] at hQ
                have K4 : Hid (_) := b4
                clear hP H4 b4 x1 x2 x3 x0 HQ qx HG q4 HY
                go_wp2_with fail
                refine hQ.mono ?_
                rintro e w5 ⟨rfl, H5⟩
                have hc := conv_any none 0 0 _ w5 (nilB w5)
                have b45 : Below wo.heap.size wo w5 := K4.out.trans (H5.out.mono K4.out.size)
                have HT5 : Hid (Below w.heap.size w w5 ∧ Tb m w5 b m r L v v2 ∧ w.heap.size ≤ m) := ⟨HT2.out.1.trans (b45.mono HT2.out.1.size), HT2.out.2.1.below b45, HT2.out.2.2⟩
                clear hQ H5 K4 b45 HT2 z1 z2 z3 fby
                go_wp2_with fail
                clear hc
                obtain ⟨⟨vsz, pz, Gz⟩, ⟨vs2z, Rz⟩, _⟩ := HT5.out.2.1
                have hLz : ∀ wx, Below w5.heap.size w5 wx → Calls Try.prog 16 #[.pointer (some ⟨b, 0, none⟩)] wx fun e w' => ∃ u, e = .returned u ∧ u = .int .i64 (((L).length : Nat) : Int) ∧ w' = wx := fun wx hx => ((blen_any _ _ _ _ _ _ _ wx (Gz.below hx)).mono fun e w' h => ⟨_, h.1, rfl, h.2⟩)
                have rcz := Rz.c0
                obtain ⟨aR, cR, eR⟩ := own_shape Rz.fl.rows
                rw [eR] at rcz
                have hJz : ((L).length : Int) = ((L).length : Int) := rfl
                clear Gz Rz eR hJz
                generalize hNz : (L).length = NZ at *
                clear hNz
                go_wp2_with fail
                go_region_held3 (fun w' => w'.cell? ⟨r, 0, none⟩ = some (.slice aR NZ cR)) (assumption) (first
                  | (refine step_callB 16 #[.tmp 130] #[24] rfl (by kernel_rfl) #[.pointer (some ⟨b, 0, none⟩)] (by kernel_rfl) (hLz _ (by repeat (first | with_reducible assumption | with_reducible refine below_drewNB ?_ _ | with_reducible refine Below.drew ?_ | with_reducible refine belowAB ?_ (Nat.le_refl _) _ | with_reducible exact Below.refl _ _))) ?_; rintro _ w9 ⟨rfl, rfl⟩))
                all_goals
                  clear hLz rcz
                  go_wp2_with fail
                  go_roundw
                  case rel => exact ⟨i + 1, _, _, _, by omega, by go_num, below_drewNB HT5.out.1 _, HT5.out.2.1.below (below_drewNB (Below.refl _ _) _), HT5.out.2.2⟩
                  case measure => simp [intOf] <;> omega
          · clear HQ qx
            go_wp2_with fail
            clear x0
            obtain ⟨⟨vsz, pz, Gz⟩, ⟨vs2z, Rz⟩, _⟩ := HT2.out.2.1
            have hLz : ∀ wx, Below wo.heap.size wo wx → Calls Try.prog 16 #[.pointer (some ⟨b, 0, none⟩)] wx fun e w' => ∃ u, e = .returned u ∧ u = .int .i64 (((L).length : Nat) : Int) ∧ w' = wx := fun wx hx => ((blen_any _ _ _ _ _ _ _ wx (Gz.below hx)).mono fun e w' h => ⟨_, h.1, rfl, h.2⟩)
            have rcz := Rz.c0
            obtain ⟨aR, cR, eR⟩ := own_shape Rz.fl.rows
            rw [eR] at rcz
            have hJz : ((L).length : Int) = ((L).length : Int) := rfl
            clear Gz Rz eR hJz
            generalize hNz : (L).length = NZ at *
            clear hNz
            go_wp2_with fail
            go_region_held3 (fun w' => w'.cell? ⟨r, 0, none⟩ = some (.slice aR NZ cR)) (assumption) (first
              | (refine step_callB 16 #[.tmp 130] #[24] rfl (by kernel_rfl) #[.pointer (some ⟨b, 0, none⟩)] (by kernel_rfl) (hLz _ (by repeat (first | with_reducible assumption | with_reducible refine below_drewNB ?_ _ | with_reducible refine Below.drew ?_ | with_reducible refine belowAB ?_ (Nat.le_refl _) _ | with_reducible exact Below.refl _ _))) ?_; rintro _ w9 ⟨rfl, rfl⟩))
            all_goals
              clear hLz rcz
              go_wp2_with fail
              go_roundw
              case rel => exact ⟨i + 1, _, _, _, by omega, by go_num, below_drewNB HT2.out.1 _, HT2.out.2.1.below (below_drewNB (Below.refl _ _) _), HT2.out.2.2⟩
              case measure => simp [intOf] <;> omega
    · obtain ⟨⟨vs, p0, G⟩, ⟨vs2, Rr⟩, _⟩ := HT.out.2.1
      have hP := bbytes_any m b m v vs p0 L wr G
      have hQ := rbytes_any m r v2 vs2 L wr Rr
      rw [pkf_mst] at hP
      have HB : Hid (Below w.heap.size w wr) := HT.out.1
      clear G Rr HT HO
      generalize tots L = t at *
      generalize mst L = u at *
      by_cases h1 : i < len
      · have I1 : (i : Int) < (len : Int) := by omega
        have I2 : ¬ ((i : Int) < 5000) := by omega
        clear hlt
        go_wp2_with (first | (go_at_call 17; refine hP.mono ?_; rintro e w' ⟨rfl, hw⟩; rw [hw]; clear hw) | (go_at_call 18; refine hQ.mono ?_; rintro e w' ⟨rfl, hw⟩; rw [hw]; clear hw))
        go_ret
        exact ⟨by simp, HB.out⟩
      · have I1 : ¬ ((i : Int) < (len : Int)) := by omega
        clear hlt
        go_wp2_with (first | (go_at_call 17; refine hP.mono ?_; rintro e w' ⟨rfl, hw⟩; rw [hw]; clear hw) | (go_at_call 18; refine hQ.mono ?_; rintro e w' ⟨rfl, hw⟩; rw [hw]; clear hw))
        go_ret
        exact ⟨by simp, HB.out⟩
theorem bagPlays_walk (a0 : Option Addr) (len0 cap0 : Nat) (w : World) (w0 : OpRow w a0 len0) :
    Calls Try.prog 3 #[.slice a0 len0 cap0] w fun e w' => e = .returned (.bool true) ∧ Below w.heap.size w w' := plays15 a0 len0 cap0 w w0
end Go.Proofs.Ytohhidnockmkaaa
