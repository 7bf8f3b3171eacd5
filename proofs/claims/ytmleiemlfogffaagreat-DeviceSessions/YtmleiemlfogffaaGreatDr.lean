/- Records. -/
import Derived.Test.YtmleiemlfogffaaGreatDl
import Derived.Test.YtmleiemlfogffaaGreatRowo
import Derived.Deep.RegionHeld3
import Derived.Sort.WalkA
namespace Go.Proofs.YtmleiemlfogffaaGreat
set_option maxRecDepth 100000
open Go.RowKit Go.Maps

theorem info_rec : (Tryz.prog.info? 140).map (fun i => (i.zero, i.size, i.bytes)) = some (some (.agg #[.int .i64 0, .int .i64 0, .int .u32 0, .int .u32 0]), 4, 24) := by kernel_rfl
theorem rv_one (x : R4) : ∀ u ∈ rv x, u.oneCell' = true := by intro u hu; simp [rv] at hu; rcases hu with rfl | rfl | rfl | rfl <;> rfl
theorem rvs_one' (L : List R4) : ∀ u ∈ rvs L, u.oneCell' = true := by
  intro u hu
  obtain ⟨x, _, hx⟩ := List.mem_flatMap.1 hu
  exact rv_one x u hx
/-- One record behind others of our own. -/
theorem app_rec (B n g : Nat) (L : List R4) (x : R4) (v : Value) (w w0 : World) (hown : w.ownsRow B 140 4 v n (rvs L)) (hg : w.heap[g]? = some (.cells #[.int .i64 x.1, .int .i64 x.2.1, .int .u32 x.2.2.1, .int .u32 x.2.2.2] 140 (0, 0))) (hn : n < 1000000) (hB0 : B ≤ w0.heap.size) (hb : Below B w0 w) :
    ∃ v' w', (Builtin.append_ #[63, 63] 63 #[v, .slice (some ⟨g, 0, none⟩) 1 1]).run Tryz.prog w = .ok v' w' ∧ Hid (w'.ownsRow B 140 4 v' (n + 1) (rvs (L ++ [x])) ∧ Below B w0 w' ∧ w.grownBy w' v.ownBlock) := by
  obtain ⟨i, hi, h0, h1, h2⟩ := info_parts info_rec
  have hBw : B ≤ w.heap.size := Nat.le_trans hB0 hb.size
  obtain ⟨c0, c1, c2, c3, _⟩ := cells4 hg
  obtain ⟨v', w', hrun, h3, h4, _⟩ := run_append_own w B 63 63 140 i _ 4 24 Tryz.underlying63 hi h0 h1 h2 rfl (by decide) v n (rvs L) hown ⟨g, 0, none⟩ 1 1 (rv x) rfl (by
    intro j u hu
    have hj : j < 4 := by
      by_cases hj : j < 4
      · exact hj
      · rw [List.getElem?_eq_none (by rw [rv_len]; omega)] at hu; cases hu
    have c : j = 0 ∨ j = 1 ∨ j = 2 ∨ j = 3 := by omega
    rcases c with rfl | rfl | rfl | rfl
    · simp [rv] at hu; subst hu; simpa [Addr.add] using c0
    · simp [rv] at hu; subst hu; simpa [Addr.add] using c1
    · simp [rv] at hu; subst hu; simpa [Addr.add] using c2
    · simp [rv] at hu; subst hu; simpa [Addr.add] using c3) (rv_one x) (by unfold maxLen; omega) (by omega) hBw
  rw [rvs_append, rvs_one]
  exact ⟨v', w', hrun, h3, hb.grown h4 hBw (fun j hj => (hown.lt j hj).1), h4⟩
theorem belowAR {B : Nat} {w0 w : World} (h : Below B w0 w) (hs : B ≤ w0.heap.size) (o : Obj) : Below B w0 (w.alloc o) := h.alloc (Nat.le_trans hs h.size) o
theorem below_drewNR {B : Nat} {w0 w : World} (h : Below B w0 w) (n : Nat) : Below B w0 (w.drewN n) := ⟨h.os, h.tape, h.output, h.size, h.block⟩
/-- A call as one step of a region that draws its order. -/
theorem step_callR {P : Program} {ops : Array Oper} {o : Oper} {a : Act} {w : World} {K : Act → World → Prop} {Q : Exit → Act → World → Prop} {E : Prop} {R : World → Prop}
    (hg : o.guard = none) (f : FuncId) (ts : Array Operand) (ty : Array TypeId) (_ : o.op = .call { callee := .value (.func f), args := ts, argTypes := ty }) (args : Array Value) (v : Value) (hrun : (execOp a.eval o).run P w = .ok (.enter f args) w) (hc : Calls P f args w fun e w' => e = .returned v ∧ R w') (hK : ∀ w', R w' → K (a.put o.dst v) w') :
    if Region.wanted o (yielded ops a.tmps) = true then Oper.wp P o a w K Q else E := by
  have hw : Region.wanted o (yielded ops a.tmps) = true := by simp [Region.wanted, hg]
  rw [if_pos hw]
  unfold Oper.wp
  rw [hrun]
  refine hc.mono ?_
  rintro e w'' ⟨rfl, hr⟩
  exact hK _ hr
/-- One record behind others, as one step of a region that draws its order. -/
theorem step_appR {ops : Array Oper} {o : Oper} {a : Act} {w : World} {K : Act → World → Prop} {Q : Exit → Act → World → Prop} {E : Prop}
    (hg : o.guard = none) (s x : Operand) (hop : o.op = Op.call { callee := Callee.builtin Builtin.append, args := #[s, x], argTypes := #[63, 63] }) (hty : o.type = 63)
    (B n g : Nat) (L : List R4) (xr : R4) (v : Value) (hs : a.eval s = v) (hown : w.ownsRow B 140 4 v n (rvs L)) (hx : a.eval x = .slice (some ⟨g, 0, none⟩) 1 1)
    (hgc : w.heap[g]? = some (.cells #[.int .i64 xr.1, .int .i64 xr.2.1, .int .u32 xr.2.2.1, .int .u32 xr.2.2.2] 140 (0, 0))) (hn : n < 1000000) (w0 : World) (hB0 : B ≤ w0.heap.size) (hb : Below B w0 w)
    (hK : ∀ v' w', Hid (w'.ownsRow B 140 4 v' (n + 1) (rvs (L ++ [xr])) ∧ w.grownBy w' v.ownBlock) → Below B w0 w' → K (a.put o.dst v') w') :
    if Region.wanted o (yielded ops a.tmps) = true then Oper.wp Tryz.prog o a w K Q else E := by
  have hw : Region.wanted o (yielded ops a.tmps) = true := by simp [Region.wanted, hg]
  rw [if_pos hw]
  obtain ⟨v', w', hrun, hO⟩ := app_rec B n g L xr v w w0 hown hgc hn hB0 hb
  unfold Oper.wp execOp
  simp only [hop, hty, resolve, invoke, builtin, Sem.run_bind, Sem.run_pure, Result.andThen_ok, List.map_toArray, List.map_cons, List.map_nil, hs, hx, hrun]
  exact hK v' w' ⟨hO.out.1, hO.out.2.2⟩ hO.out.2.1
set_option maxHeartbeats 4000000 in
set_option maxRecDepth 100000 in
theorem records_any (b : Nat) (U : List Nat) (L : List R4) (w : World) (h : DG w b U L) (hn : L.length < 1000000) :
    Calls Tryz.prog 59 #[.pointer (some ⟨b, 0, none⟩)] w fun e w' => ∃ v, e = .returned v ∧ Hid (w'.ownsRow w.heap.size 140 4 v (lst L).length (rvs (lst L)) ∧ Below w.heap.size w w') := by
  have ht := dtotal_any b U L w h hn
  have HL : Hid (DG w b U L) := h
  have hN : Hid (∃ n s, n = L.length ∧ s = n - 16) := ⟨_, _, rfl, rfl⟩
  obtain ⟨n, s, hl, hs⟩ := hN.out
  rw [← hl] at ht hn
  have hE : Hid (n = L.length ∧ s = n - 16) := ⟨hl, hs⟩
  have hmx : max (1 : Int) ((n : Int) - 16 + 1) = ((s + 1 : Nat) : Int) := by omega
  clear h hl hs hN
  have w1 : IntKind.i64.wrap ((n : Int) - 16) = (n : Int) - 16 := by rw [IntKind.wrap_i64]; omega
  have w2 : IntKind.i64.wrap ((n : Int) - 16 + 1) = (n : Int) - 16 + 1 := by rw [IntKind.wrap_i64]; omega
  go_enter Tryz.func59, Tryz.ntmps59
  go_wp2_with fail
  refine ht.mono ?_
  rintro e w' ⟨rfl, hw⟩
  have hw := hw.symm
  subst hw
  go_wp2_with fail
  clear ht w1 w2
  go_loopw [4, 5] (fun v c wr => ∃ a, s ≤ a ∧ a ≤ n ∧ c = .int .i64 ((a + 1 : Nat) : Int) ∧ wr.ownsRow w.heap.size 140 4 v (a - s) (rvs ((L.drop s).take (a - s))) ∧ Below w.heap.size w wr) (fun _ c _ => n + 1 - (intOf c).toNat)
  case atStart => exact ⟨s, by omega, by have := hE.out; omega, by first | rfl | (rw [hmx]), by rw [Nat.sub_self]; exact World.ownsRow_nil _ _ _ _, Below.refl _ _⟩
  case round =>
    clear hmx
    obtain ⟨a, hsa, han, rfl, hown, hbel⟩ := hrel
    by_cases hlt : a < n
    · have hD : DG wr b U L := HL.out.below hbel
      have haL : a < L.length := by rw [← hE.out.1]; exact hlt
      obtain ⟨mA, mb, nn, D, mt, h2⟩ := hD
      obtain ⟨r0, r1, r2, r3⟩ := h2.blk.rec a haL (by have := hE.out; omega)
      clear h2
      have hpl := fun w => placeOf_any a (a % 16) w rfl (by omega)
      have p16 : ((a % 16 : Nat) : Int) < 16 := by omega
      generalize a % 16 = p at *
      have HT : Hid ((L.drop s).take (a + 1 - s) = (L.drop s).take (a - s) ++ [L[a]]) := by
        show _ = _
        rw [show a + 1 - s = a - s + 1 from by omega, List.take_succ_eq_append_getElem (by simp; omega)]
        simp [show s + (a - s) = a from by omega]
      generalize L[a] = x at *
      obtain ⟨x0, x1, x2, x3⟩ := x
      simp only at r0 r1 r2 r3
      have hb0 : ∀ wx, Below w.heap.size w wx → wx.cell? ⟨b, 2 + p * 4, none⟩ = some (.int .i64 x0) ∧ wx.cell? ⟨b, 2 + p * 4 + 1, none⟩ = some (.int .i64 x1) ∧ wx.cell? ⟨b, 2 + p * 4 + 2, none⟩ = some (.int .u32 x2) ∧ wx.cell? ⟨b, 2 + p * 4 + 3, none⟩ = some (.int .u32 x3) := by
        intro wx hx
        have hbw : b < w.heap.size := by obtain ⟨_, _, _, _, _, h2⟩ := HL.out; exact h2.blk.lt
        have e : wx.heap[b]? = wr.heap[b]? := (hx.block b hbw).trans (hbel.block b hbw).symm
        exact ⟨(World.cell?_of_block e).trans r0, (World.cell?_of_block e).trans r1, (World.cell?_of_block e).trans r2, (World.cell?_of_block e).trans r3⟩
      have ho : Hid (∀ wx, Below wr.heap.size wr wx → wx.ownsRow w.heap.size 140 4 _ (a - s) (rvs ((L.drop s).take (a - s)))) := fun wx hx => own_below hown hx
      clear hown
      go_wp2_with fail
      go_region_held3 (fun w' => w'.cell? ⟨b, 2 + p * 4, none⟩ = some (.int .i64 x0) ∧ w'.cell? ⟨b, 2 + p * 4 + 1, none⟩ = some (.int .i64 x1) ∧ w'.cell? ⟨b, 2 + p * 4 + 2, none⟩ = some (.int .u32 x2) ∧ w'.cell? ⟨b, 2 + p * 4 + 3, none⟩ = some (.int .u32 x3)) (first | assumption | exact hb0 _ (by repeat (first | with_reducible assumption | with_reducible refine below_drewNR ?_ _ | with_reducible refine Below.drew ?_ | with_reducible refine belowAR ?_ (Nat.le_refl _) _ | with_reducible exact Below.refl _ _))) (first
        | (refine step_callR rfl 99 #[.tmp 19] #[3] rfl #[.int .i64 ((a + 1 : Nat) : Int)] _ (by kernel_rfl) (hpl _) ?_; rintro w3 rfl)
        | (refine step_appR rfl (.tmp 17) (.tmp 25) rfl rfl w.heap.size (a - s) wr.heap.size _ (x0, x1, x2, x3) _ rfl (ho.out _ (by repeat (first | with_reducible assumption | with_reducible refine below_drewNR ?_ _ | with_reducible refine Below.drew ?_ | with_reducible refine belowAR ?_ (Nat.le_refl _) _ | with_reducible exact Below.refl _ _))) rfl (heap_alloc_new wr _) (by omega) w (Nat.le_refl _) (by repeat (first | with_reducible assumption | with_reducible refine below_drewNR ?_ _ | with_reducible refine Below.drew ?_ | with_reducible refine belowAR ?_ (Nat.le_refl _) _ | with_reducible exact Below.refl _ _)) ?_; intro v3 w3 H3 hB3))
      clear ho hb0 r0 r1 r2 r3 hbel
      go_wp2_with fail
      go_roundw
      case rel =>
        refine ⟨a + 1, by omega, by omega, by go_num, ?_, hB3⟩
        rw [HT.out, show a + 1 - s = a - s + 1 from by omega]
        exact H3.out.1
      case measure => simp [intOf] <;> omega
    · obtain rfl : a = n := by omega
      have HO : Hid (_) := And.intro hown hbel
      clear hown hbel
      go_wp2_with fail
      go_ret
      refine ⟨_, rfl, ?_⟩
      have e : (L.drop s).take (a - s) = lst L := by
        rw [List.take_of_length_le (by have := hE.out; simp; omega), lst, ← hE.out.1, ← hE.out.2]
      have e2 : a - s = (lst L).length := by rw [← e]; simp; have := hE.out; omega
      have HO2 := HO.out
      rw [e, e2] at HO2
      exact HO2
set_option maxRecDepth 100000 in
theorem records_nil (w : World) : Calls Tryz.prog 59 #[.pointer none] w fun e w' => e = .returned (.slice none 0 0) ∧ w' = w := by
  have ht := dtotal_nil w
  go_enter Tryz.func59, Tryz.ntmps59
  go_wp2_with fail
  refine ht.mono ?_
  rintro e w' ⟨rfl, rfl⟩
  go_wp2_with fail
  refine wp_loop_once ?_
  go_wp2_with fail
  go_ret
  exact ⟨rfl, rfl⟩
end Go.Proofs.YtmleiemlfogffaaGreat
