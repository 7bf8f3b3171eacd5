/- DiagPlays: notes, and all that can be seen behind each. (genplay12.py) -/
import Derived.Test.YteaekoacongbcaaRf5
import Derived.Test.YteaekoacongbcaaOp12
import Derived.Deep.CutBlock
namespace Go.Proofs.Yteaekoacongbcaa
open Go.RowKit Go.Maps

/-- A call, behind a guard or not, as one step of a region that draws its order. -/
theorem step_callX {P : Program} {ops : Array Oper} {o : Oper} {a : Act} {w : World} {K : Act → World → Prop} {Q : Exit → Act → World → Prop} {E : Prop} {R : Value → World → Prop}
    (f : FuncId) (ts : Array Operand) (ty : Array TypeId) (_ : o.op = .call { callee := .value (.func f), args := ts, argTypes := ty }) (hw : Region.wanted o (yielded ops a.tmps) = true) (args : Array Value) (hrun : (execOp a.eval o).run P w = .ok (.enter f args) w) (hc : Calls P f args w fun e w' => ∃ v, e = .returned v ∧ R v w') (hK : ∀ v w', R v w' → K (a.put o.dst v) w') :
    if Region.wanted o (yielded ops a.tmps) = true then Oper.wp P o a w K Q else E := by
  rw [if_pos hw]
  unfold Oper.wp
  rw [hrun]
  refine hc.mono ?_
  rintro e w'' ⟨v, rfl, hr⟩
  exact hK _ _ hr
theorem hid {P : Prop} (h : P) : Hid P := h
theorem reachC {P : Program} {f : Nat} {args : Array Value} {w0 w : World} {R : Value → World → Prop} (h : Calls P f args w fun e w' => ∃ v, e = .returned v ∧ Hid (R v w' ∧ Below w.heap.size w w')) (hx : Below w0.heap.size w0 w) :
    Calls P f args w fun e w' => ∃ v, e = .returned v ∧ (Hid (R v w' ∧ Below w.heap.size w w') ∧ Below w0.heap.size w0 w') :=
  h.mono fun _ _ ⟨v, e, h⟩ => ⟨v, e, h, hx.trans (h.out.2.mono hx.size)⟩
/-- Note, whatever comes. -/
theorem dnote_gen (b : Nat) (U : List Nat) (L : List R4) (c s n : Int) (w : World) (h : DG w b U L) (hn : L.length < 999999) (hc : (Lit.int .i64 c).wf = true) :
    Calls Try.prog 9 #[.pointer (some ⟨b, 0, none⟩), .int .i64 c, .int .u32 s, .int .u32 n] w fun e w' => ∃ rn re : Int, e = .returned (.tuple #[.int .i64 rn, .int .i64 re]) ∧
      Hid ((c = 0 ∧ rn = 0 ∧ re = 2 ∧ w' = w) ∨ (c ≠ 0 ∧ rn = ((L.length + 1 : Nat) : Int) ∧ re = 0 ∧ ∃ U', Off U w w' ∧ DG w' b U' (L ++ [(((L.length + 1 : Nat) : Int), c, s, n)]) ∧ (∀ x, x ∈ U' → x ∈ U ∨ w.heap.size ≤ x))) := by
  by_cases h0 : c = 0
  · subst h0
    refine (note_ok b s n w).mono ?_
    rintro e w' ⟨rfl, rfl⟩
    exact ⟨0, 2, rfl, .inl ⟨rfl, rfl, rfl, rfl⟩⟩
  · refine (dnote_any b U L c s n w h hn hc h0).mono ?_
    rintro e w' ⟨rfl, H⟩
    exact ⟨_, 0, rfl, .inr ⟨h0, rfl, rfl, H.out⟩⟩
/-- Last, whatever comes. -/
theorem dlast_gen (b : Nat) (U : List Nat) (L : List R4) (w : World) (h : DG w b U L) (hn : L.length < 1000000) :
    Calls Try.prog 11 #[.pointer (some ⟨b, 0, none⟩)] w fun e w' => ∃ (y0 y1 y2 y3 : Int) (ok : Bool), e = .returned (.tuple #[.agg #[.int .i64 y0, .int .i64 y1, .int .u32 y2, .int .u32 y3], .bool ok]) ∧
      Hid (Below w.heap.size w w' ∧ ((L.length = 0 ∧ ok = false ∧ (y0, y1, y2, y3) = ((0, 0, 0, 0) : R4)) ∨ (ok = true ∧ ∃ h : 0 < L.length, L[L.length - 1] = (y0, y1, y2, y3)))) := by
  by_cases h0 : 0 < L.length
  · refine (dlast_some b U L w h hn h0).mono ?_
    rintro e w' ⟨rfl, hb⟩
    exact ⟨_, _, _, _, true, rfl, hb, .inr ⟨rfl, h0, rfl⟩⟩
  · obtain rfl : L = [] := List.eq_nil_of_length_eq_zero (by omega)
    refine (dlast_empty b U w h).mono ?_
    rintro e w' ⟨rfl, hb⟩
    exact ⟨0, 0, 0, 0, false, rfl, hb, .inl ⟨rfl, rfl, rfl⟩⟩
/-- Both say the same. -/
def Bo (w0 w : World) (b p : Nat) (L : List R4) : Prop := Below w0.heap.size w0 w ∧ ∃ U V v, DG w b U L ∧ RG w p V v L ∧ (∀ k, k ∈ U → w0.heap.size ≤ k ∧ k ∉ V) ∧ ∀ k, k ∈ V → w0.heap.size ≤ k
set_option maxHeartbeats 8000000 in
set_option maxRecDepth 100000 in
theorem diagPlays_walk (a0 : Option Addr) (len0 cap0 : Nat) (a1 : Int) (w : World) (w0 : OpRow w a0 len0) (haw : (Lit.int .i64 a1).wf = true) :
    Calls Try.prog 3 #[.slice a0 len0 cap0, .int .i64 a1] w fun e w' => e = .returned (.bool true) ∧ Below w.heap.size w w' := by
  have hA := awake12 w
  have hlm : len0 ≤ 9223372036854775807 := w0.1
  have HW : Hid (OpRow w a0 len0) := w0
  have hR := rec_eq
  clear w0
  go_enter Try.func3, Try.ntmps3
  go_wp2_with fail
  refine hA.mono ?_
  rintro e w1 ⟨rfl, hb1⟩
  clear hA
  go_wp2_with fail
  refine (dnew_any w1).mono ?_
  rintro e w2 ⟨rfl, H2⟩
  have H3 : Hid (Bo w (w2.alloc (.cells #[.slice none 0 0] 28)) (w1.heap.size + 2) w2.heap.size []) := by
    obtain ⟨h1, h2, h3⟩ := H2.out
    have hs := hb1.size
    have hb2 : Below w.heap.size w w2 := hb1.trans (h1.mono hs)
    refine ⟨hb2.alloc hb2.size _, _, [w2.heap.size], _, h3.off (Off.alloc [] w2 _) (by simp), ⟨heap_alloc_new w2 _, World.ownsRow_nil _ _ _ _, by simp, fun k hk => by simp [Value.ownBlock] at hk, by simp, fun _ => rfl⟩, ?_, ?_⟩
    · intro k hk
      simp at hk
      refine ⟨by omega, ?_⟩
      simp; omega
    · intro k hk
      simp at hk
      omega
  clear hb1 H2
  generalize w1.heap.size + 2 = b at *
  go_wp2_with fail
  generalize w2.heap.size = p at *
  generalize w2.alloc (.cells #[.slice none 0 0] 28) = w3 at *
  go_loopw [7, 8, 9, 10, 11, 12] (fun x _ _ _ _ _ wr => ∃ i, i ≤ len0 ∧ i ≤ 300 ∧ x = .int .i64 ((i : Nat) : Int) ∧ Hid (∃ L, Bo w wr b p L ∧ L.length ≤ i)) (fun x _ _ _ _ _ _ => 300 - (intOf x).toNat)
  case atStart => exact ⟨0, by omega, by omega, rfl, [], H3.out, by simp⟩
  case round =>
    clear H3
    obtain ⟨i, hi, hi2, rfl, HR⟩ := hrel
    by_cases hlt : i < len0
    · by_cases hlt2 : i < 300
      · obtain ⟨q, off, rfl, hq, hz⟩ := HW.out.2 (by omega)
        obtain ⟨t, c, s, n, hcw, z0, z1, z2, z3⟩ := hz i hlt
        clear hz
        obtain ⟨L, hBo, hLi⟩ := HR.out
        have hblk := hBo.1.block q hq
        have z0 : wr.cell? ⟨q, off + i * 4, none⟩ = some (.int .i64 t) := (World.cell?_of_block (a := ⟨q, off + i * 4, none⟩) hblk).trans z0
        have z1 : wr.cell? ⟨q, off + i * 4 + 1, none⟩ = some (.int .i64 c) := (World.cell?_of_block (a := ⟨q, off + i * 4 + 1, none⟩) hblk).trans z1
        have z2 : wr.cell? ⟨q, off + i * 4 + 2, none⟩ = some (.int .u32 s) := (World.cell?_of_block (a := ⟨q, off + i * 4 + 2, none⟩) hblk).trans z2
        have z3 : wr.cell? ⟨q, off + i * 4 + 3, none⟩ = some (.int .u32 n) := (World.cell?_of_block (a := ⟨q, off + i * 4 + 3, none⟩) hblk).trans z3
        obtain ⟨y0, y1, y2, y3, _⟩ := cells4 (heap_alloc_new wr (.cells #[.int .i64 t, .int .i64 c, .int .u32 s, .int .u32 n] 32))
        obtain ⟨hbw, U, V, v, hd, hg, hUV, hVM⟩ := hBo
        have hda := hd.off (Off.alloc [] wr (.cells #[.int .i64 t, .int .i64 c, .int .u32 s, .int .u32 n] 32)) (by simp)
        have HGa : Hid (RG (wr.alloc (.cells #[.int .i64 t, .int .i64 c, .int .u32 s, .int .u32 n] 32)) p V v L ∧ Below w.heap.size w (wr.alloc (.cells #[.int .i64 t, .int .i64 c, .int .u32 s, .int .u32 n] 32)) ∧ (∀ k, k ∈ U → w.heap.size ≤ k ∧ k ∉ V) ∧ (∀ k, k ∈ V → w.heap.size ≤ k) ∧ (∀ k, k ∈ U → k < wr.heap.size) ∧ (∀ k, k ∈ V → k < wr.heap.size) ∧ wr.heap.size < (wr.alloc (.cells #[.int .i64 t, .int .i64 c, .int .u32 s, .int .u32 n] 32)).heap.size) :=
          ⟨hg.off (Off.alloc [] wr _) (by simp), hbw.alloc hbw.size _, hUV, hVM, by obtain ⟨_, _, _, _, _, h⟩ := hd; exact h.ult, hg.lt, by simp⟩
        have hN := dnote_gen b U L c s n _ hda (by omega) hcw
        have HDa := hid hda
        clear hblk hd hg hUV hVM hbw hda HR
        go_upto_region 9 with fail
        generalize wr.alloc (.cells #[.int .i64 t, .int .i64 c, .int .u32 s, .int .u32 n] 32) = wa at *
        generalize wr.heap.size = g8 at *
        clear z0 z1 z2 z3
        go_wp2_with fail
        refine hN.mono ?_
        rintro e w4 ⟨rn, re, rfl, H4⟩
        clear hN
        have HO4 : Hid (Off U wa w4) := by
          rcases H4.out with ⟨_, _, _, rfl⟩ | ⟨_, _, _, U', h1, _⟩
          · exact Off.refl _ _
          · exact h1
        have e4 : w4.heap[g8]? = wa.heap[g8]? := HO4.out.block g8 HGa.out.2.2.2.2.2.2 (fun hm => by have := HGa.out.2.2.2.2.1 g8 hm; omega)
        have y1 := (World.cell?_of_block (a := ⟨g8, 1, none⟩) e4).trans y1
        have y2 := (World.cell?_of_block (a := ⟨g8, 2, none⟩) e4).trans y2
        have y3 := (World.cell?_of_block (a := ⟨g8, 3, none⟩) e4).trans y3
        clear e4
        go_upto_if 45 with fail
        go_cut [4] (fun _ wx => Hid (∃ L, Bo w wx b p L ∧ L.length ≤ i + 1 ∧ wx.cell? ⟨g8, 1, none⟩ = some (.int .i64 c)))
        case first =>
          rcases H4.out with ⟨rfl, rfl, rfl, rfl⟩ | ⟨hc0, ern, ere, U', ho, hd', hU'⟩
          · have HF : Hid (∃ L, Bo w w4 b p L ∧ L.length ≤ i + 1 ∧ w4.cell? ⟨g8, 1, none⟩ = some (.int .i64 0)) := by
              obtain ⟨x1, x2, x3, x4, x5, x6, x7⟩ := HGa.out
              exact ⟨L, ⟨x2, U, V, v, HDa.out, x1, x3, x4⟩, by omega, y1⟩
            clear H4 HO4
            go_wp2_with fail
            go_meet
            exact HF
          · have hG4 : RG w4 p V v L := HGa.out.1.off ho (fun k hk hm => (HGa.out.2.2.1 k hm).2 hk)
            have hN2 := rnote_any p V v L c s n w4 hG4 (by omega)
            rw [← ern] at hN2 hd'
            have hcb : (c == 0) = false := by simp [hc0]
            have hre : (re != 0) = false := by simp [ere]
            have HP : Hid (DG w4 b U' (L ++ [(rn, c, s, n)]) ∧ (∀ x, x ∈ U' → x ∈ U ∨ wa.heap.size ≤ x) ∧ Below w.heap.size w w4 ∧ wa.heap.size ≤ w4.heap.size ∧ L.length ≤ i) := ⟨hd', hU', ho.below HGa.out.2.1 (fun k hk => (HGa.out.2.2.1 k hk).1) HGa.out.2.1.size, ho.size, hLi⟩
            clear ho hd' hU' H4 HO4 hG4 ern ere
            go_wp2_with fail
            refine hN2.mono ?_
            rintro e w5 ⟨rfl, H5⟩
            clear hN2
            have HF : Hid (∃ L, Bo w w5 b p L ∧ L.length ≤ i + 1 ∧ w5.cell? ⟨g8, 1, none⟩ = some (.int .i64 c)) := by
              obtain ⟨V', v', h1, h2, h3⟩ := H5.out
              obtain ⟨x1, x2, x3, x4, x5, x6, x7⟩ := HGa.out
              obtain ⟨p1, p2, p3, p4, p5⟩ := HP.out
              have hUV : ∀ k, k ∈ U' → k ∉ V := fun k hk hm => by
                rcases p2 k hk with h | h
                · exact (x3 k h).2 hm
                · have := x6 k hm; omega
              have hUV' : ∀ k, k ∈ U' → k ∉ V' := fun k hk hm => by
                rcases h3 k hm with h | h
                · exact hUV k hk h
                · obtain ⟨_, _, _, _, _, hd⟩ := p1
                  have := hd.ult k hk; omega
              refine ⟨_, ⟨h1.below p3 x4 p3.size, U', V', v', p1.off h1 hUV, h2, fun k hk => ⟨?_, hUV' k hk⟩, fun k hk => ?_⟩, by simp; omega, ?_⟩
              · rcases p2 k hk with h | h
                · exact (x3 k h).1
                · have := x2.size; omega
              · rcases h3 k hk with h | h
                · exact x4 k h
                · have := p3.size; omega
              · exact (World.cell?_of_block (a := ⟨g8, 1, none⟩) (h1.block g8 (by omega) (fun hm => by have := x6 g8 hm; omega))).trans y1
            clear H5 HP HGa y1 y2 y3
            go_wp2_with fail
            go_meet
            exact HF
        case rest =>
          clear H4 HO4 HGa HDa y1 y2 y3 hLi y0
          obtain ⟨L, hBo, hLi, y1⟩ := hcut.out
          obtain ⟨hbw, U, V, v, hd, hg, hUV, hVM⟩ := hBo
          have hLs := dlast_gen b U L wc hd (by omega)
          have hg8 : g8 < wc.heap.size := cell_lt y1
          have HB : Hid (Below w.heap.size w wc ∧ DG wc b U L ∧ RG wc p V v L ∧ (∀ k, k ∈ U → w.heap.size ≤ k ∧ k ∉ V) ∧ (∀ k, k ∈ V → w.heap.size ≤ k) ∧ wc.cell? ⟨g8, 1, none⟩ = some (.int .i64 c) ∧ L.length ≤ i + 1) := ⟨hbw, hd, hg, hUV, hVM, y1, hLi⟩
          clear hcut hbw hd hg hUV hVM y1
          go_wp2_with fail
          refine hLs.mono ?_
          rintro e w6 ⟨r0, r1, r2, r3, ok, rfl, H6⟩
          clear hLs
          have hb7 : Below wc.heap.size wc (w6.alloc (.cells #[.int .i64 r0, .int .i64 r1, .int .u32 r2, .int .u32 r3] 32)) := H6.out.1.alloc H6.out.1.size _
          have HS : Hid (Bo w (w6.alloc (.cells #[.int .i64 r0, .int .i64 r1, .int .u32 r2, .int .u32 r3] 32)) b p L ∧ (w6.alloc (.cells #[.int .i64 r0, .int .i64 r1, .int .u32 r2, .int .u32 r3] 32)).cell? ⟨g8, 1, none⟩ = some (.int .i64 c) ∧ L.length ≤ i + 1) := by
            obtain ⟨x1, x2, x3, x4, x5, x6, x7⟩ := HB.out
            exact ⟨⟨x1.trans (hb7.mono x1.size), U, V, v, x2.below hb7, x3.below hb7, x4, x5⟩, (World.cell?_of_block (a := ⟨g8, 1, none⟩) (hb7.block g8 hg8)).trans x6, x7⟩
          obtain ⟨s0, s1, s2, s3, _⟩ := cells4 (heap_alloc_new w6 (.cells #[.int .i64 r0, .int .i64 r1, .int .u32 r2, .int .u32 r3] 32))
          have H7 : Hid ((L.length = 0 ∧ ok = false ∧ (r0, r1, r2, r3) = ((0, 0, 0, 0) : R4)) ∨ (ok = true ∧ ∃ h : 0 < L.length, L[L.length - 1] = (r0, r1, r2, r3))) := H6.out.2
          clear H6 HB hb7 hg8
          go_upto_if 116 with fail
          generalize w6.alloc (.cells #[.int .i64 r0, .int .i64 r1, .int .u32 r2, .int .u32 r3] 32) = w7 at *
          generalize w6.heap.size = g11 at *
          go_cut [116] (fun x wx => x = .bool false ∧ ∃ m, wx = w7.drewN m)
          case first =>
            obtain ⟨hBo, y1, hLi⟩ := HS.out
            obtain ⟨hbw, U, V, v, hd, hg, hUV, hVM⟩ := hBo
            have hT := fun j => dtotal_any b U L (w7.drewN j) (hd.off (Off.drewN [] w7 j) (by simp)) (by omega)
            have pc := hg.c0
            rcases H7.out with ⟨hl0, rfl, er⟩ | ⟨rfl, hl0, er⟩
            · have ev := hg.nl hl0
              rw [ev] at pc
              rw [hl0] at hT
              simp only [Prod.mk.injEq] at er
              obtain ⟨rfl, rfl, rfl, rfl⟩ := er
              clear hg hd hbw hUV hVM y1 HS H7 ev
              go_wp2_with fail
              go_quiet ((go_at_call 12; exact Calls.quiet_of_same (hT _)))
              go_wp2_with fail
              go_meet
              exact ⟨rfl, _, rfl⟩
            · obtain ⟨ga, gcap, rfl, _, hcs⟩ := own_cells4 hg.own
              obtain ⟨g, rfl, _, _, k0, k1, k2, k3⟩ := hcs (L.length - 1) (by omega)
              rw [er] at k0 k1 k2 k3
              simp only at k0 k1 k2 k3
              obtain ⟨m, em⟩ : ∃ m, L.length = m + 1 := ⟨L.length - 1, by omega⟩
              rw [em] at hT pc k0 k1 k2 k3
              rw [Nat.add_sub_cancel] at k0 k1 k2 k3
              have hm0 : ((m : Int) + 1 > 0) = True := eq_true (by omega)
              have hm1 : ((0 : Int) < (m : Int) + 1) = True := eq_true (by omega)
              have hm2 : (m : Int) + 1 - 1 = (m : Int) := by omega
              have hm3 : (m : Int) < (m : Int) + 1 := by omega
              have hm4 : m ≤ 1000 := by omega
              have hm5 : (m : Int) ≤ 1000 := by omega
              clear hg hd hbw hUV hVM y1 HS H7 hcs er em
              go_wp2_with fail
              go_quiet ((go_at_call 12; exact Calls.quiet_of_same (hT _)))
              go_wp2_with fail
              go_meet
              exact ⟨rfl, _, rfl⟩
          case rest =>
            obtain ⟨rfl, m, hwm⟩ := hcut
            have HS : Hid (Bo w wc b p L ∧ wc.cell? ⟨g8, 1, none⟩ = some (.int .i64 c) ∧ L.length ≤ i + 1) := by
              obtain ⟨⟨hbw, U, V, v, hd, hg, hUV, hVM⟩, y1, hLi⟩ := HS.out
              rw [hwm]
              exact ⟨⟨below_drewNR hbw m, U, V, v, hd.off (Off.drewN [] w7 m) (by simp), hg.off (Off.drewN [] w7 m) (by simp), hUV, hVM⟩, y1, hLi⟩
            clear hwm s0 s1 s2 s3 H7
            obtain ⟨⟨hbw, U, V, v, hd, hg, hUV, hVM⟩, y1, hLi⟩ := HS.out
            have hg8 : g8 < wc.heap.size := cell_lt y1
            have hx8 : ∀ wx, Below wc.heap.size wc wx → wx.cell? ⟨g8, 1, none⟩ = some (.int .i64 c) := fun wx hx => (World.cell?_of_block (a := ⟨g8, 1, none⟩) (hx.block g8 hg8)).trans y1
            have hRec := fun wx (hx : Below wc.heap.size wc wx) => reachC (records_any b U L wx (hd.below hx) (by omega)) hx
            have hRRec := fun wx (hx : Below wc.heap.size wc wx) => reachC (rrecords_any p V v L wx (hg.below hx) (by omega)) hx
            have hCod : ∀ wx, Below wc.heap.size wc wx → Calls Try.prog 17 #[.pointer (some ⟨b, 0, none⟩)] wx fun e w' => ∃ v, e = .returned v ∧ (Hid (w'.ownsRow wx.heap.size 29 1 v (cds L).length ((cds L).map encZ) ∧ Below wx.heap.size wx w') ∧ Below wc.heap.size wc w') := fun wx hx =>
              (codes_any b U L wx (hd.below hx) (by omega)).mono fun _ _ ⟨v, e, h⟩ => ⟨v, e, ⟨h.out.1, h.out.2.2⟩, hx.trans (h.out.2.2.mono hx.size)⟩
            have hRCod := fun wx (hx : Below wc.heap.size wc wx) => reachC (rcodes_any p V v L wx (hg.below hx) (by omega)) hx
            have hSame : ∀ wx v1 v2, Below wc.heap.size wc wx → ∀ {B1 B2 : Nat}, wx.ownsRow B1 32 4 v1 (lst L).length (rvs (lst L)) → wx.ownsRow B2 32 4 v2 (lst L).length (rvs (lst L)) → Calls Try.prog 13 #[v1, v2] wx fun e w' => ∃ v, e = .returned v ∧ (v = .bool true ∧ Below wc.heap.size wc w') := fun wx v1 v2 hx B1 B2 h1 h2 =>
              (same_any v1 v2 B1 B2 (lst L) wx h1 h2 (by rw [lst_len]; omega)).mono fun _ _ ⟨e, m, hm⟩ => ⟨_, e, rfl, by rw [hm]; exact below_drewNR hx m⟩
            have hEq : ∀ wx v1 v2, Below wc.heap.size wc wx → ∀ {B1 B2 : Nat}, wx.ownsRow B1 29 1 v1 (cds L).length ((cds L).map encZ) → wx.ownsRow B2 29 1 v2 (cds L).length ((cds L).map encZ) → Calls Try.prog 16 #[v1, v2] wx fun e w' => ∃ v, e = .returned v ∧ (v = .bool true ∧ Below wc.heap.size wc w') := fun wx v1 v2 hx B1 B2 h1 h2 =>
              (equal_any v1 v2 B1 B2 (cds L) wx h1 h2 (by have := cds_len L; omega)).mono fun _ _ ⟨e, m, hm⟩ => ⟨_, e, rfl, by rw [hm]; exact below_drewNR hx m⟩
            have hCnt : ∀ wx x, Below wc.heap.size wc wx → (Lit.int .i64 x).wf = true → Calls Try.prog 19 #[.pointer (some ⟨b, 0, none⟩), .int .i64 x] wx fun e w' => ∃ v, e = .returned v ∧ (v = .int .i64 (cnt L x : Nat) ∧ w' = wx) := fun wx x hx hw =>
              (dcount_any b U L x wx (hd.below hx) (by omega) hw).mono fun _ _ ⟨e, hm⟩ => ⟨_, e, rfl, hm⟩
            have hRCnt : ∀ wx x, Below wc.heap.size wc wx → Calls Try.prog 20 #[.pointer (some ⟨p, 0, none⟩), .int .i64 x] wx fun e w' => ∃ v, e = .returned v ∧ (v = .int .i64 (cnt L x : Nat) ∧ w' = wx) := fun wx x hx =>
              (rcount_any p V v L x wx (hg.below hx) (by omega)).mono fun _ _ ⟨e, hm⟩ => ⟨_, e, rfl, hm⟩
            have HFin : Hid (∀ wx, Below wc.heap.size wc wx → ∃ L, Bo w wx b p L ∧ L.length ≤ i + 1) := fun wx hx => ⟨L, ⟨hbw.trans (hx.mono hbw.size), U, V, v, hd.below hx, hg.below hx, hUV, hVM⟩, hLi⟩
            clear hbw hUV hVM y1 HS hg hd
            go_wp2_with fail
            go_region_held3 (fun wx => wx.cell? ⟨g8, 1, none⟩ = some (.int .i64 c)) (first | assumption | exact hx8 _ (by repeat (first | with_reducible assumption | with_reducible refine below_drewNR ?_ _ | with_reducible refine Below.drew ?_ | with_reducible exact Below.refl _ _))) (first
    | (refine step_callX 14 #[.tmp 117] #[24] rfl (by kernel_rfl) #[.pointer (some ⟨b, 0, none⟩)] (by kernel_rfl) (hRec _ (by repeat (first | with_reducible assumption | with_reducible refine below_drewNR ?_ _ | with_reducible refine Below.drew ?_ | with_reducible exact Below.refl _ _))) ?_; intro v1 w1 h1; obtain ⟨H1, hB1⟩ := h1)
    | (refine step_callX 15 #[.tmp 119] #[26] rfl (by kernel_rfl) #[.pointer (some ⟨p, 0, none⟩)] (by kernel_rfl) (hRRec _ (by repeat (first | with_reducible assumption | with_reducible refine below_drewNR ?_ _ | with_reducible refine Below.drew ?_ | with_reducible exact Below.refl _ _))) ?_; intro v2 w2 h2; obtain ⟨H2, hB2⟩ := h2; have H1 := hid (own_below H1.out.1 H2.out.2))
    | (refine step_callX 13 #[.tmp 118, .tmp 120] #[22, 22] rfl (by kernel_rfl) #[v1, v2] (by kernel_rfl) (hSame _ _ _ (by repeat (first | with_reducible assumption | with_reducible refine below_drewNR ?_ _ | with_reducible refine Below.drew ?_ | with_reducible exact Below.refl _ _)) H1.out H2.out.1) ?_; intro v3 w3 h3; obtain ⟨rfl, hB3⟩ := h3; clear H1 H2)
    | (refine step_callX 17 #[.tmp 124] #[24] rfl (by kernel_rfl) #[.pointer (some ⟨b, 0, none⟩)] (by kernel_rfl) (hCod _ (by repeat (first | with_reducible assumption | with_reducible refine below_drewNR ?_ _ | with_reducible refine Below.drew ?_ | with_reducible exact Below.refl _ _))) ?_; intro v4 w4 h4; obtain ⟨H4, hB4⟩ := h4)
    | (refine step_callX 18 #[.tmp 126] #[26] rfl (by kernel_rfl) #[.pointer (some ⟨p, 0, none⟩)] (by kernel_rfl) (hRCod _ (by repeat (first | with_reducible assumption | with_reducible refine below_drewNR ?_ _ | with_reducible refine Below.drew ?_ | with_reducible exact Below.refl _ _))) ?_; intro v5 w5 h5; obtain ⟨H5, hB5⟩ := h5; have H4 := hid (own_below H4.out.1 H5.out.2))
    | (refine step_callX 16 #[.tmp 125, .tmp 127] #[42, 42] rfl (by kernel_rfl) #[v4, v5] (by kernel_rfl) (hEq _ _ _ (by repeat (first | with_reducible assumption | with_reducible refine below_drewNR ?_ _ | with_reducible refine Below.drew ?_ | with_reducible exact Below.refl _ _)) H4.out H5.out.1) ?_; intro v6 w6 h6; obtain ⟨rfl, hB6⟩ := h6; clear H4 H5)
    | (refine step_callX 19 #[.tmp 132, .tmp 134] #[24, 29] rfl (by kernel_rfl) #[.pointer (some ⟨b, 0, none⟩), .int .i64 c] (by kernel_rfl) (hCnt _ _ (by repeat (first | with_reducible assumption | with_reducible refine below_drewNR ?_ _ | with_reducible refine Below.drew ?_ | with_reducible exact Below.refl _ _)) hcw) ?_; intro v7 w7 h7; obtain ⟨rfl, hw7⟩ := h7; have hw7 := hw7.symm; subst hw7)
    | (refine step_callX 20 #[.tmp 136, .tmp 138] #[26, 3] rfl (by kernel_rfl) #[.pointer (some ⟨p, 0, none⟩), .int .i64 c] (by kernel_rfl) (hRCnt _ _ (by repeat (first | with_reducible assumption | with_reducible refine below_drewNR ?_ _ | with_reducible refine Below.drew ?_ | with_reducible exact Below.refl _ _))) ?_; intro v8 w8 h8; obtain ⟨rfl, hw8⟩ := h8; have hw8 := hw8.symm; subst hw8)
    | (refine step_callX 19 #[.tmp 143, .tmp 144] #[24, 29] rfl (by kernel_rfl) #[.pointer (some ⟨b, 0, none⟩), .int .i64 a1] (by kernel_rfl) (hCnt _ _ (by repeat (first | with_reducible assumption | with_reducible refine below_drewNR ?_ _ | with_reducible refine Below.drew ?_ | with_reducible exact Below.refl _ _)) haw) ?_; intro v9 w9 h9; obtain ⟨rfl, hw9⟩ := h9; have hw9 := hw9.symm; subst hw9)
    | (refine step_callX 20 #[.tmp 146, .tmp 147] #[26, 3] rfl (by kernel_rfl) #[.pointer (some ⟨p, 0, none⟩), .int .i64 a1] (by kernel_rfl) (hRCnt _ _ (by repeat (first | with_reducible assumption | with_reducible refine below_drewNR ?_ _ | with_reducible refine Below.drew ?_ | with_reducible exact Below.refl _ _))) ?_; intro v10 w10 h10; obtain ⟨rfl, hw10⟩ := h10; have hw10 := hw10.symm; subst hw10))
            have HF := hid (HFin.out _ hB6)
            clear hRec hRRec hCod hRCod hSame hEq hCnt hRCnt HFin hx8 hB1 hB2 hB3 hB4 hB5 hB6
            go_wp2_with fail
            go_roundw
            case rel => exact ⟨i + 1, by omega, by omega, by go_num, HF⟩
            case measure => simp [intOf] <;> omega
      · go_wp2_with fail
        go_ret
        exact ⟨rfl, by obtain ⟨L, h, _⟩ := HR.out; exact h.1⟩
    · go_wp2_with fail
      go_ret
      exact ⟨rfl, by obtain ⟨L, h, _⟩ := HR.out; exact h.1⟩
end Go.Proofs.Yteaekoacongbcaa
