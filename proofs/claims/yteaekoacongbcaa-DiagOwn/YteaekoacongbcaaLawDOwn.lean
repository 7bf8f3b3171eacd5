/- DiagOwn: answers are new memory. -/
import Derived.Test.YteaekoacongbcaaCl
import Derived.Test.YteaekoacongbcaaOp12
import Derived.Deep.CutBlock
namespace Go.Proofs.Yteaekoacongbcaa
open Go.RowKit Go.Maps

theorem step_callY {P : Program} {ops : Array Oper} {o : Oper} {a : Act} {w : World} {K : Act → World → Prop} {Q : Exit → Act → World → Prop} {E : Prop} {R : Value → World → Prop}
    (f : FuncId) (ts : Array Operand) (ty : Array TypeId) (_ : o.op = .call { callee := .value (.func f), args := ts, argTypes := ty }) (hw : Region.wanted o (yielded ops a.tmps) = true) (args : Array Value) (hrun : (execOp a.eval o).run P w = .ok (.enter f args) w) (hc : Calls P f args w fun e w' => ∃ v, e = .returned v ∧ R v w') (hK : ∀ v w', R v w' → K (a.put o.dst v) w') :
    if Region.wanted o (yielded ops a.tmps) = true then Oper.wp P o a w K Q else E := by
  rw [if_pos hw]
  unfold Oper.wp
  rw [hrun]
  refine hc.mono ?_
  rintro e w'' ⟨v, rfl, hr⟩
  exact hK _ _ hr
/-- Note, whatever comes, and whatever it answers. -/
theorem dnote_all (b : Nat) (U : List Nat) (L : List R4) (c s n : Int) (w w0 : World) (h : DG w b U L) (hn : L.length < 999999) (hc : (Lit.int .i64 c).wf = true) (hb : Below w0.heap.size w0 w) (hU : ∀ k, k ∈ U → w0.heap.size ≤ k) :
    Calls Try.prog 9 #[.pointer (some ⟨b, 0, none⟩), .int .i64 c, .int .u32 s, .int .u32 n] w fun e w' => ∃ v, e = .returned v ∧
      (Hid (∃ U' L', DG w' b U' L' ∧ L'.length ≤ L.length + 1 ∧ ∀ k, k ∈ U' → w0.heap.size ≤ k) ∧ Below w0.heap.size w0 w') := by
  by_cases h0 : c = 0
  · subst h0
    refine (note_ok b s n w).mono ?_
    rintro e w' ⟨rfl, rfl⟩
    exact ⟨_, rfl, ⟨U, L, h, by omega, hU⟩, hb⟩
  · refine (dnote_any b U L c s n w h hn hc h0).mono ?_
    rintro e w' ⟨rfl, H⟩
    obtain ⟨U', h1, h2, h3⟩ := H.out
    refine ⟨_, rfl, ⟨U', _, h2, by simp, fun k hk => ?_⟩, h1.below hb hU hb.size⟩
    rcases h3 k hk with h | h
    · exact hU k h
    · have := hb.size; omega
theorem hid {P : Prop} (h : P) : Hid P := h
theorem list_of (o : Option Nat) (k : Nat) : k ∈ o.toList ↔ o = some k := by cases o <;> simp [eq_comm]
theorem own_up {w : World} {B e size n : Nat} {v : Value} {xs : List Value} (h : w.ownsRow B e size v n xs) : w.ownsRow 0 e size v n xs := by
  refine ⟨h.1, ?_⟩
  rcases h.2 with hn | ⟨g, cap, cur, rfl, hg, rest⟩
  · exact .inl hn
  · exact .inr ⟨g, cap, cur, rfl, Nat.zero_le _, rest⟩
/-- Six lists made one after the other share nothing; the first and the third may be written. -/
theorem own_apart {w wc k1 k2 k3 k4 k5 k6 : World} {b : Nat} {U : List Nat} {L : List R4} {va vb vx vy vk vc : Value} (hd : DG wc b U L) (hb : Below w.heap.size w wc)
    (hs : Below wc.heap.size wc k6 ∧ wc.heap.size ≤ k1.heap.size ∧ k1.heap.size ≤ k2.heap.size ∧ k2.heap.size ≤ k3.heap.size ∧ k3.heap.size ≤ k4.heap.size ∧ k4.heap.size ≤ k5.heap.size ∧ k5.heap.size ≤ k6.heap.size)
    (o1 : k1.ownsRow 0 32 4 va (lst L).length (rvs (lst L))) (l1 : ∀ k, va.ownBlock = some k → wc.heap.size ≤ k ∧ k < k1.heap.size)
    (o2 : k2.ownsRow 0 32 4 vb (lst L).length (rvs (lst L))) (l2 : ∀ k, vb.ownBlock = some k → k1.heap.size ≤ k ∧ k < k2.heap.size)
    (o3 : k3.ownsRow 0 29 1 vx (cds L).length ((cds L).map encZ)) (l3 : ∀ k, vx.ownBlock = some k → k2.heap.size ≤ k ∧ k < k3.heap.size)
    (o4 : k4.ownsRow 0 29 1 vy (cds L).length ((cds L).map encZ)) (l4 : ∀ k, vy.ownBlock = some k → k3.heap.size ≤ k ∧ k < k4.heap.size)
    (o5 : k5.ownsRow 0 32 4 vk (lst L).length (rvs (lst L))) (l5 : ∀ k, vk.ownBlock = some k → k4.heap.size ≤ k ∧ k < k5.heap.size)
    (o6 : k6.ownsRow 0 29 1 vc (cds L).length ((cds L).map encZ)) (l6 : ∀ k, vc.ownBlock = some k → k5.heap.size ≤ k ∧ k < k6.heap.size)
    (_b1 : Below wc.heap.size wc k1) (b2 : Below k1.heap.size k1 k2) (b3 : Below k2.heap.size k2 k3) (b4 : Below k3.heap.size k3 k4) (b5 : Below k4.heap.size k4 k5) (b6 : Below k5.heap.size k5 k6) :
    Ph k6 k6 (va.ownBlock.toList ++ vx.ownBlock.toList) va (lst L).length vx (cds L).length ∧ ∀ W, Off (va.ownBlock.toList ++ vx.ownBlock.toList) k6 W → DG W b U L ∧ W.ownsRow 0 32 4 vb (lst L).length (rvs (lst L)) ∧ W.ownsRow 0 29 1 vy (cds L).length ((cds L).map encZ) ∧ W.ownsRow 0 32 4 vk (lst L).length (rvs (lst L)) ∧ W.ownsRow 0 29 1 vc (cds L).length ((cds L).map encZ) ∧ Below w.heap.size w W := by
  obtain ⟨hbk, s1, s2, s3, s4, s5, s6⟩ := hs
  have mem : ∀ k, k ∈ va.ownBlock.toList ++ vx.ownBlock.toList ↔ (va.ownBlock = some k ∨ vx.ownBlock = some k) := fun k => by rw [List.mem_append, list_of, list_of]
  have p5 := own_below o5 b6
  have p4 := own_below (own_below o4 b5) b6
  have p3 := own_below (own_below (own_below o3 b4) b5) b6
  have p2 := own_below (own_below (own_below (own_below o2 b3) b4) b5) b6
  have p1 := own_below (own_below (own_below (own_below (own_below o1 b2) b3) b4) b5) b6
  have hult : ∀ k, k ∈ U → k < wc.heap.size := by obtain ⟨_, _, _, _, _, h⟩ := hd; exact h.ult
  refine ⟨⟨Off.refl _ _, ⟨_, p1⟩, ⟨_, p3⟩, fun k hk => .inl ((mem k).2 (.inl hk)), fun k hk => .inl ((mem k).2 (.inr hk)), fun k hk e => ?_⟩, fun W ho => ⟨(hd.below hbk).off ho fun k hk hm => ?_, own_off' p2 ho fun k hk hm => ?_, own_off' p4 ho fun k hk hm => ?_, own_off' p5 ho fun k hk hm => ?_, own_off' o6 ho fun k hk hm => ?_, ho.below (hb.trans (hbk.mono hb.size)) (fun k hk => ?_) (Nat.le_trans hb.size hbk.size)⟩⟩
  · have := l1 k hk; have := l3 k e; omega
  · have := hult k hk
    rcases (mem k).1 hm with h | h
    · have := l1 k h; omega
    · have := l3 k h; omega
  · have := l2 k hk
    rcases (mem k).1 hm with h | h
    · have := l1 k h; omega
    · have := l3 k h; omega
  · have := l4 k hk
    rcases (mem k).1 hm with h | h
    · have := l1 k h; omega
    · have := l3 k h; omega
  · have := l5 k hk
    rcases (mem k).1 hm with h | h
    · have := l1 k h; omega
    · have := l3 k h; omega
  · have := l6 k hk
    rcases (mem k).1 hm with h | h
    · have := l1 k h; omega
    · have := l3 k h; omega
  · have := hb.size
    rcases (mem k).1 hk with h | h
    · have := l1 k h; omega
    · have := l3 k h; omega
set_option maxHeartbeats 8000000 in
set_option maxRecDepth 100000 in
theorem diagOwn_walk (a0 : Option Addr) (len0 cap0 : Nat) (w : World) (w0 : OpRow w a0 len0) :
    Calls Try.prog 5 #[.slice a0 len0 cap0] w fun e w' => e = .returned (.bool true) ∧ Below w.heap.size w w' := by
  have hA := awake12 w
  have hlm : len0 ≤ 9223372036854775807 := w0.1
  have HW : Hid (OpRow w a0 len0) := w0
  clear w0
  go_enter Try.func5, Try.ntmps5
  go_wp2_with fail
  refine hA.mono ?_
  rintro e w1 ⟨rfl, hb1⟩
  clear hA
  go_wp2_with fail
  refine (dnew_any w1).mono ?_
  rintro e w2 ⟨rfl, H2⟩
  have H3 : Hid (Below w.heap.size w w2 ∧ ∃ U, DG w2 (w1.heap.size + 2) U [] ∧ ∀ k, k ∈ U → w.heap.size ≤ k) := by
    obtain ⟨h1, h2, h3⟩ := H2.out
    have := hb1.size
    exact ⟨hb1.trans (h1.mono this), _, h3, by simp; omega⟩
  clear hb1 H2
  generalize w1.heap.size + 2 = b at *
  go_upto_block 0 with fail
  go_cut [4] (fun _ wx => Hid (Below w.heap.size w wx ∧ ∃ U L, DG wx b U L ∧ L.length ≤ 40 ∧ ∀ k, k ∈ U → w.heap.size ≤ k))
  case first =>
    go_wp2_with fail
    go_loopw [4] (fun c wr => ∃ i, i ≤ len0 ∧ i ≤ 40 ∧ c = .int .i64 ((i : Nat) : Int) ∧ Hid (Below w.heap.size w wr ∧ ∃ U L, DG wr b U L ∧ L.length ≤ i ∧ ∀ k, k ∈ U → w.heap.size ≤ k)) (fun c _ => 40 - (intOf c).toNat)
    case atStart => exact ⟨0, by omega, by omega, rfl, H3.out.1, by obtain ⟨U, h1, h2⟩ := H3.out.2; exact ⟨U, [], h1, by simp, h2⟩⟩
    case round =>
      clear H3
      obtain ⟨i, hi, hi2, rfl, HR⟩ := hrel
      by_cases hlt : i < len0
      · by_cases hlt2 : i < 40
        · obtain ⟨q, off, rfl, hq, hz⟩ := HW.out.2 (by omega)
          obtain ⟨t, c, s, n, hcw, z0, z1, z2, z3⟩ := hz i hlt
          clear hz
          have hx : ∀ wx, Below w.heap.size w wx → wx.cell? ⟨q, off + i * 4 + 1, none⟩ = some (.int .i64 c) ∧ wx.cell? ⟨q, off + i * 4 + 2, none⟩ = some (.int .u32 s) ∧ wx.cell? ⟨q, off + i * 4 + 3, none⟩ = some (.int .u32 n) := fun wx h =>
            ⟨(World.cell?_of_block (a := ⟨q, off + i * 4 + 1, none⟩) (h.block q hq)).trans z1, (World.cell?_of_block (a := ⟨q, off + i * 4 + 2, none⟩) (h.block q hq)).trans z2, (World.cell?_of_block (a := ⟨q, off + i * 4 + 3, none⟩) (h.block q hq)).trans z3⟩
          have hbw := HR.out.1
          obtain ⟨U, L, hd, hLi, hU⟩ := HR.out.2
          have hN : ∀ wx, Off [] wr wx → Below w.heap.size w wx → Calls Try.prog 9 #[.pointer (some ⟨b, 0, none⟩), .int .i64 c, .int .u32 s, .int .u32 n] wx fun e w' => ∃ v, e = .returned v ∧ (Hid (∃ U' L', DG w' b U' L' ∧ L'.length ≤ L.length + 1 ∧ ∀ k, k ∈ U' → w.heap.size ≤ k) ∧ Below w.heap.size w w') := fun wx ho hb => dnote_all b U L c s n wx w (hd.off ho (by simp)) (by omega) hcw hb hU
          have HLi : Hid (L.length ≤ i) := hLi
          clear z0 z1 z2 z3 hd hU hLi HR
          go_wp2_with fail
          go_region_held3 (fun wx => wx.cell? ⟨q, off + i * 4 + 1, none⟩ = some (.int .i64 c) ∧ wx.cell? ⟨q, off + i * 4 + 2, none⟩ = some (.int .u32 s) ∧ wx.cell? ⟨q, off + i * 4 + 3, none⟩ = some (.int .u32 n)) (first | assumption | exact hx _ (by repeat (first | with_reducible assumption | with_reducible refine below_drewNR ?_ _ | with_reducible refine Below.drew ?_ | with_reducible exact Below.refl _ _))) (first
            | (refine step_callY 9 #[.tmp 27, .tmp 32, .tmp 37, .tmp 42] #[24, 29, 30, 30] rfl (by kernel_rfl) #[.pointer (some ⟨b, 0, none⟩), .int .i64 c, .int .u32 s, .int .u32 n] (by kernel_rfl) (hN _ (by first | exact Off.drewN [] _ _ | exact Off.drew [] _ | exact Off.refl [] _) (by repeat (first | with_reducible assumption | with_reducible refine below_drewNR ?_ _ | with_reducible refine Below.drew ?_ | with_reducible exact Below.refl _ _))) ?_; intro v5 w5 h5; obtain ⟨H5, hB5⟩ := h5))
          have HF : Hid (Below w.heap.size w w5 ∧ ∃ U L, DG w5 b U L ∧ L.length ≤ i + 1 ∧ ∀ k, k ∈ U → w.heap.size ≤ k) := by
            obtain ⟨U', L', h1, h2, h3⟩ := H5.out
            have := HLi.out
            exact ⟨hB5, U', L', h1, by omega, h3⟩
          clear H5 hB5 hN hx hbw
          go_wp2_with fail
          go_roundw
          case rel => exact ⟨i + 1, by omega, by omega, by go_num, HF⟩
          case measure => simp [intOf] <;> omega
        · go_wp2_with fail
          go_meet
          exact ⟨HR.out.1, by obtain ⟨U, L, h1, h2, h3⟩ := HR.out.2; exact ⟨U, L, h1, by omega, h3⟩⟩
      · go_wp2_with fail
        go_meet
        exact ⟨HR.out.1, by obtain ⟨U, L, h1, h2, h3⟩ := HR.out.2; exact ⟨U, L, h1, by omega, h3⟩⟩
  case rest =>
    clear H3 HW hlm
    obtain ⟨hb0, U, L, hd0, hL, hU⟩ := hcut.out
    have HB : Hid (Below w.heap.size w wc ∧ DG wc b U L) := ⟨hb0, hd0⟩
    have hlst : (lst L).length ≤ 1000000 := by rw [lst_len]; omega
    have hcds : (cds L).length ≤ 1000000 := by have := cds_len L; omega
    clear hb0 hd0 hcut hU
    go_wp2_with fail
    refine (records_any b U L wc HB.out.2 (by omega)).mono ?_
    rintro e k1 ⟨va, rfl, H1⟩
    go_wp2_with fail
    refine (records_any b U L k1 (HB.out.2.below H1.out.2) (by omega)).mono ?_
    rintro e k2 ⟨vb, rfl, H2⟩
    have hd2 := hid ((HB.out.2.below H1.out.2).below H2.out.2)
    go_wp2_with fail
    refine (codes_any b U L k2 hd2.out (by omega)).mono ?_
    rintro e k3 ⟨vx, rfl, H3⟩
    have hd3 := hid (hd2.out.below H3.out.2.2)
    go_wp2_with fail
    refine (codes_any b U L k3 hd3.out (by omega)).mono ?_
    rintro e k4 ⟨vy, rfl, H4⟩
    have hd4 := hid (hd3.out.below H4.out.2.2)
    have ob4 := hid (own_below (own_below H2.out.1 H3.out.2.2) H4.out.2.2)
    go_wp2_with fail
    refine (clone4_any vb _ (lst L) k4 ob4.out hlst).mono ?_
    rintro e k5 ⟨vk, rfl, H5⟩
    go_wp2_with fail
    refine (clone1_any vy _ (cds L) k5 (own_below H4.out.1 H5.out.2) hcds).mono ?_
    rintro e k6 ⟨vc, rfl, H6⟩
    have hbk6 : Hid (Below wc.heap.size wc k6 ∧ wc.heap.size ≤ k1.heap.size ∧ k1.heap.size ≤ k2.heap.size ∧ k2.heap.size ≤ k3.heap.size ∧ k3.heap.size ≤ k4.heap.size ∧ k4.heap.size ≤ k5.heap.size ∧ k5.heap.size ≤ k6.heap.size) := by
      have b1 := H1.out.2
      have b2 := H2.out.2
      have b3 := H3.out.2.2
      have b4 := H4.out.2.2
      have b5 := H5.out.2
      have b6 := H6.out.2
      have s1 := b1.size
      have s2 := b2.size
      have s3 := b3.size
      have s4 := b4.size
      have s5 := b5.size
      exact ⟨((((b1.trans (b2.mono s1)).trans (b3.mono (by omega))).trans (b4.mono (by omega))).trans (b5.mono (by omega))).trans (b6.mono (by omega)), s1, s2, s3, s4, s5, b6.size⟩
    have HX := own_apart HB.out.2 HB.out.1 hbk6.out (own_up H1.out.1) H1.out.1.lt (own_up H2.out.1) H2.out.1.lt (own_up H3.out.1) H3.out.1.lt (own_up H4.out.1) H4.out.1.lt (own_up H5.out.1) H5.out.1.lt (own_up H6.out.1) H6.out.1.lt H1.out.2 H2.out.2 H3.out.2.2 H4.out.2.2 H5.out.2 H6.out.2
    have HPh : Hid (Ph k6 k6 (va.ownBlock.toList ++ vx.ownBlock.toList) va (lst L).length vx (cds L).length) := HX.1
    have HKeep : Hid (∀ W, Off (va.ownBlock.toList ++ vx.ownBlock.toList) k6 W → DG W b U L ∧ W.ownsRow 0 32 4 vb (lst L).length (rvs (lst L)) ∧ W.ownsRow 0 29 1 vy (cds L).length ((cds L).map encZ) ∧ W.ownsRow 0 32 4 vk (lst L).length (rvs (lst L)) ∧ W.ownsRow 0 29 1 vc (cds L).length ((cds L).map encZ) ∧ Below w.heap.size w W) := HX.2
    clear HX hbk6 ob4 hd2 hd3 hd4 HB
    generalize va.ownBlock.toList ++ vx.ownBlock.toList = la at *
    obtain ⟨aa, capa, rfl, _, _⟩ := own_cells4 H1.out.1
    obtain ⟨ax, capx, rfl, _, _⟩ := own_cells1 H3.out.1
    clear H1 H2 H3 H4 H5 H6
    obtain ⟨n, en⟩ : ∃ n, n = (lst L).length := ⟨_, rfl⟩
    obtain ⟨m, em⟩ : ∃ m, m = (cds L).length := ⟨_, rfl⟩
    have hn16 : n ≤ 16 := by rw [en, lst_len]; omega
    have hm40 : m ≤ 40 := by rw [em]; have := cds_len L; omega
    have HE : Hid (n = (lst L).length ∧ m = (cds L).length) := ⟨en, em⟩
    rw [← en, ← em] at HPh
    rw [← en, ← em]
    clear en em
    go_upto_block 2 with fail
    go_cut [11, 58] (fun _ _ wx => Hid (Ph k6 wx la (.slice aa n capa) n (.slice ax m capx) m))
    case first =>
      go_wp2_with fail
      go_loopw [11, 58] (fun _ x wr => ∃ i, i ≤ n ∧ x = .int .i64 ((i : Nat) : Int) ∧ Hid (Ph k6 wr la (.slice aa n capa) n (.slice ax m capx) m)) (fun _ x _ => n - (intOf x).toNat)
      case atStart => exact ⟨0, by omega, rfl, HPh⟩
      case round =>
        obtain ⟨i, hi, rfl, HR⟩ := hrel
        by_cases hlt : i < n
        · obtain ⟨g, cap', e, _, hc⟩ := HR.out.ra.there hlt
          simp only [Value.slice.injEq] at e
          obtain ⟨rfl, _, _⟩ := e
          obtain ⟨⟨u0, c0⟩, f0⟩ := hc 0 (by omega)
          obtain ⟨⟨u1, c1⟩, f1⟩ := hc 1 (by omega)
          obtain ⟨⟨u2, c2⟩, f2⟩ := hc 2 (by omega)
          obtain ⟨⟨u3, c3⟩, f3⟩ := hc 3 (by omega)
          rw [Nat.add_zero] at c0 f0
          have HF : Hid (Ph k6 ((((wr.setCell ⟨g, i * 4, none⟩ (.int .i64 (-5))).setCell ⟨g, i * 4 + 1, none⟩ (.int .i64 0)).setCell ⟨g, i * 4 + 2, none⟩ (.int .u32 0)).setCell ⟨g, i * 4 + 3, none⟩ (.int .u32 0)) la (.slice (some ⟨g, 0, none⟩) n capa) n (.slice ax m capx) m) :=
            (((HR.out.set (.inl rfl) _ _).set (.inl rfl) _ _).set (.inl rfl) _ _).set (.inl rfl) _ _
          clear hc HR
          go_wp2_with fail
          go_roundw
          case rel => exact ⟨i + 1, by omega, by go_num, HF⟩
          case measure => simp [intOf] <;> omega
        · go_wp2_with fail
          go_meet
          exact HR
    case rest =>
      clear HPh
      go_upto_block 4 with fail
      go_cut [12, 68] (fun _ _ wx => Hid (Ph k6 wx la (.slice aa n capa) n (.slice ax m capx) m))
      case first =>
        go_wp2_with fail
        go_loopw [12, 68] (fun _ x wr => ∃ i, i ≤ m ∧ x = .int .i64 ((i : Nat) : Int) ∧ Hid (Ph k6 wr la (.slice aa n capa) n (.slice ax m capx) m)) (fun _ x _ => m - (intOf x).toNat)
        case atStart => exact ⟨0, by omega, rfl, hcut⟩
        case round =>
          obtain ⟨i, hi, rfl, HR⟩ := hrel
          by_cases hlt : i < m
          · obtain ⟨g, cap', e, _, hc⟩ := HR.out.rx.there hlt
            simp only [Value.slice.injEq] at e
            obtain ⟨rfl, _, _⟩ := e
            obtain ⟨⟨u0, c0⟩, f0⟩ := hc 0 (by omega)
            rw [Nat.add_zero, Nat.mul_one] at c0 f0
            have HF : Hid (Ph k6 (wr.setCell ⟨g, i, none⟩ (.int .i64 (-7))) la (.slice aa n capa) n (.slice (some ⟨g, 0, none⟩) m capx) m) := HR.out.set (.inr rfl) _ _
            clear hc HR
            go_wp2_with fail
            go_roundw
            case rel => exact ⟨i + 1, by omega, by go_num, HF⟩
            case measure => simp [intOf] <;> omega
          · go_wp2_with fail
            go_meet
            exact HR
      case rest =>
        obtain ⟨i0, hi0, hz0, hz1, hz2⟩ := info_parts info_rec
        obtain ⟨i1, hi1, hy0, hy1, hy2⟩ := info_parts info_err
        go_wp2_with fail
        go_loopw [5, 7, 13] (fun v y x wr => ∃ i, i ≤ 30 ∧ x = .int .i64 ((i : Nat) : Int) ∧ Hid (Ph k6 wr la v (n + i) y (m + i))) (fun _ _ x _ => 30 - (intOf x).toNat)
        case atStart => exact ⟨0, by omega, rfl, hcut⟩
        case round =>
          obtain ⟨i, hi, rfl, HR⟩ := hrel
          by_cases hlt : i < 30
          · obtain ⟨xs, hown⟩ := (HR.out.alloc (.cells #[.int .i64 (-6), .int .i64 0, .int .u32 0, .int .u32 0] 32)).ra
            have hnew := cells_rv (x := ((-6, 0, 0, 0) : R4)) (heap_alloc_new wr (.cells #[.int .i64 (-6), .int .i64 0, .int .u32 0, .int .u32 0] 32))
            go_wp2_with (at_builtin; refine wpList_append_own_at _ rfl (.tmp 79) (.tmp 81) 22 rfl 0 32 i0 _ 4 24 Try.underlying22 hi0 hz0 hz1 hz2 rfl (by decide) _ (n + i) xs rfl hown ⟨wr.heap.size, 0, none⟩ 1 1 (rv ((-6, 0, 0, 0) : R4)) rfl rfl hnew (rv_one _) (by unfold maxLen; omega) (by omega) (Nat.zero_le _) ?_)
            intro v3 w3 hown3 hgrow3 _ hb3
            have HR3 : Hid (Ph k6 w3 la v3 (n + i + 1) _ (m + i)) := (HR.out.alloc _).appA hown3 hgrow3 (by simpa using hb3)
            clear hown3 hgrow3 hb3 hown hnew HR
            obtain ⟨ys, hown⟩ := (HR3.out.alloc (.cells #[.int .i64 (-8)] 29)).rx
            have hnew := one_cell (heap_alloc_new w3 (.cells #[.int .i64 (-8)] 29)) _ rfl
            go_wp2_with (at_builtin; refine wpList_append_own_at _ rfl (.tmp 83) (.tmp 84) 42 rfl 0 29 i1 _ 1 8 Try.underlying42 hi1 hy0 hy1 hy2 rfl (by decide) _ (m + i) ys rfl hown ⟨w3.heap.size, 0, none⟩ 1 1 ([-8].map encZ) rfl rfl hnew (by intro u hu; simp at hu; subst hu; rfl) (by unfold maxLen; omega) (by omega) (Nat.zero_le _) ?_)
            intro v4 w4 hown4 hgrow4 _ hb4
            have HR4 : Hid (Ph k6 w4 la v3 (n + i + 1) v4 (m + i + 1)) := (HR3.out.alloc _).appX hown4 hgrow4 (by simpa using hb4)
            clear hown4 hgrow4 hb4 hown hnew HR3
            go_wp2_with fail
            go_roundw
            case rel => exact ⟨i + 1, by omega, by go_num, HR4⟩
            case measure => simp [intOf] <;> omega
          · obtain rfl : i = 30 := by omega
            obtain ⟨g, capA, rfl, _⟩ := HR.out.ra.there (i := 0) (by omega)
            obtain ⟨g', capX, rfl, _⟩ := HR.out.rx.there (i := 0) (by omega)
            obtain ⟨hd, ob, oy, ok, oc, hbw⟩ := HKeep.out wr HR.out.off
            obtain ⟨N, eN⟩ : ∃ N, N = n + 30 := ⟨_, rfl⟩
            obtain ⟨M, eM⟩ : ∃ M, M = m + 30 := ⟨_, rfl⟩
            rw [← eN, ← eM]
            have hN : ((N : Int) < 30) = False := eq_false (by omega)
            have hM : ((M : Int) < 30) = False := eq_false (by omega)
            have HQ : Hid (DG wr b U L ∧ wr.ownsRow 0 32 4 vb (lst L).length (rvs (lst L)) ∧ wr.ownsRow 0 29 1 vy (cds L).length ((cds L).map encZ) ∧ wr.ownsRow 0 32 4 vk (lst L).length (rvs (lst L)) ∧ wr.ownsRow 0 29 1 vc (cds L).length ((cds L).map encZ) ∧ Below w.heap.size w wr) := ⟨hd, ob, oy, ok, oc, hbw⟩
            clear HR hd ob oy ok oc hbw eN eM HKeep
            go_wp2_with fail
            refine (same_any vb vk 0 0 (lst L) wr HQ.out.2.1 HQ.out.2.2.2.1 hlst).mono ?_
            rintro e q1 ⟨rfl, j1, hq1⟩
            have HQ1 : Hid (DG q1 b U L ∧ q1.ownsRow 0 29 1 vy (cds L).length ((cds L).map encZ) ∧ q1.ownsRow 0 32 4 vk (lst L).length (rvs (lst L)) ∧ q1.ownsRow 0 29 1 vc (cds L).length ((cds L).map encZ) ∧ Below w.heap.size w q1) := by
              rw [hq1]
              obtain ⟨h1, h2, h3, h4, h5, h6⟩ := HQ.out
              exact ⟨h1.off (Off.drewN [] wr j1) (by simp), h3, h4, h5, below_drewNR h6 j1⟩
            clear hq1 HQ
            go_wp2_with fail
            refine (equal_any vy vc 0 0 (cds L) q1 HQ1.out.2.1 HQ1.out.2.2.2.1 hcds).mono ?_
            rintro e q2 ⟨rfl, j2, hq2⟩
            have HQ2 : Hid (DG q2 b U L ∧ q2.ownsRow 0 32 4 vk (lst L).length (rvs (lst L)) ∧ q2.ownsRow 0 29 1 vc (cds L).length ((cds L).map encZ) ∧ Below w.heap.size w q2) := by
              rw [hq2]
              obtain ⟨h1, h2, h3, h4, h5⟩ := HQ1.out
              exact ⟨h1.off (Off.drewN [] q1 j2) (by simp), h3, h4, below_drewNR h5 j2⟩
            clear hq2 HQ1
            go_wp2_with fail
            refine (records_any b U L q2 HQ2.out.1 (by omega)).mono ?_
            rintro e q3 ⟨vr, rfl, H3⟩
            go_wp2_with fail
            refine (same_any vr vk _ 0 (lst L) q3 H3.out.1 (own_below HQ2.out.2.1 H3.out.2) hlst).mono ?_
            rintro e q4 ⟨rfl, j4, hq4⟩
            have HQ4 : Hid (DG q4 b U L ∧ q4.ownsRow 0 29 1 vc (cds L).length ((cds L).map encZ) ∧ Below w.heap.size w q4) := by
              rw [hq4]
              obtain ⟨h1, h2, h3, h4⟩ := HQ2.out
              have hb := H3.out.2
              exact ⟨(h1.below hb).off (Off.drewN [] q3 j4) (by simp), own_below (own_below h3 hb) (below_drewNR (Below.refl _ _) j4), below_drewNR (h4.trans (hb.mono h4.size)) j4⟩
            clear hq4 HQ2 H3
            go_wp2_with fail
            refine (codes_any b U L q4 HQ4.out.1 (by omega)).mono ?_
            rintro e q5 ⟨vz, rfl, H5⟩
            go_wp2_with fail
            refine (equal_any vz vc _ 0 (cds L) q5 H5.out.1 (own_below HQ4.out.2.1 H5.out.2.2) hcds).mono ?_
            rintro e q6 ⟨rfl, j6, hq6⟩
            have HQ6 : Hid (Below w.heap.size w q6) := by
              rw [hq6]
              exact below_drewNR (HQ4.out.2.2.trans (H5.out.2.2.mono HQ4.out.2.2.size)) j6
            clear hq6 HQ4 H5
            go_wp2_with fail
            go_ret
            exact ⟨rfl, HQ6⟩
end Go.Proofs.Yteaekoacongbcaa
