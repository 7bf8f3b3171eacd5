/- Layer 20: a move's line. (gensi.py) -/
import Derived.Test.YtnmnjcjfgbpkaaaDoorJSg
import Derived.Laws.AppendOwnNone
namespace Go.Proofs.YtnmnjcjfgbpkaaaDoor
set_option maxRecDepth 100000
open Go.RowKit Go.Maps
set_option maxRecDepth 100000
def wsT (ls : List (List UInt8)) : List Value := ls.map fun l => .string (tx l)
theorem wsT_snoc (ls : List (List UInt8)) (l : List UInt8) : wsT ls ++ [.string (tx l)] = wsT (ls ++ [l]) := by
  unfold wsT
  rw [List.map_append]
  rfl
/-- The words of a move's line. -/
def Mv.w1 (m : Mv) : List (List UInt8) := [kws.getD m.k.toNat [], Lib.itoa m.c]
def Mv.w2 (m : Mv) : List (List UInt8) := if sided m.k then [if m.s = 1 then [104] else [100]] else []
def Mv.w3 (m : Mv) : List (List UInt8) := if m.k = 1 then (120 :: hx m.l m.b) :: (if m.h then [[104, 111, 108, 100]] else []) else []
def Mv.w4 (m : Mv) : List (List UInt8) := m.ns.map Lib.itoa
def Mv.ws (m : Mv) : List (List UInt8) := m.w1 ++ m.w2 ++ m.w3 ++ m.w4
def Mv.line (m : Mv) : List UInt8 := Lib.join m.ws [32]
/-- Words so far. -/
structure Wd (W wx : World) (v : Value) (ls : List (List UInt8)) : Prop where
  own : wx.ownsRow W.heap.size 9 1 v ls.length (wsT ls)
  bel : Below W.heap.size W wx
theorem Wd.app {W wx w2 w7 : World} {v v7 : Value} {ls : List (List UInt8)} {l : List UInt8} {X : ByteArray} (h : Wd W wx v ls) (hX : tx l = X) (b2 : Below wx.heap.size wx w2) (O7 : w7.ownsRow W.heap.size 9 1 v7 (ls.length + 1) (wsT ls ++ [.string X])) (G7 : (w2.alloc (.cells #[.string X] 9)).grownBy w7 v.ownBlock) : Wd W w7 v7 (ls ++ [l]) := by
  have b3 : Below W.heap.size W (w2.alloc (.cells #[.string X] 9)) := h.bel.trans ((belA b2 _).mono h.bel.size)
  refine ⟨?_, b3.grown G7 b3.size (fun k hk => (h.own.lt k hk).1)⟩
  rw [← wsT_snoc, hX, List.length_append]
  exact O7
theorem Wd.len {W wx : World} {v : Value} {ls : List (List UInt8)} (h : Wd W wx v ls) (hl : 0 < ls.length) : ∃ g c, v = .slice (some ⟨g, 0, none⟩) ls.length c := by
  rcases h.own.2 with ⟨_, hn⟩ | ⟨g, cap, cur, e, _⟩
  · omega
  · exact ⟨g, cap, e⟩
/-- append of one word in a new block. -/
theorem wpList_appW {ops : Array Oper} {rest : List Oper} {o : Oper} {a : Act} {Q : Exit → Act → World → Prop} {w2 : World} (hgd : o.guard = none) (s x : Operand) (hop : o.op = Op.call { callee := Callee.builtin Builtin.append, args := #[s, x], argTypes := #[51, 51] })
    {W wx : World} {v : Value} {ls : List (List UInt8)} (l : List UInt8) (X : ByteArray) (hX : tx l = X) (h : Wd W wx v ls) (b2 : Below wx.heap.size wx w2) (hs : a.eval s = v) (hx : a.eval x = .slice (some ⟨w2.heap.size, 0, none⟩) 1 1) (hl : ls.length ≤ 1000)
    (hK : ∀ v7 w7, Hid (Wd W w7 v7 (ls ++ [l])) → wpList Tryd.prog ops Q rest (a.put o.dst v7) w7) : wpList Tryd.prog ops Q (o :: rest) a (w2.alloc (.cells #[.string X] 9)) := by
  obtain ⟨i0, hIn, hz0, hz1, hz2⟩ := info_parts info_str
  have O3 := ownB h.own (belA b2 (.cells #[.string X] 9))
  have B3 : W.heap.size ≤ (w2.alloc (.cells #[.string X] 9)).heap.size := Nat.le_trans h.bel.size (belA b2 (.cells #[.string X] 9)).size
  refine wpList_append_own_at _ hgd s x 51 hop W.heap.size 9 i0 (.string (ByteArray.mk #[])) 1 16 Tryd.underlying51 hIn hz0 hz1 hz2 rfl (by decide) v ls.length (wsT ls) hs O3 ⟨w2.heap.size, 0, none⟩ 1 1 [.string X] hx rfl (one_str w2 X) (one_strO X) (by unfold maxLen; omega) (by omega) B3 ?_
  intro v7 w7 O7 G7 _ _
  exact hK v7 w7 (h.app hX b2 O7 G7)
/-- append of a list of words of our own (perhaps none). -/
theorem wpList_appWs {ops : Array Oper} {rest : List Oper} {o : Oper} {a : Act} {Q : Exit → Act → World → Prop} {w2 : World} (hgd : o.guard = none) (s x : Operand) (hop : o.op = Op.call { callee := Callee.builtin Builtin.append, args := #[s, x], argTypes := #[51, 51] })
    {W wx : World} {v v8 : Value} {ls : List (List UInt8)} (l8 : List (List UInt8)) {B8 : Nat} (h : Wd W wx v ls) (b2 : Below wx.heap.size wx w2) (o8 : w2.ownsRow B8 9 1 v8 l8.length (wsT l8)) (z8 : l8.length = 0 → v8 = .slice none 0 0) (hs : a.eval s = v) (hx : a.eval x = v8) (hl : ls.length ≤ 1000) (hl8 : l8.length ≤ 1000)
    (hK : ∀ v7 w7, Hid (Wd W w7 v7 (ls ++ l8)) → wpList Tryd.prog ops Q rest (a.put o.dst v7) w7) : wpList Tryd.prog ops Q (o :: rest) a w2 := by
  obtain ⟨i0, hIn, hz0, hz1, hz2⟩ := info_parts info_str
  have O3 := ownB h.own b2
  have B3 : W.heap.size ≤ w2.heap.size := Nat.le_trans h.bel.size b2.size
  have b3 : Below W.heap.size W w2 := h.bel.trans (b2.mono h.bel.size)
  by_cases h0 : l8.length = 0
  · have e8 := List.length_eq_zero_iff.1 h0
    refine wpList_append_own_none hgd s x 51 hop W.heap.size 9 i0 1 Tryd.underlying51 hIn v ls.length (wsT ls) hs O3 (hx.trans (z8 h0)) ?_
    refine hK v w2 ⟨?_, b3⟩
    rw [e8, List.append_nil]
    exact O3
  · obtain ⟨n8, hn8⟩ : ∃ n, l8.length = n + 1 := ⟨l8.length - 1, by omega⟩
    rw [hn8] at o8
    obtain ⟨g, c, ev, _⟩ := own_slcS o8
    rw [ev] at o8 hx
    obtain ⟨hc, _, _, _⟩ := own_cellsS o8
    refine wpList_append_own_at _ hgd s x 51 hop W.heap.size 9 i0 (.string (ByteArray.mk #[])) 1 16 Tryd.underlying51 hIn hz0 hz1 hz2 rfl (by decide) v ls.length (wsT ls) hs O3 ⟨g, 0, none⟩ (n8 + 1) c (wsT l8) hx (by unfold wsT; simp [hn8]) (fun j u hu => by
      have e : (⟨g, 0, none⟩ : Addr).add j = ⟨g, j, none⟩ := by unfold Addr.add; simp; omega
      rw [e]
      exact hc j u hu) (fun u hu => by
      unfold wsT at hu
      obtain ⟨l, _, rfl⟩ := List.mem_map.1 hu
      rfl) (by unfold maxLen; omega) (by omega) B3 ?_
    intro v7 w7 O7 G7 _ _
    refine hK v7 w7 ⟨?_, b3.grown G7 b3.size (fun k hk => (h.own.lt k hk).1)⟩
    have e : wsT ls ++ wsT l8 = wsT (ls ++ l8) := by unfold wsT; rw [List.map_append]
    rw [← e, List.length_append, hn8]
    exact O7
theorem sL_ns (l : List Int) : sL l.length (zf l) = wsT (l.map Lib.itoa) := by
  unfold sL wsT zf
  apply List.ext_getElem?
  intro j
  simp only [List.getElem?_map, List.map_map]
  by_cases hj : j < l.length
  · rw [List.getElem?_range hj, List.getElem?_eq_getElem hj]
    simp [List.getD_eq_getElem?_getD, List.getElem?_eq_getElem hj]
  · rw [List.getElem?_eq_none (by simpa using hj), List.getElem?_eq_none (by simpa using hj)]
    rfl
theorem join_len (K : Nat) : ∀ ls : List (List UInt8), (∀ l ∈ ls, l.length ≤ K) → (Lib.join ls [32]).length ≤ ls.length * (K + 1)
  | [], _ => by simp [Lib.join, List.intercalate]
  | [x], h => by
    have := h x (by simp)
    simp [Lib.join, List.intercalate]
    omega
  | x :: y :: t, h => by
    have h1 := h x (by simp)
    have h2 := join_len K (y :: t) (fun l hl => h l (by simp [hl]))
    have e : Lib.join (x :: y :: t) [32] = x ++ [32] ++ Lib.join (y :: t) [32] := by simp [Lib.join, List.intercalate]
    rw [e]
    simp only [List.length_append, List.length_cons, List.length_nil] at h2 ⊢
    have e2 : (t.length + 1 + 1) * (K + 1) = (t.length + 1) * (K + 1) + (K + 1) := by rw [Nat.add_mul (t.length + 1) 1, Nat.one_mul]
    omega
theorem Mv.w_len (m : Mv) : (m.w1 ++ m.w2 ++ m.w3).length ≤ 5 ∧ 0 < (m.w1 ++ m.w2 ++ m.w3).length := by
  unfold Mv.w2 Mv.w3
  repeat' split
  all_goals simp [Mv.w1]
theorem kws_len (i : Nat) : (kws.getD i []).length ≤ 7 := by
  rw [List.getD_eq_getElem?_getD]
  cases h : kws[i]? with
  | none => simp
  | some l =>
    have : l ∈ kws := List.mem_of_getElem? h
    have hall : ∀ l ∈ kws, l.length ≤ 7 := by decide
    simpa using hall l this
theorem Mv.line_len {m : Mv} (h : m.Ok) (hl : m.l ≤ 100000) : m.line.length ≤ 2000000 ∧ m.ws.length ≤ 8 ∧ 0 < m.ws.length := by
  have hw := m.w_len
  have h8 : m.ws.length ≤ 8 ∧ 0 < m.ws.length := by
    have := m.ns_len
    have e : m.ws.length = (m.w1 ++ m.w2 ++ m.w3).length + m.ns.length := by unfold Mv.ws Mv.w4; rw [List.length_append, List.length_map]
    omega
  refine ⟨?_, h8⟩
  refine Nat.le_trans (join_len 200001 m.ws fun l hl' => ?_) (by have := h8.1; omega)
  unfold Mv.ws at hl'
  rcases List.mem_append.1 hl' with hl' | hl'
  · rcases List.mem_append.1 hl' with hl' | hl'
    · rcases List.mem_append.1 hl' with hl' | hl'
      · unfold Mv.w1 at hl'
        rcases List.mem_cons.1 hl' with rfl | hl'
        · have := kws_len m.k.toNat
          omega
        · rw [List.mem_singleton.1 hl']
          have := itoa_len h.c.1 h.c.2
          omega
      · unfold Mv.w2 at hl'
        split at hl'
        · rw [List.mem_singleton.1 hl']
          split <;> simp
        · cases hl'
    · unfold Mv.w3 at hl'
      split at hl'
      · rcases List.mem_cons.1 hl' with rfl | hl'
        · have := hx_len m.l m.b
          simp only [List.length_cons]
          omega
        · split at hl'
          · rw [List.mem_singleton.1 hl']
            simp
          · cases hl'
      · cases hl'
  · unfold Mv.w4 at hl'
    obtain ⟨z, hz, rfl⟩ := List.mem_map.1 hl'
    have := Mv.ns_ok h z hz
    have := itoa_len this.1 this.2
    omega
set_option maxHeartbeats 2000000 in
theorem pmove (m : Mv) (hm : m.Ok) (d : Option Addr) (e : Nat) (w : World) (hr : Row8 w d m.l e m.b) (hl : m.l ≤ 100000) (L : Lk w) : Calls Tryd.prog 19 #[.agg #[.int .i64 m.k, .int .i64 m.c, .int .i64 m.s, .int .i64 m.f, .int .i64 m.a, .int .u32 (m.w : Nat), .int .i64 m.n, .bool m.h, .slice d m.l e]] w fun r w' => r = .returned (.tuple #[.string (if m.err = 0 then tx m.line else ByteArray.mk #[]), .int .i64 m.err]) ∧ Below w.heap.size w w' := by
  obtain ⟨W, hW⟩ : ∃ W : World, w.alloc (.cells #[.int .i64 m.k, .int .i64 m.c, .int .i64 m.s, .int .i64 m.f, .int .i64 m.a, .int .u32 (m.w : Nat), .int .i64 m.n, .bool m.h, .slice d m.l e] 45) = W := ⟨_, rfl⟩
  have bW : Below w.heap.size w W := by rw [← hW]; exact belA (Below.refl _ _) _
  have mW : MvW W w.heap.size m d e := by rw [← hW]; exact MvW.new w m d e
  have hRf := prefusal m hm d e W (by omega)
  have HW : Hid (_) := And.intro bW (And.intro mW (And.intro (hr.below bW) (And.intro (L.below bW) hm)))
  obtain ⟨c0, c1, c2, c3, c4, c5, c6, c7, c8⟩ := mW.cells
  clear bW mW hr L hm
  by_cases hE : m.err = 0
  · rw [hE] at hRf
    rw [if_pos hE, hE]
    go_enter Tryd.func19, Tryd.ntmps19
    go_wp2_with fail
    try rw [hW]
    clear hW
    refine hRf.mono ?_
    rintro r w1 ⟨rfl, b1⟩
    clear hRf c0 c1 c2 c3 c4 c5 c6 c7 c8
    have HB1 : Hid (_) := b1
    obtain ⟨bW, mW, R, L, hm⟩ := HW.out
    have k1 : 1 ≤ m.k ∧ m.k ≤ 8 := by
      unfold Mv.err at hE
      repeat' split at hE
      all_goals first | omega | skip
    obtain ⟨kk, hkk⟩ : ∃ kk : Nat, m.k = ((kk : Nat) : Int) := ⟨m.k.toNat, by omega⟩
    have hk8 : kk < 9 := by omega
    obtain ⟨Kw, hKw⟩ : ∃ l, kws[kk]? = some l := by
      have : kk < kws.length := hk8
      exact ⟨_, List.getElem?_eq_getElem this⟩
    have hKg : kws.getD m.k.toNat [] = Kw := by rw [hkk, Int.toNat_natCast, List.getD_eq_getElem?_getD, hKw]; rfl
    obtain ⟨c0, c1, c2, c3, c4, c5, c6, c7, c8⟩ := (mW.below b1).cells
    rw [hkk] at c0
    have g0 := (L.below b1).word kk hKw
    have hI := fun wx (bx : Below w1.heap.size w1 wx) => pitoa m.c hm.c.1 hm.c.2 wx ((L.below b1).below bx)
    have hS : ∀ wx, Below w1.heap.size w1 wx → wx.cell? ⟨w.heap.size, 0, none⟩ = some (.int .i64 ((kk : Nat) : Int)) ∧ wx.cell? ⟨w.heap.size, 1, none⟩ = some (.int .i64 m.c) ∧ wx.cell? ⟨0, kk, none⟩ = some (.string (tx Kw)) := fun wx bx => ⟨cellB c0 bx, cellB c1 bx, cellB g0 bx⟩
    have HSd := hS w1.drew (Below.drew (Below.refl _ _))
    have hIc : ∀ wx, Below w1.heap.size w1 wx → Calls Tryd.prog 28 #[.int .i64 m.c] wx fun r w' => ∃ x, r = .returned x ∧ (x = .string (tx (Lib.itoa m.c)) ∧ Below w1.heap.size w1 w') := fun wx bx => (hI wx bx).mono fun _ _ ⟨q, b⟩ => ⟨_, q, rfl, belTS b bx⟩
    have B0 : Below w1.heap.size w1 w1.drew := Below.drew (Below.refl _ _)
    have hk0 : (0 : Int) ≤ ((kk : Nat) : Int) := by omega
    have hk9 : ((kk : Nat) : Int) < 9 := by omega
    clear hI bW mW R L hm b1 hKw g0 c2 c3 c4 c5 c6 c7 c8
    generalize hA : tx (Lib.itoa m.c) = A at *
    generalize hKt : tx Kw = KW at *
    have HKw : Hid (tx Kw = KW ∧ tx (Lib.itoa m.c) = A ∧ kws.getD m.k.toNat [] = Kw) := ⟨hKt, hA, hKg⟩
    clear hA hKt hKg
    go_wp2_with fail
    go_region_held3 (fun wx => wx.cell? ⟨w.heap.size, 0, none⟩ = some (.int .i64 ((kk : Nat) : Int)) ∧ wx.cell? ⟨w.heap.size, 1, none⟩ = some (.int .i64 m.c) ∧ wx.cell? ⟨0, kk, none⟩ = some (.string KW)) (first | assumption | exact hS _ (by assumption) | exact hS _ (belA (by assumption) _)) (first
      | (refine step_callS 28 #[.tmp 16] #[3] rfl (by kernel_rfl) #[.int .i64 m.c] (by kernel_rfl) (hIc _ (by assumption)) ?_; rintro x v1 ⟨rfl, b1⟩)
      | fail)
    obtain ⟨w2, hw2⟩ : ∃ x, v1.alloc (.cells #[.string KW, .string A] 9) = x := ⟨_, rfl⟩
    obtain ⟨gv, hgv⟩ : ∃ x, v1.heap.size = x := ⟨_, rfl⟩
    have HWd : Hid (Wd W w2 (.slice (some ⟨gv, 0, none⟩) 2 2) m.w1) := by
      have bw1 := HB1.out
      have bb : Below W.heap.size W v1 := bw1.trans (b1.mono bw1.size)
      rw [← hw2, ← hgv]
      refine ⟨⟨rfl, .inr ⟨v1.heap.size, 2, _, rfl, bb.size, heap_alloc_new _ _, Nat.le_refl _, by decide, rfl, ?_⟩⟩, belA bb _⟩
      show _ = wsT m.w1
      unfold Mv.w1 wsT
      obtain ⟨e1, e2, e3⟩ := HKw.out
      rw [e3]
      simp [e1, e2]
    have HK : Hid (m.k = ((kk : Nat) : Int)) := hkk
    rw [hw2, hgv]
    clear hw2 hgv b1 hS HSd hIc B0 c0 c1 hkk HKw HB1
    have cel : Hid (∀ wx, Below W.heap.size W wx → MvW wx w.heap.size m d e ∧ Row8 wx d m.l e m.b ∧ Lk wx) := fun wx bx => ⟨HW.out.2.1.below bx, HW.out.2.2.1.below bx, HW.out.2.2.2.1.below bx⟩
    obtain ⟨c0, c1, c2, c3, c4, c5, c6, c7, c8⟩ := (cel.out w2 HWd.out.bel).1.cells
    rw [HK.out] at c0
    have hU := puses ((kk : Nat) : Int)
    go_upto_if 21 with (go_at_call 33; refine (hU _).mono ?_; rintro r w' ⟨rfl, hw⟩; have hw := hw.symm; subst hw)
    clear hU
    go_cut [5] (fun v wx => Hid (Wd W wx v (m.w1 ++ m.w2)))
    case first =>
      have HU : Hid (m.w2 = if sided ((kk : Nat) : Int) then [if m.s = 1 then [104] else [100]] else []) := by
        show m.w2 = _
        unfold Mv.w2
        rw [HK.out]
      cases hsd : sided ((kk : Nat) : Int) with
      | false =>
        have H2 : Hid (Wd W w2 (.slice (some ⟨gv, 0, none⟩) 2 2) (m.w1 ++ m.w2)) := by
          show Wd W w2 (.slice (some ⟨gv, 0, none⟩) 2 2) (m.w1 ++ m.w2)
          rw [HU.out, hsd]
          simpa using HWd.out
        clear hsd
        go_wp2_with fail
        go_meet
        exact H2
      | true =>
        have hP := pside m.s
        obtain ⟨sw, hsw⟩ : ∃ l : List UInt8, (if m.s = 1 then [104] else [100]) = l := ⟨_, rfl⟩
        rw [hsw] at hP
        obtain ⟨X, hX⟩ : ∃ X, tx sw = X := ⟨_, rfl⟩
        rw [hX] at hP
        have HU2 : Hid (m.w2 = [sw]) := by
          show m.w2 = _
          rw [HU.out, hsd, hsw]
          rfl
        clear hsw
        clear hsd HU
        go_wp2_with fail
        refine (hP _).mono ?_
        rintro r w' ⟨rfl, hw⟩
        rw [hw]
        clear hw hP c0 c1 c2 c3 c4 c5 c6 c7 c8
        go_wp2_with (at_builtin; refine wpList_appW rfl _ _ rfl _ X hX HWd.out (Below.refl _ _) rfl rfl (by simp [Mv.w1]) ?_)
        intro v7 w7 h7
        have H2 : Hid (Wd W w7 v7 (m.w1 ++ m.w2)) := by
          show Wd W w7 v7 (m.w1 ++ m.w2)
          rw [HU2.out]
          exact h7.out
        clear h7
        go_wp2_with fail
        go_meet
        exact H2
    case rest =>
      have H3 : Hid (Wd W wc u5 (m.w1 ++ m.w2)) := hcut
      have l2 : (m.w1 ++ m.w2).length ≤ 3 ∧ 0 < (m.w1 ++ m.w2).length := by
        unfold Mv.w2
        split <;> simp [Mv.w1]
      have HL2 : Hid (_) := l2
      clear hcut c0 c1 c2 c3 c4 c5 c6 c7 c8 HWd l2 hw
      obtain ⟨c0, c1, c2, c3, c4, c5, c6, c7, c8⟩ := (cel.out wc H3.out.bel).1.cells
      rw [HK.out] at c0
      obtain ⟨w5, hw5⟩ : ∃ x, wc = x := ⟨_, rfl⟩
      rw [hw5] at H3 c0 c1 c2 c3 c4 c5 c6 c7 c8 ⊢
      clear hw5 wc
      go_upto_if 30 with fail
      go_cut [5] (fun v wx => Hid (Wd W wx v (m.w1 ++ m.w2 ++ m.w3)))
      case first =>
        by_cases hk1 : kk = 1
        · have g1 : (((kk : Nat) : Int) == 1) = true := by
            have : ((kk : Nat) : Int) = 1 := by omega
            simpa using this
          have hD := pdata d m.l e m.b w5 (cel.out w5 H3.out.bel).2.1 hl
          obtain ⟨X, hX⟩ : ∃ X, tx (120 :: hx m.l m.b) = X := ⟨_, rfl⟩
          rw [hX] at hD
          have HU : Hid (m.w3 = (120 :: hx m.l m.b) :: (if m.h then [[104, 111, 108, 100]] else [])) := by
            show m.w3 = _
            unfold Mv.w3
            rw [if_pos (by rw [HK.out, hk1]; rfl)]
          clear hk1
          go_wp2_with fail
          refine hD.mono ?_
          rintro r w6 ⟨rfl, b6⟩
          have HB6 : Hid (_) := b6
          clear b6 hD c0 c1 c2 c3 c4 c5 c6 c7 c8
          go_wp2_with (at_builtin; refine wpList_appW rfl _ _ rfl _ X hX H3.out HB6.out rfl rfl (by have := HL2.out; omega) ?_)
          intro v7 w7 h7
          obtain ⟨c0, c1, c2, c3, c4, c5, c6, c7, c8⟩ := (cel.out w7 h7.out.bel).1.cells
          clear hX
          rcases Bool.eq_false_or_eq_true m.h with hh | hh
          rotate_left
          · rw [hh] at c7
            have H4 : Hid (Wd W w7 v7 (m.w1 ++ m.w2 ++ m.w3)) := by
              show Wd W w7 v7 (m.w1 ++ m.w2 ++ m.w3)
              rw [HU.out, hh]
              exact h7.out
            clear h7 hh
            go_wp2_with fail
            go_meet
            exact H4
          · rw [hh] at c7
            have hl3 : (m.w1 ++ m.w2 ++ [120 :: hx m.l m.b]).length ≤ 1000 := by
              have := HL2.out
              rw [List.length_append]
              show _ + 1 ≤ 1000
              omega
            have HU2 : Hid (m.w1 ++ m.w2 ++ m.w3 = m.w1 ++ m.w2 ++ [120 :: hx m.l m.b] ++ [[104, 111, 108, 100]]) := by
              show _ = _
              rw [HU.out, hh]
              simp
            clear hh
            have HT : tx [104, 111, 108, 100] = ByteArray.mk #[104, 111, 108, 100] := rfl
            go_wp2_with (at_builtin; refine wpList_appW rfl _ _ rfl _ (ByteArray.mk #[104, 111, 108, 100]) HT h7.out (Below.refl _ _) rfl rfl hl3 ?_)
            intro v8 w8 h8
            have H4 : Hid (Wd W w8 v8 (m.w1 ++ m.w2 ++ m.w3)) := by
              show Wd W w8 v8 (m.w1 ++ m.w2 ++ m.w3)
              rw [HU2.out]
              simpa using h8.out
            clear h7 h8
            go_wp2_with fail
            go_meet
            exact H4
        · have g1 : (((kk : Nat) : Int) == 1) = false := by
            have : ¬ ((kk : Nat) : Int) = 1 := by omega
            simpa using this
          have H4 : Hid (Wd W w5 u5 (m.w1 ++ m.w2 ++ m.w3)) := by
            have e : m.w3 = [] := by
              unfold Mv.w3
              rw [if_neg (by rw [HK.out]; omega)]
            show Wd W w5 u5 (m.w1 ++ m.w2 ++ m.w3)
            rw [e, List.append_nil]
            exact H3.out
          clear hk1
          go_wp2_with fail
          go_meet
          exact H4
      case rest =>
        have H4 : Hid (Wd W wc u5 (m.w1 ++ m.w2 ++ m.w3)) := hcut
        clear hcut c0 c1 c2 c3 c4 c5 c6 c7 c8 H3
        obtain ⟨c0, c1, c2, c3, c4, c5, c6, c7, c8⟩ := (cel.out wc H4.out.bel).1.cells
        obtain ⟨w6, hw6⟩ : ∃ x, wc = x := ⟨_, rfl⟩
        rw [hw6] at H4 c0 c1 c2 c3 c4 c5 c6 c7 c8 ⊢
        clear hw6 wc
        have hLs := plast m HW.out.2.2.2.2 d e w6
        go_wp2_with fail
        refine hLs.mono ?_
        rintro r w7 ⟨an, cn, rfl, h7⟩
        have hDc := pdecimals an m.ns.length cn (zf m.ns) w7 h7.out.1 (fun i hi => Mv.ns_ok HW.out.2.2.2.2 _ (by
          unfold zf
          rw [List.getD_eq_getElem?_getD, List.getElem?_eq_getElem hi]
          exact List.getElem_mem _)) (by have := m.ns_len; omega) ((cel.out w6 H4.out.bel).2.2.below h7.out.2)
        have H7 : Hid (Below w6.heap.size w6 w7) := h7.out.2
        clear hLs h7 c0 c1 c2 c3 c4 c5 c6 c7 c8
        go_wp2_with fail
        refine hDc.mono ?_
        clear hDc
        rintro r w8 ⟨v8, rfl, h8⟩
        have o8 : w8.ownsRow w7.heap.size 9 1 v8 (m.ns.map Lib.itoa).length (wsT (m.ns.map Lib.itoa)) := by
          rw [← sL_ns, List.length_map]
          exact h8.out.1
        have z8 : (m.ns.map Lib.itoa).length = 0 → v8 = .slice none 0 0 := by
          rw [List.length_map]
          exact h8.out.2.1
        have H8 : Hid (_) := And.intro o8 (And.intro z8 (H7.out.trans (h8.out.2.2.mono H7.out.size)))
        clear o8 z8 h8 H7
        go_wp2_with (at_builtin; refine wpList_appWs rfl _ _ rfl (m.ns.map Lib.itoa) H4.out H8.out.2.2 H8.out.1 H8.out.2.1 rfl rfl (by have := m.w_len; omega) (by have := m.ns_len; rw [List.length_map]; omega) ?_)
        intro v9 w9 h9
        have HLn := Mv.line_len HW.out.2.2.2.2 hl
        have H9 : Hid (Wd W w9 v9 m.ws) := by
          show Wd W w9 v9 m.ws
          unfold Mv.ws Mv.w4
          simpa using h9.out
        clear h9 H8
        obtain ⟨g9, c9, e9⟩ := H9.out.len HLn.2.2
        rw [e9] at H9 ⊢
        clear e9
        have hJ := pjoin (w := w9) m.ws H9.out.own (by have := HLn.2.1; omega) (by have := HLn.1; show m.line.length ≤ _; omega)
        have HN : Hid (_) := HLn
        clear HLn
        go_wp2_with fail
        refine hJ.mono ?_
        rintro r w10 ⟨rfl, b10⟩
        have H10 : Hid (Below w9.heap.size w9 w10) := b10
        clear b10 hJ
        go_wp2_with fail
        go_ret2
        have b9 := H9.out.bel
        exact ⟨rfl, HW.out.1.trans ((b9.mono HW.out.1.size).trans (H10.out.mono (Nat.le_trans HW.out.1.size b9.size)))⟩
  · rw [if_neg hE]
    have gE : (m.err == 0) = false := by simpa using hE
    go_enter Tryd.func19, Tryd.ntmps19
    go_wp2_with fail
    try rw [hW]
    clear hW
    refine hRf.mono ?_
    rintro r w1 ⟨rfl, b1⟩
    have HB1 : Hid (_) := b1
    clear hRf c0 c1 c2 c3 c4 c5 c6 c7 c8 b1
    go_wp2_with fail
    go_ret2
    exact ⟨rfl, HW.out.1.trans (HB1.out.mono HW.out.1.size)⟩
end Go.Proofs.YtnmnjcjfgbpkaaaDoor
