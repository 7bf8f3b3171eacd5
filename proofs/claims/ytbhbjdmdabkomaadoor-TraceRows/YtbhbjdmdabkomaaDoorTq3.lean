/- Layer 21: a fact; what it tells; its line. (gentq3.py) -/
import Derived.Test.YtbhbjdmdabkomaaDoorTq2
import Derived.Deep.RegionHeld3
namespace Go.Proofs.YtbhbjdmdabkomaaDoor
set_option maxRecDepth 100000
open Go.RowKit Go.Maps
set_option maxRecDepth 100000
/-- A fact. -/
structure Fk where
  k : Int
  c : Int
  s : Int
  ss : Nat
  nn : Nat
  on : Bool
  cd : Int
  l : Nat
  b : Nat → Nat
structure Fk.Ok (f : Fk) : Prop where
  c : -9223372036854775808 ≤ f.c ∧ f.c ≤ 9223372036854775807
  ss : f.ss < 4294967296
  nn : f.nn < 4294967296
  cd : -9223372036854775808 ≤ f.cd ∧ f.cd ≤ 9223372036854775807
/-- What it tells behind the side. -/
def Fk.tw (f : Fk) : List (List UInt8) :=
  if f.k = 1 ∨ f.k = 2 then [Lib.itoa ((f.ss : Nat) : Int), Lib.itoa ((f.nn : Nat) : Int), 120 :: hx f.l f.b]
  else if f.k = 3 then [Lib.itoa ((f.ss : Nat) : Int)]
  else if f.k = 5 then [Lib.itoa ((f.nn : Nat) : Int)]
  else if f.k = 8 then [onW f.on, Lib.itoa f.cd, 120 :: hx f.l f.b]
  else []
def Fk.w1 (f : Fk) : List (List UInt8) := [fcW f.k, Lib.itoa f.c, siW f.s]
def Fk.ws (f : Fk) : List (List UInt8) := f.w1 ++ f.tw
def Fk.line (f : Fk) : List UInt8 := Lib.join f.ws [32]
theorem Fk.tw_len (f : Fk) : f.tw.length ≤ 3 := by
  unfold Fk.tw
  repeat' split
  all_goals simp
theorem Fk.ws_len (f : Fk) : f.ws.length ≤ 6 ∧ 0 < f.ws.length := by
  have := f.tw_len
  unfold Fk.ws
  rw [List.length_append]
  simp [Fk.w1]
  omega
theorem Fk.word_len {f : Fk} (h : f.Ok) (hl : f.l ≤ 100000) : ∀ l ∈ f.ws, l.length ≤ 200001 := by
  have a1 := itoa_len (n := ((f.ss : Nat) : Int)) (by omega) (by have := h.ss; omega)
  have a2 := itoa_len (n := ((f.nn : Nat) : Int)) (by omega) (by have := h.nn; omega)
  have a3 := itoa_len h.cd.1 h.cd.2
  have a4 := itoa_len h.c.1 h.c.2
  have a5 := hx_len f.l f.b
  have a6 := fcW_len f.k
  have a7 := siW_len f.s
  have a8 := onW_len f.on
  intro l hm
  unfold Fk.ws Fk.w1 Fk.tw at hm
  repeat' split at hm
  all_goals
    simp only [List.mem_append, List.mem_cons, List.not_mem_nil, or_false, List.append_nil] at hm
    rcases hm with (rfl | rfl | rfl) | rfl | rfl | rfl <;> (try simp only [List.length_cons]) <;> omega
theorem Fk.line_len {f : Fk} (h : f.Ok) (hl : f.l ≤ 100000) : f.line.length ≤ 1300000 := by
  have h1 := join_len 200001 f.ws (Fk.word_len h hl)
  have h2 := f.ws_len
  unfold Fk.line
  have : f.ws.length * (200001 + 1) ≤ 6 * 200002 := Nat.mul_le_mul_right _ h2.1
  omega
/-- A fact in a block of its own. -/
structure FkW (w : World) (b : Nat) (f : Fk) (d : Option Addr) (e : Nat) : Prop where
  blk : w.heap[b]? = some (.cells #[.int .i64 f.k, .int .i64 f.c, .int .i64 f.s, .int .u32 (f.ss : Nat), .int .u32 (f.nn : Nat), .bool f.on, .int .i64 f.cd, .slice d f.l e] 91 (0, 0))
theorem FkW.new (w : World) (f : Fk) (d : Option Addr) (e : Nat) : FkW (w.alloc (.cells #[.int .i64 f.k, .int .i64 f.c, .int .i64 f.s, .int .u32 (f.ss : Nat), .int .u32 (f.nn : Nat), .bool f.on, .int .i64 f.cd, .slice d f.l e] 91)) w.heap.size f d e := ⟨heap_alloc_new _ _⟩
theorem FkW.below {w w' : World} {b : Nat} {f : Fk} {d : Option Addr} {e : Nat} (h : FkW w b f d e) (hb : Below w.heap.size w w') : FkW w' b f d e := ⟨(hb.block b (Array.getElem?_eq_some_iff.1 h.blk).1).trans h.blk⟩
theorem FkW.cells {w : World} {b : Nat} {f : Fk} {d : Option Addr} {e : Nat} (h : FkW w b f d e) : w.cell? ⟨b, 0, none⟩ = some (.int .i64 f.k) ∧ w.cell? ⟨b, 1, none⟩ = some (.int .i64 f.c) ∧ w.cell? ⟨b, 2, none⟩ = some (.int .i64 f.s) ∧ w.cell? ⟨b, 3, none⟩ = some (.int .u32 (f.ss : Nat)) ∧ w.cell? ⟨b, 4, none⟩ = some (.int .u32 (f.nn : Nat)) ∧ w.cell? ⟨b, 5, none⟩ = some (.bool f.on) ∧ w.cell? ⟨b, 6, none⟩ = some (.int .i64 f.cd) ∧ w.cell? ⟨b, 7, none⟩ = some (.slice d f.l e) :=
  ⟨cell_of_row _ _ 0 _ _ _ h.blk, cell_of_row _ _ 1 _ _ _ h.blk, cell_of_row _ _ 2 _ _ _ h.blk, cell_of_row _ _ 3 _ _ _ h.blk, cell_of_row _ _ 4 _ _ _ h.blk, cell_of_row _ _ 5 _ _ _ h.blk, cell_of_row _ _ 6 _ _ _ h.blk, cell_of_row _ _ 7 _ _ _ h.blk⟩
/-- append of one word in a new block, in a region that draws. -/
theorem step_appW {ops : Array Oper} {o : Oper} {a : Act} {w2 : World} {K : Act → World → Prop} {Q : Exit → Act → World → Prop} {E : Prop}
    (hgd : o.guard = none) (s x : Operand) (hop : o.op = Op.call { callee := Callee.builtin Builtin.append, args := #[s, x], argTypes := #[48, 48] }) (hty : o.type = 48)
    {W wx : World} {v : Value} {ls : List (List UInt8)} (l : List UInt8) (X : ByteArray) (hX : tx l = X) (h : Wd W wx v ls) (b2 : Below wx.heap.size wx w2) (hs : a.eval s = v) (hx : a.eval x = .slice (some ⟨w2.heap.size, 0, none⟩) 1 1) (hl : ls.length ≤ 1000)
    (hK : ∀ v7 w7, Hid (Wd W w7 v7 (ls ++ [l])) → Below W.heap.size W w7 → K (a.put o.dst v7) w7) :
    if Region.wanted o (yielded ops a.tmps) = true then Oper.wp Tryd.prog o a (w2.alloc (.cells #[.string X] 9)) K Q else E := by
  have hw : Region.wanted o (yielded ops a.tmps) = true := by simp [Region.wanted, hgd]
  rw [if_pos hw]
  obtain ⟨i0, hIn, hz0, hz1, hz2⟩ := info_parts info_str
  have O3 := ownB h.own (belA b2 (.cells #[.string X] 9))
  have B3 : W.heap.size ≤ (w2.alloc (.cells #[.string X] 9)).heap.size := Nat.le_trans h.bel.size (belA b2 (.cells #[.string X] 9)).size
  obtain ⟨v', w', hr, k1, k2, _⟩ := run_append_own (P := Tryd.prog) _ W.heap.size 48 48 9 i0 (.string (ByteArray.mk #[])) 1 16 Tryd.underlying48 hIn hz0 hz1 hz2 rfl (by decide) v ls.length (wsT ls) O3 ⟨w2.heap.size, 0, none⟩ 1 1 [.string X] rfl (one_str w2 X) (one_strO X) (by unfold maxLen; omega) (by omega) B3
  have hF := h.app hX b2 k1 k2
  unfold Oper.wp execOp
  simp only [hop, hty, resolve, invoke, builtin, Sem.run_bind, Sem.run_pure, Result.andThen_ok, List.map_toArray, List.map_cons, List.map_nil, hs, hx, hr]
  exact hK v' w' hF hF.bel
theorem Wd.wide {W W' wx : World} {v : Value} {ls : List (List UInt8)} (h : Wd W wx v ls) (b : Below W'.heap.size W' W) : Wd W' wx v ls := by
  refine ⟨⟨h.own.1, ?_⟩, b.trans (h.bel.mono b.size)⟩
  rcases h.own.2 with q | ⟨g, cap, cur, q, hg, rest⟩
  · exact .inl q
  · exact .inr ⟨g, cap, cur, q, Nat.le_trans b.size hg, rest⟩
/-- decimals of a list that was just built. -/
theorem tdecL (zs : List Int) (hz : ∀ z ∈ zs, -9223372036854775808 ≤ z ∧ z ≤ 9223372036854775807) (hn : zs.length ≤ 100) (wx : World) (L : Lp wx) (w2 : World) (b2 : Below (wx.alloc (.cells (zs.map fun z => Value.int .i64 z).toArray 3)).heap.size (wx.alloc (.cells (zs.map fun z => Value.int .i64 z).toArray 3)) w2) : Calls Tryd.prog 81 #[.slice (some ⟨wx.heap.size, 0, none⟩) zs.length zs.length] w2 fun r w' => ∃ v, r = .returned v ∧ Hid (Wd wx w' v (zs.map Lib.itoa)) := by
  have bA := belA (Below.refl _ wx) (.cells (zs.map fun z => Value.int .i64 z).toArray 3)
  have hR : NRow (wx.alloc (.cells (zs.map fun z => Value.int .i64 z).toArray 3)) (some ⟨wx.heap.size, 0, none⟩) zs.length (zf zs) := fun i hi => by
    refine ⟨_, _, rfl, ?_⟩
    rw [Nat.zero_add, cell_of_row _ _ i _ _ _ (heap_alloc_new wx (.cells (zs.map fun z => Value.int .i64 z).toArray 3))]
    simp [zf, List.getD_eq_getElem?_getD, List.getElem?_eq_getElem hi]
  refine (tdecimals _ zs.length zs.length (zf zs) _ (hR.below b2) (fun i hi => hz _ (by
    unfold zf
    rw [List.getD_eq_getElem?_getD, List.getElem?_eq_getElem hi]
    exact List.getElem_mem _)) hn (L.below (belTS b2 bA))).mono ?_
  rintro r w' ⟨v, rfl, h⟩
  refine ⟨v, rfl, Wd.wide (W := w2) ⟨?_, h.out.2.2⟩ (belTS b2 bA)⟩
  rw [← sL_ns, List.length_map]
  exact h.out.1
set_option maxHeartbeats 2000000 in
theorem told (f : Fk) (hf : f.Ok) (d : Option Addr) (e : Nat) (w : World) (hr : Row8 w d f.l e f.b) (hl : f.l ≤ 100000) (L : Lt w) : Calls Tryd.prog 87 #[.agg #[.int .i64 f.k, .int .i64 f.c, .int .i64 f.s, .int .u32 (f.ss : Nat), .int .u32 (f.nn : Nat), .bool f.on, .int .i64 f.cd, .slice d f.l e]] w fun r w' => ∃ v, r = .returned v ∧ Hid (Wd w w' v f.tw ∧ (f.tw.length = 0 → v = .slice none 0 0)) := by
  obtain ⟨W, hW⟩ : ∃ W : World, w.alloc (.cells #[.int .i64 f.k, .int .i64 f.c, .int .i64 f.s, .int .u32 (f.ss : Nat), .int .u32 (f.nn : Nat), .bool f.on, .int .i64 f.cd, .slice d f.l e] 91) = W := ⟨_, rfl⟩
  have bW : Below w.heap.size w W := by rw [← hW]; exact belA (Below.refl _ _) _
  have fW : FkW W w.heap.size f d e := by rw [← hW]; exact FkW.new w f d e
  have HW : Hid (_) := And.intro bW (And.intro fW (And.intro (hr.below bW) (And.intro (L.below bW) hf)))
  obtain ⟨c0, c1, c2, c3, c4, c5, c6, c7⟩ := fW.cells
  have wss : IntKind.i64.wrap ((f.ss : Nat) : Int) = ((f.ss : Nat) : Int) := by have := hf.ss; rw [IntKind.wrap_i64]; omega
  have wnn : IntKind.i64.wrap ((f.nn : Nat) : Int) = ((f.nn : Nat) : Int) := by have := hf.nn; rw [IntKind.wrap_i64]; omega
  have bss : -9223372036854775808 ≤ ((f.ss : Nat) : Int) ∧ ((f.ss : Nat) : Int) ≤ 9223372036854775807 := by have := hf.ss; omega
  have bnn : -9223372036854775808 ≤ ((f.nn : Nat) : Int) ∧ ((f.nn : Nat) : Int) ≤ 9223372036854775807 := by have := hf.nn; omega
  obtain ⟨X, hX⟩ : ∃ X, tx (120 :: hx f.l f.b) = X := ⟨_, rfl⟩
  have hX' : ∀ wx, Below W.heap.size W wx → Calls Tryd.prog 105 #[.slice d f.l e] wx fun r w' => ∃ v, r = .returned v ∧ (v = .string X ∧ Below wx.heap.size wx w' ∧ Below W.heap.size W w') := fun wx bx => by
    refine (tdata d f.l e f.b wx (HW.out.2.2.1.below bx) hl).mono ?_
    rintro r w' ⟨rfl, b⟩
    exact ⟨_, rfl, by rw [hX], b, belTS b bx⟩
  have B0 : Below W.heap.size W W.drew := Below.drew (Below.refl _ _)
  have HX : Hid (_) := hX
  clear bW fW hr L hf hX
  by_cases k12 : f.k = 1 ∨ f.k = 2
  · have HT : Hid (f.tw = [((f.ss : Nat) : Int), ((f.nn : Nat) : Int)].map Lib.itoa ++ [120 :: hx f.l f.b]) := by
      show f.tw = _
      unfold Fk.tw
      rw [if_pos k12]
      rfl
    have hD : Calls Tryd.prog 81 #[.slice (some ⟨W.heap.size, 0, none⟩) 2 2] (W.alloc (.cells #[.int .i64 ((f.ss : Nat) : Int), .int .i64 ((f.nn : Nat) : Int)] 3)).drew fun r w' => ∃ v, r = .returned v ∧ (Hid (Wd W w' v ([((f.ss : Nat) : Int), ((f.nn : Nat) : Int)].map Lib.itoa)) ∧ Below W.heap.size W w') := by
      refine (tdecL [((f.ss : Nat) : Int), ((f.nn : Nat) : Int)] (fun z hz => by
        rcases List.mem_cons.1 hz with rfl | hz
        · exact bss
        · rw [List.mem_singleton.1 hz]; exact bnn) (by simp) W HW.out.2.2.2.1.p _ (Below.drew (Below.refl _ _))).mono ?_
      rintro r w' ⟨v, rfl, h⟩
      exact ⟨v, rfl, h, h.out.bel⟩
    have hS : ∀ wx, Below W.heap.size W wx → wx.cell? ⟨w.heap.size, 3, none⟩ = some (.int .u32 (f.ss : Nat)) ∧ wx.cell? ⟨w.heap.size, 4, none⟩ = some (.int .u32 (f.nn : Nat)) ∧ wx.cell? ⟨w.heap.size, 7, none⟩ = some (.slice d f.l e) := fun wx bx => by
      obtain ⟨_, _, _, q3, q4, _, _, q7⟩ := (HW.out.2.1.below bx).cells
      exact ⟨q3, q4, q7⟩
    have HSd := hS _ B0
    clear bss bnn
    rcases k12 with hk | hk
    · rw [hk] at c0
      clear hk
      go_enter Tryd.func87, Tryd.ntmps87
      go_wp2_with fail
      try rw [hW]
      clear hW
      go_region_held3 (fun wx => wx.cell? ⟨w.heap.size, 3, none⟩ = some (.int .u32 (f.ss : Nat)) ∧ wx.cell? ⟨w.heap.size, 4, none⟩ = some (.int .u32 (f.nn : Nat)) ∧ wx.cell? ⟨w.heap.size, 7, none⟩ = some (.slice d f.l e)) (first | assumption | exact hS _ (by assumption) | exact hS _ (belA (by assumption) _)) (first
        | (refine step_callS 81 #[.tmp 14] #[101] rfl (by kernel_rfl) #[.slice (some ⟨W.heap.size, 0, none⟩) 2 2] (by kernel_rfl) hD ?_; rintro x v1 ⟨h1, b1⟩)
        | (refine step_callS 105 #[.tmp 17] #[27] rfl (by kernel_rfl) #[.slice d f.l e] (by kernel_rfl) (hX' _ (by assumption)) ?_; rintro y v2 ⟨rfl, b2, b3⟩)
        | (refine step_appW rfl (.tmp 15) (.tmp 19) rfl rfl _ X HX.out h1.out b2 rfl rfl (by simp) ?_; intro v7 w7 h7 b7)
        | fail)
      have HF : Hid (_) := h7.out
      clear hS HSd hD hX' B0 b1 b2 b3 b7 h1 h7
      go_wp2_with fail
      go_ret
      refine ⟨_, rfl, ?_, fun h => by rw [HT.out] at h; simp at h⟩
      rw [HT.out]
      exact HF.out.wide HW.out.1
    · rw [hk] at c0
      clear hk
      go_enter Tryd.func87, Tryd.ntmps87
      go_wp2_with fail
      try rw [hW]
      clear hW
      go_region_held3 (fun wx => wx.cell? ⟨w.heap.size, 3, none⟩ = some (.int .u32 (f.ss : Nat)) ∧ wx.cell? ⟨w.heap.size, 4, none⟩ = some (.int .u32 (f.nn : Nat)) ∧ wx.cell? ⟨w.heap.size, 7, none⟩ = some (.slice d f.l e)) (first | assumption | exact hS _ (by assumption) | exact hS _ (belA (by assumption) _)) (first
        | (refine step_callS 81 #[.tmp 14] #[101] rfl (by kernel_rfl) #[.slice (some ⟨W.heap.size, 0, none⟩) 2 2] (by kernel_rfl) hD ?_; rintro x v1 ⟨h1, b1⟩)
        | (refine step_callS 105 #[.tmp 17] #[27] rfl (by kernel_rfl) #[.slice d f.l e] (by kernel_rfl) (hX' _ (by assumption)) ?_; rintro y v2 ⟨rfl, b2, b3⟩)
        | (refine step_appW rfl (.tmp 15) (.tmp 19) rfl rfl _ X HX.out h1.out b2 rfl rfl (by simp) ?_; intro v7 w7 h7 b7)
        | fail)
      have HF : Hid (_) := h7.out
      clear hS HSd hD hX' B0 b1 b2 b3 b7 h1 h7
      go_wp2_with fail
      go_ret
      refine ⟨_, rfl, ?_, fun h => by rw [HT.out] at h; simp at h⟩
      rw [HT.out]
      exact HF.out.wide HW.out.1
  · have n1 : (f.k == 1) = false := by simpa using fun h => k12 (.inl h)
    have n2 : (f.k == 2) = false := by simpa using fun h => k12 (.inr h)
    by_cases k3 : f.k = 3
    · have HT : Hid (f.tw = [((f.ss : Nat) : Int)].map Lib.itoa) := by
        show f.tw = _
        unfold Fk.tw
        rw [if_neg k12, if_pos k3]
        rfl
      rw [k3] at c0
      have hD := tdecL [((f.ss : Nat) : Int)] (fun z hz => by rw [List.mem_singleton.1 hz]; exact bss) (by simp) W HW.out.2.2.2.1.p _ (Below.refl _ _)
      have hD' : Calls Tryd.prog 81 #[.slice (some ⟨W.heap.size, 0, none⟩) 1 1] (W.alloc (.cells #[.int .i64 ((f.ss : Nat) : Int)] 3)) fun r w' => ∃ v, r = .returned v ∧ Hid (Wd W w' v ([((f.ss : Nat) : Int)].map Lib.itoa)) := hD
      clear hD k12 n1 n2 k3 bss bnn hX'
      go_enter Tryd.func87, Tryd.ntmps87
      go_wp2_with fail
      try rw [hW]
      clear hW
      refine hD'.mono ?_
      rintro r w7 ⟨v7, rfl, h7⟩
      clear hD'
      go_wp2_with fail
      go_ret
      refine ⟨_, rfl, ?_, fun h => by rw [HT.out] at h; simp at h⟩
      rw [HT.out]
      exact h7.out.wide HW.out.1
    · have n3 : (f.k == 3) = false := by simpa using k3
      by_cases k5 : f.k = 5
      · have HT : Hid (f.tw = [((f.nn : Nat) : Int)].map Lib.itoa) := by
          show f.tw = _
          unfold Fk.tw
          rw [if_neg k12, if_neg k3, if_pos k5]
          rfl
        rw [k5] at c0
        have hD := tdecL [((f.nn : Nat) : Int)] (fun z hz => by rw [List.mem_singleton.1 hz]; exact bnn) (by simp) W HW.out.2.2.2.1.p _ (Below.refl _ _)
        have hD' : Calls Tryd.prog 81 #[.slice (some ⟨W.heap.size, 0, none⟩) 1 1] (W.alloc (.cells #[.int .i64 ((f.nn : Nat) : Int)] 3)) fun r w' => ∃ v, r = .returned v ∧ Hid (Wd W w' v ([((f.nn : Nat) : Int)].map Lib.itoa)) := hD
        clear hD k12 n1 n2 k3 n3 k5 bss bnn hX'
        go_enter Tryd.func87, Tryd.ntmps87
        go_wp2_with fail
        try rw [hW]
        clear hW
        refine hD'.mono ?_
        rintro r w7 ⟨v7, rfl, h7⟩
        clear hD'
        go_wp2_with fail
        go_ret
        refine ⟨_, rfl, ?_, fun h => by rw [HT.out] at h; simp at h⟩
        rw [HT.out]
        exact h7.out.wide HW.out.1
      · have n5 : (f.k == 5) = false := by simpa using k5
        by_cases k8 : f.k = 8
        · have HT : Hid (f.tw = [onW f.on, Lib.itoa f.cd, 120 :: hx f.l f.b]) := by
            show f.tw = _
            unfold Fk.tw
            rw [if_neg k12, if_neg k3, if_neg k5, if_pos k8]
          rw [k8] at c0
          obtain ⟨Y, hY⟩ : ∃ Y, tx (onW f.on) = Y := ⟨_, rfl⟩
          obtain ⟨Z, hZ⟩ : ∃ Z, tx (Lib.itoa f.cd) = Z := ⟨_, rfl⟩
          have hO : ∀ wx, Below W.heap.size W wx → Calls Tryd.prog 102 #[.bool f.on] wx fun r w' => ∃ v, r = .returned v ∧ (v = .string Y ∧ Below W.heap.size W w') := fun wx bx => by
            refine (tonw f.on wx).mono ?_
            rintro r w' ⟨rfl, rfl⟩
            exact ⟨_, rfl, by rw [hY], bx⟩
          have hI : ∀ wx, Below W.heap.size W wx → Calls Tryd.prog 51 #[.int .i64 f.cd] wx fun r w' => ∃ v, r = .returned v ∧ (v = .string Z ∧ Below W.heap.size W w') := fun wx bx => by
            refine (pitoa f.cd HW.out.2.2.2.2.cd.1 HW.out.2.2.2.2.cd.2 wx (HW.out.2.2.2.1.below bx).p).mono ?_
            rintro r w' ⟨rfl, b⟩
            exact ⟨_, rfl, by rw [hZ], belTS b bx⟩
          have hS : ∀ wx, Below W.heap.size W wx → wx.cell? ⟨w.heap.size, 5, none⟩ = some (.bool f.on) ∧ wx.cell? ⟨w.heap.size, 6, none⟩ = some (.int .i64 f.cd) ∧ wx.cell? ⟨w.heap.size, 7, none⟩ = some (.slice d f.l e) := fun wx bx => by
            obtain ⟨_, _, _, _, _, q5, q6, q7⟩ := (HW.out.2.1.below bx).cells
            exact ⟨q5, q6, q7⟩
          have HSd := hS _ B0
          have HYZ : Hid (_) := And.intro hY hZ
          clear k12 n1 n2 k3 n3 k5 n5 k8 bss bnn hY hZ
          go_enter Tryd.func87, Tryd.ntmps87
          go_wp2_with fail
          try rw [hW]
          clear hW
          go_region_held3 (fun wx => wx.cell? ⟨w.heap.size, 5, none⟩ = some (.bool f.on) ∧ wx.cell? ⟨w.heap.size, 6, none⟩ = some (.int .i64 f.cd) ∧ wx.cell? ⟨w.heap.size, 7, none⟩ = some (.slice d f.l e)) (first | assumption | exact hS _ (by assumption) | exact hS _ (belA (by assumption) _)) (first
            | (refine step_callS 102 #[.tmp 38] #[4] rfl (by kernel_rfl) #[.bool f.on] (by kernel_rfl) (hO _ (by assumption)) ?_; rintro x v1 ⟨rfl, b1⟩)
            | (refine step_callS 51 #[.tmp 41] #[3] rfl (by kernel_rfl) #[.int .i64 f.cd] (by kernel_rfl) (hI _ (by assumption)) ?_; rintro x v2 ⟨rfl, b2⟩)
            | (refine step_callS 105 #[.tmp 44] #[27] rfl (by kernel_rfl) #[.slice d f.l e] (by kernel_rfl) (hX' _ (by assumption)) ?_; rintro y v3 ⟨rfl, b3, b4⟩)
            | fail)
          have HF : Hid (Wd W (v3.alloc (.cells #[.string Y, .string Z, .string X] 9)) (.slice (some ⟨v3.heap.size, 0, none⟩) 3 3) f.tw) := by
            refine ⟨⟨by rw [HT.out]; rfl, .inr ⟨v3.heap.size, 3, _, by rw [HT.out]; rfl, b4.size, heap_alloc_new _ _, by rw [HT.out]; simp, by decide, rfl, ?_⟩⟩, belA b4 _⟩
            rw [HT.out, ← HYZ.out.1, ← HYZ.out.2, ← HX.out]
            rfl
          obtain ⟨w9, hw9⟩ : ∃ x, v3.alloc (.cells #[.string Y, .string Z, .string X] 9) = x := ⟨_, rfl⟩
          obtain ⟨g9, hg9⟩ : ∃ x, v3.heap.size = x := ⟨_, rfl⟩
          rw [hw9, hg9] at HF
          try rw [hw9]
          try rw [hg9]
          clear hS HSd hO hI hX' B0 b1 b2 b3 b4 hw9 hg9
          go_wp2_with fail
          go_ret
          exact ⟨_, rfl, HF.out.wide HW.out.1, fun h => by rw [HT.out] at h; simp at h⟩
        · have n8 : (f.k == 8) = false := by simpa using k8
          have HT : Hid (f.tw = []) := by
            show f.tw = _
            unfold Fk.tw
            rw [if_neg k12, if_neg k3, if_neg k5, if_neg k8]
          clear k12 k3 k5 k8 bss bnn hX'
          go_enter Tryd.func87, Tryd.ntmps87
          go_wp2_with fail
          try rw [hW]
          clear hW
          go_ret
          exact ⟨_, rfl, ⟨by rw [HT.out]; exact ⟨rfl, .inl ⟨rfl, rfl⟩⟩, HW.out.1⟩, fun _ => rfl⟩
end Go.Proofs.YtbhbjdmdabkomaaDoor
