/- Layer 21: a row; its line. (gentq7.py) -/
import Derived.Test.YtbhbjdmdabkomaaDoorTq6
import Derived.Test.YtbhbjdmdabkomaaDoorSco
namespace Go.Proofs.YtbhbjdmdabkomaaDoor
set_option maxRecDepth 100000
open Go.RowKit Go.Maps
set_option maxRecDepth 100000
/-- A row; where its bytes lie. -/
structure Rx where
  m : Mv
  cd : Int
  st : Int
  h : Ed
  v : Ed
structure Rd where
  a1 : Option Addr
  c1 : Nat
  a2 : Option Addr
  c2 : Nat
  a3 : Option Addr
  c3 : Nat
structure Rx.Ok (r : Rx) : Prop where
  m : r.m.Ok
  cd : -9223372036854775808 ≤ r.cd ∧ r.cd ≤ 9223372036854775807
  st : -9223372036854775808 ≤ r.st ∧ r.st ≤ 9223372036854775807
  h : r.h.Ok
  v : r.v.Ok
structure Rx.Sh (r : Rx) : Prop where
  m : r.m.l ≤ 500
  h : r.h.l ≤ 500
  v : r.v.l ≤ 500
structure Rx.Rows (r : Rx) (x : Rd) (w : World) : Prop where
  m : Row8 w x.a1 r.m.l x.c1 r.m.b
  h : Row8 w x.a2 r.h.l x.c2 r.h.b
  v : Row8 w x.a3 r.v.l x.c3 r.v.b
theorem Rx.Rows.below {r : Rx} {x : Rd} {w w' : World} (h : r.Rows x w) (b : Below w.heap.size w w') : r.Rows x w' := ⟨h.m.below b, h.h.below b, h.v.below b⟩
/-- Its words. -/
def Rx.w1 (r : Rx) : List (List UInt8) := [r.m.line, [45, 62], Lib.itoa r.cd]
def Rx.w2 (r : Rx) : List (List UInt8) := if 0 ≤ r.st then [[115, 101, 110, 116], Lib.itoa r.st] else []
def Rx.w3 (r : Rx) : List (List UInt8) := [[104, 58] ++ r.h.line, [100, 58] ++ r.v.line]
def Rx.ws (r : Rx) : List (List UInt8) := r.w1 ++ r.w2 ++ r.w3
def Rx.full (r : Rx) : List UInt8 := Lib.join r.ws [32]
def Rx.line (r : Rx) : List UInt8 := if r.m.err = 0 then r.full else []
theorem Rx.w2_len (r : Rx) : r.w2.length ≤ 2 := by
  unfold Rx.w2
  split <;> simp
theorem Rx.ws_len (r : Rx) : r.ws.length ≤ 7 ∧ 0 < r.ws.length := by
  have := r.w2_len
  unfold Rx.ws Rx.w1 Rx.w3
  simp only [List.length_append, List.length_cons, List.length_nil]
  omega
/-- The line as the document builds it. -/
def Rx.j1 (r : Rx) : List UInt8 := r.m.line ++ [32, 45, 62, 32] ++ Lib.itoa r.cd
def Rx.j2 (r : Rx) : List UInt8 := r.j1 ++ (if 0 ≤ r.st then [32, 115, 101, 110, 116, 32] ++ Lib.itoa r.st else [])
theorem Rx.full_eq (r : Rx) : r.full = r.j2 ++ [32, 104, 58] ++ r.h.line ++ [32, 100, 58] ++ r.v.line := by
  unfold Rx.full Rx.ws Rx.w1 Rx.w2 Rx.w3 Rx.j2 Rx.j1
  split
  · show Lib.join (r.m.line :: _) [32] = _
    rw [joinS]
    simp
  · show Lib.join (r.m.line :: _) [32] = _
    rw [joinS]
    simp
theorem Rx.j1_len {r : Rx} (h : r.Ok) (s : r.Sh) : r.j1.length ≤ 2000024 := by
  have h1 := (Mv.line_len h.m (by have := s.m; omega)).1
  have h2 := itoa_len h.cd.1 h.cd.2
  unfold Rx.j1
  simp only [List.length_append, List.length_cons, List.length_nil]
  omega
theorem Rx.j2_len {r : Rx} (h : r.Ok) (s : r.Sh) : r.j2.length ≤ 2000050 := by
  have h1 := Rx.j1_len h s
  have h2 := itoa_len h.st.1 h.st.2
  unfold Rx.j2
  split
  · simp only [List.length_append, List.length_cons, List.length_nil]
    omega
  · simp
    omega
theorem Rx.full_len {r : Rx} (h : r.Ok) (s : r.Sh) : r.full.length ≤ 2003000 := by
  have h1 := Rx.j2_len h s
  have h2 := Ed.line_len h.h
  have h3 := Ed.line_len h.v
  have := s.h
  have := s.v
  rw [r.full_eq]
  simp only [List.length_append, List.length_cons, List.length_nil]
  omega
/-- A row in a block of its own. -/
structure RxW (w : World) (b : Nat) (r : Rx) (x : Rd) : Prop where
  blk : w.heap[b]? = some (.cells #[.int .i64 r.m.k, .int .i64 r.m.c, .int .i64 r.m.s, .int .i64 r.m.f, .int .i64 r.m.a, .int .u32 (r.m.w : Nat), .int .i64 r.m.n, .bool r.m.h, .slice x.a1 r.m.l x.c1, .int .i64 r.cd, .int .i64 r.st, .int .i64 r.h.st, .int .u32 (r.h.se : Nat), .int .u32 (r.h.nu : Nat), .int .u32 (r.h.sn : Nat), .int .i64 r.h.si, .int .i64 r.h.la, .bool r.h.rq, .bool r.h.on, .slice x.a2 r.h.l x.c2, .int .i64 r.v.st, .int .u32 (r.v.se : Nat), .int .u32 (r.v.nu : Nat), .int .u32 (r.v.sn : Nat), .int .i64 r.v.si, .int .i64 r.v.la, .bool r.v.rq, .bool r.v.on, .slice x.a3 r.v.l x.c3] 78 (0, 0))
theorem RxW.new (w : World) (r : Rx) (x : Rd) : RxW (w.alloc (.cells #[.int .i64 r.m.k, .int .i64 r.m.c, .int .i64 r.m.s, .int .i64 r.m.f, .int .i64 r.m.a, .int .u32 (r.m.w : Nat), .int .i64 r.m.n, .bool r.m.h, .slice x.a1 r.m.l x.c1, .int .i64 r.cd, .int .i64 r.st, .int .i64 r.h.st, .int .u32 (r.h.se : Nat), .int .u32 (r.h.nu : Nat), .int .u32 (r.h.sn : Nat), .int .i64 r.h.si, .int .i64 r.h.la, .bool r.h.rq, .bool r.h.on, .slice x.a2 r.h.l x.c2, .int .i64 r.v.st, .int .u32 (r.v.se : Nat), .int .u32 (r.v.nu : Nat), .int .u32 (r.v.sn : Nat), .int .i64 r.v.si, .int .i64 r.v.la, .bool r.v.rq, .bool r.v.on, .slice x.a3 r.v.l x.c3] 78)) w.heap.size r x := ⟨heap_alloc_new _ _⟩
theorem RxW.below {w w' : World} {b : Nat} {r : Rx} {x : Rd} (h : RxW w b r x) (hb : Below w.heap.size w w') : RxW w' b r x := ⟨(hb.block b (Array.getElem?_eq_some_iff.1 h.blk).1).trans h.blk⟩
theorem RxW.cells {w : World} {b : Nat} {r : Rx} {x : Rd} (h : RxW w b r x) : w.cell? ⟨b, 0, none⟩ = some (.int .i64 r.m.k) ∧ w.cell? ⟨b, 1, none⟩ = some (.int .i64 r.m.c) ∧ w.cell? ⟨b, 2, none⟩ = some (.int .i64 r.m.s) ∧ w.cell? ⟨b, 3, none⟩ = some (.int .i64 r.m.f) ∧ w.cell? ⟨b, 4, none⟩ = some (.int .i64 r.m.a) ∧ w.cell? ⟨b, 5, none⟩ = some (.int .u32 (r.m.w : Nat)) ∧ w.cell? ⟨b, 6, none⟩ = some (.int .i64 r.m.n) ∧ w.cell? ⟨b, 7, none⟩ = some (.bool r.m.h) ∧ w.cell? ⟨b, 8, none⟩ = some (.slice x.a1 r.m.l x.c1) ∧ w.cell? ⟨b, 9, none⟩ = some (.int .i64 r.cd) ∧ w.cell? ⟨b, 10, none⟩ = some (.int .i64 r.st) ∧ w.cell? ⟨b, 11, none⟩ = some (.int .i64 r.h.st) ∧ w.cell? ⟨b, 12, none⟩ = some (.int .u32 (r.h.se : Nat)) ∧ w.cell? ⟨b, 13, none⟩ = some (.int .u32 (r.h.nu : Nat)) ∧ w.cell? ⟨b, 14, none⟩ = some (.int .u32 (r.h.sn : Nat)) ∧ w.cell? ⟨b, 15, none⟩ = some (.int .i64 r.h.si) ∧ w.cell? ⟨b, 16, none⟩ = some (.int .i64 r.h.la) ∧ w.cell? ⟨b, 17, none⟩ = some (.bool r.h.rq) ∧ w.cell? ⟨b, 18, none⟩ = some (.bool r.h.on) ∧ w.cell? ⟨b, 19, none⟩ = some (.slice x.a2 r.h.l x.c2) ∧ w.cell? ⟨b, 20, none⟩ = some (.int .i64 r.v.st) ∧ w.cell? ⟨b, 21, none⟩ = some (.int .u32 (r.v.se : Nat)) ∧ w.cell? ⟨b, 22, none⟩ = some (.int .u32 (r.v.nu : Nat)) ∧ w.cell? ⟨b, 23, none⟩ = some (.int .u32 (r.v.sn : Nat)) ∧ w.cell? ⟨b, 24, none⟩ = some (.int .i64 r.v.si) ∧ w.cell? ⟨b, 25, none⟩ = some (.int .i64 r.v.la) ∧ w.cell? ⟨b, 26, none⟩ = some (.bool r.v.rq) ∧ w.cell? ⟨b, 27, none⟩ = some (.bool r.v.on) ∧ w.cell? ⟨b, 28, none⟩ = some (.slice x.a3 r.v.l x.c3) := ⟨cell_of_row _ _ 0 _ _ _ h.blk, cell_of_row _ _ 1 _ _ _ h.blk, cell_of_row _ _ 2 _ _ _ h.blk, cell_of_row _ _ 3 _ _ _ h.blk, cell_of_row _ _ 4 _ _ _ h.blk, cell_of_row _ _ 5 _ _ _ h.blk, cell_of_row _ _ 6 _ _ _ h.blk, cell_of_row _ _ 7 _ _ _ h.blk, cell_of_row _ _ 8 _ _ _ h.blk, cell_of_row _ _ 9 _ _ _ h.blk, cell_of_row _ _ 10 _ _ _ h.blk, cell_of_row _ _ 11 _ _ _ h.blk, cell_of_row _ _ 12 _ _ _ h.blk, cell_of_row _ _ 13 _ _ _ h.blk, cell_of_row _ _ 14 _ _ _ h.blk, cell_of_row _ _ 15 _ _ _ h.blk, cell_of_row _ _ 16 _ _ _ h.blk, cell_of_row _ _ 17 _ _ _ h.blk, cell_of_row _ _ 18 _ _ _ h.blk, cell_of_row _ _ 19 _ _ _ h.blk, cell_of_row _ _ 20 _ _ _ h.blk, cell_of_row _ _ 21 _ _ _ h.blk, cell_of_row _ _ 22 _ _ _ h.blk, cell_of_row _ _ 23 _ _ _ h.blk, cell_of_row _ _ 24 _ _ _ h.blk, cell_of_row _ _ 25 _ _ _ h.blk, cell_of_row _ _ 26 _ _ _ h.blk, cell_of_row _ _ 27 _ _ _ h.blk, cell_of_row _ _ 28 _ _ _ h.blk⟩
/-- append of a list of words of our own, in a region that draws. -/
theorem step_appWs {ops : Array Oper} {o : Oper} {a : Act} {w2 : World} {K : Act → World → Prop} {Q : Exit → Act → World → Prop} {E : Prop}
    (hgd : o.guard = none) (s x : Operand) (hop : o.op = Op.call { callee := Callee.builtin Builtin.append, args := #[s, x], argTypes := #[48, 48] }) (hty : o.type = 48)
    {W wx : World} {v : Value} {ls : List (List UInt8)} (l8 : List (List UInt8)) {B8 g8 n8 c8 : Nat} (h : Wd W wx v ls) (b2 : Below wx.heap.size wx w2) (hn8 : l8.length = n8) (o8 : w2.ownsRow B8 9 1 (.slice (some ⟨g8, 0, none⟩) n8 c8) n8 (wsT l8)) (hs : a.eval s = v) (hx : a.eval x = .slice (some ⟨g8, 0, none⟩) n8 c8) (hl : ls.length ≤ 1000) (hl8 : l8.length ≤ 1000)
    (hK : ∀ v7 w7, Hid (Wd W w7 v7 (ls ++ l8)) → Below W.heap.size W w7 → K (a.put o.dst v7) w7) :
    if Region.wanted o (yielded ops a.tmps) = true then Oper.wp Tryd.prog o a w2 K Q else E := by
  have hw : Region.wanted o (yielded ops a.tmps) = true := by simp [Region.wanted, hgd]
  rw [if_pos hw]
  obtain ⟨i0, hIn, hz0, hz1, hz2⟩ := info_parts info_str
  have O3 := ownB h.own b2
  have B3 : W.heap.size ≤ w2.heap.size := Nat.le_trans h.bel.size b2.size
  have b3 : Below W.heap.size W w2 := h.bel.trans (b2.mono h.bel.size)
  obtain ⟨hc, _, _, _⟩ := own_cellsS o8
  obtain ⟨v', w', hr, k1, k2, _⟩ := run_append_own (P := Tryd.prog) _ W.heap.size 48 48 9 i0 (.string (ByteArray.mk #[])) 1 16 Tryd.underlying48 hIn hz0 hz1 hz2 rfl (by decide) v ls.length (wsT ls) O3 ⟨g8, 0, none⟩ n8 c8 (wsT l8) (by unfold wsT; simp [hn8]) (fun j u hu => by
      have e : (⟨g8, 0, none⟩ : Addr).add j = ⟨g8, j, none⟩ := by unfold Addr.add; simp; omega
      rw [e]
      exact hc j u hu) (fun u hu => by
      unfold wsT at hu
      obtain ⟨l, _, rfl⟩ := List.mem_map.1 hu
      rfl) (by unfold maxLen; omega) (by omega) B3
  have hF : Wd W w' v' (ls ++ l8) := by
    refine ⟨?_, b3.grown k2 b3.size (fun k hk => (h.own.lt k hk).1)⟩
    have e : wsT ls ++ wsT l8 = wsT (ls ++ l8) := by unfold wsT; rw [List.map_append]
    rw [← e, List.length_append, hn8]
    exact k1
  unfold Oper.wp execOp
  simp only [hop, hty, resolve, invoke, builtin, Sem.run_bind, Sem.run_pure, Result.andThen_ok, List.map_toArray, List.map_cons, List.map_nil, hs, hx, hr]
  exact hK v' w' hF hF.bel
/-- Two words in a new block. -/
theorem two_own (w : World) (a b : List UInt8) {X Y : ByteArray} (hX : tx a = X) (hY : tx b = Y) : (w.alloc (.cells #[.string X, .string Y] 9)).ownsRow w.heap.size 9 1 (.slice (some ⟨w.heap.size, 0, none⟩) 2 2) 2 (wsT [a, b]) := by
  refine ⟨rfl, .inr ⟨w.heap.size, 2, _, rfl, Nat.le_refl _, heap_alloc_new _ _, Nat.le_refl _, by decide, rfl, ?_⟩⟩
  rw [← hX, ← hY]
  rfl
set_option maxHeartbeats 4000000 in
theorem tline (r : Rx) (hr : r.Ok) (hs : r.Sh) (x : Rd) (w : World) (R : r.Rows x w) (L : Lt w) (K : Lk w) : Calls Tryd.prog 42 #[.agg #[.int .i64 r.m.k, .int .i64 r.m.c, .int .i64 r.m.s, .int .i64 r.m.f, .int .i64 r.m.a, .int .u32 (r.m.w : Nat), .int .i64 r.m.n, .bool r.m.h, .slice x.a1 r.m.l x.c1, .int .i64 r.cd, .int .i64 r.st, .int .i64 r.h.st, .int .u32 (r.h.se : Nat), .int .u32 (r.h.nu : Nat), .int .u32 (r.h.sn : Nat), .int .i64 r.h.si, .int .i64 r.h.la, .bool r.h.rq, .bool r.h.on, .slice x.a2 r.h.l x.c2, .int .i64 r.v.st, .int .u32 (r.v.se : Nat), .int .u32 (r.v.nu : Nat), .int .u32 (r.v.sn : Nat), .int .i64 r.v.si, .int .i64 r.v.la, .bool r.v.rq, .bool r.v.on, .slice x.a3 r.v.l x.c3]] w fun q w' => q = .returned (.tuple #[.string (tx r.line), .int .i64 r.m.err]) ∧ Below w.heap.size w w' := by
  obtain ⟨W, hW⟩ : ∃ W : World, w.alloc (.cells #[.int .i64 r.m.k, .int .i64 r.m.c, .int .i64 r.m.s, .int .i64 r.m.f, .int .i64 r.m.a, .int .u32 (r.m.w : Nat), .int .i64 r.m.n, .bool r.m.h, .slice x.a1 r.m.l x.c1, .int .i64 r.cd, .int .i64 r.st, .int .i64 r.h.st, .int .u32 (r.h.se : Nat), .int .u32 (r.h.nu : Nat), .int .u32 (r.h.sn : Nat), .int .i64 r.h.si, .int .i64 r.h.la, .bool r.h.rq, .bool r.h.on, .slice x.a2 r.h.l x.c2, .int .i64 r.v.st, .int .u32 (r.v.se : Nat), .int .u32 (r.v.nu : Nat), .int .u32 (r.v.sn : Nat), .int .i64 r.v.si, .int .i64 r.v.la, .bool r.v.rq, .bool r.v.on, .slice x.a3 r.v.l x.c3] 78) = W := ⟨_, rfl⟩
  have bW : Below w.heap.size w W := by rw [← hW]; exact belA (Below.refl _ _) _
  have rW : RxW W w.heap.size r x := by rw [← hW]; exact RxW.new w r x
  have hM := pmove r.m hr.m x.a1 x.c1 W (R.m.below bW) (by have := hs.m; omega) (K.below bW)
  have HW : Hid (_) := And.intro bW (And.intro rW (And.intro (R.below bW) (And.intro (L.below bW) (And.intro hr hs))))
  obtain ⟨c0, c1, c2, c3, c4, c5, c6, c7, c8, c9, c10, c11, c12, c13, c14, c15, c16, c17, c18, c19, c20, c21, c22, c23, c24, c25, c26, c27, c28⟩ := rW.cells
  clear bW rW R L K hr hs
  by_cases hE : r.m.err = 0
  rotate_left
  · have gE : (r.m.err == 0) = false := by simpa using hE
    rw [if_neg hE] at hM
    have HL : Hid (tx r.line = ByteArray.mk #[]) := by
      show tx r.line = _
      unfold Rx.line
      rw [if_neg hE]
      rfl
    clear hE
    go_enter Tryd.func42, Tryd.ntmps42
    go_wp2_with fail
    try rw [hW]
    clear hW
    refine hM.mono ?_
    rintro q w1 ⟨rfl, b1⟩
    have HB1 : Hid (_) := b1
    clear hM b1 c0 c1 c2 c3 c4 c5 c6 c7 c8 c9 c10 c11 c12 c13 c14 c15 c16 c17 c18 c19 c20 c21 c22 c23 c24 c25 c26 c27 c28
    go_wp2_with fail
    go_ret2
    exact ⟨by rw [HL.out] <;> rfl, HW.out.1.trans (HB1.out.mono HW.out.1.size)⟩
  rw [if_pos hE, hE] at hM
  rw [hE]
  have HE : Hid (_) := hE
  obtain ⟨M, hMt⟩ : ∃ y, tx r.m.line = y := ⟨_, rfl⟩
  rw [hMt] at hM
  clear hE
  go_enter Tryd.func42, Tryd.ntmps42
  go_wp2_with fail
  try rw [hW]
  clear hW
  refine hM.mono ?_
  rintro q w1 ⟨rfl, b1⟩
  have HB1 : Hid (_) := b1
  clear hM b1 c0 c1 c2 c3 c4 c5 c6 c7 c8 c9 c10 c11 c12 c13 c14 c15 c16 c17 c18 c19 c20 c21 c22 c23 c24 c25 c26 c27 c28
  have cel : Hid (∀ wx, Below W.heap.size W wx → RxW wx w.heap.size r x ∧ r.Rows x wx ∧ Lt wx) := fun wx bx => ⟨HW.out.2.1.below bx, HW.out.2.2.1.below bx, HW.out.2.2.2.1.below bx⟩
  obtain ⟨c0, c1, c2, c3, c4, c5, c6, c7, c8, c9, c10, c11, c12, c13, c14, c15, c16, c17, c18, c19, c20, c21, c22, c23, c24, c25, c26, c27, c28⟩ := (cel.out w1 HB1.out).1.cells
  have hI := pitoa r.cd HW.out.2.2.2.2.1.cd.1 HW.out.2.2.2.2.1.cd.2 w1 (cel.out w1 HB1.out).2.2.p
  obtain ⟨A, hA⟩ : ∃ y, tx (Lib.itoa r.cd) = y := ⟨_, rfl⟩
  rw [hA] at hI
  have hkeep : Hid (_) := And.intro hMt hA
  clear hMt hA
  go_wp2_with fail
  refine hI.mono ?_
  rintro q w2 ⟨rfl, b2⟩
  have HF1 : Hid (Wd W (w2.alloc (.cells #[.string M, .string (ByteArray.mk #[45, 62]), .string A] 9)) (.slice (some ⟨w2.heap.size, 0, none⟩) 3 3) r.w1) := by
    have bb := belTS b2 HB1.out
    refine ⟨⟨rfl, .inr ⟨w2.heap.size, 3, _, rfl, bb.size, heap_alloc_new _ _, by simp [Rx.w1], by decide, rfl, ?_⟩⟩, belA bb _⟩
    rw [← hkeep.out.1, ← hkeep.out.2]
    rfl
  obtain ⟨w3, hw3⟩ : ∃ y, w2.alloc (.cells #[.string M, .string (ByteArray.mk #[45, 62]), .string A] 9) = y := ⟨_, rfl⟩
  obtain ⟨g3, hg3⟩ : ∃ y, w2.heap.size = y := ⟨_, rfl⟩
  rw [hw3, hg3] at HF1
  clear hI b2 c0 c1 c2 c3 c4 c5 c6 c7 c8 c9 c10 c11 c12 c13 c14 c15 c16 c17 c18 c19 c20 c21 c22 c23 c24 c25 c26 c27 c28
  obtain ⟨c0, c1, c2, c3, c4, c5, c6, c7, c8, c9, c10, c11, c12, c13, c14, c15, c16, c17, c18, c19, c20, c21, c22, c23, c24, c25, c26, c27, c28⟩ := (cel.out w3 HF1.out.bel).1.cells
  obtain ⟨IN, hIN⟩ : ∃ y, decide (0 ≤ r.st) = y := ⟨_, rfl⟩
  have HIN : Hid (_) := hIN
  clear hIN
  go_upto_region 5 with fail
  try rw [hw3]
  try rw [hg3]
  clear hw3 hg3
  go_cut [23] (fun v wx => v = .bool IN ∧ wx = w3)
  case first =>
    by_cases h0 : 0 ≤ r.st
    · have e : IN = true := by rw [← HIN.out]; exact decide_eq_true h0
      go_wp2_with fail
      go_meet
      exact ⟨by rw [e], rfl⟩
    · have e : IN = false := by rw [← HIN.out]; exact decide_eq_false h0
      go_wp2_with fail
      go_meet
      exact ⟨by rw [e], rfl⟩
  case rest =>
  obtain ⟨rfl, rfl⟩ := hcut
  go_upto_if 23 with fail
  go_cut [6] (fun v wx => Hid (Wd W wx v (r.w1 ++ r.w2)))
  case first =>
    cases IN with
    | false =>
      have H2 : Hid (Wd W wc (.slice (some ⟨g3, 0, none⟩) 3 3) (r.w1 ++ r.w2)) := by
        show Wd W wc (.slice (some ⟨g3, 0, none⟩) 3 3) (r.w1 ++ r.w2)
        unfold Rx.w2
        rw [if_neg (of_decide_eq_false HIN.out)]
        simpa using HF1.out
      go_wp2_with fail
      go_meet
      exact H2
    | true =>
      have hI := pitoa r.st HW.out.2.2.2.2.1.st.1 HW.out.2.2.2.2.1.st.2 wc (cel.out wc HF1.out.bel).2.2.p
      obtain ⟨S, hS⟩ : ∃ y, tx (Lib.itoa r.st) = y := ⟨_, rfl⟩
      rw [hS] at hI
      go_wp2_with fail
      refine hI.mono ?_
      rintro q w5 ⟨rfl, b5⟩
      have HB5 : Hid (_) := b5
      clear hI b5 c0 c1 c2 c3 c4 c5 c6 c7 c8 c9 c10 c11 c12 c13 c14 c15 c16 c17 c18 c19 c20 c21 c22 c23 c24 c25 c26 c27 c28
      have o8 := two_own w5 [115, 101, 110, 116] (Lib.itoa r.st) (show tx [115, 101, 110, 116] = ByteArray.mk #[115, 101, 110, 116] from rfl) hS
      go_wp2_with (at_builtin; refine wpList_appWs rfl _ _ rfl [[115, 101, 110, 116], Lib.itoa r.st] HF1.out (belA HB5.out _) o8 (fun h => by simp at h) rfl rfl (by simp [Rx.w1]) (by simp) ?_)
      intro v7 w7 h7
      have H2 : Hid (Wd W w7 v7 (r.w1 ++ r.w2)) := by
        show Wd W w7 v7 (r.w1 ++ r.w2)
        unfold Rx.w2
        rw [if_pos (of_decide_eq_true HIN.out)]
        exact h7.out
      clear h7 o8 hS
      go_wp2_with fail
      go_meet
      exact H2
  case rest =>
    have H5 : Hid (Wd W wc u6 (r.w1 ++ r.w2)) := hcut
    clear hcut c0 c1 c2 c3 c4 c5 c6 c7 c8 c9 c10 c11 c12 c13 c14 c15 c16 c17 c18 c19 c20 c21 c22 c23 c24 c25 c26 c27 c28 HF1 HB1
    have kk := (cel.out wc H5.out.bel).1.cells
    obtain ⟨c0, c1, c2, c3, c4, c5, c6, c7, c8, c9, c10, c11, c12, c13, c14, c15, c16, c17, c18, c19, c20, c21, c22, c23, c24, c25, c26, c27, c28⟩ := kk
    have h1 := Ed.line_len HW.out.2.2.2.2.1.h
    have h2 := Ed.line_len HW.out.2.2.2.2.1.v
    have l1 := HW.out.2.2.2.2.2.h
    have l2 := HW.out.2.2.2.2.2.v
    obtain ⟨Hx, hHx⟩ : ∃ y, tx r.h.line = y := ⟨_, rfl⟩
    obtain ⟨Vx, hVx⟩ : ∃ y, tx r.v.line = y := ⟨_, rfl⟩
    rw [← tx_size, hHx] at h1
    rw [← tx_size, hVx] at h2
    obtain ⟨Y1, p1, t1, z1⟩ := catS (show tx [104, 58] = ByteArray.mk #[104, 58] from rfl) hHx
    obtain ⟨Y2, p2, t2, z2⟩ := catS (show tx [100, 58] = ByteArray.mk #[100, 58] from rfl) hVx
    have s1 : ¬ 9223372036854775807 < (ByteArray.mk #[104, 58]).size + Hx.size := by
      rw [show (ByteArray.mk #[104, 58]).size = 2 from rfl]
      omega
    have s2 : ¬ 9223372036854775807 < (ByteArray.mk #[100, 58]).size + Vx.size := by
      rw [show (ByteArray.mk #[100, 58]).size = 2 from rfl]
      omega
    have s1' : ¬ 9223372036854775807 < 2 + Hx.size := by omega
    have s2' : ¬ 9223372036854775807 < 2 + Vx.size := by omega
    have e1 : ∀ wx, Below wc.heap.size wc wx → Calls Tryd.prog 44 #[.agg #[.int .i64 r.h.st, .int .u32 (r.h.se : Nat), .int .u32 (r.h.nu : Nat), .int .u32 (r.h.sn : Nat), .int .i64 r.h.si, .int .i64 r.h.la, .bool r.h.rq, .bool r.h.on, .slice x.a2 r.h.l x.c2]] wx fun q w' => ∃ v, q = .returned v ∧ (v = .string Hx ∧ Below wc.heap.size wc w') := fun wx bx => by
      refine (tend r.h HW.out.2.2.2.2.1.h x.a2 x.c2 wx ((cel.out wx (belTS bx H5.out.bel)).2.1.h) (by omega) (cel.out wx (belTS bx H5.out.bel)).2.2).mono ?_
      rintro q w' ⟨rfl, b⟩
      exact ⟨_, rfl, by rw [hHx], belTS b bx⟩
    have e2 : ∀ wx, Below wc.heap.size wc wx → Calls Tryd.prog 44 #[.agg #[.int .i64 r.v.st, .int .u32 (r.v.se : Nat), .int .u32 (r.v.nu : Nat), .int .u32 (r.v.sn : Nat), .int .i64 r.v.si, .int .i64 r.v.la, .bool r.v.rq, .bool r.v.on, .slice x.a3 r.v.l x.c3]] wx fun q w' => ∃ v, q = .returned v ∧ (v = .string Vx ∧ Below wc.heap.size wc w') := fun wx bx => by
      refine (tend r.v HW.out.2.2.2.2.1.v x.a3 x.c3 wx ((cel.out wx (belTS bx H5.out.bel)).2.1.v) (by omega) (cel.out wx (belTS bx H5.out.bel)).2.2).mono ?_
      rintro q w' ⟨rfl, b⟩
      exact ⟨_, rfl, by rw [hVx], belTS b bx⟩
    have hS : ∀ wx, Below wc.heap.size wc wx → wx.cell? ⟨w.heap.size, 11, none⟩ = some (.int .i64 r.h.st) ∧ wx.cell? ⟨w.heap.size, 12, none⟩ = some (.int .u32 (r.h.se : Nat)) ∧ wx.cell? ⟨w.heap.size, 13, none⟩ = some (.int .u32 (r.h.nu : Nat)) ∧ wx.cell? ⟨w.heap.size, 14, none⟩ = some (.int .u32 (r.h.sn : Nat)) ∧ wx.cell? ⟨w.heap.size, 15, none⟩ = some (.int .i64 r.h.si) ∧ wx.cell? ⟨w.heap.size, 16, none⟩ = some (.int .i64 r.h.la) ∧ wx.cell? ⟨w.heap.size, 17, none⟩ = some (.bool r.h.rq) ∧ wx.cell? ⟨w.heap.size, 18, none⟩ = some (.bool r.h.on) ∧ wx.cell? ⟨w.heap.size, 19, none⟩ = some (.slice x.a2 r.h.l x.c2) ∧ wx.cell? ⟨w.heap.size, 20, none⟩ = some (.int .i64 r.v.st) ∧ wx.cell? ⟨w.heap.size, 21, none⟩ = some (.int .u32 (r.v.se : Nat)) ∧ wx.cell? ⟨w.heap.size, 22, none⟩ = some (.int .u32 (r.v.nu : Nat)) ∧ wx.cell? ⟨w.heap.size, 23, none⟩ = some (.int .u32 (r.v.sn : Nat)) ∧ wx.cell? ⟨w.heap.size, 24, none⟩ = some (.int .i64 r.v.si) ∧ wx.cell? ⟨w.heap.size, 25, none⟩ = some (.int .i64 r.v.la) ∧ wx.cell? ⟨w.heap.size, 26, none⟩ = some (.bool r.v.rq) ∧ wx.cell? ⟨w.heap.size, 27, none⟩ = some (.bool r.v.on) ∧ wx.cell? ⟨w.heap.size, 28, none⟩ = some (.slice x.a3 r.v.l x.c3) := fun wx bx => ⟨cellB c11 bx, cellB c12 bx, cellB c13 bx, cellB c14 bx, cellB c15 bx, cellB c16 bx, cellB c17 bx, cellB c18 bx, cellB c19 bx, cellB c20 bx, cellB c21 bx, cellB c22 bx, cellB c23 bx, cellB c24 bx, cellB c25 bx, cellB c26 bx, cellB c27 bx, cellB c28 bx⟩
    have hS2 : ∀ wx, Below W.heap.size W wx → wx.cell? ⟨w.heap.size, 11, none⟩ = some (.int .i64 r.h.st) ∧ wx.cell? ⟨w.heap.size, 12, none⟩ = some (.int .u32 (r.h.se : Nat)) ∧ wx.cell? ⟨w.heap.size, 13, none⟩ = some (.int .u32 (r.h.nu : Nat)) ∧ wx.cell? ⟨w.heap.size, 14, none⟩ = some (.int .u32 (r.h.sn : Nat)) ∧ wx.cell? ⟨w.heap.size, 15, none⟩ = some (.int .i64 r.h.si) ∧ wx.cell? ⟨w.heap.size, 16, none⟩ = some (.int .i64 r.h.la) ∧ wx.cell? ⟨w.heap.size, 17, none⟩ = some (.bool r.h.rq) ∧ wx.cell? ⟨w.heap.size, 18, none⟩ = some (.bool r.h.on) ∧ wx.cell? ⟨w.heap.size, 19, none⟩ = some (.slice x.a2 r.h.l x.c2) ∧ wx.cell? ⟨w.heap.size, 20, none⟩ = some (.int .i64 r.v.st) ∧ wx.cell? ⟨w.heap.size, 21, none⟩ = some (.int .u32 (r.v.se : Nat)) ∧ wx.cell? ⟨w.heap.size, 22, none⟩ = some (.int .u32 (r.v.nu : Nat)) ∧ wx.cell? ⟨w.heap.size, 23, none⟩ = some (.int .u32 (r.v.sn : Nat)) ∧ wx.cell? ⟨w.heap.size, 24, none⟩ = some (.int .i64 r.v.si) ∧ wx.cell? ⟨w.heap.size, 25, none⟩ = some (.int .i64 r.v.la) ∧ wx.cell? ⟨w.heap.size, 26, none⟩ = some (.bool r.v.rq) ∧ wx.cell? ⟨w.heap.size, 27, none⟩ = some (.bool r.v.on) ∧ wx.cell? ⟨w.heap.size, 28, none⟩ = some (.slice x.a3 r.v.l x.c3) := fun wx bx => by
      obtain ⟨c0, c1, c2, c3, c4, c5, c6, c7, c8, c9, c10, c11, c12, c13, c14, c15, c16, c17, c18, c19, c20, c21, c22, c23, c24, c25, c26, c27, c28⟩ := (cel.out wx bx).1.cells
      exact ⟨c11, c12, c13, c14, c15, c16, c17, c18, c19, c20, c21, c22, c23, c24, c25, c26, c27, c28⟩
    have B0 : Below wc.heap.size wc wc.drew := Below.drew (Below.refl _ _)
    have HSd := hS _ B0
    have HT : Hid (_) := And.intro t1 t2
    clear t1 t2 z1 z2 h1 h2 l1 l2 hHx hVx
    go_wp2_with fail
    go_region_held3 (fun wx => wx.cell? ⟨w.heap.size, 11, none⟩ = some (.int .i64 r.h.st) ∧ wx.cell? ⟨w.heap.size, 12, none⟩ = some (.int .u32 (r.h.se : Nat)) ∧ wx.cell? ⟨w.heap.size, 13, none⟩ = some (.int .u32 (r.h.nu : Nat)) ∧ wx.cell? ⟨w.heap.size, 14, none⟩ = some (.int .u32 (r.h.sn : Nat)) ∧ wx.cell? ⟨w.heap.size, 15, none⟩ = some (.int .i64 r.h.si) ∧ wx.cell? ⟨w.heap.size, 16, none⟩ = some (.int .i64 r.h.la) ∧ wx.cell? ⟨w.heap.size, 17, none⟩ = some (.bool r.h.rq) ∧ wx.cell? ⟨w.heap.size, 18, none⟩ = some (.bool r.h.on) ∧ wx.cell? ⟨w.heap.size, 19, none⟩ = some (.slice x.a2 r.h.l x.c2) ∧ wx.cell? ⟨w.heap.size, 20, none⟩ = some (.int .i64 r.v.st) ∧ wx.cell? ⟨w.heap.size, 21, none⟩ = some (.int .u32 (r.v.se : Nat)) ∧ wx.cell? ⟨w.heap.size, 22, none⟩ = some (.int .u32 (r.v.nu : Nat)) ∧ wx.cell? ⟨w.heap.size, 23, none⟩ = some (.int .u32 (r.v.sn : Nat)) ∧ wx.cell? ⟨w.heap.size, 24, none⟩ = some (.int .i64 r.v.si) ∧ wx.cell? ⟨w.heap.size, 25, none⟩ = some (.int .i64 r.v.la) ∧ wx.cell? ⟨w.heap.size, 26, none⟩ = some (.bool r.v.rq) ∧ wx.cell? ⟨w.heap.size, 27, none⟩ = some (.bool r.v.on) ∧ wx.cell? ⟨w.heap.size, 28, none⟩ = some (.slice x.a3 r.v.l x.c3)) (first | assumption | exact hS _ (by assumption) | exact hS _ (belA (by assumption) _) | exact hS2 _ (by assumption)) (first
      | (refine step_callS 44 #[.tmp 32] #[76] rfl (by kernel_rfl) #[.agg #[.int .i64 r.h.st, .int .u32 (r.h.se : Nat), .int .u32 (r.h.nu : Nat), .int .u32 (r.h.sn : Nat), .int .i64 r.h.si, .int .i64 r.h.la, .bool r.h.rq, .bool r.h.on, .slice x.a2 r.h.l x.c2]] (by kernel_rfl) (e1 _ (by assumption)) ?_; rintro y v1 ⟨rfl, b1⟩)
      | (refine step_callS 44 #[.tmp 36] #[76] rfl (by kernel_rfl) #[.agg #[.int .i64 r.v.st, .int .u32 (r.v.se : Nat), .int .u32 (r.v.nu : Nat), .int .u32 (r.v.sn : Nat), .int .i64 r.v.si, .int .i64 r.v.la, .bool r.v.rq, .bool r.v.on, .slice x.a3 r.v.l x.c3]] (by kernel_rfl) (e2 _ (by assumption)) ?_; rintro y v2 ⟨rfl, b2⟩)
      | (refine step_appWs rfl (.tmp 30) (.tmp 39) rfl rfl r.w3 H5.out (belA b2 _) rfl (two_own v2 _ _ HT.out.1 HT.out.2) rfl rfl (by have := r.w2_len; rw [List.length_append]; simp [Rx.w1]; omega) (by simp [Rx.w3]) ?_; intro v7 w7 h7 b7)
      | fail)
    have H7 : Hid (Wd W w7 v7 r.ws) := h7
    have hLn := Rx.full_len HW.out.2.2.2.2.1 HW.out.2.2.2.2.2
    have hWs := r.ws_len
    obtain ⟨g8, cc8, q8⟩ := H7.out.len hWs.2
    have HL : Hid (r.line = Lib.join r.ws [32]) := by
      show r.line = _
      unfold Rx.line Rx.full
      rw [if_pos HE.out]
    rw [q8] at H7 ⊢
    have hJ := pjoin (w := w7) r.ws H7.out.own (by omega) (by show r.full.length ≤ _; omega)
    rename (World.cell? _ _ = _ ∧ _) => hHd
    clear hHd hS hS2 HSd B0 e1 e2 b1 b2 b7 h7 q8 hLn hWs HT p1 p2 s1 s2 s1' s2' H5 c0 c1 c2 c3 c4 c5 c6 c7 c8 c9 c10 c11 c12 c13 c14 c15 c16 c17 c18 c19 c20 c21 c22 c23 c24 c25 c26 c27 c28
    obtain ⟨N, hN⟩ : ∃ y, r.ws.length = y := ⟨_, rfl⟩
    rw [hN] at H7 hJ ⊢
    clear hN
    go_wp2_with fail
    refine hJ.mono ?_
    rintro q wj ⟨rfl, bj⟩
    have HJ : Hid (_) := bj
    clear hJ bj
    go_wp2_with fail
    go_ret2
    exact ⟨by rw [HL.out] <;> rfl, HW.out.1.trans ((H7.out.bel.mono HW.out.1.size).trans (HJ.out.mono (Nat.le_trans HW.out.1.size H7.out.bel.size)))⟩
end Go.Proofs.YtbhbjdmdabkomaaDoor
