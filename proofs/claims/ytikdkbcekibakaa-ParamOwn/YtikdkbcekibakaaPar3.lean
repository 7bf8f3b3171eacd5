/- Decode of the program and of the document (by genpar3.py). -/
import Derived.Test.YtikdkbcekibakaaPar2
namespace Go.Proofs.Ytikdkbcekibakaa
open Go.RowKit

theorem orP_add (x y : Nat) (k : Nat) (hx : x % 2 ^ k = 0) (hy : y < 2 ^ k) (h1 : x < 4294967296) (h2 : y < 4294967296) : bits .or .u32 (x : Int) (y : Int) = ((x + y : Nat) : Int) := by
  rw [u32_or_nat x y h1 h2, nat_join k x y hx hy]
theorem wnumP (x0 x1 x2 x3 : Nat) (h0 : x0 < 256) (h1 : x1 < 256) (h2 : x2 < 256) (h3 : x3 < 256) :
    bits .or .u32 (bits .or .u32 (bits .or .u32 ((x0 : Int) * 16777216) ((x1 : Int) * 65536)) ((x2 : Int) * 256)) (x3 : Int) = ((x0 * 16777216 + x1 * 65536 + x2 * 256 + x3 : Nat) : Int) := by
  have e0 : (x0 : Int) * 16777216 = ((x0 * 16777216 : Nat) : Int) := by omega
  have e1 : (x1 : Int) * 65536 = ((x1 * 65536 : Nat) : Int) := by omega
  have e2 : (x2 : Int) * 256 = ((x2 * 256 : Nat) : Int) := by omega
  rw [e0, e1, e2, orP_add _ _ 24 (by omega) (by omega) (by omega) (by omega), orP_add _ _ 16 (by omega) (by omega) (by omega) (by omega), orP_add _ _ 8 (by omega) (by omega) (by omega) (by omega)]
/-- A call that only draws, as one step of a region that draws. -/
theorem step_drawP {P : Program} {ops : Array Oper} {o : Oper} {a : Act} {w : World} {K : Act → World → Prop} {Q : Exit → Act → World → Prop} {E : Prop}
    (hg : o.guard = none) (t : Operand) (f : FuncId) (_ : o.op = .call { callee := .value (.func f), args := #[t], argTypes := #[25] }) (args : Array Value) (v : Value) (hc : Calls P f args w fun e w' => e = .returned v ∧ ∃ m, w' = w.drewN m) (hrun : (execOp a.eval o).run P w = .ok (.enter f args) w) (hK : ∀ m, K (a.put o.dst v) (w.drewN m)) :
    if Region.wanted o (yielded ops a.tmps) = true then Oper.wp P o a w K Q else E := by
  have hw : Region.wanted o (yielded ops a.tmps) = true := by simp [Region.wanted, hg]
  rw [if_pos hw]
  unfold Oper.wp
  rw [hrun]
  refine hc.mono ?_
  rintro e w'' ⟨rfl, m, rfl⟩
  exact hK m
theorem fiveP_cell {w2 : World} {g b o : Nat} {x : Value} (h : w2.cell? ⟨b, o, none⟩ = some x) (hne : ¬ b = g) (v0 v1 v2 v3 v4 : Value) :
    (((((w2.setCell ⟨g, 0, none⟩ v0).setCell ⟨g, 1, none⟩ v1).setCell ⟨g, 2, none⟩ v2).setCell ⟨g, 3, none⟩ v3).setCell ⟨g, 4, none⟩ v4).cell? ⟨b, o, none⟩ = some x := by
  have hg : g ≠ b := fun e => hne e.symm
  rw [World.cell?_setCell_far _ _ _ _ hg, World.cell?_setCell_far _ _ _ _ hg, World.cell?_setCell_far _ _ _ _ hg, World.cell?_setCell_far _ _ _ _ hg, World.cell?_setCell_far _ _ _ _ hg]
  exact h
theorem fiveP_below {w w2 : World} {B g : Nat} (h : Below B w w2) (hle : B ≤ g) (v0 v1 v2 v3 v4 : Value) :
    Below B w (((((w2.setCell ⟨g, 0, none⟩ v0).setCell ⟨g, 1, none⟩ v1).setCell ⟨g, 2, none⟩ v2).setCell ⟨g, 3, none⟩ v3).setCell ⟨g, 4, none⟩ v4) :=
  ((((h.setCell (p := ⟨g, 0, none⟩) hle _).setCell (p := ⟨g, 1, none⟩) hle _).setCell (p := ⟨g, 2, none⟩) hle _).setCell (p := ⟨g, 3, none⟩) hle _).setCell (p := ⟨g, 4, none⟩) hle _
theorem fiveP_box {w2 : World} {g : Nat} {c0 : Nat} {o0 i0 t0 : Int} {n0 : Nat} (h : Bx w2 g c0 o0 i0 t0 n0) (c : Nat) (o i t : Int) (n : Nat) :
    Bx (((((w2.setCell ⟨g, 0, none⟩ (.int .u32 c)).setCell ⟨g, 1, none⟩ (.int .i64 o)).setCell ⟨g, 2, none⟩ (.int .i64 i)).setCell ⟨g, 3, none⟩ (.int .i64 t)).setCell ⟨g, 4, none⟩ (.int .u32 n)) g c o i t n := by
  obtain ⟨h0, h1, h2, h3, h4⟩ := h
  have ne : ∀ i j : Nat, i ≠ j → (⟨g, i, none⟩ : Addr) ≠ ⟨g, j, none⟩ := fun i j hij e => hij (congrArg Addr.off e)
  have st : ∀ (wx : World) (k : Nat) (u v : Value), wx.cell? ⟨g, k, none⟩ = some u → (wx.setCell ⟨g, k, none⟩ v).cell? ⟨g, k, none⟩ = some v := fun wx k u v hu => World.cell?_setCell_same _ _ _ hu
  have ot : ∀ (wx : World) (j k : Nat) (u v : Value), j ≠ k → wx.cell? ⟨g, k, none⟩ = some u → (wx.setCell ⟨g, j, none⟩ v).cell? ⟨g, k, none⟩ = some u := fun wx j k u v hjk hu => (World.cell?_setCell_other _ _ _ _ (ne j k hjk)).trans hu
  refine ⟨?_, ?_, ?_, ?_, ?_⟩
  · exact ot _ _ _ _ _ (by omega) (ot _ _ _ _ _ (by omega) (ot _ _ _ _ _ (by omega) (ot _ _ _ _ _ (by omega) (st _ _ _ _ h0))))
  · exact ot _ _ _ _ _ (by omega) (ot _ _ _ _ _ (by omega) (ot _ _ _ _ _ (by omega) (st _ _ _ _ (ot _ _ _ _ _ (by omega) h1))))
  · exact ot _ _ _ _ _ (by omega) (ot _ _ _ _ _ (by omega) (st _ _ _ _ (ot _ _ _ _ _ (by omega) (ot _ _ _ _ _ (by omega) h2))))
  · exact ot _ _ _ _ _ (by omega) (st _ _ _ _ (ot _ _ _ _ _ (by omega) (ot _ _ _ _ _ (by omega) (ot _ _ _ _ _ (by omega) h3))))
  · exact st _ _ _ _ (ot _ _ _ _ _ (by omega) (ot _ _ _ _ _ (by omega) (ot _ _ _ _ _ (by omega) (ot _ _ _ _ _ (by omega) h4))))
set_option maxHeartbeats 1000000 in
theorem pword_any (b off len cap x0 x1 x2 x3 : Nat) (w : World) (hlen : (3 : Int) < (len : Int)) (h0 : x0 < 256) (h1 : x1 < 256) (h2 : x2 < 256) (h3 : x3 < 256)
    (c0 : w.cell? ⟨b, off, none⟩ = some (.int .u8 x0)) (c1 : w.cell? ⟨b, off + 1, none⟩ = some (.int .u8 x1)) (c2 : w.cell? ⟨b, off + 2, none⟩ = some (.int .u8 x2)) (c3 : w.cell? ⟨b, off + 3, none⟩ = some (.int .u8 x3)) :
    Calls Try.prog 27 #[.slice (some ⟨b, off, none⟩) len cap] w fun e w' => e = .returned (.int .u32 ((x0 * 16777216 + x1 * 65536 + x2 * 256 + x3 : Nat) : Int)) ∧ ∃ m, w' = w.drewN m := by
  have hn := wnumP x0 x1 x2 x3 h0 h1 h2 h3
  have l0 : (0 : Int) < (len : Int) := by omega
  have l1 : (1 : Int) < (len : Int) := by omega
  have l2 : (2 : Int) < (len : Int) := by omega
  generalize x0 * 16777216 + x1 * 65536 + x2 * 256 + x3 = y at *
  go_enter Try.func27, Try.ntmps27
  go_wp2_with fail
  go_quiet (fail)
  go_wp2
  go_ret
  exact ⟨rfl, _, rfl⟩
theorem pword_row (b off len cap i L C : Nat) (bs : Nat → Nat) (w : World) (hr : Row8 w (some ⟨b, off, none⟩) len cap bs) (h : i + 4 ≤ len) (hL : 4 ≤ L) :
    Calls Try.prog 27 #[.slice (some ⟨b, off + i, none⟩) L C] w fun e w' => e = .returned (.int .u32 (w4v bs i : Nat)) ∧ ∃ m, w' = w.drewN m := by
  have s := hr.src _ rfl
  have q := hr.byte
  have t0 := s i (by omega); have t1 := s (i + 1) (by omega); have t2 := s (i + 2) (by omega); have t3 := s (i + 3) (by omega)
  rw [Go.WideShapes.add_plain] at t0 t1 t2 t3
  exact pword_any b (off + i) L C _ _ _ _ w (by omega) (q i (by omega)) (q (i + 1) (by omega)) (q (i + 2) (by omega)) (q (i + 3) (by omega)) t0 t1 t2 t3
set_option maxRecDepth 100000 in
set_option maxHeartbeats 1000000 in
theorem pdecode_len (a : Option Addr) (len cap : Nat) (w : World) (h : len ≠ 14) :
    Calls Try.prog 16 #[.slice a len cap] w fun e w' => e = .returned (.tuple #[.agg #[.int .u32 0, .int .i64 0, .int .i64 0, .int .i64 0, .int .u32 0], .int .i64 45]) ∧ Below w.heap.size w w' := by
  have hA : Below w.heap.size w (w.alloc (.cells #[.int .u32 0, .int .i64 0, .int .i64 0, .int .i64 0, .int .u32 0] 24)) := (Below.refl _ _).alloc (Nat.le_refl _) _
  have q : ((len : Int) == 14) = false := by simp; omega
  clear h
  go_enter Try.func16, Try.ntmps16
  go_wp2_with fail
  refine bodyPost_ret (v := .tuple #[.agg #[.int .u32 0, .int .i64 0, .int .i64 0, .int .i64 0, .int .u32 0], .int .i64 45]) (by simp [results, Try.results16, go_sem]) rfl ⟨rfl, hA⟩
set_option maxRecDepth 100000 in
set_option maxHeartbeats 4000000 in
theorem pdecode_law (b off cap : Nat) (bs : Nat → Nat) (w : World) (hr : Row8 w (some ⟨b, off, none⟩) 14 cap bs) (D : Bool) (hD : decide (okP (w4v bs 0 : Nat) (bs 4 : Nat) (bs 5 : Nat) (w4v bs 6 : Nat) (w4v bs 10 : Nat)) = D) :
    Calls Try.prog 16 #[.slice (some ⟨b, off, none⟩) 14 cap] w fun e w' =>
      (D = false → e = .returned (.tuple #[.agg #[.int .u32 0, .int .i64 0, .int .i64 0, .int .i64 0, .int .u32 0], .int .i64 90]) ∧ Below w.heap.size w w') ∧
      (D = true → e = .returned (.tuple #[.agg #[.int .u32 (w4v bs 0 : Nat), .int .i64 (bs 4 : Nat), .int .i64 (bs 5 : Nat), .int .i64 (w4v bs 6 : Nat), .int .u32 (w4v bs 10 : Nat)], .int .i64 0]) ∧ Below w.heap.size w w') := by
  have hcap := hr.le
  have hbl : b < w.heap.size := by
    obtain ⟨b', off', e, hb', _⟩ := hr.plain (by omega)
    cases e
    exact hb'
  have hA : Below w.heap.size w (w.alloc (.cells #[.int .u32 0, .int .i64 0, .int .i64 0, .int .i64 0, .int .u32 0] 24)) := (Below.refl _ _).alloc (Nat.le_refl _) _
  have hAs : w.heap.size < (w.alloc (.cells #[.int .u32 0, .int .i64 0, .int .i64 0, .int .i64 0, .int .u32 0] 24)).heap.size := by simp
  have hY := bx_new w 0 0 0 0 0
  have hYf := fun i wx hb => par_frozen w #[.int .u32 0, .int .i64 0, .int .i64 0, .int .i64 0, .int .u32 0] i wx hb
  have hrA := hr.below hA
  have hw4 : IntKind.i64.wrap (bs 4 : Int) = (bs 4 : Int) := by have := hr.byte 4 (by omega); rw [IntKind.wrap_i64]; omega
  have hw5 : IntKind.i64.wrap (bs 5 : Int) = (bs 5 : Int) := by have := hr.byte 5 (by omega); rw [IntKind.wrap_i64]; omega
  have hwT : IntKind.i64.wrap (w4v bs 6 : Int) = (w4v bs 6 : Int) := by have := w4v_lt (bs := bs) (i := 6) (fun j hj => hr.byte _ (by omega)); rw [IntKind.wrap_i64]; omega
  clear hr
  go_enter Try.func16, Try.ntmps16
  go_upto_region 3 with fail
  generalize w.alloc (.cells #[.int .u32 0, .int .i64 0, .int .i64 0, .int .i64 0, .int .u32 0] 24) = wa at *
  have hne : ¬ b = wa.heap.size := by omega
  have hR : ∀ wx, Below wa.heap.size wa wx → Row8 wx (some ⟨b, off, none⟩) 14 cap bs := fun wx hb => hrA.below hb
  have hW0 := fun wx hb => pword_row b off 14 cap 0 14 cap bs wx (hR wx hb) (by omega) (by omega)
  have hW6 := fun wx hb => pword_row b off 14 cap 6 8 (cap - 6) bs wx (hR wx hb) (by omega) (by omega)
  have hW10 := fun wx hb => pword_row b off 14 cap 10 4 (cap - 10) bs wx (hR wx hb) (by omega) (by omega)
  have hc : ∀ wx, Below wa.heap.size wa wx → wx.cell? ⟨b, off + 4, none⟩ = some (.int .u8 (bs 4 : Nat)) ∧ wx.cell? ⟨b, off + 5, none⟩ = some (.int .u8 (bs 5 : Nat)) := fun wx hb => by
    have s := (hR wx hb).src _ rfl
    have t0 := s 4 (by omega); have t1 := s 5 (by omega)
    rw [Go.WideShapes.add_plain] at t0 t1
    exact ⟨t0, t1⟩
  have hZ : ∀ m wx, Below ((wa.drewN m).alloc (.cells #[.int .u32 0, .int .i64 0, .int .i64 0, .int .i64 0, .int .u32 0] 24)).heap.size ((wa.drewN m).alloc (.cells #[.int .u32 0, .int .i64 0, .int .i64 0, .int .i64 0, .int .u32 0] 24)) wx → Bx wx wa.heap.size 0 0 0 0 0 := fun m wx hb => bx_new (wa.drewN m) 0 0 0 0 0 wx hb
  have hZf : ∀ m i wx, Below ((wa.drewN m).alloc (.cells #[.int .u32 0, .int .i64 0, .int .i64 0, .int .i64 0, .int .u32 0] 24)).heap.size ((wa.drewN m).alloc (.cells #[.int .u32 0, .int .i64 0, .int .i64 0, .int .i64 0, .int .u32 0] 24)) wx → wx.frozen? ⟨wa.heap.size, i, none⟩ = false := fun m i wx hb => par_frozen (wa.drewN m) _ i wx hb
  have hZ0 : Bx (wa.drew.alloc (.cells #[.int .u32 0, .int .i64 0, .int .i64 0, .int .i64 0, .int .u32 0] 24)) wa.heap.size 0 0 0 0 0 := hZ 1 _ (Below.refl _ _)
  have hZ0f : ∀ i, (wa.drew.alloc (.cells #[.int .u32 0, .int .i64 0, .int .i64 0, .int .i64 0, .int .u32 0] 24)).frozen? ⟨wa.heap.size, i, none⟩ = false := fun i => hZf 1 i _ (Below.refl _ _)
  have z0 := fun m => (hZ m _ (Below.refl _ _)).c0
  have z1 := fun m => (hZ m _ (Below.refl _ _)).c1
  have z2 := fun m => (hZ m _ (Below.refl _ _)).c2
  have z3 := fun m => (hZ m _ (Below.refl _ _)).c3
  have z4 := fun m => (hZ m _ (Below.refl _ _)).c4
  have zf := fun m i => hZf m i _ (Below.refl _ _)
  obtain ⟨y0, y1, y2, y3, y4⟩ := hZ0
  obtain ⟨k4, k5⟩ := hc wa (Below.refl _ _)
  have n6 : ¬ cap = 6 := by omega
  have n10 : ¬ cap = 10 := by omega
  have n0 : ¬ cap = 0 := by omega
  have c14 : (14 : Int) ≤ (cap : Int) := by omega
  have c4 : (4 : Int) ≤ (cap : Int) := by omega
  have c10 : (10 : Int) ≤ (cap : Int) := by omega
  go_cut [4] (fun v wx => v = .pointer (some ⟨wa.heap.size, 0, none⟩) ∧ Hid (Bx wx wa.heap.size (w4v bs 0) (bs 4 : Nat) (bs 5 : Nat) (w4v bs 6 : Nat) (w4v bs 10) ∧ Below wa.heap.size wa wx ∧ wa.heap.size < wx.heap.size ∧ ∀ i, wx.frozen? ⟨wa.heap.size, i, none⟩ = false))
  case first =>
    go_region_held3 (fun w' => w'.cell? ⟨b, off + 4, none⟩ = some (.int .u8 (bs 4 : Int)) ∧ w'.cell? ⟨b, off + 5, none⟩ = some (.int .u8 (bs 5 : Int))) (first | (with_reducible refine ⟨fiveP_cell ?_ hne _ _ _ _ _, fiveP_cell ?_ hne _ _ _ _ _⟩ <;> first | exact (hc _ (by repeat (first | with_reducible assumption | with_reducible refine below_drewN ?_ _ | with_reducible refine Below.drew ?_ | with_reducible refine belowA ?_ _ | with_reducible exact Below.refl _ _))).1 | exact (hc _ (by repeat (first | with_reducible assumption | with_reducible refine below_drewN ?_ _ | with_reducible refine Below.drew ?_ | with_reducible refine belowA ?_ _ | with_reducible exact Below.refl _ _))).2) | exact hc _ (by repeat (first | with_reducible assumption | with_reducible refine below_drewN ?_ _ | with_reducible refine Below.drew ?_ | with_reducible refine belowA ?_ _ | with_reducible exact Below.refl _ _))) (first
    | (refine step_drawP rfl (.tmp 11) 27 rfl #[.slice (some ⟨b, off + 0, none⟩) 14 cap] _ (hW0 _ (by repeat (first | with_reducible assumption | with_reducible refine below_drewN ?_ _ | with_reducible refine Below.drew ?_ | with_reducible refine belowA ?_ _ | with_reducible exact Below.refl _ _))) (by kernel_rfl) ?_; intro m)
    | (refine step_drawP rfl (.tmp 22) 27 rfl #[.slice (some ⟨b, off + 6, none⟩) 8 (cap - 6)] _ (hW6 _ (by repeat (first | with_reducible assumption | with_reducible refine below_drewN ?_ _ | with_reducible refine Below.drew ?_ | with_reducible refine belowA ?_ _ | with_reducible exact Below.refl _ _))) (by kernel_rfl) ?_; intro m)
    | (refine step_drawP rfl (.tmp 26) 27 rfl #[.slice (some ⟨b, off + 10, none⟩) 4 (cap - 10)] _ (hW10 _ (by repeat (first | with_reducible assumption | with_reducible refine below_drewN ?_ _ | with_reducible refine Below.drew ?_ | with_reducible refine belowA ?_ _ | with_reducible exact Below.refl _ _))) (by kernel_rfl) ?_; intro m))
    all_goals
      go_wp2_with fail
      go_meet
      refine ⟨rfl, fiveP_box (c0 := 0) (o0 := 0) (i0 := 0) (t0 := 0) (n0 := 0) ?_ _ _ _ _ _, fiveP_below ?_ (Nat.le_refl _) _ _ _ _ _, ?_, ?_⟩
      · first | exact hZ _ _ (below_drewN (Below.refl _ _) _) | exact hZ _ _ (Below.refl _ _) | exact hZ 1 _ (below_drewN (Below.refl _ _) _) | exact hZ 1 _ (Below.refl _ _)
      · repeat (first | with_reducible assumption | with_reducible refine below_drewN ?_ _ | with_reducible refine Below.drew ?_ | with_reducible refine belowA ?_ _ | with_reducible exact Below.refl _ _)
      · simp
      · intro i
        simp only [World.frozen?_setCell]
        first | exact hZf _ i _ (below_drewN (Below.refl _ _) _) | exact hZf _ i _ (Below.refl _ _) | exact hZf 1 i _ (below_drewN (Below.refl _ _) _) | exact hZf 1 i _ (Below.refl _ _)
  case rest =>
    obtain ⟨rfl, H2⟩ := hcut
    obtain ⟨w2, rfl⟩ : ∃ x, x = wc := ⟨_, rfl⟩
    obtain ⟨X2, hb2, hs2, hf2⟩ := H2.out
    have h2s := hb2.size
    clear H2 hW0 hW6 hW10 hc hZ hZf hZ0f z0 z1 z2 z3 z4 zf y0 y1 y2 y3 y4 k4 k5 hw4 hw5 hwT n6 n10 n0 c14 c4 c10 hR hrA
    obtain ⟨x0, x1, x2, x3, x4⟩ := id X2
    have hgw : ¬ w.heap.size = wa.heap.size := by omega
    have hgw' : ¬ wa.heap.size = w.heap.size := by omega
    have hK := check_any (w4v bs 0) (bs 4 : Nat) (bs 5 : Nat) (w4v bs 6 : Nat) (w4v bs 10) w2 (if D = true then 0 else 90) (by rw [← hD]; simp)
    clear hD
    go_wp2_with fail
    refine hK.mono ?_
    rintro e w3 ⟨rfl, hb3'⟩
    have hb3 := below_all hb2 h2s hb3'
    have X3 := X2.below hs2 hb3'
    obtain ⟨u0, u1, u2, u3, u4⟩ := X3
    have yf := fun i => hYf i w3 hb3
    obtain ⟨y0, y1, y2, y3, y4⟩ := hY w3 hb3
    have HH : Hid (_) := hA.trans (hb3.mono (Nat.le_of_lt hAs))
    clear hK x0 x1 x2 x3 x4 X2 hb2 h2s hf2 hb3' hb3 hY hYf hs2 hAs hA hcap hbl
    clear hne
    generalize wa.heap.size = g at *
    cases D with
    | true =>
      go_wp2_with fail
      refine bodyPost_ret (v := .tuple #[.agg #[.int .u32 (w4v bs 0 : Nat), .int .i64 (bs 4 : Nat), .int .i64 (bs 5 : Nat), .int .i64 (w4v bs 6 : Nat), .int .u32 (w4v bs 10 : Nat)], .int .i64 0]) (by simp [results, Try.results16, go_sem, y0, y1, y2, y3, y4]) rfl ⟨rfl, ?_⟩
      exact fiveP_below HH.out (Nat.le_refl _) _ _ _ _ _
    | false =>
      go_wp2_with fail
      refine bodyPost_ret (v := .tuple #[.agg #[.int .u32 0, .int .i64 0, .int .i64 0, .int .i64 0, .int .u32 0], .int .i64 90]) (by simp [results, Try.results16, go_sem, y0, y1, y2, y3, y4]) rfl ⟨rfl, ?_⟩
      exact fiveP_below HH.out (Nat.le_refl _) _ _ _ _ _
theorem pdecode_good (a : Option Addr) (cap : Nat) (bs : Nat → Nat) (w : World) (hr : Row8 w a 14 cap bs) (h : okP (w4v bs 0 : Nat) (bs 4 : Nat) (bs 5 : Nat) (w4v bs 6 : Nat) (w4v bs 10 : Nat)) :
    Calls Try.prog 16 #[.slice a 14 cap] w fun e w' => e = .returned (.tuple #[.agg #[.int .u32 (w4v bs 0 : Nat), .int .i64 (bs 4 : Nat), .int .i64 (bs 5 : Nat), .int .i64 (w4v bs 6 : Nat), .int .u32 (w4v bs 10 : Nat)], .int .i64 0]) ∧ Below w.heap.size w w' := by
  obtain ⟨b, off, rfl, _, _⟩ := hr.plain (by omega)
  exact (pdecode_law b off cap bs w hr true (decide_eq_true h)).mono fun e w' q => q.2 rfl
theorem pdecode_bad (a : Option Addr) (cap : Nat) (bs : Nat → Nat) (w : World) (hr : Row8 w a 14 cap bs) (h : ¬ okP (w4v bs 0 : Nat) (bs 4 : Nat) (bs 5 : Nat) (w4v bs 6 : Nat) (w4v bs 10 : Nat)) :
    Calls Try.prog 16 #[.slice a 14 cap] w fun e w' => e = .returned (.tuple #[.agg #[.int .u32 0, .int .i64 0, .int .i64 0, .int .i64 0, .int .u32 0], .int .i64 90]) ∧ Below w.heap.size w w' := by
  obtain ⟨b, off, rfl, _, _⟩ := hr.plain (by omega)
  exact (pdecode_law b off cap bs w hr false (decide_eq_false h)).mono fun e w' q => q.1 rfl

end Go.Proofs.Ytikdkbcekibakaa
