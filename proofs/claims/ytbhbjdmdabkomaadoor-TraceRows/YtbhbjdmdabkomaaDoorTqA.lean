/- Layer 21: a row with its own bytes; long. (gentqa.py) -/
import Derived.Test.YtbhbjdmdabkomaaDoorTq9b
namespace Go.Proofs.YtbhbjdmdabkomaaDoor
set_option maxRecDepth 100000
open Go.RowKit Go.Maps
set_option maxRecDepth 100000
theorem Row8.setCell {w : World} {a : Option Addr} {n c : Nat} {bs : Nat → Nat} (h : Row8 w a n c bs) (b k : Nat) (v : Value) (hb : ∀ y, a = some y → 0 < n → y.block ≠ b) : Row8 (w.setCell ⟨b, k, none⟩ v) a n c bs := by
  refine ⟨h.byte, h.nil, fun x hx i hi => ?_, h.le⟩
  have e : (x.add i).block = x.block := by unfold Addr.add; split <;> rfl
  rw [World.cell?_setCell_other _ _ _ _ (by intro q; have := congrArg Addr.block q; rw [e] at this; exact hb x hx (by omega) this.symm)]
  exact h.src x hx i hi
theorem Row8.setCells {a : Option Addr} {n c : Nat} {bs : Nat → Nat} (b : Nat) (hb : ∀ y, a = some y → 0 < n → y.block ≠ b) : ∀ (vs : List Value) (o : Nat) (w : World), Row8 w a n c bs → Row8 (w.setCells b o vs) a n c bs
  | [], _, _, h => h
  | v :: vs, o, w, h => Row8.setCells b hb vs (o + 1) (w.setCell ⟨b, o, none⟩ v) (h.setCell b o v hb)
theorem Row8.setA {w : World} {a : Option Addr} {n c : Nat} {bs : Nat → Nat} (h : Row8 w a n c bs) (b o : Nat) (A : Array Value) (hb : ∀ y, a = some y → 0 < n → y.block ≠ b) : Row8 (setA w b o A) a n c bs := Row8.setCells b hb A.toList o w h
theorem range_app {w : World} {b o : Nat} {l1 l2 : List Value} (h1 : w.rangeAt b o l1) (h2 : w.rangeAt b (o + l1.length) l2) : w.rangeAt b o (l1 ++ l2) := fun j v hv => by
  by_cases q : j < l1.length
  · rw [List.getElem?_append_left q] at hv
    exact h1 j v hv
  · rw [List.getElem?_append_right (by omega)] at hv
    have := h2 _ v hv
    rw [show o + l1.length + (j - l1.length) = o + j by omega] at this
    exact this
theorem range_set {w : World} {b k : Nat} {cs : List Value} (h : w.rangeAt b 0 cs) (v : Value) : (w.setCell ⟨b, k, none⟩ v).rangeAt b 0 (cs.set k v) := fun j u hu => by
  rw [List.getElem?_set] at hu
  split at hu
  · next e =>
    subst e
    split at hu
    · next hk =>
      cases hu
      obtain ⟨x, hx⟩ : ∃ x, cs[k]? = some x := ⟨_, List.getElem?_eq_getElem hk⟩
      have := h k x hx
      rw [Nat.zero_add] at this ⊢
      exact World.cell?_setCell_same _ _ _ this
    · cases hu
  · next e =>
    rw [World.cell?_setCell_other _ _ _ _ (by intro q; have := congrArg Addr.off q; simp at this; omega)]
    exact h j u hu
theorem there_set {w : World} {b o n : Nat} (h : w.there b o n) (b' k : Nat) (v : Value) : (w.setCell ⟨b', k, none⟩ v).there b o n := World.there_setCells h b' k [v]
theorem there_below {w w' : World} {b o n : Nat} (h : w.there b o n) (hb : Below w.heap.size w w') : w'.there b o n := fun j hj => by
  obtain ⟨v, hv⟩ := Option.isSome_iff_exists.1 (h j hj).1
  refine ⟨by rw [cellB hv hb]; rfl, ?_⟩
  have hlt := World.block_lt_of_cell? w _ hv
  rw [World.frozen?_of_block (a := ⟨b, o + j, none⟩) (hb.block b hlt)]
  exact (h j hj).2
/-- The row's bytes are new since w. -/
structure Rx.New (r : Rx) (x : Rd) (B : Nat) : Prop where
  m : ∀ y, x.a1 = some y → 0 < r.m.l → B ≤ y.block
  h : ∀ y, x.a2 = some y → 0 < r.h.l → B ≤ y.block
  v : ∀ y, x.a3 = some y → 0 < r.v.l → B ≤ y.block
theorem own_new {w : World} {B e : Nat} {a : Option Addr} {n c : Nat} {xs : List Value} (h : w.ownsRow B e 1 (.slice a n c) n xs) : ∀ y, a = some y → B ≤ y.block := fun y hy => by
  rcases h.2 with ⟨q, _⟩ | ⟨g, cap, cur, q, hg, _⟩
  · simp only [Value.slice.injEq] at q
    rw [q.1] at hy
    cases hy
  · simp only [Value.slice.injEq] at q
    rw [q.1] at hy
    cases hy
    exact hg
def LongP (r : Rx) (w : World) (q : Ending) (w' : World) : Prop := ∃ b : Bool, q = .returned (.bool b) ∧ Hid (Below w.heap.size w w' ∧ (b = false → r.Sh))
set_option maxHeartbeats 1000000 in
theorem tlong (r : Rx) (x : Rd) (w : World) : Calls Tryd.prog 40 #[.agg (r.A x)] w (LongP r w) := by
  show Calls Tryd.prog 40 #[.agg #[.int .i64 r.m.k, .int .i64 r.m.c, .int .i64 r.m.s, .int .i64 r.m.f, .int .i64 r.m.a, .int .u32 (r.m.w : Nat), .int .i64 r.m.n, .bool r.m.h, .slice x.a1 r.m.l x.c1, .int .i64 r.cd, .int .i64 r.st, .int .i64 r.h.st, .int .u32 (r.h.se : Nat), .int .u32 (r.h.nu : Nat), .int .u32 (r.h.sn : Nat), .int .i64 r.h.si, .int .i64 r.h.la, .bool r.h.rq, .bool r.h.on, .slice x.a2 r.h.l x.c2, .int .i64 r.v.st, .int .u32 (r.v.se : Nat), .int .u32 (r.v.nu : Nat), .int .u32 (r.v.sn : Nat), .int .i64 r.v.si, .int .i64 r.v.la, .bool r.v.rq, .bool r.v.on, .slice x.a3 r.v.l x.c3]] w _
  obtain ⟨W, hW⟩ : ∃ W : World, w.alloc (.cells #[.int .i64 r.m.k, .int .i64 r.m.c, .int .i64 r.m.s, .int .i64 r.m.f, .int .i64 r.m.a, .int .u32 (r.m.w : Nat), .int .i64 r.m.n, .bool r.m.h, .slice x.a1 r.m.l x.c1, .int .i64 r.cd, .int .i64 r.st, .int .i64 r.h.st, .int .u32 (r.h.se : Nat), .int .u32 (r.h.nu : Nat), .int .u32 (r.h.sn : Nat), .int .i64 r.h.si, .int .i64 r.h.la, .bool r.h.rq, .bool r.h.on, .slice x.a2 r.h.l x.c2, .int .i64 r.v.st, .int .u32 (r.v.se : Nat), .int .u32 (r.v.nu : Nat), .int .u32 (r.v.sn : Nat), .int .i64 r.v.si, .int .i64 r.v.la, .bool r.v.rq, .bool r.v.on, .slice x.a3 r.v.l x.c3] 78) = W := ⟨_, rfl⟩
  have bW : Below w.heap.size w W := by rw [← hW]; exact belA (Below.refl _ _) _
  have rW : RxW W w.heap.size r x := by rw [← hW]; exact RxW.new w r x
  have c8 := rW.cells.2.2.2.2.2.2.2.2.1
  have c19 := rW.cells.2.2.2.2.2.2.2.2.2.2.2.2.2.2.2.2.2.2.2.1
  have c28 := rW.cells.2.2.2.2.2.2.2.2.2.2.2.2.2.2.2.2.2.2.2.2.2.2.2.2.2.2.2.2
  have HW : Hid (_) := bW
  clear bW rW
  by_cases h1 : 500 < r.m.l
  · have g1 : (500 : Int) < ((r.m.l : Nat) : Int) := by omega
    go_enter Tryd.func40, Tryd.ntmps40
    go_wp2_with fail
    try rw [hW]
    go_ret
    exact ⟨true, rfl, HW.out, fun h => by cases h⟩
  have g1 : ¬ (500 : Int) < ((r.m.l : Nat) : Int) := by omega
  by_cases h2 : 500 < r.h.l
  · have g2 : (500 : Int) < ((r.h.l : Nat) : Int) := by omega
    go_enter Tryd.func40, Tryd.ntmps40
    go_wp2_with fail
    try rw [hW]
    go_ret
    exact ⟨true, rfl, HW.out, fun h => by cases h⟩
  have g2 : ¬ (500 : Int) < ((r.h.l : Nat) : Int) := by omega
  by_cases h3 : 500 < r.v.l
  · have g3 : (500 : Int) < ((r.v.l : Nat) : Int) := by omega
    go_enter Tryd.func40, Tryd.ntmps40
    go_wp2_with fail
    try rw [hW]
    go_ret
    exact ⟨true, rfl, HW.out, fun h => by cases h⟩
  have g3 : ¬ (500 : Int) < ((r.v.l : Nat) : Int) := by omega
  have HS : Hid (r.Sh) := ⟨by omega, by omega, by omega⟩
  clear h1 h2 h3
  go_enter Tryd.func40, Tryd.ntmps40
  go_wp2_with fail
  try rw [hW]
  go_ret
  exact ⟨false, rfl, HW.out, fun _ => HS.out⟩
/-- A row in block b. -/
structure RxV (w : World) (b : Nat) (r : Rx) (x : Rd) : Prop where
  rg : w.rangeAt b 0 (r.cs x)
  th : w.there b 0 29
theorem RxV.below {w w' : World} {b : Nat} {r : Rx} {x : Rd} (h : RxV w b r x) (hb : Below w.heap.size w w') : RxV w' b r x := ⟨rangeB h.rg hb, there_below h.th hb⟩
theorem RxV.frozen {w : World} {b : Nat} {r : Rx} {x : Rd} (h : RxV w b r x) (j : Nat) (hj : j < 29) : w.frozen? ⟨b, j, none⟩ = false := by
  have := (h.th j hj).2
  rwa [Nat.zero_add] at this
theorem RxV.cell {w : World} {b : Nat} {r : Rx} {x : Rd} (h : RxV w b r x) (j : Nat) {v : Value} (hv : (r.cs x)[j]? = some v) : w.cell? ⟨b, j, none⟩ = some v := by
  have := h.rg j v hv
  rwa [Nat.zero_add] at this
theorem RxV.m {w : World} {b : Nat} {r : Rx} {x : Rd} (h : RxV w b r x) (a : Option Addr) (c : Nat) : RxV (setA w b 0 #[.int .i64 r.m.k, .int .i64 r.m.c, .int .i64 r.m.s, .int .i64 r.m.f, .int .i64 r.m.a, .int .u32 (r.m.w : Nat), .int .i64 r.m.n, .bool r.m.h, .slice a r.m.l c]) b r { x with a1 := a, c1 := c } := by
  refine ⟨?_, World.there_setCells h.th _ _ _⟩
  have h1 : (setA w b 0 #[.int .i64 r.m.k, .int .i64 r.m.c, .int .i64 r.m.s, .int .i64 r.m.f, .int .i64 r.m.a, .int .u32 (r.m.w : Nat), .int .i64 r.m.n, .bool r.m.h, .slice a r.m.l c]).rangeAt b 0 [.int .i64 r.m.k, .int .i64 r.m.c, .int .i64 r.m.s, .int .i64 r.m.f, .int .i64 r.m.a, .int .u32 (r.m.w : Nat), .int .i64 r.m.n, .bool r.m.h, .slice a r.m.l c] := range_setA (A := #[.int .i64 r.m.k, .int .i64 r.m.c, .int .i64 r.m.s, .int .i64 r.m.f, .int .i64 r.m.a, .int .u32 (r.m.w : Nat), .int .i64 r.m.n, .bool r.m.h, .slice a r.m.l c]) (fun j hj => h.th j (by have : j < 9 := hj; omega))
  have h2 : (setA w b 0 #[.int .i64 r.m.k, .int .i64 r.m.c, .int .i64 r.m.s, .int .i64 r.m.f, .int .i64 r.m.a, .int .u32 (r.m.w : Nat), .int .i64 r.m.n, .bool r.m.h, .slice a r.m.l c]).rangeAt b (0 + 9) (((r.cs x).drop 9).take 20) := World.rangeAt_setCells_apart (range_part h.rg 9 20) b 0 [.int .i64 r.m.k, .int .i64 r.m.c, .int .i64 r.m.s, .int .i64 r.m.f, .int .i64 r.m.a, .int .u32 (r.m.w : Nat), .int .i64 r.m.n, .bool r.m.h, .slice a r.m.l c] (.inr (.inr (by simp)))
  exact range_app h1 h2
theorem RxV.hset {w : World} {b : Nat} {r : Rx} {x : Rd} (h : RxV w b r x) (a : Option Addr) (c : Nat) : RxV (w.setCell ⟨b, 19, none⟩ (.slice a r.h.l c)) b r { x with a2 := a, c2 := c } := ⟨range_set h.rg _, there_set h.th _ _ _⟩
theorem RxV.vset {w : World} {b : Nat} {r : Rx} {x : Rd} (h : RxV w b r x) (a : Option Addr) (c : Nat) : RxV (w.setCell ⟨b, 28, none⟩ (.slice a r.v.l c)) b r { x with a3 := a, c3 := c } := ⟨range_set h.rg _, there_set h.th _ _ _⟩
set_option maxHeartbeats 4000000 in
theorem town (r : Rx) (hs : r.Sh) (x : Rd) (w : World) (R : r.Rows x w) : Calls Tryd.prog 41 #[.agg (r.A x)] w fun q w' => ∃ x', q = .returned (.agg (r.A x')) ∧ Hid (r.Rows x' w' ∧ r.New x' w.heap.size ∧ Below w.heap.size w w') := by
  obtain ⟨i0, hi0, hz0, hz1, hz2⟩ := info_parts info_u8
  have hbd := build0S
  obtain ⟨A0, hA0⟩ : ∃ y, r.A x = y := ⟨_, rfl⟩
  have sA0 : A0.size = 29 := by rw [← hA0]; rfl
  obtain ⟨W1, hW1⟩ : ∃ y, w.alloc (.cells A0 78) = y := ⟨_, rfl⟩
  obtain ⟨W, hW⟩ : ∃ y, W1.alloc (.cells #[.int .i64 0, .int .i64 0, .int .i64 0, .int .i64 0, .int .i64 0, .int .u32 0, .int .i64 0, .bool false, .slice none 0 0, .int .i64 0, .int .i64 0, .int .i64 0, .int .u32 0, .int .u32 0, .int .u32 0, .int .i64 0, .int .i64 0, .bool false, .bool false, .slice none 0 0, .int .i64 0, .int .u32 0, .int .u32 0, .int .u32 0, .int .i64 0, .int .i64 0, .bool false, .bool false, .slice none 0 0] 78) = y := ⟨_, rfl⟩
  have b1 : Below w.heap.size w W1 := by rw [← hW1]; exact belA (Below.refl _ _) _
  have b2 : Below W1.heap.size W1 W := by rw [← hW]; exact belA (Below.refl _ _) _
  have bW : Below w.heap.size w W := belTS b2 b1
  have n1 : W1.heap.size = w.heap.size + 1 := by rw [← hW1]; simp
  have n2 : W.heap.size = w.heap.size + 2 := by rw [← hW]; simp [n1]
  have V1 : RxV W w.heap.size r x := by
    have v1 : RxV W1 w.heap.size r x := by
      rw [← hW1, ← hA0]
      exact ⟨range_new w (r.A x) _, there_new w (r.A x) _⟩
    exact v1.below b2
  have T2 : W.there (w.heap.size + 1) 0 29 := by
    rw [← hW, ← n1]
    exact there_new W1 #[.int .i64 0, .int .i64 0, .int .i64 0, .int .i64 0, .int .i64 0, .int .u32 0, .int .i64 0, .bool false, .slice none 0 0, .int .i64 0, .int .i64 0, .int .i64 0, .int .u32 0, .int .u32 0, .int .u32 0, .int .i64 0, .int .i64 0, .bool false, .bool false, .slice none 0 0, .int .i64 0, .int .u32 0, .int .u32 0, .int .u32 0, .int .i64 0, .int .i64 0, .bool false, .bool false, .slice none 0 0] _
  have hC := pcopymB r.m x.a1 x.c1 W (R.m.below bW) (by have := hs.m; omega)
  have HW : Hid (_) := And.intro bW (And.intro R (And.intro hs (And.intro n2 T2)))
  have hlo : w.heap.size < W.heap.size := by omega
  have c0 := V1.cell 0 (v := .int .i64 r.m.k) rfl
  have c1 := V1.cell 1 (v := .int .i64 r.m.c) rfl
  have c2 := V1.cell 2 (v := .int .i64 r.m.s) rfl
  have c3 := V1.cell 3 (v := .int .i64 r.m.f) rfl
  have c4 := V1.cell 4 (v := .int .i64 r.m.a) rfl
  have c5 := V1.cell 5 (v := .int .u32 (r.m.w : Nat)) rfl
  have c6 := V1.cell 6 (v := .int .i64 r.m.n) rfl
  have c7 := V1.cell 7 (v := .bool r.m.h) rfl
  have c8 := V1.cell 8 (v := .slice x.a1 r.m.l x.c1) rfl
  have HV : Hid (_) := V1
  clear b1 b2 bW R hs V1 T2
  go_enter Tryd.func41, Tryd.ntmps41
  rw [hA0]
  go_upto_region 1 with fail
  clear hA0 hW1 hW n1 n2
  go_wp2_with fail
  refine hC.mono ?_
  rintro q w3 ⟨a1, d1, rfl, h3⟩
  clear hC c0 c1 c2 c3 c4 c5 c6 c7 c8
  obtain ⟨M, hM⟩ : ∃ y : Array Value, #[.int .i64 r.m.k, .int .i64 r.m.c, .int .i64 r.m.s, .int .i64 r.m.f, .int .i64 r.m.a, .int .u32 (r.m.w : Nat), .int .i64 r.m.n, .bool r.m.h, .slice a1 r.m.l d1] = y := ⟨_, rfl⟩
  have sM : M.size = 9 := by rw [← hM]; rfl
  have oM : M.all (·.oneCell') = true := by
    rw [← hM]
    refine all_oneCell_toArray (cs := [.int .i64 r.m.k, .int .i64 r.m.c, .int .i64 r.m.s, .int .i64 r.m.f, .int .i64 r.m.a, .int .u32 (r.m.w : Nat), .int .i64 r.m.n, .bool r.m.h, .slice a1 r.m.l d1]) (fun v hv => ?_)
    simp only [List.mem_cons, List.not_mem_nil, or_false] at hv
    rcases hv with rfl | rfl | rfl | rfl | rfl | rfl | rfl | rfl | rfl <;> rfl
  have V3 := HV.out.below h3.out.2.1
  have t3 : w3.there w.heap.size 0 M.size := fun j hj => V3.th j (by rw [sM] at hj; omega)
  obtain ⟨w4, hw4⟩ : ∃ y, setA w3 w.heap.size 0 M = y := ⟨_, rfl⟩
  have hst : (storeCells ⟨w.heap.size, 0, none⟩ M.toList).run Tryd.prog w3 = .ok () w4 := by rw [← hw4]; exact storeA_run t3 oM
  have V4 : RxV w4 w.heap.size r { x with a1 := a1, c1 := d1 } := by rw [← hw4, ← hM]; exact V3.m a1 d1
  have e3 := h3.out.2.1.size
  have B4 : Below w.heap.size w w4 := by
    rw [← hw4]
    exact setA_below (HW.out.1.trans (h3.out.2.1.mono HW.out.1.size)) (Nat.le_refl _)
  have S4 : W.heap.size ≤ w4.heap.size := by
    rw [← hw4, show (setA w3 w.heap.size 0 M).heap.size = w3.heap.size from (setA_tape _ _ _ _).2]
    exact e3
  have ne1 : ∀ y, a1 = some y → 0 < r.m.l → W.heap.size ≤ y.block := h3.out.2.2
  have R1 : Row8 w4 a1 r.m.l d1 r.m.b := by
    rw [← hw4]
    exact h3.out.1.setA _ _ _ (fun y hy hn => by have := ne1 y hy hn; omega)
  have T4 : w4.there (w.heap.size + 1) 0 29 := by
    rw [← hw4]
    exact World.there_setCells (there_below HW.out.2.2.2.2 h3.out.2.1) _ _ _
  go_upto_region 2 with fail
  try rw [hM]
  clear hw4 hst t3 oM sM hM V3 e3 h3
  have k5 := V4.cell 19 (v := .slice x.a2 r.h.l x.c2) rfl
  have hC5 := belA (Below.refl _ w4) (.cells #[] 5)
  have O5 : (w4.alloc (.cells #[] 5)).ownsRow w4.heap.size 5 1 (.slice (some ⟨w4.heap.size, 0, none⟩) 0 0) 0 (CB r.h.b 0) := World.ownsRow_made w4 #[] 0 (Nat.le_refl _) (Nat.zero_le _) rfl
  have Q5 := (HW.out.2.1.h.below B4).below hC5
  have kk5 : (w4.alloc (.cells #[] 5)).cell? ⟨w.heap.size, 19, none⟩ = some (.slice x.a2 r.h.l x.c2) := cellB k5 hC5
  have hs5 := hC5.size
  have hl5 : r.h.l ≤ 500 := HW.out.2.2.1.h
  clear k5
  go_wp2_with (at_builtin; refine wpList_append_row8 rfl (.tmp 7) (.tmp 10) 27 rfl w4.heap.size 5 i0 (.int .u8 0) Tryd.underlying27 hi0 hz0 hz1 hz2 rfl _ 0 _ rfl O5 x.a2 r.h.l x.c2 r.h.b rfl Q5 (by unfold maxLen; omega) (by omega) hs5 ?_)
  intro v5 w5 own5 grow5
  have hb5 : Below w4.heap.size w4 w5 := hC5.grown grow5 hs5 (fun j hj => (O5.lt j hj).1)
  rw [show CB r.h.b 0 = [] from rfl, List.nil_append] at own5
  obtain ⟨a2, d2, rfl, _⟩ := own_row8 own5 HW.out.2.1.h.byte
  have nw5 := own_new own5
  have U5 := V4.below hb5
  have y5 := U5.cell 19 (v := .slice x.a2 r.h.l x.c2) rfl
  have f5 := U5.frozen 19 (by decide)
  obtain ⟨w6, hw6⟩ : ∃ y, w5.setCell ⟨w.heap.size, 19, none⟩ (.slice a2 r.h.l d2) = y := ⟨_, rfl⟩
  have V6 : RxV w6 w.heap.size r { x with a1 := a1, c1 := d1, a2 := a2, c2 := d2 } := by rw [← hw6]; exact U5.hset a2 d2
  have Bw6 : Below w.heap.size w w6 := by
    rw [← hw6]
    exact (B4.trans (hb5.mono B4.size)).setCell (p := ⟨w.heap.size, 19, none⟩) (Nat.le_refl _) _
  have Sw6 : W.heap.size ≤ w6.heap.size := by
    rw [← hw6]
    have := hb5.size
    simp [World.setCell]
    omega
  have T6 : w6.there (w.heap.size + 1) 0 29 := by rw [← hw6]; exact there_set (there_below T4 hb5) _ _ _
  have R25 : Row8 w6 a2 r.h.l d2 r.h.b := by
    obtain ⟨a9, c9, q9, R9⟩ := own_row8 own5 HW.out.2.1.h.byte
    simp only [Value.slice.injEq, true_and] at q9
    obtain ⟨rfl, rfl⟩ := q9
    rw [← hw6]
    exact R9.setCell _ _ _ (fun y hy hn => by have := nw5 y hy; omega)
  have R16 : Row8 w6 a1 r.m.l d1 r.m.b := by
    rw [← hw6]
    exact (R1.below hb5).setCell _ _ _ (fun y hy hn => by have := ne1 y hy hn; omega)
  have ne2 : ∀ y, a2 = some y → W.heap.size ≤ y.block := fun y hy => by have := nw5 y hy; omega
  go_upto_region 3 with fail
  try rw [hw6]
  clear hw6 y5 f5 U5 own5 grow5 hb5 O5 Q5 kk5 hC5 hs5 nw5 V4 B4 T4 S4 R1
  have k7 := V6.cell 28 (v := .slice x.a3 r.v.l x.c3) rfl
  have hC7 := belA (Below.refl _ w6) (.cells #[] 5)
  have O7 : (w6.alloc (.cells #[] 5)).ownsRow w6.heap.size 5 1 (.slice (some ⟨w6.heap.size, 0, none⟩) 0 0) 0 (CB r.v.b 0) := World.ownsRow_made w6 #[] 0 (Nat.le_refl _) (Nat.zero_le _) rfl
  have Q7 := (HW.out.2.1.v.below Bw6).below hC7
  have kk7 : (w6.alloc (.cells #[] 5)).cell? ⟨w.heap.size, 28, none⟩ = some (.slice x.a3 r.v.l x.c3) := cellB k7 hC7
  have hs7 := hC7.size
  have hl7 : r.v.l ≤ 500 := HW.out.2.2.1.v
  clear k7
  go_wp2_with (at_builtin; refine wpList_append_row8 rfl (.tmp 14) (.tmp 17) 27 rfl w6.heap.size 5 i0 (.int .u8 0) Tryd.underlying27 hi0 hz0 hz1 hz2 rfl _ 0 _ rfl O7 x.a3 r.v.l x.c3 r.v.b rfl Q7 (by unfold maxLen; omega) (by omega) hs7 ?_)
  intro v7 w7 own7 grow7
  have hb7 : Below w6.heap.size w6 w7 := hC7.grown grow7 hs7 (fun j hj => (O7.lt j hj).1)
  rw [show CB r.v.b 0 = [] from rfl, List.nil_append] at own7
  obtain ⟨a3, d3, rfl, _⟩ := own_row8 own7 HW.out.2.1.v.byte
  have nw7 := own_new own7
  have U7 := V6.below hb7
  have y7 := U7.cell 28 (v := .slice x.a3 r.v.l x.c3) rfl
  have f7 := U7.frozen 28 (by decide)
  obtain ⟨w8, hw8⟩ : ∃ y, w7.setCell ⟨w.heap.size, 28, none⟩ (.slice a3 r.v.l d3) = y := ⟨_, rfl⟩
  have V8 : RxV w8 w.heap.size r { x with a1 := a1, c1 := d1, a2 := a2, c2 := d2, a3 := a3, c3 := d3 } := by rw [← hw8]; exact U7.vset a3 d3
  have Bw8 : Below w.heap.size w w8 := by
    rw [← hw8]
    exact (Bw6.trans (hb7.mono Bw6.size)).setCell (p := ⟨w.heap.size, 28, none⟩) (Nat.le_refl _) _
  have Sw8 : W.heap.size ≤ w8.heap.size := by
    rw [← hw8]
    have := hb7.size
    simp [World.setCell]
    omega
  have T8 : w8.there (w.heap.size + 1) 0 29 := by rw [← hw8]; exact there_set (there_below T6 hb7) _ _ _
  have R37 : Row8 w8 a3 r.v.l d3 r.v.b := by
    obtain ⟨a9, c9, q9, R9⟩ := own_row8 own7 HW.out.2.1.v.byte
    simp only [Value.slice.injEq, true_and] at q9
    obtain ⟨rfl, rfl⟩ := q9
    rw [← hw8]
    exact R9.setCell _ _ _ (fun y hy hn => by have := nw7 y hy; omega)
  have R18 : Row8 w8 a1 r.m.l d1 r.m.b := by
    rw [← hw8]
    exact (R16.below hb7).setCell _ _ _ (fun y hy hn => by have := ne1 y hy hn; omega)
  have R28 : Row8 w8 a2 r.h.l d2 r.h.b := by
    rw [← hw8]
    exact (R25.below hb7).setCell _ _ _ (fun y hy hn => by have := ne2 y hy; omega)
  have ne3 : ∀ y, a3 = some y → W.heap.size ≤ y.block := fun y hy => by have := nw7 y hy; omega
  go_upto_region 4 with fail
  try rw [hw8]
  clear hw8 y7 f7 U7 own7 grow7 hb7 O7 Q7 kk7 hC7 hs7 nw7 V6 Bw6 T6 Sw6 R16 R25
  obtain ⟨x', hx'⟩ : ∃ y : Rd, ⟨a1, d1, a2, d2, a3, d3⟩ = y := ⟨_, rfl⟩
  have V9 : RxV w8 w.heap.size r x' := by rw [← hx']; exact V8
  obtain ⟨A, hA⟩ : ∃ y, r.A x' = y := ⟨_, rfl⟩
  have cA : w8.rangeAt w.heap.size 0 A.toList := by rw [← hA]; exact V9.rg
  have sA : A.size = 29 := by rw [← hA]; rfl
  have oA : A.all (·.oneCell') = true := by rw [← hA]; exact r.A_one x'
  have iA : (Tryd.prog.info? 78).map (·.size) = some A.size := by rw [sA]; exact size_row
  have tA : w8.there (w.heap.size + 1) 0 A.size := by rw [sA]; exact T8
  obtain ⟨w9, hw9⟩ : ∃ y, setA w8 (w.heap.size + 1) 0 A = y := ⟨_, rfl⟩
  have hst : (storeCells ⟨w.heap.size + 1, 0, none⟩ A.toList).run Tryd.prog w8 = .ok () w9 := by rw [← hw9]; exact storeA_run tA oA
  have r9 : w9.rangeAt (w.heap.size + 1) 0 A.toList := by rw [← hw9]; exact range_setA tA
  have B9 : Below w.heap.size w w9 := by rw [← hw9]; exact setA_below Bw8 (Nat.le_succ _)
  have ew : W.heap.size = w.heap.size + 2 := HW.out.2.2.2.1
  have HR : Hid (r.Rows x' w9 ∧ r.New x' w.heap.size ∧ Below w.heap.size w w9 ∧ r.A x' = A) := by
    refine ⟨?_, ?_, B9, hA⟩
    · rw [← hx', ← hw9]
      exact ⟨R18.setA _ _ _ (fun y hy hn => by have := ne1 y hy hn; omega), R28.setA _ _ _ (fun y hy hn => by have := ne2 y hy; omega), R37.setA _ _ _ (fun y hy hn => by have := ne3 y hy; omega)⟩
    · rw [← hx']
      exact ⟨fun y hy hn => by have := ne1 y hy hn; omega, fun y hy hn => by have := ne2 y hy; omega, fun y hy hn => by have := ne3 y hy; omega⟩
  have hl := run_loadVar_mid (P := Tryd.prog) w9 (w.heap.size + 1) 0 78 A.toList _ r9 Tryd.underlying78 rfl (by rw [size_row]; simp [sA])
  rw [Array.toArray_toList] at hl
  have HX : Hid (_) := hl
  clear V8 V9 T8 Bw8 Sw8 R18 R28 R37 ne1 ne2 ne3 hA hx' tA oA hw9 r9 B9 ew hl hbd
  go_wp2_with (refine wpList_loadA rfl 78 (.tmp 1) rfl w.heap.size 0 rfl A _ cA Tryd.underlying78 rfl iA ?_)
  have hl := HX.out
  clear cA iA hst HX
  refine bodyPost_ret (v := .agg A) ?_ rfl ⟨x', by rw [HR.out.2.2.2], HR.out.1, HR.out.2.1, HR.out.2.2.1⟩
  simp [results, Tryd.results41, asAddr, hl]
end Go.Proofs.YtbhbjdmdabkomaaDoor
