/- Parameter sets: what may be, their bytes; within, Check, Bytes of the program. -/
import Derived.Test.YtmleiemlfogffaaGreatUmath
import Derived.Deep.RegionHeld3
namespace Go.Proofs.YtmleiemlfogffaaGreat
set_option maxRecDepth 100000
open Go.RowKit

/-- A lawful set. -/
def okP (c o i t n : Int) : Prop := c ≠ 0 ∧ (1 ≤ o ∧ o ≤ 8) ∧ (1 ≤ i ∧ i ≤ 8) ∧ (1 ≤ t ∧ t ≤ 1048576) ∧ 2 ≤ n
instance okP_dec (c o i t n : Int) : Decidable (okP c o i t n) := by unfold okP; infer_instance
/-- Its bytes. -/
def pe (c o i t n k : Nat) : Nat := if k < 4 then PM.w4 c k else if k = 4 then o else if k = 5 then i else if k < 10 then PM.w4 t (k - 6) else PM.w4 n (k - 10)
theorem pe_c (c o i t n j : Nat) (hj : j < 4) : pe c o i t n (0 + j) = PM.w4 c j := by rw [Nat.zero_add]; exact if_pos hj
theorem pe_o (c o i t n : Nat) : pe c o i t n 4 = o := rfl
theorem pe_i (c o i t n : Nat) : pe c o i t n 5 = i := rfl
theorem pe_t (c o i t n j : Nat) (hj : j < 4) : pe c o i t n (6 + j) = PM.w4 t j := by
  unfold pe
  rw [if_neg (by omega), if_neg (by omega), if_neg (by omega), if_pos (by omega), show 6 + j - 6 = j by omega]
theorem pe_n (c o i t n j : Nat) : pe c o i t n (10 + j) = PM.w4 n j := by
  unfold pe
  rw [if_neg (by omega), if_neg (by omega), if_neg (by omega), if_neg (by omega), show 10 + j - 10 = j by omega]
theorem pe_lt {c o i t n : Nat} (ho : o < 256) (hi : i < 256) (k : Nat) : pe c o i t n k < 256 := by
  unfold pe
  by_cases h1 : k < 4
  · rw [if_pos h1]; exact PM.w4_lt _ _
  · rw [if_neg h1]
    by_cases h2 : k = 4
    · rw [if_pos h2]; exact ho
    · rw [if_neg h2]
      by_cases h3 : k = 5
      · rw [if_pos h3]; exact hi
      · rw [if_neg h3]
        by_cases h4 : k < 10
        · rw [if_pos h4]; exact PM.w4_lt _ _
        · rw [if_neg h4]; exact PM.w4_lt _ _
/-- There and back. -/
theorem pe_words (c o i t n : Nat) (hc : c < 4294967296) (ht : t < 4294967296) (hn : n < 4294967296) :
    w4v (pe c o i t n) 0 = c ∧ w4v (pe c o i t n) 6 = t ∧ w4v (pe c o i t n) 10 = n :=
  ⟨w4v_w4 hc (fun j hj => pe_c c o i t n j hj), w4v_w4 ht (fun j hj => pe_t c o i t n j hj), w4v_w4 hn (fun j _ => pe_n c o i t n j)⟩
theorem pe_back {bs : Nat → Nat} (hb : ∀ k, k < 14 → bs k < 256) : ∀ k, k < 14 → pe (w4v bs 0) (bs 4) (bs 5) (w4v bs 6) (w4v bs 10) k = bs k := by
  intro k hk
  by_cases h1 : k < 4
  · have := pe_c (w4v bs 0) (bs 4) (bs 5) (w4v bs 6) (w4v bs 10) k h1
    rw [Nat.zero_add] at this
    rw [this, w4_w4v (fun j hj => hb _ (by omega)) k h1, Nat.zero_add]
  · by_cases h2 : k = 4
    · rw [h2]; rfl
    · by_cases h3 : k = 5
      · rw [h3]; rfl
      · by_cases h4 : k < 10
        · obtain ⟨j, rfl⟩ : ∃ j, k = 6 + j := ⟨k - 6, by omega⟩
          rw [pe_t _ _ _ _ _ j (by omega), w4_w4v (fun j hj => hb _ (by omega)) j (by omega)]
        · obtain ⟨j, rfl⟩ : ∃ j, k = 10 + j := ⟨k - 10, by omega⟩
          rw [pe_n, w4_w4v (fun j hj => hb _ (by omega)) j (by omega)]

/-- A call as one step of a region that draws; 'copy(own[off:], xs)' likewise. -/
theorem step_call {P : Program} {ops : Array Oper} {o : Oper} {a : Act} {w : World} {K : Act → World → Prop} {Q : Exit → Act → World → Prop} {E : Prop} {R : World → Prop}
    (hg : o.guard = none) (f : FuncId) (ts : Array Operand) (ty : Array TypeId) (_ : o.op = .call { callee := .value (.func f), args := ts, argTypes := ty }) (args : Array Value) (v : Value) (hrun : (execOp a.eval o).run P w = .ok (.enter f args) w) (hc : Calls P f args w fun e w' => e = .returned v ∧ R w') (hK : ∀ w', R w' → K (a.put o.dst v) w') :
    if Region.wanted o (yielded ops a.tmps) = true then Oper.wp P o a w K Q else E := by
  have hw : Region.wanted o (yielded ops a.tmps) = true := by simp [Region.wanted, hg]
  rw [if_pos hw]
  unfold Oper.wp
  rw [hrun]
  refine hc.mono ?_
  rintro e w'' ⟨rfl, hr⟩
  exact hK _ hr
theorem step_copy8P {ops : Array Oper} {o : Oper} {a : Act} {w : World} {K : Act → World → Prop} {Q : Exit → Act → World → Prop} {E : Prop} (hgd : o.guard = none) (d s : Operand)
    (ho : o.op = .call { callee := .builtin .copy, args := #[d, s], argTypes := #[25, 25] })
    (B g n cap off dl dc : Nat) (f : Nat → Nat) (hd : a.eval d = .slice (some ⟨g, off, none⟩) dl dc) (hown : w.ownsRow B 5 1 (.slice (some ⟨g, 0, none⟩) n cap) n (CB f n))
    (ao : Option Addr) (m c : Nat) (bs : Nat → Nat) (hs : a.eval s = .slice ao m c) (hrow : Row8 w ao m c bs) (hdl : m ≤ dl) (hoff : off + m ≤ n)
    (w0 : World) (hb : Below B w0 w)
    (h : ∀ w', Hid (w'.ownsRow B 5 1 (.slice (some ⟨g, 0, none⟩) n cap) n (CB (fun i => if off ≤ i ∧ i < off + m then bs (i - off) else f i) n)) → Below B w0 w' → K (a.put o.dst (goInt (m : Nat))) w') :
    if Region.wanted o (yielded ops a.tmps) = true then Oper.wp Tryz.prog o a w K Q else E := by
  rcases hown.2 with ⟨h', _⟩ | ⟨g', cap', cur, h', hbg, hg, hnc, hcm, hcs, htake⟩
  · simp at h'
  · simp only [Value.slice.injEq, Option.some.injEq, Addr.mk.injEq, and_true, true_and] at h'
    obtain ⟨rfl, rfl⟩ := h'
    rw [Nat.mul_one] at hcs htake
    have hmin : Nat.min m dl = m := Nat.min_eq_left hdl
    refine step_copy_splice hgd d s 25 25 ho 5 Tryz.underlying25 size_u8 _ ao dl dc m c hd hs g off cur.toList 5 (by simpa using hg) (CB bs m) (by rw [CB_length, hmin]) ?_ (by rw [CB_length, Array.length_toList, hcs]; omega) (CB_one _ _) B w0 hb hbg ?_
    · intro hpos
      refine ⟨rfl, ?_⟩
      rw [CB_length] at hpos
      cases ao with
      | none => have := (hrow.nil rfl).1; omega
      | some ad =>
        refine ⟨ad, rfl, fun j v hj => ?_⟩
        by_cases hlt : j < m
        · rw [CB_get _ _ _ hlt] at hj
          cases hj
          exact hrow.src ad rfl j hlt
        · rw [CB_none _ _ _ (by omega)] at hj; cases hj
    · intro w' hg' hb'
      rw [CB_length]
      refine h w' ⟨by rw [CB_length]; omega, .inr ⟨g, cap, _, rfl, hbg, hg'.out, hnc, hcm, ?_, ?_⟩⟩ hb'
      · rw [List.size_toArray, length_splice _ _ _ (by rw [CB_length, Array.length_toList, hcs]; omega), Array.length_toList, hcs, Nat.mul_one]
      · rw [Nat.mul_one]
        simp only [splice, CB_length]
        apply List.ext_getElem?
        intro i
        rw [List.getElem?_take]
        by_cases hi : i < n
        · rw [if_pos hi, CB_get _ n i hi]
          have hcur := congrArg (·[i]?) htake
          simp only [List.getElem?_take, if_pos hi, CB_get f n i hi] at hcur
          have hlen : (cur.toList.take off).length = off := by rw [List.length_take, Array.length_toList, hcs]; omega
          by_cases h1 : i < off
          · rw [if_neg (by omega), List.getElem?_append_left (by rw [hlen]; exact h1), List.getElem?_take, if_pos h1]
            exact hcur
          · by_cases h2 : i < off + m
            · rw [if_pos ⟨by omega, h2⟩, List.getElem?_append_right (by rw [hlen]; omega), hlen, List.getElem?_append_left (by rw [CB_length]; omega), CB_get _ _ _ (by omega)]
            · rw [if_neg (by omega), List.getElem?_append_right (by rw [hlen]; omega), hlen, List.getElem?_append_right (by rw [CB_length]; omega), CB_length, List.getElem?_drop, show off + m + (i - off - m) = i by omega]
              exact hcur
        · rw [if_neg hi, CB_none _ n i (by omega)]

/-- A new word's bytes. -/
theorem row4P (w : World) (x : Nat) (hx : x < 4294967296) :
    Row8 (w.alloc (.cells #[.int .u8 ((x : Int) / 16777216), .int .u8 ((x : Int) / 65536 % 256), .int .u8 ((x : Int) / 256 % 256), .int .u8 ((x : Int) % 256)] 5)) (some ⟨w.heap.size, 0, none⟩) 4 4 (PM.w4 x) := by
  refine row8_new w _ _ (PM.w4 x) 4 (fun i _ => PM.w4_lt x i) (fun i hi => ?_)
  have e0 : (x : Int) / 16777216 = ((PM.w4 x 0 : Nat) : Int) := by show _ = ((x / 16777216 % 256 : Nat) : Int); omega
  have e1 : (x : Int) / 65536 % 256 = ((PM.w4 x 1 : Nat) : Int) := by show _ = ((x / 65536 % 256 : Nat) : Int); omega
  have e2 : (x : Int) / 256 % 256 = ((PM.w4 x 2 : Nat) : Int) := by show _ = ((x / 256 % 256 : Nat) : Int); omega
  have e3 : (x : Int) % 256 = ((PM.w4 x 3 : Nat) : Int) := by show _ = ((x % 256 : Nat) : Int); omega
  rw [e0, e1, e2, e3]
  rcases (show i = 0 ∨ i = 1 ∨ i = 2 ∨ i = 3 by omega) with rfl | rfl | rfl | rfl <;> rfl
theorem own4P (w : World) (x : Nat) (hx : x < 4294967296) :
    (w.alloc (.cells #[.int .u8 ((x : Int) / 16777216), .int .u8 ((x : Int) / 65536 % 256), .int .u8 ((x : Int) / 256 % 256), .int .u8 ((x : Int) % 256)] 5)).ownsRow w.heap.size 5 1 (.slice (some ⟨w.heap.size, 0, none⟩) 4 4) 4 (CB (PM.w4 x) 4) := by
  have e0 : (x : Int) / 16777216 = ((PM.w4 x 0 : Nat) : Int) := by show _ = ((x / 16777216 % 256 : Nat) : Int); omega
  have e1 : (x : Int) / 65536 % 256 = ((PM.w4 x 1 : Nat) : Int) := by show _ = ((x / 65536 % 256 : Nat) : Int); omega
  have e2 : (x : Int) / 256 % 256 = ((PM.w4 x 2 : Nat) : Int) := by show _ = ((x / 256 % 256 : Nat) : Int); omega
  have e3 : (x : Int) % 256 = ((PM.w4 x 3 : Nat) : Int) := by show _ = ((x % 256 : Nat) : Int); omega
  rw [e0, e1, e2, e3]
  exact ⟨by rw [CB_length], .inr ⟨w.heap.size, 4, _, rfl, Nat.le_refl _, heap_alloc_new w _, Nat.le_refl _, by unfold maxLen; omega, rfl, rfl⟩⟩
theorem belowA {w0 w : World} (h : Below w0.heap.size w0 w) (o : Obj) : Below w0.heap.size w0 (w.alloc o) := h.alloc h.size o

/-- A set in memory. -/
structure Bx (wx : World) (g : Nat) (c : Nat) (o i t : Int) (n : Nat) : Prop where
  c0 : wx.cell? ⟨g, 0, none⟩ = some (.int .u32 c)
  c1 : wx.cell? ⟨g, 1, none⟩ = some (.int .i64 o)
  c2 : wx.cell? ⟨g, 2, none⟩ = some (.int .i64 i)
  c3 : wx.cell? ⟨g, 3, none⟩ = some (.int .i64 t)
  c4 : wx.cell? ⟨g, 4, none⟩ = some (.int .u32 n)
theorem bx_new (w : World) (c : Nat) (o i t : Int) (n : Nat) (wx : World) (hb : Below (w.alloc (.cells #[.int .u32 c, .int .i64 o, .int .i64 i, .int .i64 t, .int .u32 n] 24)).heap.size (w.alloc (.cells #[.int .u32 c, .int .i64 o, .int .i64 i, .int .i64 t, .int .u32 n] 24)) wx) :
    Bx wx w.heap.size c o i t n := by
  have h : ∀ j, wx.cell? ⟨w.heap.size, j, none⟩ = (w.alloc (.cells #[.int .u32 c, .int .i64 o, .int .i64 i, .int .i64 t, .int .u32 n] 24)).cell? ⟨w.heap.size, j, none⟩ := fun j => hb.cell (p := ⟨w.heap.size, j, none⟩) (by simp)
  exact ⟨(h 0).trans (by simp), (h 1).trans (by simp), (h 2).trans (by simp), (h 3).trans (by simp), (h 4).trans (by simp)⟩
theorem Bx.below {wa wx : World} {g : Nat} {c : Nat} {o i t : Int} {n : Nat} (h : Bx wa g c o i t n) (hg : g < wa.heap.size) (hb : Below wa.heap.size wa wx) : Bx wx g c o i t n := by
  have h' : ∀ j, wx.cell? ⟨g, j, none⟩ = wa.cell? ⟨g, j, none⟩ := fun j => hb.cell (p := ⟨g, j, none⟩) hg
  exact ⟨(h' 0).trans h.c0, (h' 1).trans h.c1, (h' 2).trans h.c2, (h' 3).trans h.c3, (h' 4).trans h.c4⟩
theorem par_frozen (w : World) (o : Array Value) (i : Nat) (wx : World) (hb : Below (w.alloc (.cells o 24)).heap.size (w.alloc (.cells o 24)) wx) : wx.frozen? ⟨w.heap.size, i, none⟩ = false := by
  rw [hb.frozen (p := ⟨w.heap.size, i, none⟩) (by simp)]
  simp
set_option maxRecDepth 100000 in
set_option maxHeartbeats 1000000 in
theorem within_any (x m : Int) (w : World) (b : Bool) (hb : decide (1 ≤ x ∧ x ≤ m) = b) :
    Calls Tryz.prog 72 #[.int .i64 x, .int .i64 m] w fun e w' => e = .returned (.bool b) ∧ w' = w := by
  by_cases h1 : 1 ≤ x
  · have q1 : decide (1 ≤ x) = true := decide_eq_true h1
    have hb2 : decide (x ≤ m) = b := by rw [← hb]; simp [h1]
    clear hb h1
    go_enter Tryz.func72, Tryz.ntmps72
    go_wp2_with fail
    go_ret
    exact ⟨by simp, rfl⟩
  · have q1 : decide (1 ≤ x) = false := decide_eq_false h1
    have hb2 : b = false := by rw [← hb]; simp [h1]
    subst hb2
    clear hb h1
    go_enter Tryz.func72, Tryz.ntmps72
    go_wp2_with fail
    go_ret
    exact ⟨rfl, rfl⟩
theorem bytes4_any (x : Nat) (w : World) (hx : x < 4294967296) :
    Calls Tryz.prog 196 #[.int .u32 x] w fun e w' => e = .returned (.slice (some ⟨w.heap.size, 0, none⟩) 4 4) ∧ w' = w.alloc (.cells #[.int .u8 ((x : Int) / 16777216), .int .u8 ((x : Int) / 65536 % 256), .int .u8 ((x : Int) / 256 % 256), .int .u8 ((x : Int) % 256)] 5) := by
  go_enter Tryz.func196, Tryz.ntmps196
  go_wp2
  go_ret
  exact ⟨rfl, rfl⟩
set_option maxRecDepth 100000 in
set_option maxHeartbeats 2000000 in
theorem check_any (c : Nat) (o i t : Int) (n : Nat) (w : World) (E : Int) (hE : (if okP c o i t n then 0 else 90) = E) :
    Calls Tryz.prog 35 #[.agg #[.int .u32 c, .int .i64 o, .int .i64 i, .int .i64 t, .int .u32 n]] w fun e w' => e = .returned (.int .i64 E) ∧ Below w.heap.size w w' := by
  have hb : Below w.heap.size w (w.alloc (.cells #[.int .u32 c, .int .i64 o, .int .i64 i, .int .i64 t, .int .u32 n] 24)) := (Below.refl _ _).alloc (Nat.le_refl _) _
  have wi1 := fun b h wx => within_any o 8 wx b h
  have wi2 := fun b h wx => within_any i 8 wx b h
  have wi3 := fun b h wx => within_any t 1048576 wx b h
  have HB : Hid (_) := hb
  have HE : Hid (_) := hE
  clear hE hb
  by_cases h1 : (c : Int) = 0
  · have q1 : ((c : Int) == 0) = true := by simpa using h1
    have hE' : E = 90 := by rw [← HE.out, if_neg (fun h => h.1 h1)]
    subst hE'
    clear wi1 wi2 wi3 HE h1
    go_enter Tryz.func35, Tryz.ntmps35
    go_wp2_with fail
    go_ret
    exact ⟨rfl, HB.out⟩
  · have q1 : ((c : Int) == 0) = false := by simpa using h1
    by_cases h2 : 1 ≤ o ∧ o ≤ 8
    · replace wi1 := wi1 true (decide_eq_true h2)
      by_cases h3 : 1 ≤ i ∧ i ≤ 8
      · replace wi2 := wi2 true (decide_eq_true h3)
        by_cases h4 : 1 ≤ t ∧ t ≤ 1048576
        · replace wi3 := wi3 true (decide_eq_true h4)
          by_cases h5 : (n : Int) < 2
          · have q5 : decide ((n : Int) < 2) = true := decide_eq_true h5
            have hE' : E = 90 := by rw [← HE.out, if_neg (fun h => absurd h.2.2.2.2 (by omega))]
            subst hE'
            clear HE h1 h2 h3 h4 h5
            go_enter Tryz.func35, Tryz.ntmps35
            go_wp2_with fail
            refine (wi1 _).mono ?_
            rintro e w1 ⟨rfl, rfl⟩
            go_wp2_with fail
            refine (wi2 _).mono ?_
            rintro e w1 ⟨rfl, rfl⟩
            go_wp2_with fail
            refine (wi3 _).mono ?_
            rintro e w1 ⟨rfl, rfl⟩
            go_wp2_with fail
            go_ret
            exact ⟨rfl, HB.out⟩
          · have q5 : decide ((n : Int) < 2) = false := decide_eq_false h5
            have hE' : E = 0 := by rw [← HE.out, if_pos ⟨h1, h2, h3, h4, by omega⟩]
            subst hE'
            clear HE h1 h2 h3 h4 h5
            go_enter Tryz.func35, Tryz.ntmps35
            go_wp2_with fail
            refine (wi1 _).mono ?_
            rintro e w1 ⟨rfl, rfl⟩
            go_wp2_with fail
            refine (wi2 _).mono ?_
            rintro e w1 ⟨rfl, rfl⟩
            go_wp2_with fail
            refine (wi3 _).mono ?_
            rintro e w1 ⟨rfl, rfl⟩
            go_wp2_with fail
            go_ret
            exact ⟨rfl, HB.out⟩
        · replace wi3 := wi3 false (decide_eq_false h4)
          have hE' : E = 90 := by rw [← HE.out, if_neg (fun h => h4 h.2.2.2.1)]
          subst hE'
          clear HE h1 h2 h3 h4
          go_enter Tryz.func35, Tryz.ntmps35
          go_wp2_with fail
          refine (wi1 _).mono ?_
          rintro e w1 ⟨rfl, rfl⟩
          go_wp2_with fail
          refine (wi2 _).mono ?_
          rintro e w1 ⟨rfl, rfl⟩
          go_wp2_with fail
          refine (wi3 _).mono ?_
          rintro e w1 ⟨rfl, rfl⟩
          go_wp2_with fail
          go_ret
          exact ⟨rfl, HB.out⟩
      · replace wi2 := wi2 false (decide_eq_false h3)
        have hE' : E = 90 := by rw [← HE.out, if_neg (fun h => h3 h.2.2.1)]
        subst hE'
        clear HE h1 h2 h3 wi3
        go_enter Tryz.func35, Tryz.ntmps35
        go_wp2_with fail
        refine (wi1 _).mono ?_
        rintro e w1 ⟨rfl, rfl⟩
        go_wp2_with fail
        refine (wi2 _).mono ?_
        rintro e w1 ⟨rfl, rfl⟩
        go_wp2_with fail
        go_ret
        exact ⟨rfl, HB.out⟩
    · replace wi1 := wi1 false (decide_eq_false h2)
      have hE' : E = 90 := by rw [← HE.out, if_neg (fun h => h2 h.2.1)]
      subst hE'
      clear HE h1 h2 wi2 wi3
      go_enter Tryz.func35, Tryz.ntmps35
      go_wp2_with fail
      refine (wi1 _).mono ?_
      rintro e w1 ⟨rfl, rfl⟩
      go_wp2_with fail
      go_ret
      exact ⟨rfl, HB.out⟩

end Go.Proofs.YtmleiemlfogffaaGreat
