/- Layer 20: Read of tick 0 h 5. (gensre.py) -/
import Derived.Test.YtiikebaehoobnaaDoorSrd
namespace Go.Proofs.YtiikebaehoobnaaDoor
set_option maxRecDepth 100000
open Go.RowKit Go.Maps
set_option maxRecDepth 100000
/-- A block of cells. -/
def Bk (w : World) (p : Nat) (cs : Array Value) (t : TypeId) : Prop := w.heap[p]? = some (.cells cs t (0, 0))
theorem Bk.off {w w' : World} {p : Nat} {cs : Array Value} {t : TypeId} {l : List Nat} (h : Bk w p cs t) (o : Off l w w') (hp : p ∉ l) : Bk w' p cs t := (o.block p (Array.getElem?_eq_some_iff.1 h).1 hp).trans h
theorem Bk.lt {w : World} {p : Nat} {cs : Array Value} {t : TypeId} (h : Bk w p cs t) : p < w.heap.size := (Array.getElem?_eq_some_iff.1 h).1
theorem Bk.fz {w : World} {p : Nat} {cs : Array Value} {t : TypeId} (h : Bk w p cs t) (i : Nat) : w.frozen? ⟨p, i, none⟩ = false := by
  unfold Bk at h
  simp [World.frozen?, h]
theorem Bk.cell {w : World} {p : Nat} {cs : Array Value} {t : TypeId} (h : Bk w p cs t) (i : Nat) : w.cell? ⟨p, i, none⟩ = cs[i]? := cell_of_row w p i _ _ _ h
theorem Bk.set {w : World} {p : Nat} {cs : Array Value} {t : TypeId} (h : Bk w p cs t) (i : Nat) (v : Value) : Bk (w.setCell ⟨p, i, none⟩ v) p (cs.setIfInBounds i v) t := heap_setCell_same w p i cs t v h
theorem RB.off {w w' : World} {b : Nat} {v : Value} {x : Bool} {l : List Nat} (h : RB w b v x) (o : Off l w w') (hp : b ∉ l) : RB w' b v x := (o.block b (Array.getElem?_eq_some_iff.1 h).1 hp).trans h
theorem Bk.new (w : World) (cs : Array Value) (t : TypeId) : Bk (w.alloc (.cells cs t)) w.heap.size cs t := heap_alloc_new _ _
set_option maxHeartbeats 1000000 in
theorem preader (g : Nat) (w : World) : Calls Tryd.prog 35 #[.slice (some ⟨g, 0, none⟩) 4 4, .int .i64 3, .int .i64 3] w fun r w' => r = .returned (.tuple #[.agg #[.slice (some ⟨g, 1, none⟩) 3 3, .bool false], .int .i64 0]) ∧ Below w.heap.size w w' := by
  go_enter Tryd.func35, Tryd.ntmps35
  go_wp2_with fail
  refine bodyPost_ret (v := .tuple #[.agg #[.slice (some ⟨g, 1, none⟩) 3 3, .bool false], .int .i64 0]) (by simp [results, Tryd.results35, go_sem]) rfl ⟨rfl, belA (Below.refl _ _) _⟩
set_option maxHeartbeats 2000000 in
theorem pmove5 (b g : Nat) (w : World) (hR : RB w b (.slice (some ⟨g, 1, none⟩) 3 3) false) (hg : Bk w g #[.string (ByteArray.mk #[116, 105, 99, 107]), .string (ByteArray.mk #[48]), .string (ByteArray.mk #[104]), .string (ByteArray.mk #[53])] 9) (hne : g ≠ b) : Calls Tryd.prog 36 #[.pointer (some ⟨b, 0, none⟩), .int .i64 5] w fun r w' => r = .returned (.agg #[.int .i64 5, .int .i64 0, .int .i64 1, .int .i64 0, .int .i64 0, .int .u32 0, .int .i64 5, .bool false, .slice none 0 0]) ∧ (∃ v, RB w' b v false) ∧ Off [b] w w' := by
  obtain ⟨wa, hwa⟩ : ∃ x, w.alloc (.cells #[.int .i64 0, .int .i64 0, .int .i64 0, .int .i64 0, .int .i64 0, .int .u32 0, .int .i64 0, .bool false, .slice none 0 0] 34) = x := ⟨_, rfl⟩
  have ba : Below w.heap.size w wa := by rw [← hwa]; exact belA (Below.refl _ _) _
  have Ra := hR.below ba
  have ga := hg.off (Off.of_below (l := [b]) ba) (by simpa using hne)
  have za : Bk wa w.heap.size #[.int .i64 0, .int .i64 0, .int .i64 0, .int .i64 0, .int .i64 0, .int .u32 0, .int .i64 0, .bool false, .slice none 0 0] 34 := by rw [← hwa]; exact Bk.new _ _ _
  have nb : w.heap.size ≠ b := by have := hR.c.2.2.2.2; omega
  have h1 := pnumR b g 1 2 2 false [48] 0 (by decide) (by decide) (by decide) (by simp [Lib.decDigits]) wa Ra (ga.cell 1) (by decide) (by decide)
  have hU := puses 5
  rw [show sided 5 = true from rfl] at hU
  have HA : Hid (_) := And.intro ba (And.intro ga (And.intro za nb))
  have q1 : IntKind.i64.wrap (((0 : Nat) : Int)) = 0 := rfl
  have q5 : IntKind.i64.wrap (((5 : Nat) : Int)) = 5 := rfl
  clear ba ga za nb Ra hR hg
  go_enter Tryd.func36, Tryd.ntmps36
  go_wp2_with fail
  try rw [hwa]
  clear hwa
  refine h1.mono ?_
  rintro r w1 ⟨rfl, r1, o1⟩
  have H1 : Hid (_) := And.intro r1 o1
  clear h1 r1 o1
  go_wp2_with fail
  have n2 := Bk.new w1 #[.int .i64 5, .int .i64 0, .int .i64 0, .int .i64 0, .int .i64 0, .int .u32 0, .int .i64 0, .bool false, .slice none 0 0] 34
  have b2 := belA (Below.refl _ w1) (.cells #[.int .i64 5, .int .i64 0, .int .i64 0, .int .i64 0, .int .i64 0, .int .u32 0, .int .i64 0, .bool false, .slice none 0 0] 34)
  obtain ⟨w2, hw2⟩ : ∃ x, w1.alloc (.cells #[.int .i64 5, .int .i64 0, .int .i64 0, .int .i64 0, .int .i64 0, .int .u32 0, .int .i64 0, .bool false, .slice none 0 0] 34) = x := ⟨_, rfl⟩
  rw [hw2] at n2 b2 ⊢
  clear hw2
  have lp : w.heap.size < w1.heap.size ∧ b < w1.heap.size ∧ g < w1.heap.size := ⟨Nat.lt_of_lt_of_le HA.out.2.2.1.lt H1.out.2.size, H1.out.1.c.2.2.2.2, Nat.lt_of_lt_of_le HA.out.2.1.lt H1.out.2.size⟩
  obtain ⟨p, hp⟩ : ∃ x, w1.heap.size = x := ⟨_, rfl⟩
  rw [hp] at n2 lp ⊢
  have o2 : Off [b] wa w2 := H1.out.2.trans (Off.of_below b2)
  have h3 := psideR b g 2 1 1 false [104] w2 (H1.out.1.below b2) ((HA.out.2.1.off o2 (by simpa using hne)).cell 2) (by decide) (by decide)
  rw [show sdI [104] = 1 from rfl, show (false || !((1 : Int) != 0)) = false from rfl] at h3
  have H2 : Hid (_) := And.intro n2 (And.intro o2 lp)
  clear n2 o2 lp b2 hp H1
  refine (hU _).mono ?_
  rintro r w' ⟨rfl, hw⟩
  rw [hw]
  clear hw hU
  go_wp2_with fail
  refine h3.mono ?_
  rintro r w3 ⟨rfl, r3, o3⟩
  have n3 := H2.out.1.off o3 (by have := H2.out.2.2; simp; omega)
  have f3 := n3.fz
  have c3 := n3.cell 2
  have n4 := n3.set 2 (.int .i64 1)
  have c6 := n3.cell 6
  have lpb : p ≠ b := by have := H2.out.2.2; omega
  have lpg : g ≠ p := by have := H2.out.2.2; omega
  have R4 : RB (w3.setCell ⟨p, 2, none⟩ (.int .i64 1)) b (.slice (some ⟨g, adv 2 1, none⟩) 1 1) false := RB.off r3 (Off.setCell p 2 w3 _) (by simpa using lpb.symm)
  have g3 := ((HA.out.2.1.off H2.out.2.1 (by simpa using hne)).off o3 (by simpa using hne)).off (Off.setCell p 2 w3 (.int .i64 1)) (by simpa using lpg)
  have h5 := pnumR b g (adv 2 1) 0 0 false [53] 5 (by decide) (by decide) (by decide) (by simp [Lib.decDigits]) _ R4 (g3.cell 3) (by decide) (by decide)
  have z3 := ((HA.out.2.2.1.off H2.out.2.1 (by have := HA.out.2.2.2; simpa using this)).off o3 (by have := HA.out.2.2.2; simpa using this)).off (Off.setCell p 2 w3 (.int .i64 1)) (by have := H2.out.2.2; simp; omega)
  have O4 : Off [b, p, w.heap.size] w (w3.setCell ⟨p, 2, none⟩ (.int .i64 1)) := ((((Off.of_below HA.out.1).trans (H2.out.2.1.more (by simp))).trans (o3.more (by simp))).trans ((Off.setCell p 2 w3 (.int .i64 1)).more (by simp)))
  have H4 : Hid (_) := And.intro (n3.set 2 (.int .i64 1)) (And.intro z3 (And.intro O4 (And.intro lpb H2.out.2.2)))
  clear h3 R4 g3 z3 O4 lpb lpg r3 o3 H2 n3 n4
  go_wp2_with fail
  refine h5.mono ?_
  rintro r w5 ⟨rfl, r5, o5⟩
  have n5 := H4.out.1.off o5 (by have := H4.out.2.2.2.1; simpa using this)
  have z5 := H4.out.2.1.off o5 (by have := HA.out.2.2.2; simpa using this)
  have f5 := n5.fz
  have d6 : w5.cell? ⟨p, 6, none⟩ = some (.int .i64 0) := n5.cell 6
  have R6 : RB (w5.setCell ⟨p, 6, none⟩ (.int .i64 5)) b _ false := RB.off r5 (Off.setCell p 6 w5 _) (by have := H4.out.2.2.2.1; simpa using this.symm)
  have n6 := n5.set 6 (.int .i64 5)
  have z6 := z5.off (Off.setCell p 6 w5 (.int .i64 5)) (by have := H4.out.2.2.2.2; simp; omega)
  have O6 : Off [b, p, w.heap.size] w (w5.setCell ⟨p, 6, none⟩ (.int .i64 5)) := (H4.out.2.2.1.trans (o5.more (by simp))).trans ((Off.setCell p 6 w5 (.int .i64 5)).more (by simp))
  have H6 : Hid (_) := And.intro n6 (And.intro z6 (And.intro O6 (And.intro R6 H4.out.2.2.2)))
  clear h5 n6 z6 O6 R6 z5 n5 r5 o5 H4 c3 c6 f3
  go_upto_region 18 with fail
  obtain ⟨w6, hw6⟩ : ∃ x, w5.setCell ⟨p, 6, none⟩ (.int .i64 5) = x := ⟨_, rfl⟩
  rw [hw6] at H6 ⊢
  clear hw6 d6 f5
  have nB : Bk w6 p #[.int .i64 5, .int .i64 0, .int .i64 1, .int .i64 0, .int .i64 0, .int .u32 0, .int .i64 5, .bool false, .slice none 0 0] 34 := H6.out.1
  have zB : Bk w6 w.heap.size #[.int .i64 0, .int .i64 0, .int .i64 0, .int .i64 0, .int .i64 0, .int .u32 0, .int .i64 0, .bool false, .slice none 0 0] 34 := H6.out.2.1
  have fz := zB.fz
  have p0 : w6.cell? ⟨p, 0, none⟩ = some (.int .i64 5) := nB.cell 0
  have p1 : w6.cell? ⟨p, 1, none⟩ = some (.int .i64 0) := nB.cell 1
  have p2 : w6.cell? ⟨p, 2, none⟩ = some (.int .i64 1) := nB.cell 2
  have p3 : w6.cell? ⟨p, 3, none⟩ = some (.int .i64 0) := nB.cell 3
  have p4 : w6.cell? ⟨p, 4, none⟩ = some (.int .i64 0) := nB.cell 4
  have p5 : w6.cell? ⟨p, 5, none⟩ = some (.int .u32 0) := nB.cell 5
  have p6 : w6.cell? ⟨p, 6, none⟩ = some (.int .i64 5) := nB.cell 6
  have p7 : w6.cell? ⟨p, 7, none⟩ = some (.bool false) := nB.cell 7
  have p8 : w6.cell? ⟨p, 8, none⟩ = some (.slice none 0 0) := nB.cell 8
  have z0 : w6.cell? ⟨w.heap.size, 0, none⟩ = some (.int .i64 0) := zB.cell 0
  have z1 : w6.cell? ⟨w.heap.size, 1, none⟩ = some (.int .i64 0) := zB.cell 1
  have z2 : w6.cell? ⟨w.heap.size, 2, none⟩ = some (.int .i64 0) := zB.cell 2
  have z3 : w6.cell? ⟨w.heap.size, 3, none⟩ = some (.int .i64 0) := zB.cell 3
  have z4 : w6.cell? ⟨w.heap.size, 4, none⟩ = some (.int .i64 0) := zB.cell 4
  have z5 : w6.cell? ⟨w.heap.size, 5, none⟩ = some (.int .u32 0) := zB.cell 5
  have z6 : w6.cell? ⟨w.heap.size, 6, none⟩ = some (.int .i64 0) := zB.cell 6
  have z7 : w6.cell? ⟨w.heap.size, 7, none⟩ = some (.bool false) := zB.cell 7
  have z8 : w6.cell? ⟨w.heap.size, 8, none⟩ = some (.slice none 0 0) := zB.cell 8
  have HO : Hid (Off [w.heap.size] w6 (((((((((w6.setCell ⟨w.heap.size, 0, none⟩ (.int .i64 5)).setCell ⟨w.heap.size, 1, none⟩ (.int .i64 0)).setCell ⟨w.heap.size, 2, none⟩ (.int .i64 1)).setCell ⟨w.heap.size, 3, none⟩ (.int .i64 0)).setCell ⟨w.heap.size, 4, none⟩ (.int .i64 0)).setCell ⟨w.heap.size, 5, none⟩ (.int .u32 0)).setCell ⟨w.heap.size, 6, none⟩ (.int .i64 5)).setCell ⟨w.heap.size, 7, none⟩ (.bool false)).setCell ⟨w.heap.size, 8, none⟩ (.slice none 0 0))) := (Off.trans (Off.trans (Off.trans (Off.trans (Off.trans (Off.trans (Off.trans (Off.trans (Off.trans (Off.refl [w.heap.size] w6) (Off.setCell w.heap.size 0 _ _)) (Off.setCell w.heap.size 1 _ _)) (Off.setCell w.heap.size 2 _ _)) (Off.setCell w.heap.size 3 _ _)) (Off.setCell w.heap.size 4 _ _)) (Off.setCell w.heap.size 5 _ _)) (Off.setCell w.heap.size 6 _ _)) (Off.setCell w.heap.size 7 _ _)) (Off.setCell w.heap.size 8 _ _))
  clear nB zB
  go_wp2_with fail
  refine bodyPost_ret (v := .agg #[.int .i64 5, .int .i64 0, .int .i64 1, .int .i64 0, .int .i64 0, .int .u32 0, .int .i64 5, .bool false, .slice none 0 0]) (by simp [results, Tryd.results36, go_sem, z0, z1, z2, z3, z4, z5, z6, z7, z8]) rfl ?_
  obtain ⟨w7, hw7⟩ : ∃ x, (((((((((w6.setCell ⟨w.heap.size, 0, none⟩ (.int .i64 5)).setCell ⟨w.heap.size, 1, none⟩ (.int .i64 0)).setCell ⟨w.heap.size, 2, none⟩ (.int .i64 1)).setCell ⟨w.heap.size, 3, none⟩ (.int .i64 0)).setCell ⟨w.heap.size, 4, none⟩ (.int .i64 0)).setCell ⟨w.heap.size, 5, none⟩ (.int .u32 0)).setCell ⟨w.heap.size, 6, none⟩ (.int .i64 5)).setCell ⟨w.heap.size, 7, none⟩ (.bool false)).setCell ⟨w.heap.size, 8, none⟩ (.slice none 0 0)) = x := ⟨_, rfl⟩
  rw [hw7] at HO ⊢
  clear hw7
  refine ⟨rfl, ⟨_, RB.off H6.out.2.2.2.1 HO.out (by have := HA.out.2.2.2; simpa using this.symm)⟩, ?_⟩
  refine (H6.out.2.2.1.trans (HO.out.more (by simp))).only (fun k hk hl => ?_)
  have := H6.out.2.2.2.2
  simp at hk ⊢
  omega
set_option maxHeartbeats 2000000 in
theorem pread5 (g : Nat) (w : World) (L : Lw w) (hg : Bk w g #[.string (ByteArray.mk #[116, 105, 99, 107]), .string (ByteArray.mk #[48]), .string (ByteArray.mk #[104]), .string (ByteArray.mk #[53])] 9) : Calls Tryd.prog 14 #[.slice (some ⟨g, 0, none⟩) 4 4] w fun r w' => r = .returned (.tuple #[.agg #[.int .i64 5, .int .i64 0, .int .i64 1, .int .i64 0, .int .i64 0, .int .u32 0, .int .i64 5, .bool false, .slice none 0 0], .int .i64 0]) ∧ Below w.heap.size w w' := by
  obtain ⟨wa, hwa⟩ : ∃ x, w.alloc (.cells #[.int .i64 0, .int .i64 0, .int .i64 0, .int .i64 0, .int .i64 0, .int .u32 0, .int .i64 0, .bool false, .slice none 0 0] 34) = x := ⟨_, rfl⟩
  have ba : Below w.heap.size w wa := by rw [← hwa]; exact belA (Below.refl _ _) _
  have ga := hg.off (Off.of_below (l := []) ba) (by simp)
  have za : Bk wa w.heap.size #[.int .i64 0, .int .i64 0, .int .i64 0, .int .i64 0, .int .i64 0, .int .u32 0, .int .i64 0, .bool false, .slice none 0 0] 34 := by rw [← hwa]; exact Bk.new _ _ _
  have hk := pkind 5 (by decide) [116, 105, 99, 107] rfl wa (L.below ba)
  rw [show tx [116, 105, 99, 107] = ByteArray.mk #[116, 105, 99, 107] from rfl] at hk
  have c0 : wa.cell? ⟨g, 0, none⟩ = some (.string (ByteArray.mk #[116, 105, 99, 107])) := ga.cell 0
  have HA : Hid (_) := And.intro ba (And.intro ga za)
  have hpl := pplaces5 wa
  clear ba ga za L hg
  go_enter Tryd.func14, Tryd.ntmps14
  go_wp2_with fail
  try rw [hwa]
  clear hwa
  refine hk.mono ?_
  rintro r w' ⟨rfl, hw⟩
  rw [hw]
  clear hk hw c0
  go_wp2_with fail
  refine hpl.mono ?_
  rintro r w1 ⟨rfl, b1⟩
  have H1 : Hid (_) := b1
  clear hpl b1
  have hrd := preader g w1
  go_wp2_with fail
  refine hrd.mono ?_
  rintro r w2 ⟨rfl, b2⟩
  have H2 : Hid (Below wa.heap.size wa w2) := H1.out.trans (b2.mono H1.out.size)
  clear hrd b2 H1
  go_wp2_with fail
  have r3 : RB (w2.alloc (.cells #[.slice (some ⟨g, 1, none⟩) 3 3, .bool false] 76)) w2.heap.size (.slice (some ⟨g, 1, none⟩) 3 3) false := Bk.new _ _ _
  have b3 := belA (Below.refl _ w2) (.cells #[.slice (some ⟨g, 1, none⟩) 3 3, .bool false] 76)
  obtain ⟨w3, hw3⟩ : ∃ x, w2.alloc (.cells #[.slice (some ⟨g, 1, none⟩) 3 3, .bool false] 76) = x := ⟨_, rfl⟩
  rw [hw3] at r3 b3 ⊢
  obtain ⟨b, hb⟩ : ∃ x, w2.heap.size = x := ⟨_, rfl⟩
  rw [hb] at r3 ⊢
  have B3 : Below wa.heap.size wa w3 := H2.out.trans (b3.mono H2.out.size)
  have lb : wa.heap.size ≤ b := by rw [← hb]; exact H2.out.size
  have lg : g < wa.heap.size := HA.out.2.1.lt
  have hm := pmove5 b g w3 r3 (HA.out.2.1.off (Off.of_below (l := []) B3) (by simp)) (by omega)
  have H3 : Hid (_) := And.intro B3 (And.intro lb lg)
  clear r3 b3 hw3 hb B3 lb lg H2
  refine hm.mono ?_
  rintro r w4 ⟨rfl, ⟨v4, r4⟩, o4⟩
  clear hm
  have B4 : Below wa.heap.size wa w4 := o4.below H3.out.1 (by have := H3.out.2; simp; omega) H3.out.1.size
  have H4 : Hid (_) := And.intro r4 (And.intro B4 H3.out.2)
  have e4 := r4.c.2.1
  have l4 := r4.c.2.2.2.2
  clear r4 o4 B4 H3
  go_upto_region 11 with fail
  have n5 := Bk.new w4 #[.int .i64 5, .int .i64 0, .int .i64 1, .int .i64 0, .int .i64 0, .int .u32 0, .int .i64 5, .bool false, .slice none 0 0] 34
  have b5 := belA (Below.refl _ w4) (.cells #[.int .i64 5, .int .i64 0, .int .i64 1, .int .i64 0, .int .i64 0, .int .u32 0, .int .i64 5, .bool false, .slice none 0 0] 34)
  obtain ⟨w6, hw6⟩ : ∃ x, w4.alloc (.cells #[.int .i64 5, .int .i64 0, .int .i64 1, .int .i64 0, .int .i64 0, .int .u32 0, .int .i64 5, .bool false, .slice none 0 0] 34) = x := ⟨_, rfl⟩
  rw [hw6] at n5 b5 ⊢
  obtain ⟨p, hp⟩ : ∃ x, w4.heap.size = x := ⟨_, rfl⟩
  rw [hp] at n5 ⊢
  have e6 : w6.cell? ⟨b, 1, none⟩ = some (.bool false) := cellB e4 b5
  have B6 : Below wa.heap.size wa w6 := H4.out.2.1.trans (b5.mono H4.out.2.1.size)
  have zB : Bk w6 w.heap.size #[.int .i64 0, .int .i64 0, .int .i64 0, .int .i64 0, .int .i64 0, .int .u32 0, .int .i64 0, .bool false, .slice none 0 0] 34 := HA.out.2.2.off (Off.of_below (l := []) B6) (by simp)
  have fz := zB.fz
  have lp : wa.heap.size ≤ p := by rw [← hp]; exact H4.out.2.1.size
  have H6 : Hid (_) := And.intro B6 lp
  clear hw6 hp e4 l4 b5 B6 lp H4
  have p0 : w6.cell? ⟨p, 0, none⟩ = some (.int .i64 5) := n5.cell 0
  have p1 : w6.cell? ⟨p, 1, none⟩ = some (.int .i64 0) := n5.cell 1
  have p2 : w6.cell? ⟨p, 2, none⟩ = some (.int .i64 1) := n5.cell 2
  have p3 : w6.cell? ⟨p, 3, none⟩ = some (.int .i64 0) := n5.cell 3
  have p4 : w6.cell? ⟨p, 4, none⟩ = some (.int .i64 0) := n5.cell 4
  have p5 : w6.cell? ⟨p, 5, none⟩ = some (.int .u32 0) := n5.cell 5
  have p6 : w6.cell? ⟨p, 6, none⟩ = some (.int .i64 5) := n5.cell 6
  have p7 : w6.cell? ⟨p, 7, none⟩ = some (.bool false) := n5.cell 7
  have p8 : w6.cell? ⟨p, 8, none⟩ = some (.slice none 0 0) := n5.cell 8
  have z0 : w6.cell? ⟨w.heap.size, 0, none⟩ = some (.int .i64 0) := zB.cell 0
  have z1 : w6.cell? ⟨w.heap.size, 1, none⟩ = some (.int .i64 0) := zB.cell 1
  have z2 : w6.cell? ⟨w.heap.size, 2, none⟩ = some (.int .i64 0) := zB.cell 2
  have z3 : w6.cell? ⟨w.heap.size, 3, none⟩ = some (.int .i64 0) := zB.cell 3
  have z4 : w6.cell? ⟨w.heap.size, 4, none⟩ = some (.int .i64 0) := zB.cell 4
  have z5 : w6.cell? ⟨w.heap.size, 5, none⟩ = some (.int .u32 0) := zB.cell 5
  have z6 : w6.cell? ⟨w.heap.size, 6, none⟩ = some (.int .i64 0) := zB.cell 6
  have z7 : w6.cell? ⟨w.heap.size, 7, none⟩ = some (.bool false) := zB.cell 7
  have z8 : w6.cell? ⟨w.heap.size, 8, none⟩ = some (.slice none 0 0) := zB.cell 8
  have HO : Hid (Off [w.heap.size] w6 (((((((((w6.setCell ⟨w.heap.size, 0, none⟩ (.int .i64 5)).setCell ⟨w.heap.size, 1, none⟩ (.int .i64 0)).setCell ⟨w.heap.size, 2, none⟩ (.int .i64 1)).setCell ⟨w.heap.size, 3, none⟩ (.int .i64 0)).setCell ⟨w.heap.size, 4, none⟩ (.int .i64 0)).setCell ⟨w.heap.size, 5, none⟩ (.int .u32 0)).setCell ⟨w.heap.size, 6, none⟩ (.int .i64 5)).setCell ⟨w.heap.size, 7, none⟩ (.bool false)).setCell ⟨w.heap.size, 8, none⟩ (.slice none 0 0))) := (Off.trans (Off.trans (Off.trans (Off.trans (Off.trans (Off.trans (Off.trans (Off.trans (Off.trans (Off.refl [w.heap.size] w6) (Off.setCell w.heap.size 0 _ _)) (Off.setCell w.heap.size 1 _ _)) (Off.setCell w.heap.size 2 _ _)) (Off.setCell w.heap.size 3 _ _)) (Off.setCell w.heap.size 4 _ _)) (Off.setCell w.heap.size 5 _ _)) (Off.setCell w.heap.size 6 _ _)) (Off.setCell w.heap.size 7 _ _)) (Off.setCell w.heap.size 8 _ _))
  clear n5 zB
  go_wp2_with fail
  refine bodyPost_ret (v := .tuple #[.agg #[.int .i64 5, .int .i64 0, .int .i64 1, .int .i64 0, .int .i64 0, .int .u32 0, .int .i64 5, .bool false, .slice none 0 0], .int .i64 0]) (by simp [results, Tryd.results14, go_sem, z0, z1, z2, z3, z4, z5, z6, z7, z8]) rfl ?_
  obtain ⟨w7, hw7⟩ : ∃ x, (((((((((w6.setCell ⟨w.heap.size, 0, none⟩ (.int .i64 5)).setCell ⟨w.heap.size, 1, none⟩ (.int .i64 0)).setCell ⟨w.heap.size, 2, none⟩ (.int .i64 1)).setCell ⟨w.heap.size, 3, none⟩ (.int .i64 0)).setCell ⟨w.heap.size, 4, none⟩ (.int .i64 0)).setCell ⟨w.heap.size, 5, none⟩ (.int .u32 0)).setCell ⟨w.heap.size, 6, none⟩ (.int .i64 5)).setCell ⟨w.heap.size, 7, none⟩ (.bool false)).setCell ⟨w.heap.size, 8, none⟩ (.slice none 0 0)) = x := ⟨_, rfl⟩
  rw [hw7] at HO ⊢
  clear hw7
  refine ⟨rfl, ?_⟩
  have ba := HA.out.1
  have bb : Below w.heap.size w w6 := ba.trans (H6.out.1.mono ba.size)
  exact HO.out.below bb (by simp) bb.size
end Go.Proofs.YtiikebaehoobnaaDoor
