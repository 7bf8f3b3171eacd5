/- Layer 20: the program's Head. (gensw5.py) -/
import Derived.Test.YtiikebaehoobnaaDoorSw4
namespace Go.Proofs.YtiikebaehoobnaaDoor
set_option maxRecDepth 100000
open Go.RowKit Go.Maps
set_option maxRecDepth 100000
set_option linter.unusedVariables false
/-- Is it a net's line; why it is wrong; the net behind it. -/
def hdIs (N : Nat) (L : Nat → List UInt8) : Bool := decide (0 < N) && hdW (L 0)
def hdEr (N : Nat) (L : Nat → List UInt8) : Int := if hdIs N L = true then hdE (N - 1) L else 0
def Nt.hd (Z : Nt) (N : Nat) (L : Nat → List UInt8) : Nt := if hdIs N L = true then Z.put (N - 1) L else Z
/-- What Head leaves. -/
def HdP (Z : Nt) (is : Bool) (e : Int) (w : World) (r : Ending) (w' : World) : Prop := ∃ a0 c0 a1 c1, r = .returned (.tuple #[.agg #[.slice a0 Z.l0 c0, .slice a1 Z.l1 c1, .int .u32 (Z.ms : Nat)], .bool is, .int .i64 e]) ∧ Hid (w'.ownsRow w.heap.size 63 5 (.slice a0 Z.l0 c0) Z.l0 (flP Z.l0 Z.P0) ∧ w'.ownsRow w.heap.size 63 5 (.slice a1 Z.l1 c1) Z.l1 (flP Z.l1 Z.P1) ∧ (∀ k, (Value.slice a0 Z.l0 c0).ownBlock = some k → (Value.slice a1 Z.l1 c1).ownBlock ≠ some k) ∧ Below w.heap.size w w')
set_option maxHeartbeats 1000000 in
theorem penter_net (B b : Nat) (T : TypeId) (hT : T ≠ 63) (cs : Array Value) (Z : Nt) (g o N n C c : Nat) (hN1 : N = n + 1) (hC1 : C = c + 1) (hnc : n ≤ c) (hC : C ≤ 9223372036854775807) (L : Nat → List UInt8) (hL : ∀ i, i < N → (L i).length ≤ 281474976710656) (h0 : L 0 = [110, 101, 116]) (w : World) (Lv : Lw w) (hZ : NtW B w b T cs Z) (hB : B ≤ b) (h : ∀ i, i < N → w.cell? ⟨g, o + i, none⟩ = some (.string (tx (L i)))) : Calls Tryd.prog 42 #[.pointer (some ⟨b, 0, none⟩), .slice (some ⟨g, o, none⟩) N C] w (EnP B b T cs (Z.put n L) (hdE n L) w) := by
  have hm := pmost B b T hT cs Z g o N n C c hN1 hC1 hnc hC L hL h0 w Lv hZ hB h
  have hw0 := h 0 (by omega)
  rw [Nat.add_zero] at hw0
  have qn : ((tx (L 0)).toList == [110, 101, 116]) = true := by rw [tx_list, h0]; rfl
  have qN0 : (0 : Int) < ((N : Nat) : Int) := by omega
  obtain ⟨X0, hX0⟩ : ∃ y, tx (L 0) = y := ⟨_, rfl⟩
  rw [hX0] at hw0 qn
  have post : ∀ r w', EnP B b T cs (Z.put n L) (hdE n L) w r w' → ∃ e, r = .returned (.int .i64 e) ∧ Hid (EnP B b T cs (Z.put n L) (hdE n L) w (.returned (.int .i64 e)) w') := fun r w' q => ⟨_, q.1, (by have := q.1; subst this; exact q)⟩
  obtain ⟨ZZ, hZZ⟩ : ∃ y, Z.put n L = y := ⟨_, rfl⟩
  obtain ⟨EE, hEE⟩ : ∃ y, hdE n L = y := ⟨_, rfl⟩
  rw [hZZ, hEE] at hm post ⊢
  have hm2 := hm.mono post
  clear hm post hZZ hEE hX0 h h0 hL Lv hZ hN1 hC1 hnc hC hB hT
  go_enter Tryd.func42, Tryd.ntmps42
  go_wp2_with fail
  refine hm2.mono ?_
  rintro r w2 ⟨e, rfl, H2⟩
  clear hm2
  go_wp2_with fail
  go_ret
  exact H2.out
theorem penter (B b : Nat) (T : TypeId) (hT : T ≠ 63) (cs : Array Value) (Z : Nt) (hz0 : Z.l0 ≤ 1000000) (hz1 : Z.l1 ≤ 1000000) (g o N n C c : Nat) (hN1 : N = n + 1) (hC1 : C = c + 1) (hnc : n ≤ c) (hC : C ≤ 9223372036854775807) (L : Nat → List UInt8) (hL : ∀ i, i < N → (L i).length ≤ 281474976710656) (h0 : hdW (L 0) = true) (w : World) (Lv : Lw w) (hZ : NtW B w b T cs Z) (hB : B ≤ b) (h : ∀ i, i < N → w.cell? ⟨g, o + i, none⟩ = some (.string (tx (L i)))) : Calls Tryd.prog 42 #[.pointer (some ⟨b, 0, none⟩), .slice (some ⟨g, o, none⟩) N C] w (EnP B b T cs (Z.put n L) (hdE n L) w) := by
  unfold hdW at h0
  simp only [Bool.or_eq_true, beq_iff_eq] at h0
  rcases h0 with (e | e) | e
  · exact penter_net B b T hT cs Z g o N n C c hN1 hC1 hnc hC L hL e w Lv hZ hB h
  · exact penter_host B b T hT cs Z hz0 g o N n C c hN1 hC1 hnc hC L hL e w Lv hZ hB h
  · exact penter_device B b T hT cs Z hz1 g o N n C c hN1 hC1 hnc hC L hL e w Lv hZ hB h
/-- The net's cells, and the answer's. -/
theorem net_end {B : Nat} {w w6 : World} {cs : Array Value} {Z : Nt} {is : Bool} {e : Int} (h : NtW w.heap.size w6 w.heap.size 25 cs Z) (z : Bk w6 (w.heap.size + 1) #[.slice none 0 0, .slice none 0 0, .int .u32 0] 25) (q : Below w.heap.size w w6) (a0 a1 : Option Addr) (c0 c1 : Nat) (e0 : cs[0]? = some (.slice a0 Z.l0 c0)) (e1 : cs[1]? = some (.slice a1 Z.l1 c1)) : HdP Z is e w (.returned (.tuple #[.agg #[.slice a0 Z.l0 c0, .slice a1 Z.l1 c1, .int .u32 (Z.ms : Nat)], .bool is, .int .i64 e])) (((w6.setCell ⟨w.heap.size + 1, 0, none⟩ (.slice a0 Z.l0 c0)).setCell ⟨w.heap.size + 1, 1, none⟩ (.slice a1 Z.l1 c1)).setCell ⟨w.heap.size + 1, 2, none⟩ (.int .u32 (Z.ms : Nat))) := by
  obtain ⟨b0, d0, b1, d1, f0, f1, f2, o0, o1, d⟩ := h.v
  rw [e0] at f0
  rw [e1] at f1
  cases f0
  cases f1
  have os : Off [w.heap.size + 1] w6 (((w6.setCell ⟨w.heap.size + 1, 0, none⟩ (.slice a0 Z.l0 c0)).setCell ⟨w.heap.size + 1, 1, none⟩ (.slice a1 Z.l1 c1)).setCell ⟨w.heap.size + 1, 2, none⟩ (.int .u32 (Z.ms : Nat))) := Off.trans (Off.trans (Off.setCell _ 0 _ _) (Off.setCell _ 1 _ _)) (Off.setCell _ 2 _ _)
  have hT : 25 ≠ 63 := by decide
  have k0 := own_ty hT z o0
  have k1 := own_ty hT z o1
  exact ⟨a0, c0, a1, c1, rfl, own_off o0 os (fun k hk hm => by simp at hm; rw [hm] at hk; exact k0 hk), own_off o1 os (fun k hk hm => by simp at hm; rw [hm] at hk; exact k1 hk), d, os.below q (by simp) q.size⟩
theorem own_baseS {w : World} {B B' e sz n : Nat} {v : Value} {xs : List Value} (h : w.ownsRow B e sz v n xs) (hB : B' ≤ B) : w.ownsRow B' e sz v n xs := by
  refine ⟨h.1, ?_⟩
  rcases h.2 with hn | ⟨g, cap, cur, rfl, hg, rest⟩
  · exact .inl hn
  · exact .inr ⟨g, cap, cur, rfl, Nat.le_trans hB hg, rest⟩
theorem net_two {w W wA wB : World} {Z : Nt} {a0 a1 y0 y1 : Option Addr} {c0 c1 k0 k1 : Nat} (bW : Below w.heap.size w W) (h0 : Bk W w.heap.size #[.slice a0 Z.l0 c0, .slice a1 Z.l1 c1, .int .u32 (Z.ms : Nat)] 25) (h1 : Bk W (w.heap.size + 1) #[.slice none 0 0, .slice none 0 0, .int .u32 0] 25) (bA : Below W.heap.size W wA) (o0 : wA.ownsRow W.heap.size 63 5 (.slice y0 Z.l0 k0) Z.l0 (flP Z.l0 Z.P0)) (q : Below wA.heap.size wA wB) (o1 : wB.ownsRow wA.heap.size 63 5 (.slice y1 Z.l1 k1) Z.l1 (flP Z.l1 Z.P1)) : ∃ cs, Hid (NtW w.heap.size ((wB.setCell ⟨w.heap.size, 0, none⟩ (.slice y0 Z.l0 k0)).setCell ⟨w.heap.size, 1, none⟩ (.slice y1 Z.l1 k1)) w.heap.size 25 cs Z ∧ Bk ((wB.setCell ⟨w.heap.size, 0, none⟩ (.slice y0 Z.l0 k0)).setCell ⟨w.heap.size, 1, none⟩ (.slice y1 Z.l1 k1)) (w.heap.size + 1) #[.slice none 0 0, .slice none 0 0, .int .u32 0] 25 ∧ Below w.heap.size w ((wB.setCell ⟨w.heap.size, 0, none⟩ (.slice y0 Z.l0 k0)).setCell ⟨w.heap.size, 1, none⟩ (.slice y1 Z.l1 k1))) := by
  have bB : Below W.heap.size W wB := bA.trans (q.mono bA.size)
  have os : Off [w.heap.size] wB ((wB.setCell ⟨w.heap.size, 0, none⟩ (.slice y0 Z.l0 k0)).setCell ⟨w.heap.size, 1, none⟩ (.slice y1 Z.l1 k1)) := Off.trans (Off.setCell _ 0 _ _) (Off.setCell _ 1 _ _)
  have lW : w.heap.size + 1 < W.heap.size := h1.lt
  have kb := h0.off (Off.of_below (l := []) bB) (by simp)
  have kz := h1.off (Off.of_below (l := []) bB) (by simp)
  have p0 := ownB o0 q
  have hbw : Below w.heap.size w wB := bW.trans (bB.mono bW.size)
  have hT : 25 ≠ 63 := by decide
  have t0 := own_ty hT kb p0
  have t1 := own_ty hT kb o1
  refine ⟨#[.slice y0 Z.l0 k0, .slice y1 Z.l1 k1, .int .u32 (Z.ms : Nat)], ⟨(kb.set 0 _).set 1 _, y0, k0, y1, k1, rfl, rfl, rfl, own_baseS (own_off p0 os (fun k hk hm => by simp at hm; rw [hm] at hk; exact t0 hk)) (by omega), own_baseS (own_off o1 os (fun k hk hm => by simp at hm; rw [hm] at hk; exact t1 hk)) (by have := bA.size; omega), fun k hk hk2 => ?_⟩, kz.off os (by simp), os.below hbw (by simp) hbw.size⟩
  have h3 := (o0.lt k hk).2
  have h4 := (o1.lt k hk2).1
  omega
set_option maxHeartbeats 2000000 in
theorem phead (Z : Nt) (a0 a1 : Option Addr) (c0 c1 : Nat) (hz0 : Z.l0 ≤ 1000000) (hz1 : Z.l1 ≤ 1000000) (aw : Option Addr) (N C : Nat) (hNC : N ≤ C) (hC : C ≤ 9223372036854775807) (L : Nat → List UInt8) (hL : ∀ i, i < N → (L i).length ≤ 281474976710656) (w : World) (Lv : Lw w) (h0 : PRow w a0 Z.l0 Z.P0) (h1 : PRow w a1 Z.l1 Z.P1) (h : WsRow w aw N L) : Calls Tryd.prog 16 #[.agg #[.slice a0 Z.l0 c0, .slice a1 Z.l1 c1, .int .u32 (Z.ms : Nat)], .slice aw N C] w (HdP (Z.hd N L) (hdIs N L) (hdEr N L) w) := by
  obtain ⟨W, hW⟩ : ∃ y, (w.alloc (.cells #[.slice a0 Z.l0 c0, .slice a1 Z.l1 c1, .int .u32 (Z.ms : Nat)] 25)).alloc (.cells #[.slice none 0 0, .slice none 0 0, .int .u32 0] 25) = y := ⟨_, rfl⟩
  have bW : Below w.heap.size w W := by rw [← hW]; exact belA (belA (Below.refl _ _) _) _
  have k0 : Bk W w.heap.size #[.slice a0 Z.l0 c0, .slice a1 Z.l1 c1, .int .u32 (Z.ms : Nat)] 25 := by rw [← hW]; exact (Bk.new w _ _).off (l := []) (Off.alloc _ _ _) (by simp)
  have k1 : Bk W (w.heap.size + 1) #[.slice none 0 0, .slice none 0 0, .int .u32 0] 25 := by
    rw [← hW]
    have := Bk.new (w.alloc (.cells #[.slice a0 Z.l0 c0, .slice a1 Z.l1 c1, .int .u32 (Z.ms : Nat)] 25)) #[.slice none 0 0, .slice none 0 0, .int .u32 0] 25
    rw [World.size_alloc] at this
    exact this
  have hC0 : ∀ wx, Below W.heap.size W wx → Calls Tryd.prog 40 #[.slice a0 Z.l0 c0] wx fun r w' => ∃ v, r = .returned v ∧ ∃ a' c', v = .slice a' Z.l0 c' ∧ Hid (w'.ownsRow wx.heap.size 63 5 (.slice a' Z.l0 c') Z.l0 (flP Z.l0 Z.P0) ∧ Below wx.heap.size wx w') := fun wx bx => by
    refine (pclone a0 Z.l0 c0 Z.P0 wx ((h0.below bW).below bx) (by omega)).mono ?_
    rintro r w' ⟨a', c', rfl, q⟩
    exact ⟨_, rfl, a', c', rfl, q⟩
  have hC1 : ∀ wx, Below W.heap.size W wx → Calls Tryd.prog 40 #[.slice a1 Z.l1 c1] wx fun r w' => ∃ v, r = .returned v ∧ ∃ a' c', v = .slice a' Z.l1 c' ∧ Hid (w'.ownsRow wx.heap.size 63 5 (.slice a' Z.l1 c') Z.l1 (flP Z.l1 Z.P1) ∧ Below wx.heap.size wx w') := fun wx bx => by
    refine (pclone a1 Z.l1 c1 Z.P1 wx ((h1.below bW).below bx) (by omega)).mono ?_
    rintro r w' ⟨a', c', rfl, q⟩
    exact ⟨_, rfl, a', c', rfl, q⟩
  have hS : ∀ wx, Below W.heap.size W wx → wx.cell? ⟨w.heap.size, 0, none⟩ = some (.slice a0 Z.l0 c0) ∧ wx.cell? ⟨w.heap.size, 1, none⟩ = some (.slice a1 Z.l1 c1) ∧ ∀ k, wx.frozen? ⟨w.heap.size, k, none⟩ = false := fun wx bx => by
    have := k0.off (Off.of_below (l := []) bx) (by simp)
    exact ⟨this.cell 0, this.cell 1, this.fz⟩
  obtain ⟨s0, s1, s2⟩ := hS W (Below.refl _ _)
  have HK : Hid (_) := And.intro bW (And.intro k0 (And.intro k1 hS))
  have HA : Hid (_) := And.intro Lv (And.intro h (And.intro hL (And.intro hNC hC)))
  clear bW k0 k1 h0 h1 Lv h hL hNC hC
  go_enter Tryd.func16, Tryd.ntmps16
  go_upto_region 1 with fail
  try rw [hW]
  clear hW
  go_cut [8, 9, 10, 11, 12, 13, 14, 15] (fun _ _ _ _ _ _ _ _ wx => ∃ cs, Hid (NtW w.heap.size wx w.heap.size 25 cs Z ∧ Bk wx (w.heap.size + 1) #[.slice none 0 0, .slice none 0 0, .int .u32 0] 25 ∧ Below w.heap.size w wx))
  case first =>
    go_region_law (first
      | (refine step_callS 40 #[.tmp 9] #[22] rfl (by kernel_rfl) #[.slice a0 Z.l0 c0] (by kernel_rfl) (hC0 _ (by repeat (first | with_reducible assumption | with_reducible exact Below.refl _ _ | with_reducible refine Below.drew ?_ | with_reducible refine belA ?_ _))) ?_; rintro v wA ⟨y0, k0, rfl, HA0⟩; have bA : Below W.heap.size W wA := belTS HA0.out.2 (by repeat (first | with_reducible assumption | with_reducible exact Below.refl _ _ | with_reducible refine Below.drew ?_ | with_reducible refine belA ?_ _)); obtain ⟨t0, t1, t2⟩ := hS wA bA)
      | (refine step_callS 40 #[.tmp 12] #[22] rfl (by kernel_rfl) #[.slice a1 Z.l1 c1] (by kernel_rfl) (hC1 _ (by repeat (first | with_reducible assumption | with_reducible exact Below.refl _ _ | with_reducible refine Below.drew ?_ | with_reducible refine belA ?_ _))) ?_; rintro v wB ⟨y1, k1, rfl, HB0⟩; have bB : Below W.heap.size W wB := belTS HB0.out.2 (by repeat (first | with_reducible assumption | with_reducible exact Below.refl _ _ | with_reducible refine Below.drew ?_ | with_reducible refine belA ?_ _)); obtain ⟨u0, u1, u2⟩ := hS wB bB; have qAB : Below wA.heap.size wA wB := belTS HB0.out.2 (by repeat (first | with_reducible assumption | with_reducible exact Below.refl _ _ | with_reducible refine Below.drew ?_ | with_reducible refine belA ?_ _)); have HF : Hid (_) := net_two HK.out.1 HK.out.2.1 HK.out.2.2.1 bA (own_baseS HA0.out.1 (Nat.le_refl _)) qAB (own_baseS HB0.out.1 (Nat.le_refl _)))
      | fail)
    all_goals
      (try go_wp2_with fail)
      go_meet
      exact HF.out
  case rest =>
    obtain ⟨cs, HC⟩ := hcut
    clear hC0 hC1 hS s0 s1 s2 HK
    by_cases hh : hdIs N L = true
    · obtain ⟨n, hn⟩ : ∃ n, N = n + 1 := by
        unfold hdIs at hh
        simp only [Bool.and_eq_true, decide_eq_true_eq] at hh
        exact ⟨N - 1, by omega⟩
      obtain ⟨c, hc⟩ : ∃ c, C = c + 1 := ⟨C - 1, by have := HA.out.2.2.2.1; omega⟩
      have hW0 : hdW (L 0) = true := by
        unfold hdIs at hh
        simp only [Bool.and_eq_true, decide_eq_true_eq] at hh
        exact hh.2
      obtain ⟨g, o, rfl, cw0⟩ := HA.out.2.1 0 (by omega)
      rw [Nat.add_zero] at cw0
      have cws : ∀ i, i < N → w.cell? ⟨g, o + i, none⟩ = some (.string (tx (L i))) := fun i hi => by
        obtain ⟨g', o', e, q⟩ := HA.out.2.1 i hi
        cases e
        exact q
      have e1 : hdEr N L = hdE n L := by unfold hdEr; rw [if_pos hh, hn, Nat.add_sub_cancel]
      have e2 : Z.hd N L = Z.put n L := by unfold Nt.hd; rw [if_pos hh, hn, Nat.add_sub_cancel]
      have bx := HC.out.2.2
      have hi : Calls Tryd.prog 41 #[.slice (some ⟨g, o, none⟩) N C] wc fun r w' => r = .returned (.bool true) ∧ w' = wc := by
        have := pisHead g o n C (L 0) wc (cellB cw0 bx)
        rw [hW0, ← hn] at this
        exact this
      have he := penter w.heap.size w.heap.size 25 (by decide) cs Z hz0 hz1 g o N n C c hn hc (by have := HA.out.2.2.2.1; omega) HA.out.2.2.2.2 L HA.out.2.2.1 hW0 wc (HA.out.1.below bx) HC.out.1 (Nat.le_refl _) (fun i hi => cellB (cws i hi) bx)
      obtain ⟨ZZ, hZZ⟩ : ∃ y, Z.put n L = y := ⟨_, rfl⟩
      obtain ⟨EE, hEE⟩ : ∃ y, hdE n L = y := ⟨_, rfl⟩
      rw [hZZ, hEE] at he
      rw [hEE] at e1
      rw [hZZ] at e2
      have HX : Hid (_) := And.intro e2 (And.intro hh e1)
      clear e1 e2 hZZ hEE cws cw0 hW0 hh hn hc bx hz0 hz1
      have H2 : Hid (_) := And.intro HC.out.2.1 HC.out.2.2
      clear HC
      go_wp2_with fail
      refine hi.mono ?_
      rintro r w' ⟨rfl, hw⟩
      rw [hw]
      clear hw hi
      go_wp2_with fail
      refine Calls.mono he ?_
      rintro r w6 ⟨rfl, cs', NW, _, B6, K6⟩
      clear he
      obtain ⟨x0, d0, x1, d1, f0, f1, f2, rest⟩ := NW.v
      have m0 : w6.cell? ⟨w.heap.size, 0, none⟩ = some (.slice x0 ZZ.l0 d0) := (NW.bk.cell 0).trans f0
      have m1 : w6.cell? ⟨w.heap.size, 1, none⟩ = some (.slice x1 ZZ.l1 d1) := (NW.bk.cell 1).trans f1
      have m2 : w6.cell? ⟨w.heap.size, 2, none⟩ = some (.int .u32 (ZZ.ms : Nat)) := (NW.bk.cell 2).trans f2
      have Bw : Below w.heap.size w w6 := H2.out.2.trans B6
      have kz : Bk w6 (w.heap.size + 1) #[.slice none 0 0, .slice none 0 0, .int .u32 0] 25 := K6 _ _ _ (by omega) (by decide) H2.out.1
      have z0 : w6.cell? ⟨w.heap.size + 1, 0, none⟩ = some (.slice none 0 0) := kz.cell 0
      have z1 : w6.cell? ⟨w.heap.size + 1, 1, none⟩ = some (.slice none 0 0) := kz.cell 1
      have z2 : w6.cell? ⟨w.heap.size + 1, 2, none⟩ = some (.int .u32 0) := kz.cell 2
      have fz := kz.fz
      have HE : Hid (_) := net_end (B := 0) (is := true) (e := EE) NW kz Bw x0 x1 d0 d1 f0 f1
      clear NW f0 f1 f2 rest H2 B6 Bw kz K6
      go_wp2_with fail
      refine bodyPost_ret (v := .tuple #[.agg #[.slice x0 ZZ.l0 d0, .slice x1 ZZ.l1 d1, .int .u32 (ZZ.ms : Nat)], .bool true, .int .i64 EE]) (by simp [results, Tryd.results16, go_sem, z0, z1, z2]) rfl ?_
      rw [HX.out.1, HX.out.2.1, HX.out.2.2]
      exact HE.out
    · have hh' : hdIs N L = false := by simpa using hh
      have e1 : hdEr N L = 0 := by unfold hdEr; rw [if_neg hh]
      have e2 : Z.hd N L = Z := by unfold Nt.hd; rw [if_neg hh]
      have bx := HC.out.2.2
      have hi : Calls Tryd.prog 41 #[.slice aw N C] wc fun r w' => r = .returned (.bool false) ∧ w' = wc := by
        by_cases h0 : N = 0
        · subst h0
          exact pisHead0 aw C wc
        · obtain ⟨n, hn⟩ : ∃ n, N = n + 1 := ⟨N - 1, by omega⟩
          obtain ⟨g, o, rfl, cw0⟩ := HA.out.2.1 0 (by omega)
          rw [Nat.add_zero] at cw0
          have := pisHead g o n C (L 0) wc (cellB cw0 bx)
          rw [← hn] at this
          have hf : hdW (L 0) = false := by
            unfold hdIs at hh'
            simp only [Bool.and_eq_false_iff, decide_eq_false_iff_not] at hh'
            rcases hh' with q | q
            · omega
            · exact q
          rw [hf] at this
          exact this
      have HX : Hid (_) := And.intro e2 (And.intro hh' e1)
      clear e1 e2 hh hh' bx hz0 hz1
      have H2 : Hid (_) := And.intro HC.out.2.1 HC.out.2.2
      have NW := HC.out.1
      obtain ⟨x0, d0, x1, d1, f0, f1, f2, rest⟩ := NW.v
      have m0 : wc.cell? ⟨w.heap.size, 0, none⟩ = some (.slice x0 Z.l0 d0) := (NW.bk.cell 0).trans f0
      have m1 : wc.cell? ⟨w.heap.size, 1, none⟩ = some (.slice x1 Z.l1 d1) := (NW.bk.cell 1).trans f1
      have m2 : wc.cell? ⟨w.heap.size, 2, none⟩ = some (.int .u32 (Z.ms : Nat)) := (NW.bk.cell 2).trans f2
      have z0 : wc.cell? ⟨w.heap.size + 1, 0, none⟩ = some (.slice none 0 0) := H2.out.1.cell 0
      have z1 : wc.cell? ⟨w.heap.size + 1, 1, none⟩ = some (.slice none 0 0) := H2.out.1.cell 1
      have z2 : wc.cell? ⟨w.heap.size + 1, 2, none⟩ = some (.int .u32 0) := H2.out.1.cell 2
      have fz := H2.out.1.fz
      have HE : Hid (_) := net_end (B := 0) (is := false) (e := 0) NW H2.out.1 H2.out.2 x0 x1 d0 d1 f0 f1
      clear NW f0 f1 f2 rest H2 HC
      go_wp2_with fail
      refine hi.mono ?_
      rintro r w' ⟨rfl, hw⟩
      rw [hw]
      clear hw hi
      go_wp2_with fail
      refine bodyPost_ret (v := .tuple #[.agg #[.slice x0 Z.l0 d0, .slice x1 Z.l1 d1, .int .u32 (Z.ms : Nat)], .bool false, .int .i64 0]) (by simp [results, Tryd.results16, go_sem, z0, z1, z2]) rfl ?_
      rw [HX.out.1, HX.out.2.1, HX.out.2.2]
      exact HE.out
end Go.Proofs.YtiikebaehoobnaaDoor

