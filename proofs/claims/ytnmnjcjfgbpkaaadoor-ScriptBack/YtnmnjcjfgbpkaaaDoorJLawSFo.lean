/- Layer 20: the walk of ScriptForms. (genlsfo.py) -/
import Derived.Test.YtnmnjcjfgbpkaaaDoorJLawSPa
namespace Go.Proofs.YtnmnjcjfgbpkaaaDoor
set_option maxRecDepth 100000
open Go.RowKit Go.Maps
set_option maxRecDepth 100000
set_option linter.unusedVariables false
theorem PRow.to {w : World} {a : Option Addr} {n : Nat} {P Q : Nat → Pg} (h : PRow w a n P) (e : ∀ i, i < n → P i = Q i) : PRow w a n Q := fun i hi => by
  rw [← e i hi]
  exact h i hi
/-- A move that is fine, and has but what its kind uses. -/
theorem Mv.ok_of {m : Mv} (h : m.fine) (hb : m.same m.bare) : m.Ok ∧ m.l ≤ 140737488355328 := by
  obtain ⟨h1, h2, h3, h4, h5, h6⟩ := Mv.err0 h.1
  obtain ⟨_, _, b3, b4, b5, b6, b7, b8, b9, _⟩ := hb
  have hc := fitI_iff.1 h1
  have hs : 0 ≤ m.s ∧ m.s ≤ 2 := by
    cases e : sided m.k with
    | true =>
      have := h3 e
      omega
    | false =>
      have : m.bare.s = 0 := by simp [Mv.bare, e]
      omega
  have hf : 0 ≤ m.f ∧ m.f < 4294967296 := by
    by_cases e : m.k = 3
    · have : m.ns = [m.f] := by simp [Mv.ns, e]
      rw [this] at h2
      simp only [List.all_cons, List.all_nil, Bool.and_true] at h2
      exact fitI_iff.1 h2
    · by_cases e4 : m.k = 4
      · have : m.ns = [m.f, m.a, ((m.w : Nat) : Int)] := by simp [Mv.ns, e4]
        rw [this] at h2
        simp only [List.all_cons, List.all_nil, Bool.and_true, Bool.and_eq_true] at h2
        exact fitI_iff.1 h2.1
      · have : m.bare.f = 0 := by simp [Mv.bare, e, e4]
        omega
  have ha : 0 ≤ m.a ∧ m.a < 4294967296 := by
    by_cases e4 : m.k = 4
    · have : m.ns = [m.f, m.a, ((m.w : Nat) : Int)] := by simp [Mv.ns, e4]
      rw [this] at h2
      simp only [List.all_cons, List.all_nil, Bool.and_true, Bool.and_eq_true] at h2
      exact fitI_iff.1 h2.2.1
    · have : m.bare.a = 0 := by simp [Mv.bare, e4]
      omega
  have hn : 0 ≤ m.n ∧ m.n < 4294967296 := by
    by_cases e : m.k = 5 ∨ m.k = 7 ∨ m.k = 8
    · have : m.ns = [m.n] := by
        unfold Mv.ns
        rw [if_neg (by omega), if_neg (by omega), if_pos e]
      rw [this] at h2
      simp only [List.all_cons, List.all_nil, Bool.and_true] at h2
      exact fitI_iff.1 h2
    · have : m.bare.n = 0 := by simp [Mv.bare, e]
      omega
  have hl : m.l ≤ 8 := by
    by_cases e : m.k = 1
    · exact h4 e
    · have : m.bare.l = 0 := by simp [Mv.bare, e]
      omega
  exact ⟨⟨by omega, by omega, by omega, by omega, by omega, h.2.1, by omega⟩, by omega⟩
theorem lawP (p : Ps) (w : World) : Calls Tryd.prog 17 #[.agg #[.int .u32 (p.c : Nat), .int .i64 p.o, .int .i64 p.i, .int .i64 p.t, .int .u32 (p.n : Nat)]] w fun e w' => e = .returned (.bool p.law) ∧ Below w.heap.size w w' := rlaw_any p.c p.o p.i p.t p.n w _ rfl
theorem PaP.nil0 {t : Nat} {e : Int} {w : World} {f : FuncId} {args : Array Value} (h : Calls Tryd.prog f args w (PaP Sn.zero t e w)) : Calls Tryd.prog f args w fun r w' => ∃ a0 c0 a1 c1 al cl, r = .returned (.tuple #[.agg #[.slice a0 0 c0, .slice a1 0 c1, .int .u32 0], .slice al 0 cl, .int .i64 ((t : Nat) : Int), .int .i64 e]) ∧ Hid (Below w.heap.size w w') := by
  refine h.mono ?_
  rintro r w' ⟨a0, c0, a1, c1, al, cl, D, rfl, H⟩
  exact ⟨a0, c0, a1, c1, al, cl, rfl, H.out.2.2.2⟩
/-- The second reading: the same net and moves. -/
theorem PaP.back {T : List UInt8} {S : Sn} {w : World} {f : FuncId} {args : Array Value} (hf : S.Fine) (hb : psBad T = (0, 0)) (g : Got S.Z.ms S.Z.P0 S.Z.l0 S.Z.P1 S.Z.l1 (mvL S.M) S.M.length (psSn T)) (h : Calls Tryd.prog f args w (PaP (psSn T) (psBad T).1 (psBad T).2 w)) : Calls Tryd.prog f args w fun r w' => ∃ a0 c0 a1 c1 al cl D, r = .returned (.tuple #[.agg #[.slice a0 S.Z.l0 c0, .slice a1 S.Z.l1 c1, .int .u32 (S.Z.ms : Nat)], .slice al S.M.length cl, .int .i64 0, .int .i64 0]) ∧ Hid (PRow w' a0 S.Z.l0 S.Z.P0 ∧ PRow w' a1 S.Z.l1 S.Z.P1 ∧ MvRow w' al S.M.length (mvL S.M) D ∧ Below w.heap.size w w') := by
  refine h.mono ?_
  rintro r w' ⟨a0, c0, a1, c1, al, cl, D, rfl, H⟩
  rw [hb]
  obtain ⟨h0, h1, h2, h3⟩ := H.out
  rw [g.l0] at h0 ⊢
  rw [g.l1] at h1 ⊢
  rw [g.cnt] at h2 ⊢
  rw [g.ms]
  exact ⟨a0, c0, a1, c1, al, cl, D, rfl, h0.to g.p0, h1.to g.p1, h2.to (fun i hi => Mv.same_trans (g.mvs i hi) (Mv.same_symm (hf.mv i hi).2)), h3⟩
set_option maxHeartbeats 8000000 in
theorem scriptForms_any (l : List UInt8) (mx : Int) (w : World) (hmx : w.cell? ⟨1, 0, none⟩ = some (.int .i64 mx)) (Lv : Lw w) : Calls Tryd.prog 5 #[.string (tx l)] w fun r w' => r = .returned (.bool true) ∧ Below w.heap.size w w' := by
  have ha := awake20 w Lv
  have hXs : (tx l).size = l.length := tx_size l
  have HA : Hid (Lw w ∧ w.cell? ⟨1, 0, none⟩ = some (.int .i64 mx)) := ⟨Lv, hmx⟩
  clear Lv hmx
  by_cases hg : l.length ≤ 16384
  rotate_left
  · have q1 : (16384 : Int) < (((tx l).size : Nat) : Int) := by omega
    obtain ⟨X, hX⟩ : ∃ y, tx l = y := ⟨_, rfl⟩
    rw [hX] at q1 ⊢
    clear hg hX hXs
    go_enter Tryd.func5, Tryd.ntmps5
    go_wp2_with fail
    refine ha.mono ?_
    rintro r w1 ⟨rfl, b1⟩
    have HB : Hid (Below w.heap.size w w1) := b1
    clear ha b1
    go_wp2_with fail
    go_ret
    exact ⟨rfl, HB.out⟩
  have q1 : ¬ (16384 : Int) < (((tx l).size : Nat) : Int) := by omega
  have hp : ∀ (k : List UInt8) wx, k.length ≤ 262144 → Below w.heap.size w wx → Calls Tryd.prog 8 #[.string (tx k)] wx (PaP (psSn k) (psBad k).1 (psBad k).2 wx) := fun k wx hk p => pparse k hk wx (HA.out.1.below p) mx (World.block_lt_of_cell? wx _ (cellB HA.out.2 p)) (cellB HA.out.2 p)
  by_cases he : (psBad l).2 = 0
  rotate_left
  · have hS : psSn l = Sn.zero := by
      unfold psSn
      rw [if_neg he]
    have hp1 : ∀ wx, Below w.heap.size w wx → _ := fun wx p => PaP.nil0 (by have := hp l wx (by omega) p; rw [hS] at this; exact this)
    obtain ⟨t, ht⟩ : ∃ y, (psBad l).1 = y := ⟨_, rfl⟩
    obtain ⟨e, hE⟩ : ∃ y, (psBad l).2 = y := ⟨_, rfl⟩
    rw [ht, hE] at hp1
    rw [hE] at he
    have qe : (e != 0) = true := by simpa using he
    obtain ⟨X, hX⟩ : ∃ y, tx l = y := ⟨_, rfl⟩
    rw [hX] at hp1 q1 ⊢
    have HC : Hid (_) := hp1
    clear hp hp1 hX hXs hS ht hE hg he
    go_enter Tryd.func5, Tryd.ntmps5
    go_wp2_with fail
    refine ha.mono ?_
    rintro r w1 ⟨rfl, b1⟩
    have HB1 : Hid (Below w.heap.size w w1) := b1
    have hP := HC.out w1 b1
    clear ha b1
    go_wp2_with fail
    refine hP.mono ?_
    rintro r w2 ⟨a0, c0, a1, c1, al, cl, rfl, H2⟩
    clear hP
    have HB2 : Hid (Below w.heap.size w w2) := HB1.out.trans (H2.out.mono HB1.out.size)
    clear H2 HB1
    have k3 := Bk.new w2 #[.slice a0 0 c0, .slice a1 0 c1, .int .u32 0] 26
    have b3 := belA (Below.refl _ w2) (.cells #[.slice a0 0 c0, .slice a1 0 c1, .int .u32 0] 26)
    obtain ⟨w3, hw3⟩ : ∃ y, w2.alloc (.cells #[.slice a0 0 c0, .slice a1 0 c1, .int .u32 0] 26) = y := ⟨_, rfl⟩
    rw [hw3] at k3 b3
    obtain ⟨ba, hba⟩ : ∃ y, w2.heap.size = y := ⟨_, rfl⟩
    rw [hba] at k3
    have HB3 : Hid (Below w.heap.size w w3 ∧ Bk w3 ba #[.slice a0 0 c0, .slice a1 0 c1, .int .u32 0] 26) := ⟨HB2.out.trans (b3.mono HB2.out.size), k3⟩
    have HE3 : Hid (w2.alloc (.cells #[.slice a0 0 c0, .slice a1 0 c1, .int .u32 0] 26) = w3 ∧ w2.heap.size = ba) := ⟨hw3, hba⟩
    clear hw3 hba
    go_upto_region 6 with fail
    rw [HE3.out.1, HE3.out.2]
    clear HE3 k3 b3 HB2
    have p0 : w3.cell? ⟨ba, 0, none⟩ = some (.slice a0 0 c0) := HB3.out.2.cell 0
    have p1 : w3.cell? ⟨ba, 1, none⟩ = some (.slice a1 0 c1) := HB3.out.2.cell 1
    have p2 : w3.cell? ⟨ba, 2, none⟩ = some (.int .u32 0) := HB3.out.2.cell 2
    have hQ : Calls Tryd.prog 10 #[.agg #[.slice a0 0 c0, .slice a1 0 c1, .int .u32 0], .agg #[.slice none 0 0, .slice none 0 0, .int .u32 0]] w3 fun r w' => r = .returned (.bool true) ∧ Below w3.heap.size w3 w' := rsameN a0 a1 none none 0 0 c0 c1 0 0 0 (fun _ => ⟨0, 0, 0, 0, 0⟩) (fun _ => ⟨0, 0, 0, 0, 0⟩) w3 (fun i hi => by omega) (fun i hi => by omega) (fun i hi => by omega) (fun i hi => by omega) (by omega) (by omega)
    go_wp2_with fail
    refine hQ.mono ?_
    rintro r w4 ⟨rfl, b4⟩
    have HB4 : Hid (Below w.heap.size w w4) := HB3.out.1.trans (b4.mono HB3.out.1.size)
    clear hQ b4 HB3 p0 p1 p2
    go_wp2_with fail
    go_ret
    exact ⟨by simp, HB4.out⟩
  have hle := ps_le l
  have hf := ps_fine he (by omega)
  have hp1 := fun wx => hp l wx (by omega)
  rw [he] at hp1
  obtain ⟨⟨Z, M⟩, hS⟩ : ∃ y, psSn l = y := ⟨_, rfl⟩
  obtain ⟨t, ht⟩ : ∃ y, (psBad l).1 = y := ⟨_, rfl⟩
  rw [hS] at hle hf
  rw [hS, ht] at hp1
  have HLe : Hid (Z.l0 ≤ 1000000 ∧ Z.l1 ≤ 1000000 ∧ M.length ≤ 1000000) := ⟨by have := hle.1; simp only at this; omega, by have := hle.2.1; simp only at this; omega, by have := hle.2.2; simp only at this; omega⟩
  have hpr : ∀ (a0 a1 am : Option Addr) (c0 c1 cm : Nat) (D : Nat → Md) (wx : World), Below w.heap.size w wx → PRow wx a0 Z.l0 Z.P0 → PRow wx a1 Z.l1 Z.P1 → MvRow wx am M.length (mvL M) D → Calls Tryd.prog 12 #[.agg #[.slice a0 Z.l0 c0, .slice a1 Z.l1 c1, .int .u32 (Z.ms : Nat)], .slice am M.length cm] wx fun r w' => r = .returned (.tuple #[.string (prS Z.ms Z.P0 Z.l0 Z.P1 Z.l1 (mvL M) M.length), .int .i64 (prE Z.ms Z.P0 Z.l0 Z.P1 Z.l1 (mvL M) M.length)]) ∧ Below wx.heap.size wx w' := fun a0 a1 am c0 c1 cm D wx p r0 r1 rm => pprint a0 Z.l0 c0 Z.P0 a1 Z.l1 c1 Z.P1 Z.ms am M.length cm (mvL M) D wx r0.psrow r1.psrow rm hf.1.p0 hf.1.p1 (fun i hi => Mv.ok_of (hf.1.mv i hi).1 (hf.1.mv i hi).2) hf.1.ms HLe.out.1 HLe.out.2.1 HLe.out.2.2 (HA.out.1.below p).k
  have hbm : badM (mvL M) M.length = none := badM_none (fun i hi => (hf.1.mv i hi).1.1)
  have hfl : (fullT Z.ms Z.P0 Z.l0 Z.P1 Z.l1 (mvL M) M.length).length ≤ 262144 := by
    have h1 := hf.2
    have h2 := (netT_len hf.1.ms).1
    simp only [Sn.out] at h1 h2
    unfold fullT headT
    simp only [List.length_append]
    omega
  cases hlw : (allLaw Z.P0 Z.l0 && allLaw Z.P1 Z.l1) with
  | false =>
    obtain ⟨e1, e2⟩ := pr_law (ms := Z.ms) (M := mvL M) (n := M.length) hlw
    rw [e1, e2] at hpr
    have HC : Hid (_) := And.intro hp1 (And.intro hpr hlw)
    obtain ⟨X, hX⟩ : ∃ y, tx l = y := ⟨_, rfl⟩
    rw [hX] at HC q1 ⊢
    clear hp hp1 hpr hX hXs hS ht hg he hle hf hbm hfl e1 e2 hlw
    obtain ⟨n, hn⟩ : ∃ y, M.length = y := ⟨_, rfl⟩
    go_enter Tryd.func5, Tryd.ntmps5
    go_wp2_with fail
    refine ha.mono ?_
    rintro r w1 ⟨rfl, b1⟩
    have HB1 : Hid (Below w.heap.size w w1) := b1
    have hP := HC.out.1 w1 b1
    clear ha b1
    go_wp2_with fail
    refine Calls.mono hP ?_
    rintro r w2 ⟨a0, c0, a1, c1, al, cl, D, rfl, H2⟩
    clear hP
    have HB2 : Hid (Below w.heap.size w w2 ∧ PRow w2 a0 Z.l0 Z.P0 ∧ PRow w2 a1 Z.l1 Z.P1 ∧ MvRow w2 al M.length (mvL M) D) := ⟨HB1.out.trans (H2.out.2.2.2.mono HB1.out.size), H2.out.1, H2.out.2.1, H2.out.2.2.1⟩
    clear H2 HB1
    simp only
    have k3 := Bk.new w2 #[.slice a0 Z.l0 c0, .slice a1 Z.l1 c1, .int .u32 (Z.ms : Nat)] 26
    have b3 := belA (Below.refl _ w2) (.cells #[.slice a0 Z.l0 c0, .slice a1 Z.l1 c1, .int .u32 (Z.ms : Nat)] 26)
    obtain ⟨w3, hw3⟩ : ∃ y, w2.alloc (.cells #[.slice a0 Z.l0 c0, .slice a1 Z.l1 c1, .int .u32 (Z.ms : Nat)] 26) = y := ⟨_, rfl⟩
    rw [hw3] at k3 b3
    obtain ⟨ba, hba⟩ : ∃ y, w2.heap.size = y := ⟨_, rfl⟩
    rw [hba] at k3
    have HB3 : Hid (Below w.heap.size w w3 ∧ PRow w3 a0 Z.l0 Z.P0 ∧ PRow w3 a1 Z.l1 Z.P1 ∧ MvRow w3 al M.length (mvL M) D ∧ Bk w3 ba #[.slice a0 Z.l0 c0, .slice a1 Z.l1 c1, .int .u32 (Z.ms : Nat)] 26) := ⟨HB2.out.1.trans (b3.mono HB2.out.1.size), HB2.out.2.1.below b3, HB2.out.2.2.1.below b3, HB2.out.2.2.2.below b3, k3⟩
    have hR := HC.out.2.1 a0 a1 al c0 c1 cl D w3 HB3.out.1 HB3.out.2.1 HB3.out.2.2.1 HB3.out.2.2.2.1
    go_upto_region 6 with fail
    try rw [hw3, hba]
    rw [hn] at hR ⊢
    clear hw3 hba k3 b3 HB2
    have p0 : w3.cell? ⟨ba, 0, none⟩ = some (.slice a0 Z.l0 c0) := HB3.out.2.2.2.2.cell 0
    have p1 : w3.cell? ⟨ba, 1, none⟩ = some (.slice a1 Z.l1 c1) := HB3.out.2.2.2.2.cell 1
    have p2 : w3.cell? ⟨ba, 2, none⟩ = some (.int .u32 (Z.ms : Nat)) := HB3.out.2.2.2.2.cell 2
    go_wp2_with fail
    refine hR.mono ?_
    rintro r w4 ⟨rfl, b4⟩
    clear hR p0 p1 p2
    have HB4 : Hid (Below w.heap.size w w4 ∧ PRow w4 a0 Z.l0 Z.P0 ∧ PRow w4 a1 Z.l1 Z.P1 ∧ Bk w4 ba #[.slice a0 Z.l0 c0, .slice a1 Z.l1 c1, .int .u32 (Z.ms : Nat)] 26) := ⟨HB3.out.1.trans (b4.mono HB3.out.1.size), HB3.out.2.1.below b4, HB3.out.2.2.1.below b4, HB3.out.2.2.2.2.off (Off.of_below (l := []) b4) (by simp)⟩
    clear b4 HB3
    go_wp2_with fail
    have HK : Hid ((allLaw Z.P0 Z.l0 && allLaw Z.P1 Z.l1) = false ∧ Z.l0 ≤ 1000000 ∧ Z.l1 ≤ 1000000) := ⟨by have := HC.out.2.2; exact this, HLe.out.1, HLe.out.2.1⟩
    clear HC HLe HA q1 hn
    go_loopw [8, 9, 44, 45, 46, 47, 48, 49, 50, 51, 52, 53, 54, 55, 56, 57, 58, 59] (fun b c _ _ _ _ _ _ _ _ _ _ _ _ _ _ _ _ wr => ∃ i : Nat, i ≤ Z.l0 ∧ b = .bool (allLaw Z.P0 i) ∧ c = .int .i64 ((i : Nat) : Int) ∧ Hid (Below w4.heap.size w4 wr)) (fun _ c _ _ _ _ _ _ _ _ _ _ _ _ _ _ _ _ _ => Z.l0 - natV c)
    case atStart => exact ⟨0, by omega, by rfl, rfl, Below.refl _ _⟩
    case round =>
      obtain ⟨i, hi, rfl, rfl, HI⟩ := hrel
      have hL6 : Z.l0 ≤ 1000000 := HK.out.2.1
      have pc : wr.cell? ⟨ba, 0, none⟩ = some (.slice a0 Z.l0 c0) := cellB (HB4.out.2.2.2.cell 0) HI.out
      by_cases hlt : i < Z.l0
      · have hlt' : ((i : Nat) : Int) < ((Z.l0 : Nat) : Int) := by omega
        have hw1 : IntKind.i64.wrap (((i : Nat) : Int) + 1) = ((i + 1 : Nat) : Int) := by rw [IntKind.wrap_i64]; omega
        obtain ⟨q, hq⟩ : ∃ q, (allLaw Z.P0 i) = q := ⟨_, rfl⟩
        rw [hq]
        have Hq : Hid (_) := hq
        clear hq
        cases q with
        | false =>
          go_wp2_with fail
          go_roundw
          case rel => exact ⟨i + 1, by omega, by have := Hq.out; simp only [allLaw] at this ⊢; rw [this, Bool.false_and], by first | rfl | go_num, HI⟩
          case measure => simp [natV] <;> omega
        | true =>
          obtain ⟨x, xo, ex, x0, x1, x2, x3, x4⟩ := (HB4.out.2.1.below HI.out) i hlt
          subst ex
          obtain ⟨p, hP⟩ : ∃ z, Z.P0 i = z := ⟨_, rfl⟩
          rw [hP] at x0 x1 x2 x3 x4
          have HP : Hid (_) := hP
          clear hP
          have hLw := lawP p wr
          obtain ⟨v, hv⟩ : ∃ z, p.law = z := ⟨_, rfl⟩
          rw [hv] at hLw
          have Hv : Hid (_) := hv
          clear hv
          go_wp2_with fail
          refine hLw.mono ?_
          rintro r w6 ⟨rfl, b6⟩
          have HJ : Hid (Below w4.heap.size w4 w6) := HI.out.trans (b6.mono HI.out.size)
          clear hLw b6 x0 x1 x2 x3 x4 pc HI
          go_wp2_with fail
          go_roundw
          case rel => exact ⟨i + 1, by omega, by have h1 := Hq.out; have h2 := HP.out; have h3 := Hv.out; simp only [allLaw] at h1 ⊢; rw [h2, h3]; rw [h1, Bool.true_and], by first | rfl | go_num, HJ⟩
          case measure => simp [natV] <;> omega
      · obtain rfl : i = Z.l0 := by omega
        have hlt' : ¬ ((Z.l0 : Nat) : Int) < ((Z.l0 : Nat) : Int) := by omega
        go_wp2_with fail
        clear pc hlt hlt' hi
        go_loopw [8, 10, 60, 61, 62, 63, 64, 65, 66, 67, 68, 69, 70, 71, 72, 73, 74, 75] (fun b c _ _ _ _ _ _ _ _ _ _ _ _ _ _ _ _ wr => ∃ i : Nat, i ≤ Z.l1 ∧ b = .bool ((allLaw Z.P0 Z.l0 && allLaw Z.P1 i)) ∧ c = .int .i64 ((i : Nat) : Int) ∧ Hid (Below w4.heap.size w4 wr)) (fun _ c _ _ _ _ _ _ _ _ _ _ _ _ _ _ _ _ _ => Z.l1 - natV c)
        case atStart => exact ⟨0, by omega, by simp [allLaw], rfl, HI.out⟩
        case round =>
          obtain ⟨i, hi, rfl, rfl, HI⟩ := hrel
          have hL6 : Z.l1 ≤ 1000000 := HK.out.2.2
          have pc : wr.cell? ⟨ba, 1, none⟩ = some (.slice a1 Z.l1 c1) := cellB (HB4.out.2.2.2.cell 1) HI.out
          by_cases hlt : i < Z.l1
          · have hlt' : ((i : Nat) : Int) < ((Z.l1 : Nat) : Int) := by omega
            have hw1 : IntKind.i64.wrap (((i : Nat) : Int) + 1) = ((i + 1 : Nat) : Int) := by rw [IntKind.wrap_i64]; omega
            obtain ⟨q, hq⟩ : ∃ q, ((allLaw Z.P0 Z.l0 && allLaw Z.P1 i)) = q := ⟨_, rfl⟩
            rw [hq]
            have Hq : Hid (_) := hq
            clear hq
            cases q with
            | false =>
              go_wp2_with fail
              go_roundw
              case rel => exact ⟨i + 1, by omega, by have := Hq.out; simp only [allLaw] at this ⊢; rw [← Bool.and_assoc, this, Bool.false_and], by first | rfl | go_num, HI⟩
              case measure => simp [natV] <;> omega
            | true =>
              obtain ⟨x, xo, ex, x0, x1, x2, x3, x4⟩ := (HB4.out.2.2.1.below HI.out) i hlt
              subst ex
              obtain ⟨p, hP⟩ : ∃ z, Z.P1 i = z := ⟨_, rfl⟩
              rw [hP] at x0 x1 x2 x3 x4
              have HP : Hid (_) := hP
              clear hP
              have hLw := lawP p wr
              obtain ⟨v, hv⟩ : ∃ z, p.law = z := ⟨_, rfl⟩
              rw [hv] at hLw
              have Hv : Hid (_) := hv
              clear hv
              go_wp2_with fail
              refine hLw.mono ?_
              rintro r w6 ⟨rfl, b6⟩
              have HJ : Hid (Below w4.heap.size w4 w6) := HI.out.trans (b6.mono HI.out.size)
              clear hLw b6 x0 x1 x2 x3 x4 pc HI
              go_wp2_with fail
              go_roundw
              case rel => exact ⟨i + 1, by omega, by have h1 := Hq.out; have h2 := HP.out; have h3 := Hv.out; simp only [allLaw] at h1 ⊢; rw [h2, h3]; rw [← Bool.and_assoc, h1, Bool.true_and], by first | rfl | go_num, HJ⟩
              case measure => simp [natV] <;> omega
          · obtain rfl : i = Z.l1 := by omega
            have hlt' : ¬ ((Z.l1 : Nat) : Int) < ((Z.l1 : Nat) : Int) := by omega
            have HF : Hid (Below w.heap.size w wr) := HB4.out.1.trans (HI.out.mono HB4.out.1.size)
            rw [HK.out.1]
            clear HB4 HI HK
            go_wp2_with fail
            go_ret
            exact ⟨by simp, HF.out⟩
  | true =>
    obtain ⟨e1, e2⟩ := pr_good (ms := Z.ms) (M := mvL M) (n := M.length) hlw hbm hfl
    rw [e1, e2] at hpr
    rw [Bool.and_eq_true] at hlw
    have lw0 := fun i hi => And.intro (hf.1.p0 i hi) (allLaw_all hlw.1 i hi)
    have lw1 := fun i hi => And.intro (hf.1.p1 i hi) (allLaw_all hlw.2 i hi)
    have bk := back (M := mvL M) (n := M.length) hf.1.ms lw0 lw1 (fun i hi => (hf.1.mv i hi).1) hfl
    simp only at bk
    have hp2 : ∀ wx, Below w.heap.size w wx → _ := fun wx p => PaP.back (S := ⟨Z, M⟩) hf.1 bk.1 bk.2 (hp (fullT Z.ms Z.P0 Z.l0 Z.P1 Z.l1 (mvL M) M.length) wx hfl p)
    obtain ⟨Y, hY⟩ : ∃ y, tx (fullT Z.ms Z.P0 Z.l0 Z.P1 Z.l1 (mvL M) M.length) = y := ⟨_, rfl⟩
    rw [hY] at hpr hp2
    have HC : Hid (_) := And.intro hp1 (And.intro hpr hp2)
    obtain ⟨X, hX⟩ : ∃ y, tx l = y := ⟨_, rfl⟩
    rw [hX] at HC q1 ⊢
    clear hp hp1 hpr hp2 hX hXs hS ht hg he hle hf hbm hfl e1 e2 hlw lw0 lw1 bk hY
    obtain ⟨n, hn⟩ : ∃ y, M.length = y := ⟨_, rfl⟩
    go_enter Tryd.func5, Tryd.ntmps5
    go_wp2_with fail
    refine ha.mono ?_
    rintro r w1 ⟨rfl, b1⟩
    have HB1 : Hid (Below w.heap.size w w1) := b1
    have hP := HC.out.1 w1 b1
    clear ha b1
    go_wp2_with fail
    refine Calls.mono hP ?_
    rintro r w2 ⟨a0, c0, a1, c1, al, cl, D, rfl, H2⟩
    clear hP
    have HB2 : Hid (Below w.heap.size w w2 ∧ PRow w2 a0 Z.l0 Z.P0 ∧ PRow w2 a1 Z.l1 Z.P1 ∧ MvRow w2 al M.length (mvL M) D) := ⟨HB1.out.trans (H2.out.2.2.2.mono HB1.out.size), H2.out.1, H2.out.2.1, H2.out.2.2.1⟩
    clear H2 HB1
    simp only
    have k3 := Bk.new w2 #[.slice a0 Z.l0 c0, .slice a1 Z.l1 c1, .int .u32 (Z.ms : Nat)] 26
    have b3 := belA (Below.refl _ w2) (.cells #[.slice a0 Z.l0 c0, .slice a1 Z.l1 c1, .int .u32 (Z.ms : Nat)] 26)
    obtain ⟨w3, hw3⟩ : ∃ y, w2.alloc (.cells #[.slice a0 Z.l0 c0, .slice a1 Z.l1 c1, .int .u32 (Z.ms : Nat)] 26) = y := ⟨_, rfl⟩
    rw [hw3] at k3 b3
    obtain ⟨ba, hba⟩ : ∃ y, w2.heap.size = y := ⟨_, rfl⟩
    rw [hba] at k3
    have HB3 : Hid (Below w.heap.size w w3 ∧ PRow w3 a0 Z.l0 Z.P0 ∧ PRow w3 a1 Z.l1 Z.P1 ∧ MvRow w3 al M.length (mvL M) D ∧ Bk w3 ba #[.slice a0 Z.l0 c0, .slice a1 Z.l1 c1, .int .u32 (Z.ms : Nat)] 26) := ⟨HB2.out.1.trans (b3.mono HB2.out.1.size), HB2.out.2.1.below b3, HB2.out.2.2.1.below b3, HB2.out.2.2.2.below b3, k3⟩
    have hR := HC.out.2.1 a0 a1 al c0 c1 cl D w3 HB3.out.1 HB3.out.2.1 HB3.out.2.2.1 HB3.out.2.2.2.1
    go_upto_region 6 with fail
    try rw [hw3, hba]
    rw [hn] at hR ⊢
    clear hw3 hba k3 b3 HB2
    have p0 : w3.cell? ⟨ba, 0, none⟩ = some (.slice a0 Z.l0 c0) := HB3.out.2.2.2.2.cell 0
    have p1 : w3.cell? ⟨ba, 1, none⟩ = some (.slice a1 Z.l1 c1) := HB3.out.2.2.2.2.cell 1
    have p2 : w3.cell? ⟨ba, 2, none⟩ = some (.int .u32 (Z.ms : Nat)) := HB3.out.2.2.2.2.cell 2
    go_wp2_with fail
    refine hR.mono ?_
    rintro r w4 ⟨rfl, b4⟩
    clear hR p0 p1 p2
    have HB4 : Hid (Below w.heap.size w w4 ∧ PRow w4 a0 Z.l0 Z.P0 ∧ PRow w4 a1 Z.l1 Z.P1 ∧ MvRow w4 al M.length (mvL M) D ∧ Bk w4 ba #[.slice a0 Z.l0 c0, .slice a1 Z.l1 c1, .int .u32 (Z.ms : Nat)] 26) := ⟨HB3.out.1.trans (b4.mono HB3.out.1.size), HB3.out.2.1.below b4, HB3.out.2.2.1.below b4, HB3.out.2.2.2.1.below b4, HB3.out.2.2.2.2.off (Off.of_below (l := []) b4) (by simp)⟩
    clear b4 HB3
    have hP := HC.out.2.2 w4 HB4.out.1
    go_wp2_with fail
    refine hP.mono ?_
    rintro r w5 ⟨d0, e0, d1, e1, am, cm, E, rfl, H5⟩
    clear hP
    have b5 := H5.out.2.2.2
    have HB5 : Hid (Below w.heap.size w w5 ∧ PRow w5 a0 Z.l0 Z.P0 ∧ PRow w5 a1 Z.l1 Z.P1 ∧ MvRow w5 al M.length (mvL M) D ∧ Bk w5 ba #[.slice a0 Z.l0 c0, .slice a1 Z.l1 c1, .int .u32 (Z.ms : Nat)] 26 ∧ PRow w5 d0 Z.l0 Z.P0 ∧ PRow w5 d1 Z.l1 Z.P1 ∧ MvRow w5 am M.length (mvL M) E) := ⟨HB4.out.1.trans (b5.mono HB4.out.1.size), HB4.out.2.1.below b5, HB4.out.2.2.1.below b5, HB4.out.2.2.2.1.below b5, HB4.out.2.2.2.2.off (Off.of_below (l := []) b5) (by simp), H5.out.1, H5.out.2.1, H5.out.2.2.1⟩
    clear H5 b5 HB4
    simp only
    rw [hn] at HB5 ⊢
    have k6 := Bk.new w5 #[.slice d0 Z.l0 e0, .slice d1 Z.l1 e1, .int .u32 (Z.ms : Nat)] 26
    have b6 := belA (Below.refl _ w5) (.cells #[.slice d0 Z.l0 e0, .slice d1 Z.l1 e1, .int .u32 (Z.ms : Nat)] 26)
    obtain ⟨w6, hw6⟩ : ∃ y, w5.alloc (.cells #[.slice d0 Z.l0 e0, .slice d1 Z.l1 e1, .int .u32 (Z.ms : Nat)] 26) = y := ⟨_, rfl⟩
    rw [hw6] at k6 b6
    obtain ⟨bb, hbb⟩ : ∃ y, w5.heap.size = y := ⟨_, rfl⟩
    rw [hbb] at k6
    have HB6 : Hid (Below w.heap.size w w6 ∧ PRow w6 a0 Z.l0 Z.P0 ∧ PRow w6 a1 Z.l1 Z.P1 ∧ MvRow w6 al n (mvL M) D ∧ Bk w6 ba #[.slice a0 Z.l0 c0, .slice a1 Z.l1 c1, .int .u32 (Z.ms : Nat)] 26 ∧ PRow w6 d0 Z.l0 Z.P0 ∧ PRow w6 d1 Z.l1 Z.P1 ∧ MvRow w6 am n (mvL M) E ∧ Bk w6 bb #[.slice d0 Z.l0 e0, .slice d1 Z.l1 e1, .int .u32 (Z.ms : Nat)] 26) := ⟨HB5.out.1.trans (b6.mono HB5.out.1.size), HB5.out.2.1.below b6, HB5.out.2.2.1.below b6, HB5.out.2.2.2.1.below b6, HB5.out.2.2.2.2.1.off (Off.of_below (l := []) b6) (by simp), HB5.out.2.2.2.2.2.1.below b6, HB5.out.2.2.2.2.2.2.1.below b6, HB5.out.2.2.2.2.2.2.2.below b6, k6⟩
    go_upto_region 21 with fail
    try rw [hw6, hbb]
    clear hw6 hbb k6 b6 HB5
    have p0 : w6.cell? ⟨ba, 0, none⟩ = some (.slice a0 Z.l0 c0) := HB6.out.2.2.2.2.1.cell 0
    have p1 : w6.cell? ⟨ba, 1, none⟩ = some (.slice a1 Z.l1 c1) := HB6.out.2.2.2.2.1.cell 1
    have p2 : w6.cell? ⟨ba, 2, none⟩ = some (.int .u32 (Z.ms : Nat)) := HB6.out.2.2.2.2.1.cell 2
    have s0 : w6.cell? ⟨bb, 0, none⟩ = some (.slice d0 Z.l0 e0) := HB6.out.2.2.2.2.2.2.2.2.cell 0
    have s1 : w6.cell? ⟨bb, 1, none⟩ = some (.slice d1 Z.l1 e1) := HB6.out.2.2.2.2.2.2.2.2.cell 1
    have s2 : w6.cell? ⟨bb, 2, none⟩ = some (.int .u32 (Z.ms : Nat)) := HB6.out.2.2.2.2.2.2.2.2.cell 2
    have hQ := rsameN a0 a1 d0 d1 Z.l0 Z.l1 c0 c1 e0 e1 Z.ms Z.P0 Z.P1 w6 HB6.out.2.1.psrow HB6.out.2.2.1.psrow HB6.out.2.2.2.2.2.1.psrow HB6.out.2.2.2.2.2.2.1.psrow HLe.out.1 HLe.out.2.1
    have HN : Hid (n ≤ 1000000) := by show n ≤ 1000000; have := HLe.out.2.2; omega
    clear hn
    go_wp2_with fail
    refine hQ.mono ?_
    rintro r w7 ⟨rfl, b7⟩
    have hV := rsameMs al am n cl cm (mvL M) D E w7 (HB6.out.2.2.2.1.below b7) (HB6.out.2.2.2.2.2.2.2.1.below b7) HN.out
    have HB7 : Hid (Below w.heap.size w w7) := HB6.out.1.trans (b7.mono HB6.out.1.size)
    clear hQ b7 HB6 p0 p1 p2 s0 s1 s2
    go_wp2_with fail
    refine hV.mono ?_
    rintro r w8 ⟨rfl, b8⟩
    have HB8 : Hid (Below w.heap.size w w8) := HB7.out.trans (b8.mono HB7.out.size)
    clear hV b8 HB7
    go_wp2_with fail
    go_ret
    exact ⟨rfl, HB8.out⟩
end Go.Proofs.YtnmnjcjfgbpkaaaDoor
