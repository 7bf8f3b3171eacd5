/- DeviceGivesUp: a half-open session is given up at the fourth odd unit. -/
import Derived.Test.YtmleiemlfogffaaGreatPkAxGu
import Derived.Test.YtmleiemlfogffaaGreatPkAxSt7
import Derived.Test.YtmleiemlfogffaaGreatPkA24
namespace Go.Proofs.YtmleiemlfogffaaGreat
set_option maxRecDepth 100000
open Go.RowKit
def Gk (k : Nat) (s : Sd) : Prop := (k = 1 → s = dnew M0) ∧ (k = 2 → Gp s 2 0 0) ∧ (k = 3 → Gp s 3 0 0) ∧ (k = 4 → Gp s 4 0 0) ∧ (5 ≤ k → Gp s 4 0 1)
theorem Gk.some {k : Nat} {s : Sd} (h : Gk k s) (hk : 2 ≤ k) : ∃ st nm, Gp s st 0 nm ∧ (st = 2 ∨ st = 3 ∨ st = 4) := by
  by_cases h2 : k = 2
  · exact ⟨2, 0, h.2.1 h2, by omega⟩
  · by_cases h3 : k = 3
    · exact ⟨3, 0, h.2.2.1 h3, by omega⟩
    · by_cases h4 : k = 4
      · exact ⟨4, 0, h.2.2.2.1 h4, by omega⟩
      · exact ⟨4, 1, h.2.2.2.2 (by omega), by omega⟩
theorem Gk.next {k : Nat} {s : Sd} (h : Gk k s) (hk : 1 ≤ k ∧ k ≤ 4) {bs : Nat → Nat} {f : Fm} (fo : Fo P0 s (k : Int) 1 0 false 2 bs f) : Gk (k + 1) (drecv P0 99 16 s f.1 f.2).s := by
  have : k = 1 ∨ k = 2 ∨ k = 3 ∨ k = 4 := by omega
  rcases this with rfl | rfl | rfl | rfl
  · obtain rfl := h.1 rfl
    exact ⟨fun e => by omega, fun _ => g1 (fo.1 rfl), fun e => by omega, fun e => by omega, fun e => by omega⟩
  · exact ⟨fun e => by omega, fun e => by omega, fun _ => g2 (h.2.1 rfl) (fo.2.1 rfl rfl), fun e => by omega, fun e => by omega⟩
  · exact ⟨fun e => by omega, fun e => by omega, fun e => by omega, fun _ => g3 (h.2.2.1 rfl) (fo.2.2.1 rfl), fun e => by omega⟩
  · exact ⟨fun e => by omega, fun e => by omega, fun e => by omega, fun e => by omega, fun _ => g4 (h.2.2.2.1 rfl) (fo.2.2.2.1 rfl)⟩
theorem mod4 (x : Int) : ∃ U m : Nat, m < 4 ∧ IntKind.u64.wrap x = (U : Int) ∧ (U : Int).tmod 4 = (m : Int) ∧ (U : Int) % 4 = (m : Int) ∧ IntKind.i64.wrap (m : Int) = (m : Int) ∧ IntKind.u64.wrap (m : Int) = (m : Int) ∧ (1 : Int) + (m : Int) = ((1 + m : Nat) : Int) ∧ IntKind.i64.wrap ((1 : Int) + (m : Int)) = ((1 + m : Nat) : Int) := by
  have e : IntKind.u64.wrap x = x % 18446744073709551616 := by rw [IntKind.wrap_u64]
  refine ⟨(x % 18446744073709551616).toNat, (x % 18446744073709551616).toNat % 4, by omega, by rw [e]; omega, ?_, by omega, ?_, ?_, by omega, ?_⟩
  · rw [Int.tmod_eq_emod_of_nonneg (by omega)]; omega
  · rw [IntKind.wrap_i64]; omega
  · rw [IntKind.wrap_u64]; omega
  · rw [IntKind.wrap_i64]; omega
set_option maxRecDepth 100000 in
set_option maxHeartbeats 8000000 in
theorem deviceGivesUp_walk (a0 a1 : Int) (_w0 : (Lit.int .i64 a0).wf = true) (_w1 : (Lit.int .i64 a1).wf = true) (w : World) :
    Calls Tryz.prog 6 #[.int .i64 a0, .int .i64 a1] w fun e w' => e = .returned (.bool true) ∧ Below w.heap.size w w' := by
  obtain ⟨U1, fm, hfm, hF1, hF2, hF3, hF4, hF5, hF6, hF7⟩ := mod4 a1
  obtain ⟨f1, hf1⟩ : ∃ k, 1 + fm = k := ⟨_, rfl⟩
  rw [hf1] at hF6 hF7
  obtain ⟨U0, om, hom, hO1, hO2, hO3, hO4, hO5, _, _⟩ := mod4 a0
  have hbd2 := build56
  have hA := awake13 w
  clear _w0 _w1
  go_enter Tryz.func6, Tryz.ntmps6
  go_wp2_with fail
  refine hA.mono ?_
  rintro e w1 ⟨rfl, b1⟩
  have H3 : Hid (_) := b1
  have qM := new_ok 16 w1 (by omega)
  clear hA b1
  go_wp2_with fail
  refine qM.mono ?_
  rintro e w4 ⟨m, g, rfl, h4⟩
  obtain ⟨lm, lg, o4, M4⟩ := h4.out
  have b4 : Below w1.heap.size w1 w4 := o4.below (Below.refl _ _) (by simp) (Nat.le_refl _)
  have qR := rnew_ok 16 w4 (by omega)
  have H4 : Hid (_) := And.intro b4 (And.intro M4 (And.intro lm lg))
  clear qM h4 lm lg o4 M4 b4
  go_wp2_with fail
  refine qR.mono ?_
  rintro e w5 ⟨r, q, rfl, h5⟩
  obtain ⟨lr, lq, o5, R5⟩ := h5.out
  obtain ⟨b4, M4, lm, lg⟩ := H4.out
  have M5 := M4.off o5 (by simp) (by simp)
  have b5 : Below w1.heap.size w1 w5 := o5.below b4 (by simp) b4.size
  have m4 := M4.lt
  have g4 := M4.lg
  have s4 := b4.size
  have H5 : Hid (_) := And.intro b5 (And.intro M5 (And.intro R5 (And.intro (And.intro lm (And.intro lg (And.intro (by omega : w1.heap.size ≤ r) (by omega : w1.heap.size ≤ q)))) (by omega : m ≠ r ∧ m ≠ q ∧ g ≠ r ∧ g ≠ q))))
  clear qR h5 lr lq o5 R5 b4 M4 lm lg M5 b5 m4 g4 s4 H4
  go_wp2_with fail
  refine (small_any w5).mono ?_
  rintro e w6 ⟨rfl, b6'⟩
  obtain ⟨b5, M5, R5, h0, hne⟩ := H5.out
  have b6 := b5.trans (b6'.mono b5.size)
  have M6 := M5.off (Off.of_below (l := []) b6') (by simp) (by simp)
  have R6 := R5.off (Off.of_below (l := []) b6') (by simp) (by simp)
  have qN := newD_ok m g 16 99 P0 P0_ok M0 w6 M6 (by omega) (by decide) (open0 99 (by omega)).1
  rw [(open0 99 (by omega)).2] at qN
  have H6 : Hid (_) := And.intro b6 (And.intro R6 (And.intro h0 hne))
  clear b5 M5 R5 h0 hne b6 M6 R6 b6' H5
  go_wp2_with fail
  refine qN.mono ?_
  rintro e w7 ⟨d, rfl, h7⟩
  clear qN
  have H7 : Hid (_) := h7.out
  clear h7
  go_wp2_with fail
  refine (small_any w7).mono ?_
  rintro e w8 ⟨rfl, b8'⟩
  obtain ⟨b6, R6, h0, hne⟩ := H6.out
  obtain ⟨U, o7, D7, hU⟩ := H7.out
  have R7 := R6.off o7 (by simp; omega) (by simp; omega)
  have R8 := R7.off (Off.of_below (l := []) b8') (by simp) (by simp)
  have qN := rnew_any r q 16 99 P0 P0_ok M0 w8 R8 (by omega) (by decide)
  rw [(open0 99 (by omega)).1, (open0 99 (by omega)).2] at qN
  have rl := R6.lt
  have ql := R6.lg
  have H8 : Hid (_) := And.intro b6 (And.intro (o7.trans (Off.of_below b8')) (And.intro (D7.below b8') (And.intro hU (And.intro h0 (And.intro hne (And.intro rl (And.intro ql b8'.size)))))))
  clear b6 R6 h0 hne o7 D7 hU R7 R8 rl ql b8' H6 H7
  go_wp2_with fail
  refine qN.mono ?_
  rintro e w9 ⟨pr, rfl, h9⟩
  obtain ⟨o9, _, D9, _⟩ := h9.out
  obtain ⟨e', V, rfl, RR', hV⟩ := D9 trivial
  obtain ⟨b6, o7, D7, hU, h0, hne, rl, ql, s78⟩ := H8.out
  have T : Two w1 w9 ⟨d, m, g, e', r, q, 16, 99, P0⟩ (dnew M0) := two_made b6 o7 D7 hU o9 RR' hV h0 hne ⟨rl, ql⟩
  have HT : Hid (_) := T
  clear qN h9 o9 D9 RR' hV b6 o7 D7 hU h0 hne rl ql T H8 s78
  go_wp2_with fail
  go_loopw [13] (fun c wr => ∃ (k : Nat) (s : Sd), 1 ≤ k ∧ k ≤ fm + 2 ∧ c = .int .i64 ((k : Nat) : Int) ∧ Hid (Two w1 wr ⟨d, m, g, e', r, q, 16, 99, P0⟩ s ∧ Iv P0 s ∧ s.L.length ≤ 3 * k ∧ s.ms.t ≤ 6 * (k : Int) ∧ Gk k s)) (fun c _ => 6 - (intOf c).toNat)
  case atStart => exact ⟨1, dnew M0, by omega, by omega, rfl, HT.out, Iv.new_ _, by show 0 ≤ _; omega, by show (0 : Int) ≤ _; omega, fun _ => rfl, fun e => by omega, fun e => by omega, fun e => by omega, fun e => by omega⟩
  case round =>
    clear HT
    obtain ⟨k, s, hk1, hk2, rfl, hR⟩ := hrel
    by_cases hc : k ≤ 4 ∧ k ≤ 1 + fm
    · have hi1 : (k : Int) ≤ 4 := by omega
      have hi2 : (k : Int) ≤ (f1 : Int) := by omega
      have bA : Below wr.heap.size wr (wr.alloc (.cells #[.int .u8 5, .int .u8 6] 5)) := (Below.refl _ _).alloc (Nat.le_refl _) _
      have qS := step_recvN w1 (wr.alloc (.cells #[.int .u8 5, .int .u8 6] 5)) ⟨d, m, g, e', r, q, 16, 99, P0⟩ s (k : Int) 1 0 false (some ⟨wr.heap.size, 0, none⟩) 2 2 (fun i => if i = 0 then 5 else 6) 0 0 (hR.out.1.below bA) (row56 wr) (fun y hy _ => by cases hy; rw [World.size_alloc]; show wr.heap.size < _; omega) (by omega) (by omega) (by omega) hR.out.2.1 (by have := hR.out.2.2.1; omega) (by have := hR.out.2.2.2.1; omega)
      have HM : Hid (_) := hR.out.1.mo.1
      clear bA
      go_wp2_with fail
      refine qS.mono ?_
      rintro e wn ⟨rfl, hn⟩
      clear qS
      go_wp2_with fail
      go_roundw
      case rel =>
        obtain ⟨f, _, fo, T8⟩ := hn.out
        have G8 := gw_recv (P := P0) HM.out f.1 f.2
        exact ⟨k + 1, _, by omega, by omega, by go_num, T8, hR.out.2.1.recv P0_ok HM.out f.1 f.2, by have := G8.1; have := hR.out.2.2.1; omega, by have := G8.2; have := hR.out.2.2.2.1; omega, hR.out.2.2.2.2.next (by omega) fo⟩
      case measure => simp [intOf] <;> omega
    · have hc2 : (¬ (k : Int) ≤ 4) ∨ ((k : Int) ≤ 4 ∧ ¬ (k : Int) ≤ (f1 : Int)) := by omega
      obtain ⟨st, nm, hG, hst⟩ := hR.out.2.2.2.2.some (by omega)
      obtain ⟨U, V, T⟩ := hR.out.1
      have qS := seeS_any d m g 16 99 P0 U s wr T.dv
      have HR : Hid (_) := And.intro T (And.intro hR.out.2.1 (And.intro (by have := hR.out.2.2.1; omega : s.L.length ≤ 18) (And.intro (by have := hR.out.2.2.2.1; omega : s.ms.t ≤ 36) (And.intro hG hst))))
      clear T hG hst hR hc hbd2
      rcases hc2 with hk1 | ⟨hk1, hk2⟩
      all_goals
        go_wp2_with fail
        refine qS.mono ?_
        rintro e v1 ⟨wa, wcp, rfl, h1⟩
        have bA : Below v1.heap.size v1 (v1.alloc (.cells #[.int .i64 (s.st : Nat), .int .u32 (s.ss : Nat), .int .u32 (s.nm : Nat), .int .u32 (s.sn : Nat), .int .i64 (s.dc : Nat), .int .i64 s.v.lat, .bool (vreq s.v), .bool (von s.v), .slice wa P0.o wcp] 51)) := (Below.refl _ _).alloc (Nat.le_refl _) _
        have T2 := (HR.out.1.below h1.out.2.2).more bA (Nat.le_refl _) (by simp)
        have ex := heap_alloc_new v1 (.cells #[.int .i64 (s.st : Nat), .int .u32 (s.ss : Nat), .int .u32 (s.nm : Nat), .int .u32 (s.sn : Nat), .int .i64 (s.dc : Nat), .int .i64 s.v.lat, .bool (vreq s.v), .bool (von s.v), .slice wa P0.o wcp] 51)
        have H1 : Hid (_) := And.intro T2 ex
        clear qS h1 bA T2 ex
        go_wp2_with fail
        go_loopw [16] (fun c wr => ∃ (i : Nat) (s1 : Sd), i ≤ om ∧ c = .int .i64 ((i : Nat) : Int) ∧ Hid ((∃ U V, Bt w1 wr ⟨d, m, g, e', r, q, 16, 99, P0⟩ s1 s1 [v1.heap.size] U V) ∧ wr.heap[v1.heap.size]? = some (.cells #[.int .i64 (s.st : Nat), .int .u32 (s.ss : Nat), .int .u32 (s.nm : Nat), .int .u32 (s.sn : Nat), .int .i64 (s.dc : Nat), .int .i64 s.v.lat, .bool (vreq s.v), .bool (von s.v), .slice wa P0.o wcp] 51 (0, 0)) ∧ Iv P0 s1 ∧ s1.L.length ≤ 18 + 3 * i ∧ s1.ms.t ≤ 36 + 6 * (i : Int) ∧ Gp s1 st i nm)) (fun c _ => 4 - (intOf c).toNat)
        case atStart => exact ⟨0, s, by omega, rfl, ⟨U, V, H1.out.1⟩, H1.out.2, HR.out.2.1, by have := HR.out.2.2.1; omega, by have := HR.out.2.2.2.1; omega, HR.out.2.2.2.2.1⟩
        case round =>
          clear H1
          obtain ⟨i, s1, hi, rfl, hQ⟩ := hrel
          by_cases hlt : i < om
          · have hi1 : (i : Int) < (om : Int) := by omega
            have HM : Hid (Mo 99 16 s1) := by obtain ⟨U2, V2, T2⟩ := hQ.out.1; exact Mo.of T2.dv
            have qT := step_recvF [v1.heap.size] w1 wr ⟨d, m, g, e', r, q, 16, 99, P0⟩ s1 3 0 0 true none 0 0 (fun _ => 0) 0 0 hQ.out.1 (row_nilX _ _) (fun y hy => by cases hy) (by omega) (by omega) (by omega) hQ.out.2.2.1 (by have := hQ.out.2.2.2.1; omega) (by have := hQ.out.2.2.2.2.1; omega)
            go_wp2_with fail
            refine qT.mono ?_
            rintro e wn ⟨rfl, hn⟩
            clear qT
            go_wp2_with fail
            go_roundw
            case rel =>
              obtain ⟨f, _, fo, TT, kp⟩ := hn.out
              have G8 := gw_recv (P := P0) HM.out f.1 f.2
              exact ⟨i + 1, _, by omega, by go_num, TT, (kp _ (by simp)).trans hQ.out.2.1, hQ.out.2.2.1.recv P0_ok HM.out f.1 f.2, by have := G8.1; have := hQ.out.2.2.2.1; omega, by have := G8.2; have := hQ.out.2.2.2.2.1; omega, godd hQ.out.2.2.2.2.2 HR.out.2.2.2.2.2 (by omega) (fo.2.2.1 rfl)⟩
            case measure => simp [intOf] <;> omega
          · have hi1 : ¬ (i : Int) < (om : Int) := by omega
            obtain ⟨U2, V2, T2⟩ := hQ.out.1
            have hG1 := hQ.out.2.2.2.2.2
            have hG0 := HR.out.2.2.2.2.1
            have bd : Below wr.heap.size wr wr.drew := Below.drew (Below.refl _ _)
            have qA := seeS_any d m g 16 99 P0 U2 s1 wr.drew (T2.dv.below bd)
            rw [show s1.st = s.st from hG1.st.trans hG0.st.symm, show s1.ss = s.ss from hG1.ss.trans hG0.ss.symm] at qA
            have HSx : wr.drew.cell? ⟨v1.heap.size, 0, none⟩ = some (.int .i64 (s.st : Nat)) ∧ wr.drew.cell? ⟨v1.heap.size, 1, none⟩ = some (.int .u32 (s.ss : Nat)) := ⟨cell_of_row wr.drew _ 0 _ _ _ hQ.out.2.1, cell_of_row wr.drew _ 1 _ _ _ hQ.out.2.1⟩
            have hf0 : ∀ (n' sn' : Int) (dc' lat' : Int) (b1 b2 : Bool) (xa : Option Addr) (xc : Nat) (wx : World), (Instr.field 51 (.agg #[.int .i64 (s.st : Nat), .int .u32 (s.ss : Nat), .int .u32 n', .int .u32 sn', .int .i64 dc', .int .i64 lat', .bool b1, .bool b2, .slice xa P0.o xc]) 0).run Tryz.prog wx = .ok (.int .i64 (s.st : Nat)) wx := fun _ _ _ _ _ _ _ _ _ => by kernel_rfl
            have hf1 : ∀ (n' sn' : Int) (dc' lat' : Int) (b1 b2 : Bool) (xa : Option Addr) (xc : Nat) (wx : World), (Instr.field 51 (.agg #[.int .i64 (s.st : Nat), .int .u32 (s.ss : Nat), .int .u32 n', .int .u32 sn', .int .i64 dc', .int .i64 lat', .bool b1, .bool b2, .slice xa P0.o xc]) 1).run Tryz.prog wx = .ok (.int .u32 (s.ss : Nat)) wx := fun _ _ _ _ _ _ _ _ _ => by kernel_rfl
            have H2 : Hid (_) := And.intro T2 (And.intro hQ.out (And.intro hG1 hG0))
            have hlb : v1.heap.size < wr.heap.size := (T2.fr _ (by simp)).1
            obtain ⟨im, him⟩ : ∃ k, k = i := ⟨_, rfl⟩
            clear T2 hG1 hG0 bd
            go_wp2_with fail
            go_region_held3 (fun w' => w'.cell? ⟨v1.heap.size, 0, none⟩ = some (.int .i64 (s.st : Nat)) ∧ w'.cell? ⟨v1.heap.size, 1, none⟩ = some (.int .u32 (s.ss : Nat))) (assumption) (first
              | (go_at_call 19; refine qB.mono ?_; rintro e v6 ⟨ya, yc, rfl, h6⟩; have HSz : v6.cell? ⟨v1.heap.size, 0, none⟩ = some (.int .i64 (s.st : Nat)) ∧ v6.cell? ⟨v1.heap.size, 1, none⟩ = some (.int .u32 (s.ss : Nat)) := ⟨(World.cell?_of_block (h6.out.2.2.block v1.heap.size (Nat.lt_of_lt_of_le hlb H5.out.size))).trans HSy.1, (World.cell?_of_block (h6.out.2.2.block v1.heap.size (Nat.lt_of_lt_of_le hlb H5.out.size))).trans HSy.2⟩; have H6 : Hid (_) := H5.out.trans (h6.out.2.2.mono H5.out.size); clear qB h6)
              | (go_at_call 19; refine qA.mono ?_; rintro e v5 ⟨xa, xc, rfl, h5⟩; have HSy : v5.cell? ⟨v1.heap.size, 0, none⟩ = some (.int .i64 (s.st : Nat)) ∧ v5.cell? ⟨v1.heap.size, 1, none⟩ = some (.int .u32 (s.ss : Nat)) := ⟨(World.cell?_of_block (h5.out.2.2.block v1.heap.size hlb)).trans HSx.1, (World.cell?_of_block (h5.out.2.2.block v1.heap.size hlb)).trans HSx.2⟩; have H5 : Hid (Below wr.heap.size wr v5) := (Below.drew (Below.refl _ _)).trans h5.out.2.2; have qB := seeS_any d m g 16 99 P0 U2 s1 v5 (H2.out.1.dv.below H5.out); rw [show s1.st = s.st from H2.out.2.2.1.st.trans H2.out.2.2.2.st.symm, show s1.ss = s.ss from H2.out.2.2.1.ss.trans H2.out.2.2.2.ss.symm] at qB; clear qA h5))
            all_goals
              have H7 : Hid (_) := And.intro (H2.out.1.below H6.out) (And.intro ((H6.out.block v1.heap.size hlb).trans H2.out.2.1.2.1) (And.intro H2.out.2.1.2.2.1 (And.intro H2.out.2.1.2.2.2.1 (And.intro H2.out.2.1.2.2.2.2.1 H2.out.2.2.1))))
              have HI : Hid (i = om) := by show i = om; omega
              clear hf0 hf1 HSx HSy HSz H2 H5 H6 hlb hQ hlt
              go_wp2_with fail
              go_loopw [17] (fun c wq => ∃ (j : Nat) (s3 : Sd), om ≤ j ∧ j ≤ 4 ∧ c = .int .i64 ((j : Nat) : Int) ∧ Hid ((∃ U V, Bt w1 wq ⟨d, m, g, e', r, q, 16, 99, P0⟩ s3 s3 [v1.heap.size] U V) ∧ wq.heap[v1.heap.size]? = some (.cells #[.int .i64 (s.st : Nat), .int .u32 (s.ss : Nat), .int .u32 (s.nm : Nat), .int .u32 (s.sn : Nat), .int .i64 (s.dc : Nat), .int .i64 s.v.lat, .bool (vreq s.v), .bool (von s.v), .slice wa P0.o wcp] 51 (0, 0)) ∧ Iv P0 s3 ∧ s3.L.length ≤ 30 + 3 * j ∧ s3.ms.t ≤ 60 + 6 * (j : Int) ∧ (j < 4 → Gp s3 st j nm) ∧ (j = 4 → Ge s3 st))) (fun c _ => 4 - (intOf c).toNat)
              case atStart =>
                obtain ⟨T2, ex, I2, l2, t2, G2⟩ := H7.out
                have hio := HI.out
                subst hio
                exact ⟨i, s1, by omega, by omega, by simp, ⟨U2, V2, T2⟩, ex, I2, by omega, by omega, fun _ => G2, fun e => by omega⟩
              case round =>
                clear H7 HI
                obtain ⟨j, s3, hj1, hj2, rfl, hQ⟩ := hrel
                have HM : Hid (Mo 99 16 s3) := by obtain ⟨U2, V2, T2⟩ := hQ.out.1; exact Mo.of T2.dv
                by_cases hlt : j < 4
                · have hi1 : (j : Int) < 4 := by omega
                  have qT := step_recvF [v1.heap.size] w1 wr ⟨d, m, g, e', r, q, 16, 99, P0⟩ s3 1 0 0 false none 0 0 (fun _ => 0) 0 0 hQ.out.1 (row_nilX _ _) (fun y hy => by cases hy) (by omega) (by omega) (by omega) hQ.out.2.2.1 (by have := hQ.out.2.2.2.1; omega) (by have := hQ.out.2.2.2.2.1; omega)
                  go_wp2_with fail
                  refine qT.mono ?_
                  rintro e wn ⟨rfl, hn⟩
                  clear qT
                  go_wp2_with fail
                  go_roundw
                  case rel =>
                    obtain ⟨f, _, fo, TT, kp⟩ := hn.out
                    have G8 := gw_recv (P := P0) HM.out f.1 f.2
                    have hG := hQ.out.2.2.2.2.2.1 hlt
                    refine ⟨j + 1, _, by omega, by omega, by go_num, TT, (kp _ (by simp)).trans hQ.out.2.1, hQ.out.2.2.1.recv P0_ok HM.out f.1 f.2, by have := G8.1; have := hQ.out.2.2.2.1; omega, by have := G8.2; have := hQ.out.2.2.2.2.1; omega, fun h4 => gwish hG HR.out.2.2.2.2.2 (by omega) (fo.1 rfl), fun h4 => ?_⟩
                    obtain rfl : j = 3 := by omega
                    exact gend hG HR.out.2.2.2.2.2 HM.out (fo.1 rfl)
                  case measure => simp [intOf] <;> omega
                · have hi1 : ¬ (j : Int) < 4 := by omega
                  obtain ⟨U3, V3, T3⟩ := hQ.out.1
                  have hE := hQ.out.2.2.2.2.2.2 (by omega)
                  have qA := seeS_any d m g 16 99 P0 U3 s3 wr T3.dv
                  rw [hE.st2, hE.ss2] at qA
                  have H8 : Hid (_) := And.intro T3 (And.intro hQ.out.2.1 hE)
                  clear T3 hE hQ HM hlt
                  go_wp2_with fail
                  refine qA.mono ?_
                  rintro e v7 ⟨za, zc, rfl, h7⟩
                  obtain ⟨T3, ex, hE⟩ := H8.out
                  have ex7 := (h7.out.2.2.block v1.heap.size (T3.fr _ (by simp)).1).trans ex
                  have hG0 := HR.out.2.2.2.2.1
                  have y0 : v7.cell? ⟨v1.heap.size, 0, none⟩ = some (.int .i64 (s.st : Nat)) := cell_of_row v7 _ 0 _ _ _ ex7
                  have y1 : v7.cell? ⟨v1.heap.size, 1, none⟩ = some (.int .u32 (s.ss : Nat)) := cell_of_row v7 _ 1 _ _ _ ex7
                  rw [hG0.ss] at y1
                  rw [hG0.st] at y0
                  replace y1 : v7.cell? ⟨v1.heap.size, 1, none⟩ = some (.int .u32 1) := y1
                  have hlat := hE.lat
                  rw [hlat]
                  have hl7 : v1.heap.size < v7.heap.size := Nat.lt_of_lt_of_le (T3.fr _ (by simp : v1.heap.size ∈ [v1.heap.size])).1 h7.out.2.2.size
                  have z1 : ∀ ob, (v7.alloc ob).cell? ⟨v1.heap.size, 1, none⟩ = some (.int .u32 1) := fun ob => (World.cell?_of_block (((Below.refl v7.heap.size v7).alloc (Nat.le_refl _) ob).block v1.heap.size hl7)).trans y1
                  have z0 : ∀ ob, (v7.alloc ob).cell? ⟨v1.heap.size, 0, none⟩ = some (.int .i64 (st : Nat)) := fun ob => (World.cell?_of_block (((Below.refl v7.heap.size v7).alloc (Nat.le_refl _) ob).block v1.heap.size hl7)).trans y0
                  clear y0 y1
                  have hne : ¬ v1.heap.size = v7.heap.size := by have := (T3.fr _ (by simp : v1.heap.size ∈ [v1.heap.size])).1; have := h7.out.2.2.size; omega
                  have hne' : ¬ v7.heap.size = v1.heap.size := fun e => hne e.symm
                  have H9 : Hid (_) := H3.out.trans (((T3.bel.trans (h7.out.2.2.mono T3.bel.size)).alloc (Nat.le_trans T3.bel.size h7.out.2.2.size) (.cells #[.int .i64 2, .int .u32 2, .int .u32 (s3.nm : Nat), .int .u32 (s3.sn : Nat), .int .i64 (s3.dc : Nat), .int .i64 (if st = 4 then 131 else 0), .bool (vreq s3.v), .bool (von s3.v), .slice za P0.o zc] 51)).mono H3.out.size)
                  clear qA h7 T3 ex hE ex7 hG0 hlat H8
                  by_cases h4 : st = 4
                  · subst h4
                    rw [if_pos rfl] at H9 ⊢
                    replace z0 : ∀ ob, (v7.alloc ob).cell? ⟨v1.heap.size, 0, none⟩ = some (.int .i64 4) := z0
                    go_wp2_with fail
                    go_ret
                    exact ⟨by simp, H9.out⟩
                  · have e4 : ((st : Int) == 4) = false := by simp; omega
                    rw [if_neg h4] at H9 ⊢
                    clear h4
                    go_wp2_with fail
                    go_ret
                    exact ⟨by simp, H9.out⟩
end Go.Proofs.YtmleiemlfogffaaGreat
