/- Part 31 of the texts on which the proofs of layer 13 rest: contracts of Go functions. -/
import Derived.Deep.RegionLaw
import Derived.Maps.AppendAt
import Derived.Test.YtpgdghjlfdehjaaGreatPkR04
import Derived.Test.YtpgdghjlfdehjaaGreatPkR05
import Derived.Test.YtpgdghjlfdehjaaGreatPkR10
import Derived.Test.YtpgdghjlfdehjaaGreatPkR14
import Derived.Test.YtpgdghjlfdehjaaGreatPkR22
import Derived.Test.YtpgdghjlfdehjaaGreatPkR26
import Derived.Test.YtpgdghjlfdehjaaGreatPkR28
import Derived.Test.YtpgdghjlfdehjaaGreatPkR29
namespace Go.Proofs.YtpgdghjlfdehjaaGreat
set_option maxRecDepth 100000
open Go.RowKit
def encI (k c s n : Nat) (f : Int) (len : Nat) (bs : Nat → Nat) : Fm := if LW k c s n f len len = 0 then (15 + len + 4, PM.sl (fr k c s n f.toNat len bs) (15 + len)) else fm0
theorem encI_nat (k c s n f len : Nat) (bs : Nat → Nat) : encI k c s n (f : Int) len bs = encF k c s n f len bs := rfl
set_option maxHeartbeats 1600000 in
theorem frame_any (k c s n : Nat) (f : Int) (a : Option Addr) (len cap : Nat) (bs : Nat → Nat) (w : World) (hr : Row8 w a len cap bs) (hc : c < 4294967296) (hs : s < 4294967296) (hn : n < 4294967296) :
    Calls Tryz.prog 54 #[.agg #[.int .i64 (k : Nat), .int .u32 (c : Nat), .int .u32 (s : Nat), .int .u32 (n : Nat), .int .i64 f, .slice a len cap]] w fun e w' => ∃ v, e = .returned v ∧ Hid (Fr w' w.heap.size v (encI k c s n f len bs) ∧ Below w.heap.size w w') := by
  have b0 : Below w.heap.size w (w.alloc (.cells #[.int .i64 (k : Nat), .int .u32 (c : Nat), .int .u32 (s : Nat), .int .u32 (n : Nat), .int .i64 f, .slice a len cap] 53)) := (Below.refl _ _).alloc (Nat.le_refl _) _
  have fin : Calls Tryz.prog 98 #[.agg #[.int .i64 (k : Nat), .int .u32 (c : Nat), .int .u32 (s : Nat), .int .u32 (n : Nat), .int .i64 f, .slice a len cap]] (w.alloc (.cells #[.int .i64 (k : Nat), .int .u32 (c : Nat), .int .u32 (s : Nat), .int .u32 (n : Nat), .int .i64 f, .slice a len cap] 53)) fun e w' => ∃ v E, e = .returned (.tuple #[v, .int .i64 E]) ∧ Hid (Fr w' w.heap.size v (encI k c s n f len bs) ∧ Below w.heap.size w w') := by
    unfold encI
    by_cases hE : LW k c s n f len len = 0
    · rw [if_pos hE]
      have hf := (LW_zero hE).2.2.2.2
      obtain ⟨F, rfl⟩ : ∃ F : Nat, f = (F : Int) := ⟨f.toNat, by omega⟩
      refine (refEncode_good k c s n F a len cap bs _ (hr.below b0) hc hs hn hE).mono ?_
      rintro e w' ⟨v, rfl, h4⟩
      exact ⟨v, 0, rfl, own_base h4.out.1 b0.size, b0.trans (h4.out.2.mono b0.size)⟩
    · rw [if_neg hE]
      refine (refEncode_bad k c s n f a len cap _ hE).mono ?_
      rintro e w' ⟨rfl, h4⟩
      exact ⟨_, _, rfl, own_nil _ _ _, b0.trans (h4.mono b0.size)⟩
  clear hr hc hs hn b0
  go_enter Tryz.func54, Tryz.ntmps54
  go_wp2_with fail
  refine fin.mono ?_
  rintro e w4 ⟨v, E, rfl, h4⟩
  clear fin
  go_wp2_with fail
  go_ret
  exact ⟨v, rfl, h4⟩
def P0 : Pm := ⟨7, 2, 1, 10, 9⟩
theorem P0_ok : Pok P0 := ⟨by unfold okP P0; decide, by decide, by decide⟩
theorem small_any (w : World) : Calls Tryz.prog 16 #[] w fun e w' => e = .returned (.agg #[.int .u32 (P0.c : Nat), .int .i64 (P0.o : Nat), .int .i64 (P0.i : Nat), .int .i64 (P0.t : Nat), .int .u32 (P0.n : Nat)]) ∧ Below w.heap.size w w' := by
  go_enter Tryz.func16, Tryz.ntmps16
  go_wp2_with fail
  refine bodyPost_ret (v := .agg #[.int .u32 (P0.c : Nat), .int .i64 (P0.o : Nat), .int .i64 (P0.i : Nat), .int .i64 (P0.t : Nat), .int .u32 (P0.n : Nat)]) (by simp [results, Tryz.results16, go_sem, P0]) rfl ⟨rfl, ?_⟩
  exact (Below.refl _ _).alloc (Nat.le_refl _) _
def wishF (P : Pm) : Fm := (23, PM.sl (fr 1 P.c 0 0 0 4 (dsg P)) 19)
theorem LW_wish {c : Nat} (h : c ≠ 0) : LW 1 c 0 0 0 4 4 = 0 := by
  unfold LW
  rw [if_neg (by decide), if_neg (by omega), if_neg (by decide), if_neg (by decide), if_neg (by decide), if_neg (by decide)]
theorem wish_enc (P : Pm) (h : Pok P) : encF 1 P.c 0 0 0 4 (dsg P) = wishF P := by
  exact if_pos (LW_wish h.c0)
theorem BA_congr (f g : Nat → Nat) (n : Nat) (h : ∀ i, i < n → f i = g i) : BA f n = BA g n := by
  unfold BA
  congr 1
  apply List.map_congr_left
  intro i hi
  rw [h i (List.mem_range.1 hi)]
theorem hear_wish (P : Pm) (h : Pok P) (mx n : Nat) (s : Sd) : dhear P mx n s (wishF P).1 (wishF P).2 = dwish P mx n s := by
  obtain ⟨e1, e2, e3, e4, e5, e6, e7⟩ := DE_back 1 P.c 0 0 0 4 (dsg P) h.c (by omega) (by omega) (by omega) (LW_wish h.c0)
  have hd : DE (wishF P).2 (wishF P).1 = 0 := e1
  have h0 : (wishF P).2 0 = 1 := e2
  have h1 : w4v (wishF P).2 1 = P.c := e3
  unfold dhear
  rw [if_neg (by omega), if_neg (by rw [h0]; decide), if_neg (by omega), h0]
  unfold dtake
  rw [if_pos rfl, if_pos]
  unfold dsigned
  exact decide_eq_true (BA_congr _ _ 4 (fun i hi => e7 i hi))
def M0 : Ms := S0 fun _ => 0
theorem open0 (mx : Nat) (h : mx ≠ 0) : opE mx 16 M0 = 0 ∧ opS mx 16 M0 = M0 := by
  have hm : mend M0.bs = [] := by decide
  constructor
  · unfold opE
    rw [if_neg (by omega), if_neg (by decide), hm]
    rfl
  · unfold opS
    rw [if_neg (by omega), if_neg (by decide), hm]
    rfl
theorem next0 (mx : Nat) (h : mx ≠ 0) : (nx mx 16 M0.bs false M0).e = 0 ∧ (nx mx 16 M0.bs false M0).v = 1 := by
  have hv : vz M0.bs = 0 := by decide
  have ht : tg M0.bs = 0 := by decide
  unfold nx
  rw [if_neg (by decide), hv, if_neg (by omega), ht]
  rcases sq_all 16 (six 0 (0 + 1)) M0 (fun x hx => (six_in _ _ 16 (by omega) (by omega) x hx).1) rfl (Int.le_refl _) with ⟨e, _⟩ | ⟨_, _, e, _⟩
  · rw [if_pos e]; exact ⟨rfl, rfl⟩
  · cases e
theorem first_wish (P : Pm) (h : Pok P) (mx : Nat) (hm : mx ≠ 0) :
    (drecv P mx 16 (dnew M0) (wishF P).1 (wishF P).2).e = 0 ∧ (drecv P mx 16 (dnew M0) (wishF P).1 (wishF P).2).s.st = 2 ∧ (drecv P mx 16 (dnew M0) (wishF P).1 (wishF P).2).f = encF 17 P.c 1 0 0 4 (dsg P) := by
  obtain ⟨n1, n2⟩ := next0 mx hm
  have hw : dwish P mx 16 (dnew M0) = dbegin P mx 16 (dnew M0) := rfl
  have hb : dbegin P mx 16 (dnew M0) = ⟨{ dleave { dnew M0 with ms := (nx mx 16 M0.bs false M0).s } 2 with ss := (nx mx 16 M0.bs false M0).v }, doffer P { dleave { dnew M0 with ms := (nx mx 16 M0.bs false M0).s } 2 with ss := (nx mx 16 M0.bs false M0).v }, 0⟩ := by
    unfold dbegin
    have e1 : (nx mx 16 (dnew M0).ms.bs false (dnew M0).ms).e = 0 := n1
    rw [if_neg (by rw [e1]; decide), if_neg (by rw [e1]; decide)]
    rfl
  unfold drecv
  rw [if_neg (by show (1 : Nat) ≠ 6; omega), hear_wish P h, hw, hb, if_neg (by rintro ⟨e, _⟩; exact e rfl)]
  refine ⟨rfl, rfl, ?_⟩
  show encF 17 P.c (nx mx 16 M0.bs false M0).v 0 0 4 (dsg P) = _
  rw [n2]
theorem LW_offer {c s : Nat} (h : c ≠ 0) (hs : s ≠ 0) : LW 17 c s 0 0 4 4 = 0 := by
  unfold LW
  rw [if_neg (by decide), if_neg (by omega), if_neg (by decide), if_neg (by unfold mSess; rw [if_neg (by omega), if_neg (by omega)]; simp; omega), if_neg (by decide), if_neg (by decide)]
theorem Fr.row {w : World} {M : Nat} {v : Value} {f : Fm} (h : Fr w M v f) (hb : ∀ i, i < f.1 → f.2 i < 256) : ∃ a cap, v = .slice a f.1 cap ∧ Row8 w a f.1 cap f.2 := own_row8 h hb
theorem encF_byte (k c s n f len : Nat) (bs : Nat → Nat) (hb : ∀ i, i < len → bs i < 256) : ∀ i, i < (encF k c s n f len bs).1 → (encF k c s n f len bs).2 i < 256 := by
  unfold encF
  by_cases h : LW k c s n f len len = 0
  · rw [if_pos h]
    have hz := LW_zero h
    intro i _
    have hfr := fr_lt (K := k) (c := c) (s := s) (n := n) (F := f) (len := len) (bs := bs) (by omega) (by omega) (by omega) hb
    show PM.sl _ _ i < 256
    unfold PM.sl PM.ct
    split
    · rename_i h2; exact hfr i h2
    · exact PM.w4_lt _ _
  · rw [if_neg h]; intro i hi; exact absurd hi (Nat.not_lt_zero i)
theorem dsg_byte (P : Pm) : ∀ i, i < 4 → dsg P i < 256 := fun i _ => PM.w4_lt _ i
structure Ow (w0 w : World) (d m g n mx : Nat) (P : Pm) (U : List Nat) (s : Sd) : Prop where
  bel : Below w0.heap.size w0 w
  dv : DV w d m g n mx P U s
  ge : ∀ k, k ∈ U → w0.heap.size ≤ k
theorem Ow.gr {w0 w w' : World} {d m g n mx : Nat} {P : Pm} {U U' : List Nat} {s s' : Sd} (h : Ow w0 w d m g n mx P U s) (q : Gr U w U' w') (x : DV w' d m g n mx P U' s') : Ow w0 w' d m g n mx P U' s' :=
  ⟨q.off.below h.bel h.ge h.bel.size, x, fun k hk => by
    rcases q.new k hk with h1 | h1
    · exact h.ge k h1
    · exact Nat.le_trans h.bel.size h1⟩
theorem Ow.below {w0 w w' : World} {d m g n mx : Nat} {P : Pm} {U : List Nat} {s : Sd} (h : Ow w0 w d m g n mx P U s) (b : Below w.heap.size w w') : Ow w0 w' d m g n mx P U s := h.gr (Gr.below b) (h.dv.below b)
theorem newD_ok (m g n mx : Nat) (P : Pm) (hP : Pok P) (ms : Ms) (w : World) (hM : MR w m g n ms) (hx : mx < 4294967296) (ht : ms.t < 9223372036854774000) (h0 : opE mx n ms = 0) :
    Calls Tryz.prog 19 #[.agg #[.int .u32 (P.c : Nat), .int .i64 (P.o : Nat), .int .i64 (P.i : Nat), .int .i64 (P.t : Nat), .int .u32 (P.n : Nat)], .pointer (some ⟨m, 0, none⟩), .int .u32 (mx : Nat)] w fun e w' => ∃ d, e = .returned (.tuple #[.pointer (some ⟨d, 0, none⟩), .int .i64 0]) ∧ Hid (∃ U, Off [m, g] w w' ∧ DV w' d m g n mx P U (dnew (opS mx n ms)) ∧ ∀ k, k ∈ U → k = m ∨ k = g ∨ w.heap.size ≤ k) := by
  refine (newD_any m g n mx P hP ms w hM hx ht).mono ?_
  rintro e w' ⟨p, rfl, h⟩
  obtain ⟨o, _, hd, _⟩ := h.out
  obtain ⟨d, U, rfl, D, hU⟩ := hd h0
  rw [h0]
  exact ⟨d, rfl, U, o, D, hU⟩
theorem made13 (mx : Nat) (P : Pm) (hP : Pok P) (w0 w : World) (m g : Nat) (hb : Below w0.heap.size w0 w) (hm : w0.heap.size ≤ m) (hg : w0.heap.size ≤ g) (hM : MR w m g 16 M0) (hx : mx < 4294967296) (h0 : mx ≠ 0) :
    Calls Tryz.prog 19 #[.agg #[.int .u32 (P.c : Nat), .int .i64 (P.o : Nat), .int .i64 (P.i : Nat), .int .i64 (P.t : Nat), .int .u32 (P.n : Nat)], .pointer (some ⟨m, 0, none⟩), .int .u32 (mx : Nat)] w fun e w' => ∃ d, e = .returned (.tuple #[.pointer (some ⟨d, 0, none⟩), .int .i64 0]) ∧ Hid (∃ U, Ow w0 w' d m g 16 mx P U (dnew M0)) := by
  have hN := newD_ok m g 16 mx P hP M0 w hM hx (by decide) (open0 mx h0).1
  rw [(open0 mx h0).2] at hN
  refine hN.mono ?_
  rintro e w' ⟨d, rfl, h⟩
  obtain ⟨U, o, D, hU⟩ := h.out
  refine ⟨d, rfl, U, o.below hb (by simp; omega) hb.size, D, fun k hk => ?_⟩
  have := hb.size
  rcases hU k hk with h | h | h <;> omega
theorem seeS_any (d m g n mx : Nat) (P : Pm) (U : List Nat) (s : Sd) (w : World) (h : DV w d m g n mx P U s) :
    Calls Tryz.prog 21 #[.pointer (some ⟨d, 0, none⟩)] w fun e w' => ∃ a cap, e = .returned (.agg #[.int .i64 (s.st : Nat), .int .u32 (s.ss : Nat), .int .u32 (s.nm : Nat), .int .u32 (s.sn : Nat), .int .i64 (s.dc : Nat), .int .i64 s.v.lat, .bool (vreq s.v), .bool (von s.v), .slice a P.o cap]) ∧ Hid (Fr w' w.heap.size (.slice a P.o cap) (P.o, vout s.v) ∧ Row8 w' a P.o cap (vout s.v) ∧ Below w.heap.size w w') := by
  obtain ⟨B, x⟩ := id h
  refine (see_any d m g n mx P U s w h).mono ?_
  rintro e w' ⟨v, rfl, h2⟩
  obtain ⟨a, cap, hv, r⟩ := h2.out.1.row (vout_byte x.val)
  subst hv
  exact ⟨a, cap, rfl, h2.out.1, r, h2.out.2⟩
set_option maxHeartbeats 6400000 in
theorem awake13 (w : World) : Calls Tryz.prog 15 #[] w fun e w' => e = .returned (.bool true) ∧ Below w.heap.size w w' := by
  have hM := new_ok 16 w (by omega)
  go_enter Tryz.func15, Tryz.ntmps15
  go_wp2_with (go_at_call 17; refine hM.mono ?_; rintro e w1 ⟨m, g, rfl, h1⟩)
  refine (small_any w1).mono ?_
  rintro e w2 ⟨rfl, b2⟩
  obtain ⟨m1, g1, o1, x1⟩ := h1.out
  have x2 := x1.off (Off.of_below (l := []) b2) (by simp) (by simp)
  have hN := made13 9 P0 P0_ok w w2 m g ((o1.below (Below.refl _ _) (by simp) (Nat.le_refl _)).trans (b2.mono o1.size)) m1 g1 x2 (by omega) (by omega)
  clear hM h1 m1 g1 o1 x1 b2 x2
  go_wp2_with fail
  refine hN.mono ?_
  rintro e w3 ⟨d, rfl, h3⟩
  obtain ⟨U, O3⟩ := h3.out
  have H3 : Hid (_) := O3
  clear hN h3 O3
  go_wp2_with fail
  refine (small_any w3).mono ?_
  rintro e w4 ⟨rfl, b4⟩
  have H4 : Hid (_) := H3.out.below b4
  have hS := rsign_good P0.c P0.o P0.i P0.t P0.n w4 P0_ok.c P0_ok.n P0_ok.ok
  clear H3 b4
  go_wp2_with fail
  refine hS.mono ?_
  rintro e w5 ⟨gs, rfl, h5⟩
  have hF := frame_any 1 7 0 0 0 (some ⟨gs, 0, none⟩) 4 4 (dsg P0) w5 h5.out.1 (by omega) (by omega) (by omega)
  rw [show encI 1 7 0 0 0 4 (dsg P0) = wishF P0 from wish_enc P0 P0_ok] at hF
  have H5 : Hid (_) := H4.out.below h5.out.2
  clear hS h5 H4
  go_wp2_with fail
  refine hF.mono ?_
  rintro e w6 ⟨v6, rfl, h6⟩
  obtain ⟨a6, c6, rfl, r6⟩ := h6.out.1.row (by rw [← wish_enc P0 P0_ok]; exact encF_byte _ _ _ _ _ _ _ (dsg_byte P0))
  have H6 := H5.out.below h6.out.2
  have hR := receive_any d m g 16 9 P0 U (dnew M0) a6 _ c6 _ w6 H6.dv r6 (by decide) (by decide) (by decide) (by decide)
  obtain ⟨f1, f2, f3⟩ := first_wish P0 P0_ok 9 (by omega)
  rw [f1, f3] at hR
  have K6 : Hid (_) := And.intro H6 f2
  generalize drecv P0 9 16 (dnew M0) (wishF P0).1 (wishF P0).2 = R at *
  clear hF h6 r6 H6 H5 f1 f2 f3
  go_wp2_with fail
  refine hR.mono ?_
  rintro e w7 ⟨v7, rfl, h7⟩
  obtain ⟨U7, g7, D7, F7, k7⟩ := h7.out
  have O7 := K6.out.1.gr g7 D7
  have hE := LW_offer (c := 7) (s := 1) (by omega) (by omega)
  obtain ⟨e1, e2, e3, e4, e5, e6, e7⟩ := DE_back 17 7 1 0 0 4 (dsg P0) (by omega) (by omega) (by omega) (by omega) hE
  have ef : encF 17 P0.c 1 0 0 4 (dsg P0) = (23, PM.sl (fr 17 7 1 0 0 4 (dsg P0)) 19) := if_pos hE
  rw [ef] at F7
  obtain ⟨a7, c7, hv7, r7⟩ := F7.row (by rw [← ef]; exact encF_byte _ _ _ _ _ _ _ (dsg_byte P0))
  replace hv7 : v7 = Value.slice a7 23 c7 := hv7
  subst hv7
  have hDc := refDec_ok a7 23 c7 (PM.sl (fr 17 7 1 0 0 4 (dsg P0)) 19) w7 r7 e1
  rw [show PM.sl (fr 17 7 1 0 0 4 (dsg P0)) 19 0 = 17 from e2, show w4v (PM.sl (fr 17 7 1 0 0 4 (dsg P0)) 19) 5 = 1 from e4] at hDc
  have H7 : Hid (_) := And.intro O7 K6.out.2
  clear hR h7 g7 D7 F7 k7 O7 K6 hE e1 e2 e3 e4 e5 e6 e7 ef r7
  generalize PM.sl (fr 17 7 1 0 0 4 (dsg P0)) 19 = B at *
  go_wp2_with fail
  refine hDc.mono ?_
  rintro e w8 ⟨a8, c8, rfl, h8⟩
  have O8 := (H7.out.1.below h8.out.2).below ((Below.refl _ _).alloc (Nat.le_refl _) (.cells #[.int .i64 17, .int .u32 (w4v B 1 : Nat), .int .u32 1, .int .u32 (w4v B 9 : Nat), .int .i64 (B 13 : Nat), .slice a8 4 c8] 53))
  have hSee := seeS_any d m g 16 9 P0 U7 R.s _ O8.dv
  have H8 : Hid (_) := And.intro O8 H7.out.2
  clear hDc h8 O8 H7
  go_wp2_with fail
  refine hSee.mono ?_
  rintro e w9 ⟨a9, c9, rfl, h9⟩
  have H9 : Hid (_) := (H8.out.1.below h9.out.2.2).bel
  have hst := H8.out.2
  rw [hst]
  clear hSee h9 H8 hst
  have hfl : ∀ w, (Instr.field 44 (.agg #[.int .i64 2, .int .u32 (R.s.ss : Nat), .int .u32 (R.s.nm : Nat), .int .u32 (R.s.sn : Nat), .int .i64 (R.s.dc : Nat), .int .i64 R.s.v.lat, .bool (vreq R.s.v), .bool (von R.s.v), .slice a9 P0.o c9]) 0).run Tryz.prog w = .ok (.int .i64 2) w := fun w => by kernel_rfl
  go_wp2_with fail
  go_ret
  exact ⟨rfl, H9.out⟩
end Go.Proofs.YtpgdghjlfdehjaaGreat
namespace Go.Proofs.YtpgdghjlfdehjaaGreat
set_option maxRecDepth 100000
open Go.RowKit
theorem nx_vz {mx n : Nat} {s : Ms} (hn : 10 ≤ n) (ho : s.off = false) (hl : 0 ≤ s.l) (hmx : mx < 4294967296) :
    ((nx mx n s.bs false s).e = 0 → (nx mx n s.bs false s).v = vz s.bs + 1 ∧ vz (nx mx n s.bs false s).s.bs = vz s.bs + 1 ∧ vz s.bs < mx) ∧ ((nx mx n s.bs false s).e ≠ 0 → vz (nx mx n s.bs false s).s.bs = vz s.bs) := by
  unfold nx
  rw [if_neg (by simp [ho])]
  by_cases hm : mx ≤ vz s.bs
  · rw [if_pos hm]
    exact ⟨fun e => (by cases e), fun _ => rfl⟩
  · rw [if_neg hm]
    rcases sq_all n (six (tg s.bs) (vz s.bs + 1)) s (fun x hx => (six_in _ _ n (tg_lt _) hn x hx).1) ho hl with ⟨h1, h2, _⟩ | ⟨h1, h2, _, h4⟩
    · rw [if_pos h1]
      refine ⟨fun _ => ⟨rfl, ?_, by omega⟩, fun e => absurd rfl e⟩
      show vz (sqS n (six (tg s.bs) (vz s.bs + 1)) s).bs = _
      rw [h2]
      exact vz_next _ _ (by omega) (by omega)
    · rw [if_neg (by omega)]
      refine ⟨fun e => (by cases e), fun _ => ?_⟩
      show vz (sqS n (six (tg s.bs) (vz s.bs + 1)) s).bs = _
      rw [h2]
      refine vz_cut _ _ _ ?_
      have : (six (tg s.bs) (vz s.bs + 1)).length = 6 := rfl
      omega
theorem opS_vz {mx n : Nat} {s : Ms} (hl : 0 ≤ s.l) (hz : Bz s.bs) : vz (opS mx n s).bs = vz s.bs := by
  unfold opS
  by_cases h1 : mx = 0 ∨ n < 10
  · rw [if_pos h1]
  · rw [if_neg h1]
    by_cases h2 : s.off = true
    · rw [if_pos h2]
    · rw [if_neg h2]
      rcases sq_all n (mend s.bs) s (fun x hx => (mend_in s.bs n (by omega) x hx).1) (by simpa using h2) hl with ⟨_, e, _⟩ | ⟨_, e, _⟩
      · rw [e]
        have := vz_mend s.bs (mend s.bs).length hz
        rwa [List.take_length] at this
      · rw [e]
        exact vz_mend s.bs _ hz
theorem dodd_idle {s : Sd} (h : s.st = 1) : dodd s = s := by
  unfold dodd dbusy
  rw [h]
  rfl
theorem dwish_idle (P : Pm) (mx n : Nat) {s : Sd} (h : s.st = 1) : dwish P mx n s = dbegin P mx n s := by
  unfold dwish
  rw [dodd_idle h, h]
  rfl
theorem ses_begin (P : Pm) (mx n : Nat) {s : Sd} (hn : 10 ≤ n) (ho : s.ms.off = false) (hl : 0 ≤ s.ms.l) (hmx : mx < 4294967296) :
    ((dbegin P mx n s).e = 0 → (dbegin P mx n s).s.ss = vz s.ms.bs + 1 ∧ vz (dbegin P mx n s).s.ms.bs = vz s.ms.bs + 1) ∧ ((dbegin P mx n s).e ≠ 0 → vz (dbegin P mx n s).s.ms.bs = vz s.ms.bs) ∧ (dbegin P mx n s).s.ms.t ≤ s.ms.t + 6 := by
  have hv := nx_vz (mx := mx) hn ho hl hmx
  have ht := nx_t mx n s.ms.bs false s.ms hn hl
  unfold dbegin
  generalize nx mx n s.ms.bs false s.ms = x at *
  by_cases h1 : x.e = 80
  · rw [if_pos h1]
    have hm : (dleave (dlatch { s with ms := x.s } 80) 5).ms = x.s := by show (dlatch { s with ms := x.s } 80).ms = x.s; rw [dlatch_ms]
    refine ⟨fun e => (by cases e), fun _ => ?_, ?_⟩
    · show vz (dleave (dlatch { s with ms := x.s } 80) 5).ms.bs = _
      rw [hm]; exact hv.2 (by omega)
    · show (dleave (dlatch { s with ms := x.s } 80) 5).ms.t ≤ _
      rw [hm]; exact ht
  · rw [if_neg h1]
    by_cases h2 : x.e = 0
    · rw [if_neg (by omega)]
      exact ⟨fun _ => ⟨(hv.1 h2).1, (hv.1 h2).2.1⟩, fun e => absurd rfl e, ht⟩
    · rw [if_pos h2]
      exact ⟨fun e => absurd e h2, fun _ => hv.2 h2, ht⟩
theorem ses_recv (P : Pm) (hP : Pok P) (mx n : Nat) {s : Sd} (hs : s.st = 1) (hn : 10 ≤ n) (ho : s.ms.off = false) (hl : 0 ≤ s.ms.l) (hmx : mx < 4294967296) :
    ((drecv P mx n s (wishF P).1 (wishF P).2).e = 0 → (drecv P mx n s (wishF P).1 (wishF P).2).s.ss = vz s.ms.bs + 1 ∧ vz (drecv P mx n s (wishF P).1 (wishF P).2).s.ms.bs = vz s.ms.bs + 1) ∧ ((drecv P mx n s (wishF P).1 (wishF P).2).e ≠ 0 → vz (drecv P mx n s (wishF P).1 (wishF P).2).s.ms.bs = vz s.ms.bs) ∧
      (drecv P mx n s (wishF P).1 (wishF P).2).s.ms.t ≤ s.ms.t + 6 ∧ (drecv P mx n s (wishF P).1 (wishF P).2).s.L.length ≤ s.L.length + 3 := by
  have hb := ses_begin P mx n hn ho hl hmx
  have hL := dbegin_len P mx n s
  unfold drecv
  rw [if_neg (by omega), hear_wish P hP, dwish_idle P mx n hs]
  by_cases he : (dbegin P mx n s).e ≠ 0 ∧ (dbegin P mx n s).e ≠ 70
  · rw [if_pos he]
    refine ⟨fun e => absurd e he.1, fun _ => hb.2.1 he.1, hb.2.2, ?_⟩
    show ((dbegin P mx n s).s.L ++ [_]).length ≤ _
    simp; omega
  · rw [if_neg he]
    exact ⟨hb.1, hb.2.1, hb.2.2, by omega⟩
theorem rsM_zero (s : Ms) : rsM s 0 = { s with off := false, ar := false } := if_neg (by omega)
theorem reset_zero {mx n : Nat} (s : Sd) (hm : mx ≠ 0) (hn : 10 ≤ n) (hl : 0 ≤ s.ms.l) : dresetE mx n s 0 = 0 := by
  unfold dresetE
  rw [if_neg (by omega), rsM_zero]
  unfold opE
  rw [if_neg (by omega), if_neg (by simp)]
  rcases sq_all n (mend s.ms.bs) { s.ms with off := false, ar := false } (fun x hx => (mend_in s.ms.bs n hn x hx).1) rfl hl with ⟨e, _⟩ | ⟨_, _, e, _⟩
  · exact e
  · cases e
theorem reset_vz {mx n : Nat} (s : Sd) (k : Int) (hz : Bz s.ms.bs) (hl : 0 ≤ s.ms.l) : vz (dresetS mx n s k).ms.bs = vz s.ms.bs ∧ (dresetS mx n s k).ms.t ≤ s.ms.t + 6 ∧ (dresetS mx n s k).L = s.L := by
  unfold dresetS
  by_cases hk : k < 0
  · rw [if_pos hk]; exact ⟨rfl, by omega, rfl⟩
  · rw [if_neg hk]
    have hb : (rsM s.ms k).bs = s.ms.bs ∧ (rsM s.ms k).t = s.ms.t ∧ 0 ≤ (rsM s.ms k).l := by
      unfold rsM arS
      split
      · split
        · exact ⟨rfl, rfl, hl⟩
        · exact ⟨rfl, rfl, by show 0 ≤ k - 1; omega⟩
      · exact ⟨rfl, rfl, hl⟩
    refine ⟨?_, ?_, rfl⟩
    · show vz (opS mx n (rsM s.ms k)).bs = _
      rw [opS_vz hb.2.2 (by rw [hb.1]; exact hz), hb.1]
    · have := opS_t mx n (rsM s.ms k) hb.2.2
      show (opS mx n (rsM s.ms k)).t ≤ _
      omega
theorem reset_idle {mx n : Nat} (s : Sd) (h : dresetE mx n s 0 = 0) : (dresetS mx n s 0).st = 1 ∧ (dresetS mx n s 0).sn = 0 ∧ (dresetS mx n s 0).od = 0 := by
  unfold dresetE at h
  rw [if_neg (by omega)] at h
  unfold dresetS
  rw [if_neg (by omega), if_pos h]
  exact ⟨rfl, rfl, rfl⟩
theorem DV.facts {w : World} {d m g n mx : Nat} {P : Pm} {U : List Nat} {s : Sd} (h : DV w d m g n mx P U s) : Bz s.ms.bs ∧ 0 ≤ s.ms.l ∧ 10 ≤ n ∧ mx ≠ 0 ∧ mx < 4294967296 ∧ (s.st ≠ 6 → s.ms.off = false) := by
  obtain ⟨B, x⟩ := h
  exact ⟨fun i hi => x.mem.byte i (by have := x.n10; omega), x.mem.l0, x.n10, x.mx0, x.mxl, fun hs => (x.cel hs).2.2⟩
theorem dvarm_any (d m g n mx : Nat) (P : Pm) (U : List Nat) (s : Sd) (p : Int) (w : World) (h : DV w d m g n mx P U s) (hp : p ≤ 9223372036854775807) :
    Calls Tryz.prog 72 #[.pointer (some ⟨m, 0, none⟩), .int .i64 p] w fun e w' => e = .returned (.int .i64 (arE p)) ∧ Hid (∃ U', Gr U w U' w' ∧ DV w' d m g n mx P U' { s with ms := arS s.ms p }) := by
  obtain ⟨B, x⟩ := h
  refine (arm_any m g n s.ms p w x.mem hp).mono ?_
  rintro e w' ⟨rfl, o, m'⟩
  refine ⟨rfl, U, Gr.same (o.more (m := [m, g, B.c]) (by simp)) x.memU, B, x.memd (o.more (by simp)) m' (A' := s.st ≠ 6) (fun hs => ?_)⟩
  obtain ⟨c1, c2, c3⟩ := x.cel hs
  have hne : B.c ∉ [m] := fun hm => by simp at hm; have := x.kc.1; rw [hm, x.km.1] at this; omega
  have e1 : (arS s.ms p).bs = s.ms.bs := by unfold arS; split <;> rfl
  have e2 : (arS s.ms p).off = s.ms.off := by unfold arS; split <;> rfl
  rw [e1, e2]
  exact ⟨c1, c2.off o hne, c3⟩
end Go.Proofs.YtpgdghjlfdehjaaGreat
namespace Go.Proofs.YtpgdghjlfdehjaaGreat
set_option maxRecDepth 100000
open Go.RowKit
structure Vok (s : Vs) : Prop where
  fr : s.lat = 0 → s.fr = false
  sm : s.sm = true → s.lat = 0
theorem Vok.new : Vok vnew := ⟨fun _ => rfl, fun h => by cases h⟩
theorem Vok.trip {s : Vs} (h : Vok s) (x : Int) : Vok (vtrip s x) := by
  unfold vtrip
  split
  · exact h
  · exact ⟨fun _ => rfl, fun h => by cases h⟩
theorem Vok.run {s : Vs} (h : Vok s) (o : Bool) : Vok (vrun s o) := by
  unfold vrun
  split
  · exact h
  · exact ⟨h.fr, fun h => by cases h⟩
theorem Vok.hold {s : Vs} (h : Vok s) (o : Bool) : Vok (vhold s o) := ⟨h.fr, h.sm⟩
theorem Vok.fresh {s : Vs} (h : Vok s) : Vok (vfresh s) := ⟨fun e => by show (s.lat != 0) = false; rw [show s.lat = 0 from e]; rfl, h.sm⟩
theorem Vok.take {s : Vs} (h : Vok s) (bs : Nat → Nat) : Vok (vtake s bs) := by
  unfold vtake
  split
  · rename_i k
    exact ⟨h.fr, fun _ => k.2⟩
  · exact h
theorem Vok.ack {s : Vs} (h : Vok s) : Vok (vack s) := by
  unfold vack
  split
  · exact ⟨fun _ => rfl, fun _ => rfl⟩
  · exact h
def RDC (P : Pm) (m mx : Nat) (cp lv vv : Value) (s : Sd) (av : Value) : Array Value :=
  #[.int .u32 (P.c : Nat), .int .i64 (P.o : Nat), .int .i64 (P.i : Nat), .int .i64 (P.t : Nat), .int .u32 (P.n : Nat), .pointer (some ⟨m, 0, none⟩), .int .u32 (mx : Nat), cp, lv, .int .i64 (P.t : Nat), .int .i64 (s.dc : Nat),
    .int .i64 (P.o : Nat), .bool s.v.run, .bool s.v.held, .bool s.v.fr, .int .i64 s.v.lat, vv, .bool s.v.sm, .int .i64 (s.st : Nat), .int .u32 (s.ss : Nat), .int .u32 (s.nm : Nat), .int .u32 (s.sn : Nat), .int .i64 (s.od : Nat), av, .bool s.hd]
structure Bk2 where
  c : Nat
  M : List Nat
  cp : Value
  lv : Value
  vv : Value
  av : Value
  col : Nat → Nat
structure RB (w : World) (d m g n mx : Nat) (P : Pm) (U : List Nat) (s : Sd) (B : Bk2) (A : Prop) : Prop where
  dev : w.heap[d]? = some (.cells (RDC P m mx B.cp B.lv B.vv s B.av) 133 (0, 0))
  mem : RR w m g n s.ms
  cel : A → B.cp = .pointer (some ⟨B.c, 0, none⟩) ∧ RX w B.c m mx (vz s.ms.bs) false ∧ s.ms.off = false
  val : VV w B.M P.o s.v B.vv
  log : w.ownsRow 0 177 4 B.lv s.L.length (rvs s.L)
  app : w.ownsRow 0 5 1 B.av P.i (CB s.ap P.i)
  apb : ∀ i, i < P.i → s.ap i < 256
  vok : Vok s.v
  dcl : s.dc ≤ P.t
  ltU : ∀ k, k ∈ U → k < w.heap.size
  kd : B.col d = 0 ∧ d ∈ U
  km : B.col m = 1 ∧ m ∈ U
  kg : B.col g = 1 ∧ g ∈ U
  kc : B.col B.c = 2 ∧ B.c ∈ U
  kM : ∀ k, k ∈ B.M → B.col k = 4 ∧ k ∈ U
  kl : ∀ k, B.lv.ownBlock = some k → B.col k = 5 ∧ k ∈ U
  ka : ∀ k, B.av.ownBlock = some k → B.col k = 6 ∧ k ∈ U
  pok : Pok P
  n10 : 10 ≤ n
  mx0 : mx ≠ 0
  mxl : mx < 4294967296
  nl : s.L.length = 0 → B.lv = .slice none 0 0
def RW (w : World) (d m g n mx : Nat) (P : Pm) (U : List Nat) (s : Sd) : Prop := ∃ B, RB w d m g n mx P U s B (s.st ≠ 6)
section
variable {w w' : World} {d m g n mx : Nat} {P : Pm} {U : List Nat} {s s' : Sd} {B : Bk2} {A A' : Prop}
theorem RB.dlt (h : RB w d m g n mx P U s B A) : d < w.heap.size := h.ltU d h.kd.2
theorem RB.fz (h : RB w d m g n mx P U s B A) (j : Nat) : w.frozen? ⟨d, j, none⟩ = false := frozen_of_row w d j _ _ h.dev
theorem VV.same {M : List Nat} {k : Nat} {u u' : Vs} {v : Value} (h : VV w M k u v) (h1 : u'.sm = u.sm) (h2 : u'.bs = u.bs) : VV w M k u' v := by
  unfold VV at *
  rw [h1, h2]
  exact h
theorem RB.own (h : RB w d m g n mx P U s B A) (q : Off [d] w w') (e : w'.heap[d]? = some (.cells (RDC P m mx B.cp B.lv B.vv s' B.av) 133 (0, 0)))
    (h1 : s'.ms = s.ms) (h2 : s'.v.sm = s.v.sm ∧ s'.v.bs = s.v.bs) (h4 : s'.L = s.L) (h5 : s'.ap = s.ap) (hv : Vok s'.v) (hd : s'.dc ≤ P.t) (h6 : A' → A) : RB w' d m g n mx P U s' B A' := by
  have hn : ∀ k, B.col k ≠ 0 → k ∉ [d] := fun k hk hm => by simp at hm; rw [hm, h.kd.1] at hk; exact hk rfl
  refine ⟨e, ?_, ?_, ?_, ?_, ?_, h5 ▸ h.apb, hv, hd, fun k hk => Nat.lt_of_lt_of_le (h.ltU k hk) q.size, h.kd, h.km, h.kg, h.kc, h.kM, h.kl, h.ka, h.pok, h.n10, h.mx0, h.mxl, fun e => h.nl (by rw [← h4]; exact e)⟩
  · rw [h1]; exact h.mem.off q (hn _ (by rw [h.km.1]; omega)) (hn _ (by rw [h.kg.1]; omega))
  · intro hs
    obtain ⟨c1, c2, c3⟩ := h.cel (h6 hs)
    rw [h1]
    exact ⟨c1, c2.off q (hn _ (by rw [h.kc.1]; omega)), c3⟩
  · exact (h.val.off q (fun k hk hM => by simp at hk; subst hk; have := (h.kM _ hM).1; rw [h.kd.1] at this; omega)).same h2.1 h2.2
  · rw [h4]; exact own_offk h.log q (fun k hk => hn _ (by rw [(h.kl k hk).1]; omega))
  · rw [h5]; exact own_offk h.app q (fun k hk => hn _ (by rw [(h.ka k hk).1]; omega))
theorem RB.clr (h : RB w d m g n mx P U s B A) (q : Off [d] w w') (e : w'.heap[d]? = some (.cells (RDC P m mx B.cp B.lv (.slice none 0 0) s' B.av) 133 (0, 0)))
    (h1 : s'.ms = s.ms) (h2 : s'.v.sm = false) (h4 : s'.L = s.L) (h5 : s'.ap = s.ap) (hv : Vok s'.v) (hd : s'.dc ≤ P.t) (h6 : A' → A) : RB w' d m g n mx P U s' { B with vv := .slice none 0 0 } A' := by
  have hn : ∀ k, B.col k ≠ 0 → k ∉ [d] := fun k hk hm => by simp at hm; rw [hm, h.kd.1] at hk; exact hk rfl
  refine ⟨e, ?_, ?_, .inl ⟨h2, rfl⟩, ?_, ?_, h5 ▸ h.apb, hv, hd, fun k hk => Nat.lt_of_lt_of_le (h.ltU k hk) q.size, h.kd, h.km, h.kg, h.kc, h.kM, h.kl, h.ka, h.pok, h.n10, h.mx0, h.mxl, fun e => h.nl (by rw [← h4]; exact e)⟩
  · rw [h1]; exact h.mem.off q (hn _ (by rw [h.km.1]; omega)) (hn _ (by rw [h.kg.1]; omega))
  · intro hs
    obtain ⟨c1, c2, c3⟩ := h.cel (h6 hs)
    rw [h1]
    exact ⟨c1, c2.off q (hn _ (by rw [h.kc.1]; omega)), c3⟩
  · rw [h4]; exact own_offk h.log q (fun k hk => hn _ (by rw [(h.kl k hk).1]; omega))
  · rw [h5]; exact own_offk h.app q (fun k hk => hn _ (by rw [(h.ka k hk).1]; omega))
theorem RB.newd (h : RB w d m g n mx P U s B A) (q : Off [] w w') : RB w' d m g n mx P U s B A :=
  ⟨(q.block d h.dlt (by simp)).trans h.dev, h.mem.off q (by simp) (by simp), fun hs => ⟨(h.cel hs).1, (h.cel hs).2.1.off q (by simp), (h.cel hs).2.2⟩, h.val.off q (by simp), own_offk h.log q (by simp), own_offk h.app q (by simp), h.apb, h.vok, h.dcl, fun k hk => Nat.lt_of_lt_of_le (h.ltU k hk) q.size, h.kd, h.km, h.kg, h.kc, h.kM, h.kl, h.ka, h.pok, h.n10, h.mx0, h.mxl, h.nl⟩
end
end Go.Proofs.YtpgdghjlfdehjaaGreat
namespace Go.Proofs.YtpgdghjlfdehjaaGreat
set_option maxRecDepth 100000
open Go.RowKit
structure Iv (P : Pm) (s : Sd) : Prop where
  st1 : 1 ≤ s.st
  st6 : s.st ≤ 6
  ss : s.ss < 4294967296
  nm : s.nm < 4294967296
  sn : s.sn < 4294967296
  hs : s.st = 2 ∨ s.st = 3 → s.sn = 0 ∧ s.nm = 0 ∧ s.ss ≠ 0
  run : s.st = 4 → s.sn ≤ s.nm ∧ s.nm < P.n ∧ s.ss ≠ 0
  od : s.od < 4
  vr : s.v.run = decide (s.st = 4)
  vok : Vok s.v
  s0 : s.ss = 0 → s.nm = 0
  z : s.ss = 0 ∨ s.ss = vz s.ms.bs
  d6 : s.st = 6 → s.ap = (fun _ => 0) ∧ s.hd = false
structure Mo (mx n : Nat) (s : Sd) : Prop where
  n10 : 10 ≤ n
  mx0 : mx ≠ 0
  mxl : mx < 4294967296
  l0 : 0 ≤ s.ms.l
  bz : Bz s.ms.bs
  off : s.st ≠ 6 → s.ms.off = false
theorem Mo.of {w : World} {d m g n mx : Nat} {P : Pm} {U : List Nat} {s : Sd} (h : DV w d m g n mx P U s) : Mo mx n s := by
  obtain ⟨a, b, c, e, f, g⟩ := h.facts
  exact ⟨c, e, f, b, a, g⟩
section
variable {P : Pm} {mx n : Nat} {s : Sd}
theorem vtrip_run (v : Vs) (x : Int) : (vtrip v x).run = v.run := by unfold vtrip; split <;> rfl
theorem vrun_run (v : Vs) (o : Bool) : (vrun v o).run = o := by
  unfold vrun
  split
  · assumption
  · rfl
theorem vtake_run (v : Vs) (bs : Nat → Nat) : (vtake v bs).run = v.run := by unfold vtake; split <;> rfl
theorem vack_run (v : Vs) : (vack v).run = v.run := by unfold vack; split <;> rfl
theorem dlatch_v (s : Sd) (x : Int) : (dlatch s x).v = vtrip s.v x := by unfold dlatch dnote; split <;> rfl
theorem dlatch_flds (s : Sd) (x : Int) : (dlatch s x).st = s.st ∧ (dlatch s x).ss = s.ss ∧ (dlatch s x).nm = s.nm ∧ (dlatch s x).sn = s.sn ∧ (dlatch s x).od = s.od ∧ (dlatch s x).ms = s.ms ∧ (dlatch s x).ap = s.ap ∧ (dlatch s x).hd = s.hd := by unfold dlatch dnote; split <;> exact ⟨rfl, rfl, rfl, rfl, rfl, rfl, rfl, rfl⟩
theorem Iv.latch (h : Iv P s) (x : Int) : Iv P (dlatch s x) := by
  unfold dlatch dnote
  split
  · exact ⟨h.st1, h.st6, h.ss, h.nm, h.sn, h.hs, h.run, h.od, (vtrip_run _ _).trans h.vr, h.vok.trip x, h.s0, h.z, h.d6⟩
  · exact ⟨h.st1, h.st6, h.ss, h.nm, h.sn, h.hs, h.run, h.od, (vtrip_run _ _).trans h.vr, h.vok.trip x, h.s0, h.z, h.d6⟩
theorem Iv.note (h : Iv P s) (x : Int) : Iv P (dnote s x) := ⟨h.st1, h.st6, h.ss, h.nm, h.sn, h.hs, h.run, h.od, h.vr, h.vok, h.s0, h.z, h.d6⟩
theorem Iv.leave (hv : Vok s.v) {k : Nat} (h1 : 1 ≤ k) (h5 : k ≤ 5) (h4 : k ≠ 4) (h2 : k ≠ 2) (h3 : k ≠ 3) : Iv P (dleave s k) :=
  ⟨h1, Nat.le_succ_of_le h5, by show (0 : Nat) < _; omega, by show (0 : Nat) < _; omega, by show (0 : Nat) < _; omega, fun e => by have e : k = 2 ∨ k = 3 := e; omega, fun e => absurd e h4, by show (0 : Nat) < 4; omega, by
    show (vrun s.v false).run = decide (k = 4)
    rw [vrun_run, decide_eq_false h4], hv.run false, fun _ => rfl, .inl rfl, fun e => by have e : k = 6 := e; omega⟩
theorem Iv.life {k : Nat} (h1 : 1 ≤ k) (h6 : k ≤ 6) (h4 : k ≠ 4) (h2 : k ≠ 2) (h3 : k ≠ 3) : Iv P (dlife s k) :=
  ⟨h1, h6, by show (0 : Nat) < _; omega, by show (0 : Nat) < _; omega, by show (0 : Nat) < _; omega, fun e => by have e : k = 2 ∨ k = 3 := e; omega, fun e => absurd e h4, by show (0 : Nat) < 4; omega, (decide_eq_false h4).symm, Vok.new, fun _ => rfl, .inl rfl, fun _ => ⟨rfl, rfl⟩⟩
theorem Iv.odd (h : Iv P s) : Iv P (dodd s) := by
  unfold dodd
  split
  · split
    · rename_i h4
      exact ⟨h.st1, h.st6, h.ss, h.nm, h.sn, h.hs, h.run, h4, h.vr, h.vok, h.s0, h.z, h.d6⟩
    · refine Iv.leave ?_ (by omega) (by omega) (by omega) (by omega) (by omega)
      split
      · rw [dlatch_v]; exact h.vok.trip _
      · exact h.vok
  · exact h
theorem Iv.begin_ (h : Iv P s) (M : Mo mx n s) (hu : s.st ≠ 6) : Iv P (dbegin P mx n s).s := by
  have hv := nx_vz (mx := mx) (n := n) (s := s.ms) M.n10 (M.off hu) M.l0 M.mxl
  unfold dbegin
  generalize nx mx n s.ms.bs false s.ms = X at *
  have hm := M.mxl
  split
  · refine Iv.leave ?_ (by omega) (by omega) (by omega) (by omega) (by omega)
    rw [dlatch_v]; exact h.vok.trip _
  · split
    · exact Iv.life (by omega) (by omega) (by omega) (by omega) (by omega)
    · rename_i e0
      have e0 : X.e = 0 := by simpa using e0
      obtain ⟨v1, v2, v3⟩ := hv.1 e0
      refine ⟨by show 1 ≤ 2; omega, by show 2 ≤ 6; omega, by show X.v < _; omega, by show (0 : Nat) < _; omega, by show (0 : Nat) < _; omega, fun _ => ⟨rfl, rfl, by show X.v ≠ 0; omega⟩, fun e => by have e : (2 : Nat) = 4 := e; omega, by show (0 : Nat) < 4; omega, ?_, h.vok.run false, fun _ => rfl, .inr ?_, fun e => by have e : (2 : Nat) = 6 := e; omega⟩
      · show (vrun s.v false).run = decide ((2 : Nat) = 4)
        rw [vrun_run]; rfl
      · show X.v = vz X.s.bs
        omega
theorem Mo.odd (M : Mo mx n s) : Mo mx n (dodd s) := by
  refine ⟨M.n10, M.mx0, M.mxl, by rw [dodd_ms]; exact M.l0, by rw [dodd_ms]; exact M.bz, fun _ => ?_⟩
  rw [dodd_ms]
  by_cases h6 : s.st = 6
  · exfalso
    have : dodd s = s := by unfold dodd dbusy; rw [h6]; rfl
    rename_i hh
    rw [this] at hh
    exact hh h6
  · exact M.off h6
theorem Iv.wish (h : Iv P s) (M : Mo mx n s) (hu : s.st ≠ 6) : Iv P (dwish P mx n s).s := by
  unfold dwish
  split
  · exact h.odd
  · split
    · exact h.odd
    · exact h.odd.begin_ M.odd (dodd_up hu)
theorem Iv.echo (h : Iv P s) : Iv P (dechoS s) := by
  unfold dechoS
  split
  · rename_i h2
    have hq := h.hs (.inl h2)
    refine ⟨by show 1 ≤ 3; omega, by show 3 ≤ 6; omega, h.ss, h.nm, h.sn, fun _ => hq, fun e => by have e : (3 : Nat) = 4 := e; omega, by show (0 : Nat) < 4; omega, ?_, h.vok.fresh, h.s0, h.z, fun e => by have e : (3 : Nat) = 6 := e; omega⟩
    show s.v.run = decide ((3 : Nat) = 4)
    rw [h.vr, h2]; rfl
  · exact h
theorem Iv.start (h : Iv P s) (hP : Pok P) : Iv P (dstartS s) := by
  unfold dstartS
  split
  · rename_i h3
    have hq := h.hs (.inr h3)
    have := hP.n2
    refine ⟨by show 1 ≤ 4; omega, by show 4 ≤ 6; omega, h.ss, h.nm, h.sn, fun e => by have e : (4 : Nat) = 2 ∨ (4 : Nat) = 3 := e; omega, fun _ => ⟨by show s.sn ≤ s.nm; omega, by show s.nm < _; omega, hq.2.2⟩, by show (0 : Nat) < 4; omega, ?_, (h.vok.run true).fresh, h.s0, h.z, fun e => by have e : (4 : Nat) = 6 := e; omega⟩
    show (vrun s.v true).run = decide ((4 : Nat) = 4)
    rw [vrun_run]; rfl
  · exact h
theorem Iv.data (h : Iv P s) (hP : Pok P) {num fl : Nat} {bs : Nat → Nat} (h4 : s.st = 4) (hn : s.nm < num) (hc : num < P.n) : Iv P (ddataS s num fl bs) := by
  have hq := h.run h4
  have hp := hP.n
  refine ⟨h.st1, h.st6, h.ss, by show num < _; omega, by show s.sn + 1 < _; omega, fun e => by have e : s.st = 2 ∨ s.st = 3 := e; omega, fun _ => ⟨by show s.sn + 1 ≤ num; omega, hc, hq.2.2⟩, by show (0 : Nat) < 4; omega, ?_, (h.vok.fresh.hold _).take _, fun e => absurd e hq.2.2, h.z, fun e => by have e : s.st = 6 := e; omega⟩
  show (vtake (vhold (vfresh s.v) (decide (8 ≤ fl))) bs).run = decide (s.st = 4)
  rw [vtake_run]; exact h.vr
theorem Iv.last (h : Iv P s) (hP : Pok P) (h4 : s.st = 4) : Iv P (dendS (dlastS P s)) := by
  have hq := h.run h4
  have hp := hP.n
  obtain ⟨l1, l2, l3, l4, l5, l6, l7, l8⟩ := dlatch_flds (don { s with nm := P.n }) 80
  refine ⟨by show 1 ≤ 5; omega, by show 5 ≤ 6; omega, ?_, ?_, hp, fun e => by have e : (5 : Nat) = 2 ∨ (5 : Nat) = 3 := e; omega, fun e => by have e : (5 : Nat) = 4 := e; omega, ?_, ?_, ?_, ?_, ?_, fun e => by have e : (5 : Nat) = 6 := e; omega⟩
  · show (dlatch (don { s with nm := P.n }) 80).ss < _
    rw [l2]; exact h.ss
  · show (dlatch (don { s with nm := P.n }) 80).nm < _
    rw [l3]; exact hp
  · show (dlatch (don { s with nm := P.n }) 80).od < 4
    rw [l5]; show (0 : Nat) < 4; omega
  · show (vrun (dlatch (don { s with nm := P.n }) 80).v false).run = decide ((5 : Nat) = 4)
    rw [vrun_run]; rfl
  · show Vok (vrun (dlatch (don { s with nm := P.n }) 80).v false)
    rw [dlatch_v]
    exact (h.vok.fresh.trip _).run _
  · intro e
    have e : (dlatch (don { s with nm := P.n }) 80).ss = 0 := e
    rw [l2] at e
    exact absurd e hq.2.2
  · show (dlatch (don { s with nm := P.n }) 80).ss = 0 ∨ (dlatch (don { s with nm := P.n }) 80).ss = vz (dlatch (don { s with nm := P.n }) 80).ms.bs
    rw [l2, l6]; exact h.z
theorem Iv.take (h : Iv P s) (hP : Pok P) (M : Mo mx n s) (hu : s.st ≠ 6) (k ss num fl len : Nat) (bs : Nat → Nat) : Iv P (dtake P mx n s k ss num fl len bs).s := by
  unfold dtake
  split
  · split
    · exact h.wish M hu
    · exact h.odd
  · split
    · split
      · exact h.echo
      · exact h.odd
    · split
      · exact h.start hP
      · split
        · rename_i hh
          exact h.data hP hh.2.1.2.1 hh.2.1.2.2 hh.2.2.1
        · split
          · rename_i hh
            exact h.last hP hh.2.1.2.1
          · exact h.odd
theorem Iv.hear (h : Iv P s) (hP : Pok P) (M : Mo mx n s) (hu : s.st ≠ 6) (len : Nat) (bs : Nat → Nat) : Iv P (dhear P mx n s len bs).s := by
  unfold dhear
  split
  · exact h
  · split
    · exact h
    · split
      · exact h
      · exact h.take hP M hu _ _ _ _ _ _
theorem Iv.recv (h : Iv P s) (hP : Pok P) (M : Mo mx n s) (len : Nat) (bs : Nat → Nat) : Iv P (drecv P mx n s len bs).s := by
  unfold drecv
  split
  · exact h
  · rename_i hu
    split
    · exact (h.hear hP M hu len bs).note _
    · exact h.hear hP M hu len bs
theorem Iv.write (h : Iv P s) (len : Nat) (bs : Nat → Nat) (o : Bool) : Iv P (dwriteS P s len bs o) := by
  unfold dwriteS
  split
  · exact h
  · rename_i h6
    split
    · exact ⟨h.st1, h.st6, h.ss, h.nm, h.sn, h.hs, h.run, h.od, h.vr, h.vok, h.s0, h.z, fun e => absurd e h6⟩
    · exact h
theorem Iv.tick (h : Iv P s) (k : Int) : Iv P (dtickS P s k) := by
  unfold dtickS
  split
  · exact h
  · split
    · exact h
    · have h' : Iv P { s with dc := tk P.t s.dc k.toNat } := ⟨h.st1, h.st6, h.ss, h.nm, h.sn, h.hs, h.run, h.od, h.vr, h.vok, h.s0, h.z, h.d6⟩
      split
      · exact h'.latch _
      · exact h'
theorem Iv.ack (h : Iv P s) : Iv P (dackS s) := by
  unfold dackS
  split
  · exact h
  · exact ⟨h.st1, h.st6, h.ss, h.nm, h.sn, h.hs, h.run, h.od, (vack_run _).trans h.vr, h.vok.ack, h.s0, h.z, h.d6⟩
theorem Iv.reset (h : Iv P s) (k : Int) : Iv P (dresetS mx n s k) := by
  unfold dresetS
  split
  · exact h
  · split
    · exact Iv.life (by omega) (by omega) (by omega) (by omega) (by omega)
    · exact Iv.life (by omega) (by omega) (by omega) (by omega) (by omega)
theorem Iv.arm (h : Iv P s) (p : Int) : Iv P { s with ms := arS s.ms p } :=
  ⟨h.st1, h.st6, h.ss, h.nm, h.sn, h.hs, h.run, h.od, h.vr, h.vok, h.s0, by
    have : (arS s.ms p).bs = s.ms.bs := by unfold arS; split <;> rfl
    show s.ss = 0 ∨ s.ss = vz (arS s.ms p).bs
    rw [this]; exact h.z, h.d6⟩
theorem Iv.new_ (ms : Ms) : Iv P (dnew ms) :=
  ⟨by show 1 ≤ 1; omega, by show 1 ≤ 6; omega, by show (0 : Nat) < _; omega, by show (0 : Nat) < _; omega, by show (0 : Nat) < _; omega, fun e => by have e : (1 : Nat) = 2 ∨ (1 : Nat) = 3 := e; omega, fun e => by have e : (1 : Nat) = 4 := e; omega, by show (0 : Nat) < 4; omega, rfl, Vok.new, fun _ => rfl, .inl rfl, fun e => by have e : (1 : Nat) = 6 := e; omega⟩
theorem Iv.sent (h : Iv P s) (hP : Pok P) : s.st = 4 → s.sn + 1 < 4294967296 := fun e => by
  have := h.run e
  have := hP.n
  omega
def Gw (a b : Sd) : Prop := b.L.length ≤ a.L.length + 3 ∧ b.ms.t ≤ a.ms.t + 6
theorem dbegin_t (M : Mo mx n s) : (dbegin P mx n s).s.ms.t ≤ s.ms.t + 6 := by
  have ht := nx_t mx n s.ms.bs false s.ms M.n10 M.l0
  unfold dbegin
  generalize nx mx n s.ms.bs false s.ms = X at *
  split
  · show (dlatch { s with ms := X.s } 80).ms.t ≤ _
    rw [dlatch_ms]; exact ht
  · split
    · exact ht
    · exact ht
theorem dwish_t (M : Mo mx n s) : (dwish P mx n s).s.ms.t ≤ s.ms.t + 6 := by
  have e := dodd_ms s
  unfold dwish
  split
  · show (dodd s).ms.t ≤ _; rw [e]; omega
  · split
    · show (dodd s).ms.t ≤ _; rw [e]; omega
    · have := dbegin_t (P := P) M.odd
      rw [e] at this; exact this
theorem dtake_t (M : Mo mx n s) (k ss num fl len : Nat) (bs : Nat → Nat) : (dtake P mx n s k ss num fl len bs).s.ms.t ≤ s.ms.t + 6 := by
  have e := dodd_ms s
  have r : ∀ x : Int, (drefuse P s x).s.ms.t ≤ s.ms.t + 6 := fun x => by show (dodd s).ms.t ≤ _; rw [e]; omega
  unfold dtake
  split
  · split
    · exact dwish_t M
    · exact r _
  · split
    · split
      · show (dechoS s).ms.t ≤ _; unfold dechoS; split <;> (show s.ms.t ≤ _; omega)
      · exact r _
    · split
      · show (dstartS s).ms.t ≤ _; unfold dstartS; split <;> (show s.ms.t ≤ _; omega)
      · split
        · show s.ms.t ≤ _; omega
        · split
          · show (dlatch (don { s with nm := P.n }) 80).ms.t ≤ _
            rw [dlatch_ms]; show s.ms.t ≤ _; omega
          · exact r _
theorem gw_recv (M : Mo mx n s) (len : Nat) (bs : Nat → Nat) : Gw s (drecv P mx n s len bs).s := by
  have h1 := dhear_len P mx n s len bs
  have h2 : (dhear P mx n s len bs).s.ms.t ≤ s.ms.t + 6 := by
    unfold dhear
    split
    · show s.ms.t ≤ _; omega
    · split
      · show s.ms.t ≤ _; omega
      · split
        · show s.ms.t ≤ _; omega
        · exact dtake_t M _ _ _ _ _ _
  unfold drecv
  split
  · exact ⟨by show s.L.length ≤ _; omega, by show s.ms.t ≤ _; omega⟩
  · split
    · exact ⟨by show ((dhear P mx n s len bs).s.L ++ [_]).length ≤ _; simp; omega, h2⟩
    · exact ⟨by omega, h2⟩
theorem gw_tick (k : Int) : Gw s (dtickS P s k) := by
  unfold dtickS
  split
  · exact ⟨by omega, by omega⟩
  · split
    · exact ⟨by omega, by omega⟩
    · split
      · refine ⟨?_, ?_⟩
        · have := dlatch_len { s with dc := tk P.t s.dc k.toNat } 100
          have e : ({ s with dc := tk P.t s.dc k.toNat } : Sd).L.length = s.L.length := rfl
          omega
        · rw [dlatch_ms]; show s.ms.t ≤ _; omega
      · exact ⟨by show s.L.length ≤ _; omega, by show s.ms.t ≤ _; omega⟩
theorem gw_ack : Gw s (dackS s) := by
  unfold dackS
  split <;> exact ⟨by show s.L.length ≤ _; omega, by show s.ms.t ≤ _; omega⟩
theorem gw_write (len : Nat) (bs : Nat → Nat) (o : Bool) : Gw s (dwriteS P s len bs o) := by
  unfold dwriteS
  split
  · exact ⟨by omega, by omega⟩
  · split <;> exact ⟨by show s.L.length ≤ _; omega, by show s.ms.t ≤ _; omega⟩
theorem gw_reset (M : Mo mx n s) (k : Int) : Gw s (dresetS mx n s k) := by
  obtain ⟨_, h2, h3⟩ := reset_vz (mx := mx) (n := n) s k M.bz M.l0
  exact ⟨by rw [h3]; omega, h2⟩
theorem gw_arm (p : Int) : Gw s { s with ms := arS s.ms p } := ⟨by show s.L.length ≤ _; omega, by
  have : (arS s.ms p).t = s.ms.t := by unfold arS; split <;> rfl
  show (arS s.ms p).t ≤ _; omega⟩
end
end Go.Proofs.YtpgdghjlfdehjaaGreat
namespace Go.Proofs.YtpgdghjlfdehjaaGreat
set_option maxRecDepth 100000
open Go.RowKit
def Ak (v v' : Vs) : Prop := von v' = true → von v = true ∧ v'.bs = v.bs
theorem Ak.refl (v : Vs) : Ak v v := fun h => ⟨h, rfl⟩
theorem Ak.trans {a b c : Vs} (h : Ak a b) (k : Ak b c) : Ak a c := fun e => ⟨(h (k e).1).1, (k e).2.trans (h (k e).1).2⟩
theorem Ak.off {a b : Vs} (h : von b = false) : Ak a b := fun e => by rw [h] at e; cases e
theorem ak_trip (v : Vs) (x : Int) : Ak v (vtrip v x) := by
  unfold vtrip
  split
  · exact Ak.refl v
  · exact Ak.off (by unfold von; simp)
theorem ak_run (v : Vs) (o : Bool) : Ak v (vrun v o) := by
  unfold vrun
  split
  · exact Ak.refl v
  · exact Ak.off (by unfold von; simp)
theorem ak_fresh (v : Vs) : Ak v (vfresh v) := fun e => ⟨e, rfl⟩
theorem ak_ack (v : Vs) : Ak v (vack v) := by
  unfold vack
  split
  · exact fun e => ⟨e, rfl⟩
  · exact Ak.refl v
theorem von_run {v : Vs} (h : von v = true) : v.run = true ∧ v.sm = true := by
  unfold von at h
  revert h
  cases v.run <;> cases v.held <;> cases v.sm <;> decide
theorem Iv.on {P : Pm} {s : Sd} (h : Iv P s) (ho : von s.v = true) : s.st = 4 ∧ s.v.lat = 0 := by
  obtain ⟨h1, h2⟩ := von_run ho
  rw [h.vr] at h1
  exact ⟨of_decide_eq_true h1, h.vok.sm h2⟩
structure Nt (s s' : Sd) : Prop where
  nm : s'.ss = s.ss → s'.nm = s.nm
  zz : vz s.ms.bs ≤ vz s'.ms.bs
  up : s'.ss = s.ss ∨ s'.ss = 0 ∨ vz s.ms.bs < s'.ss
  ak : Ak s.v s'.v
structure Ac (P : Pm) (s s' : Sd) (len : Nat) (bs : Nat → Nat) : Prop where
  de : DE bs len = 0
  kd : bs 0 = 4 ∨ bs 0 = 5
  st : s.st = 4
  ss : s'.ss = s.ss
  nm : s.nm < s'.nm
  ms : s'.ms = s.ms
  w5 : w4v bs 5 = s'.ss
  w9 : w4v bs 9 = s'.nm
  out : von s'.v = true → len - 19 = P.o ∧ s'.v.bs = fun i => bs (15 + i)
theorem Nt.refl (s : Sd) : Nt s s := ⟨fun _ => rfl, Nat.le_refl _, .inl rfl, Ak.refl _⟩
theorem Nt.same {s s' : Sd} (h1 : s'.ss = s.ss) (h2 : s'.nm = s.nm) (h3 : s'.ms.bs = s.ms.bs) (h4 : Ak s.v s'.v) : Nt s s' := ⟨fun _ => h2, by rw [h3]; exact Nat.le_refl _, .inl h1, h4⟩
theorem Nt.zero {P : Pm} {s s' : Sd} (h : Iv P s) (h1 : s'.ss = 0) (h2 : s'.nm = 0) (h3 : vz s.ms.bs ≤ vz s'.ms.bs) (h4 : Ak s.v s'.v) : Nt s s' := ⟨fun e => by rw [h2, h.s0 (by omega)], h3, .inr (.inl h1), h4⟩
theorem Nt.latch (s : Sd) (x : Int) : Nt s (dlatch s x) := by
  obtain ⟨_, l2, l3, _, _, l6, _, _⟩ := dlatch_flds s x
  exact Nt.same l2 l3 (by rw [l6]) (by rw [dlatch_v]; exact ak_trip _ _)
theorem vrun_off (v : Vs) : von (vrun v false) = false := by unfold von; rw [vrun_run]; rfl
theorem von_new : von vnew = false := rfl
theorem Nt.odd {P : Pm} {s : Sd} (h : Iv P s) : Nt s (dodd s) := by
  have hm : (dodd s).ms.bs = s.ms.bs := by rw [dodd_ms]
  revert hm
  unfold dodd
  split
  · split
    · exact fun _ => Nt.same rfl rfl rfl (Ak.refl _)
    · exact fun hm => Nt.zero h rfl rfl (by rw [hm]; exact Nat.le_refl _) (Ak.off (vrun_off _))
  · exact fun _ => Nt.refl _
theorem Nt.begin_ {P : Pm} {mx n : Nat} {s : Sd} (h : Iv P s) (M : Mo mx n s) (hu : s.st ≠ 6) : Nt s (dbegin P mx n s).s := by
  have hv := nx_vz (mx := mx) (n := n) (s := s.ms) M.n10 (M.off hu) M.l0 M.mxl
  unfold dbegin
  generalize nx mx n s.ms.bs false s.ms = X at *
  split
  · rename_i h80
    refine Nt.zero h rfl rfl ?_ (Ak.off (vrun_off _))
    show _ ≤ vz (dlatch { s with ms := X.s } 80).ms.bs
    rw [dlatch_ms]
    show _ ≤ vz X.s.bs
    rw [hv.2 (by omega)]; exact Nat.le_refl _
  · split
    · rename_i h0
      refine Nt.zero h rfl rfl ?_ (Ak.off von_new)
      show _ ≤ vz X.s.bs
      rw [hv.2 h0]; exact Nat.le_refl _
    · rename_i e0
      have e0 : X.e = 0 := by simpa using e0
      obtain ⟨v1, v2, v3⟩ := hv.1 e0
      have hz := h.z
      refine ⟨fun e => ?_, ?_, .inr (.inr ?_), Ak.off (vrun_off _)⟩
      · have e : X.v = s.ss := e
        omega
      · show _ ≤ vz X.s.bs
        omega
      · show _ < X.v
        omega
theorem Nt.trans_odd {P : Pm} {s s' : Sd} (h : Iv P s) (k : Nt (dodd s) s') : Nt s s' := by
  have o := Nt.odd h
  have hm : vz (dodd s).ms.bs = vz s.ms.bs := by rw [dodd_ms]
  have hs : (dodd s).ss = s.ss ∧ (dodd s).nm = s.nm ∨ (dodd s).ss = 0 ∧ (dodd s).nm = 0 := by
    unfold dodd
    split
    · split
      · exact .inl ⟨rfl, rfl⟩
      · exact .inr ⟨rfl, rfl⟩
    · exact .inl ⟨rfl, rfl⟩
  have kv := k.zz
  have ku := k.up
  have hz := h.z
  have h0 := h.s0
  refine ⟨fun e => ?_, by omega, ?_, o.ak.trans k.ak⟩
  · rcases hs with ⟨a, b⟩ | ⟨a, b⟩
    · rw [← b]; exact k.nm (by omega)
    · by_cases z : s.ss = 0
      · rw [k.nm (by omega), b, h0 z]
      · exfalso; omega
  · rcases hs with ⟨a, b⟩ | ⟨a, b⟩ <;> omega
theorem Nt.wish {P : Pm} {mx n : Nat} {s : Sd} (h : Iv P s) (M : Mo mx n s) (hu : s.st ≠ 6) : Nt s (dwish P mx n s).s := by
  unfold dwish
  split
  · exact Nt.odd h
  · split
    · exact Nt.odd h
    · exact Nt.trans_odd h (Nt.begin_ h.odd M.odd (dodd_up hu))
theorem Nt.echo (s : Sd) : Nt s (dechoS s) := by
  unfold dechoS
  split
  · exact Nt.same rfl rfl rfl (ak_fresh _)
  · exact Nt.refl _
theorem Nt.start (s : Sd) : Nt s (dstartS s) := by
  unfold dstartS
  split
  · exact Nt.same rfl rfl rfl ((ak_run s.v true).trans (ak_fresh _))
  · exact Nt.refl _
theorem take_on {P : Pm} {s : Sd} (h : Iv P s) (h4 : s.st = 4) (o : Bool) (bs : Nat → Nat) (ho : von (vtake (vhold (vfresh s.v) o) bs) = true) : (vtake (vhold (vfresh s.v) o) bs).bs = bs := by
  have hr : s.v.run = true := by rw [h.vr, h4]; rfl
  revert ho
  unfold vtake
  split
  · exact fun _ => rfl
  · rename_i hh
    intro ho
    exfalso
    have hl := h.vok.sm (von_run ho).2
    exact hh ⟨hr, hl⟩
theorem rise_take {P : Pm} {mx n : Nat} {s : Sd} (h : Iv P s) (M : Mo mx n s) (hu : s.st ≠ 6) (k ss num fl len : Nat) (bs : Nat → Nat) :
    Nt s (dtake P mx n s k ss num fl len bs).s ∨ ((k = 4 ∨ k = 5) ∧ s.st = 4 ∧ (dtake P mx n s k ss num fl len bs).s.ss = s.ss ∧ s.nm < (dtake P mx n s k ss num fl len bs).s.nm ∧ (dtake P mx n s k ss num fl len bs).s.ms = s.ms ∧ ss = (dtake P mx n s k ss num fl len bs).s.ss ∧ num = (dtake P mx n s k ss num fl len bs).s.nm ∧ (von (dtake P mx n s k ss num fl len bs).s.v = true → len = P.o ∧ (dtake P mx n s k ss num fl len bs).s.v.bs = bs)) := by
  unfold dtake
  split
  · split
    · exact .inl (Nt.wish h M hu)
    · exact .inl (Nt.odd h)
  · split
    · split
      · exact .inl (Nt.echo s)
      · exact .inl (Nt.odd h)
    · split
      · exact .inl (Nt.start s)
      · split
        · rename_i hh
          obtain ⟨e0, ⟨e1, e2, e3⟩, e4, e5⟩ := hh
          exact .inr ⟨.inl e0, e2, rfl, e3, rfl, e1, rfl, fun ho => ⟨e5, take_on h e2 _ bs ho⟩⟩
        · split
          · rename_i hh
            obtain ⟨e0, ⟨e1, e2, e3⟩, e4⟩ := hh
            obtain ⟨l1, l2, l3, l4, l5, l6, l7, l8⟩ := dlatch_flds (don { s with nm := P.n }) 80
            refine .inr ⟨.inr e0, e2, ?_, ?_, ?_, ?_, ?_, ?_⟩
            · exact l2
            · show s.nm < (dlatch (don { s with nm := P.n }) 80).nm
              rw [l3]; show s.nm < P.n; omega
            · exact l6
            · exact e1.trans l2.symm
            · exact e4.trans l3.symm
            · intro ho
              have ho : von (vrun (dlatch (don { s with nm := P.n }) 80).v false) = true := ho
              rw [vrun_off] at ho; cases ho
          · exact .inl (Nt.odd h)
theorem rise_recv {P : Pm} {mx n : Nat} {s : Sd} (h : Iv P s) (M : Mo mx n s) (len : Nat) (bs : Nat → Nat) :
    Nt s (drecv P mx n s len bs).s ∨ Ac P s (drecv P mx n s len bs).s len bs := by
  have hh : s.st ≠ 6 → Nt s (dhear P mx n s len bs).s ∨ Ac P s (dhear P mx n s len bs).s len bs := by
    intro hu
    unfold dhear
    split
    · exact .inl (Nt.refl _)
    · rename_i hd
      split
      · exact .inl (Nt.refl _)
      · split
        · exact .inl (Nt.refl _)
        · rcases rise_take h M hu (bs 0) (w4v bs 5) (w4v bs 9) (bs 13) (len - 19) (fun i => bs (15 + i)) with a | ⟨a0, a1, a2, a3, a4, a5, a6, a7⟩
          · exact .inl a
          · exact .inr ⟨by simpa using hd, a0, a1, a2, a3, a4, a5, a6, a7⟩
  unfold drecv
  split
  · exact .inl (Nt.refl _)
  · rename_i hu
    split
    · rcases hh hu with a | a
      · exact .inl ⟨a.nm, a.zz, a.up, a.ak⟩
      · exact .inr ⟨a.de, a.kd, a.st, a.ss, a.nm, a.ms, a.w5, a.w9, a.out⟩
    · exact hh hu
theorem Nt.write {P : Pm} (s : Sd) (len : Nat) (bs : Nat → Nat) (o : Bool) : Nt s (dwriteS P s len bs o) := by
  unfold dwriteS
  split
  · exact Nt.refl _
  · split
    · exact Nt.same rfl rfl rfl (Ak.refl _)
    · exact Nt.refl _
theorem Nt.tick {P : Pm} (s : Sd) (k : Int) : Nt s (dtickS P s k) := by
  unfold dtickS
  split
  · exact Nt.refl _
  · split
    · exact Nt.refl _
    · split
      · have := Nt.latch { s with dc := tk P.t s.dc k.toNat } 100
        exact ⟨this.nm, this.zz, this.up, this.ak⟩
      · exact Nt.same rfl rfl rfl (Ak.refl _)
theorem Nt.ack (s : Sd) : Nt s (dackS s) := by
  unfold dackS
  split
  · exact Nt.refl _
  · exact Nt.same rfl rfl rfl (ak_ack _)
theorem Nt.reset {P : Pm} {mx n : Nat} {s : Sd} (h : Iv P s) (M : Mo mx n s) (k : Int) : Nt s (dresetS mx n s k) := by
  have hz := (reset_vz (mx := mx) (n := n) s k M.bz M.l0).1
  revert hz
  unfold dresetS
  split
  · exact fun _ => Nt.refl _
  · exact fun hz => Nt.zero h rfl rfl (by rw [hz]; exact Nat.le_refl _) (Ak.off von_new)
theorem Nt.arm (s : Sd) (p : Int) : Nt s { s with ms := arS s.ms p } :=
  Nt.same rfl rfl (by show (arS s.ms p).bs = s.ms.bs; unfold arS; split <;> rfl) (Ak.refl _)
structure Lh (s : Sd) (a b : Nat) : Prop where
  sa : a ≤ vz s.ms.bs
  nb : s.ss ≠ 0 → s.ss = a → b ≤ s.nm
theorem Lh.nt {s s' : Sd} {a b : Nat} (h : Lh s a b) (k : Nt s s') : Lh s' a b := by
  have h1 := h.sa
  have h2 := k.zz
  refine ⟨by omega, fun e0 e => ?_⟩
  rcases k.up with u | u | u
  · rw [k.nm u]; exact h.nb (by omega) (by omega)
  · exact absurd u e0
  · omega
theorem Lh.ac {P : Pm} {s s' : Sd} {a b len : Nat} {bs : Nat → Nat} (h : Lh s a b) (i : Iv P s) (k : Ac P s s' len bs) : (a < s'.ss ∨ a = s'.ss ∧ b < s'.nm) ∧ Lh s' s'.ss s'.nm := by
  have h1 := h.sa
  have h2 := i.z
  have h3 := (i.run k.st).2.2
  have h4 := h.nb h3
  have h5 := k.nm
  have h6 := k.ss
  refine ⟨?_, by rw [k.ms]; omega, fun _ _ => Nat.le_refl _⟩
  by_cases e : s.ss = a
  · have := h4 e
    exact .inr ⟨by omega, by omega⟩
  · exact .inl (by omega)
end Go.Proofs.YtpgdghjlfdehjaaGreat
namespace Go.Proofs.YtpgdghjlfdehjaaGreat
set_option maxRecDepth 100000
open Go.RowKit
set_option maxHeartbeats 1600000 in
theorem rqv_any (d m g n mx : Nat) (P : Pm) (U : List Nat) (s : Sd) (B : Bk2) (A : Prop) (w : World) (h : RB w d m g n mx P U s B A) :
    Calls Tryz.prog 147 #[.pointer (some ⟨d, 11, none⟩)] w fun e w' => e = .returned (.bool (vreq s.v)) ∧ w' = w := by
  have c12 : w.cell? ⟨d, 12, none⟩ = some (.bool s.v.run) := cell_of_row w d 12 _ _ _ h.dev
  have c14 : w.cell? ⟨d, 14, none⟩ = some (.bool s.v.fr) := cell_of_row w d 14 _ _ _ h.dev
  have c15 : w.cell? ⟨d, 15, none⟩ = some (.int .i64 s.v.lat) := cell_of_row w d 15 _ _ _ h.dev
  clear h
  unfold vreq
  cases hr : s.v.run
  · rw [hr] at c12
    go_enter Tryz.func147, Tryz.ntmps147
    go_wp2_with fail
    go_ret
    exact ⟨rfl, rfl⟩
  · rw [hr] at c12
    by_cases hl : s.v.lat = 0
    · rw [hl] at c15 ⊢
      go_enter Tryz.func147, Tryz.ntmps147
      go_wp2_with fail
      go_ret
      exact ⟨rfl, rfl⟩
    · go_enter Tryz.func147, Tryz.ntmps147
      go_wp2_with fail
      go_ret
      exact ⟨rfl, rfl⟩
set_option maxHeartbeats 1600000 in
theorem rrunv_any (d m g n mx : Nat) (P : Pm) (U : List Nat) (s : Sd) (B : Bk2) (A : Prop) (o : Bool) (w : World) (h : RB w d m g n mx P U s B A) :
    Calls Tryz.prog 95 #[.pointer (some ⟨d, 11, none⟩), .bool o] w fun e w' => e = .returned (.tuple #[]) ∧ Hid (Gr U w U w' ∧ ∃ B', RB w' d m g n mx P U { s with v := vrun s.v o } B' A) := by
  have c12 : w.cell? ⟨d, 12, none⟩ = some (.bool s.v.run) := cell_of_row w d 12 _ _ _ h.dev
  have c13 : w.cell? ⟨d, 13, none⟩ = some (.bool s.v.held) := cell_of_row w d 13 _ _ _ h.dev
  have c16 : w.cell? ⟨d, 16, none⟩ = some B.vv := cell_of_row w d 16 _ _ _ h.dev
  have c17 : w.cell? ⟨d, 17, none⟩ = some (.bool s.v.sm) := cell_of_row w d 17 _ _ _ h.dev
  have z12 := h.fz 12
  have z13 := h.fz 13
  have z16 := h.fz 16
  have z17 := h.fz 17
  unfold vrun
  by_cases hr : s.v.run = o
  · rw [if_pos hr]
    have H : Hid (_) := h
    rw [hr] at c12
    clear h
    cases o
    all_goals
      go_enter Tryz.func95, Tryz.ntmps95
      go_wp2_with fail
      refine bodyPost_ret (results_none rfl _ _ _) rfl ?_
      exact ⟨rfl, Gr.refl _ _, B, H.out⟩
  · rw [if_neg hr]
    have e1 : (w.setCell ⟨d, 12, none⟩ (.bool o)).heap[d]? = some (.cells (RDC P m mx B.cp B.lv B.vv { s with v := { s.v with run := o } } B.av) 133 (0, 0)) := heap_setCell_same _ _ _ _ _ _ h.dev
    have e2 : ((w.setCell ⟨d, 12, none⟩ (.bool o)).setCell ⟨d, 13, none⟩ (.bool false)).heap[d]? = some (.cells (RDC P m mx B.cp B.lv B.vv { s with v := { s.v with run := o, held := false } } B.av) 133 (0, 0)) := heap_setCell_same _ _ _ _ _ _ e1
    have e3 : (((w.setCell ⟨d, 12, none⟩ (.bool o)).setCell ⟨d, 13, none⟩ (.bool false)).setCell ⟨d, 17, none⟩ (.bool false)).heap[d]? = some (.cells (RDC P m mx B.cp B.lv B.vv { s with v := { s.v with run := o, held := false, sm := false } } B.av) 133 (0, 0)) := heap_setCell_same _ _ _ _ _ _ e2
    have e4 : ((((w.setCell ⟨d, 12, none⟩ (.bool o)).setCell ⟨d, 13, none⟩ (.bool false)).setCell ⟨d, 17, none⟩ (.bool false)).setCell ⟨d, 16, none⟩ (.slice none 0 0)).heap[d]? = some (.cells (RDC P m mx B.cp B.lv (.slice none 0 0) { s with v := { s.v with run := o, held := false, sm := false } } B.av) 133 (0, 0)) := heap_setCell_same _ _ _ _ _ _ e3
    have o4 := (((Off.setCell d 12 w (.bool o)).trans (Off.setCell d 13 _ (.bool false))).trans (Off.setCell d 17 _ (.bool false))).trans (Off.setCell d 16 _ (.slice none 0 0))
    have F : Hid (_) := And.intro (Gr.same (U := U) o4 (by simp [h.kd.2])) (h.clr (A' := A) o4 e4 rfl rfl rfl rfl ⟨h.vok.fr, fun h => by cases h⟩ h.dcl id)
    clear h e1 e2 e3 e4 o4
    have hr' : s.v.run = !o := by cases o <;> cases hq : s.v.run <;> simp_all
    rw [hr'] at c12
    clear hr
    cases o
    all_goals
      go_enter Tryz.func95, Tryz.ntmps95
      go_wp2_with fail
      go_end0
      exact ⟨rfl, F.out.1, _, F.out.2⟩
set_option maxHeartbeats 1600000 in
theorem rcomev_any (d m g n mx : Nat) (P : Pm) (U : List Nat) (s : Sd) (B : Bk2) (A : Prop) (w : World) (h : RB w d m g n mx P U s B A) :
    Calls Tryz.prog 196 #[.pointer (some ⟨d, 11, none⟩)] w fun e w' => e = .returned (.tuple #[]) ∧ Hid (Gr U w U w' ∧ ∃ B', RB w' d m g n mx P U { s with v := vfresh s.v } B' A) := by
  have c14 : w.cell? ⟨d, 14, none⟩ = some (.bool s.v.fr) := cell_of_row w d 14 _ _ _ h.dev
  have c15 : w.cell? ⟨d, 15, none⟩ = some (.int .i64 s.v.lat) := cell_of_row w d 15 _ _ _ h.dev
  have z14 := h.fz 14
  by_cases hl : s.v.lat = 0
  · have hf : vfresh s.v = s.v := by
      have e : (s.v.lat != 0) = s.v.fr := by rw [h.vok.fr hl]; simpa using hl
      show ({ s.v with fr := (s.v.lat != 0) } : Vs) = s.v
      rw [e]
    rw [hf]
    have H : Hid (_) := h
    rw [hl] at c15
    clear h hf
    go_enter Tryz.func196, Tryz.ntmps196
    go_wp2_with fail
    go_end0
    exact ⟨rfl, Gr.refl _ _, B, H.out⟩
  · have e1 : (w.setCell ⟨d, 14, none⟩ (.bool true)).heap[d]? = some (.cells (RDC P m mx B.cp B.lv B.vv { s with v := vfresh s.v } B.av) 133 (0, 0)) := by
      have : (s.v.lat != 0) = true := by simpa using hl
      unfold vfresh
      rw [this]
      exact heap_setCell_same _ _ _ _ _ _ h.dev
    have o1 := Off.setCell d 14 w (.bool true)
    have F : Hid (_) := And.intro (Gr.same (U := U) o1 (by simp [h.kd.2])) (h.own (A' := A) (s' := { s with v := vfresh s.v }) o1 e1 rfl ⟨rfl, rfl⟩ rfl rfl h.vok.fresh h.dcl id)
    have hl' : (s.v.lat != 0) = true := by simpa using hl
    clear h e1 o1 hl
    go_enter Tryz.func196, Tryz.ntmps196
    go_wp2_with fail
    go_end0
    exact ⟨rfl, F.out.1, _, F.out.2⟩
set_option maxHeartbeats 1600000 in
theorem rtripv_any (d m g n mx : Nat) (P : Pm) (U : List Nat) (s : Sd) (B : Bk2) (A : Prop) (x : Int) (w : World) (h : RB w d m g n mx P U s B A) (hx : x ≠ 0) :
    Calls Tryz.prog 154 #[.pointer (some ⟨d, 11, none⟩), .int .i64 x] w fun e w' => e = .returned (.bool (vtripB s.v x)) ∧ Hid (Gr U w U w' ∧ ∃ B', RB w' d m g n mx P U { s with v := vtrip s.v x } B' A) := by
  have c14 : w.cell? ⟨d, 14, none⟩ = some (.bool s.v.fr) := cell_of_row w d 14 _ _ _ h.dev
  have c15 : w.cell? ⟨d, 15, none⟩ = some (.int .i64 s.v.lat) := cell_of_row w d 15 _ _ _ h.dev
  have c16 : w.cell? ⟨d, 16, none⟩ = some B.vv := cell_of_row w d 16 _ _ _ h.dev
  have c17 : w.cell? ⟨d, 17, none⟩ = some (.bool s.v.sm) := cell_of_row w d 17 _ _ _ h.dev
  have z14 := h.fz 14
  have z15 := h.fz 15
  have z16 := h.fz 16
  have z17 := h.fz 17
  have e1 : (w.setCell ⟨d, 17, none⟩ (.bool false)).heap[d]? = some (.cells (RDC P m mx B.cp B.lv B.vv { s with v := { s.v with sm := false } } B.av) 133 (0, 0)) := heap_setCell_same _ _ _ _ _ _ h.dev
  have e2 : ((w.setCell ⟨d, 17, none⟩ (.bool false)).setCell ⟨d, 16, none⟩ (.slice none 0 0)).heap[d]? = some (.cells (RDC P m mx B.cp B.lv (.slice none 0 0) { s with v := { s.v with sm := false } } B.av) 133 (0, 0)) := heap_setCell_same _ _ _ _ _ _ e1
  have e3 : (((w.setCell ⟨d, 17, none⟩ (.bool false)).setCell ⟨d, 16, none⟩ (.slice none 0 0)).setCell ⟨d, 14, none⟩ (.bool false)).heap[d]? = some (.cells (RDC P m mx B.cp B.lv (.slice none 0 0) { s with v := { s.v with sm := false, fr := false } } B.av) 133 (0, 0)) := heap_setCell_same _ _ _ _ _ _ e2
  have o3 := ((Off.setCell d 17 w (.bool false)).trans (Off.setCell d 16 _ (.slice none 0 0))).trans (Off.setCell d 14 _ (.bool false))
  have hx0 : (x == 0) = false := by simpa using hx
  have hx1 : (x = 0) = False := by simpa using hx
  unfold vtrip vtripB
  rw [if_neg hx]
  by_cases hl : s.v.lat = 0
  · rw [if_pos hl, decide_eq_true ⟨hx, hl⟩]
    have e4 : ((((w.setCell ⟨d, 17, none⟩ (.bool false)).setCell ⟨d, 16, none⟩ (.slice none 0 0)).setCell ⟨d, 14, none⟩ (.bool false)).setCell ⟨d, 15, none⟩ (.int .i64 x)).heap[d]? = some (.cells (RDC P m mx B.cp B.lv (.slice none 0 0) { s with v := { s.v with sm := false, fr := false, lat := x } } B.av) 133 (0, 0)) := heap_setCell_same _ _ _ _ _ _ e3
    have o4 := o3.trans (Off.setCell d 15 _ (.int .i64 x))
    have F : Hid (_) := And.intro (Gr.same (U := U) o4 (by simp [h.kd.2])) (h.clr (A' := A) (s' := { s with v := { s.v with fr := false, sm := false, lat := x } }) o4 e4 rfl rfl rfl rfl ⟨fun _ => rfl, fun h => by cases h⟩ h.dcl id)
    rw [hl] at c15
    clear h e1 e2 e3 e4 o3 o4 hl hx
    go_enter Tryz.func154, Tryz.ntmps154
    go_wp2_with fail
    go_ret
    exact ⟨rfl, F.out.1, _, F.out.2⟩
  · rw [if_neg hl, decide_eq_false (fun k => hl k.2)]
    have F : Hid (_) := And.intro (Gr.same (U := U) o3 (by simp [h.kd.2])) (h.clr (A' := A) (s' := { s with v := { s.v with fr := false, sm := false } }) o3 e3 rfl rfl rfl rfl ⟨fun _ => rfl, fun h => by cases h⟩ h.dcl id)
    have hl' : (s.v.lat != 0) = true := by simpa using hl
    clear h e1 e2 e3 o3 hl hx
    go_enter Tryz.func154, Tryz.ntmps154
    go_wp2_with fail
    go_ret
    exact ⟨rfl, F.out.1, _, F.out.2⟩
set_option maxHeartbeats 1600000 in
theorem rholdv_any (d m g n mx : Nat) (P : Pm) (U : List Nat) (s : Sd) (B : Bk2) (A : Prop) (o : Bool) (w : World) (h : RB w d m g n mx P U s B A) :
    Calls Tryz.prog 144 #[.pointer (some ⟨d, 11, none⟩), .bool o] w fun e w' => e = .returned (.tuple #[]) ∧ Hid (Gr U w U w' ∧ ∃ B', RB w' d m g n mx P U { s with v := vhold s.v o } B' A) := by
  have c12 : w.cell? ⟨d, 12, none⟩ = some (.bool s.v.run) := cell_of_row w d 12 _ _ _ h.dev
  have c13 : w.cell? ⟨d, 13, none⟩ = some (.bool s.v.held) := cell_of_row w d 13 _ _ _ h.dev
  have z13 := h.fz 13
  have e1 : (w.setCell ⟨d, 13, none⟩ (.bool (o && s.v.run))).heap[d]? = some (.cells (RDC P m mx B.cp B.lv B.vv { s with v := vhold s.v o } B.av) 133 (0, 0)) := heap_setCell_same _ _ _ _ _ _ h.dev
  have o1 := Off.setCell d 13 w (.bool (o && s.v.run))
  have F : Hid (_) := And.intro (Gr.same (U := U) o1 (by simp [h.kd.2])) (h.own (A' := A) (s' := { s with v := vhold s.v o }) o1 e1 rfl ⟨rfl, rfl⟩ rfl rfl (h.vok.hold o) h.dcl id)
  clear h e1 o1
  cases o
  all_goals
    go_enter Tryz.func144, Tryz.ntmps144
    go_wp2_with fail
    go_end0
    exact ⟨rfl, F.out.1, _, F.out.2⟩
set_option maxHeartbeats 1600000 in
theorem rackv_any (d m g n mx : Nat) (P : Pm) (U : List Nat) (s : Sd) (B : Bk2) (A : Prop) (w : World) (h : RB w d m g n mx P U s B A) :
    Calls Tryz.prog 131 #[.pointer (some ⟨d, 11, none⟩)] w fun e w' => e = .returned (.bool (vreq s.v)) ∧ Hid (Gr U w U w' ∧ ∃ B', RB w' d m g n mx P U { s with v := vack s.v } B' A) := by
  have hq := rqv_any d m g n mx P U s B A w h
  have c14 : w.cell? ⟨d, 14, none⟩ = some (.bool s.v.fr) := cell_of_row w d 14 _ _ _ h.dev
  have c15 : w.cell? ⟨d, 15, none⟩ = some (.int .i64 s.v.lat) := cell_of_row w d 15 _ _ _ h.dev
  have z14 := h.fz 14
  have z15 := h.fz 15
  unfold vack
  by_cases hr : vreq s.v = true
  · rw [if_pos hr, hr]
    rw [hr] at hq
    have e1 : (w.setCell ⟨d, 15, none⟩ (.int .i64 0)).heap[d]? = some (.cells (RDC P m mx B.cp B.lv B.vv { s with v := { s.v with lat := 0 } } B.av) 133 (0, 0)) := heap_setCell_same _ _ _ _ _ _ h.dev
    have e2 : ((w.setCell ⟨d, 15, none⟩ (.int .i64 0)).setCell ⟨d, 14, none⟩ (.bool false)).heap[d]? = some (.cells (RDC P m mx B.cp B.lv B.vv { s with v := { s.v with lat := 0, fr := false } } B.av) 133 (0, 0)) := heap_setCell_same _ _ _ _ _ _ e1
    have o2 := (Off.setCell d 15 w (.int .i64 0)).trans (Off.setCell d 14 _ (.bool false))
    have F : Hid (_) := And.intro (Gr.same (U := U) o2 (by simp [h.kd.2])) (h.own (A' := A) (s' := { s with v := { s.v with lat := 0, fr := false } }) o2 e2 rfl ⟨rfl, rfl⟩ rfl rfl ⟨fun _ => rfl, fun _ => rfl⟩ h.dcl id)
    clear h e1 e2 o2 hr
    go_enter Tryz.func131, Tryz.ntmps131
    go_wp2_with (go_at_call 147; refine hq.mono ?_; rintro e w' ⟨rfl, hw⟩; have hw := hw.symm; subst hw)
    go_ret
    exact ⟨rfl, F.out.1, _, F.out.2⟩
  · have hr' : vreq s.v = false := by simpa using hr
    rw [if_neg hr, hr']
    rw [hr'] at hq
    have H : Hid (_) := h
    clear h hr
    go_enter Tryz.func131, Tryz.ntmps131
    go_wp2_with (go_at_call 147; refine hq.mono ?_; rintro e w' ⟨rfl, hw⟩; have hw := hw.symm; subst hw)
    go_ret
    exact ⟨rfl, Gr.refl _ _, B, H.out⟩
set_option maxHeartbeats 1600000 in
theorem rticksv_any (d m g n mx : Nat) (P : Pm) (U : List Nat) (s : Sd) (B : Bk2) (A : Prop) (k : Nat) (w : World) (h : RB w d m g n mx P U s B A) (hk : k ≤ 9223372036854775807) :
    Calls Tryz.prog 129 #[.pointer (some ⟨d, 9, none⟩), .int .i64 (k : Nat)] w fun e w' => e = .returned (.bool (told P.t s.dc k)) ∧ Hid (Gr U w U w' ∧ ∃ B', RB w' d m g n mx P U { s with dc := tk P.t s.dc k } B' A) := by
  have c9 : w.cell? ⟨d, 9, none⟩ = some (.int .i64 (P.t : Nat)) := cell_of_row w d 9 _ _ _ h.dev
  have c10 : w.cell? ⟨d, 10, none⟩ = some (.int .i64 (s.dc : Nat)) := cell_of_row w d 10 _ _ _ h.dev
  have hle := h.dcl
  have ht := h.pok.t2
  have F : Hid (∀ (w2 : World) (x : Nat), RB w2 d m g n mx P U s B A → x ≤ P.t → Gr U w2 U (w2.setCell ⟨d, 10, none⟩ (.int .i64 (x : Nat))) ∧ RB (w2.setCell ⟨d, 10, none⟩ (.int .i64 (x : Nat))) d m g n mx P U { s with dc := x } B A) := fun w2 x h hx => ⟨Gr.same (Off.setCell d 10 w2 _) (by simp [h.kd.2]), h.own (Off.setCell d 10 w2 _) (heap_setCell_same _ _ _ _ _ _ h.dev) rfl ⟨rfl, rfl⟩ rfl rfl h.vok hx id⟩
  have H : Hid (_) := h
  clear h
  by_cases g1 : P.t ≤ s.dc
  · have ht : told P.t s.dc k = false := by unfold told; simp; omega
    have hk : tk P.t s.dc k = s.dc := by unfold tk; omega
    rw [ht, hk]
    clear ht hk F
    go_enter Tryz.func129, Tryz.ntmps129
    go_wp2_with fail
    go_quiet (fail)
    go_wp2_with fail
    go_ret
    exact ⟨rfl, Gr.same (l := []) (Off.drewN _ _ _) (by simp), B, H.out.newd (Off.drewN [] _ _)⟩
  · have e1 : IntKind.i64.wrap ((P.t : Int) - (s.dc : Int)) = ((P.t - s.dc : Nat) : Int) := by rw [IntKind.wrap_i64]; omega
    obtain ⟨L, hL⟩ : ∃ L, L = P.t - s.dc := ⟨_, rfl⟩
    rw [← hL] at e1
    by_cases g2 : L ≤ k
    · have ht : told P.t s.dc k = true := by unfold told; simp; omega
      have hk : tk P.t s.dc k = P.t := by unfold tk; omega
      rw [ht, hk]
      clear ht hk
      go_enter Tryz.func129, Tryz.ntmps129
      go_wp2_with fail
      go_quiet (fail)
      go_wp2_with fail
      have H2 := H.out.newd (Off.drewN [] w nq)
      have O2 : Gr U w U (w.drewN nq) := Gr.same (l := []) (Off.drewN _ _ _) (by simp)
      clear H c9 c10
      generalize w.drewN nq = w2 at *
      have c9 : w2.cell? ⟨d, 9, none⟩ = some (.int .i64 (P.t : Nat)) := cell_of_row w2 d 9 _ _ _ H2.dev
      have c10 : w2.cell? ⟨d, 10, none⟩ = some (.int .i64 (s.dc : Nat)) := cell_of_row w2 d 10 _ _ _ H2.dev
      have z10 := H2.fz 10
      have HH : Hid (_) := And.intro H2 O2
      clear H2 O2
      go_quiet (fail)
      go_wp2_with fail
      go_ret
      have X := HH.out.1.newd (Off.drewN [] w2 nq)
      have Y := F.out _ P.t X (Nat.le_refl _)
      exact ⟨rfl, (HH.out.2.trans (Gr.same (l := []) (Off.drewN _ _ _) (by simp))).trans Y.1, B, Y.2⟩
    · have ht : told P.t s.dc k = false := by unfold told; simp; omega
      have hk' : tk P.t s.dc k = s.dc + k := by unfold tk; omega
      obtain ⟨x, hx⟩ : ∃ x, s.dc + k = x := ⟨_, rfl⟩
      rw [ht, hk', hx]
      have hxl : x ≤ P.t := by omega
      have i3 : (s.dc : Int) + (k : Int) = (x : Int) := by omega
      have HX : Hid (_) := hxl
      clear ht hk' hx hxl
      go_enter Tryz.func129, Tryz.ntmps129
      go_wp2_with fail
      go_quiet (fail)
      go_wp2_with fail
      have H2 := H.out.newd (Off.drewN [] w nq)
      have O2 : Gr U w U (w.drewN nq) := Gr.same (l := []) (Off.drewN _ _ _) (by simp)
      clear H c9 c10
      generalize w.drewN nq = w2 at *
      have c9 : w2.cell? ⟨d, 9, none⟩ = some (.int .i64 (P.t : Nat)) := cell_of_row w2 d 9 _ _ _ H2.dev
      have c10 : w2.cell? ⟨d, 10, none⟩ = some (.int .i64 (s.dc : Nat)) := cell_of_row w2 d 10 _ _ _ H2.dev
      have z10 := H2.fz 10
      have HH : Hid (_) := And.intro H2 O2
      clear H2 O2
      go_quiet (fail)
      go_wp2_with fail
      go_ret
      have X := HH.out.1.newd (Off.drewN [] w2 nq)
      have Y := F.out _ x X HX.out
      exact ⟨rfl, (HH.out.2.trans (Gr.same (l := []) (Off.drewN _ _ _) (by simp))).trans Y.1, B, Y.2⟩
end Go.Proofs.YtpgdghjlfdehjaaGreat
namespace Go.Proofs.YtpgdghjlfdehjaaGreat
set_option maxRecDepth 100000
open Go.RowKit Go.Maps
theorem own_some {w : World} {B e size n : Nat} {v : Value} {xs : List Value} (h : w.ownsRow B e size v (n + 1) xs) : ∃ g cap, v = .slice (some ⟨g, 0, none⟩) (n + 1) cap ∧ B ≤ g ∧ g < w.heap.size := by
  rcases h.2 with ⟨_, hn⟩ | ⟨g, cap, cur, rfl, hg, hgg, rest⟩
  · omega
  · exact ⟨g, cap, rfl, hg, (Array.getElem?_eq_some_iff.1 hgg).1⟩
theorem cells_rv {w : World} {g : Nat} {x : R4} (hg : w.heap[g]? = some (.cells #[.int .i64 x.1, .int .i64 x.2.1, .int .u32 x.2.2.1, .int .u32 x.2.2.2] 177 (0, 0))) : ∀ j u, (rv x)[j]? = some u → w.cell? ((⟨g, 0, none⟩ : Addr).add j) = some u := by
  obtain ⟨c0, c1, c2, c3, _⟩ := cells4 hg
  intro j u hu
  have hj : j < 4 := by
    by_cases hj : j < 4
    · exact hj
    · rw [List.getElem?_eq_none (by rw [rv_len]; omega)] at hu; cases hu
  have c : j = 0 ∨ j = 1 ∨ j = 2 ∨ j = 3 := by omega
  rcases c with rfl | rfl | rfl | rfl
  · simp [rv] at hu; subst hu; simpa [Addr.add] using c0
  · simp [rv] at hu; subst hu; simpa [Addr.add] using c1
  · simp [rv] at hu; subst hu; simpa [Addr.add] using c2
  · simp [rv] at hu; subst hu; simpa [Addr.add] using c3
theorem step_appT {ops : Array Oper} {o : Oper} {a : Act} {w : World} {K : Act → World → Prop} {Q : Exit → Act → World → Prop} {E : Prop}
    (hg : o.guard = none) (s x : Operand) (hop : o.op = Op.call { callee := Callee.builtin Builtin.append, args := #[s, x], argTypes := #[89, 89] }) (hty : o.type = 89)
    (B n g : Nat) (L : List R4) (xr : R4) (v : Value) (hs : a.eval s = v) (hown : w.ownsRow B 177 4 v n (rvs L)) (hx : a.eval x = .slice (some ⟨g, 0, none⟩) 1 1)
    (hgc : w.heap[g]? = some (.cells #[.int .i64 xr.1, .int .i64 xr.2.1, .int .u32 xr.2.2.1, .int .u32 xr.2.2.2] 177 (0, 0))) (hn : n < 1000000) (hB : B ≤ w.heap.size)
    (hK : ∀ g' cap' w', Hid (w'.ownsRow B 177 4 (.slice (some ⟨g', 0, none⟩) (n + 1) cap') (n + 1) (rvs (L ++ [xr])) ∧ w.grownBy w' v.ownBlock ∧ (v.ownBlock = some g' ∨ g' = w.heap.size)) → K (a.put o.dst (.slice (some ⟨g', 0, none⟩) (n + 1) cap')) w') :
    if Region.wanted o (yielded ops a.tmps) = true then Oper.wp Tryz.prog o a w K Q else E := by
  have hw : Region.wanted o (yielded ops a.tmps) = true := by simp [Region.wanted, hg]
  rw [if_pos hw]
  obtain ⟨i, hi, h0, h1, h2⟩ := info_parts info_rec
  obtain ⟨v', w', hrun, h3, h4, _, h5⟩ := run_append_own_at w B 89 89 177 i _ 4 24 Tryz.underlying89 hi h0 h1 h2 rfl (by decide) v n (rvs L) hown ⟨g, 0, none⟩ 1 1 (rv xr) rfl (cells_rv hgc) (rv_one xr) (by unfold maxLen; omega) (by omega) hB
  obtain ⟨g', cap', rfl, _, _⟩ := own_some h3
  unfold Oper.wp execOp
  simp only [hop, hty, resolve, invoke, builtin, Sem.run_bind, Sem.run_pure, Result.andThen_ok, List.map_toArray, List.map_cons, List.map_nil, hs, hx, hrun]
  refine hK g' cap' w' ⟨?_, h4, ?_⟩
  · rw [rvs_append, rvs_one]; exact h3
  · rcases h5 with h5 | h5
    · left; rw [← h5]; rfl
    · right; simpa [Value.ownBlock] using h5
end Go.Proofs.YtpgdghjlfdehjaaGreat
namespace Go.Proofs.YtpgdghjlfdehjaaGreat
set_option maxRecDepth 100000
open Go.RowKit Go.Maps
theorem own_form4 {w : World} {B n : Nat} {e : TypeId} {v : Value} {xs : List Value} (h : w.ownsRow B e 4 v n xs) : ∃ a cap, v = .slice a n cap := by
  rcases h.2 with ⟨rfl, hn⟩ | ⟨g, cap, cur, rfl, _⟩
  · exact ⟨none, 0, by rw [hn]⟩
  · exact ⟨_, cap, rfl⟩
section
variable {w wx w3 : World} {d m g n mx : Nat} {P : Pm} {U : List Nat} {s : Sd} {B : Bk2} {A : Prop}
theorem RB.grown (h : RB w d m g n mx P U s B A) (hx : Below w.heap.size w wx) (hg : wx.grownBy w3 B.lv.ownBlock) : w3.heap[d]? = some (.cells (RDC P m mx B.cp B.lv B.vv s B.av) 133 (0, 0)) := by
  rw [hg.block d (Nat.lt_of_lt_of_le h.dlt hx.size) (fun e => by have := (h.kl d e.symm).1; rw [h.kd.1] at this; omega), hx.block d h.dlt]
  exact h.dev
theorem RB.logd (h : RB w d m g n mx P U s B A) {gg cap : Nat} {x : R4} (hx : Below w.heap.size w wx)
    (ho : w3.ownsRow 0 177 4 (.slice (some ⟨gg, 0, none⟩) (s.L.length + 1) cap) (s.L.length + 1) (rvs (s.L ++ [x])) ∧ wx.grownBy w3 B.lv.ownBlock ∧ (B.lv.ownBlock = some gg ∨ gg = wx.heap.size)) :
    ∃ U' B', Gr U w U' (w3.setCell ⟨d, 8, none⟩ (.slice (some ⟨gg, 0, none⟩) (s.L.length + 1) cap)) ∧ RB (w3.setCell ⟨d, 8, none⟩ (.slice (some ⟨gg, 0, none⟩) (s.L.length + 1) cap)) d m g n mx P U' { s with L := s.L ++ [x] } B' A := by
  obtain ⟨h1, h2, h3⟩ := ho
  have hd3 := h.grown hx h2
  have hs := hx.size
  have hs2 := h2.size
  obtain ⟨g', cap', e, _, hgl⟩ := own_some h1
  have hgl : gg < w3.heap.size := by
    simp only [Value.slice.injEq, Option.some.injEq, Addr.mk.injEq] at e
    rw [e.1.1]; exact hgl
  have q : Off B.lv.ownBlock.toList w w3 := by
    refine ⟨h2.os.trans hx.os, h2.tape.trans hx.tape, h2.output.trans hx.output, Nat.le_trans hs hs2, fun k hk hkV => ?_⟩
    rw [h2.block k (by omega) (fun e => hkV (by rw [← e]; simp))]
    exact hx.block k hk
  have o3 : Off [d] w3 (w3.setCell ⟨d, 8, none⟩ (.slice (some ⟨gg, 0, none⟩) (s.L.length + 1) cap)) := Off.setCell d 8 w3 _
  have s3 := o3.size
  have hn : ∀ k, B.col k ≠ 0 → k ∉ [d] := fun k hk hm => by simp at hm; rw [hm, h.kd.1] at hk; exact hk rfl
  have hl : ∀ k, B.col k ≠ 5 → k ∉ B.lv.ownBlock.toList := fun k hk hm => hk (h.kl k (by simpa using hm)).1
  have hgU : (B.col gg = 5 ∧ gg ∈ U) ∨ w.heap.size ≤ gg := by
    rcases h3 with h3 | h3
    · exact .inl (h.kl gg h3)
    · right; omega
  have hdg : gg ≠ d := by
    rcases hgU with hh | hh
    · intro e; rw [e, h.kd.1] at hh; omega
    · have := h.dlt; omega
  have hq : ∀ k x, B.col k = x ∧ k ∈ U → (if k < w.heap.size then B.col k else 5) = x ∧ k ∈ gg :: U := fun k x hk => ⟨by rw [if_pos (h.ltU k hk.2)]; exact hk.1, by simp [hk.2]⟩
  refine ⟨gg :: U, { B with lv := .slice (some ⟨gg, 0, none⟩) (s.L.length + 1) cap, col := fun k => if k < w.heap.size then B.col k else 5 }, ⟨?_, ?_⟩, ?_⟩
  · exact (q.more (fun k hk => (h.kl k (by simpa using hk)).2)).trans (o3.more (by simp [h.kd.2]))
  · intro k hk
    simp at hk
    rcases hk with rfl | hk
    · rcases hgU with hh | hh
      · exact .inl hh.2
      · exact .inr hh
    · exact .inl hk
  · refine ⟨heap_setCell_same _ _ _ _ _ _ hd3, (h.mem.off q (hl _ (by rw [h.km.1]; omega)) (hl _ (by rw [h.kg.1]; omega))).off o3 (hn _ (by rw [h.km.1]; omega)) (hn _ (by rw [h.kg.1]; omega)), fun hA => ?_, ?_, ?_, ?_, h.apb, h.vok, h.dcl, ?_, hq _ _ h.kd, hq _ _ h.km, hq _ _ h.kg, hq _ _ h.kc, fun k hk => hq _ _ (h.kM k hk), ?_, fun k hk => hq _ _ (h.ka k hk), h.pok, h.n10, h.mx0, h.mxl, fun e => by simp at e⟩
    · obtain ⟨c1, c2, c3⟩ := h.cel hA
      exact ⟨c1, (c2.off q (hl _ (by rw [h.kc.1]; omega))).off o3 (hn _ (by rw [h.kc.1]; omega)), c3⟩
    · exact (h.val.off q (fun k hk hM => hl k (by rw [(h.kM k hM).1]; omega) hk)).off o3 (fun k hk hM => hn k (by rw [(h.kM k hM).1]; omega) hk)
    · have : (s.L ++ [x]).length = s.L.length + 1 := by simp
      show World.ownsRow _ 0 _ 4 _ (s.L ++ [x]).length _
      rw [this]
      exact own_offk h1 o3 (fun k hk => by simp only [Value.ownBlock, Option.some.injEq] at hk; subst hk; simpa using hdg)
    · exact own_offk (own_offk h.app q (fun k hk => hl _ (by rw [(h.ka k hk).1]; omega))) o3 (fun k hk => hn _ (by rw [(h.ka k hk).1]; omega))
    · intro k hk
      simp at hk
      rcases hk with rfl | hk
      · omega
      · have := h.ltU k hk; omega
    · intro k hk
      simp only [Value.ownBlock, Option.some.injEq] at hk
      subst hk
      refine ⟨?_, by simp⟩
      show (if gg < w.heap.size then B.col gg else 5) = 5
      rcases hgU with hh | hh
      · rw [if_pos (h.ltU _ hh.2)]; exact hh.1
      · rw [if_neg (by omega)]
end
set_option maxHeartbeats 3200000 in
theorem rnotev_any (d m g n mx : Nat) (P : Pm) (U : List Nat) (s : Sd) (B : Bk2) (A : Prop) (x : Int) (w : World) (h : RB w d m g n mx P U s B A) (hL : s.L.length < 900000) :
    Calls Tryz.prog 82 #[.pointer (some ⟨d, 8, none⟩), .int .i64 x, .int .u32 (s.ss : Nat), .int .u32 (s.nm : Nat)] w fun e w' => e = .returned (.int .i64 ((s.L.length + 1 : Nat) : Int)) ∧ Hid (∃ U' B', Gr U w U' w' ∧ RB w' d m g n mx P U' (dnote s x) B' A) := by
  have HG : Hid (RB w d m g n mx P U s B A) := h
  have c8 : w.cell? ⟨d, 8, none⟩ = some B.lv := cell_of_row w d 8 _ _ _ h.dev
  have hf := h.fz 8
  have hpl := h.dlt
  have ho : Hid (∀ wx, Below w.heap.size w wx → wx.ownsRow 0 177 4 B.lv s.L.length (rvs s.L)) := fun wx hx => own_below HG.out.log hx
  obtain ⟨a, cap, hlv⟩ := own_form4 h.log
  rw [hlv] at c8 ho
  obtain ⟨k, em⟩ : ∃ k, k = s.L.length := ⟨_, rfl⟩
  rw [← em] at hlv ho c8 hL ⊢
  have HM : Hid (_) := And.intro em hlv
  have e1 : IntKind.i64.wrap ((k : Int) + 1) = ((k + 1 : Nat) : Int) := by rw [IntKind.wrap_i64]; omega
  have ca1 : (w.alloc (.cells #[.int .i64 ((k : Int) + 1), .int .i64 x, .int .u32 (s.ss : Nat), .int .u32 (s.nm : Nat)] 177)).cell? ⟨d, 8, none⟩ = some (.slice a k cap) := (World.cell?_of_block ((Off.alloc [] w _).block d hpl (by simp))).trans c8
  have ca2 : (w.drew.alloc (.cells #[.int .i64 ((k : Int) + 1), .int .i64 x, .int .u32 (s.ss : Nat), .int .u32 (s.nm : Nat)] 177)).cell? ⟨d, 8, none⟩ = some (.slice a k cap) := ca1
  clear em h hlv
  go_enter Tryz.func82, Tryz.ntmps82
  go_wp2_with fail
  go_region_law (first
    | (refine step_appT rfl (.tmp 13) (.tmp 24) rfl rfl 0 k w.heap.size s.L (((k + 1 : Nat) : Int), x, (s.ss : Int), (s.nm : Int)) _ rfl (ho.out _ (by repeat (first | with_reducible assumption | with_reducible refine below_drewNR ?_ _ | with_reducible refine Below.drew ?_ | with_reducible refine belowAR ?_ (by omega) _ | with_reducible exact Below.refl _ _))) rfl (heap_alloc_new w _) (by omega) (Nat.zero_le _) ?_; intro g3 cap3 w3 H3; have hgb := H3.out.2.1; rw [← HM.out.2] at hgb; have hp3 := HG.out.grown (by repeat (first | with_reducible assumption | with_reducible refine below_drewNR ?_ _ | with_reducible refine Below.drew ?_ | with_reducible refine belowAR ?_ (by omega) _ | with_reducible exact Below.refl _ _)) hgb; have hc3 : w3.cell? ⟨d, 8, none⟩ = some B.lv := cell_of_row w3 d 8 _ _ _ hp3; rw [HM.out.2] at hc3; have hf3 := frozen_of_row w3 d 8 _ _ hp3))
  all_goals
    have H4 := H3.out
    rw [← HM.out.2] at H4
    rw [HM.out.1] at H4
    have HF : Hid (∃ U' B', Gr U w U' (w3.setCell ⟨d, 8, none⟩ (.slice (some ⟨g3, 0, none⟩) (s.L.length + 1) cap3)) ∧ RB (w3.setCell ⟨d, 8, none⟩ (.slice (some ⟨g3, 0, none⟩) (s.L.length + 1) cap3)) d m g n mx P U' (dnote s x) B' A) :=
      HG.out.logd (by repeat (first | with_reducible assumption | with_reducible refine below_drewNR ?_ _ | with_reducible refine Below.drew ?_ | with_reducible refine belowAR ?_ (by omega) _ | with_reducible exact Below.refl _ _)) H4
    rw [← HM.out.1] at HF
    clear ca1 ca2 H3 hp3 HG ho H4 hgb
    go_wp2_with fail
    go_ret
    exact ⟨rfl, HF⟩
end Go.Proofs.YtpgdghjlfdehjaaGreat
namespace Go.Proofs.YtpgdghjlfdehjaaGreat
set_option maxRecDepth 100000
open Go.RowKit
set_option maxHeartbeats 3200000 in
theorem rvlatch_any (d m g n mx : Nat) (P : Pm) (U : List Nat) (s : Sd) (x : Int) (w : World) (h : RW w d m g n mx P U s) (hx : x ≠ 0) (hL : s.L.length < 900000) :
    Calls Tryz.prog 130 #[.pointer (some ⟨d, 0, none⟩), .int .i64 x] w fun e w' => e = .returned (.tuple #[]) ∧ Hid (∃ U', Gr U w U' w' ∧ RW w' d m g n mx P U' (dlatch s x)) := by
  obtain ⟨B, h⟩ := h
  have hT := rtripv_any d m g n mx P U s B _ x w h hx
  have HL : Hid (_) := hL
  clear h hx hL
  unfold dlatch
  by_cases ht : vtripB s.v x = true
  · rw [if_pos ht]
    rw [ht] at hT
    go_enter Tryz.func130, Tryz.ntmps130
    go_wp2_with (go_at_call 154; refine hT.mono ?_; rintro e w2 ⟨rfl, h2⟩)
    obtain ⟨g2, B2, x2⟩ := h2.out
    have xd := x2.newd (Off.drew [] w2)
    have hN := rnotev_any d m g n mx P U _ B2 _ x w2.drew xd HL.out
    have c19 : w2.cell? ⟨d, 19, none⟩ = some (.int .u32 (s.ss : Nat)) := cell_of_row w2 d 19 _ _ _ x2.dev
    have c20 : w2.cell? ⟨d, 20, none⟩ = some (.int .u32 (s.nm : Nat)) := cell_of_row w2 d 20 _ _ _ x2.dev
    have H2 : Hid (_) := g2.trans (Gr.same (l := []) (Off.drew [] w2) (by simp))
    clear hT h2 g2 x2 xd
    go_region_with (go_at_call 82; refine hN.mono ?_; rintro e w3 ⟨rfl, h3⟩)
    all_goals
      clear hN c19 c20
      go_wp2_with fail
      go_end0
      obtain ⟨U3, B3, g3, x3⟩ := h3.out
      exact ⟨rfl, U3, H2.out.trans g3, B3, x3⟩
  · rw [if_neg ht]
    have ht' : vtripB s.v x = false := by simpa using ht
    rw [ht'] at hT
    go_enter Tryz.func130, Tryz.ntmps130
    go_wp2_with (go_at_call 154; refine hT.mono ?_; rintro e w2 ⟨rfl, h2⟩)
    go_end0
    obtain ⟨g2, B2, x2⟩ := h2.out
    exact ⟨rfl, U, g2, B2, x2⟩
set_option maxHeartbeats 3200000 in
theorem rvon_any (d m g n mx : Nat) (P : Pm) (U : List Nat) (s : Sd) (w : World) (h : RW w d m g n mx P U s) :
    Calls Tryz.prog 142 #[.pointer (some ⟨d, 0, none⟩)] w fun e w' => e = .returned (.tuple #[]) ∧ Hid (∃ U', Gr U w U' w' ∧ RW w' d m g n mx P U' (don s)) := by
  obtain ⟨B, h⟩ := h
  have c22 : w.cell? ⟨d, 22, none⟩ = some (.int .i64 (s.od : Nat)) := cell_of_row w d 22 _ _ _ h.dev
  have c10 : w.cell? ⟨d, 10, none⟩ = some (.int .i64 (s.dc : Nat)) := cell_of_row w d 10 _ _ _ h.dev
  have z22 := h.fz 22
  have z10 := h.fz 10
  have e1 : (w.setCell ⟨d, 22, none⟩ (.int .i64 0)).heap[d]? = some (.cells (RDC P m mx B.cp B.lv B.vv { s with od := 0 } B.av) 133 (0, 0)) := heap_setCell_same _ _ _ _ _ _ h.dev
  have e2 : ((w.setCell ⟨d, 22, none⟩ (.int .i64 0)).setCell ⟨d, 10, none⟩ (.int .i64 0)).heap[d]? = some (.cells (RDC P m mx B.cp B.lv B.vv { s with od := 0, dc := 0 } B.av) 133 (0, 0)) := heap_setCell_same _ _ _ _ _ _ e1
  have o2 := (Off.setCell d 22 w (.int .i64 0)).trans (Off.setCell d 10 _ (.int .i64 0))
  have x2 := h.own (A' := s.st ≠ 6) (s' := { s with od := 0, dc := 0 }) o2 e2 rfl ⟨rfl, rfl⟩ rfl rfl h.vok (Nat.zero_le _) id
  have hC := rcomev_any d m g n mx P U _ B _ _ x2
  have H2 : Hid (_) := Gr.same (U := U) o2 (by simp [h.kd.2])
  clear h e1 e2 o2 x2
  go_enter Tryz.func142, Tryz.ntmps142
  go_wp2_with (go_at_call 196; refine hC.mono ?_; rintro e w3 ⟨rfl, h3⟩)
  go_end0
  obtain ⟨g3, B3, x3⟩ := h3.out
  exact ⟨rfl, U, H2.out.trans g3, B3, x3⟩
set_option maxHeartbeats 3200000 in
theorem rvleave_any (d m g n mx : Nat) (P : Pm) (U : List Nat) (s : Sd) (k : Nat) (w : World) (h : RW w d m g n mx P U s) (hs : s.st ≠ 6) :
    Calls Tryz.prog 195 #[.pointer (some ⟨d, 0, none⟩), .int .i64 (k : Nat)] w fun e w' => e = .returned (.tuple #[]) ∧ Hid (∃ U', Gr U w U' w' ∧ RW w' d m g n mx P U' (dleave s k)) := by
  obtain ⟨B, h⟩ := h
  have hR := rrunv_any d m g n mx P U s B _ false w h
  clear h
  go_enter Tryz.func195, Tryz.ntmps195
  go_wp2_with (go_at_call 95; refine hR.mono ?_; rintro e w2 ⟨rfl, h2⟩; obtain ⟨g2, B2, x2⟩ := h2.out; have c18 : w2.cell? ⟨d, 18, none⟩ = some (.int .i64 (s.st : Nat)) := cell_of_row w2 d 18 _ _ _ x2.dev; have c19 : w2.cell? ⟨d, 19, none⟩ = some (.int .u32 (s.ss : Nat)) := cell_of_row w2 d 19 _ _ _ x2.dev; have c20 : w2.cell? ⟨d, 20, none⟩ = some (.int .u32 (s.nm : Nat)) := cell_of_row w2 d 20 _ _ _ x2.dev; have c21 : w2.cell? ⟨d, 21, none⟩ = some (.int .u32 (s.sn : Nat)) := cell_of_row w2 d 21 _ _ _ x2.dev; have c22 : w2.cell? ⟨d, 22, none⟩ = some (.int .i64 (s.od : Nat)) := cell_of_row w2 d 22 _ _ _ x2.dev; have z18 := x2.fz 18; have z19 := x2.fz 19; have z20 := x2.fz 20; have z21 := x2.fz 21; have z22 := x2.fz 22; have H2 : Hid (_) := And.intro g2 x2; clear hR h2 g2 x2)
  go_end0
  obtain ⟨g2, x2⟩ := H2.out
  have e1 : (w2.setCell ⟨d, 18, none⟩ (.int .i64 (k : Nat))).heap[d]? = some (.cells (RDC P m mx B2.cp B2.lv B2.vv { s with v := vrun s.v false, st := k } B2.av) 133 (0, 0)) := heap_setCell_same _ _ _ _ _ _ x2.dev
  have e2 : ((w2.setCell ⟨d, 18, none⟩ (.int .i64 (k : Nat))).setCell ⟨d, 19, none⟩ (.int .u32 0)).heap[d]? = some (.cells (RDC P m mx B2.cp B2.lv B2.vv { s with v := vrun s.v false, st := k, ss := 0 } B2.av) 133 (0, 0)) := heap_setCell_same _ _ _ _ _ _ e1
  have e3 : (((w2.setCell ⟨d, 18, none⟩ (.int .i64 (k : Nat))).setCell ⟨d, 19, none⟩ (.int .u32 0)).setCell ⟨d, 20, none⟩ (.int .u32 0)).heap[d]? = some (.cells (RDC P m mx B2.cp B2.lv B2.vv { s with v := vrun s.v false, st := k, ss := 0, nm := 0 } B2.av) 133 (0, 0)) := heap_setCell_same _ _ _ _ _ _ e2
  have e4 : ((((w2.setCell ⟨d, 18, none⟩ (.int .i64 (k : Nat))).setCell ⟨d, 19, none⟩ (.int .u32 0)).setCell ⟨d, 20, none⟩ (.int .u32 0)).setCell ⟨d, 21, none⟩ (.int .u32 0)).heap[d]? = some (.cells (RDC P m mx B2.cp B2.lv B2.vv { s with v := vrun s.v false, st := k, ss := 0, nm := 0, sn := 0 } B2.av) 133 (0, 0)) := heap_setCell_same _ _ _ _ _ _ e3
  have e5 : (((((w2.setCell ⟨d, 18, none⟩ (.int .i64 (k : Nat))).setCell ⟨d, 19, none⟩ (.int .u32 0)).setCell ⟨d, 20, none⟩ (.int .u32 0)).setCell ⟨d, 21, none⟩ (.int .u32 0)).setCell ⟨d, 22, none⟩ (.int .i64 0)).heap[d]? = some (.cells (RDC P m mx B2.cp B2.lv B2.vv (dleave s k) B2.av) 133 (0, 0)) := heap_setCell_same _ _ _ _ _ _ e4
  have o5 := ((((Off.setCell d 18 w2 (.int .i64 (k : Nat))).trans (Off.setCell d 19 _ (.int .u32 0))).trans (Off.setCell d 20 _ (.int .u32 0))).trans (Off.setCell d 21 _ (.int .u32 0))).trans (Off.setCell d 22 _ (.int .i64 0))
  have x5 := x2.own (A' := (dleave s k).st ≠ 6) (s' := dleave s k) o5 e5 rfl ⟨rfl, rfl⟩ rfl rfl x2.vok x2.dcl (fun _ => hs)
  exact ⟨rfl, U, g2.trans (Gr.same o5 (by simp [x2.kd.2])), B2, x5⟩
set_option maxHeartbeats 1600000 in
theorem rbusy_any (d k : Nat) (w : World) (c18 : w.cell? ⟨d, 18, none⟩ = some (.int .i64 (k : Nat))) :
    Calls Tryz.prog 192 #[.pointer (some ⟨d, 0, none⟩)] w fun e w' => e = .returned (.bool (decide (k = 2 ∨ k = 3 ∨ k = 4))) ∧ w' = w := by
  go_enter Tryz.func192, Tryz.ntmps192
  go_wp2_with fail
  all_goals
    go_ret
    refine ⟨congrArg (fun b => Ending.returned (Value.bool b)) (?_ : _ = decide (k = 2 ∨ k = 3 ∨ k = 4)), rfl⟩
    rw [Bool.eq_iff_iff]
    simp <;> omega
end Go.Proofs.YtpgdghjlfdehjaaGreat
