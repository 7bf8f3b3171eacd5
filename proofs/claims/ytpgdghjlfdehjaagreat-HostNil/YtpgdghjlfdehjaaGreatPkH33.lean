/- Part 34 of the texts on which the proofs of layer 13 rest: contracts of Go functions. -/
import Derived.Test.YtpgdghjlfdehjaaGreatPkH02
import Derived.Test.YtpgdghjlfdehjaaGreatPkH04
import Derived.Test.YtpgdghjlfdehjaaGreatPkH28
import Derived.Test.YtpgdghjlfdehjaaGreatPkH29
import Derived.Test.YtpgdghjlfdehjaaGreatPkH31
import Derived.Test.YtpgdghjlfdehjaaGreatPkH32
namespace Go.Proofs.YtpgdghjlfdehjaaGreat
set_option maxRecDepth 100000
open Go.RowKit
def encI (k c s n : Nat) (f : Int) (len : Nat) (bs : Nat → Nat) : Fm := if LW k c s n f len len = 0 then (15 + len + 4, PM.sl (fr k c s n f.toNat len bs) (15 + len)) else fm0
theorem encI_nat (k c s n f len : Nat) (bs : Nat → Nat) : encI k c s n (f : Int) len bs = encF k c s n f len bs := rfl
set_option maxHeartbeats 1600000 in
theorem frame_any (k c s n : Nat) (f : Int) (a : Option Addr) (len cap : Nat) (bs : Nat → Nat) (w : World) (hr : Row8 w a len cap bs) (hc : c < 4294967296) (hs : s < 4294967296) (hn : n < 4294967296) :
    Calls Tryz.prog 54 #[.agg #[.int .i64 (k : Nat), .int .u32 (c : Nat), .int .u32 (s : Nat), .int .u32 (n : Nat), .int .i64 f, .slice a len cap]] w fun e w' => ∃ v, e = .returned v ∧ Hid (Fr w' w.heap.size v (encI k c s n f len bs) ∧ Below w.heap.size w w') := by
  have b0 : Below w.heap.size w (w.alloc (.cells #[.int .i64 (k : Nat), .int .u32 (c : Nat), .int .u32 (s : Nat), .int .u32 (n : Nat), .int .i64 f, .slice a len cap] 53)) := (Below.refl _ _).alloc (Nat.le_refl _) _
  have fin : Calls Tryz.prog 98 #[.agg #[.int .i64 (k : Nat), .int .u32 (c : Nat), .int .u32 (s : Nat), .int .u32 (n : Nat), .int .i64 f, .slice a len cap]] (w.alloc (.cells #[.int .i64 (k : Nat), .int .u32 (c : Nat), .int .u32 (s : Nat), .int .u32 (n : Nat), .int .i64 f, .slice a len cap] 53)) fun e w' => ∃ v E, e = .returned (.tuple #[v, .int .i64 E]) ∧ Hid (Fr w' w.heap.size v (encI k c s n f len bs) ∧ Below w.heap.size w w') := by
    unfold encI
    by_cases hE : LW k c s n f len len = 0
    · rw [if_pos hE]
      have hf := (LW_zero hE).2.2.2.2
      obtain ⟨F, rfl⟩ : ∃ F : Nat, f = (F : Int) := ⟨f.toNat, by omega⟩
      refine (refEncode_good k c s n F a len cap bs _ (hr.below b0) hc hs hn hE).mono ?_
      rintro e w' ⟨v, rfl, h4⟩
      exact ⟨v, 0, rfl, own_base h4.out.1 b0.size, b0.trans (h4.out.2.mono b0.size)⟩
    · rw [if_neg hE]
      refine (refEncode_bad k c s n f a len cap _ hE).mono ?_
      rintro e w' ⟨rfl, h4⟩
      exact ⟨_, _, rfl, own_nil _ _ _, b0.trans (h4.mono b0.size)⟩
  clear hr hc hs hn b0
  go_enter Tryz.func54, Tryz.ntmps54
  go_wp2_with fail
  refine fin.mono ?_
  rintro e w4 ⟨v, E, rfl, h4⟩
  clear fin
  go_wp2_with fail
  go_ret
  exact ⟨v, rfl, h4⟩
def P0 : Pm := ⟨7, 2, 1, 10, 9⟩
theorem P0_ok : Pok P0 := ⟨by unfold okP P0; decide, by decide, by decide⟩
theorem small_any (w : World) : Calls Tryz.prog 16 #[] w fun e w' => e = .returned (.agg #[.int .u32 (P0.c : Nat), .int .i64 (P0.o : Nat), .int .i64 (P0.i : Nat), .int .i64 (P0.t : Nat), .int .u32 (P0.n : Nat)]) ∧ Below w.heap.size w w' := by
  go_enter Tryz.func16, Tryz.ntmps16
  go_wp2_with fail
  refine bodyPost_ret (v := .agg #[.int .u32 (P0.c : Nat), .int .i64 (P0.o : Nat), .int .i64 (P0.i : Nat), .int .i64 (P0.t : Nat), .int .u32 (P0.n : Nat)]) (by simp [results, Tryz.results16, go_sem, P0]) rfl ⟨rfl, ?_⟩
  exact (Below.refl _ _).alloc (Nat.le_refl _) _
def wishF (P : Pm) : Fm := (23, PM.sl (fr 1 P.c 0 0 0 4 (dsg P)) 19)
theorem LW_wish {c : Nat} (h : c ≠ 0) : LW 1 c 0 0 0 4 4 = 0 := by
  unfold LW
  rw [if_neg (by decide), if_neg (by omega), if_neg (by decide), if_neg (by decide), if_neg (by decide), if_neg (by decide)]
theorem wish_enc (P : Pm) (h : Pok P) : encF 1 P.c 0 0 0 4 (dsg P) = wishF P := by
  exact if_pos (LW_wish h.c0)
theorem BA_congr (f g : Nat → Nat) (n : Nat) (h : ∀ i, i < n → f i = g i) : BA f n = BA g n := by
  unfold BA
  congr 1
  apply List.map_congr_left
  intro i hi
  rw [h i (List.mem_range.1 hi)]
theorem hear_wish (P : Pm) (h : Pok P) (mx n : Nat) (s : Sd) : dhear P mx n s (wishF P).1 (wishF P).2 = dwish P mx n s := by
  obtain ⟨e1, e2, e3, e4, e5, e6, e7⟩ := DE_back 1 P.c 0 0 0 4 (dsg P) h.c (by omega) (by omega) (by omega) (LW_wish h.c0)
  have hd : DE (wishF P).2 (wishF P).1 = 0 := e1
  have h0 : (wishF P).2 0 = 1 := e2
  have h1 : w4v (wishF P).2 1 = P.c := e3
  unfold dhear
  rw [if_neg (by omega), if_neg (by rw [h0]; decide), if_neg (by omega), h0]
  unfold dtake
  rw [if_pos rfl, if_pos]
  unfold dsigned
  exact decide_eq_true (BA_congr _ _ 4 (fun i hi => e7 i hi))
def M0 : Ms := S0 fun _ => 0
theorem open0 (mx : Nat) (h : mx ≠ 0) : opE mx 16 M0 = 0 ∧ opS mx 16 M0 = M0 := by
  have hm : mend M0.bs = [] := by decide
  constructor
  · unfold opE
    rw [if_neg (by omega), if_neg (by decide), hm]
    rfl
  · unfold opS
    rw [if_neg (by omega), if_neg (by decide), hm]
    rfl
theorem next0 (mx : Nat) (h : mx ≠ 0) : (nx mx 16 M0.bs false M0).e = 0 ∧ (nx mx 16 M0.bs false M0).v = 1 := by
  have hv : vz M0.bs = 0 := by decide
  have ht : tg M0.bs = 0 := by decide
  unfold nx
  rw [if_neg (by decide), hv, if_neg (by omega), ht]
  rcases sq_all 16 (six 0 (0 + 1)) M0 (fun x hx => (six_in _ _ 16 (by omega) (by omega) x hx).1) rfl (Int.le_refl _) with ⟨e, _⟩ | ⟨_, _, e, _⟩
  · rw [if_pos e]; exact ⟨rfl, rfl⟩
  · cases e
theorem first_wish (P : Pm) (h : Pok P) (mx : Nat) (hm : mx ≠ 0) :
    (drecv P mx 16 (dnew M0) (wishF P).1 (wishF P).2).e = 0 ∧ (drecv P mx 16 (dnew M0) (wishF P).1 (wishF P).2).s.st = 2 ∧ (drecv P mx 16 (dnew M0) (wishF P).1 (wishF P).2).f = encF 17 P.c 1 0 0 4 (dsg P) := by
  obtain ⟨n1, n2⟩ := next0 mx hm
  have hw : dwish P mx 16 (dnew M0) = dbegin P mx 16 (dnew M0) := rfl
  have hb : dbegin P mx 16 (dnew M0) = ⟨{ dleave { dnew M0 with ms := (nx mx 16 M0.bs false M0).s } 2 with ss := (nx mx 16 M0.bs false M0).v }, doffer P { dleave { dnew M0 with ms := (nx mx 16 M0.bs false M0).s } 2 with ss := (nx mx 16 M0.bs false M0).v }, 0⟩ := by
    unfold dbegin
    have e1 : (nx mx 16 (dnew M0).ms.bs false (dnew M0).ms).e = 0 := n1
    rw [if_neg (by rw [e1]; decide), if_neg (by rw [e1]; decide)]
    rfl
  unfold drecv
  rw [if_neg (by show (1 : Nat) ≠ 6; omega), hear_wish P h, hw, hb, if_neg (by rintro ⟨e, _⟩; exact e rfl)]
  refine ⟨rfl, rfl, ?_⟩
  show encF 17 P.c (nx mx 16 M0.bs false M0).v 0 0 4 (dsg P) = _
  rw [n2]
theorem LW_offer {c s : Nat} (h : c ≠ 0) (hs : s ≠ 0) : LW 17 c s 0 0 4 4 = 0 := by
  unfold LW
  rw [if_neg (by decide), if_neg (by omega), if_neg (by decide), if_neg (by unfold mSess; rw [if_neg (by omega), if_neg (by omega)]; simp; omega), if_neg (by decide), if_neg (by decide)]
theorem Fr.row {w : World} {M : Nat} {v : Value} {f : Fm} (h : Fr w M v f) (hb : ∀ i, i < f.1 → f.2 i < 256) : ∃ a cap, v = .slice a f.1 cap ∧ Row8 w a f.1 cap f.2 := own_row8 h hb
theorem encF_byte (k c s n f len : Nat) (bs : Nat → Nat) (hb : ∀ i, i < len → bs i < 256) : ∀ i, i < (encF k c s n f len bs).1 → (encF k c s n f len bs).2 i < 256 := by
  unfold encF
  by_cases h : LW k c s n f len len = 0
  · rw [if_pos h]
    have hz := LW_zero h
    intro i _
    have hfr := fr_lt (K := k) (c := c) (s := s) (n := n) (F := f) (len := len) (bs := bs) (by omega) (by omega) (by omega) hb
    show PM.sl _ _ i < 256
    unfold PM.sl PM.ct
    split
    · rename_i h2; exact hfr i h2
    · exact PM.w4_lt _ _
  · rw [if_neg h]; intro i hi; exact absurd hi (Nat.not_lt_zero i)
theorem dsg_byte (P : Pm) : ∀ i, i < 4 → dsg P i < 256 := fun i _ => PM.w4_lt _ i
structure Ow (w0 w : World) (d m g n mx : Nat) (P : Pm) (U : List Nat) (s : Sd) : Prop where
  bel : Below w0.heap.size w0 w
  dv : DV w d m g n mx P U s
  ge : ∀ k, k ∈ U → w0.heap.size ≤ k
theorem Ow.gr {w0 w w' : World} {d m g n mx : Nat} {P : Pm} {U U' : List Nat} {s s' : Sd} (h : Ow w0 w d m g n mx P U s) (q : Gr U w U' w') (x : DV w' d m g n mx P U' s') : Ow w0 w' d m g n mx P U' s' :=
  ⟨q.off.below h.bel h.ge h.bel.size, x, fun k hk => by
    rcases q.new k hk with h1 | h1
    · exact h.ge k h1
    · exact Nat.le_trans h.bel.size h1⟩
theorem Ow.below {w0 w w' : World} {d m g n mx : Nat} {P : Pm} {U : List Nat} {s : Sd} (h : Ow w0 w d m g n mx P U s) (b : Below w.heap.size w w') : Ow w0 w' d m g n mx P U s := h.gr (Gr.below b) (h.dv.below b)
theorem newD_ok (m g n mx : Nat) (P : Pm) (hP : Pok P) (ms : Ms) (w : World) (hM : MR w m g n ms) (hx : mx < 4294967296) (ht : ms.t < 9223372036854774000) (h0 : opE mx n ms = 0) :
    Calls Tryz.prog 19 #[.agg #[.int .u32 (P.c : Nat), .int .i64 (P.o : Nat), .int .i64 (P.i : Nat), .int .i64 (P.t : Nat), .int .u32 (P.n : Nat)], .pointer (some ⟨m, 0, none⟩), .int .u32 (mx : Nat)] w fun e w' => ∃ d, e = .returned (.tuple #[.pointer (some ⟨d, 0, none⟩), .int .i64 0]) ∧ Hid (∃ U, Off [m, g] w w' ∧ DV w' d m g n mx P U (dnew (opS mx n ms)) ∧ ∀ k, k ∈ U → k = m ∨ k = g ∨ w.heap.size ≤ k) := by
  refine (newD_any m g n mx P hP ms w hM hx ht).mono ?_
  rintro e w' ⟨p, rfl, h⟩
  obtain ⟨o, _, hd, _⟩ := h.out
  obtain ⟨d, U, rfl, D, hU⟩ := hd h0
  rw [h0]
  exact ⟨d, rfl, U, o, D, hU⟩
theorem made13 (mx : Nat) (P : Pm) (hP : Pok P) (w0 w : World) (m g : Nat) (hb : Below w0.heap.size w0 w) (hm : w0.heap.size ≤ m) (hg : w0.heap.size ≤ g) (hM : MR w m g 16 M0) (hx : mx < 4294967296) (h0 : mx ≠ 0) :
    Calls Tryz.prog 19 #[.agg #[.int .u32 (P.c : Nat), .int .i64 (P.o : Nat), .int .i64 (P.i : Nat), .int .i64 (P.t : Nat), .int .u32 (P.n : Nat)], .pointer (some ⟨m, 0, none⟩), .int .u32 (mx : Nat)] w fun e w' => ∃ d, e = .returned (.tuple #[.pointer (some ⟨d, 0, none⟩), .int .i64 0]) ∧ Hid (∃ U, Ow w0 w' d m g 16 mx P U (dnew M0)) := by
  have hN := newD_ok m g 16 mx P hP M0 w hM hx (by decide) (open0 mx h0).1
  rw [(open0 mx h0).2] at hN
  refine hN.mono ?_
  rintro e w' ⟨d, rfl, h⟩
  obtain ⟨U, o, D, hU⟩ := h.out
  refine ⟨d, rfl, U, o.below hb (by simp; omega) hb.size, D, fun k hk => ?_⟩
  have := hb.size
  rcases hU k hk with h | h | h <;> omega
theorem seeS_any (d m g n mx : Nat) (P : Pm) (U : List Nat) (s : Sd) (w : World) (h : DV w d m g n mx P U s) :
    Calls Tryz.prog 21 #[.pointer (some ⟨d, 0, none⟩)] w fun e w' => ∃ a cap, e = .returned (.agg #[.int .i64 (s.st : Nat), .int .u32 (s.ss : Nat), .int .u32 (s.nm : Nat), .int .u32 (s.sn : Nat), .int .i64 (s.dc : Nat), .int .i64 s.v.lat, .bool (vreq s.v), .bool (von s.v), .slice a P.o cap]) ∧ Hid (Fr w' w.heap.size (.slice a P.o cap) (P.o, vout s.v) ∧ Row8 w' a P.o cap (vout s.v) ∧ Below w.heap.size w w') := by
  obtain ⟨B, x⟩ := id h
  refine (see_any d m g n mx P U s w h).mono ?_
  rintro e w' ⟨v, rfl, h2⟩
  obtain ⟨a, cap, hv, r⟩ := h2.out.1.row (vout_byte x.val)
  subst hv
  exact ⟨a, cap, rfl, h2.out.1, r, h2.out.2⟩
set_option maxHeartbeats 6400000 in
theorem awake13 (w : World) : Calls Tryz.prog 15 #[] w fun e w' => e = .returned (.bool true) ∧ Below w.heap.size w w' := by
  have hM := new_ok 16 w (by omega)
  go_enter Tryz.func15, Tryz.ntmps15
  go_wp2_with (go_at_call 17; refine hM.mono ?_; rintro e w1 ⟨m, g, rfl, h1⟩)
  refine (small_any w1).mono ?_
  rintro e w2 ⟨rfl, b2⟩
  obtain ⟨m1, g1, o1, x1⟩ := h1.out
  have x2 := x1.off (Off.of_below (l := []) b2) (by simp) (by simp)
  have hN := made13 9 P0 P0_ok w w2 m g ((o1.below (Below.refl _ _) (by simp) (Nat.le_refl _)).trans (b2.mono o1.size)) m1 g1 x2 (by omega) (by omega)
  clear hM h1 m1 g1 o1 x1 b2 x2
  go_wp2_with fail
  refine hN.mono ?_
  rintro e w3 ⟨d, rfl, h3⟩
  obtain ⟨U, O3⟩ := h3.out
  have H3 : Hid (_) := O3
  clear hN h3 O3
  go_wp2_with fail
  refine (small_any w3).mono ?_
  rintro e w4 ⟨rfl, b4⟩
  have H4 : Hid (_) := H3.out.below b4
  have hS := rsign_good P0.c P0.o P0.i P0.t P0.n w4 P0_ok.c P0_ok.n P0_ok.ok
  clear H3 b4
  go_wp2_with fail
  refine hS.mono ?_
  rintro e w5 ⟨gs, rfl, h5⟩
  have hF := frame_any 1 7 0 0 0 (some ⟨gs, 0, none⟩) 4 4 (dsg P0) w5 h5.out.1 (by omega) (by omega) (by omega)
  rw [show encI 1 7 0 0 0 4 (dsg P0) = wishF P0 from wish_enc P0 P0_ok] at hF
  have H5 : Hid (_) := H4.out.below h5.out.2
  clear hS h5 H4
  go_wp2_with fail
  refine hF.mono ?_
  rintro e w6 ⟨v6, rfl, h6⟩
  obtain ⟨a6, c6, rfl, r6⟩ := h6.out.1.row (by rw [← wish_enc P0 P0_ok]; exact encF_byte _ _ _ _ _ _ _ (dsg_byte P0))
  have H6 := H5.out.below h6.out.2
  have hR := receive_any d m g 16 9 P0 U (dnew M0) a6 _ c6 _ w6 H6.dv r6 (by decide) (by decide) (by decide) (by decide)
  obtain ⟨f1, f2, f3⟩ := first_wish P0 P0_ok 9 (by omega)
  rw [f1, f3] at hR
  have K6 : Hid (_) := And.intro H6 f2
  generalize drecv P0 9 16 (dnew M0) (wishF P0).1 (wishF P0).2 = R at *
  clear hF h6 r6 H6 H5 f1 f2 f3
  go_wp2_with fail
  refine hR.mono ?_
  rintro e w7 ⟨v7, rfl, h7⟩
  obtain ⟨U7, g7, D7, F7, k7⟩ := h7.out
  have O7 := K6.out.1.gr g7 D7
  have hE := LW_offer (c := 7) (s := 1) (by omega) (by omega)
  obtain ⟨e1, e2, e3, e4, e5, e6, e7⟩ := DE_back 17 7 1 0 0 4 (dsg P0) (by omega) (by omega) (by omega) (by omega) hE
  have ef : encF 17 P0.c 1 0 0 4 (dsg P0) = (23, PM.sl (fr 17 7 1 0 0 4 (dsg P0)) 19) := if_pos hE
  rw [ef] at F7
  obtain ⟨a7, c7, hv7, r7⟩ := F7.row (by rw [← ef]; exact encF_byte _ _ _ _ _ _ _ (dsg_byte P0))
  replace hv7 : v7 = Value.slice a7 23 c7 := hv7
  subst hv7
  have hDc := refDec_ok a7 23 c7 (PM.sl (fr 17 7 1 0 0 4 (dsg P0)) 19) w7 r7 e1
  rw [show PM.sl (fr 17 7 1 0 0 4 (dsg P0)) 19 0 = 17 from e2, show w4v (PM.sl (fr 17 7 1 0 0 4 (dsg P0)) 19) 5 = 1 from e4] at hDc
  have H7 : Hid (_) := And.intro O7 K6.out.2
  clear hR h7 g7 D7 F7 k7 O7 K6 hE e1 e2 e3 e4 e5 e6 e7 ef r7
  generalize PM.sl (fr 17 7 1 0 0 4 (dsg P0)) 19 = B at *
  go_wp2_with fail
  refine hDc.mono ?_
  rintro e w8 ⟨a8, c8, rfl, h8⟩
  have O8 := (H7.out.1.below h8.out.2).below ((Below.refl _ _).alloc (Nat.le_refl _) (.cells #[.int .i64 17, .int .u32 (w4v B 1 : Nat), .int .u32 1, .int .u32 (w4v B 9 : Nat), .int .i64 (B 13 : Nat), .slice a8 4 c8] 53))
  have hSee := seeS_any d m g 16 9 P0 U7 R.s _ O8.dv
  have H8 : Hid (_) := And.intro O8 H7.out.2
  clear hDc h8 O8 H7
  go_wp2_with fail
  refine hSee.mono ?_
  rintro e w9 ⟨a9, c9, rfl, h9⟩
  have H9 : Hid (_) := (H8.out.1.below h9.out.2.2).bel
  have hst := H8.out.2
  rw [hst]
  clear hSee h9 H8 hst
  have hfl : ∀ w, (Instr.field 44 (.agg #[.int .i64 2, .int .u32 (R.s.ss : Nat), .int .u32 (R.s.nm : Nat), .int .u32 (R.s.sn : Nat), .int .i64 (R.s.dc : Nat), .int .i64 R.s.v.lat, .bool (vreq R.s.v), .bool (von R.s.v), .slice a9 P0.o c9]) 0).run Tryz.prog w = .ok (.int .i64 2) w := fun w => by kernel_rfl
  go_wp2_with fail
  go_ret
  exact ⟨rfl, H9.out⟩
end Go.Proofs.YtpgdghjlfdehjaaGreat
namespace Go.Proofs.YtpgdghjlfdehjaaGreat
set_option maxRecDepth 100000
open Go.RowKit
theorem hsend_new (P : Pm) : hsendE hnew = 0 ∧ hsendF P hnew = encF 1 P.c 0 0 0 4 (dsg P) ∧ (hsendS P hnew).st = 1 := ⟨rfl, rfl, rfl⟩
theorem hseeS_any (d : Nat) (P : Pm) (U : List Nat) (s : Sh) (w : World) (h : HV w d P U s) :
    Calls Tryz.prog 38 #[.pointer (some ⟨d, 0, none⟩)] w fun e w' => ∃ a cap, e = .returned (.agg #[.int .i64 (s.st : Nat), .int .u32 (s.ss : Nat), .int .u32 (s.nm : Nat), .int .u32 (s.sn : Nat), .int .i64 (s.dc : Nat), .int .i64 s.v.lat, .bool (vreq s.v), .bool (von s.v), .slice a P.i cap]) ∧ Hid (Fr w' w.heap.size (.slice a P.i cap) (P.i, vout s.v) ∧ Row8 w' a P.i cap (vout s.v) ∧ Below w.heap.size w w') := by
  obtain ⟨B, x⟩ := id h
  refine (hsee_any d P U s w h).mono ?_
  rintro e w' ⟨v, rfl, h2⟩
  obtain ⟨a, cap, hv, r⟩ := h2.out.1.row (vout_byte x.val)
  subst hv
  exact ⟨a, cap, rfl, h2.out.1, r, h2.out.2⟩
set_option maxHeartbeats 6400000 in
theorem awake14 (w : World) : Calls Tryz.prog 33 #[] w fun e w' => e = .returned (.bool true) ∧ Below w.heap.size w w' := by
  go_enter Tryz.func33, Tryz.ntmps33
  go_wp2_with fail
  refine (small_any w).mono ?_
  rintro e w1 ⟨rfl, b1⟩
  have hN := newH_any P0 P0_ok w1
  have H1 : Hid (_) := b1
  clear b1
  go_wp2_with fail
  refine hN.mono ?_
  rintro e w2 ⟨d, rfl, h2⟩
  obtain ⟨b2, U, v2, hU⟩ := h2.out
  have hS := hsend_any d P0 U hnew w2 v2 (by decide) (by decide) (fun e => absurd e (by decide)) (by decide)
  obtain ⟨f1, f2, f3⟩ := hsend_new P0
  rw [f1, f2] at hS
  have H2 : Hid (_) := And.intro (H1.out.trans (b2.mono H1.out.size)) (And.intro (fun k hk => Nat.le_trans H1.out.size (hU k hk)) f3)
  generalize hsendS P0 hnew = S2 at *
  clear hN h2 b2 v2 hU f1 f2 f3 H1
  go_wp2_with fail
  refine hS.mono ?_
  rintro e w3 ⟨v3, rfl, h3⟩
  obtain ⟨U3, g3, x3, F3, k3⟩ := h3.out
  obtain ⟨b2, hU, hst⟩ := H2.out
  have b3 : Below w.heap.size w w3 := g3.off.below b2 hU b2.size
  have hE : LW 1 7 0 0 0 4 4 = 0 := by decide
  obtain ⟨e1, e2, e3, e4, e5, e6, e7⟩ := DE_back 1 7 0 0 0 4 (dsg P0) (by omega) (by omega) (by omega) (by omega) hE
  have ef : encF 1 P0.c 0 0 0 4 (dsg P0) = (23, PM.sl (fr 1 7 0 0 0 4 (dsg P0)) 19) := if_pos hE
  rw [ef] at F3
  obtain ⟨a3, c3, hv3, r3⟩ := F3.row (by rw [← ef]; exact encF_byte _ _ _ _ _ _ _ (dsg_byte P0))
  replace hv3 : v3 = Value.slice a3 23 c3 := hv3
  subst hv3
  have hDc := refDec_ok a3 23 c3 (PM.sl (fr 1 7 0 0 0 4 (dsg P0)) 19) w3 r3 e1
  rw [show PM.sl (fr 1 7 0 0 0 4 (dsg P0)) 19 0 = 1 from e2, show w4v (PM.sl (fr 1 7 0 0 0 4 (dsg P0)) 19) 1 = 7 from e3] at hDc
  have H3 : Hid (_) := And.intro b3 (And.intro x3 hst)
  clear hS h3 g3 x3 F3 k3 b2 hU hst b3 hE e1 e2 e3 e4 e5 e6 e7 ef r3 H2
  generalize PM.sl (fr 1 7 0 0 0 4 (dsg P0)) 19 = B at *
  go_wp2_with fail
  refine hDc.mono ?_
  rintro e w4 ⟨a4, c4, rfl, h4⟩
  have b4 : Below w3.heap.size w3 (w4.alloc (.cells #[.int .i64 1, .int .u32 7, .int .u32 (w4v B 5 : Nat), .int .u32 (w4v B 9 : Nat), .int .i64 (B 13 : Nat), .slice a4 4 c4] 53)) := h4.out.2.alloc h4.out.2.size _
  have hSee := hseeS_any d P0 U3 S2 _ (HV.below H3.out.2.1 b4)
  have H4 : Hid (_) := And.intro (H3.out.1.trans (b4.mono H3.out.1.size)) H3.out.2.2
  clear hDc h4 b4 H3
  go_wp2_with fail
  refine hSee.mono ?_
  rintro e w5 ⟨a5, c5, rfl, h5⟩
  have H5 : Hid (_) := H4.out.1.trans (h5.out.2.2.mono H4.out.1.size)
  have hst := H4.out.2
  rw [hst]
  clear hSee h5 H4 hst
  have hfl : ∀ w, (Instr.field 44 (.agg #[.int .i64 1, .int .u32 (S2.ss : Nat), .int .u32 (S2.nm : Nat), .int .u32 (S2.sn : Nat), .int .i64 (S2.dc : Nat), .int .i64 S2.v.lat, .bool (vreq S2.v), .bool (von S2.v), .slice a5 P0.i c5]) 0).run Tryz.prog w = .ok (.int .i64 1) w := fun w => by kernel_rfl
  go_wp2_with fail
  go_ret
  exact ⟨rfl, H5.out⟩
end Go.Proofs.YtpgdghjlfdehjaaGreat
namespace Go.Proofs.YtpgdghjlfdehjaaGreat
set_option maxRecDepth 100000
open Go.RowKit
theorem build0D (w : World) : (Instr.buildSlice 42 0 #[]).run Tryz.prog w = .ok (.slice (some ⟨w.heap.size, 0, none⟩) 0 0) (w.alloc (.cells #[] 5)) := by kernel_rfl
theorem own0D (B : Nat) (bs : Nat → Nat) (w : World) (h : B ≤ w.heap.size) : (w.alloc (.cells #[] 5)).ownsRow B 5 1 (.slice (some ⟨w.heap.size, 0, none⟩) 0 0) 0 (CB bs 0) := World.ownsRow_made w #[] 0 h (Nat.zero_le _) rfl
set_option maxHeartbeats 6400000 in
theorem same13_any (st ss nm sn dc lat : Int) (rq on : Bool) (a a' : Option Addr) (n n' cap cap' : Nat) (bs bs' : Nat → Nat) (w : World) (R : Row8 w a n cap bs) (R' : Row8 w a' n' cap' bs') (hX : BA bs n = BA bs' n') :
    Calls Tryz.prog 32 #[.agg #[.int .i64 st, .int .u32 ss, .int .u32 nm, .int .u32 sn, .int .i64 dc, .int .i64 lat, .bool rq, .bool on, .slice a n cap], .agg #[.int .i64 st, .int .u32 ss, .int .u32 nm, .int .u32 sn, .int .i64 dc, .int .i64 lat, .bool rq, .bool on, .slice a' n' cap']] w fun e w' => e = .returned (.bool true) ∧ Below w.heap.size w w' := by
  have b0 : Below w.heap.size w ((w.alloc (.cells #[.int .i64 st, .int .u32 ss, .int .u32 nm, .int .u32 sn, .int .i64 dc, .int .i64 lat, .bool rq, .bool on, .slice a n cap] 44)).alloc (.cells #[.int .i64 st, .int .u32 ss, .int .u32 nm, .int .u32 sn, .int .i64 dc, .int .i64 lat, .bool rq, .bool on, .slice a' n' cap'] 44)) := ((Below.refl _ _).alloc (Nat.le_refl _) _).alloc (by simp) _
  obtain ⟨X, hX1⟩ : ∃ X, BA bs n = X := ⟨_, rfl⟩
  have hX2 : BA bs' n' = X := hX ▸ hX1
  have q1 := conv_any a n cap bs _ (R.below b0)
  have q2 := conv_any a' n' cap' bs' _ (R'.below b0)
  rw [hX1] at q1
  rw [hX2] at q2
  have HB : Hid (_) := b0
  clear R R' hX hX1 hX2 b0
  go_enter Tryz.func32, Tryz.ntmps32
  go_wp2_with fail
  go_ret
  exact ⟨by simp, HB.out⟩
end Go.Proofs.YtpgdghjlfdehjaaGreat
namespace Go.Proofs.YtpgdghjlfdehjaaGreat
set_option maxRecDepth 100000
open Go.RowKit
theorem wpList_let {P : Program} {ops : Array Oper} {Q : Exit → Act → World → Prop} {a : Act} {w : World} {rest : List Oper} {o : Oper} (hw : Region.wanted o (yielded ops a.tmps) = true) (h : wpList P ops Q ({ o with guard := none } :: rest) a w) : wpList P ops Q (o :: rest) a w := by
  obtain ⟨op, ty, dst, pos, after, guard⟩ := o
  unfold wpList at h ⊢
  rw [if_pos hw]
  rw [if_pos (by simp [Region.wanted])] at h
  exact h
end Go.Proofs.YtpgdghjlfdehjaaGreat
