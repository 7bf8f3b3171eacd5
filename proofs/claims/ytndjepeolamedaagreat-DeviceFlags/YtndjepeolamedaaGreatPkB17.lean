/- Part 18 of the texts on which the proofs of layer 13 rest: contracts of Go functions. -/
import Derived.Test.YtndjepeolamedaaGreatPkB01
import Derived.Test.YtndjepeolamedaaGreatPkB07
import Derived.Test.YtndjepeolamedaaGreatPkB15
import Derived.Test.YtndjepeolamedaaGreatPkB16
namespace Go.Proofs.YtndjepeolamedaaGreat
set_option maxRecDepth 100000
open Go.RowKit
def encI (k c s n : Nat) (f : Int) (len : Nat) (bs : Nat → Nat) : Fm := if LW k c s n f len len = 0 then (15 + len + 4, PM.sl (fr k c s n f.toNat len bs) (15 + len)) else fm0
theorem encI_nat (k c s n f len : Nat) (bs : Nat → Nat) : encI k c s n (f : Int) len bs = encF k c s n f len bs := rfl
set_option maxHeartbeats 1600000 in
theorem frame_any (k c s n : Nat) (f : Int) (a : Option Addr) (len cap : Nat) (bs : Nat → Nat) (w : World) (hr : Row8 w a len cap bs) (hc : c < 4294967296) (hs : s < 4294967296) (hn : n < 4294967296) :
    Calls Tryz.prog 47 #[.agg #[.int .i64 (k : Nat), .int .u32 (c : Nat), .int .u32 (s : Nat), .int .u32 (n : Nat), .int .i64 f, .slice a len cap]] w fun e w' => ∃ v, e = .returned v ∧ Hid (Fr w' w.heap.size v (encI k c s n f len bs) ∧ Below w.heap.size w w') := by
  have b0 : Below w.heap.size w (w.alloc (.cells #[.int .i64 (k : Nat), .int .u32 (c : Nat), .int .u32 (s : Nat), .int .u32 (n : Nat), .int .i64 f, .slice a len cap] 67)) := (Below.refl _ _).alloc (Nat.le_refl _) _
  have fin : Calls Tryz.prog 96 #[.agg #[.int .i64 (k : Nat), .int .u32 (c : Nat), .int .u32 (s : Nat), .int .u32 (n : Nat), .int .i64 f, .slice a len cap]] (w.alloc (.cells #[.int .i64 (k : Nat), .int .u32 (c : Nat), .int .u32 (s : Nat), .int .u32 (n : Nat), .int .i64 f, .slice a len cap] 67)) fun e w' => ∃ v E, e = .returned (.tuple #[v, .int .i64 E]) ∧ Hid (Fr w' w.heap.size v (encI k c s n f len bs) ∧ Below w.heap.size w w') := by
    unfold encI
    by_cases hE : LW k c s n f len len = 0
    · rw [if_pos hE]
      have hf := (LW_zero hE).2.2.2.2
      obtain ⟨F, rfl⟩ : ∃ F : Nat, f = (F : Int) := ⟨f.toNat, by omega⟩
      refine (refEncode_good k c s n F a len cap bs _ (hr.below b0) hc hs hn hE).mono ?_
      rintro e w' ⟨v, rfl, h4⟩
      exact ⟨v, 0, rfl, own_base h4.out.1 b0.size, b0.trans (h4.out.2.mono b0.size)⟩
    · rw [if_neg hE]
      refine (refEncode_bad k c s n f a len cap _ hE).mono ?_
      rintro e w' ⟨rfl, h4⟩
      exact ⟨_, _, rfl, own_nil _ _ _, b0.trans (h4.mono b0.size)⟩
  clear hr hc hs hn b0
  go_enter Tryz.func47, Tryz.ntmps47
  go_wp2_with fail
  refine fin.mono ?_
  rintro e w4 ⟨v, E, rfl, h4⟩
  clear fin
  go_wp2_with fail
  go_ret
  exact ⟨v, rfl, h4⟩
def P0 : Pm := ⟨7, 2, 1, 10, 9⟩
theorem P0_ok : Pok P0 := ⟨by unfold okP P0; decide, by decide, by decide⟩
theorem small_any (w : World) : Calls Tryz.prog 17 #[] w fun e w' => e = .returned (.agg #[.int .u32 (P0.c : Nat), .int .i64 (P0.o : Nat), .int .i64 (P0.i : Nat), .int .i64 (P0.t : Nat), .int .u32 (P0.n : Nat)]) ∧ Below w.heap.size w w' := by
  go_enter Tryz.func17, Tryz.ntmps17
  go_wp2_with fail
  refine bodyPost_ret (v := .agg #[.int .u32 (P0.c : Nat), .int .i64 (P0.o : Nat), .int .i64 (P0.i : Nat), .int .i64 (P0.t : Nat), .int .u32 (P0.n : Nat)]) (by simp [results, Tryz.results17, go_sem, P0]) rfl ⟨rfl, ?_⟩
  exact (Below.refl _ _).alloc (Nat.le_refl _) _
def wishF (P : Pm) : Fm := (23, PM.sl (fr 1 P.c 0 0 0 4 (dsg P)) 19)
theorem LW_wish {c : Nat} (h : c ≠ 0) : LW 1 c 0 0 0 4 4 = 0 := by
  unfold LW
  rw [if_neg (by decide), if_neg (by omega), if_neg (by decide), if_neg (by decide), if_neg (by decide), if_neg (by decide)]
theorem wish_enc (P : Pm) (h : Pok P) : encF 1 P.c 0 0 0 4 (dsg P) = wishF P := by
  exact if_pos (LW_wish h.c0)
theorem BA_congr (f g : Nat → Nat) (n : Nat) (h : ∀ i, i < n → f i = g i) : BA f n = BA g n := by
  unfold BA
  congr 1
  apply List.map_congr_left
  intro i hi
  rw [h i (List.mem_range.1 hi)]
theorem hear_wish (P : Pm) (h : Pok P) (mx n : Nat) (s : Sd) : dhear P mx n s (wishF P).1 (wishF P).2 = dwish P mx n s := by
  obtain ⟨e1, e2, e3, e4, e5, e6, e7⟩ := DE_back 1 P.c 0 0 0 4 (dsg P) h.c (by omega) (by omega) (by omega) (LW_wish h.c0)
  have hd : DE (wishF P).2 (wishF P).1 = 0 := e1
  have h0 : (wishF P).2 0 = 1 := e2
  have h1 : w4v (wishF P).2 1 = P.c := e3
  unfold dhear
  rw [if_neg (by omega), if_neg (by rw [h0]; decide), if_neg (by omega), h0]
  unfold dtake
  rw [if_pos rfl, if_pos]
  unfold dsigned
  exact decide_eq_true (BA_congr _ _ 4 (fun i hi => e7 i hi))
def M0 : Ms := S0 fun _ => 0
theorem open0 (mx : Nat) (h : mx ≠ 0) : opE mx 16 M0 = 0 ∧ opS mx 16 M0 = M0 := by
  have hm : mend M0.bs = [] := by decide
  constructor
  · unfold opE
    rw [if_neg (by omega), if_neg (by decide), hm]
    rfl
  · unfold opS
    rw [if_neg (by omega), if_neg (by decide), hm]
    rfl
theorem next0 (mx : Nat) (h : mx ≠ 0) : (nx mx 16 M0.bs false M0).e = 0 ∧ (nx mx 16 M0.bs false M0).v = 1 := by
  have hv : vz M0.bs = 0 := by decide
  have ht : tg M0.bs = 0 := by decide
  unfold nx
  rw [if_neg (by decide), hv, if_neg (by omega), ht]
  rcases sq_all 16 (six 0 (0 + 1)) M0 (fun x hx => (six_in _ _ 16 (by omega) (by omega) x hx).1) rfl (Int.le_refl _) with ⟨e, _⟩ | ⟨_, _, e, _⟩
  · rw [if_pos e]; exact ⟨rfl, rfl⟩
  · cases e
theorem first_wish (P : Pm) (h : Pok P) (mx : Nat) (hm : mx ≠ 0) :
    (drecv P mx 16 (dnew M0) (wishF P).1 (wishF P).2).e = 0 ∧ (drecv P mx 16 (dnew M0) (wishF P).1 (wishF P).2).s.st = 2 ∧ (drecv P mx 16 (dnew M0) (wishF P).1 (wishF P).2).f = encF 17 P.c 1 0 0 4 (dsg P) := by
  obtain ⟨n1, n2⟩ := next0 mx hm
  have hw : dwish P mx 16 (dnew M0) = dbegin P mx 16 (dnew M0) := rfl
  have hb : dbegin P mx 16 (dnew M0) = ⟨{ dleave { dnew M0 with ms := (nx mx 16 M0.bs false M0).s } 2 with ss := (nx mx 16 M0.bs false M0).v }, doffer P { dleave { dnew M0 with ms := (nx mx 16 M0.bs false M0).s } 2 with ss := (nx mx 16 M0.bs false M0).v }, 0⟩ := by
    unfold dbegin
    have e1 : (nx mx 16 (dnew M0).ms.bs false (dnew M0).ms).e = 0 := n1
    rw [if_neg (by rw [e1]; decide), if_neg (by rw [e1]; decide)]
    rfl
  unfold drecv
  rw [if_neg (by show (1 : Nat) ≠ 6; omega), hear_wish P h, hw, hb, if_neg (by rintro ⟨e, _⟩; exact e rfl)]
  refine ⟨rfl, rfl, ?_⟩
  show encF 17 P.c (nx mx 16 M0.bs false M0).v 0 0 4 (dsg P) = _
  rw [n2]
theorem LW_offer {c s : Nat} (h : c ≠ 0) (hs : s ≠ 0) : LW 17 c s 0 0 4 4 = 0 := by
  unfold LW
  rw [if_neg (by decide), if_neg (by omega), if_neg (by decide), if_neg (by unfold mSess; rw [if_neg (by omega), if_neg (by omega)]; simp; omega), if_neg (by decide), if_neg (by decide)]
theorem Fr.row {w : World} {M : Nat} {v : Value} {f : Fm} (h : Fr w M v f) (hb : ∀ i, i < f.1 → f.2 i < 256) : ∃ a cap, v = .slice a f.1 cap ∧ Row8 w a f.1 cap f.2 := own_row8 h hb
theorem encF_byte (k c s n f len : Nat) (bs : Nat → Nat) (hb : ∀ i, i < len → bs i < 256) : ∀ i, i < (encF k c s n f len bs).1 → (encF k c s n f len bs).2 i < 256 := by
  unfold encF
  by_cases h : LW k c s n f len len = 0
  · rw [if_pos h]
    have hz := LW_zero h
    intro i _
    have hfr := fr_lt (K := k) (c := c) (s := s) (n := n) (F := f) (len := len) (bs := bs) (by omega) (by omega) (by omega) hb
    show PM.sl _ _ i < 256
    unfold PM.sl PM.ct
    split
    · rename_i h2; exact hfr i h2
    · exact PM.w4_lt _ _
  · rw [if_neg h]; intro i hi; exact absurd hi (Nat.not_lt_zero i)
theorem dsg_byte (P : Pm) : ∀ i, i < 4 → dsg P i < 256 := fun i _ => PM.w4_lt _ i
structure Ow (w0 w : World) (d m g n mx : Nat) (P : Pm) (U : List Nat) (s : Sd) : Prop where
  bel : Below w0.heap.size w0 w
  dv : DV w d m g n mx P U s
  ge : ∀ k, k ∈ U → w0.heap.size ≤ k
theorem Ow.gr {w0 w w' : World} {d m g n mx : Nat} {P : Pm} {U U' : List Nat} {s s' : Sd} (h : Ow w0 w d m g n mx P U s) (q : Gr U w U' w') (x : DV w' d m g n mx P U' s') : Ow w0 w' d m g n mx P U' s' :=
  ⟨q.off.below h.bel h.ge h.bel.size, x, fun k hk => by
    rcases q.new k hk with h1 | h1
    · exact h.ge k h1
    · exact Nat.le_trans h.bel.size h1⟩
theorem Ow.below {w0 w w' : World} {d m g n mx : Nat} {P : Pm} {U : List Nat} {s : Sd} (h : Ow w0 w d m g n mx P U s) (b : Below w.heap.size w w') : Ow w0 w' d m g n mx P U s := h.gr (Gr.below b) (h.dv.below b)
theorem newD_ok (m g n mx : Nat) (P : Pm) (hP : Pok P) (ms : Ms) (w : World) (hM : MR w m g n ms) (hx : mx < 4294967296) (ht : ms.t < 9223372036854774000) (h0 : opE mx n ms = 0) :
    Calls Tryz.prog 16 #[.agg #[.int .u32 (P.c : Nat), .int .i64 (P.o : Nat), .int .i64 (P.i : Nat), .int .i64 (P.t : Nat), .int .u32 (P.n : Nat)], .pointer (some ⟨m, 0, none⟩), .int .u32 (mx : Nat)] w fun e w' => ∃ d, e = .returned (.tuple #[.pointer (some ⟨d, 0, none⟩), .int .i64 0]) ∧ Hid (∃ U, Off [m, g] w w' ∧ DV w' d m g n mx P U (dnew (opS mx n ms)) ∧ ∀ k, k ∈ U → k = m ∨ k = g ∨ w.heap.size ≤ k) := by
  refine (newD_any m g n mx P hP ms w hM hx ht).mono ?_
  rintro e w' ⟨p, rfl, h⟩
  obtain ⟨o, _, hd, _⟩ := h.out
  obtain ⟨d, U, rfl, D, hU⟩ := hd h0
  rw [h0]
  exact ⟨d, rfl, U, o, D, hU⟩
theorem made13 (mx : Nat) (P : Pm) (hP : Pok P) (w0 w : World) (m g : Nat) (hb : Below w0.heap.size w0 w) (hm : w0.heap.size ≤ m) (hg : w0.heap.size ≤ g) (hM : MR w m g 16 M0) (hx : mx < 4294967296) (h0 : mx ≠ 0) :
    Calls Tryz.prog 16 #[.agg #[.int .u32 (P.c : Nat), .int .i64 (P.o : Nat), .int .i64 (P.i : Nat), .int .i64 (P.t : Nat), .int .u32 (P.n : Nat)], .pointer (some ⟨m, 0, none⟩), .int .u32 (mx : Nat)] w fun e w' => ∃ d, e = .returned (.tuple #[.pointer (some ⟨d, 0, none⟩), .int .i64 0]) ∧ Hid (∃ U, Ow w0 w' d m g 16 mx P U (dnew M0)) := by
  have hN := newD_ok m g 16 mx P hP M0 w hM hx (by decide) (open0 mx h0).1
  rw [(open0 mx h0).2] at hN
  refine hN.mono ?_
  rintro e w' ⟨d, rfl, h⟩
  obtain ⟨U, o, D, hU⟩ := h.out
  refine ⟨d, rfl, U, o.below hb (by simp; omega) hb.size, D, fun k hk => ?_⟩
  have := hb.size
  rcases hU k hk with h | h | h <;> omega
theorem seeS_any (d m g n mx : Nat) (P : Pm) (U : List Nat) (s : Sd) (w : World) (h : DV w d m g n mx P U s) :
    Calls Tryz.prog 26 #[.pointer (some ⟨d, 0, none⟩)] w fun e w' => ∃ a cap, e = .returned (.agg #[.int .i64 (s.st : Nat), .int .u32 (s.ss : Nat), .int .u32 (s.nm : Nat), .int .u32 (s.sn : Nat), .int .i64 (s.dc : Nat), .int .i64 s.v.lat, .bool (vreq s.v), .bool (von s.v), .slice a P.o cap]) ∧ Hid (Fr w' w.heap.size (.slice a P.o cap) (P.o, vout s.v) ∧ Row8 w' a P.o cap (vout s.v) ∧ Below w.heap.size w w') := by
  obtain ⟨B, x⟩ := id h
  refine (see_any d m g n mx P U s w h).mono ?_
  rintro e w' ⟨v, rfl, h2⟩
  obtain ⟨a, cap, hv, r⟩ := h2.out.1.row (vout_byte x.val)
  subst hv
  exact ⟨a, cap, rfl, h2.out.1, r, h2.out.2⟩
set_option maxHeartbeats 6400000 in
theorem awake13 (w : World) : Calls Tryz.prog 13 #[] w fun e w' => e = .returned (.bool true) ∧ Below w.heap.size w w' := by
  have hM := new_ok 16 w (by omega)
  go_enter Tryz.func13, Tryz.ntmps13
  go_wp2_with (go_at_call 14; refine hM.mono ?_; rintro e w1 ⟨m, g, rfl, h1⟩)
  refine (small_any w1).mono ?_
  rintro e w2 ⟨rfl, b2⟩
  obtain ⟨m1, g1, o1, x1⟩ := h1.out
  have x2 := x1.off (Off.of_below (l := []) b2) (by simp) (by simp)
  have hN := made13 9 P0 P0_ok w w2 m g ((o1.below (Below.refl _ _) (by simp) (Nat.le_refl _)).trans (b2.mono o1.size)) m1 g1 x2 (by omega) (by omega)
  clear hM h1 m1 g1 o1 x1 b2 x2
  go_wp2_with fail
  refine hN.mono ?_
  rintro e w3 ⟨d, rfl, h3⟩
  obtain ⟨U, O3⟩ := h3.out
  have H3 : Hid (_) := O3
  clear hN h3 O3
  go_wp2_with fail
  refine (small_any w3).mono ?_
  rintro e w4 ⟨rfl, b4⟩
  have H4 : Hid (_) := H3.out.below b4
  have hS := rsign_good P0.c P0.o P0.i P0.t P0.n w4 P0_ok.c P0_ok.n P0_ok.ok
  clear H3 b4
  go_wp2_with fail
  refine hS.mono ?_
  rintro e w5 ⟨gs, rfl, h5⟩
  have hF := frame_any 1 7 0 0 0 (some ⟨gs, 0, none⟩) 4 4 (dsg P0) w5 h5.out.1 (by omega) (by omega) (by omega)
  rw [show encI 1 7 0 0 0 4 (dsg P0) = wishF P0 from wish_enc P0 P0_ok] at hF
  have H5 : Hid (_) := H4.out.below h5.out.2
  clear hS h5 H4
  go_wp2_with fail
  refine hF.mono ?_
  rintro e w6 ⟨v6, rfl, h6⟩
  obtain ⟨a6, c6, rfl, r6⟩ := h6.out.1.row (by rw [← wish_enc P0 P0_ok]; exact encF_byte _ _ _ _ _ _ _ (dsg_byte P0))
  have H6 := H5.out.below h6.out.2
  have hR := receive_any d m g 16 9 P0 U (dnew M0) a6 _ c6 _ w6 H6.dv r6 (by decide) (by decide) (by decide) (by decide)
  obtain ⟨f1, f2, f3⟩ := first_wish P0 P0_ok 9 (by omega)
  rw [f1, f3] at hR
  have K6 : Hid (_) := And.intro H6 f2
  generalize drecv P0 9 16 (dnew M0) (wishF P0).1 (wishF P0).2 = R at *
  clear hF h6 r6 H6 H5 f1 f2 f3
  go_wp2_with fail
  refine hR.mono ?_
  rintro e w7 ⟨v7, rfl, h7⟩
  obtain ⟨U7, g7, D7, F7, k7⟩ := h7.out
  have O7 := K6.out.1.gr g7 D7
  have hE := LW_offer (c := 7) (s := 1) (by omega) (by omega)
  obtain ⟨e1, e2, e3, e4, e5, e6, e7⟩ := DE_back 17 7 1 0 0 4 (dsg P0) (by omega) (by omega) (by omega) (by omega) hE
  have ef : encF 17 P0.c 1 0 0 4 (dsg P0) = (23, PM.sl (fr 17 7 1 0 0 4 (dsg P0)) 19) := if_pos hE
  rw [ef] at F7
  obtain ⟨a7, c7, hv7, r7⟩ := F7.row (by rw [← ef]; exact encF_byte _ _ _ _ _ _ _ (dsg_byte P0))
  replace hv7 : v7 = Value.slice a7 23 c7 := hv7
  subst hv7
  have hDc := refDec_ok a7 23 c7 (PM.sl (fr 17 7 1 0 0 4 (dsg P0)) 19) w7 r7 e1
  rw [show PM.sl (fr 17 7 1 0 0 4 (dsg P0)) 19 0 = 17 from e2, show w4v (PM.sl (fr 17 7 1 0 0 4 (dsg P0)) 19) 5 = 1 from e4] at hDc
  have H7 : Hid (_) := And.intro O7 K6.out.2
  clear hR h7 g7 D7 F7 k7 O7 K6 hE e1 e2 e3 e4 e5 e6 e7 ef r7
  generalize PM.sl (fr 17 7 1 0 0 4 (dsg P0)) 19 = B at *
  go_wp2_with fail
  refine hDc.mono ?_
  rintro e w8 ⟨a8, c8, rfl, h8⟩
  have O8 := (H7.out.1.below h8.out.2).below ((Below.refl _ _).alloc (Nat.le_refl _) (.cells #[.int .i64 17, .int .u32 (w4v B 1 : Nat), .int .u32 1, .int .u32 (w4v B 9 : Nat), .int .i64 (B 13 : Nat), .slice a8 4 c8] 67))
  have hSee := seeS_any d m g 16 9 P0 U7 R.s _ O8.dv
  have H8 : Hid (_) := And.intro O8 H7.out.2
  clear hDc h8 O8 H7
  go_wp2_with fail
  refine hSee.mono ?_
  rintro e w9 ⟨a9, c9, rfl, h9⟩
  have H9 : Hid (_) := (H8.out.1.below h9.out.2.2).bel
  have hst := H8.out.2
  rw [hst]
  clear hSee h9 H8 hst
  have hfl : ∀ w, (Instr.field 57 (.agg #[.int .i64 2, .int .u32 (R.s.ss : Nat), .int .u32 (R.s.nm : Nat), .int .u32 (R.s.sn : Nat), .int .i64 (R.s.dc : Nat), .int .i64 R.s.v.lat, .bool (vreq R.s.v), .bool (von R.s.v), .slice a9 P0.o c9]) 0).run Tryz.prog w = .ok (.int .i64 2) w := fun w => by kernel_rfl
  go_wp2_with fail
  go_ret
  exact ⟨rfl, H9.out⟩
end Go.Proofs.YtndjepeolamedaaGreat
namespace Go.Proofs.YtndjepeolamedaaGreat
set_option maxRecDepth 100000
open Go.RowKit
theorem RW.below {w w' : World} {d m g n mx : Nat} {P : Pm} {U : List Nat} {s : Sd} (h : RW w d m g n mx P U s) (hb : Below w.heap.size w w') : RW w' d m g n mx P U s := by
  obtain ⟨B, h⟩ := h
  exact ⟨B, h.newd (Off.of_below hb)⟩
theorem RW.ult {w : World} {d m g n mx : Nat} {P : Pm} {U : List Nat} {s : Sd} (h : RW w d m g n mx P U s) (k : Nat) (hk : k ∈ U) : k < w.heap.size := by
  obtain ⟨B, h⟩ := h
  exact h.ltU k hk
def dover (s : Sd) : Bool := dbusy s && decide (4 ≤ s.od + 1)
set_option maxHeartbeats 3200000 in
theorem rstrange_any (d m g n mx : Nat) (P : Pm) (U : List Nat) (s : Sd) (w : World) (h : RW w d m g n mx P U s) (hs : s.st ≠ 6) (ho : s.od < 4) (hL : s.L.length < 900000) :
    Calls Tryz.prog 124 #[.pointer (some ⟨d, 0, none⟩)] w fun e w' => e = .returned (.bool (dover s)) ∧ Hid (∃ U', Gr U w U' w' ∧ RW w' d m g n mx P U' (dodd s)) := by
  obtain ⟨B, h⟩ := h
  have c18 : w.cell? ⟨d, 18, none⟩ = some (.int .i64 (s.st : Nat)) := cell_of_row w d 18 _ _ _ h.dev
  have c22 : w.cell? ⟨d, 22, none⟩ = some (.int .i64 (s.od : Nat)) := cell_of_row w d 22 _ _ _ h.dev
  have z22 := h.fz 22
  have hI := rbusy_any d s.st w c18
  unfold dodd dover
  by_cases hb : dbusy s = true
  · rw [if_pos hb, hb]
    rw [show decide (s.st = 2 ∨ s.st = 3 ∨ s.st = 4) = true from hb] at hI
    obtain ⟨od1, hod⟩ : ∃ k, s.od + 1 = k := ⟨_, rfl⟩
    rw [hod]
    have e1 : (w.setCell ⟨d, 22, none⟩ (.int .i64 (od1 : Nat))).heap[d]? = some (.cells (RDC P m mx B.cp B.lv B.vv { s with od := od1 } B.av) 128 (0, 0)) := heap_setCell_same _ _ _ _ _ _ h.dev
    have o1 := Off.setCell d 22 w (.int .i64 (od1 : Nat))
    have x1 := h.own (A' := s.st ≠ 6) (s' := { s with od := od1 }) o1 e1 rfl ⟨rfl, rfl⟩ rfl rfl h.vok h.dcl id
    have g1 : Gr U w U (w.setCell ⟨d, 22, none⟩ (.int .i64 (od1 : Nat))) := Gr.same o1 (by simp [h.kd.2])
    have i1 : (s.od : Int) + 1 = (od1 : Int) := by omega
    clear hod
    by_cases h4 : od1 < 4
    · rw [if_pos h4, decide_eq_false (by omega)]
      have h4' : (od1 : Int) < 4 := by omega
      have H : Hid (_) := And.intro g1 x1
      clear h hb o1 x1 g1 hL h4 hs e1
      go_enter Tryz.func124, Tryz.ntmps124
      go_wp2_with (go_at_call 183; refine hI.mono ?_; rintro e w' ⟨rfl, hw⟩; have hw := hw.symm; subst hw)
      go_ret
      exact ⟨rfl, U, H.out.1, B, H.out.2⟩
    · rw [if_neg h4, decide_eq_true (by omega)]
      have h4' : ¬ (od1 : Int) < 4 := by omega
      by_cases hr : s.st = 4
      · rw [if_pos hr]
        have hT := rvlatch_any d m g n mx P U { s with od := od1 } 131 _ ⟨B, x1⟩ (by omega) hL
        rw [hr] at c18
        have H : Hid (_) := g1
        have HS : Hid (_) := hs
        clear h hb o1 x1 g1 hL h4 hs e1
        go_enter Tryz.func124, Tryz.ntmps124
        go_wp2_with (first | (go_at_call 183; refine hI.mono ?_; rintro e w' ⟨rfl, hw⟩; have hw := hw.symm; subst hw) | (go_at_call 130; refine hT.mono ?_; rintro e w2 ⟨rfl, h2⟩))
        obtain ⟨U2, g2, x2⟩ := h2.out
        have hV := rvleave_any d m g n mx P U2 _ 1 w2 x2 (by rw [dlatch_st]; exact HS.out)
        have H2 : Hid (_) := H.out.trans g2
        clear hT hI h2 g2 x2 c18 c22 z22 H HS
        go_wp2_with (go_at_call 186; refine hV.mono ?_; rintro e w3 ⟨rfl, h3⟩)
        go_ret
        obtain ⟨U3, g3, x3⟩ := h3.out
        exact ⟨rfl, U3, H2.out.trans g3, x3⟩
      · rw [if_neg hr]
        have hr' : (((s.st : Nat) : Int) == 4) = false := by simp; omega
        have hV := rvleave_any d m g n mx P U { s with od := od1 } 1 _ ⟨B, x1⟩ hs
        have H : Hid (_) := g1
        clear h hb o1 x1 g1 hL h4 hr hs e1
        go_enter Tryz.func124, Tryz.ntmps124
        go_wp2_with (first | (go_at_call 183; refine hI.mono ?_; rintro e w' ⟨rfl, hw⟩; have hw := hw.symm; subst hw) | (go_at_call 186; refine hV.mono ?_; rintro e w3 ⟨rfl, h3⟩))
        go_ret
        obtain ⟨U3, g3, x3⟩ := h3.out
        exact ⟨rfl, U3, H.out.trans g3, x3⟩
  · have hb' : dbusy s = false := by simpa using hb
    rw [if_neg hb, hb']
    rw [show decide (s.st = 2 ∨ s.st = 3 ∨ s.st = 4) = false from hb'] at hI
    have H : Hid (_) := h
    clear h hb hb' c22 z22
    go_enter Tryz.func124, Tryz.ntmps124
    go_wp2_with (go_at_call 183; refine hI.mono ?_; rintro e w' ⟨rfl, hw⟩; have hw := hw.symm; subst hw)
    go_ret
    exact ⟨rfl, U, Gr.refl _ _, B, H.out⟩
set_option maxHeartbeats 3200000 in
theorem ranswer_any (d m g n mx : Nat) (P : Pm) (U : List Nat) (s : Sd) (k num fl : Nat) (a : Option Addr) (len cap : Nat) (bs : Nat → Nat) (w : World) (h : RW w d m g n mx P U s) (hr : Row8 w a len cap bs) (hss : s.ss < 4294967296) (hnum : num < 4294967296) :
    Calls Tryz.prog 127 #[.pointer (some ⟨d, 0, none⟩), .int .i64 (k : Nat), .int .u32 (num : Nat), .int .i64 (fl : Nat), .slice a len cap] w fun e w' => ∃ v, e = .returned v ∧ Hid (Fr w' w.heap.size v (dsay P s k num fl len bs) ∧ Below w.heap.size w w') := by
  obtain ⟨B, h⟩ := h
  have c0 : w.cell? ⟨d, 0, none⟩ = some (.int .u32 (P.c : Nat)) := cell_of_row w d 0 _ _ _ h.dev
  have c19 : w.cell? ⟨d, 19, none⟩ = some (.int .u32 (s.ss : Nat)) := cell_of_row w d 19 _ _ _ h.dev
  have fin : Calls Tryz.prog 96 #[.agg #[.int .i64 (k : Nat), .int .u32 (P.c : Nat), .int .u32 (s.ss : Nat), .int .u32 (num : Nat), .int .i64 (fl : Nat), .slice a len cap]] w.drew fun e w' => ∃ v E, e = .returned (.tuple #[v, .int .i64 E]) ∧ Hid (Fr w' w.heap.size v (dsay P s k num fl len bs) ∧ Below w.heap.size w w') := by
    have b0 : Below w.heap.size w w.drew := Below.drew (Below.refl _ _)
    unfold dsay encF
    by_cases hE : LW k P.c s.ss num fl len len = 0
    · rw [if_pos hE]
      refine (refEncode_good k P.c s.ss num fl a len cap bs w.drew (hr.below b0) h.pok.c hss hnum hE).mono ?_
      rintro e w' ⟨v, rfl, h4⟩
      exact ⟨v, 0, rfl, h4.out.1, b0.trans h4.out.2⟩
    · rw [if_neg hE]
      refine (refEncode_bad k P.c s.ss num fl a len cap w.drew hE).mono ?_
      rintro e w' ⟨rfl, h4⟩
      exact ⟨_, _, rfl, own_nil _ _ _, b0.trans h4⟩
  clear h hr hss hnum
  go_enter Tryz.func127, Tryz.ntmps127
  go_wp2_with fail
  go_region_with (go_at_call 96; refine fin.mono ?_; rintro e w3 ⟨v, E, rfl, h3⟩)
  all_goals
    clear fin
    go_wp2_with fail
    go_ret
    exact ⟨v, rfl, h3⟩
end Go.Proofs.YtndjepeolamedaaGreat
namespace Go.Proofs.YtndjepeolamedaaGreat
set_option maxRecDepth 100000
open Go.RowKit
theorem life14 {w : World} {d m mx k : Nat} {P : Pm} {s : Sd} {B : Bk2} (h : w.heap[d]? = some (.cells (RDC P m mx B.cp B.lv B.vv s B.av) 128 (0, 0))) :
    ((((((((((((((w.setCell ⟨d, 9, none⟩ (.int .i64 (P.t : Nat))).setCell ⟨d, 10, none⟩ (.int .i64 0)).setCell ⟨d, 11, none⟩ (.int .i64 (P.o : Nat))).setCell ⟨d, 12, none⟩ (.bool false)).setCell ⟨d, 13, none⟩ (.bool false)).setCell ⟨d, 14, none⟩ (.bool false)).setCell ⟨d, 15, none⟩ (.int .i64 0)).setCell ⟨d, 16, none⟩ (.slice none 0 0)).setCell ⟨d, 17, none⟩ (.bool false)).setCell ⟨d, 18, none⟩ (.int .i64 (k : Nat))).setCell ⟨d, 19, none⟩ (.int .u32 0)).setCell ⟨d, 20, none⟩ (.int .u32 0)).setCell ⟨d, 21, none⟩ (.int .u32 0)).setCell ⟨d, 22, none⟩ (.int .i64 0)).heap[d]? = some (.cells (RDC P m mx B.cp B.lv (.slice none 0 0) { s with v := { s.v with run := false, held := false, fr := false, lat := 0, sm := false }, dc := 0, st := k, ss := 0, nm := 0, sn := 0, od := 0 } B.av) 128 (0, 0)) ∧ Off [d] w ((((((((((((((w.setCell ⟨d, 9, none⟩ (.int .i64 (P.t : Nat))).setCell ⟨d, 10, none⟩ (.int .i64 0)).setCell ⟨d, 11, none⟩ (.int .i64 (P.o : Nat))).setCell ⟨d, 12, none⟩ (.bool false)).setCell ⟨d, 13, none⟩ (.bool false)).setCell ⟨d, 14, none⟩ (.bool false)).setCell ⟨d, 15, none⟩ (.int .i64 0)).setCell ⟨d, 16, none⟩ (.slice none 0 0)).setCell ⟨d, 17, none⟩ (.bool false)).setCell ⟨d, 18, none⟩ (.int .i64 (k : Nat))).setCell ⟨d, 19, none⟩ (.int .u32 0)).setCell ⟨d, 20, none⟩ (.int .u32 0)).setCell ⟨d, 21, none⟩ (.int .u32 0)).setCell ⟨d, 22, none⟩ (.int .i64 0)) := by
  have e0 : (w.setCell ⟨d, 9, none⟩ (.int .i64 (P.t : Nat))).heap[d]? = some (.cells (RDC P m mx B.cp B.lv B.vv s B.av) 128 (0, 0)) := heap_setCell_same _ _ _ _ _ _ h
  have e1 : ((w.setCell ⟨d, 9, none⟩ (.int .i64 (P.t : Nat))).setCell ⟨d, 10, none⟩ (.int .i64 0)).heap[d]? = some (.cells (RDC P m mx B.cp B.lv B.vv { s with dc := 0 } B.av) 128 (0, 0)) := heap_setCell_same _ _ _ _ _ _ e0
  have e2 : (((w.setCell ⟨d, 9, none⟩ (.int .i64 (P.t : Nat))).setCell ⟨d, 10, none⟩ (.int .i64 0)).setCell ⟨d, 11, none⟩ (.int .i64 (P.o : Nat))).heap[d]? = some (.cells (RDC P m mx B.cp B.lv B.vv { s with dc := 0 } B.av) 128 (0, 0)) := heap_setCell_same _ _ _ _ _ _ e1
  have e3 : ((((w.setCell ⟨d, 9, none⟩ (.int .i64 (P.t : Nat))).setCell ⟨d, 10, none⟩ (.int .i64 0)).setCell ⟨d, 11, none⟩ (.int .i64 (P.o : Nat))).setCell ⟨d, 12, none⟩ (.bool false)).heap[d]? = some (.cells (RDC P m mx B.cp B.lv B.vv { s with v := { s.v with run := false }, dc := 0 } B.av) 128 (0, 0)) := heap_setCell_same _ _ _ _ _ _ e2
  have e4 : (((((w.setCell ⟨d, 9, none⟩ (.int .i64 (P.t : Nat))).setCell ⟨d, 10, none⟩ (.int .i64 0)).setCell ⟨d, 11, none⟩ (.int .i64 (P.o : Nat))).setCell ⟨d, 12, none⟩ (.bool false)).setCell ⟨d, 13, none⟩ (.bool false)).heap[d]? = some (.cells (RDC P m mx B.cp B.lv B.vv { s with v := { s.v with run := false, held := false }, dc := 0 } B.av) 128 (0, 0)) := heap_setCell_same _ _ _ _ _ _ e3
  have e5 : ((((((w.setCell ⟨d, 9, none⟩ (.int .i64 (P.t : Nat))).setCell ⟨d, 10, none⟩ (.int .i64 0)).setCell ⟨d, 11, none⟩ (.int .i64 (P.o : Nat))).setCell ⟨d, 12, none⟩ (.bool false)).setCell ⟨d, 13, none⟩ (.bool false)).setCell ⟨d, 14, none⟩ (.bool false)).heap[d]? = some (.cells (RDC P m mx B.cp B.lv B.vv { s with v := { s.v with run := false, held := false, fr := false }, dc := 0 } B.av) 128 (0, 0)) := heap_setCell_same _ _ _ _ _ _ e4
  have e6 : (((((((w.setCell ⟨d, 9, none⟩ (.int .i64 (P.t : Nat))).setCell ⟨d, 10, none⟩ (.int .i64 0)).setCell ⟨d, 11, none⟩ (.int .i64 (P.o : Nat))).setCell ⟨d, 12, none⟩ (.bool false)).setCell ⟨d, 13, none⟩ (.bool false)).setCell ⟨d, 14, none⟩ (.bool false)).setCell ⟨d, 15, none⟩ (.int .i64 0)).heap[d]? = some (.cells (RDC P m mx B.cp B.lv B.vv { s with v := { s.v with run := false, held := false, fr := false, lat := 0 }, dc := 0 } B.av) 128 (0, 0)) := heap_setCell_same _ _ _ _ _ _ e5
  have e7 : ((((((((w.setCell ⟨d, 9, none⟩ (.int .i64 (P.t : Nat))).setCell ⟨d, 10, none⟩ (.int .i64 0)).setCell ⟨d, 11, none⟩ (.int .i64 (P.o : Nat))).setCell ⟨d, 12, none⟩ (.bool false)).setCell ⟨d, 13, none⟩ (.bool false)).setCell ⟨d, 14, none⟩ (.bool false)).setCell ⟨d, 15, none⟩ (.int .i64 0)).setCell ⟨d, 16, none⟩ (.slice none 0 0)).heap[d]? = some (.cells (RDC P m mx B.cp B.lv (.slice none 0 0) { s with v := { s.v with run := false, held := false, fr := false, lat := 0 }, dc := 0 } B.av) 128 (0, 0)) := heap_setCell_same _ _ _ _ _ _ e6
  have e8 : (((((((((w.setCell ⟨d, 9, none⟩ (.int .i64 (P.t : Nat))).setCell ⟨d, 10, none⟩ (.int .i64 0)).setCell ⟨d, 11, none⟩ (.int .i64 (P.o : Nat))).setCell ⟨d, 12, none⟩ (.bool false)).setCell ⟨d, 13, none⟩ (.bool false)).setCell ⟨d, 14, none⟩ (.bool false)).setCell ⟨d, 15, none⟩ (.int .i64 0)).setCell ⟨d, 16, none⟩ (.slice none 0 0)).setCell ⟨d, 17, none⟩ (.bool false)).heap[d]? = some (.cells (RDC P m mx B.cp B.lv (.slice none 0 0) { s with v := { s.v with run := false, held := false, fr := false, lat := 0, sm := false }, dc := 0 } B.av) 128 (0, 0)) := heap_setCell_same _ _ _ _ _ _ e7
  have e9 : ((((((((((w.setCell ⟨d, 9, none⟩ (.int .i64 (P.t : Nat))).setCell ⟨d, 10, none⟩ (.int .i64 0)).setCell ⟨d, 11, none⟩ (.int .i64 (P.o : Nat))).setCell ⟨d, 12, none⟩ (.bool false)).setCell ⟨d, 13, none⟩ (.bool false)).setCell ⟨d, 14, none⟩ (.bool false)).setCell ⟨d, 15, none⟩ (.int .i64 0)).setCell ⟨d, 16, none⟩ (.slice none 0 0)).setCell ⟨d, 17, none⟩ (.bool false)).setCell ⟨d, 18, none⟩ (.int .i64 (k : Nat))).heap[d]? = some (.cells (RDC P m mx B.cp B.lv (.slice none 0 0) { s with v := { s.v with run := false, held := false, fr := false, lat := 0, sm := false }, dc := 0, st := k } B.av) 128 (0, 0)) := heap_setCell_same _ _ _ _ _ _ e8
  have e10 : (((((((((((w.setCell ⟨d, 9, none⟩ (.int .i64 (P.t : Nat))).setCell ⟨d, 10, none⟩ (.int .i64 0)).setCell ⟨d, 11, none⟩ (.int .i64 (P.o : Nat))).setCell ⟨d, 12, none⟩ (.bool false)).setCell ⟨d, 13, none⟩ (.bool false)).setCell ⟨d, 14, none⟩ (.bool false)).setCell ⟨d, 15, none⟩ (.int .i64 0)).setCell ⟨d, 16, none⟩ (.slice none 0 0)).setCell ⟨d, 17, none⟩ (.bool false)).setCell ⟨d, 18, none⟩ (.int .i64 (k : Nat))).setCell ⟨d, 19, none⟩ (.int .u32 0)).heap[d]? = some (.cells (RDC P m mx B.cp B.lv (.slice none 0 0) { s with v := { s.v with run := false, held := false, fr := false, lat := 0, sm := false }, dc := 0, st := k, ss := 0 } B.av) 128 (0, 0)) := heap_setCell_same _ _ _ _ _ _ e9
  have e11 : ((((((((((((w.setCell ⟨d, 9, none⟩ (.int .i64 (P.t : Nat))).setCell ⟨d, 10, none⟩ (.int .i64 0)).setCell ⟨d, 11, none⟩ (.int .i64 (P.o : Nat))).setCell ⟨d, 12, none⟩ (.bool false)).setCell ⟨d, 13, none⟩ (.bool false)).setCell ⟨d, 14, none⟩ (.bool false)).setCell ⟨d, 15, none⟩ (.int .i64 0)).setCell ⟨d, 16, none⟩ (.slice none 0 0)).setCell ⟨d, 17, none⟩ (.bool false)).setCell ⟨d, 18, none⟩ (.int .i64 (k : Nat))).setCell ⟨d, 19, none⟩ (.int .u32 0)).setCell ⟨d, 20, none⟩ (.int .u32 0)).heap[d]? = some (.cells (RDC P m mx B.cp B.lv (.slice none 0 0) { s with v := { s.v with run := false, held := false, fr := false, lat := 0, sm := false }, dc := 0, st := k, ss := 0, nm := 0 } B.av) 128 (0, 0)) := heap_setCell_same _ _ _ _ _ _ e10
  have e12 : (((((((((((((w.setCell ⟨d, 9, none⟩ (.int .i64 (P.t : Nat))).setCell ⟨d, 10, none⟩ (.int .i64 0)).setCell ⟨d, 11, none⟩ (.int .i64 (P.o : Nat))).setCell ⟨d, 12, none⟩ (.bool false)).setCell ⟨d, 13, none⟩ (.bool false)).setCell ⟨d, 14, none⟩ (.bool false)).setCell ⟨d, 15, none⟩ (.int .i64 0)).setCell ⟨d, 16, none⟩ (.slice none 0 0)).setCell ⟨d, 17, none⟩ (.bool false)).setCell ⟨d, 18, none⟩ (.int .i64 (k : Nat))).setCell ⟨d, 19, none⟩ (.int .u32 0)).setCell ⟨d, 20, none⟩ (.int .u32 0)).setCell ⟨d, 21, none⟩ (.int .u32 0)).heap[d]? = some (.cells (RDC P m mx B.cp B.lv (.slice none 0 0) { s with v := { s.v with run := false, held := false, fr := false, lat := 0, sm := false }, dc := 0, st := k, ss := 0, nm := 0, sn := 0 } B.av) 128 (0, 0)) := heap_setCell_same _ _ _ _ _ _ e11
  have e13 : ((((((((((((((w.setCell ⟨d, 9, none⟩ (.int .i64 (P.t : Nat))).setCell ⟨d, 10, none⟩ (.int .i64 0)).setCell ⟨d, 11, none⟩ (.int .i64 (P.o : Nat))).setCell ⟨d, 12, none⟩ (.bool false)).setCell ⟨d, 13, none⟩ (.bool false)).setCell ⟨d, 14, none⟩ (.bool false)).setCell ⟨d, 15, none⟩ (.int .i64 0)).setCell ⟨d, 16, none⟩ (.slice none 0 0)).setCell ⟨d, 17, none⟩ (.bool false)).setCell ⟨d, 18, none⟩ (.int .i64 (k : Nat))).setCell ⟨d, 19, none⟩ (.int .u32 0)).setCell ⟨d, 20, none⟩ (.int .u32 0)).setCell ⟨d, 21, none⟩ (.int .u32 0)).setCell ⟨d, 22, none⟩ (.int .i64 0)).heap[d]? = some (.cells (RDC P m mx B.cp B.lv (.slice none 0 0) { s with v := { s.v with run := false, held := false, fr := false, lat := 0, sm := false }, dc := 0, st := k, ss := 0, nm := 0, sn := 0, od := 0 } B.av) 128 (0, 0)) := heap_setCell_same _ _ _ _ _ _ e12
  exact ⟨e13, ((((((((((((((Off.setCell d 9 w (.int .i64 (P.t : Nat))).trans (Off.setCell d 10 _ (.int .i64 0))).trans (Off.setCell d 11 _ (.int .i64 (P.o : Nat)))).trans (Off.setCell d 12 _ (.bool false))).trans (Off.setCell d 13 _ (.bool false))).trans (Off.setCell d 14 _ (.bool false))).trans (Off.setCell d 15 _ (.int .i64 0))).trans (Off.setCell d 16 _ (.slice none 0 0))).trans (Off.setCell d 17 _ (.bool false))).trans (Off.setCell d 18 _ (.int .i64 (k : Nat)))).trans (Off.setCell d 19 _ (.int .u32 0))).trans (Off.setCell d 20 _ (.int .u32 0))).trans (Off.setCell d 21 _ (.int .u32 0))).trans (Off.setCell d 22 _ (.int .i64 0)))⟩
theorem RB.lived {w w1 w2 w3 : World} {d m g n mx : Nat} {P : Pm} {U : List Nat} {s : Sd} {B : Bk2} {A A' : Prop} (h : RB w d m g n mx P U s B A) {k ga : Nat} (q1 : Off [d] w w1) (b2 : Below w1.heap.size w1 w2) (ho : w2.ownsRow w1.heap.size 5 1 (.slice (some ⟨ga, 0, none⟩) P.i P.i) P.i (CB (fun _ => 0) P.i)) (q3 : Off [d] w2 w3)
    (e : w3.heap[d]? = some (.cells (RDC P m mx B.cp B.lv (.slice none 0 0) (dlife s k) (.slice (some ⟨ga, 0, none⟩) P.i P.i)) 128 (0, 0))) (h6 : A' → A) :
    ∃ U' B', Gr U w U' w3 ∧ RB w3 d m g n mx P U' (dlife s k) B' A' := by
  have s1 := q1.size
  have s2 := b2.size
  have s3 := q3.size
  have hga := own_far ho ⟨ga, 0, none⟩ rfl
  have hgl : ga < w3.heap.size := Nat.lt_of_lt_of_le hga.2 s3
  have hge : w.heap.size ≤ ga := Nat.le_trans s1 hga.1
  have hd := h.dlt
  have Q : Off [d] w w3 := (q1.trans (Off.of_below b2)).trans q3
  have hn : ∀ k, B.col k ≠ 0 → k ∉ [d] := fun k hk hm => by simp at hm; rw [hm, h.kd.1] at hk; exact hk rfl
  have hq : ∀ k x, B.col k = x ∧ k ∈ U → (if k < w.heap.size then B.col k else 6) = x ∧ k ∈ ga :: U := fun k x hk => ⟨by rw [if_pos (h.ltU k hk.2)]; exact hk.1, by simp [hk.2]⟩
  refine ⟨ga :: U, { B with vv := .slice none 0 0, av := .slice (some ⟨ga, 0, none⟩) P.i P.i, col := fun k => if k < w.heap.size then B.col k else 6 }, ⟨Q.more (by simp [h.kd.2]), fun k hk => ?_⟩, ?_⟩
  · simp at hk
    rcases hk with rfl | hk
    · exact .inr hge
    · exact .inl hk
  · refine ⟨e, h.mem.off Q (hn _ (by rw [h.km.1]; omega)) (hn _ (by rw [h.kg.1]; omega)), fun hA => ?_, .inl ⟨rfl, rfl⟩, own_offk h.log Q (fun k hk => hn _ (by rw [(h.kl k hk).1]; omega)), ?_, fun _ _ => by show 0 < 256; omega, Vok.new, Nat.zero_le _, ?_, hq _ _ h.kd, hq _ _ h.km, hq _ _ h.kg, hq _ _ h.kc, fun k hk => hq _ _ (h.kM k hk), fun k hk => hq _ _ (h.kl k hk), ?_, h.pok, h.n10, h.mx0, h.mxl, h.nl⟩
    · obtain ⟨c1, c2, c3⟩ := h.cel (h6 hA)
      exact ⟨c1, c2.off Q (hn _ (by rw [h.kc.1]; omega)), c3⟩
    · refine own_offk (own_base ho (Nat.zero_le _)) q3 (fun k hk => ?_)
      cases hk
      simp; omega
    · intro k hk
      simp at hk
      rcases hk with rfl | hk
      · exact hgl
      · exact Nat.lt_of_lt_of_le (h.ltU k hk) Q.size
    · intro k hk
      cases hk
      exact ⟨by show (if ga < w.heap.size then _ else 6) = 6; rw [if_neg (by omega)], by simp⟩
set_option maxHeartbeats 6400000 in
theorem rlife_any (d m g n mx : Nat) (P : Pm) (U : List Nat) (s : Sd) (B : Bk2) (A : Prop) (k : Nat) (w : World) (h : RB w d m g n mx P U s B A) :
    Calls Tryz.prog 55 #[.pointer (some ⟨d, 0, none⟩), .int .i64 (k : Nat)] w fun e w' => e = .returned (.tuple #[]) ∧ Hid (∃ U' B', Gr U w U' w' ∧ RB w' d m g n mx P U' (dlife s k) B' A) := by
  obtain ⟨i0, hi, hz0, hz1, hz2⟩ := info_parts info_u8
  have c1 : w.cell? ⟨d, 1, none⟩ = some (.int .i64 (P.o : Nat)) := cell_of_row w d 1 _ _ _ h.dev
  have c2 : w.cell? ⟨d, 2, none⟩ = some (.int .i64 (P.i : Nat)) := cell_of_row w d 2 _ _ _ h.dev
  have c3 : w.cell? ⟨d, 3, none⟩ = some (.int .i64 (P.t : Nat)) := cell_of_row w d 3 _ _ _ h.dev
  have c9 : w.cell? ⟨d, 9, none⟩ = some (.int .i64 (P.t : Nat)) := cell_of_row w d 9 _ _ _ h.dev
  have z9 := h.fz 9
  have c10 : w.cell? ⟨d, 10, none⟩ = some (.int .i64 (s.dc : Nat)) := cell_of_row w d 10 _ _ _ h.dev
  have z10 := h.fz 10
  have c11 : w.cell? ⟨d, 11, none⟩ = some (.int .i64 (P.o : Nat)) := cell_of_row w d 11 _ _ _ h.dev
  have z11 := h.fz 11
  have c12 : w.cell? ⟨d, 12, none⟩ = some (.bool s.v.run) := cell_of_row w d 12 _ _ _ h.dev
  have z12 := h.fz 12
  have c13 : w.cell? ⟨d, 13, none⟩ = some (.bool s.v.held) := cell_of_row w d 13 _ _ _ h.dev
  have z13 := h.fz 13
  have c14 : w.cell? ⟨d, 14, none⟩ = some (.bool s.v.fr) := cell_of_row w d 14 _ _ _ h.dev
  have z14 := h.fz 14
  have c15 : w.cell? ⟨d, 15, none⟩ = some (.int .i64 s.v.lat) := cell_of_row w d 15 _ _ _ h.dev
  have z15 := h.fz 15
  have c16 : w.cell? ⟨d, 16, none⟩ = some (B.vv) := cell_of_row w d 16 _ _ _ h.dev
  have z16 := h.fz 16
  have c17 : w.cell? ⟨d, 17, none⟩ = some (.bool s.v.sm) := cell_of_row w d 17 _ _ _ h.dev
  have z17 := h.fz 17
  have c18 : w.cell? ⟨d, 18, none⟩ = some (.int .i64 (s.st : Nat)) := cell_of_row w d 18 _ _ _ h.dev
  have z18 := h.fz 18
  have c19 : w.cell? ⟨d, 19, none⟩ = some (.int .u32 (s.ss : Nat)) := cell_of_row w d 19 _ _ _ h.dev
  have z19 := h.fz 19
  have c20 : w.cell? ⟨d, 20, none⟩ = some (.int .u32 (s.nm : Nat)) := cell_of_row w d 20 _ _ _ h.dev
  have z20 := h.fz 20
  have c21 : w.cell? ⟨d, 21, none⟩ = some (.int .u32 (s.sn : Nat)) := cell_of_row w d 21 _ _ _ h.dev
  have z21 := h.fz 21
  have c22 : w.cell? ⟨d, 22, none⟩ = some (.int .i64 (s.od : Nat)) := cell_of_row w d 22 _ _ _ h.dev
  have z22 := h.fz 22
  have hi8 := h.pok.i8
  have l14 := life14 (k := k) h.dev
  have H : Hid (_) := And.intro h l14
  clear h l14
  go_enter Tryz.func55, Tryz.ntmps55
  go_upto_region 7 with fail
  generalize ((((((((((((((w.setCell ⟨d, 9, none⟩ (.int .i64 (P.t : Nat))).setCell ⟨d, 10, none⟩ (.int .i64 0)).setCell ⟨d, 11, none⟩ (.int .i64 (P.o : Nat))).setCell ⟨d, 12, none⟩ (.bool false)).setCell ⟨d, 13, none⟩ (.bool false)).setCell ⟨d, 14, none⟩ (.bool false)).setCell ⟨d, 15, none⟩ (.int .i64 0)).setCell ⟨d, 16, none⟩ (.slice none 0 0)).setCell ⟨d, 17, none⟩ (.bool false)).setCell ⟨d, 18, none⟩ (.int .i64 (k : Nat))).setCell ⟨d, 19, none⟩ (.int .u32 0)).setCell ⟨d, 20, none⟩ (.int .u32 0)).setCell ⟨d, 21, none⟩ (.int .u32 0)).setCell ⟨d, 22, none⟩ (.int .i64 0)) = w1 at *
  have e1 := H.out.2.1
  have hd1 : d < w1.heap.size := Nat.lt_of_lt_of_le H.out.1.dlt H.out.2.2.size
  have d2 : w1.cell? ⟨d, 2, none⟩ = some (.int .i64 (P.i : Nat)) := cell_of_row w1 d 2 _ _ _ e1
  have H1 : Hid (_) := And.intro e1 hd1
  clear e1 hd1 c1 c2 c3 c9 z9 c10 z10 c11 z11 c12 z12 c13 z13 c14 z14 c15 z15 c16 z16 c17 z17 c18 z18 c19 z19 c20 z20 c21 z21 c22 z22
  go_wp2_with (at_make; refine wpList_make8 _ rfl (.tmp 43) (.tmp 43) 22 rfl w1.heap.size 5 i0 Tryz.underlying22 hi hz0 hz1 hz2 _ _ _ _ P.i P.i rfl rfl rfl rfl (Nat.le_refl _) (by omega) (Nat.le_refl _) ?_)
  intro w2 hown2 hbel2
  have e2 := (hbel2.block d H1.out.2).trans H1.out.1
  have c23 : w2.cell? ⟨d, 23, none⟩ = some B.av := cell_of_row w2 d 23 _ _ _ e2
  have c24 : w2.cell? ⟨d, 24, none⟩ = some (.bool s.hd) := cell_of_row w2 d 24 _ _ _ e2
  have z23 := frozen_of_row w2 d 23 _ _ e2
  have z24 := frozen_of_row w2 d 24 _ _ e2
  have H2 : Hid (_) := And.intro hown2 (And.intro hbel2 e2)
  clear hown2 hbel2 e2 d2 H1
  go_wp2_with fail
  go_end0
  obtain ⟨hown2, hbel2, e2⟩ := H2.out
  have e3 : (w2.setCell ⟨d, 23, none⟩ (.slice (some ⟨w1.heap.size, 0, none⟩) P.i P.i)).heap[d]? = some (.cells (RDC P m mx B.cp B.lv (.slice none 0 0) { dlife s k with ap := s.ap, hd := s.hd, v := { s.v with run := false, held := false, fr := false, lat := 0, sm := false } } (.slice (some ⟨w1.heap.size, 0, none⟩) P.i P.i)) 128 (0, 0)) := heap_setCell_same _ _ _ _ _ _ e2
  have e4 : ((w2.setCell ⟨d, 23, none⟩ (.slice (some ⟨w1.heap.size, 0, none⟩) P.i P.i)).setCell ⟨d, 24, none⟩ (.bool false)).heap[d]? = some (.cells (RDC P m mx B.cp B.lv (.slice none 0 0) (dlife s k) (.slice (some ⟨w1.heap.size, 0, none⟩) P.i P.i)) 128 (0, 0)) := heap_setCell_same _ _ _ _ _ _ e3
  obtain ⟨U', B', g', x'⟩ := H.out.1.lived (A' := A) (k := k) H.out.2.2 hbel2 hown2 ((Off.setCell d 23 w2 _).trans (Off.setCell d 24 _ (.bool false))) e4 id
  exact ⟨rfl, U', B', g', x'⟩
set_option maxHeartbeats 1600000 in
theorem rnone_any (d m g n mx : Nat) (P : Pm) (U : List Nat) (s : Sd) (w : World) (h : RW w d m g n mx P U s) (hss : s.ss < 4294967296) :
    Calls Tryz.prog 125 #[.pointer (some ⟨d, 0, none⟩)] w fun e w' => ∃ v, e = .returned v ∧ Hid (Fr w' w.heap.size v (dnone P s) ∧ Below w.heap.size w w') := by
  have hS := ranswer_any d m g n mx P U s 22 0 0 none 0 0 (fun _ => 0) w h (row_nilX _ _) hss (by omega)
  clear h hss
  go_enter Tryz.func125, Tryz.ntmps125
  go_wp2_with fail
  refine hS.mono ?_
  rintro e w2 ⟨v, rfl, h2⟩
  clear hS
  go_wp2_with fail
  go_ret
  exact ⟨v, rfl, h2⟩
set_option maxHeartbeats 1600000 in
theorem roffer_any (d m g n mx : Nat) (P : Pm) (U : List Nat) (s : Sd) (w : World) (h : RW w d m g n mx P U s) (hss : s.ss < 4294967296) :
    Calls Tryz.prog 184 #[.pointer (some ⟨d, 0, none⟩)] w fun e w' => ∃ v, e = .returned v ∧ Hid (Fr w' w.heap.size v (doffer P s) ∧ Below w.heap.size w w') := by
  obtain ⟨B, h0⟩ := id h
  have c0 : w.cell? ⟨d, 0, none⟩ = some (.int .u32 (P.c : Nat)) := cell_of_row w d 0 _ _ _ h0.dev
  have c1 : w.cell? ⟨d, 1, none⟩ = some (.int .i64 (P.o : Nat)) := cell_of_row w d 1 _ _ _ h0.dev
  have c2 : w.cell? ⟨d, 2, none⟩ = some (.int .i64 (P.i : Nat)) := cell_of_row w d 2 _ _ _ h0.dev
  have c3 : w.cell? ⟨d, 3, none⟩ = some (.int .i64 (P.t : Nat)) := cell_of_row w d 3 _ _ _ h0.dev
  have c4 : w.cell? ⟨d, 4, none⟩ = some (.int .u32 (P.n : Nat)) := cell_of_row w d 4 _ _ _ h0.dev
  have hG := rsign_good P.c P.o P.i P.t P.n w h0.pok.c h0.pok.n h0.pok.ok
  have H : Hid (_) := And.intro h hss
  clear h h0 hss
  go_enter Tryz.func184, Tryz.ntmps184
  go_wp2_with fail
  refine hG.mono ?_
  rintro e w2 ⟨gs, rfl, h2⟩
  have hS := ranswer_any d m g n mx P U s 17 0 0 (some ⟨gs, 0, none⟩) 4 4 (dsg P) w2 (RW.below H.out.1 h2.out.2) h2.out.1 H.out.2 (by omega)
  have HB : Hid (_) := h2.out.2
  clear hG c0 c1 c2 c3 c4 H h2
  go_wp2_with fail
  refine hS.mono ?_
  rintro e w4 ⟨v, rfl, h4⟩
  have H4 : Hid (Fr w4 w.heap.size v (doffer P s) ∧ Below w.heap.size w w4) := ⟨own_base h4.out.1 HB.out.size, HB.out.trans (h4.out.2.mono HB.out.size)⟩
  clear hS h4 HB
  go_wp2_with fail
  go_ret
  exact ⟨v, rfl, H4⟩
end Go.Proofs.YtndjepeolamedaaGreat
namespace Go.Proofs.YtndjepeolamedaaGreat
set_option maxRecDepth 100000
open Go.RowKit
theorem build0D (w : World) : (Instr.buildSlice 22 0 #[]).run Tryz.prog w = .ok (.slice (some ⟨w.heap.size, 0, none⟩) 0 0) (w.alloc (.cells #[] 5)) := by kernel_rfl
theorem own0D (B : Nat) (bs : Nat → Nat) (w : World) (h : B ≤ w.heap.size) : (w.alloc (.cells #[] 5)).ownsRow B 5 1 (.slice (some ⟨w.heap.size, 0, none⟩) 0 0) 0 (CB bs 0) := World.ownsRow_made w #[] 0 h (Nat.zero_le _) rfl
set_option maxHeartbeats 6400000 in
theorem same13_any (st ss nm sn dc lat : Int) (rq on : Bool) (a a' : Option Addr) (n n' cap cap' : Nat) (bs bs' : Nat → Nat) (w : World) (R : Row8 w a n cap bs) (R' : Row8 w a' n' cap' bs') (hX : BA bs n = BA bs' n') :
    Calls Tryz.prog 28 #[.agg #[.int .i64 st, .int .u32 ss, .int .u32 nm, .int .u32 sn, .int .i64 dc, .int .i64 lat, .bool rq, .bool on, .slice a n cap], .agg #[.int .i64 st, .int .u32 ss, .int .u32 nm, .int .u32 sn, .int .i64 dc, .int .i64 lat, .bool rq, .bool on, .slice a' n' cap']] w fun e w' => e = .returned (.bool true) ∧ Below w.heap.size w w' := by
  have b0 : Below w.heap.size w ((w.alloc (.cells #[.int .i64 st, .int .u32 ss, .int .u32 nm, .int .u32 sn, .int .i64 dc, .int .i64 lat, .bool rq, .bool on, .slice a n cap] 57)).alloc (.cells #[.int .i64 st, .int .u32 ss, .int .u32 nm, .int .u32 sn, .int .i64 dc, .int .i64 lat, .bool rq, .bool on, .slice a' n' cap'] 57)) := ((Below.refl _ _).alloc (Nat.le_refl _) _).alloc (by simp) _
  obtain ⟨X, hX1⟩ : ∃ X, BA bs n = X := ⟨_, rfl⟩
  have hX2 : BA bs' n' = X := hX ▸ hX1
  have q1 := conv_any a n cap bs _ (R.below b0)
  have q2 := conv_any a' n' cap' bs' _ (R'.below b0)
  rw [hX1] at q1
  rw [hX2] at q2
  have HB : Hid (_) := b0
  clear R R' hX hX1 hX2 b0
  go_enter Tryz.func28, Tryz.ntmps28
  go_wp2_with fail
  go_ret
  exact ⟨by simp, HB.out⟩
end Go.Proofs.YtndjepeolamedaaGreat
namespace Go.Proofs.YtndjepeolamedaaGreat
set_option maxRecDepth 100000
open Go.RowKit
theorem RB.vald {w w1 w2 w3 : World} {d m g n mx : Nat} {P : Pm} {U : List Nat} {s : Sd} {B : Bk2} {A : Prop} (h : RB w d m g n mx P U s B A) {v : Value} {bs : Nat → Nat} (q1 : Off [d] w w1) (b2 : Below w1.heap.size w1 w2) (ho : w2.ownsRow w1.heap.size 5 1 v P.o (CB bs P.o)) (hy : ∀ i, i < P.o → bs i < 256) (q3 : Off [d] w2 w3)
    (e : w3.heap[d]? = some (.cells (RDC P m mx B.cp B.lv v { s with v := { s.v with sm := true, bs := bs } } B.av) 128 (0, 0))) (hl : s.v.lat = 0) :
    ∃ U' B', Gr U w U' w3 ∧ RB w3 d m g n mx P U' { s with v := { s.v with sm := true, bs := bs } } B' A := by
  have s1 := q1.size
  have s2 := b2.size
  have s3 := q3.size
  have hge : ∀ k, v.ownBlock = some k → w.heap.size ≤ k := fun k hk => Nat.le_trans s1 (Fr.ge (f := (P.o, bs)) ho k hk)
  have hlt : ∀ k, v.ownBlock = some k → k < w3.heap.size := fun k hk => Nat.lt_of_lt_of_le (Fr.lt (f := (P.o, bs)) ho k hk) s3
  have hd := h.dlt
  have Q : Off [d] w w3 := (q1.trans (Off.of_below b2)).trans q3
  have hn : ∀ k, B.col k ≠ 0 → k ∉ [d] := fun k hk hm => by simp at hm; rw [hm, h.kd.1] at hk; exact hk rfl
  have hq : ∀ k x, B.col k = x ∧ k ∈ U → (if k < w.heap.size then B.col k else 4) = x ∧ k ∈ v.ownBlock.toList ++ U := fun k x hk => ⟨by rw [if_pos (h.ltU k hk.2)]; exact hk.1, List.mem_append.2 (.inr hk.2)⟩
  refine ⟨v.ownBlock.toList ++ U, { B with vv := v, M := v.ownBlock.toList, col := fun k => if k < w.heap.size then B.col k else 4 }, ⟨Q.more (by simp [h.kd.2]), fun k hk => ?_⟩, ?_⟩
  · rcases List.mem_append.1 hk with hk | hk
    · exact .inr (hge k (by simpa using hk))
    · exact .inl hk
  · refine ⟨e, h.mem.off Q (hn _ (by rw [h.km.1]; omega)) (hn _ (by rw [h.kg.1]; omega)), fun hA => ?_, .inr ⟨rfl, ⟨own_offk (own_base ho (Nat.zero_le _)) q3 (fun k hk => by have := hge k hk; simp; omega), fun k hk => by simpa using hk⟩, hy⟩, own_offk h.log Q (fun k hk => hn _ (by rw [(h.kl k hk).1]; omega)), own_offk h.app Q (fun k hk => hn _ (by rw [(h.ka k hk).1]; omega)), h.apb, ⟨h.vok.fr, fun _ => hl⟩, h.dcl, ?_, hq _ _ h.kd, hq _ _ h.km, hq _ _ h.kg, hq _ _ h.kc, ?_, fun k hk => hq _ _ (h.kl k hk), fun k hk => hq _ _ (h.ka k hk), h.pok, h.n10, h.mx0, h.mxl, h.nl⟩
    · obtain ⟨c1, c2, c3⟩ := h.cel hA
      exact ⟨c1, c2.off Q (hn _ (by rw [h.kc.1]; omega)), c3⟩
    · intro k hk
      rcases List.mem_append.1 hk with hk | hk
      · exact hlt k (by simpa using hk)
      · exact Nat.lt_of_lt_of_le (h.ltU k hk) Q.size
    · intro k hk
      have := hge k (by simpa using hk)
      exact ⟨by show (if k < w.heap.size then _ else 4) = 4; rw [if_neg (by omega)], List.mem_append.2 (.inl hk)⟩
set_option maxHeartbeats 3200000 in
theorem rtakev_any (d m g n mx : Nat) (P : Pm) (U : List Nat) (s : Sd) (B : Bk2) (A : Prop) (a : Option Addr) (cap : Nat) (bs : Nat → Nat) (w : World) (h : RB w d m g n mx P U s B A) (hr : Row8 w a P.o cap bs) (ha : ∀ x, a = some x → x.block ≠ d) :
    Calls Tryz.prog 129 #[.pointer (some ⟨d, 11, none⟩), .slice a P.o cap] w fun e w' => e = .returned (.tuple #[]) ∧ Hid (∃ U' B', Gr U w U' w' ∧ RB w' d m g n mx P U' { s with v := vtake s.v bs } B' A) := by
  have c12 : w.cell? ⟨d, 12, none⟩ = some (.bool s.v.run) := cell_of_row w d 12 _ _ _ h.dev
  have c15 : w.cell? ⟨d, 15, none⟩ = some (.int .i64 s.v.lat) := cell_of_row w d 15 _ _ _ h.dev
  have c17 : w.cell? ⟨d, 17, none⟩ = some (.bool s.v.sm) := cell_of_row w d 17 _ _ _ h.dev
  have z17 := h.fz 17
  unfold vtake
  by_cases hk : s.v.run = true ∧ s.v.lat = 0
  · rw [if_pos hk]
    rw [hk.1] at c12
    rw [hk.2] at c15
    obtain ⟨i0, hi, hz0, hz1, hz2⟩ := info_parts info_u8
    have hbd := build0D
    have e1 : (w.setCell ⟨d, 17, none⟩ (.bool true)).heap[d]? = some (.cells (RDC P m mx B.cp B.lv B.vv { s with v := { s.v with sm := true } } B.av) 128 (0, 0)) := heap_setCell_same _ _ _ _ _ _ h.dev
    have o1 := Off.setCell d 17 w (.bool true)
    have r1 : Row8 (w.setCell ⟨d, 17, none⟩ (.bool true)) a P.o cap bs := hr.off o1 (fun x hx => by simpa using ha x hx)
    have ho8 := h.pok.o8
    have H : Hid (_) := And.intro h (And.intro hk.2 (And.intro hr.byte (And.intro e1 o1)))
    have H1 : Hid (_) := r1
    clear h hr ha hk e1 o1 r1
    go_enter Tryz.func129, Tryz.ntmps129
    go_upto_region 2 with fail
    generalize w.setCell ⟨d, 17, none⟩ (.bool true) = w1 at *
    have hbelA : Below w1.heap.size w1 (w1.alloc (.cells #[] 5)) := (Below.refl _ _).alloc (Nat.le_refl _) _
    have R0 := H1.out.below hbelA
    have O0 := own0D w1.heap.size bs w1 (Nat.le_refl _)
    have hszA := hbelA.size
    clear H1 c12 c15 c17 z17
    go_wp2_with (at_builtin; refine wpList_append_row8 rfl (.tmp 19) (.tmp 20) 22 rfl w1.heap.size 5 i0 (.int .u8 0) Tryz.underlying22 hi hz0 hz1 hz2 rfl _ 0 _ rfl O0 a P.o cap bs rfl R0 (by unfold maxLen; omega) (by omega) hszA ?_)
    intro v2 w2 hown2 hgrow2
    have hbel2 : Below w1.heap.size w1 w2 := hbelA.grown hgrow2 hszA (fun k hk => (O0.lt k hk).1)
    rw [show CB bs 0 = [] from rfl, List.nil_append] at hown2
    obtain ⟨a2, k2, rfl, R2⟩ := own_row8 (by simpa using hown2) H.out.2.2.1
    have hd1 : d < w1.heap.size := Nat.lt_of_lt_of_le H.out.1.dlt H.out.2.2.2.2.size
    have e2 := (hbel2.block d hd1).trans H.out.2.2.2.1
    have c16 : w2.cell? ⟨d, 16, none⟩ = some B.vv := cell_of_row w2 d 16 _ _ _ e2
    have z16 := frozen_of_row w2 d 16 _ _ e2
    have hown3 : w2.ownsRow w1.heap.size 5 1 (.slice a2 P.o k2) P.o (CB bs P.o) := by simpa using hown2
    have H2 : Hid (_) := And.intro hown3 (And.intro hbel2 e2)
    clear hown2 hown3 hgrow2 hbel2 O0 R0 hbelA R2 hd1 e2 hszA
    go_wp2_with fail
    go_end0
    obtain ⟨hown2, hbel2, e2⟩ := H2.out
    obtain ⟨h, hl, hby, e1, o1⟩ := H.out
    have e3 : (w2.setCell ⟨d, 16, none⟩ (.slice a2 P.o k2)).heap[d]? = some (.cells (RDC P m mx B.cp B.lv (.slice a2 P.o k2) { s with v := { s.v with sm := true, bs := bs } } B.av) 128 (0, 0)) := heap_setCell_same _ _ _ _ _ _ e2
    obtain ⟨U', B', g', x'⟩ := h.vald o1 hbel2 hown2 hby (Off.setCell d 16 w2 _) e3 hl
    exact ⟨rfl, U', B', g', x'⟩
  · rw [if_neg hk]
    have H : Hid (_) := h
    cases hrun : s.v.run
    · rw [hrun] at c12
      clear h hr ha hk
      go_enter Tryz.func129, Tryz.ntmps129
      go_wp2_with fail
      go_end0
      exact ⟨rfl, U, B, Gr.refl _ _, H.out⟩
    · rw [hrun] at c12
      have hl : (s.v.lat == 0) = false := by simp; intro e; exact hk ⟨hrun, e⟩
      clear h hr ha hk
      go_enter Tryz.func129, Tryz.ntmps129
      go_wp2_with fail
      go_end0
      exact ⟨rfl, U, B, Gr.refl _ _, H.out⟩
end Go.Proofs.YtndjepeolamedaaGreat
