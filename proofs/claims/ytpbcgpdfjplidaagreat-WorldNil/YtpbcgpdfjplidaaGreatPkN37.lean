/- Part 38 of the texts on which the proof rests: contracts of Go functions. -/
import Derived.Test.YtpbcgpdfjplidaaGreatPkN04
import Derived.Test.YtpbcgpdfjplidaaGreatPkN31
import Derived.Test.YtpbcgpdfjplidaaGreatPkN35
import Derived.Test.YtpbcgpdfjplidaaGreatPkN36
namespace Go.Proofs.YtpbcgpdfjplidaaGreat
set_option maxRecDepth 100000
open Go.RowKit
def P0 : Pm := ⟨7, 2, 1, 10, 9⟩
theorem P0_ok : Pok P0 := ⟨by unfold okP P0; decide, by decide, by decide⟩
def wishF (P : Pm) : Fm := (23, PM.sl (fr 1 P.c 0 0 0 4 (dsg P)) 19)
theorem LW_wish {c : Nat} (h : c ≠ 0) : LW 1 c 0 0 0 4 4 = 0 := by
  unfold LW
  rw [if_neg (by decide), if_neg (by omega), if_neg (by decide), if_neg (by decide), if_neg (by decide), if_neg (by decide)]
theorem wish_enc (P : Pm) (h : Pok P) : encF 1 P.c 0 0 0 4 (dsg P) = wishF P := by
  exact if_pos (LW_wish h.c0)
theorem BA_congr (f g : Nat → Nat) (n : Nat) (h : ∀ i, i < n → f i = g i) : BA f n = BA g n := by
  unfold BA
  congr 1
  apply List.map_congr_left
  intro i hi
  rw [h i (List.mem_range.1 hi)]
theorem hear_wish (P : Pm) (h : Pok P) (mx n : Nat) (s : Sd) : dhear P mx n s (wishF P).1 (wishF P).2 = dwish P mx n s := by
  obtain ⟨e1, e2, e3, e4, e5, e6, e7⟩ := DE_back 1 P.c 0 0 0 4 (dsg P) h.c (by omega) (by omega) (by omega) (LW_wish h.c0)
  have hd : DE (wishF P).2 (wishF P).1 = 0 := e1
  have h0 : (wishF P).2 0 = 1 := e2
  have h1 : w4v (wishF P).2 1 = P.c := e3
  unfold dhear
  rw [if_neg (by omega), if_neg (by rw [h0]; decide), if_neg (by omega), h0]
  unfold dtake
  rw [if_pos rfl, if_pos]
  unfold dsigned
  exact decide_eq_true (BA_congr _ _ 4 (fun i hi => e7 i hi))
def M0 : Ms := S0 fun _ => 0
theorem open0 (mx : Nat) (h : mx ≠ 0) : opE mx 16 M0 = 0 ∧ opS mx 16 M0 = M0 := by
  have hm : mend M0.bs = [] := by decide
  constructor
  · unfold opE
    rw [if_neg (by omega), if_neg (by decide), hm]
    rfl
  · unfold opS
    rw [if_neg (by omega), if_neg (by decide), hm]
    rfl
theorem next0 (mx : Nat) (h : mx ≠ 0) : (nx mx 16 M0.bs false M0).e = 0 ∧ (nx mx 16 M0.bs false M0).v = 1 := by
  have hv : vz M0.bs = 0 := by decide
  have ht : tg M0.bs = 0 := by decide
  unfold nx
  rw [if_neg (by decide), hv, if_neg (by omega), ht]
  rcases sq_all 16 (six 0 (0 + 1)) M0 (fun x hx => (six_in _ _ 16 (by omega) (by omega) x hx).1) rfl (Int.le_refl _) with ⟨e, _⟩ | ⟨_, _, e, _⟩
  · rw [if_pos e]; exact ⟨rfl, rfl⟩
  · cases e
theorem first_wish (P : Pm) (h : Pok P) (mx : Nat) (hm : mx ≠ 0) :
    (drecv P mx 16 (dnew M0) (wishF P).1 (wishF P).2).e = 0 ∧ (drecv P mx 16 (dnew M0) (wishF P).1 (wishF P).2).s.st = 2 ∧ (drecv P mx 16 (dnew M0) (wishF P).1 (wishF P).2).f = encF 17 P.c 1 0 0 4 (dsg P) := by
  obtain ⟨n1, n2⟩ := next0 mx hm
  have hw : dwish P mx 16 (dnew M0) = dbegin P mx 16 (dnew M0) := rfl
  have hb : dbegin P mx 16 (dnew M0) = ⟨{ dleave { dnew M0 with ms := (nx mx 16 M0.bs false M0).s } 2 with ss := (nx mx 16 M0.bs false M0).v }, doffer P { dleave { dnew M0 with ms := (nx mx 16 M0.bs false M0).s } 2 with ss := (nx mx 16 M0.bs false M0).v }, 0⟩ := by
    unfold dbegin
    have e1 : (nx mx 16 (dnew M0).ms.bs false (dnew M0).ms).e = 0 := n1
    rw [if_neg (by rw [e1]; decide), if_neg (by rw [e1]; decide)]
    rfl
  unfold drecv
  rw [if_neg (by show (1 : Nat) ≠ 6; omega), hear_wish P h, hw, hb, if_neg (by rintro ⟨e, _⟩; exact e rfl)]
  refine ⟨rfl, rfl, ?_⟩
  show encF 17 P.c (nx mx 16 M0.bs false M0).v 0 0 4 (dsg P) = _
  rw [n2]
theorem LW_offer {c s : Nat} (h : c ≠ 0) (hs : s ≠ 0) : LW 17 c s 0 0 4 4 = 0 := by
  unfold LW
  rw [if_neg (by decide), if_neg (by omega), if_neg (by decide), if_neg (by unfold mSess; rw [if_neg (by omega), if_neg (by omega)]; simp; omega), if_neg (by decide), if_neg (by decide)]
theorem Fr.row {w : World} {M : Nat} {v : Value} {f : Fm} (h : Fr w M v f) (hb : ∀ i, i < f.1 → f.2 i < 256) : ∃ a cap, v = .slice a f.1 cap ∧ Row8 w a f.1 cap f.2 := own_row8 h hb
theorem encF_byte (k c s n f len : Nat) (bs : Nat → Nat) (hb : ∀ i, i < len → bs i < 256) : ∀ i, i < (encF k c s n f len bs).1 → (encF k c s n f len bs).2 i < 256 := by
  unfold encF
  by_cases h : LW k c s n f len len = 0
  · rw [if_pos h]
    have hz := LW_zero h
    intro i _
    have hfr := fr_lt (K := k) (c := c) (s := s) (n := n) (F := f) (len := len) (bs := bs) (by omega) (by omega) (by omega) hb
    show PM.sl _ _ i < 256
    unfold PM.sl PM.ct
    split
    · rename_i h2; exact hfr i h2
    · exact PM.w4_lt _ _
  · rw [if_neg h]; intro i hi; exact absurd hi (Nat.not_lt_zero i)
theorem dsg_byte (P : Pm) : ∀ i, i < 4 → dsg P i < 256 := fun i _ => PM.w4_lt _ i
structure Ow (w0 w : World) (d m g n mx : Nat) (P : Pm) (U : List Nat) (s : Sd) : Prop where
  bel : Below w0.heap.size w0 w
  dv : DV w d m g n mx P U s
  ge : ∀ k, k ∈ U → w0.heap.size ≤ k
theorem newD_ok (m g n mx : Nat) (P : Pm) (hP : Pok P) (ms : Ms) (w : World) (hM : MR w m g n ms) (hx : mx < 4294967296) (ht : ms.t < 9223372036854774000) (h0 : opE mx n ms = 0) :
    Calls Tryz.prog 58 #[.agg #[.int .u32 (P.c : Nat), .int .i64 (P.o : Nat), .int .i64 (P.i : Nat), .int .i64 (P.t : Nat), .int .u32 (P.n : Nat)], .pointer (some ⟨m, 0, none⟩), .int .u32 (mx : Nat)] w fun e w' => ∃ d, e = .returned (.tuple #[.pointer (some ⟨d, 0, none⟩), .int .i64 0]) ∧ Hid (∃ U, Off [m, g] w w' ∧ DV w' d m g n mx P U (dnew (opS mx n ms)) ∧ ∀ k, k ∈ U → k = m ∨ k = g ∨ w.heap.size ≤ k) := by
  refine (newD_any m g n mx P hP ms w hM hx ht).mono ?_
  rintro e w' ⟨p, rfl, h⟩
  obtain ⟨o, _, hd, _⟩ := h.out
  obtain ⟨d, U, rfl, D, hU⟩ := hd h0
  rw [h0]
  exact ⟨d, rfl, U, o, D, hU⟩
theorem made13 (mx : Nat) (P : Pm) (hP : Pok P) (w0 w : World) (m g : Nat) (hb : Below w0.heap.size w0 w) (hm : w0.heap.size ≤ m) (hg : w0.heap.size ≤ g) (hM : MR w m g 16 M0) (hx : mx < 4294967296) (h0 : mx ≠ 0) :
    Calls Tryz.prog 58 #[.agg #[.int .u32 (P.c : Nat), .int .i64 (P.o : Nat), .int .i64 (P.i : Nat), .int .i64 (P.t : Nat), .int .u32 (P.n : Nat)], .pointer (some ⟨m, 0, none⟩), .int .u32 (mx : Nat)] w fun e w' => ∃ d, e = .returned (.tuple #[.pointer (some ⟨d, 0, none⟩), .int .i64 0]) ∧ Hid (∃ U, Ow w0 w' d m g 16 mx P U (dnew M0)) := by
  have hN := newD_ok m g 16 mx P hP M0 w hM hx (by decide) (open0 mx h0).1
  rw [(open0 mx h0).2] at hN
  refine hN.mono ?_
  rintro e w' ⟨d, rfl, h⟩
  obtain ⟨U, o, D, hU⟩ := h.out
  refine ⟨d, rfl, U, o.below hb (by simp; omega) hb.size, D, fun k hk => ?_⟩
  have := hb.size
  rcases hU k hk with h | h | h <;> omega
theorem seeS_any (d m g n mx : Nat) (P : Pm) (U : List Nat) (s : Sd) (w : World) (h : DV w d m g n mx P U s) :
    Calls Tryz.prog 24 #[.pointer (some ⟨d, 0, none⟩)] w fun e w' => ∃ a cap, e = .returned (.agg #[.int .i64 (s.st : Nat), .int .u32 (s.ss : Nat), .int .u32 (s.nm : Nat), .int .u32 (s.sn : Nat), .int .i64 (s.dc : Nat), .int .i64 s.v.lat, .bool (vreq s.v), .bool (von s.v), .slice a P.o cap]) ∧ Hid (Fr w' w.heap.size (.slice a P.o cap) (P.o, vout s.v) ∧ Row8 w' a P.o cap (vout s.v) ∧ Below w.heap.size w w') := by
  obtain ⟨B, x⟩ := id h
  refine (see_any d m g n mx P U s w h).mono ?_
  rintro e w' ⟨v, rfl, h2⟩
  obtain ⟨a, cap, hv, r⟩ := h2.out.1.row (vout_byte x.val)
  subst hv
  exact ⟨a, cap, rfl, h2.out.1, r, h2.out.2⟩
end Go.Proofs.YtpbcgpdfjplidaaGreat
namespace Go.Proofs.YtpbcgpdfjplidaaGreat
set_option maxRecDepth 100000
open Go.RowKit
theorem hseeS_any (d : Nat) (P : Pm) (U : List Nat) (s : Sh) (w : World) (h : HV w d P U s) :
    Calls Tryz.prog 23 #[.pointer (some ⟨d, 0, none⟩)] w fun e w' => ∃ a cap, e = .returned (.agg #[.int .i64 (s.st : Nat), .int .u32 (s.ss : Nat), .int .u32 (s.nm : Nat), .int .u32 (s.sn : Nat), .int .i64 (s.dc : Nat), .int .i64 s.v.lat, .bool (vreq s.v), .bool (von s.v), .slice a P.i cap]) ∧ Hid (Fr w' w.heap.size (.slice a P.i cap) (P.i, vout s.v) ∧ Row8 w' a P.i cap (vout s.v) ∧ Below w.heap.size w w') := by
  obtain ⟨B, x⟩ := id h
  refine (hsee_any d P U s w h).mono ?_
  rintro e w' ⟨v, rfl, h2⟩
  obtain ⟨a, cap, hv, r⟩ := h2.out.1.row (vout_byte x.val)
  subst hv
  exact ⟨a, cap, rfl, h2.out.1, r, h2.out.2⟩
end Go.Proofs.YtpbcgpdfjplidaaGreat
