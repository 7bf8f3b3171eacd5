/- Part 48 of the texts on which the proofs of layer 13 rest: contracts of Go functions. -/
import Derived.Test.YtmleiemlfogffaaGreatPkA00
import Derived.Test.YtmleiemlfogffaaGreatPkA24
namespace Go.Proofs.YtmleiemlfogffaaGreat
set_option maxRecDepth 100000
open Go.RowKit
structure Rd (w0 w : World) (d m g : Nat) (aw : Option Addr) (cw : Nat) (i last : Nat) (U : List Nat) (s : Sd) : Prop where
  ow : Ow w0 w d m g 16 1073741824 P0 U s
  row : Row8 w aw (wishF P0).1 cw (wishF P0).2
  far : ∀ x, aw = some x → x.block < w.heap.size ∧ x.block ∉ U
  L : s.L.length ≤ 10 * i
  t : s.ms.t ≤ 40 * (i : Int)
  ls : last ≤ vz s.ms.bs
theorem Rd.gr {w0 w w' : World} {d m g : Nat} {aw : Option Addr} {cw i i' last last' : Nat} {U U' : List Nat} {s s' : Sd} (h : Rd w0 w d m g aw cw i last U s) (q : Gr U w U' w') (x : DV w' d m g 16 1073741824 P0 U' s') (hL : s'.L.length ≤ 10 * i') (ht : s'.ms.t ≤ 40 * (i' : Int)) (hl : last' ≤ vz s'.ms.bs) : Rd w0 w' d m g aw cw i' last' U' s' :=
  ⟨h.ow.gr q x, h.row.off q.off (fun y hy => (h.far y hy).2), fun y hy => (q.far (h.far y hy)).1, hL, ht, hl⟩
theorem arS_facts (s : Ms) (p : Int) : (arS s p).bs = s.bs ∧ (arS s p).off = s.off ∧ (arS s p).t = s.t := by unfold arS; split <;> exact ⟨rfl, rfl, rfl⟩
set_option maxHeartbeats 12800000 in
theorem deviceSessions_walk (a0 : Option Addr) (len0 cap0 : Nat) (z0 : List Int) (a1 : Option Addr) (len1 cap1 : Nat) (z1 : List Int) (w : World) (w0 : BRow .i64 w a0 len0 cap0 z0) (w1 : BRow .i64 w a1 len1 cap1 z1) :
    Calls Tryz.prog 7 #[.slice a0 len0 cap0, .slice a1 len1 cap1] w fun e w' => e = .returned (.bool true) ∧ Below w.heap.size w w' := by
  have hA := awake13 w
  have hbd := build0D
  obtain ⟨i0, hi, hz0, hz1, hz2⟩ := info_parts info_u8
  have HW : Hid (_) := And.intro w0 w1
  clear w0 w1
  go_enter Tryz.func7, Tryz.ntmps7
  go_wp2_with fail
  refine hA.mono ?_
  rintro e w1 ⟨rfl, b1⟩
  clear hA
  go_wp2_with fail
  refine (new_ok 16 w1 (by omega)).mono ?_
  rintro e w2 ⟨m, g, rfl, h2⟩
  go_wp2_with fail
  refine (small_any w2).mono ?_
  rintro e w3 ⟨rfl, b3⟩
  obtain ⟨m1, g1, o1, x1⟩ := h2.out
  have x2 := x1.off (Off.of_below (l := []) b3) (by simp) (by simp)
  have b02 : Below w.heap.size w w2 := o1.below b1 (by simp) b1.size
  have hN := made13 1073741824 P0 P0_ok w w3 m g (b02.trans (b3.mono b02.size)) (Nat.le_trans b1.size m1) (Nat.le_trans b1.size g1) x2 (by omega) (by omega)
  clear h2 m1 g1 o1 x1 b3 x2 b1 b02
  go_wp2_with fail
  refine hN.mono ?_
  rintro e w4 ⟨d, rfl, h4⟩
  obtain ⟨U0, O4⟩ := h4.out
  have H4 : Hid (_) := O4
  clear hN h4 O4
  go_wp2_with fail
  refine (small_any w4).mono ?_
  rintro e w5 ⟨rfl, b5⟩
  have H5 : Hid (_) := H4.out.below b5
  have hS := rsign_good P0.c P0.o P0.i P0.t P0.n w5 P0_ok.c P0_ok.n P0_ok.ok
  clear H4 b5
  go_wp2_with fail
  refine hS.mono ?_
  rintro e w6 ⟨gs, rfl, h6⟩
  have hF := frame_any 1 7 0 0 0 (some ⟨gs, 0, none⟩) 4 4 (dsg P0) w6 h6.out.1 (by omega) (by omega) (by omega)
  rw [show encI 1 7 0 0 0 4 (dsg P0) = wishF P0 from wish_enc P0 P0_ok] at hF
  have H6 : Hid (_) := H5.out.below h6.out.2
  clear hS h6 H5
  go_wp2_with fail
  refine hF.mono ?_
  rintro e w7 ⟨v7, rfl, h7⟩
  obtain ⟨aw, cw, rfl, r7⟩ := h7.out.1.row (by rw [← wish_enc P0 P0_ok]; exact encF_byte _ _ _ _ _ _ _ (dsg_byte P0))
  have O7 := H6.out.below h7.out.2
  have R7 : Rd w w7 d m g aw cw 0 0 U0 (dnew M0) := ⟨O7, r7, fun x hx => by
    have := own_far h7.out.1 x hx
    exact ⟨this.2, fun hm => by have := H6.out.dv.ult _ hm; omega⟩, by simp [dnew], by decide, Nat.zero_le _⟩
  have HR7 : Hid (_) := R7
  clear hF h7 r7 O7 R7 H6
  go_wp2_with fail
  go_loopw [10, 11, 12, 13, 14, 15] (fun cl ci _ _ _ _ wr => ∃ i last, i ≤ len0 ∧ i ≤ 100 ∧ ci = .int .i64 ((i : Nat) : Int) ∧ cl = .int .u32 ((last : Nat) : Int) ∧ Hid (∃ U s, Rd w wr d m g aw cw i last U s ∧ s.st = 1 ∧ s.sn = 0 ∧ s.od = 0)) (fun _ ci _ _ _ _ _ => 100 - (intOf ci).toNat)
  case atStart => exact ⟨0, 0, by omega, by omega, rfl, rfl, U0, _, HR7.out, rfl, rfl, rfl⟩
  case round =>
    clear HR7
    obtain ⟨i, last, hi1, hi2, rfl, rfl, HR⟩ := hrel
    by_cases hlt : i < len0
    · by_cases hlt2 : i < 100
      · obtain ⟨q, off, rfl, hq, hz⟩ := HW.out.1.nums (by omega)
        obtain ⟨hzc, hzw⟩ := hz i hlt
        obtain ⟨U, s, R, hst, hsn, hod⟩ := HR.out
        have hcell := (World.cell?_of_block (a := ⟨q, off + i, none⟩) (R.ow.bel.block q hq)).trans hzc
        clear hz hzc
        generalize z0.getD i 0 = cut at *
        have HS : Hid (_) := And.intro R (And.intro hst (And.intro hsn hod))
        clear R hst hsn hod HR
        by_cases hc : 0 ≤ cut
        · have hb9 : cut % 9 ≤ 9223372036854775807 := by omega
          have hA := dvarm_any d m g 16 1073741824 P0 U s (cut % 9) wr HS.out.1.ow.dv hb9
          go_wp2_with fail
          refine hA.mono ?_
          rintro e wA ⟨rfl, hA1⟩
          obtain ⟨U1, gA, xA⟩ := hA1.out
          obtain ⟨e1, e2, e3⟩ := arS_facts s.ms (cut % 9)
          have H1 : Hid (Rd w wA d m g aw cw i last U1 { s with ms := arS s.ms (cut % 9) } ∧ s.st = 1 ∧ s.sn = 0 ∧ s.od = 0) := ⟨HS.out.1.gr gA xA HS.out.1.L (by show (arS s.ms (cut % 9)).t ≤ _; rw [e3]; exact HS.out.1.t) (by show last ≤ vz (arS s.ms (cut % 9)).bs; rw [e1]; exact HS.out.1.ls), HS.out.2⟩
          obtain ⟨s1, hs1⟩ : ∃ x : Sd, x = { s with ms := arS s.ms (cut % 9) } := ⟨_, rfl⟩
          replace H1 : Hid (Rd w wA d m g aw cw i last U1 s1 ∧ s1.st = 1 ∧ s1.sn = 0 ∧ s1.od = 0) := by subst hs1; exact H1
          clear hA hA1 gA xA e1 e2 e3 hs1 HS hcell hzw
          have hbelA : Below wA.heap.size wA (wA.alloc (.cells #[] 5)) := (Below.refl _ _).alloc (Nat.le_refl _) _
          have R0 := H1.out.1.row.below hbelA
          have O0 := own0D wA.heap.size (wishF P0).2 wA (Nat.le_refl _)
          have hszA := hbelA.size
          have h23' : (wishF P0).1 ≤ 100 := by decide
          go_wp2_with (at_builtin; refine wpList_append_row8 rfl (.tmp 62) (.tmp 63) 25 rfl wA.heap.size 5 i0 (.int .u8 0) Tryz.underlying25 hi hz0 hz1 hz2 rfl _ 0 _ rfl O0 aw (wishF P0).1 cw (wishF P0).2 rfl R0 (by unfold maxLen; omega) (by omega) hszA ?_)
          intro v2 w2 hown2 hgrow2
          have hbel2 : Below wA.heap.size wA w2 := hbelA.grown hgrow2 hszA (fun k hk => (O0.lt k hk).1)
          rw [show CB (wishF P0).2 0 = [] from rfl, List.nil_append] at hown2
          obtain ⟨a2, k2, rfl, R2⟩ := own_row8 (by simpa using hown2) H1.out.1.row.byte
          have RA := H1.out.1.gr (Gr.below hbel2) (H1.out.1.ow.dv.below hbel2) H1.out.1.L H1.out.1.t H1.out.1.ls
          have hR := receive_any d m g 16 1073741824 P0 U1 s1 a2 (wishF P0).1 k2 (wishF P0).2 w2 RA.ow.dv R2 (by rw [H1.out.2.2.1]; omega) (by rw [H1.out.2.2.2]; omega) (by have := RA.L; omega) (by have := RA.t; omega)
          obtain ⟨f1, f2, f3, f4, f5, f6⟩ := RA.ow.dv.facts
          have hF := ses_recv P0 P0_ok 1073741824 16 H1.out.2.1 f3 (f6 (by rw [H1.out.2.1]; omega)) f2 f5
          generalize drecv P0 1073741824 16 s1 (wishF P0).1 (wishF P0).2 = Q at *
          have hQL : Q.s.L.length ≤ 10 * (i + 1) := by have := RA.L; omega
          have hQt : Q.s.ms.t ≤ 40 * ((i + 1 : Nat) : Int) - 20 := by have := RA.t; omega
          have H2 : Hid (_) := And.intro RA (And.intro hF (And.intro hQL hQt))
          clear hbelA R0 O0 hszA hown2 hgrow2 hbel2 R2 RA hF hQL hQt f1 f2 f3 f4 f5 f6 H1
          by_cases he : Q.e = 0
          · have hl1 : last < Q.s.ss := by have := (H2.out.2.1.1 he).1; have := H2.out.1.ls; omega
            have hl2 : Q.s.ss = vz Q.s.ms.bs := by have := (H2.out.2.1.1 he); omega
            rw [he] at hR
            have n1 : ((Q.s.ss : Int) != 0) = true := by simp; omega
            have n2 : ((Q.s.ss : Int) != (last : Int)) = true := by simp; omega
            have n3 : ¬ (Q.s.ss : Int) ≤ (last : Int) := by omega
            obtain ⟨last', hl'⟩ : ∃ x, x = Q.s.ss := ⟨_, rfl⟩
            have hlv : last' ≤ vz Q.s.ms.bs := by omega
            have H3 : Hid (_) := And.intro hlv (And.intro hl' H2.out)
            clear hl1 hl2 hlv hl' H2 he
            go_wp2_with fail
            refine hR.mono ?_
            rintro e w3 ⟨v3, rfl, h3⟩
            obtain ⟨U3, g3, D3, F3, _⟩ := h3.out
            have R3 : Rd w w3 d m g aw cw (i + 1) last' U3 Q.s := H3.out.2.2.1.gr g3 D3 H3.out.2.2.2.2.1 (by have := H3.out.2.2.2.2.2; omega) H3.out.1
            have hSee := seeS_any d m g 16 1073741824 P0 U3 Q.s w3 D3
            have H4 : Hid (_) := And.intro R3 H3.out.2.2.2.2.2
            have HL' : Hid (_) := H3.out.2.1
            clear hR h3 g3 D3 F3 R3 H3
            go_wp2_with fail
            refine hSee.mono ?_
            rintro e w4 ⟨a4, c4, rfl, h4⟩
            have b4 := h4.out.2.2
            have b5 : Below w4.heap.size w4 (w4.alloc (.cells #[.int .i64 (Q.s.st : Nat), .int .u32 (Q.s.ss : Nat), .int .u32 (Q.s.nm : Nat), .int .u32 (Q.s.sn : Nat), .int .i64 (Q.s.dc : Nat), .int .i64 Q.s.v.lat, .bool (vreq Q.s.v), .bool (von Q.s.v), .slice a4 P0.o c4] 51)) := (Below.refl _ _).alloc (Nat.le_refl _) _
            have R4 := H4.out.1.gr (Gr.below b4) (H4.out.1.ow.dv.below b4) H4.out.1.L H4.out.1.t H4.out.1.ls
            have R5 := R4.gr (Gr.below b5) (R4.ow.dv.below b5) R4.L R4.t R4.ls
            have H5 : Hid (_) := And.intro R5 H4.out.2
            clear hSee h4 b4 b5 R4 R5 H4
            by_cases hw1 : i < len1
            · obtain ⟨q1, off1, rfl, hq1, hzz⟩ := HW.out.2.nums (by omega)
              obtain ⟨hzc1, hzw1⟩ := hzz i hw1
              have hcell1 := (World.cell?_of_block (a := ⟨q1, off1 + i, none⟩) (H5.out.1.ow.bel.block q1 hq1)).trans hzc1
              have hlt1 : (i : Int) < (len1 : Int) := by omega
              clear hzz hzc1
              generalize z1.getD i 0 = wk at *
              by_cases hp : 0 < wk
              · have hkk : 0 ≤ wk % 9 + 1 ∧ wk % 9 + 1 ≤ 100 := by omega
                go_wp2_with fail
                refine (dvreset_any d m g 16 1073741824 P0 U3 Q.s (wk % 9 + 1) _ H5.out.1.ow.dv hkk.1 (by omega) (by have := H5.out.2; omega)).mono ?_
                rintro e w6 ⟨rfl, h6⟩
                obtain ⟨U6, g6, D6⟩ := h6.out
                obtain ⟨f1, f2, f3, f4, f5, f6⟩ := H5.out.1.ow.dv.facts
                have rv := reset_vz (mx := 1073741824) (n := 16) Q.s (wk % 9 + 1) f1 f2
                have R6 := H5.out.1.gr g6 D6 (by rw [rv.2.2]; exact H5.out.1.L) (by have := H5.out.2; omega) (by rw [rv.1]; exact H5.out.1.ls)
                have ht6 : (dresetS 1073741824 16 Q.s (wk % 9 + 1)).ms.t ≤ 40 * ((i + 1 : Nat) : Int) - 14 := by have := H5.out.2; omega
                generalize dresetS 1073741824 16 Q.s (wk % 9 + 1) = s6 at *
                have H6 : Hid (_) := And.intro R6 ht6
                clear h6 g6 D6 f1 f2 f3 f4 f5 f6 rv R6 ht6 H5
                go_wp2_with fail
                obtain ⟨f1, f2, f3, f4, f5, f6⟩ := H6.out.1.ow.dv.facts
                have hz := reset_zero s6 f4 f3 f2
                have hr0 := dvreset_any d m g 16 1073741824 P0 U6 s6 0 w6 H6.out.1.ow.dv (by omega) (by omega) (by have := H6.out.2; omega)
                rw [hz] at hr0
                have hid := reset_idle s6 hz
                have rv := reset_vz (mx := 1073741824) (n := 16) s6 0 f1 f2
                generalize dresetS 1073741824 16 s6 0 = s7 at *
                refine hr0.mono ?_
                rintro e w7 ⟨rfl, h7⟩
                obtain ⟨U7, g7, D7⟩ := h7.out
                have R7 := H6.out.1.gr g7 D7 (by rw [rv.2.2]; exact H6.out.1.L) (by have := H6.out.2; omega) (by rw [rv.1]; exact H6.out.1.ls)
                have hS7 := seeS_any d m g 16 1073741824 P0 U7 s7 w7 D7
                rw [hid.1] at hS7
                have H7 : Hid (_) := And.intro R7 hid
                clear h7 g7 D7 f1 f2 f3 f4 f5 f6 rv R7 H6 hr0 hz hid
                go_wp2_with fail
                refine hS7.mono ?_
                rintro e w8 ⟨a8, c8, rfl, h8⟩
                have hfl : ∀ w, (Instr.field 51 (.agg #[.int .i64 1, .int .u32 (s7.ss : Nat), .int .u32 (s7.nm : Nat), .int .u32 (s7.sn : Nat), .int .i64 (s7.dc : Nat), .int .i64 s7.v.lat, .bool (vreq s7.v), .bool (von s7.v), .slice a8 P0.o c8]) 0).run Tryz.prog w = .ok (.int .i64 1) w := fun w => by kernel_rfl
                have b8 := h8.out.2.2
                have R8 := H7.out.1.gr (Gr.below b8) (H7.out.1.ow.dv.below b8) H7.out.1.L H7.out.1.t H7.out.1.ls
                have H8 : Hid (_) := And.intro R8 H7.out.2
                clear hS7 h8 b8 R8 H7
                go_wp2_with fail
                go_roundw
                case rel => exact ⟨i + 1, last', by omega, by omega, by go_num, by rw [HL'.out], U7, s7, H8.out.1, H8.out.2.1, H8.out.2.2.1, H8.out.2.2.2⟩
                case measure => simp [intOf] <;> omega
              · have hkk : (0 : Int) ≤ 0 ∧ (0 : Int) ≤ 100 := by omega
                go_wp2_with fail
                refine (dvreset_any d m g 16 1073741824 P0 U3 Q.s 0 _ H5.out.1.ow.dv hkk.1 (by omega) (by have := H5.out.2; omega)).mono ?_
                rintro e w6 ⟨rfl, h6⟩
                obtain ⟨U6, g6, D6⟩ := h6.out
                obtain ⟨f1, f2, f3, f4, f5, f6⟩ := H5.out.1.ow.dv.facts
                have rv := reset_vz (mx := 1073741824) (n := 16) Q.s 0 f1 f2
                have R6 := H5.out.1.gr g6 D6 (by rw [rv.2.2]; exact H5.out.1.L) (by have := H5.out.2; omega) (by rw [rv.1]; exact H5.out.1.ls)
                have ht6 : (dresetS 1073741824 16 Q.s 0).ms.t ≤ 40 * ((i + 1 : Nat) : Int) - 14 := by have := H5.out.2; omega
                generalize dresetS 1073741824 16 Q.s 0 = s6 at *
                have H6 : Hid (_) := And.intro R6 ht6
                clear h6 g6 D6 f1 f2 f3 f4 f5 f6 rv R6 ht6 H5
                go_wp2_with fail
                obtain ⟨f1, f2, f3, f4, f5, f6⟩ := H6.out.1.ow.dv.facts
                have hz := reset_zero s6 f4 f3 f2
                have hr0 := dvreset_any d m g 16 1073741824 P0 U6 s6 0 w6 H6.out.1.ow.dv (by omega) (by omega) (by have := H6.out.2; omega)
                rw [hz] at hr0
                have hid := reset_idle s6 hz
                have rv := reset_vz (mx := 1073741824) (n := 16) s6 0 f1 f2
                generalize dresetS 1073741824 16 s6 0 = s7 at *
                refine hr0.mono ?_
                rintro e w7 ⟨rfl, h7⟩
                obtain ⟨U7, g7, D7⟩ := h7.out
                have R7 := H6.out.1.gr g7 D7 (by rw [rv.2.2]; exact H6.out.1.L) (by have := H6.out.2; omega) (by rw [rv.1]; exact H6.out.1.ls)
                have hS7 := seeS_any d m g 16 1073741824 P0 U7 s7 w7 D7
                rw [hid.1] at hS7
                have H7 : Hid (_) := And.intro R7 hid
                clear h7 g7 D7 f1 f2 f3 f4 f5 f6 rv R7 H6 hr0 hz hid
                go_wp2_with fail
                refine hS7.mono ?_
                rintro e w8 ⟨a8, c8, rfl, h8⟩
                have hfl : ∀ w, (Instr.field 51 (.agg #[.int .i64 1, .int .u32 (s7.ss : Nat), .int .u32 (s7.nm : Nat), .int .u32 (s7.sn : Nat), .int .i64 (s7.dc : Nat), .int .i64 s7.v.lat, .bool (vreq s7.v), .bool (von s7.v), .slice a8 P0.o c8]) 0).run Tryz.prog w = .ok (.int .i64 1) w := fun w => by kernel_rfl
                have b8 := h8.out.2.2
                have R8 := H7.out.1.gr (Gr.below b8) (H7.out.1.ow.dv.below b8) H7.out.1.L H7.out.1.t H7.out.1.ls
                have H8 : Hid (_) := And.intro R8 H7.out.2
                clear hS7 h8 b8 R8 H7
                go_wp2_with fail
                go_roundw
                case rel => exact ⟨i + 1, last', by omega, by omega, by go_num, by rw [HL'.out], U7, s7, H8.out.1, H8.out.2.1, H8.out.2.2.1, H8.out.2.2.2⟩
                case measure => simp [intOf] <;> omega
            · have hlt1 : ¬ (i : Int) < (len1 : Int) := by omega
              have hkk : (0 : Int) ≤ 0 ∧ (0 : Int) ≤ 100 := by omega
              go_wp2_with fail
              refine (dvreset_any d m g 16 1073741824 P0 U3 Q.s 0 _ H5.out.1.ow.dv hkk.1 (by omega) (by have := H5.out.2; omega)).mono ?_
              rintro e w6 ⟨rfl, h6⟩
              obtain ⟨U6, g6, D6⟩ := h6.out
              obtain ⟨f1, f2, f3, f4, f5, f6⟩ := H5.out.1.ow.dv.facts
              have rv := reset_vz (mx := 1073741824) (n := 16) Q.s 0 f1 f2
              have R6 := H5.out.1.gr g6 D6 (by rw [rv.2.2]; exact H5.out.1.L) (by have := H5.out.2; omega) (by rw [rv.1]; exact H5.out.1.ls)
              have ht6 : (dresetS 1073741824 16 Q.s 0).ms.t ≤ 40 * ((i + 1 : Nat) : Int) - 14 := by have := H5.out.2; omega
              generalize dresetS 1073741824 16 Q.s 0 = s6 at *
              have H6 : Hid (_) := And.intro R6 ht6
              clear h6 g6 D6 f1 f2 f3 f4 f5 f6 rv R6 ht6 H5
              go_wp2_with fail
              obtain ⟨f1, f2, f3, f4, f5, f6⟩ := H6.out.1.ow.dv.facts
              have hz := reset_zero s6 f4 f3 f2
              have hr0 := dvreset_any d m g 16 1073741824 P0 U6 s6 0 w6 H6.out.1.ow.dv (by omega) (by omega) (by have := H6.out.2; omega)
              rw [hz] at hr0
              have hid := reset_idle s6 hz
              have rv := reset_vz (mx := 1073741824) (n := 16) s6 0 f1 f2
              generalize dresetS 1073741824 16 s6 0 = s7 at *
              refine hr0.mono ?_
              rintro e w7 ⟨rfl, h7⟩
              obtain ⟨U7, g7, D7⟩ := h7.out
              have R7 := H6.out.1.gr g7 D7 (by rw [rv.2.2]; exact H6.out.1.L) (by have := H6.out.2; omega) (by rw [rv.1]; exact H6.out.1.ls)
              have hS7 := seeS_any d m g 16 1073741824 P0 U7 s7 w7 D7
              rw [hid.1] at hS7
              have H7 : Hid (_) := And.intro R7 hid
              clear h7 g7 D7 f1 f2 f3 f4 f5 f6 rv R7 H6 hr0 hz hid
              go_wp2_with fail
              refine hS7.mono ?_
              rintro e w8 ⟨a8, c8, rfl, h8⟩
              have hfl : ∀ w, (Instr.field 51 (.agg #[.int .i64 1, .int .u32 (s7.ss : Nat), .int .u32 (s7.nm : Nat), .int .u32 (s7.sn : Nat), .int .i64 (s7.dc : Nat), .int .i64 s7.v.lat, .bool (vreq s7.v), .bool (von s7.v), .slice a8 P0.o c8]) 0).run Tryz.prog w = .ok (.int .i64 1) w := fun w => by kernel_rfl
              have b8 := h8.out.2.2
              have R8 := H7.out.1.gr (Gr.below b8) (H7.out.1.ow.dv.below b8) H7.out.1.L H7.out.1.t H7.out.1.ls
              have H8 : Hid (_) := And.intro R8 H7.out.2
              clear hS7 h8 b8 R8 H7
              go_wp2_with fail
              go_roundw
              case rel => exact ⟨i + 1, last', by omega, by omega, by go_num, by rw [HL'.out], U7, s7, H8.out.1, H8.out.2.1, H8.out.2.2.1, H8.out.2.2.2⟩
              case measure => simp [intOf] <;> omega
          · have hlv : last ≤ vz Q.s.ms.bs := by have := (H2.out.2.1.2.1 he); have := H2.out.1.ls; omega
            have n1 : (Q.e == 0) = false := by simpa using he
            obtain ⟨last', hl'⟩ : ∃ x, x = last := ⟨_, rfl⟩
            have hlv : last' ≤ vz Q.s.ms.bs := by omega
            have H3 : Hid (_) := And.intro hlv (And.intro hl' H2.out)
            clear hlv hl' H2 he
            go_wp2_with fail
            refine hR.mono ?_
            rintro e w3 ⟨v3, rfl, h3⟩
            obtain ⟨U3, g3, D3, F3, _⟩ := h3.out
            have R3 : Rd w w3 d m g aw cw (i + 1) last' U3 Q.s := H3.out.2.2.1.gr g3 D3 H3.out.2.2.2.2.1 (by have := H3.out.2.2.2.2.2; omega) H3.out.1
            have hSee := seeS_any d m g 16 1073741824 P0 U3 Q.s w3 D3
            have H4 : Hid (_) := And.intro R3 H3.out.2.2.2.2.2
            have HL' : Hid (_) := H3.out.2.1
            clear hR h3 g3 D3 F3 R3 H3
            go_wp2_with fail
            refine hSee.mono ?_
            rintro e w4 ⟨a4, c4, rfl, h4⟩
            have b4 := h4.out.2.2
            have b5 : Below w4.heap.size w4 (w4.alloc (.cells #[.int .i64 (Q.s.st : Nat), .int .u32 (Q.s.ss : Nat), .int .u32 (Q.s.nm : Nat), .int .u32 (Q.s.sn : Nat), .int .i64 (Q.s.dc : Nat), .int .i64 Q.s.v.lat, .bool (vreq Q.s.v), .bool (von Q.s.v), .slice a4 P0.o c4] 51)) := (Below.refl _ _).alloc (Nat.le_refl _) _
            have R4 := H4.out.1.gr (Gr.below b4) (H4.out.1.ow.dv.below b4) H4.out.1.L H4.out.1.t H4.out.1.ls
            have R5 := R4.gr (Gr.below b5) (R4.ow.dv.below b5) R4.L R4.t R4.ls
            have H5 : Hid (_) := And.intro R5 H4.out.2
            clear hSee h4 b4 b5 R4 R5 H4
            by_cases hw1 : i < len1
            · obtain ⟨q1, off1, rfl, hq1, hzz⟩ := HW.out.2.nums (by omega)
              obtain ⟨hzc1, hzw1⟩ := hzz i hw1
              have hcell1 := (World.cell?_of_block (a := ⟨q1, off1 + i, none⟩) (H5.out.1.ow.bel.block q1 hq1)).trans hzc1
              have hlt1 : (i : Int) < (len1 : Int) := by omega
              clear hzz hzc1
              generalize z1.getD i 0 = wk at *
              by_cases hp : 0 < wk
              · have hkk : 0 ≤ wk % 9 + 1 ∧ wk % 9 + 1 ≤ 100 := by omega
                go_wp2_with fail
                refine (dvreset_any d m g 16 1073741824 P0 U3 Q.s (wk % 9 + 1) _ H5.out.1.ow.dv hkk.1 (by omega) (by have := H5.out.2; omega)).mono ?_
                rintro e w6 ⟨rfl, h6⟩
                obtain ⟨U6, g6, D6⟩ := h6.out
                obtain ⟨f1, f2, f3, f4, f5, f6⟩ := H5.out.1.ow.dv.facts
                have rv := reset_vz (mx := 1073741824) (n := 16) Q.s (wk % 9 + 1) f1 f2
                have R6 := H5.out.1.gr g6 D6 (by rw [rv.2.2]; exact H5.out.1.L) (by have := H5.out.2; omega) (by rw [rv.1]; exact H5.out.1.ls)
                have ht6 : (dresetS 1073741824 16 Q.s (wk % 9 + 1)).ms.t ≤ 40 * ((i + 1 : Nat) : Int) - 14 := by have := H5.out.2; omega
                generalize dresetS 1073741824 16 Q.s (wk % 9 + 1) = s6 at *
                have H6 : Hid (_) := And.intro R6 ht6
                clear h6 g6 D6 f1 f2 f3 f4 f5 f6 rv R6 ht6 H5
                go_wp2_with fail
                obtain ⟨f1, f2, f3, f4, f5, f6⟩ := H6.out.1.ow.dv.facts
                have hz := reset_zero s6 f4 f3 f2
                have hr0 := dvreset_any d m g 16 1073741824 P0 U6 s6 0 w6 H6.out.1.ow.dv (by omega) (by omega) (by have := H6.out.2; omega)
                rw [hz] at hr0
                have hid := reset_idle s6 hz
                have rv := reset_vz (mx := 1073741824) (n := 16) s6 0 f1 f2
                generalize dresetS 1073741824 16 s6 0 = s7 at *
                refine hr0.mono ?_
                rintro e w7 ⟨rfl, h7⟩
                obtain ⟨U7, g7, D7⟩ := h7.out
                have R7 := H6.out.1.gr g7 D7 (by rw [rv.2.2]; exact H6.out.1.L) (by have := H6.out.2; omega) (by rw [rv.1]; exact H6.out.1.ls)
                have hS7 := seeS_any d m g 16 1073741824 P0 U7 s7 w7 D7
                rw [hid.1] at hS7
                have H7 : Hid (_) := And.intro R7 hid
                clear h7 g7 D7 f1 f2 f3 f4 f5 f6 rv R7 H6 hr0 hz hid
                go_wp2_with fail
                refine hS7.mono ?_
                rintro e w8 ⟨a8, c8, rfl, h8⟩
                have hfl : ∀ w, (Instr.field 51 (.agg #[.int .i64 1, .int .u32 (s7.ss : Nat), .int .u32 (s7.nm : Nat), .int .u32 (s7.sn : Nat), .int .i64 (s7.dc : Nat), .int .i64 s7.v.lat, .bool (vreq s7.v), .bool (von s7.v), .slice a8 P0.o c8]) 0).run Tryz.prog w = .ok (.int .i64 1) w := fun w => by kernel_rfl
                have b8 := h8.out.2.2
                have R8 := H7.out.1.gr (Gr.below b8) (H7.out.1.ow.dv.below b8) H7.out.1.L H7.out.1.t H7.out.1.ls
                have H8 : Hid (_) := And.intro R8 H7.out.2
                clear hS7 h8 b8 R8 H7
                go_wp2_with fail
                go_roundw
                case rel => exact ⟨i + 1, last', by omega, by omega, by go_num, by rw [HL'.out], U7, s7, H8.out.1, H8.out.2.1, H8.out.2.2.1, H8.out.2.2.2⟩
                case measure => simp [intOf] <;> omega
              · have hkk : (0 : Int) ≤ 0 ∧ (0 : Int) ≤ 100 := by omega
                go_wp2_with fail
                refine (dvreset_any d m g 16 1073741824 P0 U3 Q.s 0 _ H5.out.1.ow.dv hkk.1 (by omega) (by have := H5.out.2; omega)).mono ?_
                rintro e w6 ⟨rfl, h6⟩
                obtain ⟨U6, g6, D6⟩ := h6.out
                obtain ⟨f1, f2, f3, f4, f5, f6⟩ := H5.out.1.ow.dv.facts
                have rv := reset_vz (mx := 1073741824) (n := 16) Q.s 0 f1 f2
                have R6 := H5.out.1.gr g6 D6 (by rw [rv.2.2]; exact H5.out.1.L) (by have := H5.out.2; omega) (by rw [rv.1]; exact H5.out.1.ls)
                have ht6 : (dresetS 1073741824 16 Q.s 0).ms.t ≤ 40 * ((i + 1 : Nat) : Int) - 14 := by have := H5.out.2; omega
                generalize dresetS 1073741824 16 Q.s 0 = s6 at *
                have H6 : Hid (_) := And.intro R6 ht6
                clear h6 g6 D6 f1 f2 f3 f4 f5 f6 rv R6 ht6 H5
                go_wp2_with fail
                obtain ⟨f1, f2, f3, f4, f5, f6⟩ := H6.out.1.ow.dv.facts
                have hz := reset_zero s6 f4 f3 f2
                have hr0 := dvreset_any d m g 16 1073741824 P0 U6 s6 0 w6 H6.out.1.ow.dv (by omega) (by omega) (by have := H6.out.2; omega)
                rw [hz] at hr0
                have hid := reset_idle s6 hz
                have rv := reset_vz (mx := 1073741824) (n := 16) s6 0 f1 f2
                generalize dresetS 1073741824 16 s6 0 = s7 at *
                refine hr0.mono ?_
                rintro e w7 ⟨rfl, h7⟩
                obtain ⟨U7, g7, D7⟩ := h7.out
                have R7 := H6.out.1.gr g7 D7 (by rw [rv.2.2]; exact H6.out.1.L) (by have := H6.out.2; omega) (by rw [rv.1]; exact H6.out.1.ls)
                have hS7 := seeS_any d m g 16 1073741824 P0 U7 s7 w7 D7
                rw [hid.1] at hS7
                have H7 : Hid (_) := And.intro R7 hid
                clear h7 g7 D7 f1 f2 f3 f4 f5 f6 rv R7 H6 hr0 hz hid
                go_wp2_with fail
                refine hS7.mono ?_
                rintro e w8 ⟨a8, c8, rfl, h8⟩
                have hfl : ∀ w, (Instr.field 51 (.agg #[.int .i64 1, .int .u32 (s7.ss : Nat), .int .u32 (s7.nm : Nat), .int .u32 (s7.sn : Nat), .int .i64 (s7.dc : Nat), .int .i64 s7.v.lat, .bool (vreq s7.v), .bool (von s7.v), .slice a8 P0.o c8]) 0).run Tryz.prog w = .ok (.int .i64 1) w := fun w => by kernel_rfl
                have b8 := h8.out.2.2
                have R8 := H7.out.1.gr (Gr.below b8) (H7.out.1.ow.dv.below b8) H7.out.1.L H7.out.1.t H7.out.1.ls
                have H8 : Hid (_) := And.intro R8 H7.out.2
                clear hS7 h8 b8 R8 H7
                go_wp2_with fail
                go_roundw
                case rel => exact ⟨i + 1, last', by omega, by omega, by go_num, by rw [HL'.out], U7, s7, H8.out.1, H8.out.2.1, H8.out.2.2.1, H8.out.2.2.2⟩
                case measure => simp [intOf] <;> omega
            · have hlt1 : ¬ (i : Int) < (len1 : Int) := by omega
              have hkk : (0 : Int) ≤ 0 ∧ (0 : Int) ≤ 100 := by omega
              go_wp2_with fail
              refine (dvreset_any d m g 16 1073741824 P0 U3 Q.s 0 _ H5.out.1.ow.dv hkk.1 (by omega) (by have := H5.out.2; omega)).mono ?_
              rintro e w6 ⟨rfl, h6⟩
              obtain ⟨U6, g6, D6⟩ := h6.out
              obtain ⟨f1, f2, f3, f4, f5, f6⟩ := H5.out.1.ow.dv.facts
              have rv := reset_vz (mx := 1073741824) (n := 16) Q.s 0 f1 f2
              have R6 := H5.out.1.gr g6 D6 (by rw [rv.2.2]; exact H5.out.1.L) (by have := H5.out.2; omega) (by rw [rv.1]; exact H5.out.1.ls)
              have ht6 : (dresetS 1073741824 16 Q.s 0).ms.t ≤ 40 * ((i + 1 : Nat) : Int) - 14 := by have := H5.out.2; omega
              generalize dresetS 1073741824 16 Q.s 0 = s6 at *
              have H6 : Hid (_) := And.intro R6 ht6
              clear h6 g6 D6 f1 f2 f3 f4 f5 f6 rv R6 ht6 H5
              go_wp2_with fail
              obtain ⟨f1, f2, f3, f4, f5, f6⟩ := H6.out.1.ow.dv.facts
              have hz := reset_zero s6 f4 f3 f2
              have hr0 := dvreset_any d m g 16 1073741824 P0 U6 s6 0 w6 H6.out.1.ow.dv (by omega) (by omega) (by have := H6.out.2; omega)
              rw [hz] at hr0
              have hid := reset_idle s6 hz
              have rv := reset_vz (mx := 1073741824) (n := 16) s6 0 f1 f2
              generalize dresetS 1073741824 16 s6 0 = s7 at *
              refine hr0.mono ?_
              rintro e w7 ⟨rfl, h7⟩
              obtain ⟨U7, g7, D7⟩ := h7.out
              have R7 := H6.out.1.gr g7 D7 (by rw [rv.2.2]; exact H6.out.1.L) (by have := H6.out.2; omega) (by rw [rv.1]; exact H6.out.1.ls)
              have hS7 := seeS_any d m g 16 1073741824 P0 U7 s7 w7 D7
              rw [hid.1] at hS7
              have H7 : Hid (_) := And.intro R7 hid
              clear h7 g7 D7 f1 f2 f3 f4 f5 f6 rv R7 H6 hr0 hz hid
              go_wp2_with fail
              refine hS7.mono ?_
              rintro e w8 ⟨a8, c8, rfl, h8⟩
              have hfl : ∀ w, (Instr.field 51 (.agg #[.int .i64 1, .int .u32 (s7.ss : Nat), .int .u32 (s7.nm : Nat), .int .u32 (s7.sn : Nat), .int .i64 (s7.dc : Nat), .int .i64 s7.v.lat, .bool (vreq s7.v), .bool (von s7.v), .slice a8 P0.o c8]) 0).run Tryz.prog w = .ok (.int .i64 1) w := fun w => by kernel_rfl
              have b8 := h8.out.2.2
              have R8 := H7.out.1.gr (Gr.below b8) (H7.out.1.ow.dv.below b8) H7.out.1.L H7.out.1.t H7.out.1.ls
              have H8 : Hid (_) := And.intro R8 H7.out.2
              clear hS7 h8 b8 R8 H7
              go_wp2_with fail
              go_roundw
              case rel => exact ⟨i + 1, last', by omega, by omega, by go_num, by rw [HL'.out], U7, s7, H8.out.1, H8.out.2.1, H8.out.2.2.1, H8.out.2.2.2⟩
              case measure => simp [intOf] <;> omega
        · obtain ⟨wA, hwA⟩ : ∃ x : World, x = wr := ⟨_, rfl⟩
          subst hwA
          have H1 : Hid (_) := HS.out
          obtain ⟨s1, hs1⟩ : ∃ x : Sd, x = s := ⟨_, rfl⟩
          obtain ⟨U1, hU1⟩ : ∃ x : List Nat, x = U := ⟨_, rfl⟩
          subst hs1
          subst hU1
          clear HS hzw
          have hbelA : Below wA.heap.size wA (wA.alloc (.cells #[] 5)) := (Below.refl _ _).alloc (Nat.le_refl _) _
          have R0 := H1.out.1.row.below hbelA
          have O0 := own0D wA.heap.size (wishF P0).2 wA (Nat.le_refl _)
          have hszA := hbelA.size
          have h23' : (wishF P0).1 ≤ 100 := by decide
          go_wp2_with (at_builtin; refine wpList_append_row8 rfl (.tmp 62) (.tmp 63) 25 rfl wA.heap.size 5 i0 (.int .u8 0) Tryz.underlying25 hi hz0 hz1 hz2 rfl _ 0 _ rfl O0 aw (wishF P0).1 cw (wishF P0).2 rfl R0 (by unfold maxLen; omega) (by omega) hszA ?_)
          intro v2 w2 hown2 hgrow2
          have hbel2 : Below wA.heap.size wA w2 := hbelA.grown hgrow2 hszA (fun k hk => (O0.lt k hk).1)
          rw [show CB (wishF P0).2 0 = [] from rfl, List.nil_append] at hown2
          obtain ⟨a2, k2, rfl, R2⟩ := own_row8 (by simpa using hown2) H1.out.1.row.byte
          have RA := H1.out.1.gr (Gr.below hbel2) (H1.out.1.ow.dv.below hbel2) H1.out.1.L H1.out.1.t H1.out.1.ls
          have hR := receive_any d m g 16 1073741824 P0 U1 s1 a2 (wishF P0).1 k2 (wishF P0).2 w2 RA.ow.dv R2 (by rw [H1.out.2.2.1]; omega) (by rw [H1.out.2.2.2]; omega) (by have := RA.L; omega) (by have := RA.t; omega)
          obtain ⟨f1, f2, f3, f4, f5, f6⟩ := RA.ow.dv.facts
          have hF := ses_recv P0 P0_ok 1073741824 16 H1.out.2.1 f3 (f6 (by rw [H1.out.2.1]; omega)) f2 f5
          generalize drecv P0 1073741824 16 s1 (wishF P0).1 (wishF P0).2 = Q at *
          have hQL : Q.s.L.length ≤ 10 * (i + 1) := by have := RA.L; omega
          have hQt : Q.s.ms.t ≤ 40 * ((i + 1 : Nat) : Int) - 20 := by have := RA.t; omega
          have H2 : Hid (_) := And.intro RA (And.intro hF (And.intro hQL hQt))
          clear hbelA R0 O0 hszA hown2 hgrow2 hbel2 R2 RA hF hQL hQt f1 f2 f3 f4 f5 f6 H1
          by_cases he : Q.e = 0
          · have hl1 : last < Q.s.ss := by have := (H2.out.2.1.1 he).1; have := H2.out.1.ls; omega
            have hl2 : Q.s.ss = vz Q.s.ms.bs := by have := (H2.out.2.1.1 he); omega
            rw [he] at hR
            have n1 : ((Q.s.ss : Int) != 0) = true := by simp; omega
            have n2 : ((Q.s.ss : Int) != (last : Int)) = true := by simp; omega
            have n3 : ¬ (Q.s.ss : Int) ≤ (last : Int) := by omega
            obtain ⟨last', hl'⟩ : ∃ x, x = Q.s.ss := ⟨_, rfl⟩
            have hlv : last' ≤ vz Q.s.ms.bs := by omega
            have H3 : Hid (_) := And.intro hlv (And.intro hl' H2.out)
            clear hl1 hl2 hlv hl' H2 he
            go_wp2_with fail
            refine hR.mono ?_
            rintro e w3 ⟨v3, rfl, h3⟩
            obtain ⟨U3, g3, D3, F3, _⟩ := h3.out
            have R3 : Rd w w3 d m g aw cw (i + 1) last' U3 Q.s := H3.out.2.2.1.gr g3 D3 H3.out.2.2.2.2.1 (by have := H3.out.2.2.2.2.2; omega) H3.out.1
            have hSee := seeS_any d m g 16 1073741824 P0 U3 Q.s w3 D3
            have H4 : Hid (_) := And.intro R3 H3.out.2.2.2.2.2
            have HL' : Hid (_) := H3.out.2.1
            clear hR h3 g3 D3 F3 R3 H3
            go_wp2_with fail
            refine hSee.mono ?_
            rintro e w4 ⟨a4, c4, rfl, h4⟩
            have b4 := h4.out.2.2
            have b5 : Below w4.heap.size w4 (w4.alloc (.cells #[.int .i64 (Q.s.st : Nat), .int .u32 (Q.s.ss : Nat), .int .u32 (Q.s.nm : Nat), .int .u32 (Q.s.sn : Nat), .int .i64 (Q.s.dc : Nat), .int .i64 Q.s.v.lat, .bool (vreq Q.s.v), .bool (von Q.s.v), .slice a4 P0.o c4] 51)) := (Below.refl _ _).alloc (Nat.le_refl _) _
            have R4 := H4.out.1.gr (Gr.below b4) (H4.out.1.ow.dv.below b4) H4.out.1.L H4.out.1.t H4.out.1.ls
            have R5 := R4.gr (Gr.below b5) (R4.ow.dv.below b5) R4.L R4.t R4.ls
            have H5 : Hid (_) := And.intro R5 H4.out.2
            clear hSee h4 b4 b5 R4 R5 H4
            by_cases hw1 : i < len1
            · obtain ⟨q1, off1, rfl, hq1, hzz⟩ := HW.out.2.nums (by omega)
              obtain ⟨hzc1, hzw1⟩ := hzz i hw1
              have hcell1 := (World.cell?_of_block (a := ⟨q1, off1 + i, none⟩) (H5.out.1.ow.bel.block q1 hq1)).trans hzc1
              have hlt1 : (i : Int) < (len1 : Int) := by omega
              clear hzz hzc1
              generalize z1.getD i 0 = wk at *
              by_cases hp : 0 < wk
              · have hkk : 0 ≤ wk % 9 + 1 ∧ wk % 9 + 1 ≤ 100 := by omega
                go_wp2_with fail
                refine (dvreset_any d m g 16 1073741824 P0 U3 Q.s (wk % 9 + 1) _ H5.out.1.ow.dv hkk.1 (by omega) (by have := H5.out.2; omega)).mono ?_
                rintro e w6 ⟨rfl, h6⟩
                obtain ⟨U6, g6, D6⟩ := h6.out
                obtain ⟨f1, f2, f3, f4, f5, f6⟩ := H5.out.1.ow.dv.facts
                have rv := reset_vz (mx := 1073741824) (n := 16) Q.s (wk % 9 + 1) f1 f2
                have R6 := H5.out.1.gr g6 D6 (by rw [rv.2.2]; exact H5.out.1.L) (by have := H5.out.2; omega) (by rw [rv.1]; exact H5.out.1.ls)
                have ht6 : (dresetS 1073741824 16 Q.s (wk % 9 + 1)).ms.t ≤ 40 * ((i + 1 : Nat) : Int) - 14 := by have := H5.out.2; omega
                generalize dresetS 1073741824 16 Q.s (wk % 9 + 1) = s6 at *
                have H6 : Hid (_) := And.intro R6 ht6
                clear h6 g6 D6 f1 f2 f3 f4 f5 f6 rv R6 ht6 H5
                go_wp2_with fail
                obtain ⟨f1, f2, f3, f4, f5, f6⟩ := H6.out.1.ow.dv.facts
                have hz := reset_zero s6 f4 f3 f2
                have hr0 := dvreset_any d m g 16 1073741824 P0 U6 s6 0 w6 H6.out.1.ow.dv (by omega) (by omega) (by have := H6.out.2; omega)
                rw [hz] at hr0
                have hid := reset_idle s6 hz
                have rv := reset_vz (mx := 1073741824) (n := 16) s6 0 f1 f2
                generalize dresetS 1073741824 16 s6 0 = s7 at *
                refine hr0.mono ?_
                rintro e w7 ⟨rfl, h7⟩
                obtain ⟨U7, g7, D7⟩ := h7.out
                have R7 := H6.out.1.gr g7 D7 (by rw [rv.2.2]; exact H6.out.1.L) (by have := H6.out.2; omega) (by rw [rv.1]; exact H6.out.1.ls)
                have hS7 := seeS_any d m g 16 1073741824 P0 U7 s7 w7 D7
                rw [hid.1] at hS7
                have H7 : Hid (_) := And.intro R7 hid
                clear h7 g7 D7 f1 f2 f3 f4 f5 f6 rv R7 H6 hr0 hz hid
                go_wp2_with fail
                refine hS7.mono ?_
                rintro e w8 ⟨a8, c8, rfl, h8⟩
                have hfl : ∀ w, (Instr.field 51 (.agg #[.int .i64 1, .int .u32 (s7.ss : Nat), .int .u32 (s7.nm : Nat), .int .u32 (s7.sn : Nat), .int .i64 (s7.dc : Nat), .int .i64 s7.v.lat, .bool (vreq s7.v), .bool (von s7.v), .slice a8 P0.o c8]) 0).run Tryz.prog w = .ok (.int .i64 1) w := fun w => by kernel_rfl
                have b8 := h8.out.2.2
                have R8 := H7.out.1.gr (Gr.below b8) (H7.out.1.ow.dv.below b8) H7.out.1.L H7.out.1.t H7.out.1.ls
                have H8 : Hid (_) := And.intro R8 H7.out.2
                clear hS7 h8 b8 R8 H7
                go_wp2_with fail
                go_roundw
                case rel => exact ⟨i + 1, last', by omega, by omega, by go_num, by rw [HL'.out], U7, s7, H8.out.1, H8.out.2.1, H8.out.2.2.1, H8.out.2.2.2⟩
                case measure => simp [intOf] <;> omega
              · have hkk : (0 : Int) ≤ 0 ∧ (0 : Int) ≤ 100 := by omega
                go_wp2_with fail
                refine (dvreset_any d m g 16 1073741824 P0 U3 Q.s 0 _ H5.out.1.ow.dv hkk.1 (by omega) (by have := H5.out.2; omega)).mono ?_
                rintro e w6 ⟨rfl, h6⟩
                obtain ⟨U6, g6, D6⟩ := h6.out
                obtain ⟨f1, f2, f3, f4, f5, f6⟩ := H5.out.1.ow.dv.facts
                have rv := reset_vz (mx := 1073741824) (n := 16) Q.s 0 f1 f2
                have R6 := H5.out.1.gr g6 D6 (by rw [rv.2.2]; exact H5.out.1.L) (by have := H5.out.2; omega) (by rw [rv.1]; exact H5.out.1.ls)
                have ht6 : (dresetS 1073741824 16 Q.s 0).ms.t ≤ 40 * ((i + 1 : Nat) : Int) - 14 := by have := H5.out.2; omega
                generalize dresetS 1073741824 16 Q.s 0 = s6 at *
                have H6 : Hid (_) := And.intro R6 ht6
                clear h6 g6 D6 f1 f2 f3 f4 f5 f6 rv R6 ht6 H5
                go_wp2_with fail
                obtain ⟨f1, f2, f3, f4, f5, f6⟩ := H6.out.1.ow.dv.facts
                have hz := reset_zero s6 f4 f3 f2
                have hr0 := dvreset_any d m g 16 1073741824 P0 U6 s6 0 w6 H6.out.1.ow.dv (by omega) (by omega) (by have := H6.out.2; omega)
                rw [hz] at hr0
                have hid := reset_idle s6 hz
                have rv := reset_vz (mx := 1073741824) (n := 16) s6 0 f1 f2
                generalize dresetS 1073741824 16 s6 0 = s7 at *
                refine hr0.mono ?_
                rintro e w7 ⟨rfl, h7⟩
                obtain ⟨U7, g7, D7⟩ := h7.out
                have R7 := H6.out.1.gr g7 D7 (by rw [rv.2.2]; exact H6.out.1.L) (by have := H6.out.2; omega) (by rw [rv.1]; exact H6.out.1.ls)
                have hS7 := seeS_any d m g 16 1073741824 P0 U7 s7 w7 D7
                rw [hid.1] at hS7
                have H7 : Hid (_) := And.intro R7 hid
                clear h7 g7 D7 f1 f2 f3 f4 f5 f6 rv R7 H6 hr0 hz hid
                go_wp2_with fail
                refine hS7.mono ?_
                rintro e w8 ⟨a8, c8, rfl, h8⟩
                have hfl : ∀ w, (Instr.field 51 (.agg #[.int .i64 1, .int .u32 (s7.ss : Nat), .int .u32 (s7.nm : Nat), .int .u32 (s7.sn : Nat), .int .i64 (s7.dc : Nat), .int .i64 s7.v.lat, .bool (vreq s7.v), .bool (von s7.v), .slice a8 P0.o c8]) 0).run Tryz.prog w = .ok (.int .i64 1) w := fun w => by kernel_rfl
                have b8 := h8.out.2.2
                have R8 := H7.out.1.gr (Gr.below b8) (H7.out.1.ow.dv.below b8) H7.out.1.L H7.out.1.t H7.out.1.ls
                have H8 : Hid (_) := And.intro R8 H7.out.2
                clear hS7 h8 b8 R8 H7
                go_wp2_with fail
                go_roundw
                case rel => exact ⟨i + 1, last', by omega, by omega, by go_num, by rw [HL'.out], U7, s7, H8.out.1, H8.out.2.1, H8.out.2.2.1, H8.out.2.2.2⟩
                case measure => simp [intOf] <;> omega
            · have hlt1 : ¬ (i : Int) < (len1 : Int) := by omega
              have hkk : (0 : Int) ≤ 0 ∧ (0 : Int) ≤ 100 := by omega
              go_wp2_with fail
              refine (dvreset_any d m g 16 1073741824 P0 U3 Q.s 0 _ H5.out.1.ow.dv hkk.1 (by omega) (by have := H5.out.2; omega)).mono ?_
              rintro e w6 ⟨rfl, h6⟩
              obtain ⟨U6, g6, D6⟩ := h6.out
              obtain ⟨f1, f2, f3, f4, f5, f6⟩ := H5.out.1.ow.dv.facts
              have rv := reset_vz (mx := 1073741824) (n := 16) Q.s 0 f1 f2
              have R6 := H5.out.1.gr g6 D6 (by rw [rv.2.2]; exact H5.out.1.L) (by have := H5.out.2; omega) (by rw [rv.1]; exact H5.out.1.ls)
              have ht6 : (dresetS 1073741824 16 Q.s 0).ms.t ≤ 40 * ((i + 1 : Nat) : Int) - 14 := by have := H5.out.2; omega
              generalize dresetS 1073741824 16 Q.s 0 = s6 at *
              have H6 : Hid (_) := And.intro R6 ht6
              clear h6 g6 D6 f1 f2 f3 f4 f5 f6 rv R6 ht6 H5
              go_wp2_with fail
              obtain ⟨f1, f2, f3, f4, f5, f6⟩ := H6.out.1.ow.dv.facts
              have hz := reset_zero s6 f4 f3 f2
              have hr0 := dvreset_any d m g 16 1073741824 P0 U6 s6 0 w6 H6.out.1.ow.dv (by omega) (by omega) (by have := H6.out.2; omega)
              rw [hz] at hr0
              have hid := reset_idle s6 hz
              have rv := reset_vz (mx := 1073741824) (n := 16) s6 0 f1 f2
              generalize dresetS 1073741824 16 s6 0 = s7 at *
              refine hr0.mono ?_
              rintro e w7 ⟨rfl, h7⟩
              obtain ⟨U7, g7, D7⟩ := h7.out
              have R7 := H6.out.1.gr g7 D7 (by rw [rv.2.2]; exact H6.out.1.L) (by have := H6.out.2; omega) (by rw [rv.1]; exact H6.out.1.ls)
              have hS7 := seeS_any d m g 16 1073741824 P0 U7 s7 w7 D7
              rw [hid.1] at hS7
              have H7 : Hid (_) := And.intro R7 hid
              clear h7 g7 D7 f1 f2 f3 f4 f5 f6 rv R7 H6 hr0 hz hid
              go_wp2_with fail
              refine hS7.mono ?_
              rintro e w8 ⟨a8, c8, rfl, h8⟩
              have hfl : ∀ w, (Instr.field 51 (.agg #[.int .i64 1, .int .u32 (s7.ss : Nat), .int .u32 (s7.nm : Nat), .int .u32 (s7.sn : Nat), .int .i64 (s7.dc : Nat), .int .i64 s7.v.lat, .bool (vreq s7.v), .bool (von s7.v), .slice a8 P0.o c8]) 0).run Tryz.prog w = .ok (.int .i64 1) w := fun w => by kernel_rfl
              have b8 := h8.out.2.2
              have R8 := H7.out.1.gr (Gr.below b8) (H7.out.1.ow.dv.below b8) H7.out.1.L H7.out.1.t H7.out.1.ls
              have H8 : Hid (_) := And.intro R8 H7.out.2
              clear hS7 h8 b8 R8 H7
              go_wp2_with fail
              go_roundw
              case rel => exact ⟨i + 1, last', by omega, by omega, by go_num, by rw [HL'.out], U7, s7, H8.out.1, H8.out.2.1, H8.out.2.2.1, H8.out.2.2.2⟩
              case measure => simp [intOf] <;> omega
          · have hlv : last ≤ vz Q.s.ms.bs := by have := (H2.out.2.1.2.1 he); have := H2.out.1.ls; omega
            have n1 : (Q.e == 0) = false := by simpa using he
            obtain ⟨last', hl'⟩ : ∃ x, x = last := ⟨_, rfl⟩
            have hlv : last' ≤ vz Q.s.ms.bs := by omega
            have H3 : Hid (_) := And.intro hlv (And.intro hl' H2.out)
            clear hlv hl' H2 he
            go_wp2_with fail
            refine hR.mono ?_
            rintro e w3 ⟨v3, rfl, h3⟩
            obtain ⟨U3, g3, D3, F3, _⟩ := h3.out
            have R3 : Rd w w3 d m g aw cw (i + 1) last' U3 Q.s := H3.out.2.2.1.gr g3 D3 H3.out.2.2.2.2.1 (by have := H3.out.2.2.2.2.2; omega) H3.out.1
            have hSee := seeS_any d m g 16 1073741824 P0 U3 Q.s w3 D3
            have H4 : Hid (_) := And.intro R3 H3.out.2.2.2.2.2
            have HL' : Hid (_) := H3.out.2.1
            clear hR h3 g3 D3 F3 R3 H3
            go_wp2_with fail
            refine hSee.mono ?_
            rintro e w4 ⟨a4, c4, rfl, h4⟩
            have b4 := h4.out.2.2
            have b5 : Below w4.heap.size w4 (w4.alloc (.cells #[.int .i64 (Q.s.st : Nat), .int .u32 (Q.s.ss : Nat), .int .u32 (Q.s.nm : Nat), .int .u32 (Q.s.sn : Nat), .int .i64 (Q.s.dc : Nat), .int .i64 Q.s.v.lat, .bool (vreq Q.s.v), .bool (von Q.s.v), .slice a4 P0.o c4] 51)) := (Below.refl _ _).alloc (Nat.le_refl _) _
            have R4 := H4.out.1.gr (Gr.below b4) (H4.out.1.ow.dv.below b4) H4.out.1.L H4.out.1.t H4.out.1.ls
            have R5 := R4.gr (Gr.below b5) (R4.ow.dv.below b5) R4.L R4.t R4.ls
            have H5 : Hid (_) := And.intro R5 H4.out.2
            clear hSee h4 b4 b5 R4 R5 H4
            by_cases hw1 : i < len1
            · obtain ⟨q1, off1, rfl, hq1, hzz⟩ := HW.out.2.nums (by omega)
              obtain ⟨hzc1, hzw1⟩ := hzz i hw1
              have hcell1 := (World.cell?_of_block (a := ⟨q1, off1 + i, none⟩) (H5.out.1.ow.bel.block q1 hq1)).trans hzc1
              have hlt1 : (i : Int) < (len1 : Int) := by omega
              clear hzz hzc1
              generalize z1.getD i 0 = wk at *
              by_cases hp : 0 < wk
              · have hkk : 0 ≤ wk % 9 + 1 ∧ wk % 9 + 1 ≤ 100 := by omega
                go_wp2_with fail
                refine (dvreset_any d m g 16 1073741824 P0 U3 Q.s (wk % 9 + 1) _ H5.out.1.ow.dv hkk.1 (by omega) (by have := H5.out.2; omega)).mono ?_
                rintro e w6 ⟨rfl, h6⟩
                obtain ⟨U6, g6, D6⟩ := h6.out
                obtain ⟨f1, f2, f3, f4, f5, f6⟩ := H5.out.1.ow.dv.facts
                have rv := reset_vz (mx := 1073741824) (n := 16) Q.s (wk % 9 + 1) f1 f2
                have R6 := H5.out.1.gr g6 D6 (by rw [rv.2.2]; exact H5.out.1.L) (by have := H5.out.2; omega) (by rw [rv.1]; exact H5.out.1.ls)
                have ht6 : (dresetS 1073741824 16 Q.s (wk % 9 + 1)).ms.t ≤ 40 * ((i + 1 : Nat) : Int) - 14 := by have := H5.out.2; omega
                generalize dresetS 1073741824 16 Q.s (wk % 9 + 1) = s6 at *
                have H6 : Hid (_) := And.intro R6 ht6
                clear h6 g6 D6 f1 f2 f3 f4 f5 f6 rv R6 ht6 H5
                go_wp2_with fail
                obtain ⟨f1, f2, f3, f4, f5, f6⟩ := H6.out.1.ow.dv.facts
                have hz := reset_zero s6 f4 f3 f2
                have hr0 := dvreset_any d m g 16 1073741824 P0 U6 s6 0 w6 H6.out.1.ow.dv (by omega) (by omega) (by have := H6.out.2; omega)
                rw [hz] at hr0
                have hid := reset_idle s6 hz
                have rv := reset_vz (mx := 1073741824) (n := 16) s6 0 f1 f2
                generalize dresetS 1073741824 16 s6 0 = s7 at *
                refine hr0.mono ?_
                rintro e w7 ⟨rfl, h7⟩
                obtain ⟨U7, g7, D7⟩ := h7.out
                have R7 := H6.out.1.gr g7 D7 (by rw [rv.2.2]; exact H6.out.1.L) (by have := H6.out.2; omega) (by rw [rv.1]; exact H6.out.1.ls)
                have hS7 := seeS_any d m g 16 1073741824 P0 U7 s7 w7 D7
                rw [hid.1] at hS7
                have H7 : Hid (_) := And.intro R7 hid
                clear h7 g7 D7 f1 f2 f3 f4 f5 f6 rv R7 H6 hr0 hz hid
                go_wp2_with fail
                refine hS7.mono ?_
                rintro e w8 ⟨a8, c8, rfl, h8⟩
                have hfl : ∀ w, (Instr.field 51 (.agg #[.int .i64 1, .int .u32 (s7.ss : Nat), .int .u32 (s7.nm : Nat), .int .u32 (s7.sn : Nat), .int .i64 (s7.dc : Nat), .int .i64 s7.v.lat, .bool (vreq s7.v), .bool (von s7.v), .slice a8 P0.o c8]) 0).run Tryz.prog w = .ok (.int .i64 1) w := fun w => by kernel_rfl
                have b8 := h8.out.2.2
                have R8 := H7.out.1.gr (Gr.below b8) (H7.out.1.ow.dv.below b8) H7.out.1.L H7.out.1.t H7.out.1.ls
                have H8 : Hid (_) := And.intro R8 H7.out.2
                clear hS7 h8 b8 R8 H7
                go_wp2_with fail
                go_roundw
                case rel => exact ⟨i + 1, last', by omega, by omega, by go_num, by rw [HL'.out], U7, s7, H8.out.1, H8.out.2.1, H8.out.2.2.1, H8.out.2.2.2⟩
                case measure => simp [intOf] <;> omega
              · have hkk : (0 : Int) ≤ 0 ∧ (0 : Int) ≤ 100 := by omega
                go_wp2_with fail
                refine (dvreset_any d m g 16 1073741824 P0 U3 Q.s 0 _ H5.out.1.ow.dv hkk.1 (by omega) (by have := H5.out.2; omega)).mono ?_
                rintro e w6 ⟨rfl, h6⟩
                obtain ⟨U6, g6, D6⟩ := h6.out
                obtain ⟨f1, f2, f3, f4, f5, f6⟩ := H5.out.1.ow.dv.facts
                have rv := reset_vz (mx := 1073741824) (n := 16) Q.s 0 f1 f2
                have R6 := H5.out.1.gr g6 D6 (by rw [rv.2.2]; exact H5.out.1.L) (by have := H5.out.2; omega) (by rw [rv.1]; exact H5.out.1.ls)
                have ht6 : (dresetS 1073741824 16 Q.s 0).ms.t ≤ 40 * ((i + 1 : Nat) : Int) - 14 := by have := H5.out.2; omega
                generalize dresetS 1073741824 16 Q.s 0 = s6 at *
                have H6 : Hid (_) := And.intro R6 ht6
                clear h6 g6 D6 f1 f2 f3 f4 f5 f6 rv R6 ht6 H5
                go_wp2_with fail
                obtain ⟨f1, f2, f3, f4, f5, f6⟩ := H6.out.1.ow.dv.facts
                have hz := reset_zero s6 f4 f3 f2
                have hr0 := dvreset_any d m g 16 1073741824 P0 U6 s6 0 w6 H6.out.1.ow.dv (by omega) (by omega) (by have := H6.out.2; omega)
                rw [hz] at hr0
                have hid := reset_idle s6 hz
                have rv := reset_vz (mx := 1073741824) (n := 16) s6 0 f1 f2
                generalize dresetS 1073741824 16 s6 0 = s7 at *
                refine hr0.mono ?_
                rintro e w7 ⟨rfl, h7⟩
                obtain ⟨U7, g7, D7⟩ := h7.out
                have R7 := H6.out.1.gr g7 D7 (by rw [rv.2.2]; exact H6.out.1.L) (by have := H6.out.2; omega) (by rw [rv.1]; exact H6.out.1.ls)
                have hS7 := seeS_any d m g 16 1073741824 P0 U7 s7 w7 D7
                rw [hid.1] at hS7
                have H7 : Hid (_) := And.intro R7 hid
                clear h7 g7 D7 f1 f2 f3 f4 f5 f6 rv R7 H6 hr0 hz hid
                go_wp2_with fail
                refine hS7.mono ?_
                rintro e w8 ⟨a8, c8, rfl, h8⟩
                have hfl : ∀ w, (Instr.field 51 (.agg #[.int .i64 1, .int .u32 (s7.ss : Nat), .int .u32 (s7.nm : Nat), .int .u32 (s7.sn : Nat), .int .i64 (s7.dc : Nat), .int .i64 s7.v.lat, .bool (vreq s7.v), .bool (von s7.v), .slice a8 P0.o c8]) 0).run Tryz.prog w = .ok (.int .i64 1) w := fun w => by kernel_rfl
                have b8 := h8.out.2.2
                have R8 := H7.out.1.gr (Gr.below b8) (H7.out.1.ow.dv.below b8) H7.out.1.L H7.out.1.t H7.out.1.ls
                have H8 : Hid (_) := And.intro R8 H7.out.2
                clear hS7 h8 b8 R8 H7
                go_wp2_with fail
                go_roundw
                case rel => exact ⟨i + 1, last', by omega, by omega, by go_num, by rw [HL'.out], U7, s7, H8.out.1, H8.out.2.1, H8.out.2.2.1, H8.out.2.2.2⟩
                case measure => simp [intOf] <;> omega
            · have hlt1 : ¬ (i : Int) < (len1 : Int) := by omega
              have hkk : (0 : Int) ≤ 0 ∧ (0 : Int) ≤ 100 := by omega
              go_wp2_with fail
              refine (dvreset_any d m g 16 1073741824 P0 U3 Q.s 0 _ H5.out.1.ow.dv hkk.1 (by omega) (by have := H5.out.2; omega)).mono ?_
              rintro e w6 ⟨rfl, h6⟩
              obtain ⟨U6, g6, D6⟩ := h6.out
              obtain ⟨f1, f2, f3, f4, f5, f6⟩ := H5.out.1.ow.dv.facts
              have rv := reset_vz (mx := 1073741824) (n := 16) Q.s 0 f1 f2
              have R6 := H5.out.1.gr g6 D6 (by rw [rv.2.2]; exact H5.out.1.L) (by have := H5.out.2; omega) (by rw [rv.1]; exact H5.out.1.ls)
              have ht6 : (dresetS 1073741824 16 Q.s 0).ms.t ≤ 40 * ((i + 1 : Nat) : Int) - 14 := by have := H5.out.2; omega
              generalize dresetS 1073741824 16 Q.s 0 = s6 at *
              have H6 : Hid (_) := And.intro R6 ht6
              clear h6 g6 D6 f1 f2 f3 f4 f5 f6 rv R6 ht6 H5
              go_wp2_with fail
              obtain ⟨f1, f2, f3, f4, f5, f6⟩ := H6.out.1.ow.dv.facts
              have hz := reset_zero s6 f4 f3 f2
              have hr0 := dvreset_any d m g 16 1073741824 P0 U6 s6 0 w6 H6.out.1.ow.dv (by omega) (by omega) (by have := H6.out.2; omega)
              rw [hz] at hr0
              have hid := reset_idle s6 hz
              have rv := reset_vz (mx := 1073741824) (n := 16) s6 0 f1 f2
              generalize dresetS 1073741824 16 s6 0 = s7 at *
              refine hr0.mono ?_
              rintro e w7 ⟨rfl, h7⟩
              obtain ⟨U7, g7, D7⟩ := h7.out
              have R7 := H6.out.1.gr g7 D7 (by rw [rv.2.2]; exact H6.out.1.L) (by have := H6.out.2; omega) (by rw [rv.1]; exact H6.out.1.ls)
              have hS7 := seeS_any d m g 16 1073741824 P0 U7 s7 w7 D7
              rw [hid.1] at hS7
              have H7 : Hid (_) := And.intro R7 hid
              clear h7 g7 D7 f1 f2 f3 f4 f5 f6 rv R7 H6 hr0 hz hid
              go_wp2_with fail
              refine hS7.mono ?_
              rintro e w8 ⟨a8, c8, rfl, h8⟩
              have hfl : ∀ w, (Instr.field 51 (.agg #[.int .i64 1, .int .u32 (s7.ss : Nat), .int .u32 (s7.nm : Nat), .int .u32 (s7.sn : Nat), .int .i64 (s7.dc : Nat), .int .i64 s7.v.lat, .bool (vreq s7.v), .bool (von s7.v), .slice a8 P0.o c8]) 0).run Tryz.prog w = .ok (.int .i64 1) w := fun w => by kernel_rfl
              have b8 := h8.out.2.2
              have R8 := H7.out.1.gr (Gr.below b8) (H7.out.1.ow.dv.below b8) H7.out.1.L H7.out.1.t H7.out.1.ls
              have H8 : Hid (_) := And.intro R8 H7.out.2
              clear hS7 h8 b8 R8 H7
              go_wp2_with fail
              go_roundw
              case rel => exact ⟨i + 1, last', by omega, by omega, by go_num, by rw [HL'.out], U7, s7, H8.out.1, H8.out.2.1, H8.out.2.2.1, H8.out.2.2.2⟩
              case measure => simp [intOf] <;> omega
      · have : i = 100 := by omega
        subst this
        go_wp2_with fail
        go_ret
        obtain ⟨U, s, R, _⟩ := HR.out
        exact ⟨rfl, R.ow.bel⟩
    · go_wp2_with fail
      go_ret
      obtain ⟨U, s, R, _⟩ := HR.out
      exact ⟨rfl, R.ow.bel⟩
end Go.Proofs.YtmleiemlfogffaaGreat
