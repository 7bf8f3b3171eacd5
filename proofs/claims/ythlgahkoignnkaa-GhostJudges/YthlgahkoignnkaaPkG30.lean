/- Part 31 of the texts on which the proof rests: contracts of Go functions. -/
import Derived.Test.YthlgahkoignnkaaPkG17
namespace Go.Proofs.Ythlgahkoignnkaa
open Go.RowKit Go.Maps Go.Sort
set_option maxRecDepth 100000
set_option maxHeartbeats 2000000 in
theorem rout_d (g p : Nat) (x : Ex) (fk fc fs : Int) (fss fnn : Nat) (fcd : Int) (fn : Nat) (fb : Nat → Nat) (a : Option Addr) (cap : Nat) (ses : Nat) (w : World) (h : ExW w g p x) (hr : Row8 w a fn cap fb) (hn : fn ≤ 140737488351232) :
    Calls Try.prog 37 #[.pointer (some ⟨g, p, none⟩), .agg #[.int .i64 fk, .int .i64 fc, .int .i64 fs, .int .u32 (fss : Nat), .int .u32 (fnn : Nat), .bool true, .int .i64 fcd, .slice a fn cap], .bool true, .int .u32 (ses : Nat)] w fun r w' => r = .returned (.int .i64 (x.orl ⟨fk, fc, fs, fss, fnn, true, fcd, fn, fb⟩ true ses)) ∧ Hid (Tn w w' g p (p + 11) ∧ ExW w' g p (x.shw ⟨fk, fc, fs, fss, fnn, true, fcd, fn, fb⟩ true ses)) := by
  have b1 : Below w.heap.size w (w.alloc (.cells #[.int .i64 fk, .int .i64 fc, .int .i64 fs, .int .u32 (fss : Nat), .int .u32 (fnn : Nat), .bool true, .int .i64 fcd, .slice a fn cap] 43)) := belowG (Below.refl _ _) _
  have e0 := heap_alloc_new w (.cells #[.int .i64 fk, .int .i64 fc, .int .i64 fs, .int .u32 (fss : Nat), .int .u32 (fnn : Nat), .bool true, .int .i64 fcd, .slice a fn cap] 43)
  obtain ⟨w1, hw1⟩ : ∃ x : World, w.alloc (.cells #[.int .i64 fk, .int .i64 fc, .int .i64 fs, .int .u32 (fss : Nat), .int .u32 (fnn : Nat), .bool true, .int .i64 fcd, .slice a fn cap] 43) = x := ⟨_, rfl⟩
  obtain ⟨B, hB⟩ : ∃ x, w.heap.size = x := ⟨_, rfl⟩
  rw [hw1] at b1 e0
  rw [hB] at e0
  have T1 : Hid (Tn w w1 g p (p + 11)) := Tn.of_below p (p + 11) b1 h.lt
  have X1 := h.below b1
  have R1 := hr.below b1
  have cv := conv_any a fn cap fb w1 R1
  obtain ⟨Y, hY⟩ : ∃ Y, BA fb fn = Y := ⟨_, rfl⟩
  rw [hY] at cv
  have HY : Hid (BA fb fn = Y) := hY
  have cvd : (convert 41 9 (.slice a fn cap)).run Try.prog w1.drew = .ok (.string Y) w1.drew := by rw [← hY]; exact conv_any a fn cap fb w1.drew (R1.below (Below.drew (Below.refl _ _)))
  have hne : ¬ g = B := by have := h.lt; omega
  obtain ⟨may, hmay⟩ : ∃ q : Bool, x.may ⟨fk, fc, fs, fss, fnn, true, fcd, fn, fb⟩ true ses = q := ⟨_, rfl⟩
  have HM : Hid (_) := hmay
  have hor : x.orl ⟨fk, fc, fs, fss, fnn, true, fcd, fn, fb⟩ true ses = outR true may (sfe fn fb) (fcd != 0) x.e.ovr (x.e.lat != 0) x.e.ak := by rw [← hmay]; rfl
  have HO : Hid (_) := hor
  go_enter Try.func37, Try.ntmps37
  go_wp2_with fail
  clear hw1 hY hB b1 h hr hmay hor
  have HX : Hid (ExW w1 g p x) := X1
  have z3 := cell_of_row w1 B 3 _ _ _ e0
  have z4 := cell_of_row w1 B 4 _ _ _ e0
  have z5 := cell_of_row w1 B 5 _ _ _ e0
  have z6 := cell_of_row w1 B 6 _ _ _ e0
  have z7 := cell_of_row w1 B 7 _ _ _ e0
  obtain ⟨x0, x1, x2, x3, x4, x5, x6, x7, x8, x9, x10, fz⟩ := X1
  go_cut [46] (fun x46 wx => x46 = .bool (!may) ∧ wx = w1.drew)
  case first =>
    cases hh : x.has with
    | false =>
      rw [hh] at x4
      obtain rfl : may = false := by rw [← HM.out]; unfold Ex.may; rw [hh]; rfl
      clear hh
      go_region
      all_goals
        go_wp2_with fail
        go_meet
        first | exact ⟨rfl, rfl⟩ | trace_state
    | true =>
      rw [hh] at x4
      by_cases h0 : fn = 0
      · obtain rfl : may = false := by rw [← HM.out]; unfold Ex.may; rw [hh, h0]; rfl
        clear hh
        have h0' : (((fn : Nat) : Int) == 0) = true := by simp only [beq_iff_eq]; omega
        have H0 : Hid (fn = 0) := h0
        clear h0
        go_region
        all_goals
          go_wp2_with fail
          go_meet
          first | exact ⟨rfl, rfl⟩ | trace_state
      · have h0' : (((fn : Nat) : Int) == 0) = false := by simp only [beq_eq_false_iff_ne, ne_eq]; omega
        by_cases hv : x.e.v.toList = Y.toList
        · have hv' : (x.e.v.toList == Y.toList) = true := by simpa using hv
          have hvn : (x.e.v.toList != Y.toList) = false := by simpa using hv
          by_cases hi : x.inn = ses
          · obtain rfl : may = true := by
              rw [← HM.out]
              unfold Ex.may
              have : (x.e.v.toList == (BA fb fn).toList) = true := by rw [HY.out]; simpa using hv
              rw [show Fa.x ⟨fk, fc, fs, fss, fnn, true, fcd, fn, fb⟩ = BA fb fn from rfl, this, hh]
              simp [h0, hi]
            have hi' : (((x.inn : Nat) : Int) == ((ses : Nat) : Int)) = true := by simp only [beq_iff_eq]; omega
            have hin : (((x.inn : Nat) : Int) != ((ses : Nat) : Int)) = false := by simp [hi]
            have him : (x.inn != ses) = false := by simp [hi]
            clear hh hv hi
            go_region
            all_goals
              go_wp2_with fail
              go_meet
              first | exact ⟨rfl, rfl⟩ | trace_state
          · obtain rfl : may = false := by
              rw [← HM.out]
              unfold Ex.may
              simp [hi]
            have hi' : (((x.inn : Nat) : Int) == ((ses : Nat) : Int)) = false := by simp only [beq_eq_false_iff_ne, ne_eq]; omega
            have hin : (((x.inn : Nat) : Int) != ((ses : Nat) : Int)) = true := by simp only [bne_iff_ne, ne_eq]; omega
            have him : (x.inn != ses) = true := by simpa using hi
            clear hh hv hi
            go_region
            all_goals
              go_wp2_with fail
              go_meet
              first | exact ⟨rfl, rfl⟩ | trace_state
        · obtain rfl : may = false := by
            rw [← HM.out]
            unfold Ex.may
            have : (x.e.v.toList == (BA fb fn).toList) = false := by rw [HY.out]; simpa using hv
            rw [show Fa.x ⟨fk, fc, fs, fss, fnn, true, fcd, fn, fb⟩ = BA fb fn from rfl, this]
            simp
          have hv' : (x.e.v.toList == Y.toList) = false := by simpa using hv
          have hvn : (x.e.v.toList != Y.toList) = true := by simpa using hv
          clear hh hv
          go_region
          all_goals
            go_wp2_with fail
            go_meet
            first | exact ⟨rfl, rfl⟩ | trace_state
  case rest =>
    obtain ⟨rfl, hwc⟩ := hcut
    have hwc' := hwc.symm
    subst hwc'
    cases may with
    | false =>
      have ho : Hid (x.orl ⟨fk, fc, fs, fss, fnn, true, fcd, fn, fb⟩ true ses = 4) := by rw [HO.out]; rfl
      go_wp2_with fail
      go_ret
      have ho' := ho.out
      rw [ho', Ex.shw_no (by rw [ho']; decide)]
      exact ⟨rfl, T1.out.trans (Tn.drewN w1 g _ _ 1), HX.out.drewN 1⟩
    | true =>
      have hmy : True := trivial
      go_wp2_with fail
      go_loopw [9, 47, 48, 49, 50, 51, 52, 53, 54, 55, 56, 57, 58, 59, 60, 61, 62, 63, 64] (fun c _ _ _ _ _ _ _ _ _ _ _ _ _ _ _ _ _ _ wr => ∃ i : Nat, i ≤ fn ∧ c = .int .i64 ((i : Nat) : Int) ∧ wr = w1.drew) (fun c _ _ _ _ _ _ _ _ _ _ _ _ _ _ _ _ _ _ _ => fn - natG c)
      case atStart => exact ⟨0, by omega, rfl, rfl⟩
      case round =>
        obtain ⟨i, hi, rfl, rfl⟩ := hrel
        by_cases hlt : i < fn
        · have hlt' : (i : Int) < (fn : Int) := by omega
          go_wp2_with fail
          go_roundw
          case rel => exact ⟨i + 1, by omega, by go_num, by first | rfl | trivial⟩
          case measure => simp [natG] <;> omega
        · obtain rfl : fn = i := by omega
          have hlt' : ¬ (fn : Int) < (fn : Int) := by omega
          go_wp2_with fail
          go_quiet (fail)
          by_cases hcd : fcd = 0
          · by_cases hov : x.e.ovr = true
            · skip
              have hv1 : decide (x.e.w ≤ x.e.tk) = true := by have := hov; unfold En.ovr at this; simpa using this
              have ho : Hid (x.orl ⟨fk, fc, fs, fss, fnn, true, fcd, fn, fb⟩ true ses = 6) := by show x.orl ⟨fk, fc, fs, fss, fnn, true, fcd, fn, fb⟩ true ses = 6; rw [HO.out]; unfold outR; simp [hcd, hov]
              clear z3 z4 z7 cv cvd
              rw [hcd] at z6
              clear hcd hov
              go_wp2_with fail
              go_ret
              have ho' := ho.out
              rw [ho', Ex.shw_no (by rw [ho']; decide)]
              exact ⟨rfl, (by repeat (first | with_reducible exact T1.out | with_reducible refine tn_set ?_ (by omega) (by omega) | with_reducible refine tn_drew ?_ | with_reducible refine tn_drewN ?_ _)), (by repeat (first | with_reducible exact HX.out | with_reducible refine ex_drew ?_ | with_reducible refine ex_drewN ?_ _))⟩
            · skip
              have hv1 : decide (x.e.w ≤ x.e.tk) = false := by have := hov; unfold En.ovr at this; simpa using this
              by_cases hlat : x.e.lat = 0
              · have HQ : Hid (fcd = x.e.lat) := hcd.trans hlat.symm
                have ho : Hid (x.orl ⟨fk, fc, fs, fss, fnn, true, fcd, fn, fb⟩ true ses = 0) := by show x.orl ⟨fk, fc, fs, fss, fnn, true, fcd, fn, fb⟩ true ses = 0; rw [HO.out]; unfold outR; simp [hcd, hlat, hov]
                have hs : Hid (x.shw ⟨fk, fc, fs, fss, fnn, true, fcd, fn, fb⟩ true ses = { x with e := { x.e with lat := fcd, ak := false } }) := by
                  show x.shw ⟨fk, fc, fs, fss, fnn, true, fcd, fn, fb⟩ true ses = _
                  rw [Ex.shw_go ho.out]
                  unfold En.shw
                  rw [if_pos (by have := HQ.out; exact this)]
                clear z3 z4 z7 cv cvd
                have HCD : Hid (fcd = 0) := hcd
                rw [hcd] at z6
                rw [hlat] at x8
                clear hcd hlat
                go_wp2_with fail
                go_quiet (fail)
                go_wp2_with fail
                go_ret
                rw [ho.out, hs.out, HCD.out]
                first | exact ⟨rfl, (by repeat (first | with_reducible exact T1.out | with_reducible refine tn_set ?_ (by omega) (by omega) | with_reducible refine tn_drew ?_ | with_reducible refine tn_drewN ?_ _)), ((ExW.s8 (by repeat (first | with_reducible exact HX.out | with_reducible refine ex_drew ?_ | with_reducible refine ex_drewN ?_ _)) 0).s10 false)⟩ | trace_state
              · skip
                cases hak : x.e.ak with
                | false =>
                  rw [hak] at x10
                  have hak' : (x.e.ak) = false := hak
                  have ho : Hid (x.orl ⟨fk, fc, fs, fss, fnn, true, fcd, fn, fb⟩ true ses = 8) := by show x.orl ⟨fk, fc, fs, fss, fnn, true, fcd, fn, fb⟩ true ses = 8; rw [HO.out]; unfold outR; simp [hcd, hlat, hov, hak]
                  clear z3 z4 z7 cv cvd
                  clear hak hak'
                  have HCD : Hid (fcd = 0) := hcd
                  rw [hcd] at z6
                  have hl : (x.e.lat != 0) = true := by simpa using hlat
                  clear hcd
                  go_wp2_with fail
                  go_ret
                  have ho' := ho.out
                  rw [ho', Ex.shw_no (by rw [ho']; decide)]
                  exact ⟨rfl, (by repeat (first | with_reducible exact T1.out | with_reducible refine tn_set ?_ (by omega) (by omega) | with_reducible refine tn_drew ?_ | with_reducible refine tn_drewN ?_ _)), (by repeat (first | with_reducible exact HX.out | with_reducible refine ex_drew ?_ | with_reducible refine ex_drewN ?_ _))⟩
                | true =>
                  rw [hak] at x10
                  have HQ : Hid (¬ fcd = x.e.lat) := fun e => hlat (by rw [← e]; exact hcd)
                  have ho : Hid (x.orl ⟨fk, fc, fs, fss, fnn, true, fcd, fn, fb⟩ true ses = 0) := by show x.orl ⟨fk, fc, fs, fss, fnn, true, fcd, fn, fb⟩ true ses = 0; rw [HO.out]; unfold outR; simp [hcd, hov, hak]
                  have hs : Hid (x.shw ⟨fk, fc, fs, fss, fnn, true, fcd, fn, fb⟩ true ses = { x with e := { x.e with fr := false, lat := fcd, ak := false } }) := by
                    show x.shw ⟨fk, fc, fs, fss, fnn, true, fcd, fn, fb⟩ true ses = _
                    rw [Ex.shw_go ho.out]
                    unfold En.shw
                    rw [if_neg (by have := HQ.out; exact this)]
                  clear z3 z4 z7 cv cvd
                  clear hak
                  have HCD : Hid (fcd = 0) := hcd
                  rw [hcd] at z6
                  have hl : (x.e.lat != 0) = true := by simpa using hlat
                  have hl2 : ((0 : Int) != x.e.lat) = true := by simp; omega
                  clear hcd
                  go_wp2_with fail
                  go_quiet (fail)
                  go_wp2_with fail
                  go_ret
                  rw [ho.out, hs.out, HCD.out]
                  first | exact ⟨rfl, (by repeat (first | with_reducible exact T1.out | with_reducible refine tn_set ?_ (by omega) (by omega) | with_reducible refine tn_drew ?_ | with_reducible refine tn_drewN ?_ _)), (((ExW.s9 (by repeat (first | with_reducible exact HX.out | with_reducible refine ex_drew ?_ | with_reducible refine ex_drewN ?_ _)) false).s8 0).s10 false)⟩ | trace_state
          · skip
            have ho : Hid (x.orl ⟨fk, fc, fs, fss, fnn, true, fcd, fn, fb⟩ true ses = 6) := by show x.orl ⟨fk, fc, fs, fss, fnn, true, fcd, fn, fb⟩ true ses = 6; rw [HO.out]; unfold outR; simp [hcd]
            clear z3 z4 z7 cv cvd
            have hc1 : (fcd != 0) = true := by simpa using hcd
            have hc2 : (fcd == 0) = false := by simpa using hcd
            clear hcd
            go_wp2_with fail
            go_ret
            have ho' := ho.out
            rw [ho', Ex.shw_no (by rw [ho']; decide)]
            exact ⟨rfl, (by repeat (first | with_reducible exact T1.out | with_reducible refine tn_set ?_ (by omega) (by omega) | with_reducible refine tn_drew ?_ | with_reducible refine tn_drewN ?_ _)), (by repeat (first | with_reducible exact HX.out | with_reducible refine ex_drew ?_ | with_reducible refine ex_drewN ?_ _))⟩
end Go.Proofs.Ythlgahkoignnkaa
