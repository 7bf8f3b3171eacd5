/- Part 29 of the texts on which the proof rests: contracts of Go functions. -/
import Derived.Test.YthlgahkoignnkaaPkG17
namespace Go.Proofs.Ythlgahkoignnkaa
open Go.RowKit Go.Maps Go.Sort
set_option maxRecDepth 100000
set_option maxHeartbeats 2000000 in
theorem rout_off (g p : Nat) (x : Ex) (fk fc fs : Int) (fss fnn : Nat) (fcd : Int) (fn : Nat) (fb : Nat → Nat) (a : Option Addr) (cap : Nat) (dev : Bool) (ses : Nat) (w : World) (h : ExW w g p x) (hr : Row8 w a fn cap fb) (hn : fn ≤ 140737488351232) :
    Calls Try.prog 37 #[.pointer (some ⟨g, p, none⟩), .agg #[.int .i64 fk, .int .i64 fc, .int .i64 fs, .int .u32 (fss : Nat), .int .u32 (fnn : Nat), .bool false, .int .i64 fcd, .slice a fn cap], .bool dev, .int .u32 (ses : Nat)] w fun r w' => r = .returned (.int .i64 (x.orl ⟨fk, fc, fs, fss, fnn, false, fcd, fn, fb⟩ dev ses)) ∧ Hid (Tn w w' g p (p + 11) ∧ ExW w' g p (x.shw ⟨fk, fc, fs, fss, fnn, false, fcd, fn, fb⟩ dev ses)) := by
  have b1 : Below w.heap.size w (w.alloc (.cells #[.int .i64 fk, .int .i64 fc, .int .i64 fs, .int .u32 (fss : Nat), .int .u32 (fnn : Nat), .bool false, .int .i64 fcd, .slice a fn cap] 43)) := belowG (Below.refl _ _) _
  have e0 := heap_alloc_new w (.cells #[.int .i64 fk, .int .i64 fc, .int .i64 fs, .int .u32 (fss : Nat), .int .u32 (fnn : Nat), .bool false, .int .i64 fcd, .slice a fn cap] 43)
  obtain ⟨w1, hw1⟩ : ∃ x : World, w.alloc (.cells #[.int .i64 fk, .int .i64 fc, .int .i64 fs, .int .u32 (fss : Nat), .int .u32 (fnn : Nat), .bool false, .int .i64 fcd, .slice a fn cap] 43) = x := ⟨_, rfl⟩
  obtain ⟨B, hB⟩ : ∃ x, w.heap.size = x := ⟨_, rfl⟩
  rw [hw1] at b1 e0
  rw [hB] at e0
  have T1 : Hid (Tn w w1 g p (p + 11)) := Tn.of_below p (p + 11) b1 h.lt
  have X1 := h.below b1
  have R1 := hr.below b1
  have cv := conv_any a fn cap fb w1 R1
  obtain ⟨Y, hY⟩ : ∃ Y, BA fb fn = Y := ⟨_, rfl⟩
  rw [hY] at cv
  have HY : Hid (BA fb fn = Y) := hY
  have cvd : (convert 41 9 (.slice a fn cap)).run Try.prog w1.drew = .ok (.string Y) w1.drew := by rw [← hY]; exact conv_any a fn cap fb w1.drew (R1.below (Below.drew (Below.refl _ _)))
  have hne : ¬ g = B := by have := h.lt; omega
  obtain ⟨may, hmay⟩ : ∃ q : Bool, x.may ⟨fk, fc, fs, fss, fnn, false, fcd, fn, fb⟩ dev ses = q := ⟨_, rfl⟩
  have HM : Hid (_) := hmay
  have hor : x.orl ⟨fk, fc, fs, fss, fnn, false, fcd, fn, fb⟩ dev ses = outR false may (sfe fn fb) (fcd != 0) x.e.ovr (x.e.lat != 0) x.e.ak := by rw [← hmay]; rfl
  have HO : Hid (_) := hor
  go_enter Try.func37, Try.ntmps37
  go_wp2_with fail
  clear hw1 hY hB b1 h hr hmay hor
  have HX : Hid (ExW w1 g p x) := X1
  have z3 := cell_of_row w1 B 3 _ _ _ e0
  have z4 := cell_of_row w1 B 4 _ _ _ e0
  have z5 := cell_of_row w1 B 5 _ _ _ e0
  have z6 := cell_of_row w1 B 6 _ _ _ e0
  have z7 := cell_of_row w1 B 7 _ _ _ e0
  obtain ⟨x0, x1, x2, x3, x4, x5, x6, x7, x8, x9, x10, fz⟩ := X1
  go_cut [46] (fun x46 wx => x46 = .bool false ∧ wx = w1.drew)
  case first =>
    go_region
    all_goals
      go_wp2_with fail
      go_meet
      first | exact ⟨rfl, rfl⟩ | trace_state
  case rest =>
    obtain ⟨rfl, hwc⟩ := hcut
    have hwc' := hwc.symm
    subst hwc'
    go_wp2_with fail
    go_loopw [9, 47, 48, 49, 50, 51, 52, 53, 54, 55, 56, 57, 58, 59, 60, 61, 62, 63, 64] (fun c _ _ _ _ _ _ _ _ _ _ _ _ _ _ _ _ _ _ wr => ∃ i : Nat, i ≤ fn ∧ c = .int .i64 ((i : Nat) : Int) ∧ wr = w1.drew ∧ Hid (∀ j, j < i → fb j = 0)) (fun c _ _ _ _ _ _ _ _ _ _ _ _ _ _ _ _ _ _ _ => fn - natG c)
    case atStart => exact ⟨0, by omega, rfl, rfl, fun j hj => by omega⟩
    case round =>
      obtain ⟨i, hi, rfl, rfl, hz⟩ := hrel
      by_cases hlt : i < fn
      · have hlt' : (i : Int) < (fn : Int) := by omega
        cases a with
        | none => have := (R1.nil rfl).1; omega
        | some y =>
          have hc := R1.src y rfl i hlt
          by_cases h0 : fb i = 0
          · have hc : w1.cell? (y.add i) = some (.int .u8 0) := by rw [hc, h0]; rfl
            go_wp2_with fail
            go_roundw
            case rel => exact ⟨i + 1, by omega, by go_num, by first | rfl | trivial, fun j hj => by rcases Nat.lt_succ_iff_lt_or_eq.1 hj with h | h; exact hz.out j h; rw [h]; exact h0⟩
            case measure => simp [natG] <;> omega
          · have h0' : (((fb i : Nat) : Int) != 0) = true := by simp; omega
            have hsf : sfe fn fb = false := by unfold sfe; simp; exact ⟨i, hlt, h0⟩
            have ho : x.orl ⟨fk, fc, fs, fss, fnn, false, fcd, fn, fb⟩ dev ses = 5 := by rw [HO.out]; unfold outR; simp [hsf]
            have ho : Hid (_) := ho
            go_wp2_with fail
            go_ret
            have ho' := ho.out
            rw [ho', Ex.shw_no (by rw [ho']; decide)]
            exact ⟨rfl, T1.out.trans (Tn.drewN w1 g _ _ 1), HX.out.drewN 1⟩
      · obtain rfl : fn = i := by omega
        have hlt' : ¬ (fn : Int) < (fn : Int) := by omega
        have hsf : sfe fn fb = true := by unfold sfe; simp; exact hz.out
        go_wp2_with fail
        go_quiet (fail)
        by_cases hcd : fcd = 0
        · by_cases hov : x.e.ovr = true
          · skip
            have hv1 : decide (x.e.w ≤ x.e.tk) = true := by have := hov; unfold En.ovr at this; simpa using this
            have ho : Hid (x.orl ⟨fk, fc, fs, fss, fnn, false, fcd, fn, fb⟩ dev ses = 7) := by show x.orl ⟨fk, fc, fs, fss, fnn, false, fcd, fn, fb⟩ dev ses = 7; rw [HO.out]; unfold outR; simp [hcd, hov, hsf]
            clear z3 z4 z7 cv cvd
            rw [hcd] at z6
            clear hcd hov
            go_wp2_with fail
            go_ret
            have ho' := ho.out
            rw [ho', Ex.shw_no (by rw [ho']; decide)]
            exact ⟨rfl, (by repeat (first | with_reducible exact T1.out | with_reducible refine tn_set ?_ (by omega) (by omega) | with_reducible refine tn_drew ?_ | with_reducible refine tn_drewN ?_ _)), (by repeat (first | with_reducible exact HX.out | with_reducible refine ex_drew ?_ | with_reducible refine ex_drewN ?_ _))⟩
          · skip
            have hv1 : decide (x.e.w ≤ x.e.tk) = false := by have := hov; unfold En.ovr at this; simpa using this
            by_cases hlat : x.e.lat = 0
            · have HQ : Hid (fcd = x.e.lat) := hcd.trans hlat.symm
              have ho : Hid (x.orl ⟨fk, fc, fs, fss, fnn, false, fcd, fn, fb⟩ dev ses = 0) := by show x.orl ⟨fk, fc, fs, fss, fnn, false, fcd, fn, fb⟩ dev ses = 0; rw [HO.out]; unfold outR; simp [hcd, hlat, hov, hsf]
              have hs : Hid (x.shw ⟨fk, fc, fs, fss, fnn, false, fcd, fn, fb⟩ dev ses = { x with e := { x.e with lat := fcd, ak := false } }) := by
                show x.shw ⟨fk, fc, fs, fss, fnn, false, fcd, fn, fb⟩ dev ses = _
                rw [Ex.shw_go ho.out]
                unfold En.shw
                rw [if_pos (by have := HQ.out; exact this)]
              clear z3 z4 z7 cv cvd
              have HCD : Hid (fcd = 0) := hcd
              rw [hcd] at z6
              rw [hlat] at x8
              clear hcd hlat
              go_wp2_with fail
              go_quiet (fail)
              go_wp2_with fail
              go_ret
              rw [ho.out, hs.out, HCD.out]
              first | exact ⟨rfl, (by repeat (first | with_reducible exact T1.out | with_reducible refine tn_set ?_ (by omega) (by omega) | with_reducible refine tn_drew ?_ | with_reducible refine tn_drewN ?_ _)), ((ExW.s8 (by repeat (first | with_reducible exact HX.out | with_reducible refine ex_drew ?_ | with_reducible refine ex_drewN ?_ _)) 0).s10 false)⟩ | trace_state
            · skip
              cases hak : x.e.ak with
              | false =>
                rw [hak] at x10
                have hak' : (x.e.ak) = false := hak
                have ho : Hid (x.orl ⟨fk, fc, fs, fss, fnn, false, fcd, fn, fb⟩ dev ses = 8) := by show x.orl ⟨fk, fc, fs, fss, fnn, false, fcd, fn, fb⟩ dev ses = 8; rw [HO.out]; unfold outR; simp [hcd, hlat, hov, hak, hsf]
                clear z3 z4 z7 cv cvd
                clear hak hak'
                have HCD : Hid (fcd = 0) := hcd
                rw [hcd] at z6
                have hl : (x.e.lat != 0) = true := by simpa using hlat
                clear hcd
                go_wp2_with fail
                go_ret
                have ho' := ho.out
                rw [ho', Ex.shw_no (by rw [ho']; decide)]
                exact ⟨rfl, (by repeat (first | with_reducible exact T1.out | with_reducible refine tn_set ?_ (by omega) (by omega) | with_reducible refine tn_drew ?_ | with_reducible refine tn_drewN ?_ _)), (by repeat (first | with_reducible exact HX.out | with_reducible refine ex_drew ?_ | with_reducible refine ex_drewN ?_ _))⟩
              | true =>
                rw [hak] at x10
                have HQ : Hid (¬ fcd = x.e.lat) := fun e => hlat (by rw [← e]; exact hcd)
                have ho : Hid (x.orl ⟨fk, fc, fs, fss, fnn, false, fcd, fn, fb⟩ dev ses = 0) := by show x.orl ⟨fk, fc, fs, fss, fnn, false, fcd, fn, fb⟩ dev ses = 0; rw [HO.out]; unfold outR; simp [hcd, hov, hak, hsf]
                have hs : Hid (x.shw ⟨fk, fc, fs, fss, fnn, false, fcd, fn, fb⟩ dev ses = { x with e := { x.e with fr := false, lat := fcd, ak := false } }) := by
                  show x.shw ⟨fk, fc, fs, fss, fnn, false, fcd, fn, fb⟩ dev ses = _
                  rw [Ex.shw_go ho.out]
                  unfold En.shw
                  rw [if_neg (by have := HQ.out; exact this)]
                clear z3 z4 z7 cv cvd
                clear hak
                have HCD : Hid (fcd = 0) := hcd
                rw [hcd] at z6
                have hl : (x.e.lat != 0) = true := by simpa using hlat
                have hl2 : ((0 : Int) != x.e.lat) = true := by simp; omega
                clear hcd
                go_wp2_with fail
                go_quiet (fail)
                go_wp2_with fail
                go_ret
                rw [ho.out, hs.out, HCD.out]
                first | exact ⟨rfl, (by repeat (first | with_reducible exact T1.out | with_reducible refine tn_set ?_ (by omega) (by omega) | with_reducible refine tn_drew ?_ | with_reducible refine tn_drewN ?_ _)), (((ExW.s9 (by repeat (first | with_reducible exact HX.out | with_reducible refine ex_drew ?_ | with_reducible refine ex_drewN ?_ _)) false).s8 0).s10 false)⟩ | trace_state
        · skip
          by_cases hov : x.e.ovr = true
          · skip
            have hv1 : decide (x.e.w ≤ x.e.tk) = true := by have := hov; unfold En.ovr at this; simpa using this
            by_cases hlat : x.e.lat = 0
            · have HQ : Hid (¬ fcd = x.e.lat) := by show ¬ fcd = x.e.lat; rw [hlat]; exact hcd
              have ho : Hid (x.orl ⟨fk, fc, fs, fss, fnn, false, fcd, fn, fb⟩ dev ses = 0) := by show x.orl ⟨fk, fc, fs, fss, fnn, false, fcd, fn, fb⟩ dev ses = 0; rw [HO.out]; unfold outR; simp [hcd, hov, hsf, hlat]
              have hs : Hid (x.shw ⟨fk, fc, fs, fss, fnn, false, fcd, fn, fb⟩ dev ses = { x with e := { x.e with fr := false, lat := fcd, ak := false } }) := by
                show x.shw ⟨fk, fc, fs, fss, fnn, false, fcd, fn, fb⟩ dev ses = _
                rw [Ex.shw_go ho.out]
                unfold En.shw
                rw [if_neg (by have := HQ.out; exact this)]
              clear z3 z4 z7 cv cvd
              rw [hlat] at x8
              have hc1 : (fcd != 0) = true := by simpa using hcd
              have hc2 : (fcd == 0) = false := by simpa using hcd
              clear hcd hlat
              go_wp2_with fail
              go_quiet (fail)
              go_wp2_with fail
              go_ret
              rw [ho.out, hs.out]
              first | exact ⟨rfl, (by repeat (first | with_reducible exact T1.out | with_reducible refine tn_set ?_ (by omega) (by omega) | with_reducible refine tn_drew ?_ | with_reducible refine tn_drewN ?_ _)), (((ExW.s9 (by repeat (first | with_reducible exact HX.out | with_reducible refine ex_drew ?_ | with_reducible refine ex_drewN ?_ _)) false).s8 fcd).s10 false)⟩ | trace_state
            · have hl : (x.e.lat != 0) = true := by simpa using hlat
              by_cases heq : fcd = x.e.lat
              · have HQ : Hid (fcd = x.e.lat) := heq
                have ho : Hid (x.orl ⟨fk, fc, fs, fss, fnn, false, fcd, fn, fb⟩ dev ses = 0) := by show x.orl ⟨fk, fc, fs, fss, fnn, false, fcd, fn, fb⟩ dev ses = 0; rw [HO.out]; unfold outR; simp [hcd, hov, hsf]
                have hs : Hid (x.shw ⟨fk, fc, fs, fss, fnn, false, fcd, fn, fb⟩ dev ses = { x with e := { x.e with lat := fcd, ak := false } }) := by
                  show x.shw ⟨fk, fc, fs, fss, fnn, false, fcd, fn, fb⟩ dev ses = _
                  rw [Ex.shw_go ho.out]
                  unfold En.shw
                  rw [if_pos (by have := HQ.out; exact this)]
                clear z3 z4 z7 cv cvd
                have hc1 : (fcd != 0) = true := by simpa using hcd
                have hc2 : (fcd == 0) = false := by simpa using hcd
                have hq : (fcd != x.e.lat) = false := by simpa using heq
                clear hcd heq
                go_wp2_with fail
                go_quiet (fail)
                go_wp2_with fail
                go_ret
                rw [ho.out, hs.out]
                first | exact ⟨rfl, (by repeat (first | with_reducible exact T1.out | with_reducible refine tn_set ?_ (by omega) (by omega) | with_reducible refine tn_drew ?_ | with_reducible refine tn_drewN ?_ _)), ((ExW.s8 (by repeat (first | with_reducible exact HX.out | with_reducible refine ex_drew ?_ | with_reducible refine ex_drewN ?_ _)) fcd).s10 false)⟩ | trace_state
              · have HQ : Hid (¬ fcd = x.e.lat) := heq
                have ho : Hid (x.orl ⟨fk, fc, fs, fss, fnn, false, fcd, fn, fb⟩ dev ses = 0) := by show x.orl ⟨fk, fc, fs, fss, fnn, false, fcd, fn, fb⟩ dev ses = 0; rw [HO.out]; unfold outR; simp [hcd, hov, hsf]
                have hs : Hid (x.shw ⟨fk, fc, fs, fss, fnn, false, fcd, fn, fb⟩ dev ses = { x with e := { x.e with fr := false, lat := fcd, ak := false } }) := by
                  show x.shw ⟨fk, fc, fs, fss, fnn, false, fcd, fn, fb⟩ dev ses = _
                  rw [Ex.shw_go ho.out]
                  unfold En.shw
                  rw [if_neg (by have := HQ.out; exact this)]
                clear z3 z4 z7 cv cvd
                have hc1 : (fcd != 0) = true := by simpa using hcd
                have hc2 : (fcd == 0) = false := by simpa using hcd
                have hq : (fcd != x.e.lat) = true := by simpa using heq
                clear hcd heq
                go_wp2_with fail
                go_quiet (fail)
                go_wp2_with fail
                go_ret
                rw [ho.out, hs.out]
                first | exact ⟨rfl, (by repeat (first | with_reducible exact T1.out | with_reducible refine tn_set ?_ (by omega) (by omega) | with_reducible refine tn_drew ?_ | with_reducible refine tn_drewN ?_ _)), (((ExW.s9 (by repeat (first | with_reducible exact HX.out | with_reducible refine ex_drew ?_ | with_reducible refine ex_drewN ?_ _)) false).s8 fcd).s10 false)⟩ | trace_state
          · skip
            have hv1 : decide (x.e.w ≤ x.e.tk) = false := by have := hov; unfold En.ovr at this; simpa using this
            by_cases hlat : x.e.lat = 0
            · have HQ : Hid (¬ fcd = x.e.lat) := by show ¬ fcd = x.e.lat; rw [hlat]; exact hcd
              have ho : Hid (x.orl ⟨fk, fc, fs, fss, fnn, false, fcd, fn, fb⟩ dev ses = 0) := by show x.orl ⟨fk, fc, fs, fss, fnn, false, fcd, fn, fb⟩ dev ses = 0; rw [HO.out]; unfold outR; simp [hov, hsf, hlat]
              have hs : Hid (x.shw ⟨fk, fc, fs, fss, fnn, false, fcd, fn, fb⟩ dev ses = { x with e := { x.e with fr := false, lat := fcd, ak := false } }) := by
                show x.shw ⟨fk, fc, fs, fss, fnn, false, fcd, fn, fb⟩ dev ses = _
                rw [Ex.shw_go ho.out]
                unfold En.shw
                rw [if_neg (by have := HQ.out; exact this)]
              clear z3 z4 z7 cv cvd
              rw [hlat] at x8
              have hc1 : (fcd != 0) = true := by simpa using hcd
              have hc2 : (fcd == 0) = false := by simpa using hcd
              clear hcd hlat
              go_wp2_with fail
              go_quiet (fail)
              go_wp2_with fail
              go_ret
              rw [ho.out, hs.out]
              first | exact ⟨rfl, (by repeat (first | with_reducible exact T1.out | with_reducible refine tn_set ?_ (by omega) (by omega) | with_reducible refine tn_drew ?_ | with_reducible refine tn_drewN ?_ _)), (((ExW.s9 (by repeat (first | with_reducible exact HX.out | with_reducible refine ex_drew ?_ | with_reducible refine ex_drewN ?_ _)) false).s8 fcd).s10 false)⟩ | trace_state
            · have hl : (x.e.lat != 0) = true := by simpa using hlat
              by_cases heq : fcd = x.e.lat
              · have HQ : Hid (fcd = x.e.lat) := heq
                have ho : Hid (x.orl ⟨fk, fc, fs, fss, fnn, false, fcd, fn, fb⟩ dev ses = 0) := by show x.orl ⟨fk, fc, fs, fss, fnn, false, fcd, fn, fb⟩ dev ses = 0; rw [HO.out]; unfold outR; simp [hcd, hov, hsf]
                have hs : Hid (x.shw ⟨fk, fc, fs, fss, fnn, false, fcd, fn, fb⟩ dev ses = { x with e := { x.e with lat := fcd, ak := false } }) := by
                  show x.shw ⟨fk, fc, fs, fss, fnn, false, fcd, fn, fb⟩ dev ses = _
                  rw [Ex.shw_go ho.out]
                  unfold En.shw
                  rw [if_pos (by have := HQ.out; exact this)]
                clear z3 z4 z7 cv cvd
                have hc1 : (fcd != 0) = true := by simpa using hcd
                have hc2 : (fcd == 0) = false := by simpa using hcd
                have hq : (fcd != x.e.lat) = false := by simpa using heq
                clear hcd heq
                go_wp2_with fail
                go_quiet (fail)
                go_wp2_with fail
                go_ret
                rw [ho.out, hs.out]
                first | exact ⟨rfl, (by repeat (first | with_reducible exact T1.out | with_reducible refine tn_set ?_ (by omega) (by omega) | with_reducible refine tn_drew ?_ | with_reducible refine tn_drewN ?_ _)), ((ExW.s8 (by repeat (first | with_reducible exact HX.out | with_reducible refine ex_drew ?_ | with_reducible refine ex_drewN ?_ _)) fcd).s10 false)⟩ | trace_state
              · have HQ : Hid (¬ fcd = x.e.lat) := heq
                have ho : Hid (x.orl ⟨fk, fc, fs, fss, fnn, false, fcd, fn, fb⟩ dev ses = 0) := by show x.orl ⟨fk, fc, fs, fss, fnn, false, fcd, fn, fb⟩ dev ses = 0; rw [HO.out]; unfold outR; simp [hcd, hov, hsf]
                have hs : Hid (x.shw ⟨fk, fc, fs, fss, fnn, false, fcd, fn, fb⟩ dev ses = { x with e := { x.e with fr := false, lat := fcd, ak := false } }) := by
                  show x.shw ⟨fk, fc, fs, fss, fnn, false, fcd, fn, fb⟩ dev ses = _
                  rw [Ex.shw_go ho.out]
                  unfold En.shw
                  rw [if_neg (by have := HQ.out; exact this)]
                clear z3 z4 z7 cv cvd
                have hc1 : (fcd != 0) = true := by simpa using hcd
                have hc2 : (fcd == 0) = false := by simpa using hcd
                have hq : (fcd != x.e.lat) = true := by simpa using heq
                clear hcd heq
                go_wp2_with fail
                go_quiet (fail)
                go_wp2_with fail
                go_ret
                rw [ho.out, hs.out]
                first | exact ⟨rfl, (by repeat (first | with_reducible exact T1.out | with_reducible refine tn_set ?_ (by omega) (by omega) | with_reducible refine tn_drew ?_ | with_reducible refine tn_drewN ?_ _)), (((ExW.s9 (by repeat (first | with_reducible exact HX.out | with_reducible refine ex_drew ?_ | with_reducible refine ex_drewN ?_ _)) false).s8 fcd).s10 false)⟩ | trace_state
end Go.Proofs.Ythlgahkoignnkaa
