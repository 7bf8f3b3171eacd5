/- Layer 10: every call. -/
import Derived.Test.YtbhpkibmklmmgaaWRef
import Derived.Test.YtbhpkibmklmmgaaOp10
namespace Go.Proofs.Ytbhpkibmklmmgaa
open Go.RowKit

/-- In a region that draws its order. -/
theorem quiet_moreW {P : Program} {f : FuncId} {args : Array Value} {w : World} {n : Nat} {v : Value} (h : Calls P f args (w.drewN n) fun e w' => e = .returned v ∧ ∃ j, w' = (w.drewN n).drewN j) :
    Calls P f args (w.drewN n) fun e w'' => e = .returned v ∧ ∃ m, w'' = w.drewN m :=
  h.mono fun _ _ ⟨he, j, hm⟩ => ⟨he, n + j, by rw [hm, World.drewN_drewN]⟩
set_option maxRecDepth 100000 in
set_option maxHeartbeats 4000000 in
theorem wplays_in (l : Nat) (a : Option Addr) (len cap : Nat) (w : World) (h1 : 1 ≤ l) (h2 : l ≤ 1048576) (hrow : OpRow w a len) :
    Calls Try.prog 3 #[.int .i64 l, .slice a len cap] w fun e w' => e = .returned (.bool true) ∧ Below w.heap.size w w' := by
  obtain ⟨hlen, hc⟩ := hrow
  have HC : Hid (_) := hc
  clear hc
  go_enter Try.func3, Try.ntmps3
  go_wp2_with fail
  refine (awake10 w).mono ?_
  rintro e w1 ⟨rfl, o1⟩
  go_wp2_with fail
  refine (wnew_ok l w1 h1 h2).mono ?_
  rintro e w2 ⟨rfl, o2, d2⟩
  have ha := o1.size
  have hd := d2.lt
  have b2 : Below w.heap.size w w2 := (o1.trans o2).nilB
  clear o1 o2
  generalize w1.heap.size = D at *
  have o3 : Off [] w2 (w2.alloc (.cells (DC l 0) 30)) := Off.alloc _ _ _
  have r3 : RD (w2.alloc (.cells (DC l 0) 30)) w2.heap.size l 0 := ⟨heap_alloc_new _ _, h2, Nat.zero_le _⟩
  have d3 := d2.off o3 (by simp)
  have b3 := o3.below b2 (by simp) b2.size
  have H0 : Hid (_) := And.intro d3 (And.intro r3 b3)
  clear d2 b2 d3 r3 b3 o3
  generalize hV : w2.heap.size = V at *
  have HV : Hid (_) := hV
  go_wp2_with fail
  clear hV
  go_loopw [4, 8, 9, 10, 11] (fun _ i _ _ _ wr => ∃ (k c : Nat), k ≤ len ∧ i = .int .i64 ((k : Nat) : Int) ∧ DR wr D l c ∧ RD wr V l c ∧ Below w.heap.size w wr) (fun _ i _ _ _ _ => len - (intOf i).toNat)
  case atStart => exact ⟨0, 0, by omega, rfl, H0.out.1, H0.out.2.1, H0.out.2.2⟩
  case round =>
    clear H0 HV
    obtain ⟨k, c, hk, rfl, d, r, b⟩ := hrel
    by_cases hlt : k < len
    · obtain ⟨bb, off, rfl, hbb, hcc⟩ := HC.out (by omega)
      obtain ⟨K, N, hN, q0, q1⟩ := hcc k hlt
      have hcell0 : wr.cell? ⟨bb, off + k * 2, none⟩ = some (.int .i64 K) := (b.cell (p := ⟨bb, off + k * 2 + 0, none⟩) hbb).trans q0
      have hcell1 := (b.cell (p := ⟨bb, off + k * 2 + 1, none⟩) hbb).trans q1
      clear HC hcc q0 q1
      have o0 : Off [] wr (wr.alloc (.cells #[.int .i64 K, .int .i64 N] 32)) := Off.alloc _ _ _
      have dX := d.off o0 (by simp)
      have rX := r.off o0 (by simp)
      have bX := o0.below b (by simp) b.size
      have lD := d.lt
      have lV := r.lt
      have hO : (wr.alloc (.cells #[.int .i64 K, .int .i64 N] 32)).heap[wr.heap.size]? = some (.cells #[.int .i64 K, .int .i64 N] 32 (0, 0)) := heap_alloc_new _ _
      have lO : wr.heap.size < (wr.alloc (.cells #[.int .i64 K, .int .i64 N] 32)).heap.size := by simp
      have HO : Hid (_) := And.intro hO lO
      have HX : Hid (_) := And.intro dX (And.intro rX bX)
      clear d r b o0 dX rX bX hO lO
      by_cases k1 : K = 1
      · subst k1
        go_wp2_with fail
        clear hcell0 hcell1
        obtain ⟨dX, rX, bX⟩ := HX.out
        clear HX HO
        generalize wr.alloc (.cells #[.int .i64 1, .int .i64 N] 32) = wx at *
        refine (wtick_any l c D wx dX).mono ?_
        rintro e w3 ⟨rfl, o3, d3⟩
        have r3 := rX.off o3 (by simp; omega)
        have b3 := o3.below bX (by simpa using ha) bX.size
        clear o3 dX rX bX
        have hr := rticks_any l c 1 V w3 r3 (by omega)
        generalize told l c 1 = t at *
        go_wp2_with fail
        refine hr.mono ?_
        rintro e w4 ⟨rfl, o4, rY⟩
        have dY := d3.off o4 (by simp; omega)
        have bY := o4.below b3 (by simp; omega) b3.size
        clear o4 d3 b3 r3 hr
        go_wp2_with fail
        have HY : Hid (_) := And.intro dY (And.intro rY bY)
        clear dY rY bY
        generalize w4 = wy at *
        generalize tk l c 1 = cc at *
        have q0 := fun j => wsince_any l cc D _ (HY.out.1.drewN j)
        have q1 := fun j => wexpired_any l cc D _ (HY.out.1.drewN j)
        have q2 := fun j => wlimit_any l cc D _ (HY.out.1.drewN j)
        have y1 := HY.out.2.1.c1
        go_quiet ((first | (go_at_call 13; exact Calls.quiet_of_same (q0 _)) | (go_at_call 14; exact quiet_moreW (q1 _)) | (go_at_call 15; exact Calls.quiet_of_same (q2 _))))
        clear q0 q1 q2 y1
        go_wp2_with fail
        go_roundw
        case rel => exact ⟨k + 1, cc, by omega, by go_num, HY.out.1.drewN _, HY.out.2.1.drewN _, (Off.drewN [] wy nq).below HY.out.2.2 (by simp) HY.out.2.2.size⟩
        case measure => simp [intOf] <;> omega
      · by_cases k2 : K = 2
        · subst k2
          by_cases hneg : N < 0
          · go_wp2_with fail
            clear hcell0 hcell1
            refine (wticks_neg N D _ hneg).mono ?_
            rintro e w3 ⟨rfl, hw⟩
            rw [hw]; clear hw
            go_wp2_with fail
            obtain ⟨dY, rY, bY⟩ := HX.out
            clear HX HO
            generalize wr.alloc (.cells #[.int .i64 2, .int .i64 N] 32) = wx at *
            have HY : Hid (_) := And.intro dY (And.intro rY bY)
            clear dY rY bY
            generalize wx = wy at *
            generalize c = cc at *
            have q0 := fun j => wsince_any l cc D _ (HY.out.1.drewN j)
            have q1 := fun j => wexpired_any l cc D _ (HY.out.1.drewN j)
            have q2 := fun j => wlimit_any l cc D _ (HY.out.1.drewN j)
            have y1 := HY.out.2.1.c1
            go_quiet ((first | (go_at_call 13; exact Calls.quiet_of_same (q0 _)) | (go_at_call 14; exact quiet_moreW (q1 _)) | (go_at_call 15; exact Calls.quiet_of_same (q2 _))))
            clear q0 q1 q2 y1
            go_wp2_with fail
            go_roundw
            case rel => exact ⟨k + 1, cc, by omega, by go_num, HY.out.1.drewN _, HY.out.2.1.drewN _, (Off.drewN [] wy nq).below HY.out.2.2 (by simp) HY.out.2.2.size⟩
            case measure => simp [intOf] <;> omega
          · obtain ⟨n, rfl⟩ : ∃ n : Nat, N = (n : Int) := ⟨N.toNat, by omega⟩
            go_wp2_with fail
            clear hcell0 hcell1
            obtain ⟨dX, rX, bX⟩ := HX.out
            obtain ⟨hO, lO⟩ := HO.out
            clear HX HO
            generalize wr.alloc (.cells #[.int .i64 2, .int .i64 (n : Int)] 32) = wx at *
            generalize wr.heap.size = O at *
            refine (wticks_any l c n D wx dX (by omega)).mono ?_
            rintro e w3 ⟨rfl, o3, d3⟩
            have r3 := rX.off o3 (by simp; omega)
            have b3 := o3.below bX (by simpa using ha) bX.size
            have g3 := cell_of_row w3 O 1 _ _ _ ((o3.block O lO (by simp; omega)).trans hO)
            have hr := rticks_any l c n V w3 r3 (by omega)
            clear o3 dX rX bX hO lO
            generalize told l c n = t at *
            go_wp2_with fail
            refine hr.mono ?_
            rintro e w4 ⟨rfl, o4, rY⟩
            have dY := d3.off o4 (by simp; omega)
            have bY := o4.below b3 (by simp; omega) b3.size
            clear o4 d3 b3 r3 hr g3
            go_wp2_with fail
            have HY : Hid (_) := And.intro dY (And.intro rY bY)
            clear dY rY bY
            generalize w4 = wy at *
            generalize tk l c n = cc at *
            have q0 := fun j => wsince_any l cc D _ (HY.out.1.drewN j)
            have q1 := fun j => wexpired_any l cc D _ (HY.out.1.drewN j)
            have q2 := fun j => wlimit_any l cc D _ (HY.out.1.drewN j)
            have y1 := HY.out.2.1.c1
            go_quiet ((first | (go_at_call 13; exact Calls.quiet_of_same (q0 _)) | (go_at_call 14; exact quiet_moreW (q1 _)) | (go_at_call 15; exact Calls.quiet_of_same (q2 _))))
            clear q0 q1 q2 y1
            go_wp2_with fail
            go_roundw
            case rel => exact ⟨k + 1, cc, by omega, by go_num, HY.out.1.drewN _, HY.out.2.1.drewN _, (Off.drewN [] wy nq).below HY.out.2.2 (by simp) HY.out.2.2.size⟩
            case measure => simp [intOf] <;> omega
        · by_cases k3 : K = 3
          · subst k3
            go_wp2_with fail
            clear hcell0 hcell1
            obtain ⟨dX, rX, bX⟩ := HX.out
            clear HX HO
            generalize wr.alloc (.cells #[.int .i64 3, .int .i64 N] 32) = wx at *
            refine (wfeed_any l c D wx dX).mono ?_
            rintro e w3 ⟨rfl, o3, d3⟩
            have r3 := rX.off o3 (by simp; omega)
            have b3 := o3.below bX (by simpa using ha) bX.size
            clear o3 dX rX bX
            have v1 := r3.c1
            have v2 := r3.fz 1
            have o4 : Off [V] w3 (w3.setCell ⟨V, 1, none⟩ (.int .i64 ((0 : Nat) : Int))) := Off.setCell _ _ _ _
            have rY := r3.set 0 (Nat.zero_le _)
            have dY := d3.off o4 (by simp; omega)
            have bY := o4.below b3 (by simp; omega) b3.size
            have HY : Hid (_) := And.intro dY (And.intro rY bY)
            clear o4 d3 b3 r3 rY dY bY
            go_wp2_with fail
            obtain ⟨dY, rY, bY⟩ := HY.out
            clear HY v1 v2
            generalize w3.setCell ⟨V, 1, none⟩ (.int .i64 ((0 : Nat) : Int)) = w4 at *
            obtain ⟨zc, hzc⟩ : ∃ zc : Nat, zc = 0 := ⟨_, rfl⟩
            rw [← hzc] at dY rY
            clear hzc
            have HY : Hid (_) := And.intro dY (And.intro rY bY)
            clear dY rY bY
            generalize w4 = wy at *
            generalize zc = cc at *
            have q0 := fun j => wsince_any l cc D _ (HY.out.1.drewN j)
            have q1 := fun j => wexpired_any l cc D _ (HY.out.1.drewN j)
            have q2 := fun j => wlimit_any l cc D _ (HY.out.1.drewN j)
            have y1 := HY.out.2.1.c1
            go_quiet ((first | (go_at_call 13; exact Calls.quiet_of_same (q0 _)) | (go_at_call 14; exact quiet_moreW (q1 _)) | (go_at_call 15; exact Calls.quiet_of_same (q2 _))))
            clear q0 q1 q2 y1
            go_wp2_with fail
            go_roundw
            case rel => exact ⟨k + 1, cc, by omega, by go_num, HY.out.1.drewN _, HY.out.2.1.drewN _, (Off.drewN [] wy nq).below HY.out.2.2 (by simp) HY.out.2.2.size⟩
            case measure => simp [intOf] <;> omega
          · go_wp2_with fail
            clear hcell0 hcell1
            obtain ⟨dY, rY, bY⟩ := HX.out
            clear HX HO
            generalize wr.alloc (.cells #[.int .i64 K, .int .i64 N] 32) = wx at *
            have HY : Hid (_) := And.intro dY (And.intro rY bY)
            clear dY rY bY
            generalize wx = wy at *
            generalize c = cc at *
            have q0 := fun j => wsince_any l cc D _ (HY.out.1.drewN j)
            have q1 := fun j => wexpired_any l cc D _ (HY.out.1.drewN j)
            have q2 := fun j => wlimit_any l cc D _ (HY.out.1.drewN j)
            have y1 := HY.out.2.1.c1
            go_quiet ((first | (go_at_call 13; exact Calls.quiet_of_same (q0 _)) | (go_at_call 14; exact quiet_moreW (q1 _)) | (go_at_call 15; exact Calls.quiet_of_same (q2 _))))
            clear q0 q1 q2 y1
            go_wp2_with fail
            go_roundw
            case rel => exact ⟨k + 1, cc, by omega, by go_num, HY.out.1.drewN _, HY.out.2.1.drewN _, (Off.drewN [] wy nq).below HY.out.2.2 (by simp) HY.out.2.2.size⟩
            case measure => simp [intOf] <;> omega
    · clear HC
      have Hb : Hid (_) := b
      clear b
      go_wp2_with fail
      go_ret
      exact ⟨rfl, Hb.out⟩
set_option maxRecDepth 100000 in
set_option maxHeartbeats 4000000 in
theorem wplays_out (a0 : Int) (a : Option Addr) (len cap : Nat) (w : World) (h : a0 < 1 ∨ 1048576 < a0) :
    Calls Try.prog 3 #[.int .i64 a0, .slice a len cap] w fun e w' => e = .returned (.bool true) ∧ Below w.heap.size w w' := by
  have hh : Hid (a0 < 1 ∨ 1048576 < a0) := h
  clear h
  go_enter Try.func3, Try.ntmps3
  go_wp2_with fail
  refine (awake10 w).mono ?_
  rintro e w1 ⟨rfl, o1⟩
  have b1 : Hid (_) := o1.nilB
  clear o1
  go_wp2_with fail
  refine (wnew_no a0 w1 hh.out).mono ?_
  rintro e w2 ⟨rfl, hw⟩
  rw [hw]; clear hw
  by_cases c1 : a0 < 1
  · go_wp2_with fail
    go_ret
    exact ⟨rfl, b1.out⟩
  · have c2 : 1048576 < a0 := by have := hh.out; omega
    go_wp2_with fail
    go_ret
    exact ⟨rfl, b1.out⟩
theorem watchPlays_walk (a0 : Int) (a1 : Option Addr) (len1 cap1 : Nat) (w : World) (_w0 : (Lit.int .i64 a0).wf = true) (w1 : OpRow w a1 len1) :
    Calls Try.prog 3 #[.int .i64 a0, .slice a1 len1 cap1] w fun e w' => e = .returned (.bool true) ∧ Below w.heap.size w w' := by
  by_cases h : a0 < 1 ∨ 1048576 < a0
  · exact wplays_out a0 a1 len1 cap1 w h
  · have e0 : a0 = ((a0.toNat : Nat) : Int) := by omega
    rw [e0]
    exact wplays_in _ a1 len1 cap1 w (by omega) (by omega) w1

end Go.Proofs.Ytbhpkibmklmmgaa
