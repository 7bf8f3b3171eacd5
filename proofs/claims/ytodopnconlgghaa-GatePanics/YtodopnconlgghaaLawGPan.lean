/- Layer 6: a function that panics. -/
import Derived.Test.YtodopnconlgghaaGPanic2
namespace Go.Proofs.Ytodopnconlgghaa
open Go.RowKit

set_option maxRecDepth 100000 in
set_option maxHeartbeats 4000000 in
theorem gatePanics_walk (a0 : Int) (_w0 : (Lit.int .i64 a0).wf = true) (w : World) :
    Calls Try.prog 6 #[.int .i64 a0] w fun e w' => e = .returned (.bool true) ∧ Below w.heap.size w w' := by
  have hmf : ∀ (fn : Fn) (first cap : Array Value) (w : World), (Instr.makeFunc fn first cap).run Try.prog w = .ok (.func fn first cap) w := fun _ _ _ _ => rfl
  go_enter Try.func6, Try.ntmps6
  go_wp2_with fail
  have n1 := Vr.new w (.int .i64 a0) 3
  have o1 : Off [] w (w.alloc (.cells #[.int .i64 a0] 3)) := Off.alloc _ _ _
  generalize w.alloc (.cells #[.int .i64 a0] 3) = u1 at *
  refine (awake6 u1).mono ?_
  rintro e u2 ⟨rfl, o2⟩
  have n2 := n1.off o2 (by simp)
  have cn := n2.c
  by_cases hz : a0 = 0
  · subst hz
    go_wp2_with fail
    go_ret
    exact ⟨rfl, (o1.trans o2).below (Below.refl _ _) (by simp) (Nat.le_refl _)⟩
  · have ls1 := n2.lt
    go_wp2_with fail
    have c3 := Vr.new u2 (.int .i64 0) 3
    have o3 : Off [] u2 (u2.alloc (.cells #[.int .i64 0] 3)) := Off.alloc _ _ _
    have n3 := n2.off o3 (by simp)
    generalize u2.alloc (.cells #[.int .i64 0] 3) = u3 at *
    refine (makeI_any _ u3 (.inr ⟨_, _, rfl⟩)).mono ?_
    rintro e u4 ⟨rfl, o4, l4⟩
    have ls3 := c3.lt
    have c4 := c3.off o4 (by simp)
    have n4 := n3.off o4 (by simp)
    have B4 : Below w.heap.size w u4 := (o1.trans (o2.trans (o3.trans o4))).below (Below.refl _ _) (by simp) (Nat.le_refl _)
    have lu := l4.lt
    clear o1 o2 o3 o4 c3 n3 n2 n1 cn
    generalize u2.heap.size = pc at *
    generalize u3.heap.size = l at *
    go_wp2_with fail
    refine (caught_dies _ _ l [pc] a0 (fun u => Vr u pc (.int .i64 1) 3) u4 (fun _ => by kernel_rfl) l4 (fun w1 o => pn1 pc w.heap.size a0 w1 (c4.off o (by simp; omega)) (n4.off o (by simp; omega)) (by omega)) (by simp; omega) (by simp; omega) (fun u u' L q o hL => q.off o (hL pc (by simp)))).mono ?_
    rintro e u5 ⟨rfl, o5, l5, c5⟩
    have n5 := n4.off o5 (by simp; omega)
    have B5 : Below w.heap.size w u5 := o5.below B4 (by simp; omega) B4.size
    have k1 := n5.c
    have k2 := c5.c
    clear o5 l4 c4 n4 B4
    go_wp2_with fail
    refine (madeI_any _ _ _ _ _ _ _ l5).mono ?_
    rintro e u6 ⟨rfl, hw⟩
    rw [hw]; clear hw
    go_wp2_with fail
    go_loopw [2, 5, 6, 7] (fun _ _ _ i wr => ∃ k : Nat, k ≤ 3 ∧ i = .int .i64 ((k : Nat) : Int) ∧ Vr wr pc (.int .i64 1) 3 ∧ LR 59 wr l (.func (.func 24) #[] #[.pointer (some ⟨pc, 0, none⟩), .pointer (some ⟨w.heap.size, 0, none⟩)]) 1 0 (.int .i64 0) 0 ∧ Below w.heap.size w wr) (fun _ _ _ i _ => 3 - (intOf i).toNat)
    case atStart => exact ⟨0, by omega, rfl, c5, l5, B5⟩
    case round =>
      clear c5 l5 B5 k1 k2 n5
      obtain ⟨k, hk, rfl, C, L, B⟩ := hrel
      by_cases hlt : k < 3
      · go_wp2_with fail
        refine (caught_again _ _ _ _ _ L).mono ?_
        rintro e u7 ⟨rfl, o7⟩
        have C7 := C.off o7 (by simp)
        have L7 := L.off o7 (by simp)
        have B7 := o7.below B (by simp) B.size
        have k7 := C7.c
        clear C L B o7
        go_wp2_with fail
        refine (madeI_any _ _ _ _ _ _ _ L7).mono ?_
        rintro e u8 ⟨rfl, hw⟩
        rw [hw]; clear hw
        have HB : Hid (_) := And.intro C7 (And.intro L7 B7)
        clear C7 L7 B7 k7
        go_wp2_with fail
        go_roundw
        case rel => exact ⟨k + 1, by omega, by go_num, HB.out.1, HB.out.2.1, HB.out.2.2⟩
        case measure => simp [intOf] <;> omega
      · go_wp2_with fail
        go_ret
        exact ⟨rfl, B⟩

end Go.Proofs.Ytodopnconlgghaa
