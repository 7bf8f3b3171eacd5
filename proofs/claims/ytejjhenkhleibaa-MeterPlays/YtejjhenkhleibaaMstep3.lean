/- Layer 5: one call, on both meters: Set, Clear, Turn. -/
import Derived.Test.YtejjhenkhleibaaMstep2
namespace Go.Proofs.Ytejjhenkhleibaa
open Go.RowKit

set_option maxRecDepth 100000 in
set_option maxHeartbeats 2000000 in
theorem step_set (M b v : Nat) (wh b' i j s n : Int) (a : Nat) (w : World) (h : SyE M w b v) :
    Calls Try.prog 11 #[.pointer (some ⟨b, 0, none⟩), .pointer (some ⟨v, 0, none⟩), .agg (opV 5 wh a b' i j s n)] w fun e w' => e = .returned (.bool true) ∧ Stepped M w b v w' := by
  obtain ⟨t, p, r, q, f, o, c, h⟩ := h
  have hO := Off.alloc [] w (opO 5 wh a b' i j s n)
  have hA := h.off hO (by simp) (by simp) (by simp)
  have oA : OpAt (w.alloc (opO 5 wh a b' i j s n)) w.heap.size 5 wh a b' i j s n := ⟨heap_alloc_new w _⟩
  have hvM := h.vM
  have hle := h.le
  clear h
  obtain ⟨_, _, c2, _⟩ := oA.cells
  have y3 := hA.rm.c3
  have z3 := hA.rm.fz 3
  have HA : Hid (_) := And.intro hA (And.intro oA hO)
  have hcv : ∀ w, (convert 27 28 (.int .u64 (a : Int))).run Try.prog w = .ok (.int .u32 (IntKind.u32.wrap a)) w := fun w => by kernel_rfl
  generalize IntKind.u32.wrap (a : Int) = y at *
  have hor : ∀ w, (binOp .or 28 (.int .u32 f) (.int .u32 y)).run Try.prog w = .ok (.int .u32 (bits .or .u32 f y)) w := fun w => by kernel_rfl
  generalize hf' : bits .or .u32 f y = f' at *
  clear hA oA hO
  go_enter Try.func11, Try.ntmps11
  go_wp2_with fail
  generalize w.alloc (opO 5 wh a b' i j s n) = wa at *
  go_region
  have hA := HA.out.1
  have k1 := (Off.setCell v 3 wa (.int .u32 f')).trans (Off.drew [v] _)
  have r1 := (hA.rm.s3 f').off (Off.drew [] _) (by simp)
  have m1 := hA.met.off k1 (by simpa using hA.ne)
  have o1 := HA.out.2.1.off k1 (by simp; omega)
  have hO := HA.out.2.2
  clear HA c2 y3 z3 hor
  generalize (wa.setCell ⟨v, 3, none⟩ (.int .u32 f')).drew = wb at *
  obtain ⟨_, _, d2, _⟩ := o1.cells
  have hS := set_any t b p r f o y f' wb m1 hf'
  have k2 := Off.setCell b 2 wb (.int .u32 f')
  have kk := (off_v (b := b) k1).trans (off_b (v := v) k2)
  have hend : Stepped M w b v (wb.setCell ⟨b, 2, none⟩ (.int .u32 f')) := hA.step hO kk (m1.s2 f') (hA.pk.off kk hA.roots) (hA.rc.off kk hA.roots) (r1.off k2 (by simpa using hA.ne.symm)) hA.tlt
  clear k1 r1 m1 o1 k2 kk hA hO
  go_wp2_with fail
  refine hS.mono ?_
  rintro e w2 ⟨rfl, hw2⟩
  rw [← hw2] at hend
  clear hw2 hS
  go_wp2_with fail
  go_ret
  exact ⟨by simp, hend⟩
set_option maxRecDepth 100000 in
set_option maxHeartbeats 2000000 in
theorem step_clear (M b v : Nat) (wh b' i j s n : Int) (a : Nat) (w : World) (h : SyE M w b v) :
    Calls Try.prog 11 #[.pointer (some ⟨b, 0, none⟩), .pointer (some ⟨v, 0, none⟩), .agg (opV 6 wh a b' i j s n)] w fun e w' => e = .returned (.bool true) ∧ Stepped M w b v w' := by
  obtain ⟨t, p, r, q, f, o, c, h⟩ := h
  have hO := Off.alloc [] w (opO 6 wh a b' i j s n)
  have hA := h.off hO (by simp) (by simp) (by simp)
  have oA : OpAt (w.alloc (opO 6 wh a b' i j s n)) w.heap.size 6 wh a b' i j s n := ⟨heap_alloc_new w _⟩
  have hvM := h.vM
  have hle := h.le
  clear h
  obtain ⟨_, _, c2, _⟩ := oA.cells
  have y3 := hA.rm.c3
  have z3 := hA.rm.fz 3
  have HA : Hid (_) := And.intro hA (And.intro oA hO)
  have hcv : ∀ w, (convert 27 28 (.int .u64 (a : Int))).run Try.prog w = .ok (.int .u32 (IntKind.u32.wrap a)) w := fun w => by kernel_rfl
  generalize IntKind.u32.wrap (a : Int) = y at *
  have hor : ∀ w, (binOp .and 28 (.int .u32 f) (.int .u32 (bits .xor .u32 IntKind.u32.max y))).run Try.prog w = .ok (.int .u32 (bits .and .u32 f (bits .xor .u32 IntKind.u32.max y))) w := fun w => by kernel_rfl
  generalize hf' : bits .and .u32 f (bits .xor .u32 IntKind.u32.max y) = f' at *
  clear hA oA hO
  go_enter Try.func11, Try.ntmps11
  go_wp2_with fail
  generalize w.alloc (opO 6 wh a b' i j s n) = wa at *
  go_region
  rw [show (if IntKind.u32.signed = true then (-1 : Int) else IntKind.u32.max) = IntKind.u32.max from rfl, hf']
  have hA := HA.out.1
  have k1 := (Off.setCell v 3 wa (.int .u32 f')).trans (Off.drew [v] _)
  have r1 := (hA.rm.s3 f').off (Off.drew [] _) (by simp)
  have m1 := hA.met.off k1 (by simpa using hA.ne)
  have o1 := HA.out.2.1.off k1 (by simp; omega)
  have hO := HA.out.2.2
  clear HA c2 y3 z3 hor
  generalize (wa.setCell ⟨v, 3, none⟩ (.int .u32 f')).drew = wb at *
  obtain ⟨_, _, d2, _⟩ := o1.cells
  have hS := clear_any t b p r f o y f' wb m1 hf'
  have k2 := Off.setCell b 2 wb (.int .u32 f')
  have kk := (off_v (b := b) k1).trans (off_b (v := v) k2)
  have hend : Stepped M w b v (wb.setCell ⟨b, 2, none⟩ (.int .u32 f')) := hA.step hO kk (m1.s2 f') (hA.pk.off kk hA.roots) (hA.rc.off kk hA.roots) (r1.off k2 (by simpa using hA.ne.symm)) hA.tlt
  clear k1 r1 m1 o1 k2 kk hA hO
  go_wp2_with fail
  refine hS.mono ?_
  rintro e w2 ⟨rfl, hw2⟩
  rw [← hw2] at hend
  clear hw2 hS
  go_wp2_with fail
  go_ret
  exact ⟨by simp, hend⟩
set_option maxRecDepth 100000 in
set_option maxHeartbeats 2000000 in
theorem step_turn (M b v : Nat) (wh b' i j s n : Int) (a : Nat) (w : World) (h : SyE M w b v) :
    Calls Try.prog 11 #[.pointer (some ⟨b, 0, none⟩), .pointer (some ⟨v, 0, none⟩), .agg (opV 7 wh a b' i j s n)] w fun e w' => e = .returned (.bool true) ∧ Stepped M w b v w' := by
  obtain ⟨t, p, r, q, f, o, c, h⟩ := h
  have hO := Off.alloc [] w (opO 7 wh a b' i j s n)
  have hA := h.off hO (by simp) (by simp) (by simp)
  have oA : OpAt (w.alloc (opO 7 wh a b' i j s n)) w.heap.size 7 wh a b' i j s n := ⟨heap_alloc_new w _⟩
  have hvM := h.vM
  have hle := h.le
  clear h
  obtain ⟨_, _, c2, _⟩ := oA.cells
  have y4 := hA.rm.c4
  have z4 := hA.rm.fz 4
  have HA : Hid (_) := And.intro hA (And.intro oA hO)
  clear hA oA hO
  rcases Nat.mod_two_eq_zero_or_one a with hm | hm
  · have hmi : (a : Int) % 2 = 0 := by omega
    go_enter Try.func11, Try.ntmps11
    go_upto_region 26 with fail
    generalize w.alloc (opO 7 wh a b' i j s n) = wa at *
    have hA := HA.out.1
    have k1 := Off.setCell v 4 wa (.bool false)
    have r1 := hA.rm.s4 false
    have m1 := hA.met.off k1 (by simpa using hA.ne)
    have o1 := HA.out.2.1.off k1 (by simp; omega)
    have hO := HA.out.2.2
    obtain ⟨_, _, d2, _⟩ := o1.cells
    have hT := turn_off t b p r f o _ m1
    have k2 := (Off.drew [b] _).trans (Off.setCell b 3 (wa.setCell ⟨v, 4, none⟩ (.bool false)).drew (.int .u32 0))
    have kk := (off_v (b := b) k1).trans (off_b (v := v) k2)
    have hend : Stepped M w b v ((wa.setCell ⟨v, 4, none⟩ (.bool false)).drew.setCell ⟨b, 3, none⟩ (.int .u32 0)) :=
      hA.step hO kk ((m1.off (Off.drew [] _) (by simp)).s3 0) (hA.pk.off kk hA.roots) (hA.rc.off kk hA.roots) (r1.off k2 (by simpa using hA.ne.symm)) hA.tlt
    clear k1 r1 m1 o1 k2 kk hA hO HA
    go_wp2_with fail
    refine hT.mono ?_
    rintro e w2 ⟨rfl, hw2⟩
    rw [← hw2] at hend
    clear hw2 hT
    go_wp2_with fail
    go_ret
    exact ⟨by simp, hend⟩
  · have hmi : (a : Int) % 2 = 1 := by omega
    go_enter Try.func11, Try.ntmps11
    go_upto_region 26 with fail
    generalize w.alloc (opO 7 wh a b' i j s n) = wa at *
    have hA := HA.out.1
    have k1 := Off.setCell v 4 wa (.bool true)
    have r1 := hA.rm.s4 true
    have m1 := hA.met.off k1 (by simpa using hA.ne)
    have o1 := HA.out.2.1.off k1 (by simp; omega)
    have hO := HA.out.2.2
    obtain ⟨_, _, d2, _⟩ := o1.cells
    have hT := turn_on t b p r f o _ m1
    have k2 := (Off.drew [b] _).trans (Off.setCell b 3 (wa.setCell ⟨v, 4, none⟩ (.bool true)).drew (.int .u32 1))
    have kk := (off_v (b := b) k1).trans (off_b (v := v) k2)
    have hend : Stepped M w b v ((wa.setCell ⟨v, 4, none⟩ (.bool true)).drew.setCell ⟨b, 3, none⟩ (.int .u32 1)) :=
      hA.step hO kk ((m1.off (Off.drew [] _) (by simp)).s3 1) (hA.pk.off kk hA.roots) (hA.rc.off kk hA.roots) (r1.off k2 (by simpa using hA.ne.symm)) hA.tlt
    clear k1 r1 m1 o1 k2 kk hA hO HA
    go_wp2_with fail
    refine hT.mono ?_
    rintro e w2 ⟨rfl, hw2⟩
    rw [← hw2] at hend
    clear hw2 hT
    go_wp2_with fail
    go_ret
    exact ⟨by simp, hend⟩

end Go.Proofs.Ytejjhenkhleibaa
