/- Layer 5: one call, on both meters: Swap, Move, Set, Clear, Turn. -/
import Derived.Test.YtejjhenkhleibaaMstep
namespace Go.Proofs.Ytejjhenkhleibaa
open Go.RowKit

theorem Sy.roots {M : Nat} {w : World} {b v t : Nat} {p r : Option Addr} {q : Option Int} {f o : Int} {c : Option (Int × Int × Int × Int)} (h : Sy M w b v t p r q f o c) : ∀ x, x ∈ [b, v] → x < M := by
  intro x hx
  rcases List.mem_cons.1 hx with rfl | hx
  · exact h.bM
  · rw [List.mem_singleton.1 hx]; exact h.vM
theorem Sy.step {M : Nat} {w wa w2 : World} {b v t t' : Nat} {p r p' r' : Option Addr} {q q' : Option Int} {f o f' o' : Int} {c c' : Option (Int × Int × Int × Int)} (h : Sy M wa b v t p r q f o c) (hO : Off [] w wa) (kk : Off [b, v] wa w2)
    (m : Met w2 b t' p' f' o' r') (pk : Pk M w2 p' q') (rc : Rc M w2 r' c') (rm : RM w2 v t' q' f' (o' != 0) c') (tl : t' < 18446744073709551616) : Stepped M w b v w2 :=
  ⟨(off_n hO).trans kk, t', p', r', q', f', o', c', m, pk, rc, rm, tl, h.bM, h.vM, h.ne, Nat.le_trans h.le kk.size⟩
set_option maxRecDepth 100000 in
set_option maxHeartbeats 2000000 in
theorem step_swap (M b v : Nat) (wh b' i j s n : Int) (a : Nat) (w : World) (h : SyE M w b v) (ha : a < 18446744073709551616) :
    Calls Try.prog 11 #[.pointer (some ⟨b, 0, none⟩), .pointer (some ⟨v, 0, none⟩), .agg (opV 2 wh a b' i j s n)] w fun e w' => e = .returned (.bool true) ∧ Stepped M w b v w' := by
  obtain ⟨t, p, r, q, f, o, c, h⟩ := h
  have hO := Off.alloc [] w (opO 2 wh a b' i j s n)
  have hA := h.off hO (by simp) (by simp) (by simp)
  have oA : OpAt (w.alloc (opO 2 wh a b' i j s n)) w.heap.size 2 wh a b' i j s n := ⟨heap_alloc_new w _⟩
  have hbM := h.bM
  have hle := h.le
  clear h
  obtain ⟨_, _, c2, _⟩ := oA.cells
  go_enter Try.func11, Try.ntmps11
  go_wp2_with fail
  generalize w.alloc (opO 2 wh a b' i j s n) = wa at *
  refine (swap_any t a b p r f o wa hA.met).mono ?_
  rintro e w1 ⟨rfl, hw1⟩
  have k1 := Off.setCell b 0 wa (.int .u64 a)
  have m1 := hA.met.s0 a
  rw [← hw1] at k1 m1
  have o1 := oA.off k1 (by simp; omega)
  have r1 := hA.rm.off k1 (by simpa using hA.ne.symm)
  obtain ⟨_, _, c2', _⟩ := o1.cells
  have k2 := Off.setCell v 0 w1 (.int .u64 a)
  have kk := (off_b (v := v) k1).trans (off_v (b := b) k2)
  have hend : Stepped M w b v (w1.setCell ⟨v, 0, none⟩ (.int .u64 a)) := hA.step hO kk (m1.off k2 (by simpa using hA.ne)) (hA.pk.off kk hA.roots) (hA.rc.off kk hA.roots) (r1.s0 a) ha
  have y0 := r1.c0
  have z0 := r1.fz 0
  clear hw1 c2 k2 kk k1 m1 r1 oA hA o1 hO
  go_wp2_with fail
  go_ret
  exact ⟨by simp, hend⟩
set_option maxRecDepth 100000 in
set_option maxHeartbeats 2000000 in
theorem step_move (M b v : Nat) (wh i j s n : Int) (a b' : Nat) (w : World) (h : SyE M w b v) (hb' : b' < 18446744073709551616) :
    Calls Try.prog 11 #[.pointer (some ⟨b, 0, none⟩), .pointer (some ⟨v, 0, none⟩), .agg (opV 3 wh a b' i j s n)] w fun e w' => e = .returned (.bool true) ∧ Stepped M w b v w' := by
  obtain ⟨t, p, r, q, f, o, c, h⟩ := h
  have hO := Off.alloc [] w (opO 3 wh a b' i j s n)
  have hA := h.off hO (by simp) (by simp) (by simp)
  have oA : OpAt (w.alloc (opO 3 wh a b' i j s n)) w.heap.size 3 wh a b' i j s n := ⟨heap_alloc_new w _⟩
  have hvM := h.vM
  have hle := h.le
  clear h
  obtain ⟨_, _, c2, c3, _⟩ := oA.cells
  have y0 := hA.rm.c0
  have z0 := hA.rm.fz 0
  have HA : Hid (_) := And.intro hA (And.intro oA hO)
  clear hA oA hO
  go_enter Try.func11, Try.ntmps11
  go_wp2_with fail
  generalize w.alloc (opO 3 wh a b' i j s n) = wa at *
  by_cases hta : t = a
  · subst hta
    go_quiet (fail)
    have hO := HA.out.2.2.trans (Off.drewN [] wa nq)
    have hA := HA.out.1.off (Off.drewN [] wa nq) (by simp) (by simp) (by simp)
    have oA := HA.out.2.1.off (Off.drewN [] wa nq) (by simp)
    clear HA c2 c3 y0 z0
    generalize wa.drewN nq = wb at *
    obtain ⟨_, _, c2, c3, _⟩ := oA.cells
    have y0 := hA.rm.c0
    have z0 := hA.rm.fz 0
    have k1 := Off.setCell v 0 wb (.int .u64 b')
    have r1 := hA.rm.s0 b'
    have m1 := hA.met.off k1 (by simpa using hA.ne)
    have o1 := oA.off k1 (by simp; omega)
    obtain ⟨_, _, d2, d3, _⟩ := o1.cells
    have hM := move_hit t b' b p r f o _ m1
    have k2 := Off.setCell b 0 (wb.setCell ⟨v, 0, none⟩ (.int .u64 b')) (.int .u64 b')
    have kk := (off_v (b := b) k1).trans (off_b (v := v) k2)
    have hend : Stepped M w b v ((wb.setCell ⟨v, 0, none⟩ (.int .u64 b')).setCell ⟨b, 0, none⟩ (.int .u64 b')) := hA.step hO kk (m1.s0 b') (hA.pk.off kk hA.roots) (hA.rc.off kk hA.roots) (r1.off k2 (by simpa using hA.ne.symm)) hb'
    clear k1 r1 m1 o1 k2 kk hA hO oA
    go_wp2_with fail
    refine hM.mono ?_
    rintro e w2 ⟨rfl, hw2⟩
    rw [← hw2] at hend
    clear hw2 hM
    go_wp2_with fail
    go_ret
    exact ⟨by simp, hend⟩
  · go_quiet (fail)
    have hO := HA.out.2.2.trans (Off.drewN [] wa nq)
    have hA := HA.out.1.off (Off.drewN [] wa nq) (by simp) (by simp) (by simp)
    have oA := HA.out.2.1.off (Off.drewN [] wa nq) (by simp)
    clear HA c2 c3 y0 z0
    generalize wa.drewN nq = wb at *
    obtain ⟨_, _, c2, c3, _⟩ := oA.cells
    have hM := move_miss t a b' b p r f o wb hA.met (by omega)
    have hend : Stepped M w b v wb := hA.step hO (Off.refl _ _) hA.met hA.pk hA.rc hA.rm hA.tlt
    clear hA hO oA
    go_wp2_with fail
    refine hM.mono ?_
    rintro e w2 ⟨rfl, hw2⟩
    rw [← hw2] at hend
    clear hw2 hM
    go_wp2_with fail
    go_ret
    exact ⟨by simp, hend⟩

end Go.Proofs.Ytejjhenkhleibaa
