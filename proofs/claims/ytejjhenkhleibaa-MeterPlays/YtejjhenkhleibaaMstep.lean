/- Layer 5: one call, on both meters: Add, Swap, Move; no call. -/
import Derived.Test.YtejjhenkhleibaaMshow
namespace Go.Proofs.Ytejjhenkhleibaa
open Go.RowKit

abbrev opV (k wh a b i j s n : Int) : Array Value := #[.int .i64 k, .int .i64 wh, .int .u64 a, .int .u64 b, .int .i64 i, .int .i64 j, .int .u32 s, .int .u32 n]
abbrev opO (k wh a b i j s n : Int) : Obj := .cells #[.int .i64 k, .int .i64 wh, .int .u64 a, .int .u64 b, .int .i64 i, .int .i64 j, .int .u32 s, .int .u32 n] 36
/-- What a step ends in. -/
def Stepped (M : Nat) (w : World) (b v : Nat) (w' : World) : Prop := Off [b, v] w w' ∧ SyE M w' b v
theorem off_b {b v : Nat} {w w' : World} (h : Off [b] w w') : Off [b, v] w w' := h.more (by simp)
theorem off_v {b v : Nat} {w w' : World} (h : Off [v] w w') : Off [b, v] w w' := h.more (by simp)
theorem off_n {b v : Nat} {w w' : World} (h : Off [] w w') : Off [b, v] w w' := h.more (by simp)
set_option maxRecDepth 100000 in
set_option maxHeartbeats 2000000 in
theorem step_none (M b v : Nat) (k wh a b' i j s n : Int) (w : World) (h : SyE M w b v) (h1 : ¬ k = 1) (h2 : ¬ k = 2) (h3 : ¬ k = 3) (h4 : ¬ k = 4) (h5 : ¬ k = 5) (h6 : ¬ k = 6) (h7 : ¬ k = 7) (h8 : ¬ k = 8) :
    Calls Try.prog 11 #[.pointer (some ⟨b, 0, none⟩), .pointer (some ⟨v, 0, none⟩), .agg (opV k wh a b' i j s n)] w fun e w' => e = .returned (.bool true) ∧ Stepped M w b v w' := by
  have hend : Stepped M w b v (w.alloc (opO k wh a b' i j s n)) := ⟨Off.alloc _ _ _, h.off (Off.alloc [] w _) (by simp) (by simp) (by simp)⟩
  clear h
  go_enter Try.func11, Try.ntmps11
  go_wp2_with fail
  go_ret
  exact ⟨rfl, hend⟩
set_option maxRecDepth 100000 in
set_option maxHeartbeats 2000000 in
theorem step_add (M b v : Nat) (wh b' i j s n : Int) (a : Nat) (w : World) (h : SyE M w b v) (ha : a < 18446744073709551616) :
    Calls Try.prog 11 #[.pointer (some ⟨b, 0, none⟩), .pointer (some ⟨v, 0, none⟩), .agg (opV 1 wh a b' i j s n)] w fun e w' => e = .returned (.bool true) ∧ Stepped M w b v w' := by
  obtain ⟨t, p, r, q, f, o, c, h⟩ := h
  have hO := Off.alloc [] w (opO 1 wh a b' i j s n)
  have hA := h.off hO (by simp) (by simp) (by simp)
  have oA : OpAt (w.alloc (opO 1 wh a b' i j s n)) w.heap.size 1 wh a b' i j s n := ⟨heap_alloc_new w _⟩
  have hbM := h.bM
  have hle := h.le
  clear h
  obtain ⟨_, _, c2, _⟩ := oA.cells
  go_enter Try.func11, Try.ntmps11
  go_wp2_with fail
  generalize w.alloc (opO 1 wh a b' i j s n) = wa at *
  refine (add_any t a b p r f o wa hA.tlt ha hA.met).mono ?_
  rintro e w1 ⟨rfl, hw1⟩
  have k1 := Off.setCell b 0 wa (.int .u64 (sat t a : Nat))
  have m1 := hA.met.s0 (sat t a : Nat)
  rw [← hw1] at k1 m1
  have o1 := oA.off k1 (by simp; omega)
  have r1 := hA.rm.off k1 (by simpa using hA.ne.symm)
  obtain ⟨_, _, c2', _⟩ := o1.cells
  clear hw1 c2
  have HA : Hid (_) := hA
  have HO : Hid (_) := hO
  have tlt := hA.tlt
  clear oA hA o1 hO
  go_wp2_with fail
  refine (radd_any t a v q f _ c w1 tlt ha r1).mono ?_
  rintro e w2 ⟨rfl, hw2⟩
  have k2 := Off.setCell v 0 w1 (.int .u64 (sat t a : Nat))
  have r2 := r1.s0 (sat t a : Nat)
  rw [← hw2] at k2 r2
  have hA := HA.out
  have hend : Stepped M w b v w2 := by
    refine ⟨(off_n HO.out).trans ((off_b k1).trans (off_v k2)), sat t a, p, r, q, f, o, c, ?_⟩
    have kk := (off_b (v := v) k1).trans (off_v (b := b) k2)
    have hl : ∀ x, x ∈ [b, v] → x < M := by
      intro x hx
      rcases List.mem_cons.1 hx with rfl | hx
      · exact hA.bM
      · rw [List.mem_singleton.1 hx]; exact hA.vM
    exact ⟨m1.off k2 (by simpa using hA.ne), hA.pk.off kk hl, hA.rc.off kk hl, r2, sat_lt t a tlt, hA.bM, hA.vM, hA.ne, Nat.le_trans hA.le kk.size⟩
  clear hw2 k2 r2 k1 m1 r1 HA HO hA c2'
  go_wp2_with fail
  go_ret
  exact ⟨by simp, hend⟩

end Go.Proofs.Ytejjhenkhleibaa
