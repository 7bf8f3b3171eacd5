/- Layer 5: one call, on both meters: Raise (in either order). -/
import Derived.Test.YtejjhenkhleibaaMstep3
namespace Go.Proofs.Ytejjhenkhleibaa
open Go.RowKit

/-- Inside the step: which of the two has been raised already. -/
structure Ph (M : Nat) (wa : World) (b v t : Nat) (r : Option Addr) (q q' : Option Int) (f o : Int) (c : Option (Int × Int × Int × Int)) (g : Nat) (a : Int) (x y : Bool) (wx : World) : Prop where
  off : Off [b, v] wa wx
  met : ∃ p', Met wx b t p' f o r ∧ Pk M wx p' (if x then q' else q)
  rc : Rc M wx r c
  rm : RM wx v t (if y then q' else q) f (o != 0) c
  op : wx.cell? ⟨g, 2, none⟩ = some (.int .u64 a)
  bM : b < M
  vM : v < M
  ne : b ≠ v
  le : M ≤ g
theorem Ph.drewN {M : Nat} {wa : World} {b v t : Nat} {r : Option Addr} {q q' : Option Int} {f o : Int} {c : Option (Int × Int × Int × Int)} {g : Nat} {a : Int} {x y : Bool} {wx : World} (h : Ph M wa b v t r q q' f o c g a x y wx) (n : Nat) : Ph M wa b v t r q q' f o c g a x y (wx.drewN n) := by
  obtain ⟨p', m, pk⟩ := h.met
  exact ⟨h.off.trans (Off.drewN _ _ _), ⟨p', m.off (Off.drewN [] _ _) (by simp), pk.off (Off.drewN [] _ _) (by simp)⟩, h.rc.off (Off.drewN [] _ _) (by simp), h.rm.off (Off.drewN [] _ _) (by simp), h.op, h.bM, h.vM, h.ne, h.le⟩
theorem Ph.drew {M : Nat} {wa : World} {b v t : Nat} {r : Option Addr} {q q' : Option Int} {f o : Int} {c : Option (Int × Int × Int × Int)} {g : Nat} {a : Int} {x y : Bool} {wx : World} (h : Ph M wa b v t r q q' f o c g a x y wx) : Ph M wa b v t r q q' f o c g a x y wx.drew := by
  obtain ⟨p', m, pk⟩ := h.met
  exact ⟨h.off.trans (Off.drew _ _), ⟨p', m.off (Off.drew [] _) (by simp), pk.off (Off.drew [] _) (by simp)⟩, h.rc.off (Off.drew [] _) (by simp), h.rm.off (Off.drew [] _) (by simp), h.op, h.bM, h.vM, h.ne, h.le⟩
theorem ph_meter {M : Nat} {wa : World} {b v t : Nat} {r : Option Addr} {q q' : Option Int} {f o X : Int} {c : Option (Int × Int × Int × Int)} {g : Nat} {a : Int} {R : Bool} (hR : q.all (fun z => decide (z < X)) = R) (hq : (if R then some X else q) = q') (hM : M ≤ wa.heap.size)
    (y : Bool) (wx : World) (h : Ph M wa b v t r q q' f o c g a false y wx) :
    Calls Try.prog 14 #[.pointer (some ⟨b, 0, none⟩), .int .i64 X] wx fun e w' => e = .returned (.bool R) ∧ Ph M wa b v t r q q' f o c g a true y w' := by
  obtain ⟨p, m, pk⟩ := h.met
  refine (raise_any M t b p r q f o X wx m pk (Nat.le_trans hM h.off.size)).mono ?_
  rintro e w' ⟨rfl, k, p', m', pk'⟩
  rw [hR] at pk' ⊢
  rw [hq] at pk'
  refine ⟨rfl, h.off.trans (off_b k), ⟨p', m', pk'⟩, h.rc.off k (by simpa using h.bM), h.rm.off k (by simpa using h.ne.symm), ?_, h.bM, h.vM, h.ne, h.le⟩
  have hb := h.bM
  have hle := h.le
  rw [World.cell?_of_block (w := wx) (k.block g (World.block_lt_of_cell? wx _ h.op) (by simp; omega))]
  exact h.op
theorem ph_ref {M : Nat} {wa : World} {b v t : Nat} {r : Option Addr} {q q' : Option Int} {f o X : Int} {c : Option (Int × Int × Int × Int)} {g : Nat} {a : Int} {R : Bool} (hR : q.all (fun z => decide (z < X)) = R) (hq : (if R then some X else q) = q')
    (x : Bool) (wx : World) (h : Ph M wa b v t r q q' f o c g a x false wx) :
    Calls Try.prog 26 #[.pointer (some ⟨v, 0, none⟩), .int .i64 X] wx fun e w' => e = .returned (.bool R) ∧ Ph M wa b v t r q q' f o c g a x true w' := by
  cases R with
  | true =>
    refine (rraise_up t v q f X _ c wx h.rm hR).mono ?_
    rintro e w' ⟨rfl, rfl⟩
    obtain ⟨p, m, pk⟩ := h.met
    have k : Off [v] wx ((wx.setCell ⟨v, 2, none⟩ (.bool true)).setCell ⟨v, 1, none⟩ (.int .i64 X)) := (Off.setCell v 2 _ _).trans (Off.setCell v 1 _ _)
    have hv := h.vM
    have hle := h.le
    refine ⟨rfl, h.off.trans (off_v k), ⟨p, m.off k (by simpa using h.ne), pk.off k (by simpa using hv)⟩, h.rc.off k (by simpa using hv), ?_, ?_, h.bM, h.vM, h.ne, h.le⟩
    · have := h.rm.s12 X
      rw [if_pos rfl] at hq
      rw [hq] at this
      exact this
    · rw [World.cell?_of_block (w := wx) (k.block g (World.block_lt_of_cell? wx _ h.op) (by simp; omega))]
      exact h.op
  | false =>
    refine (rraise_no t v q f X _ c wx h.rm hR).mono ?_
    rintro e w' ⟨rfl, rfl⟩
    refine ⟨rfl, h.off, h.met, h.rc, ?_, h.op, h.bM, h.vM, h.ne, h.le⟩
    have := h.rm
    rw [if_neg (by decide)] at hq this
    rw [hq] at this
    exact this
theorem ph_end {M : Nat} {w wa : World} {b v t : Nat} {r : Option Addr} {q q' : Option Int} {f o : Int} {c : Option (Int × Int × Int × Int)} {g : Nat} {a : Int} {wx : World} (hO : Off [] w wa) (hwa : M ≤ wa.heap.size) (tl : t < 18446744073709551616) (h : Ph M wa b v t r q q' f o c g a true true wx) : Stepped M w b v wx := by
  obtain ⟨p, m, pk⟩ := h.met
  exact ⟨(off_n hO).trans h.off, t, p, r, q', f, o, c, m, pk, h.rc, h.rm, tl, h.bM, h.vM, h.ne, Nat.le_trans hwa h.off.size⟩
set_option maxRecDepth 100000 in
set_option maxHeartbeats 2000000 in
theorem step_raise (M b v : Nat) (wh b' i j s n : Int) (a : Nat) (w : World) (h : SyE M w b v) :
    Calls Try.prog 11 #[.pointer (some ⟨b, 0, none⟩), .pointer (some ⟨v, 0, none⟩), .agg (opV 4 wh a b' i j s n)] w fun e w' => e = .returned (.bool true) ∧ Stepped M w b v w' := by
  obtain ⟨t, p, r, q, f, o, c, h⟩ := h
  have hO := Off.alloc [] w (opO 4 wh a b' i j s n)
  have hA := h.off hO (by simp) (by simp) (by simp)
  have oA : OpAt (w.alloc (opO 4 wh a b' i j s n)) w.heap.size 4 wh a b' i j s n := ⟨heap_alloc_new w _⟩
  have hle := h.le
  clear h
  obtain ⟨_, _, c2, _⟩ := oA.cells
  have hcv : ∀ w, (convert 27 2 (.int .u64 (a : Int))).run Try.prog w = .ok (.int .i64 (IntKind.i64.wrap a)) w := fun w => by kernel_rfl
  generalize IntKind.i64.wrap (a : Int) = X at *
  obtain ⟨R, hR⟩ : ∃ R, q.all (fun z => decide (z < X)) = R := ⟨_, rfl⟩
  obtain ⟨q', hq⟩ : ∃ q', (if R then some X else q) = q' := ⟨_, rfl⟩
  have P0 : Ph M (w.alloc (opO 4 wh a b' i j s n)) b v t r q q' f o c w.heap.size a false false (w.alloc (opO 4 wh a b' i j s n)) := ⟨Off.refl _ _, ⟨p, hA.met, hA.pk⟩, hA.rc, hA.rm, c2, hA.bM, hA.vM, hA.ne, hle⟩
  have cA : ∀ (y : Bool) (wx : World), Ph M (w.alloc (opO 4 wh a b' i j s n)) b v t r q q' f o c w.heap.size a false y wx → Calls Try.prog 14 #[.pointer (some ⟨b, 0, none⟩), .int .i64 X] wx fun e w' => e = .returned (.bool R) ∧ Ph M (w.alloc (opO 4 wh a b' i j s n)) b v t r q q' f o c w.heap.size a true y w' := fun y wx h => ph_meter hR hq hA.le y wx h
  have cB : ∀ (x : Bool) (wx : World), Ph M (w.alloc (opO 4 wh a b' i j s n)) b v t r q q' f o c w.heap.size a x false wx → Calls Try.prog 26 #[.pointer (some ⟨v, 0, none⟩), .int .i64 X] wx fun e w' => e = .returned (.bool R) ∧ Ph M (w.alloc (opO 4 wh a b' i j s n)) b v t r q q' f o c w.heap.size a x true w' := fun x wx h => ph_ref hR hq x wx h
  have tlt := hA.tlt
  have hwa := hA.le
  clear hA oA hR hq
  go_enter Try.func11, Try.ntmps11
  go_wp2_with fail
  generalize w.alloc (opO 4 wh a b' i j s n) = wa at *
  generalize w.heap.size = g at *
  have P1 := P0.drew
  clear P0
  go_region_with (first | (go_at_call 14; (first | refine (cA true _ h1).mono ?_ | refine (cA false _ P1).mono ?_); rintro e w1 ⟨rfl, h1⟩; have d2 := h1.op) | (go_at_call 26; (first | refine (cB true _ h1).mono ?_ | refine (cB false _ P1).mono ?_); rintro e w1 ⟨rfl, h1⟩; have d2 := h1.op))
  all_goals clear P1 c2 cA cB
  all_goals (go_wp2_with fail; go_ret; exact ⟨by first | rfl | kernel_rfl | simp [Act.put], ph_end hO hwa tlt h1⟩)

end Go.Proofs.Ytejjhenkhleibaa
