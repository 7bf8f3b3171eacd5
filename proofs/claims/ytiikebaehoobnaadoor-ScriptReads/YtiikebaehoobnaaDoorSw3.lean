/- Layer 20: nets under way; slices.Clone of sets; enterMost. -/
import Derived.Test.YtiikebaehoobnaaDoorSw2
import Derived.Test.YtiikebaehoobnaaDoorNcs
namespace Go.Proofs.YtiikebaehoobnaaDoor
set_option maxRecDepth 100000
open Go.RowKit Go.Maps
set_option maxRecDepth 100000
set_option linter.unusedVariables false
/-- A net. -/
structure Nt where
  l0 : Nat
  P0 : Nat → Ps
  l1 : Nat
  P1 : Nat → Ps
  ms : Nat
/-- How many numbers stand behind a net's word. -/
def hdA (l : List UInt8) : Nat := if l = [110, 101, 116] then 1 else 5
def allV (R : Nat → List UInt8) : Nat → Bool
  | 0 => true
  | i + 1 => allV R i && vlO (R i)
/-- Why a net's line is wrong; 0. -/
def hdE (n : Nat) (L : Nat → List UInt8) : Int := if n < hdA (L 0) then 202 else if hdA (L 0) < n then 201 else if allV (fun i => L (i + 1)) n = true then 0 else 203
/-- The set of five words. -/
def stP (R : Nat → List UInt8) : Ps := ⟨vlV (R 0), ((vlV (R 1) : Nat) : Int), ((vlV (R 2) : Nat) : Int), ((vlV (R 3) : Nat) : Int), vlV (R 4)⟩
/-- A net with what its line says brought in. -/
def Nt.put (N : Nt) (n : Nat) (L : Nat → List UInt8) : Nt := if hdE n L = 0 then (if L 0 = [110, 101, 116] then { N with ms := vlV (L 1) } else if L 0 = [104, 111, 115, 116] then { N with l0 := N.l0 + 1, P0 := fun i => if i = N.l0 then stP (fun i => L (i + 1)) else N.P0 i } else { N with l1 := N.l1 + 1, P1 := fun i => if i = N.l1 then stP (fun i => L (i + 1)) else N.P1 i }) else N
theorem flP_app (l : Nat) (P : Nat → Pg) (p : Pg) : flP (l + 1) (fun i => if i = l then p else P i) = flP l P ++ pgL p := by
  rw [flP_succ, if_pos rfl]
  congr 1
  unfold flP
  simp only [List.flatMap]
  congr 1
  refine List.map_congr_left (fun i hi => ?_)
  rw [if_neg (by have := List.mem_range.1 hi; omega)]
/-- A net in a block, its lists our own, from B on. -/
structure NtW (B : Nat) (w : World) (b : Nat) (T : TypeId) (cs : Array Value) (N : Nt) : Prop where
  bk : Bk w b cs T
  v : ∃ a0 c0 a1 c1, cs[0]? = some (.slice a0 N.l0 c0) ∧ cs[1]? = some (.slice a1 N.l1 c1) ∧ cs[2]? = some (.int .u32 (N.ms : Nat)) ∧ w.ownsRow B 63 5 (.slice a0 N.l0 c0) N.l0 (flP N.l0 N.P0) ∧ w.ownsRow B 63 5 (.slice a1 N.l1 c1) N.l1 (flP N.l1 N.P1) ∧ ∀ k, (Value.slice a0 N.l0 c0).ownBlock = some k → (Value.slice a1 N.l1 c1).ownBlock ≠ some k
theorem NtW.below {B : Nat} {w w' : World} {b : Nat} {T : TypeId} {cs : Array Value} {N : Nt} (h : NtW B w b T cs N) (q : Below w.heap.size w w') : NtW B w' b T cs N := by
  obtain ⟨a0, c0, a1, c1, e0, e1, e2, o0, o1, d⟩ := h.v
  exact ⟨h.bk.off (Off.of_below (l := []) q) (by simp), a0, c0, a1, c1, e0, e1, e2, ownB o0 q, ownB o1 q, d⟩
/-- What is our own keeps off a block of another type. -/
theorem own_ty {B : Nat} {w : World} {b n : Nat} {T : TypeId} {cs : Array Value} {v : Value} {xs : List Value} (hT : T ≠ 63) (h : Bk w b cs T) (o : w.ownsRow B 63 5 v n xs) : v.ownBlock ≠ some b := by
  rcases o.2 with ⟨e, _⟩ | ⟨g, cap, cur, e, _, hg, _⟩
  · rw [e]
    simp [Value.ownBlock]
  · rw [e]
    simp only [Value.ownBlock, ne_eq, Option.some.injEq]
    rintro rfl
    have h2 : w.heap[g]? = some (.cells cs T (0, 0)) := h
    rw [hg] at h2
    cases h2
    exact hT rfl
theorem own_off {B : Nat} {w w' : World} {n : Nat} {v : Value} {xs : List Value} {l : List Nat} (o : w.ownsRow B 63 5 v n xs) (q : Off l w w') (h : ∀ k, v.ownBlock = some k → k ∉ l) : w'.ownsRow B 63 5 v n xs :=
  own_keepP o (fun g hg => q.block g (o.lt g hg).2 (h g hg))
set_option maxHeartbeats 1000000 in
theorem pclone (a : Option Addr) (l c : Nat) (P : Nat → Pg) (w : World) (h : PRow w a l P) (g : l * 40 ≤ 140737488351232) : Calls Tryd.prog 40 #[.slice a l c] w fun r w' => ∃ a' c', r = .returned (.slice a' l c') ∧ Hid (w'.ownsRow w.heap.size 63 5 (.slice a' l c') l (flP l P) ∧ Below w.heap.size w w') := by
  cases a with
  | none =>
    obtain rfl : l = 0 := by
      by_cases q : l = 0
      · exact q
      · obtain ⟨_, _, e, _⟩ := h 0 (by omega)
        cases e
    have hnn : ∀ w, (binOp .eql 22 (.slice none 0 c) (.slice none 0 0)).run Tryd.prog w = .ok (.bool true) w := fun _ => rfl
    clear h g
    go_enter Tryd.func40, Tryd.ntmps40
    go_wp2_with fail
    go_ret
    exact ⟨_, _, rfl, ⟨by simp [flP], .inl ⟨rfl, rfl⟩⟩, Below.refl _ _⟩
  | some x =>
    have hnn : ∀ w, (binOp .eql 22 (.slice (some x) l c) (.slice none 0 0)).run Tryd.prog w = .ok (.bool false) w := fun _ => rfl
    obtain ⟨i0, hI, hz0, hz1, hz2⟩ := info_parts info_par
    have bA := belA (Below.refl _ w) (.cells #[] 63)
    have oA := ownN w w.heap.size (Nat.le_refl _)
    have sA : ∀ j u, (flP l P)[j]? = some u → (w.alloc (.cells #[] 63)).cell? (x.add j) = some u := (h.below bA).src
    have HB : Hid (_) := bA
    have zA : w.heap.size ≤ (w.alloc (.cells #[] 63)).heap.size := bA.size
    have hl := g
    clear h bA g
    go_enter Tryd.func40, Tryd.ntmps40
    go_wp2_with (at_builtin; refine wpList_append_own_at _ rfl _ _ 22 rfl w.heap.size 63 i0 (.agg #[.int .u32 0, .int .i64 0, .int .i64 0, .int .i64 0, .int .u32 0]) 5 40 Tryd.underlying22 hI hz0 hz1 hz2 rfl (by decide) (.slice (some ⟨w.heap.size, 0, none⟩) 0 0) 0 [] rfl oA x l c (flP l P) rfl (flP_len _ _) sA (flP_one _ _) (by unfold maxLen; omega) (by omega) zA ?_)
    intro v' w' o' g' _ _
    obtain ⟨a', c', rfl⟩ : ∃ a' c', v' = .slice a' l c' := by
      rcases o'.2 with ⟨e, e0⟩ | ⟨g, cp, cur, e, _⟩
      · exact ⟨none, 0, by rw [e, e0]⟩
      · exact ⟨_, _, e⟩
    have HF : Hid (_) := And.intro o' (HB.out.grown g' HB.out.size (fun k hk => (oA.lt k hk).1))
    clear o' g' oA sA zA hnn
    go_wp2_with fail
    go_ret
    exact ⟨_, _, rfl, HF.out.1, HF.out.2⟩
theorem step_app1P {ops : Array Oper} {o : Oper} {a : Act} {w : World} {K : Act → World → Prop} {Q : Exit → Act → World → Prop} {E : Prop}
    (hg : o.guard = none) (s x : Operand) (hop : o.op = Op.call { callee := Callee.builtin Builtin.append, args := #[s, x], argTypes := #[22, 22] }) (hty : o.type = 22)
    (B : Nat) (v : Value) (l : Nat) (P : Nat → Pg) (p : Pg) (hs : a.eval s = v) (h1 : w.ownsRow B 63 5 v l (flP l P)) (q : Nat) (hx : a.eval x = .slice (some ⟨q, 0, none⟩) 1 1) (hq : w.heap[q]? = some (.cells (pgL p).toArray 63 (0, 0))) (hl : l ≤ 1000000) (hB : B ≤ w.heap.size)
    (hK : ∀ a' c' w', Hid (w'.ownsRow B 63 5 (.slice a' (l + 1) c') (l + 1) (flP (l + 1) (fun i => if i = l then p else P i)) ∧ w.grownBy w' v.ownBlock ∧ ((Value.slice a' (l + 1) c').ownBlock = v.ownBlock ∨ (Value.slice a' (l + 1) c').ownBlock = some w.heap.size)) → K (a.put o.dst (.slice a' (l + 1) c')) w') :
    if Region.wanted o (yielded ops a.tmps) = true then Oper.wp Tryd.prog o a w K Q else E := by
  have hw : Region.wanted o (yielded ops a.tmps) = true := by simp [Region.wanted, hg]
  rw [if_pos hw]
  obtain ⟨i0, hI, hz0, hz1, hz2⟩ := info_parts info_par
  obtain ⟨v', w', hr', k1, k2, _, k4⟩ := run_append_own_at (P := Tryd.prog) w B 22 22 63 i0 (.agg #[.int .u32 0, .int .i64 0, .int .i64 0, .int .i64 0, .int .u32 0]) 5 40 Tryd.underlying22 hI hz0 hz1 hz2 rfl (by decide) v l (flP l P) h1 ⟨q, 0, none⟩ 1 1 (pgL p) rfl (pg_cells hq) (pgL_one p) (by unfold maxLen; omega) (by omega) hB
  rw [← flP_app] at k1
  obtain ⟨g', c', rfl, _⟩ := own_slcP k1
  unfold Oper.wp execOp
  simp only [hop, hty, resolve, invoke, builtin, Sem.run_bind, Sem.run_pure, Result.andThen_ok, List.map_toArray, List.map_cons, List.map_nil, hs, hx, hr']
  exact hK _ _ w' ⟨k1, k2, k4⟩
end Go.Proofs.YtiikebaehoobnaaDoor
