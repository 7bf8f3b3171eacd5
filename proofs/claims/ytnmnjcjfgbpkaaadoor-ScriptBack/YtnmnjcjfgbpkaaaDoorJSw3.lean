/- Layer 20: nets under way; slices.Clone of sets; enterMost. -/
import Derived.Test.YtnmnjcjfgbpkaaaDoorJSw2
import Derived.Test.YtnmnjcjfgbpkaaaDoorJNcs
namespace Go.Proofs.YtnmnjcjfgbpkaaaDoor
set_option maxRecDepth 100000
open Go.RowKit Go.Maps
set_option maxRecDepth 100000
set_option linter.unusedVariables false
/-- A net. -/
structure Nt where
  l0 : Nat
  P0 : Nat → Ps
  l1 : Nat
  P1 : Nat → Ps
  ms : Nat
/-- How many numbers stand behind a net's word. -/
def hdA (l : List UInt8) : Nat := if l = [110, 101, 116] then 1 else 5
def allV (R : Nat → List UInt8) : Nat → Bool
  | 0 => true
  | i + 1 => allV R i && vlO (R i)
/-- Why a net's line is wrong; 0. -/
def hdE (n : Nat) (L : Nat → List UInt8) : Int := if n < hdA (L 0) then 202 else if hdA (L 0) < n then 201 else if allV (fun i => L (i + 1)) n = true then 0 else 203
/-- The set of five words. -/
def stP (R : Nat → List UInt8) : Ps := ⟨vlV (R 0), ((vlV (R 1) : Nat) : Int), ((vlV (R 2) : Nat) : Int), ((vlV (R 3) : Nat) : Int), vlV (R 4)⟩
/-- A net with what its line says brought in. -/
def Nt.put (N : Nt) (n : Nat) (L : Nat → List UInt8) : Nt := if hdE n L = 0 then (if L 0 = [110, 101, 116] then { N with ms := vlV (L 1) } else if L 0 = [104, 111, 115, 116] then { N with l0 := N.l0 + 1, P0 := fun i => if i = N.l0 then stP (fun i => L (i + 1)) else N.P0 i } else { N with l1 := N.l1 + 1, P1 := fun i => if i = N.l1 then stP (fun i => L (i + 1)) else N.P1 i }) else N
theorem flP_app (l : Nat) (P : Nat → Pg) (p : Pg) : flP (l + 1) (fun i => if i = l then p else P i) = flP l P ++ pgL p := by
  rw [flP_succ, if_pos rfl]
  congr 1
  unfold flP
  simp only [List.flatMap]
  congr 1
  refine List.map_congr_left (fun i hi => ?_)
  rw [if_neg (by have := List.mem_range.1 hi; omega)]
/-- A net in a block, its lists our own, from B on. -/
structure NtW (B : Nat) (w : World) (b : Nat) (T : TypeId) (cs : Array Value) (N : Nt) : Prop where
  bk : Bk w b cs T
  v : ∃ a0 c0 a1 c1, cs[0]? = some (.slice a0 N.l0 c0) ∧ cs[1]? = some (.slice a1 N.l1 c1) ∧ cs[2]? = some (.int .u32 (N.ms : Nat)) ∧ w.ownsRow B 50 5 (.slice a0 N.l0 c0) N.l0 (flP N.l0 N.P0) ∧ w.ownsRow B 50 5 (.slice a1 N.l1 c1) N.l1 (flP N.l1 N.P1) ∧ ∀ k, (Value.slice a0 N.l0 c0).ownBlock = some k → (Value.slice a1 N.l1 c1).ownBlock ≠ some k
theorem NtW.below {B : Nat} {w w' : World} {b : Nat} {T : TypeId} {cs : Array Value} {N : Nt} (h : NtW B w b T cs N) (q : Below w.heap.size w w') : NtW B w' b T cs N := by
  obtain ⟨a0, c0, a1, c1, e0, e1, e2, o0, o1, d⟩ := h.v
  exact ⟨h.bk.off (Off.of_below (l := []) q) (by simp), a0, c0, a1, c1, e0, e1, e2, ownB o0 q, ownB o1 q, d⟩
/-- What is our own keeps off a block of another type. -/
theorem own_ty {B : Nat} {w : World} {b n : Nat} {T : TypeId} {cs : Array Value} {v : Value} {xs : List Value} (hT : T ≠ 50) (h : Bk w b cs T) (o : w.ownsRow B 50 5 v n xs) : v.ownBlock ≠ some b := by
  rcases o.2 with ⟨e, _⟩ | ⟨g, cap, cur, e, _, hg, _⟩
  · rw [e]
    simp [Value.ownBlock]
  · rw [e]
    simp only [Value.ownBlock, ne_eq, Option.some.injEq]
    rintro rfl
    have h2 : w.heap[g]? = some (.cells cs T (0, 0)) := h
    rw [hg] at h2
    cases h2
    exact hT rfl
theorem own_off {B : Nat} {w w' : World} {n : Nat} {v : Value} {xs : List Value} {l : List Nat} (o : w.ownsRow B 50 5 v n xs) (q : Off l w w') (h : ∀ k, v.ownBlock = some k → k ∉ l) : w'.ownsRow B 50 5 v n xs :=
  own_keepP o (fun g hg => q.block g (o.lt g hg).2 (h g hg))
theorem step_app1P {ops : Array Oper} {o : Oper} {a : Act} {w : World} {K : Act → World → Prop} {Q : Exit → Act → World → Prop} {E : Prop}
    (hg : o.guard = none) (s x : Operand) (hop : o.op = Op.call { callee := Callee.builtin Builtin.append, args := #[s, x], argTypes := #[23, 23] }) (hty : o.type = 23)
    (B : Nat) (v : Value) (l : Nat) (P : Nat → Pg) (p : Pg) (hs : a.eval s = v) (h1 : w.ownsRow B 50 5 v l (flP l P)) (q : Nat) (hx : a.eval x = .slice (some ⟨q, 0, none⟩) 1 1) (hq : w.heap[q]? = some (.cells (pgL p).toArray 50 (0, 0))) (hl : l ≤ 1000000) (hB : B ≤ w.heap.size)
    (hK : ∀ a' c' w', Hid (w'.ownsRow B 50 5 (.slice a' (l + 1) c') (l + 1) (flP (l + 1) (fun i => if i = l then p else P i)) ∧ w.grownBy w' v.ownBlock ∧ ((Value.slice a' (l + 1) c').ownBlock = v.ownBlock ∨ (Value.slice a' (l + 1) c').ownBlock = some w.heap.size)) → K (a.put o.dst (.slice a' (l + 1) c')) w') :
    if Region.wanted o (yielded ops a.tmps) = true then Oper.wp Tryd.prog o a w K Q else E := by
  have hw : Region.wanted o (yielded ops a.tmps) = true := by simp [Region.wanted, hg]
  rw [if_pos hw]
  obtain ⟨i0, hI, hz0, hz1, hz2⟩ := info_parts info_par
  obtain ⟨v', w', hr', k1, k2, _, k4⟩ := run_append_own_at (P := Tryd.prog) w B 23 23 50 i0 (.agg #[.int .u32 0, .int .i64 0, .int .i64 0, .int .i64 0, .int .u32 0]) 5 40 Tryd.underlying23 hI hz0 hz1 hz2 rfl (by decide) v l (flP l P) h1 ⟨q, 0, none⟩ 1 1 (pgL p) rfl (pg_cells hq) (pgL_one p) (by unfold maxLen; omega) (by omega) hB
  rw [← flP_app] at k1
  obtain ⟨g', c', rfl, _⟩ := own_slcP k1
  unfold Oper.wp execOp
  simp only [hop, hty, resolve, invoke, builtin, Sem.run_bind, Sem.run_pure, Result.andThen_ok, List.map_toArray, List.map_cons, List.map_nil, hs, hx, hr']
  exact hK _ _ w' ⟨k1, k2, k4⟩
end Go.Proofs.YtnmnjcjfgbpkaaaDoor
namespace Go.Proofs.YtnmnjcjfgbpkaaaDoor
set_option maxRecDepth 100000
open Go.RowKit Go.Maps
set_option maxRecDepth 100000
set_option linter.unusedVariables false
theorem allV_one (R : Nat → List UInt8) : allV R 1 = vlO (R 0) := by simp [allV]
theorem allV_five (R : Nat → List UInt8) : allV R 5 = (vlO (R 0) && vlO (R 1) && vlO (R 2) && vlO (R 3) && vlO (R 4)) := by simp [allV]
theorem NtW.off {B : Nat} {w w' : World} {b : Nat} {T : TypeId} {cs : Array Value} {N : Nt} {l : List Nat} (h : NtW B w b T cs N) (q : Off l w w') (hb : b ∉ l) (hl : ∀ k, k ∈ l → w.heap.size ≤ k) : NtW B w' b T cs N := by
  obtain ⟨a0, c0, a1, c1, e0, e1, e2, o0, o1, d⟩ := h.v
  refine ⟨h.bk.off q hb, a0, c0, a1, c1, e0, e1, e2, own_off o0 q (fun k hk hm => ?_), own_off o1 q (fun k hk hm => ?_), d⟩
  · have := (o0.lt k hk).2
    have := hl k hm
    omega
  · have := (o1.lt k hk).2
    have := hl k hm
    omega
/-- What is no cells lies as it lay. -/
def NoC (ob : Obj) : Prop := ∀ x y z, ob ≠ .cells x y z
def KO (w w' : World) : Prop := ∀ (k : Nat) (ob : Obj), w.heap[k]? = some ob → NoC ob → w'.heap[k]? = some ob
theorem KO.refl (w : World) : KO w w := fun _ _ h _ => h
theorem KO.trans {w w1 w2 : World} (h : KO w w1) (h2 : KO w1 w2) : KO w w2 := fun k ob q n => h2 k ob (h k ob q n) n
theorem KO.of_below {w w' : World} (q : Below w.heap.size w w') : KO w w' := fun k ob h _ => ((Off.of_below (l := []) q).block k (Array.getElem?_eq_some_iff.1 h).1 (by simp)).trans h
theorem KO.off {w w' : World} {b : Nat} {cs : Array Value} {T : TypeId} (os : Off [b] w w') (hb : Bk w b cs T) : KO w w' := fun k ob h n => by
  refine (os.block k (Array.getElem?_eq_some_iff.1 h).1 ?_).trans h
  simp only [List.mem_singleton]
  rintro rfl
  have h2 : w.heap[k]? = some (.cells cs T (0, 0)) := hb
  rw [h] at h2
  cases h2
  exact n _ _ _ rfl
theorem KO.grown {w w' : World} {B T K n : Nat} {v : Value} {xs : List Value} (g : w.grownBy w' v.ownBlock) (o : w.ownsRow B T K v n xs) : KO w w' := fun k ob h hn => by
  refine (g.block k (Array.getElem?_eq_some_iff.1 h).1 (fun e => ?_)).trans h
  rcases o.2 with ⟨q, _⟩ | ⟨g2, cap, cur, q, _, hg, _⟩
  · rw [q] at e
    simp [Value.ownBlock] at e
  · rw [q] at e
    simp only [Value.ownBlock, Option.some.injEq] at e
    subst e
    rw [h] at hg
    cases hg
    exact hn _ _ _ rfl
/-- What entering leaves. -/
def EnP (B b : Nat) (T : TypeId) (cs : Array Value) (N : Nt) (e : Int) (w : World) (r : Ending) (w' : World) : Prop := r = .returned (.int .i64 e) ∧ Hid (∃ cs', NtW B w' b T cs' N ∧ (∀ i, 3 ≤ i → cs'[i]? = cs[i]?) ∧ Below B w w' ∧ (∀ k ks S, k ≠ b → S ≠ 50 → Bk w k ks S → Bk w' k ks S) ∧ KO w w')
theorem EnP.same {B b : Nat} {T : TypeId} {cs : Array Value} {N : Nt} {e : Int} {w w' : World} (h : NtW B w b T cs N) (hB : B ≤ w.heap.size) (q : Below w.heap.size w w') : EnP B b T cs N e w (.returned (.int .i64 e)) w' := ⟨rfl, cs, h.below q, fun _ _ => rfl, q.mono hB, (fun k ks S _ _ hk => hk.off (Off.of_below (l := []) q) (by simp)), KO.of_below q⟩
set_option maxHeartbeats 4000000 in
theorem pmost (B b : Nat) (T : TypeId) (hT : T ≠ 50) (cs : Array Value) (Z : Nt) (g o N n C c : Nat) (hN1 : N = n + 1) (hC1 : C = c + 1) (hnc : n ≤ c) (hC : C ≤ 9223372036854775807) (L : Nat → List UInt8) (hL : ∀ i, i < N → (L i).length ≤ 281474976710656) (h0 : L 0 = [110, 101, 116]) (w : World) (Lv : Lw w) (hZ : NtW B w b T cs Z) (hB : B ≤ b) (h : ∀ i, i < N → w.cell? ⟨g, o + i, none⟩ = some (.string (tx (L i)))) : Calls Tryd.prog 63 #[.pointer (some ⟨b, 0, none⟩), .slice (some ⟨g, o, none⟩) N C] w (EnP B b T cs (Z.put n L) (hdE n L) w) := by
  have lb : b < w.heap.size := hZ.bk.lt
  have lg : g < w.heap.size := World.block_lt_of_cell? w _ (h 0 (by omega))
  have hA : hdA (L 0) = 1 := by rw [h0]; rfl
  have eE : hdE n L = if n < 1 then 202 else if 1 < n then 201 else if allV (fun i => L (i + 1)) n = true then 0 else 203 := by unfold hdE; rw [hA]
  have hrd : ∀ wx, Calls Tryd.prog 41 #[.slice (some ⟨g, o, none⟩) N C, .int .i64 1, .int .i64 1] wx fun r w' => r = .returned (.tuple #[.agg #[rdV n 1 1 (.slice (some ⟨g, adv o c, none⟩) n c), .bool false], .int .i64 (rdE n 1 1)]) ∧ Below wx.heap.size wx w' := fun wx => by
    have := preaderG g o n c 1 1 hnc (by omega) wx
    rw [← hN1, ← hC1] at this
    exact this
  by_cases h1 : n < 1 ∨ 1 < n
  · have hv : rdV n 1 1 (.slice (some ⟨g, adv o c, none⟩) n c) = .slice none 0 0 := by
      unfold rdV
      by_cases q : n < 1
      · rw [if_pos q]
      · rw [if_neg q, if_pos (by omega)]
    obtain ⟨e1, he1, he2⟩ : ∃ e1 : Int, rdE n 1 1 = e1 ∧ (e1 = 202 ∨ e1 = 201) ∧ hdE n L = e1 := by
      refine ⟨_, rfl, ?_, ?_⟩
      · unfold rdE
        by_cases q : n < 1
        · rw [if_pos q]; exact .inl rfl
        · rw [if_neg q, if_pos (by omega)]; exact .inr rfl
      · rw [eE]
        unfold rdE
        by_cases q : n < 1
        · rw [if_pos q, if_pos q]
        · rw [if_neg q, if_neg q, if_pos (by omega), if_pos (by omega)]
    have hp : Z.put n L = Z := by
      unfold Nt.put
      rw [if_neg (by rw [he2.2]; omega)]
    rw [he2.2, hp]
    rw [he1, hv] at hrd
    have qe : (e1 != 0) = true := by rcases he2.1 with r | r <;> rw [r] <;> rfl
    have post : ∀ w', Below w.heap.size w w' → EnP B b T cs Z e1 w (.returned (.int .i64 e1)) w' := fun w' q => EnP.same hZ (by omega) q
    clear he1 he2 hv h1 hp eE h hZ hL Lv hN1 hC1 hnc hC hA h0 hB hT lb lg
    go_enter Tryd.func63, Tryd.ntmps63
    go_wp2_with fail
    refine (hrd _).mono ?_
    rintro r w2 ⟨rfl, b2⟩
    have H2 : Hid (_) := b2
    clear hrd b2
    go_wp2_with fail
    go_ret
    exact post _ (belA H2.out _)
  obtain rfl : n = 1 := by omega
  have eV : rdV 1 1 1 (.slice (some ⟨g, adv o c, none⟩) 1 c) = .slice (some ⟨g, adv o c, none⟩) 1 c := rfl
  have eR : rdE 1 1 1 = 0 := rfl
  rw [eV, eR, adv_next (by omega)] at hrd
  rw [if_neg (by omega), if_neg (by omega), allV_one] at eE
  have hw1 : w.cell? ⟨g, o + 1, none⟩ = some (.string (tx (L 1))) := h 1 (by omega)
  obtain ⟨O, hO⟩ : ∃ y, vlO (L 1) = y := ⟨_, rfl⟩
  obtain ⟨V, hV⟩ : ∃ y, nmV (L 1) = y := ⟨_, rfl⟩
  have bad : O = false → ∀ w', Below w.heap.size w w' → EnP B b T cs (Z.put 1 L) (hdE 1 L) w (.returned (.int .i64 203)) w' := fun q w' q2 => by
    rw [hO, q] at eE
    have hp : Z.put 1 L = Z := by unfold Nt.put; rw [if_neg (by rw [eE]; simp)]
    rw [hp, eE]
    exact EnP.same hZ (by omega) q2
  have good : O = true → ∀ (w1 w' : World), Below w.heap.size w w1 → w' = w1.setCell ⟨b, 2, none⟩ (.int .u32 ((V : Nat) : Int)) → EnP B b T cs (Z.put 1 L) (hdE 1 L) w (.returned (.int .i64 0)) w' := fun q w1 w' q1 q2 => by
    rw [hO, q] at eE
    have hp : Z.put 1 L = { Z with ms := vlV (L 1) } := by unfold Nt.put; rw [if_pos (by rw [eE]; rfl), if_pos h0]
    rw [hp, eE]
    have eVV : V = vlV (L 1) := by rw [← hV]; exact nm_vl (by rw [hO, q])
    have Z1 := hZ.below q1
    have os := Off.setCell b 2 w1 (.int .u32 ((V : Nat) : Int))
    obtain ⟨a0, c0, a1, c1, e0, e1, e2, o0, o1, d⟩ := Z1.v
    rw [q2]
    have b1 : Below B w w1 := q1.mono (by omega)
    have hs3 : 2 < cs.size := (Array.getElem?_eq_some_iff.1 e2).1
    refine ⟨rfl, cs.setIfInBounds 2 (.int .u32 ((V : Nat) : Int)), ⟨Z1.bk.set 2 _, a0, c0, a1, c1, ?_, ?_, ?_, own_off o0 os (fun k hk hm => ?_), own_off o1 os (fun k hk hm => ?_), d⟩, fun i hi => ?_, os.below b1 (by simpa using hB) (by have := q1.size; omega), (fun k ks S hk hS kk => (kk.off (Off.of_below (l := []) q1) (by simp)).off os (by simpa using hk)), (KO.of_below q1).trans (KO.off os Z1.bk)⟩
    · rw [Array.getElem?_setIfInBounds_ne (by omega)]; exact e0
    · rw [Array.getElem?_setIfInBounds_ne (by omega)]; exact e1
    · rw [Array.getElem?_setIfInBounds_self_of_lt hs3, eVV]
    · have := own_ty hT Z1.bk o0
      rw [hk] at this
      simp at hm
      exact this (by rw [hm])
    · have := own_ty hT Z1.bk o1
      rw [hk] at this
      simp at hm
      exact this (by rw [hm])
    · rw [Array.getElem?_setIfInBounds_ne (by omega)]
  have hcs : ∃ x, cs[2]? = some x := by obtain ⟨a0, c0, a1, c1, e0, e1, e2, _⟩ := hZ.v; exact ⟨_, e2⟩
  obtain ⟨x2, hx2⟩ := hcs
  have cb : w.cell? ⟨b, 2, none⟩ = some x2 := (hZ.bk.cell 2).trans hx2
  have fb := hZ.bk.fz
  have bkB := hZ.bk
  have h1l : (L 1).length ≤ 281474976710656 := hL 1 (by omega)
  have HP : Hid (_) := And.intro bad (And.intro good (And.intro Lv (And.intro hw1 (And.intro h1l (And.intro bkB hx2)))))
  have HG : Hid (b < w.heap.size ∧ g < w.heap.size ∧ 1 ≤ c ∧ c + 1 ≤ 9223372036854775807) := ⟨lb, lg, by omega, by omega⟩
  have HVO : Hid (nmV (L 1) = V ∧ nmO (L 1) = O) := ⟨hV, by rw [nmO_vlO]; exact hO⟩
  clear bad good Lv hw1 h1l bkB hx2 cb fb h hL hZ h1 eE eV eR hA hO hV lb lg hnc hC hN1 hC1 h0 hB hT
  obtain ⟨ZZ, hZZ⟩ : ∃ y, Z.put 1 L = y := ⟨_, rfl⟩
  obtain ⟨EE, hEE⟩ : ∃ y, hdE 1 L = y := ⟨_, rfl⟩
  rw [hZZ, hEE] at HP ⊢
  clear hZZ hEE
  go_enter Tryd.func63, Tryd.ntmps63
  go_wp2_with fail
  refine (hrd _).mono ?_
  rintro r w2 ⟨rfl, b2⟩
  have H2 : Hid (_) := b2
  clear hrd b2
  go_wp2_with fail
  have r3 : RB (w2.alloc (.cells #[.slice (some ⟨g, o + 1, none⟩) 1 c, .bool false] 91)) w2.heap.size (.slice (some ⟨g, o + 1, none⟩) 1 c) false := Bk.new _ _ _
  have b3 := belA (Below.refl _ w2) (.cells #[.slice (some ⟨g, o + 1, none⟩) 1 c, .bool false] 91)
  obtain ⟨w3, hw3⟩ : ∃ x, w2.alloc (.cells #[.slice (some ⟨g, o + 1, none⟩) 1 c, .bool false] 91) = x := ⟨_, rfl⟩
  rw [hw3] at r3 b3 ⊢
  obtain ⟨rb, hb⟩ : ∃ x, w2.heap.size = x := ⟨_, rfl⟩
  rw [hb] at r3 ⊢
  have B3 : Below w.heap.size w w3 := H2.out.trans (b3.mono H2.out.size)
  have lrb : w.heap.size ≤ rb := by rw [← hb]; exact H2.out.size
  have hg := HG.out
  have hm : Calls Tryd.prog 56 #[.pointer (some ⟨rb, 0, none⟩)] w3 fun r w' => r = .returned (.int .u32 ((V : Nat) : Int)) ∧ RB w' rb (.slice (some ⟨g, adv (o + 1) (c - 1), none⟩) 0 (c - 1)) (false || !O) ∧ Off [rb] w3 w' := by
    have := pnumO rb g (o + 1) 0 (c - 1) false (L 1) HP.out.2.2.2.2.1 w3 (fun wx ox => HP.out.2.2.1.below (ox.below B3 (by simp; omega) B3.size)) (HP.out.2.2.1.glob lrb) (by rw [Nat.sub_add_cancel hg.2.2.1]; exact r3) (cellB HP.out.2.2.2.1 B3) (by omega) (by omega)
    rw [HVO.out.1, HVO.out.2] at this
    exact this
  have H3 : Hid (_) := And.intro B3 lrb
  clear r3 b3 hw3 hb B3 lrb hg H2
  refine hm.mono ?_
  rintro r w4 ⟨rfl, r4, o4⟩
  clear hm
  have B4 : Below w.heap.size w w4 := o4.below H3.out.1 (by have := H3.out.2; simp; omega) H3.out.1.size
  rw [Bool.false_or] at r4
  have e4 := r4.c.2.1
  have bk4 := HP.out.2.2.2.2.2.1.off (Off.of_below (l := []) B4) (by simp)
  have cb : w4.cell? ⟨b, 2, none⟩ = some x2 := (bk4.cell 2).trans HP.out.2.2.2.2.2.2
  have fb := bk4.fz
  have H4 : Hid (_) := B4
  clear r4 o4 B4 bk4 H3
  cases O with
  | false =>
    have e4 : w4.cell? ⟨rb, 1, none⟩ = some (.bool true) := e4
    go_wp2_with fail
    go_ret
    exact HP.out.1 trivial _ H4.out
  | true =>
    have e4 : w4.cell? ⟨rb, 1, none⟩ = some (.bool false) := e4
    go_wp2_with fail
    go_ret
    exact HP.out.2.1 trivial w4 _ H4.out rfl
set_option maxHeartbeats 8000000 in
theorem penter_host (B b : Nat) (T : TypeId) (hT : T ≠ 50) (cs : Array Value) (Z : Nt) (hz : Z.l0 ≤ 1000000) (g o N n C c : Nat) (hN1 : N = n + 1) (hC1 : C = c + 1) (hnc : n ≤ c) (hC : C ≤ 9223372036854775807) (L : Nat → List UInt8) (hL : ∀ i, i < N → (L i).length ≤ 281474976710656) (h0 : L 0 = [104, 111, 115, 116]) (w : World) (Lv : Lw w) (hZ : NtW B w b T cs Z) (hB : B ≤ b) (h : ∀ i, i < N → w.cell? ⟨g, o + i, none⟩ = some (.string (tx (L i)))) : Calls Tryd.prog 47 #[.pointer (some ⟨b, 0, none⟩), .slice (some ⟨g, o, none⟩) N C] w (EnP B b T cs (Z.put n L) (hdE n L) w) := by
  have lb : b < w.heap.size := hZ.bk.lt
  have hw0 := h 0 (by omega)
  rw [Nat.add_zero] at hw0
  have lg : g < w.heap.size := World.block_lt_of_cell? w _ hw0
  have hA : hdA (L 0) = 5 := by rw [h0]; rfl
  have eE : hdE n L = if n < 5 then 202 else if 5 < n then 201 else if allV (fun i => L (i + 1)) n = true then 0 else 203 := by unfold hdE; rw [hA]
  have qn : ((tx (L 0)).toList == [110, 101, 116]) = false := by rw [tx_list, h0]; rfl
  have qh : ((tx (L 0)).toList == [104, 111, 115, 116]) = true := by rw [tx_list, h0]; rfl
  have qN0 : (0 : Int) < ((N : Nat) : Int) := by omega
  have hrd : ∀ wx, Calls Tryd.prog 41 #[.slice (some ⟨g, o, none⟩) N C, .int .i64 5, .int .i64 5] wx fun r w' => r = .returned (.tuple #[.agg #[rdV n 5 5 (.slice (some ⟨g, adv o c, none⟩) n c), .bool false], .int .i64 (rdE n 5 5)]) ∧ Below wx.heap.size wx w' := fun wx => by
    have := preaderG g o n c 5 5 hnc (by omega) wx
    rw [← hN1, ← hC1] at this
    exact this
  by_cases h1 : n < 5 ∨ 5 < n
  · have hv : rdV n 5 5 (.slice (some ⟨g, adv o c, none⟩) n c) = .slice none 0 0 := by
      unfold rdV
      by_cases q : n < 5
      · rw [if_pos q]
      · rw [if_neg q, if_pos (by omega)]
    obtain ⟨e1, he1, he2⟩ : ∃ e1 : Int, rdE n 5 5 = e1 ∧ (e1 = 202 ∨ e1 = 201) ∧ hdE n L = e1 := by
      refine ⟨_, rfl, ?_, ?_⟩
      · unfold rdE
        by_cases q : n < 5
        · rw [if_pos q]; exact .inl rfl
        · rw [if_neg q, if_pos (by omega)]; exact .inr rfl
      · rw [eE]
        unfold rdE
        by_cases q : n < 5
        · rw [if_pos q, if_pos q]
        · rw [if_neg q, if_neg q, if_pos (by omega), if_pos (by omega)]
    have hp : Z.put n L = Z := by
      unfold Nt.put
      rw [if_neg (by rw [he2.2]; omega)]
    rw [he2.2, hp]
    rw [he1, hv] at hrd
    have qe : (e1 != 0) = true := by rcases he2.1 with r | r <;> rw [r] <;> rfl
    have post : ∀ w', Below w.heap.size w w' → EnP B b T cs Z e1 w (.returned (.int .i64 e1)) w' := fun w' q => EnP.same hZ (by omega) q
    obtain ⟨X0, hX0⟩ : ∃ y, tx (L 0) = y := ⟨_, rfl⟩
    rw [hX0] at hw0 qn qh
    clear he1 he2 hv h1 hp eE h hZ hL Lv hX0 hA h0 hN1 hC1 hnc hC hB hT lb lg hz
    go_enter Tryd.func47, Tryd.ntmps47
    go_wp2_with fail
    refine (hrd _).mono ?_
    rintro r w2 ⟨rfl, b2⟩
    have H2 : Hid (_) := b2
    clear hrd b2
    go_wp2_with fail
    go_ret
    exact post _ (belA H2.out _)
  obtain rfl : n = 5 := by omega
  have eV : rdV 5 5 5 (.slice (some ⟨g, adv o c, none⟩) 5 c) = .slice (some ⟨g, adv o c, none⟩) 5 c := rfl
  have eR : rdE 5 5 5 = 0 := rfl
  rw [eV, eR, adv_next (by omega)] at hrd
  rw [if_neg (by omega), if_neg (by omega)] at eE
  obtain ⟨R, hR⟩ : ∃ y, (fun i => L (i + 1)) = y := ⟨_, rfl⟩
  have hRw : ∀ i, i < 5 → w.cell? ⟨g, o + 1 + i, none⟩ = some (.string (tx (R i))) := fun i hi => by
    rw [← hR]
    have := h (i + 1) (by omega)
    rw [show o + 1 + i = o + (i + 1) by omega]
    exact this
  have hRl : ∀ i, i < 5 → (R i).length ≤ 281474976710656 := fun i hi => by
    rw [← hR]
    exact hL (i + 1) (by omega)
  rw [hR] at eE
  obtain ⟨O, hO⟩ : ∃ y, allV R 5 = y := ⟨_, rfl⟩
  rw [hO] at eE
  obtain ⟨p, hp⟩ : ∃ y : Pg, (⟨nmV (R 0), ((nmV (R 1) : Nat) : Int), ((nmV (R 2) : Nat) : Int), ((nmV (R 3) : Nat) : Int), nmV (R 4)⟩ : Pg) = y := ⟨_, rfl⟩
  have flag : (((((false || !nmO (R 0)) || !nmO (R 1)) || !nmO (R 2)) || !nmO (R 3)) || !nmO (R 4)) = !O := by
    rw [← hO, allV_five]
    simp only [nmO_vlO, Bool.not_and, Bool.false_or]
  have bad : O = false → ∀ w', Below w.heap.size w w' → EnP B b T cs (Z.put 5 L) (hdE 5 L) w (.returned (.int .i64 203)) w' := fun q w' q2 => by
    rw [q] at eE
    have hpp : Z.put 5 L = Z := by unfold Nt.put; rw [if_neg (by rw [eE]; simp)]
    rw [hpp, eE]
    exact EnP.same hZ (by omega) q2
  have ep : O = true → p = stP R := fun q => by
    rw [← hO, allV_five] at q
    simp only [Bool.and_eq_true] at q
    rw [← hp]
    unfold stP
    rw [nm_vl q.1.1.1.1, nm_vl q.1.1.1.2, nm_vl q.1.1.2, nm_vl q.1.2, nm_vl q.2]
  have good : O = true → ∀ (w1 w2 : World) (a' : Option Addr) (c' : Nat) (v0 v1 : Value), Below w.heap.size w w1 → cs[0]? = some v0 → cs[1]? = some v1 → w2.ownsRow B 50 5 (.slice a' (Z.l0 + 1) c') (Z.l0 + 1) (flP (Z.l0 + 1) (fun i => if i = Z.l0 then p else Z.P0 i)) → w1.grownBy w2 v0.ownBlock → ((Value.slice a' (Z.l0 + 1) c').ownBlock = v0.ownBlock ∨ (Value.slice a' (Z.l0 + 1) c').ownBlock = some w1.heap.size) → EnP B b T cs (Z.put 5 L) (hdE 5 L) w (.returned (.int .i64 0)) (w2.setCell ⟨b, 0, none⟩ (.slice a' (Z.l0 + 1) c')) := fun q w1 w2 a' c' v0 v1 q1 ev0 ev1 ow gr ob => by
    rw [q] at eE
    have hpp : Z.put 5 L = { Z with l0 := Z.l0 + 1, P0 := fun i => if i = Z.l0 then stP (fun i => L (i + 1)) else Z.P0 i } := by
      unfold Nt.put
      rw [if_pos (by rw [eE]; rfl), if_neg (by rw [h0]; decide), if_pos h0]
    rw [hpp, eE, hR, ← ep q]
    have Z1 := hZ.below q1
    obtain ⟨a0, c0, a1, c1, e0, e1, e2, o0, o1, d⟩ := Z1.v
    have f0 := own_ty hT Z1.bk o0
    have f1 := own_ty hT Z1.bk o1
    have es : cs[0]? = some (.slice a0 Z.l0 c0) := e0
    rw [ev0] at es
    cases es
    have lb1 : b < w1.heap.size := Z1.bk.lt
    have bk2 : Bk w2 b cs T := (gr.block b lb1 (fun e => f0 e.symm)).trans Z1.bk
    have oo : w2.ownsRow B 50 5 (.slice a1 Z.l1 c1) Z.l1 (flP Z.l1 Z.P1) := own_keepP o1 (fun k hk => gr.block k (o1.lt k hk).2 (fun e => d k e.symm hk))
    have os := Off.setCell b 0 w2 (.slice a' (Z.l0 + 1) c')
    have g0 := own_ty hT bk2 ow
    have gj := own_ty hT bk2 oo
    have hs3 : 0 < cs.size := (Array.getElem?_eq_some_iff.1 e0).1
    have b1 : Below B w w1 := q1.mono (by omega)
    have bB : Below B w w2 := b1.grown gr (by have := q1.size; omega) (fun k hk => (o0.lt k hk).1)
    have oA := own_off ow os (fun k hk hm => by simp at hm; rw [hm] at hk; exact g0 hk)
    have oB := own_off oo os (fun k hk hm => by simp at hm; rw [hm] at hk; exact gj hk)
    have dd : ∀ k, (Value.slice a' (Z.l0 + 1) c').ownBlock = some k → (Value.slice a1 Z.l1 c1).ownBlock ≠ some k := fun k hk hk2 => by
      rcases ob with e | e
      · rw [e] at hk
        exact d k hk hk2
      · rw [e] at hk
        cases hk
        have := (o1.lt _ hk2).2
        omega
    refine ⟨rfl, cs.setIfInBounds 0 (.slice a' (Z.l0 + 1) c'), ⟨bk2.set 0 _, a', c', a1, c1, ?_, ?_, ?_, oA, oB, dd⟩, fun m hm => ?_, os.below bB (by simpa using hB) (by have := q1.size; have := gr.size; omega), (fun k ks S hk hS kk => ?_), ((KO.of_below q1).trans (KO.grown gr o0)).trans (KO.off os bk2)⟩
    · rw [Array.getElem?_setIfInBounds_self_of_lt hs3]
    · rw [Array.getElem?_setIfInBounds_ne (by omega)]; exact e1
    · rw [Array.getElem?_setIfInBounds_ne (by omega)]; exact e2
    · rw [Array.getElem?_setIfInBounds_ne (by omega)]
    · have kk1 := kk.off (Off.of_below (l := []) q1) (by simp)
      have kk2 : Bk w2 k ks S := (gr.block k kk1.lt (fun e => own_ty hS kk1 o0 e.symm)).trans kk1
      exact kk2.off os (by simpa using hk)
  obtain ⟨v0, hv0⟩ : ∃ x, cs[0]? = some x := by obtain ⟨a0, c0, a1, c1, e0, e1, e2, _⟩ := hZ.v; exact ⟨_, e0⟩
  obtain ⟨v1, hv1⟩ : ∃ x, cs[1]? = some x := by obtain ⟨a0, c0, a1, c1, e0, e1, e2, _⟩ := hZ.v; exact ⟨_, e1⟩
  have good2 := fun q w1 w2 a' c' q1 => good q w1 w2 a' c' v0 v1 q1 hv0 hv1
  have ow0 : ∃ a0 c0, v0 = .slice a0 Z.l0 c0 ∧ w.ownsRow B 50 5 v0 Z.l0 (flP Z.l0 Z.P0) := by
    obtain ⟨a0, c0, a1, c1, e0, e1, e2, o0, o1, _⟩ := hZ.v
    have es : cs[0]? = some (.slice a0 Z.l0 c0) := e0
    rw [hv0] at es
    cases es
    exact ⟨a0, c0, rfl, o0⟩
  have bkB := hZ.bk
  obtain ⟨X0, hX0⟩ : ∃ y, tx (L 0) = y := ⟨_, rfl⟩
  rw [hX0] at hw0 qn qh
  have HP : Hid (_) := And.intro bad (And.intro good2 (And.intro Lv (And.intro hRw (And.intro hRl (And.intro bkB (And.intro hv0 (And.intro ow0 hw0)))))))
  have HG : Hid (b < w.heap.size ∧ g < w.heap.size ∧ 5 ≤ c ∧ c + 1 ≤ 9223372036854775807 ∧ B ≤ b ∧ T ≠ 50) := ⟨lb, lg, by omega, by omega, hB, hT⟩
  have HF : Hid (_) := And.intro flag hp
  clear bad good good2 Lv hRw hRl bkB hv0 hv1 ow0 flag hp ep h hL hZ h1 eE eV eR hA hO hR hX0 lb lg hnc hC hN1 hC1 h0 hB hT
  obtain ⟨ZZ, hZZ⟩ : ∃ y, Z.put 5 L = y := ⟨_, rfl⟩
  obtain ⟨EE, hEE⟩ : ∃ y, hdE 5 L = y := ⟨_, rfl⟩
  rw [hZZ, hEE] at HP ⊢
  clear hZZ hEE
  go_enter Tryd.func47, Tryd.ntmps47
  go_wp2_with fail
  refine (hrd _).mono ?_
  rintro r w2 ⟨rfl, b2⟩
  have H2 : Hid (_) := b2
  clear hrd b2
  go_wp2_with fail
  have r3 : RB (w2.alloc (.cells #[.slice (some ⟨g, o + 1, none⟩) 5 c, .bool false] 91)) w2.heap.size (.slice (some ⟨g, o + 1, none⟩) 5 c) false := Bk.new _ _ _
  have b3 := belA (Below.refl _ w2) (.cells #[.slice (some ⟨g, o + 1, none⟩) 5 c, .bool false] 91)
  obtain ⟨w3, hw3⟩ : ∃ x, w2.alloc (.cells #[.slice (some ⟨g, o + 1, none⟩) 5 c, .bool false] 91) = x := ⟨_, rfl⟩
  rw [hw3] at r3 b3 ⊢
  obtain ⟨rb, hb⟩ : ∃ x, w2.heap.size = x := ⟨_, rfl⟩
  rw [hb] at r3 ⊢
  have B3 : Below w.heap.size w w3 := H2.out.trans (b3.mono H2.out.size)
  have lrb : w.heap.size ≤ rb := by rw [← hb]; exact H2.out.size
  have hg := HG.out
  have hm : Calls Tryd.prog 64 #[.pointer (some ⟨rb, 0, none⟩)] w3 fun r w' => r = .returned (.agg #[.int .u32 (p.c : Nat), .int .i64 p.o, .int .i64 p.i, .int .i64 p.t, .int .u32 (p.n : Nat)]) ∧ (∃ v, RB w' rb v (!O)) ∧ Off [rb] w3 w' := by
    have := psetR rb g (o + 1) (c - 5) false R HP.out.2.2.2.2.1 w3 (fun wx ox => HP.out.2.2.1.below (ox.below B3 (by simp; omega) B3.size)) (HP.out.2.2.1.glob lrb) (by rw [Nat.sub_add_cancel hg.2.2.1]; exact r3) (fun i hi => cellB (HP.out.2.2.2.1 i hi) B3) (by omega) (by omega)
    rw [HF.out.1] at this
    rw [← HF.out.2]
    exact this
  have H3 : Hid (_) := And.intro B3 lrb
  clear r3 b3 hw3 hb B3 lrb hg H2
  refine hm.mono ?_
  rintro r w4 ⟨rfl, ⟨v4, r4⟩, o4⟩
  clear hm
  have B4 : Below w.heap.size w w4 := o4.below H3.out.1 (by have := H3.out.2; simp; omega) H3.out.1.size
  have e4 := r4.c.2.1
  have n4 := r4.c.2.2.2.2
  have H4 : Hid (_) := And.intro B4 n4
  clear r4 o4 B4 n4 H3
  go_upto_region 8 with fail
  have n5 := Bk.new w4 (pgL p).toArray 50
  have b5 := belA (Below.refl _ w4) (.cells (pgL p).toArray 50)
  obtain ⟨w5, hw5⟩ : ∃ x, w4.alloc (.cells (pgL p).toArray 50) = x := ⟨_, rfl⟩
  have hw5' : w4.alloc (.cells #[.int .u32 (p.c : Nat), .int .i64 p.o, .int .i64 p.i, .int .i64 p.t, .int .u32 (p.n : Nat)] 50) = w5 := hw5
  rw [hw5] at n5 b5
  rw [hw5']
  clear hw5 hw5'
  obtain ⟨q7, hq⟩ : ∃ x, w4.heap.size = x := ⟨_, rfl⟩
  rw [hq] at n5 ⊢
  have e5 := cellB e4 b5
  have B5 : Below w.heap.size w w5 := H4.out.1.trans (b5.mono H4.out.1.size)
  have cW := cellB HP.out.2.2.2.2.2.2.2.2 B5
  have H5 : Hid (_) := B5
  clear b5 e4 H4 hq
  cases O with
  | false =>
    have e5 : w5.cell? ⟨rb, 1, none⟩ = some (.bool true) := e5
    go_wp2_with fail
    go_ret
    exact HP.out.1 trivial _ H5.out
  | true =>
    have e5 : w5.cell? ⟨rb, 1, none⟩ = some (.bool false) := e5
    have bk5 := HP.out.2.2.2.2.2.1.off (Off.of_below (l := []) B5) (by simp)
    obtain ⟨a0, c0, rfl, ow⟩ := HP.out.2.2.2.2.2.2.2.1
    have cb : w5.cell? ⟨b, 0, none⟩ = some (.slice a0 Z.l0 c0) := (bk5.cell 0).trans HP.out.2.2.2.2.2.2.1
    have fb := bk5.fz
    have ow5 := ownB ow B5
    have HW : Hid (_) := And.intro ow5 (And.intro n5 (And.intro bk5 (own_ty HG.out.2.2.2.2.2 bk5 ow5)))
    clear B5 bk5 ow ow5
    go_upto_region 11 with fail
    clear e5 cW
    have p0 : w5.cell? ⟨q7, 0, none⟩ = some (.int .u32 (p.c : Nat)) := n5.cell 0
    have p1 : w5.cell? ⟨q7, 1, none⟩ = some (.int .i64 p.o) := n5.cell 1
    have p2 : w5.cell? ⟨q7, 2, none⟩ = some (.int .i64 p.i) := n5.cell 2
    have p3 : w5.cell? ⟨q7, 3, none⟩ = some (.int .i64 p.t) := n5.cell 3
    have p4 : w5.cell? ⟨q7, 4, none⟩ = some (.int .u32 (p.n : Nat)) := n5.cell 4
    have cbA : ∀ ob, (w5.alloc ob).cell? ⟨b, 0, none⟩ = some (.slice a0 Z.l0 c0) := fun ob => cellB cb (belA (Below.refl _ _) _)
    clear n5
    go_region_law (first
      | (refine step_app1P rfl (.tmp 46) (.tmp 48) rfl rfl B (.slice a0 Z.l0 c0) Z.l0 Z.P0 p rfl (ownB HW.out.1 (by repeat (first | with_reducible exact Below.refl _ _ | with_reducible refine Below.drew ?_ | with_reducible refine belA ?_ _))) w5.heap.size rfl (heap_alloc_new _ _) hz (by have := HG.out; have := HW.out.2.2.1.lt; simp; omega) ?_; intro a' c' w7 h7; have bk7 : Bk w7 b cs T := (h7.out.2.1.block b (by have := HW.out.2.2.1.lt; simp; omega) (fun e => HW.out.2.2.2 e.symm)).trans (HW.out.2.2.1.off (Off.of_below (l := []) (by repeat (first | with_reducible exact Below.refl _ _ | with_reducible refine Below.drew ?_ | with_reducible refine belA ?_ _))) (by simp)); have c7 := (bk7.cell 0).trans HP.out.2.2.2.2.2.2.1; have f7 := bk7.fz; have HFin : Hid (_) := HP.out.2.1 (by first | rfl | trivial) _ w7 a' c' (H5.out.trans (Below.mono (B := w5.heap.size) (by repeat (first | with_reducible exact Below.refl _ _ | with_reducible refine Below.drew ?_ | with_reducible refine belA ?_ _)) H5.out.size)) h7.out.1 h7.out.2.1 h7.out.2.2; clear bk7)
      | fail)
    all_goals
      go_wp2_with fail
      go_ret
      exact HFin.out
set_option maxHeartbeats 8000000 in
theorem penter_device (B b : Nat) (T : TypeId) (hT : T ≠ 50) (cs : Array Value) (Z : Nt) (hz : Z.l1 ≤ 1000000) (g o N n C c : Nat) (hN1 : N = n + 1) (hC1 : C = c + 1) (hnc : n ≤ c) (hC : C ≤ 9223372036854775807) (L : Nat → List UInt8) (hL : ∀ i, i < N → (L i).length ≤ 281474976710656) (h0 : L 0 = [100, 101, 118, 105, 99, 101]) (w : World) (Lv : Lw w) (hZ : NtW B w b T cs Z) (hB : B ≤ b) (h : ∀ i, i < N → w.cell? ⟨g, o + i, none⟩ = some (.string (tx (L i)))) : Calls Tryd.prog 47 #[.pointer (some ⟨b, 0, none⟩), .slice (some ⟨g, o, none⟩) N C] w (EnP B b T cs (Z.put n L) (hdE n L) w) := by
  have lb : b < w.heap.size := hZ.bk.lt
  have hw0 := h 0 (by omega)
  rw [Nat.add_zero] at hw0
  have lg : g < w.heap.size := World.block_lt_of_cell? w _ hw0
  have hA : hdA (L 0) = 5 := by rw [h0]; rfl
  have eE : hdE n L = if n < 5 then 202 else if 5 < n then 201 else if allV (fun i => L (i + 1)) n = true then 0 else 203 := by unfold hdE; rw [hA]
  have qn : ((tx (L 0)).toList == [110, 101, 116]) = false := by rw [tx_list, h0]; rfl
  have qh : ((tx (L 0)).toList == [104, 111, 115, 116]) = false := by rw [tx_list, h0]; rfl
  have qN0 : (0 : Int) < ((N : Nat) : Int) := by omega
  have hrd : ∀ wx, Calls Tryd.prog 41 #[.slice (some ⟨g, o, none⟩) N C, .int .i64 5, .int .i64 5] wx fun r w' => r = .returned (.tuple #[.agg #[rdV n 5 5 (.slice (some ⟨g, adv o c, none⟩) n c), .bool false], .int .i64 (rdE n 5 5)]) ∧ Below wx.heap.size wx w' := fun wx => by
    have := preaderG g o n c 5 5 hnc (by omega) wx
    rw [← hN1, ← hC1] at this
    exact this
  by_cases h1 : n < 5 ∨ 5 < n
  · have hv : rdV n 5 5 (.slice (some ⟨g, adv o c, none⟩) n c) = .slice none 0 0 := by
      unfold rdV
      by_cases q : n < 5
      · rw [if_pos q]
      · rw [if_neg q, if_pos (by omega)]
    obtain ⟨e1, he1, he2⟩ : ∃ e1 : Int, rdE n 5 5 = e1 ∧ (e1 = 202 ∨ e1 = 201) ∧ hdE n L = e1 := by
      refine ⟨_, rfl, ?_, ?_⟩
      · unfold rdE
        by_cases q : n < 5
        · rw [if_pos q]; exact .inl rfl
        · rw [if_neg q, if_pos (by omega)]; exact .inr rfl
      · rw [eE]
        unfold rdE
        by_cases q : n < 5
        · rw [if_pos q, if_pos q]
        · rw [if_neg q, if_neg q, if_pos (by omega), if_pos (by omega)]
    have hp : Z.put n L = Z := by
      unfold Nt.put
      rw [if_neg (by rw [he2.2]; omega)]
    rw [he2.2, hp]
    rw [he1, hv] at hrd
    have qe : (e1 != 0) = true := by rcases he2.1 with r | r <;> rw [r] <;> rfl
    have post : ∀ w', Below w.heap.size w w' → EnP B b T cs Z e1 w (.returned (.int .i64 e1)) w' := fun w' q => EnP.same hZ (by omega) q
    obtain ⟨X0, hX0⟩ : ∃ y, tx (L 0) = y := ⟨_, rfl⟩
    rw [hX0] at hw0 qn qh
    clear he1 he2 hv h1 hp eE h hZ hL Lv hX0 hA h0 hN1 hC1 hnc hC hB hT lb lg hz
    go_enter Tryd.func47, Tryd.ntmps47
    go_wp2_with fail
    refine (hrd _).mono ?_
    rintro r w2 ⟨rfl, b2⟩
    have H2 : Hid (_) := b2
    clear hrd b2
    go_wp2_with fail
    go_ret
    exact post _ (belA H2.out _)
  obtain rfl : n = 5 := by omega
  have eV : rdV 5 5 5 (.slice (some ⟨g, adv o c, none⟩) 5 c) = .slice (some ⟨g, adv o c, none⟩) 5 c := rfl
  have eR : rdE 5 5 5 = 0 := rfl
  rw [eV, eR, adv_next (by omega)] at hrd
  rw [if_neg (by omega), if_neg (by omega)] at eE
  obtain ⟨R, hR⟩ : ∃ y, (fun i => L (i + 1)) = y := ⟨_, rfl⟩
  have hRw : ∀ i, i < 5 → w.cell? ⟨g, o + 1 + i, none⟩ = some (.string (tx (R i))) := fun i hi => by
    rw [← hR]
    have := h (i + 1) (by omega)
    rw [show o + 1 + i = o + (i + 1) by omega]
    exact this
  have hRl : ∀ i, i < 5 → (R i).length ≤ 281474976710656 := fun i hi => by
    rw [← hR]
    exact hL (i + 1) (by omega)
  rw [hR] at eE
  obtain ⟨O, hO⟩ : ∃ y, allV R 5 = y := ⟨_, rfl⟩
  rw [hO] at eE
  obtain ⟨p, hp⟩ : ∃ y : Pg, (⟨nmV (R 0), ((nmV (R 1) : Nat) : Int), ((nmV (R 2) : Nat) : Int), ((nmV (R 3) : Nat) : Int), nmV (R 4)⟩ : Pg) = y := ⟨_, rfl⟩
  have flag : (((((false || !nmO (R 0)) || !nmO (R 1)) || !nmO (R 2)) || !nmO (R 3)) || !nmO (R 4)) = !O := by
    rw [← hO, allV_five]
    simp only [nmO_vlO, Bool.not_and, Bool.false_or]
  have bad : O = false → ∀ w', Below w.heap.size w w' → EnP B b T cs (Z.put 5 L) (hdE 5 L) w (.returned (.int .i64 203)) w' := fun q w' q2 => by
    rw [q] at eE
    have hpp : Z.put 5 L = Z := by unfold Nt.put; rw [if_neg (by rw [eE]; simp)]
    rw [hpp, eE]
    exact EnP.same hZ (by omega) q2
  have ep : O = true → p = stP R := fun q => by
    rw [← hO, allV_five] at q
    simp only [Bool.and_eq_true] at q
    rw [← hp]
    unfold stP
    rw [nm_vl q.1.1.1.1, nm_vl q.1.1.1.2, nm_vl q.1.1.2, nm_vl q.1.2, nm_vl q.2]
  have good : O = true → ∀ (w1 w2 : World) (a' : Option Addr) (c' : Nat) (v0 v1 : Value), Below w.heap.size w w1 → cs[1]? = some v0 → cs[0]? = some v1 → w2.ownsRow B 50 5 (.slice a' (Z.l1 + 1) c') (Z.l1 + 1) (flP (Z.l1 + 1) (fun i => if i = Z.l1 then p else Z.P1 i)) → w1.grownBy w2 v0.ownBlock → ((Value.slice a' (Z.l1 + 1) c').ownBlock = v0.ownBlock ∨ (Value.slice a' (Z.l1 + 1) c').ownBlock = some w1.heap.size) → EnP B b T cs (Z.put 5 L) (hdE 5 L) w (.returned (.int .i64 0)) (w2.setCell ⟨b, 1, none⟩ (.slice a' (Z.l1 + 1) c')) := fun q w1 w2 a' c' v0 v1 q1 ev0 ev1 ow gr ob => by
    rw [q] at eE
    have hpp : Z.put 5 L = { Z with l1 := Z.l1 + 1, P1 := fun i => if i = Z.l1 then stP (fun i => L (i + 1)) else Z.P1 i } := by
      unfold Nt.put
      rw [if_pos (by rw [eE]; rfl), if_neg (by rw [h0]; decide), if_neg (by rw [h0]; decide)]
    rw [hpp, eE, hR, ← ep q]
    have Z1 := hZ.below q1
    obtain ⟨a0, c0, a1, c1, e0, e1, e2, o0, o1, d⟩ := Z1.v
    have f0 := own_ty hT Z1.bk o0
    have f1 := own_ty hT Z1.bk o1
    have es : cs[1]? = some (.slice a1 Z.l1 c1) := e1
    rw [ev0] at es
    cases es
    have lb1 : b < w1.heap.size := Z1.bk.lt
    have bk2 : Bk w2 b cs T := (gr.block b lb1 (fun e => f1 e.symm)).trans Z1.bk
    have oo : w2.ownsRow B 50 5 (.slice a0 Z.l0 c0) Z.l0 (flP Z.l0 Z.P0) := own_keepP o0 (fun k hk => gr.block k (o0.lt k hk).2 (fun e => d k hk e.symm))
    have os := Off.setCell b 1 w2 (.slice a' (Z.l1 + 1) c')
    have g0 := own_ty hT bk2 ow
    have gj := own_ty hT bk2 oo
    have hs3 : 1 < cs.size := (Array.getElem?_eq_some_iff.1 e1).1
    have b1 : Below B w w1 := q1.mono (by omega)
    have bB : Below B w w2 := b1.grown gr (by have := q1.size; omega) (fun k hk => (o1.lt k hk).1)
    have oA := own_off ow os (fun k hk hm => by simp at hm; rw [hm] at hk; exact g0 hk)
    have oB := own_off oo os (fun k hk hm => by simp at hm; rw [hm] at hk; exact gj hk)
    have dd : ∀ k, (Value.slice a' (Z.l1 + 1) c').ownBlock = some k → (Value.slice a0 Z.l0 c0).ownBlock ≠ some k := fun k hk hk2 => by
      rcases ob with e | e
      · rw [e] at hk
        exact d k hk2 hk
      · rw [e] at hk
        cases hk
        have := (o0.lt _ hk2).2
        omega
    refine ⟨rfl, cs.setIfInBounds 1 (.slice a' (Z.l1 + 1) c'), ⟨bk2.set 1 _, a0, c0, a', c', ?_, ?_, ?_, oB, oA, fun k hk hk2 => dd k hk2 hk⟩, fun m hm => ?_, os.below bB (by simpa using hB) (by have := q1.size; have := gr.size; omega), (fun k ks S hk hS kk => ?_), ((KO.of_below q1).trans (KO.grown gr o1)).trans (KO.off os bk2)⟩
    · rw [Array.getElem?_setIfInBounds_ne (by omega)]; exact e0
    · rw [Array.getElem?_setIfInBounds_self_of_lt hs3]
    · rw [Array.getElem?_setIfInBounds_ne (by omega)]; exact e2
    · rw [Array.getElem?_setIfInBounds_ne (by omega)]
    · have kk1 := kk.off (Off.of_below (l := []) q1) (by simp)
      have kk2 : Bk w2 k ks S := (gr.block k kk1.lt (fun e => own_ty hS kk1 o1 e.symm)).trans kk1
      exact kk2.off os (by simpa using hk)
  obtain ⟨v0, hv0⟩ : ∃ x, cs[1]? = some x := by obtain ⟨a0, c0, a1, c1, e0, e1, e2, _⟩ := hZ.v; exact ⟨_, e1⟩
  obtain ⟨v1, hv1⟩ : ∃ x, cs[0]? = some x := by obtain ⟨a0, c0, a1, c1, e0, e1, e2, _⟩ := hZ.v; exact ⟨_, e0⟩
  have good2 := fun q w1 w2 a' c' q1 => good q w1 w2 a' c' v0 v1 q1 hv0 hv1
  have ow0 : ∃ a0 c0, v0 = .slice a0 Z.l1 c0 ∧ w.ownsRow B 50 5 v0 Z.l1 (flP Z.l1 Z.P1) := by
    obtain ⟨a0, c0, a1, c1, e0, e1, e2, o0, o1, _⟩ := hZ.v
    have es : cs[1]? = some (.slice a1 Z.l1 c1) := e1
    rw [hv0] at es
    cases es
    exact ⟨a1, c1, rfl, o1⟩
  have bkB := hZ.bk
  obtain ⟨X0, hX0⟩ : ∃ y, tx (L 0) = y := ⟨_, rfl⟩
  rw [hX0] at hw0 qn qh
  have HP : Hid (_) := And.intro bad (And.intro good2 (And.intro Lv (And.intro hRw (And.intro hRl (And.intro bkB (And.intro hv0 (And.intro ow0 hw0)))))))
  have HG : Hid (b < w.heap.size ∧ g < w.heap.size ∧ 5 ≤ c ∧ c + 1 ≤ 9223372036854775807 ∧ B ≤ b ∧ T ≠ 50) := ⟨lb, lg, by omega, by omega, hB, hT⟩
  have HF : Hid (_) := And.intro flag hp
  clear bad good good2 Lv hRw hRl bkB hv0 hv1 ow0 flag hp ep h hL hZ h1 eE eV eR hA hO hR hX0 lb lg hnc hC hN1 hC1 h0 hB hT
  obtain ⟨ZZ, hZZ⟩ : ∃ y, Z.put 5 L = y := ⟨_, rfl⟩
  obtain ⟨EE, hEE⟩ : ∃ y, hdE 5 L = y := ⟨_, rfl⟩
  rw [hZZ, hEE] at HP ⊢
  clear hZZ hEE
  go_enter Tryd.func47, Tryd.ntmps47
  go_wp2_with fail
  refine (hrd _).mono ?_
  rintro r w2 ⟨rfl, b2⟩
  have H2 : Hid (_) := b2
  clear hrd b2
  go_wp2_with fail
  have r3 : RB (w2.alloc (.cells #[.slice (some ⟨g, o + 1, none⟩) 5 c, .bool false] 91)) w2.heap.size (.slice (some ⟨g, o + 1, none⟩) 5 c) false := Bk.new _ _ _
  have b3 := belA (Below.refl _ w2) (.cells #[.slice (some ⟨g, o + 1, none⟩) 5 c, .bool false] 91)
  obtain ⟨w3, hw3⟩ : ∃ x, w2.alloc (.cells #[.slice (some ⟨g, o + 1, none⟩) 5 c, .bool false] 91) = x := ⟨_, rfl⟩
  rw [hw3] at r3 b3 ⊢
  obtain ⟨rb, hb⟩ : ∃ x, w2.heap.size = x := ⟨_, rfl⟩
  rw [hb] at r3 ⊢
  have B3 : Below w.heap.size w w3 := H2.out.trans (b3.mono H2.out.size)
  have lrb : w.heap.size ≤ rb := by rw [← hb]; exact H2.out.size
  have hg := HG.out
  have hm : Calls Tryd.prog 64 #[.pointer (some ⟨rb, 0, none⟩)] w3 fun r w' => r = .returned (.agg #[.int .u32 (p.c : Nat), .int .i64 p.o, .int .i64 p.i, .int .i64 p.t, .int .u32 (p.n : Nat)]) ∧ (∃ v, RB w' rb v (!O)) ∧ Off [rb] w3 w' := by
    have := psetR rb g (o + 1) (c - 5) false R HP.out.2.2.2.2.1 w3 (fun wx ox => HP.out.2.2.1.below (ox.below B3 (by simp; omega) B3.size)) (HP.out.2.2.1.glob lrb) (by rw [Nat.sub_add_cancel hg.2.2.1]; exact r3) (fun i hi => cellB (HP.out.2.2.2.1 i hi) B3) (by omega) (by omega)
    rw [HF.out.1] at this
    rw [← HF.out.2]
    exact this
  have H3 : Hid (_) := And.intro B3 lrb
  clear r3 b3 hw3 hb B3 lrb hg H2
  refine hm.mono ?_
  rintro r w4 ⟨rfl, ⟨v4, r4⟩, o4⟩
  clear hm
  have B4 : Below w.heap.size w w4 := o4.below H3.out.1 (by have := H3.out.2; simp; omega) H3.out.1.size
  have e4 := r4.c.2.1
  have n4 := r4.c.2.2.2.2
  have H4 : Hid (_) := And.intro B4 n4
  clear r4 o4 B4 n4 H3
  go_upto_region 8 with fail
  have n5 := Bk.new w4 (pgL p).toArray 50
  have b5 := belA (Below.refl _ w4) (.cells (pgL p).toArray 50)
  obtain ⟨w5, hw5⟩ : ∃ x, w4.alloc (.cells (pgL p).toArray 50) = x := ⟨_, rfl⟩
  have hw5' : w4.alloc (.cells #[.int .u32 (p.c : Nat), .int .i64 p.o, .int .i64 p.i, .int .i64 p.t, .int .u32 (p.n : Nat)] 50) = w5 := hw5
  rw [hw5] at n5 b5
  rw [hw5']
  clear hw5 hw5'
  obtain ⟨q7, hq⟩ : ∃ x, w4.heap.size = x := ⟨_, rfl⟩
  rw [hq] at n5 ⊢
  have e5 := cellB e4 b5
  have B5 : Below w.heap.size w w5 := H4.out.1.trans (b5.mono H4.out.1.size)
  have cW := cellB HP.out.2.2.2.2.2.2.2.2 B5
  have H5 : Hid (_) := B5
  clear b5 e4 H4 hq
  cases O with
  | false =>
    have e5 : w5.cell? ⟨rb, 1, none⟩ = some (.bool true) := e5
    go_wp2_with fail
    go_ret
    exact HP.out.1 trivial _ H5.out
  | true =>
    have e5 : w5.cell? ⟨rb, 1, none⟩ = some (.bool false) := e5
    have bk5 := HP.out.2.2.2.2.2.1.off (Off.of_below (l := []) B5) (by simp)
    obtain ⟨a0, c0, rfl, ow⟩ := HP.out.2.2.2.2.2.2.2.1
    have cb : w5.cell? ⟨b, 1, none⟩ = some (.slice a0 Z.l1 c0) := (bk5.cell 1).trans HP.out.2.2.2.2.2.2.1
    have fb := bk5.fz
    have ow5 := ownB ow B5
    have HW : Hid (_) := And.intro ow5 (And.intro n5 (And.intro bk5 (own_ty HG.out.2.2.2.2.2 bk5 ow5)))
    clear B5 bk5 ow ow5
    go_upto_region 7 with fail
    clear e5 cW
    have p0 : w5.cell? ⟨q7, 0, none⟩ = some (.int .u32 (p.c : Nat)) := n5.cell 0
    have p1 : w5.cell? ⟨q7, 1, none⟩ = some (.int .i64 p.o) := n5.cell 1
    have p2 : w5.cell? ⟨q7, 2, none⟩ = some (.int .i64 p.i) := n5.cell 2
    have p3 : w5.cell? ⟨q7, 3, none⟩ = some (.int .i64 p.t) := n5.cell 3
    have p4 : w5.cell? ⟨q7, 4, none⟩ = some (.int .u32 (p.n : Nat)) := n5.cell 4
    have cbA : ∀ ob, (w5.alloc ob).cell? ⟨b, 1, none⟩ = some (.slice a0 Z.l1 c0) := fun ob => cellB cb (belA (Below.refl _ _) _)
    clear n5
    go_region_law (first
      | (refine step_app1P rfl (.tmp 28) (.tmp 30) rfl rfl B (.slice a0 Z.l1 c0) Z.l1 Z.P1 p rfl (ownB HW.out.1 (by repeat (first | with_reducible exact Below.refl _ _ | with_reducible refine Below.drew ?_ | with_reducible refine belA ?_ _))) w5.heap.size rfl (heap_alloc_new _ _) hz (by have := HG.out; have := HW.out.2.2.1.lt; simp; omega) ?_; intro a' c' w7 h7; have bk7 : Bk w7 b cs T := (h7.out.2.1.block b (by have := HW.out.2.2.1.lt; simp; omega) (fun e => HW.out.2.2.2 e.symm)).trans (HW.out.2.2.1.off (Off.of_below (l := []) (by repeat (first | with_reducible exact Below.refl _ _ | with_reducible refine Below.drew ?_ | with_reducible refine belA ?_ _))) (by simp)); have c7 := (bk7.cell 1).trans HP.out.2.2.2.2.2.2.1; have f7 := bk7.fz; have HFin : Hid (_) := HP.out.2.1 (by first | rfl | trivial) _ w7 a' c' (H5.out.trans (Below.mono (B := w5.heap.size) (by repeat (first | with_reducible exact Below.refl _ _ | with_reducible refine Below.drew ?_ | with_reducible refine belA ?_ _)) H5.out.size)) h7.out.1 h7.out.2.1 h7.out.2.2; clear bk7)
      | fail)
    all_goals
      go_wp2_with fail
      go_ret
      exact HFin.out
end Go.Proofs.YtnmnjcjfgbpkaaaDoor

namespace Go.Proofs.YtnmnjcjfgbpkaaaDoor
set_option maxRecDepth 100000
open Go.RowKit Go.Maps
set_option maxRecDepth 100000
set_option linter.unusedVariables false
/-- Is it a net's line; why it is wrong; the net behind it. -/
def hdIs (N : Nat) (L : Nat → List UInt8) : Bool := decide (0 < N) && hdW (L 0)
def hdEr (N : Nat) (L : Nat → List UInt8) : Int := if hdIs N L = true then hdE (N - 1) L else 0
def Nt.hd (Z : Nt) (N : Nat) (L : Nat → List UInt8) : Nt := if hdIs N L = true then Z.put (N - 1) L else Z
/-- What Head leaves. -/
def HdP (Z : Nt) (is : Bool) (e : Int) (w : World) (r : Ending) (w' : World) : Prop := ∃ a0 c0 a1 c1, r = .returned (.tuple #[.agg #[.slice a0 Z.l0 c0, .slice a1 Z.l1 c1, .int .u32 (Z.ms : Nat)], .bool is, .int .i64 e]) ∧ Hid (w'.ownsRow w.heap.size 50 5 (.slice a0 Z.l0 c0) Z.l0 (flP Z.l0 Z.P0) ∧ w'.ownsRow w.heap.size 50 5 (.slice a1 Z.l1 c1) Z.l1 (flP Z.l1 Z.P1) ∧ (∀ k, (Value.slice a0 Z.l0 c0).ownBlock = some k → (Value.slice a1 Z.l1 c1).ownBlock ≠ some k) ∧ Below w.heap.size w w')
set_option maxHeartbeats 1000000 in
theorem penter_net (B b : Nat) (T : TypeId) (hT : T ≠ 50) (cs : Array Value) (Z : Nt) (g o N n C c : Nat) (hN1 : N = n + 1) (hC1 : C = c + 1) (hnc : n ≤ c) (hC : C ≤ 9223372036854775807) (L : Nat → List UInt8) (hL : ∀ i, i < N → (L i).length ≤ 281474976710656) (h0 : L 0 = [110, 101, 116]) (w : World) (Lv : Lw w) (hZ : NtW B w b T cs Z) (hB : B ≤ b) (h : ∀ i, i < N → w.cell? ⟨g, o + i, none⟩ = some (.string (tx (L i)))) : Calls Tryd.prog 47 #[.pointer (some ⟨b, 0, none⟩), .slice (some ⟨g, o, none⟩) N C] w (EnP B b T cs (Z.put n L) (hdE n L) w) := by
  have hm := pmost B b T hT cs Z g o N n C c hN1 hC1 hnc hC L hL h0 w Lv hZ hB h
  have hw0 := h 0 (by omega)
  rw [Nat.add_zero] at hw0
  have qn : ((tx (L 0)).toList == [110, 101, 116]) = true := by rw [tx_list, h0]; rfl
  have qN0 : (0 : Int) < ((N : Nat) : Int) := by omega
  obtain ⟨X0, hX0⟩ : ∃ y, tx (L 0) = y := ⟨_, rfl⟩
  rw [hX0] at hw0 qn
  have post : ∀ r w', EnP B b T cs (Z.put n L) (hdE n L) w r w' → ∃ e, r = .returned (.int .i64 e) ∧ Hid (EnP B b T cs (Z.put n L) (hdE n L) w (.returned (.int .i64 e)) w') := fun r w' q => ⟨_, q.1, (by have := q.1; subst this; exact q)⟩
  obtain ⟨ZZ, hZZ⟩ : ∃ y, Z.put n L = y := ⟨_, rfl⟩
  obtain ⟨EE, hEE⟩ : ∃ y, hdE n L = y := ⟨_, rfl⟩
  rw [hZZ, hEE] at hm post ⊢
  have hm2 := hm.mono post
  clear hm post hZZ hEE hX0 h h0 hL Lv hZ hN1 hC1 hnc hC hB hT
  go_enter Tryd.func47, Tryd.ntmps47
  go_wp2_with fail
  refine hm2.mono ?_
  rintro r w2 ⟨e, rfl, H2⟩
  clear hm2
  go_wp2_with fail
  go_ret
  exact H2.out
theorem penter (B b : Nat) (T : TypeId) (hT : T ≠ 50) (cs : Array Value) (Z : Nt) (hz0 : Z.l0 ≤ 1000000) (hz1 : Z.l1 ≤ 1000000) (g o N n C c : Nat) (hN1 : N = n + 1) (hC1 : C = c + 1) (hnc : n ≤ c) (hC : C ≤ 9223372036854775807) (L : Nat → List UInt8) (hL : ∀ i, i < N → (L i).length ≤ 281474976710656) (h0 : hdW (L 0) = true) (w : World) (Lv : Lw w) (hZ : NtW B w b T cs Z) (hB : B ≤ b) (h : ∀ i, i < N → w.cell? ⟨g, o + i, none⟩ = some (.string (tx (L i)))) : Calls Tryd.prog 47 #[.pointer (some ⟨b, 0, none⟩), .slice (some ⟨g, o, none⟩) N C] w (EnP B b T cs (Z.put n L) (hdE n L) w) := by
  unfold hdW at h0
  simp only [Bool.or_eq_true, beq_iff_eq] at h0
  rcases h0 with (e | e) | e
  · exact penter_net B b T hT cs Z g o N n C c hN1 hC1 hnc hC L hL e w Lv hZ hB h
  · exact penter_host B b T hT cs Z hz0 g o N n C c hN1 hC1 hnc hC L hL e w Lv hZ hB h
  · exact penter_device B b T hT cs Z hz1 g o N n C c hN1 hC1 hnc hC L hL e w Lv hZ hB h
/-- The net's cells, and the answer's. -/
theorem net_end {B : Nat} {w w6 : World} {cs : Array Value} {Z : Nt} {is : Bool} {e : Int} (h : NtW w.heap.size w6 w.heap.size 26 cs Z) (z : Bk w6 (w.heap.size + 1) #[.slice none 0 0, .slice none 0 0, .int .u32 0] 26) (q : Below w.heap.size w w6) (a0 a1 : Option Addr) (c0 c1 : Nat) (e0 : cs[0]? = some (.slice a0 Z.l0 c0)) (e1 : cs[1]? = some (.slice a1 Z.l1 c1)) : HdP Z is e w (.returned (.tuple #[.agg #[.slice a0 Z.l0 c0, .slice a1 Z.l1 c1, .int .u32 (Z.ms : Nat)], .bool is, .int .i64 e])) (((w6.setCell ⟨w.heap.size + 1, 0, none⟩ (.slice a0 Z.l0 c0)).setCell ⟨w.heap.size + 1, 1, none⟩ (.slice a1 Z.l1 c1)).setCell ⟨w.heap.size + 1, 2, none⟩ (.int .u32 (Z.ms : Nat))) := by
  obtain ⟨b0, d0, b1, d1, f0, f1, f2, o0, o1, d⟩ := h.v
  rw [e0] at f0
  rw [e1] at f1
  cases f0
  cases f1
  have os : Off [w.heap.size + 1] w6 (((w6.setCell ⟨w.heap.size + 1, 0, none⟩ (.slice a0 Z.l0 c0)).setCell ⟨w.heap.size + 1, 1, none⟩ (.slice a1 Z.l1 c1)).setCell ⟨w.heap.size + 1, 2, none⟩ (.int .u32 (Z.ms : Nat))) := Off.trans (Off.trans (Off.setCell _ 0 _ _) (Off.setCell _ 1 _ _)) (Off.setCell _ 2 _ _)
  have hT : 26 ≠ 50 := by decide
  have k0 := own_ty hT z o0
  have k1 := own_ty hT z o1
  exact ⟨a0, c0, a1, c1, rfl, own_off o0 os (fun k hk hm => by simp at hm; rw [hm] at hk; exact k0 hk), own_off o1 os (fun k hk hm => by simp at hm; rw [hm] at hk; exact k1 hk), d, os.below q (by simp) q.size⟩
theorem own_baseS {w : World} {B B' e sz n : Nat} {v : Value} {xs : List Value} (h : w.ownsRow B e sz v n xs) (hB : B' ≤ B) : w.ownsRow B' e sz v n xs := by
  refine ⟨h.1, ?_⟩
  rcases h.2 with hn | ⟨g, cap, cur, rfl, hg, rest⟩
  · exact .inl hn
  · exact .inr ⟨g, cap, cur, rfl, Nat.le_trans hB hg, rest⟩
theorem net_two {w W wA wB : World} {Z : Nt} {a0 a1 y0 y1 : Option Addr} {c0 c1 k0 k1 : Nat} (bW : Below w.heap.size w W) (h0 : Bk W w.heap.size #[.slice a0 Z.l0 c0, .slice a1 Z.l1 c1, .int .u32 (Z.ms : Nat)] 26) (h1 : Bk W (w.heap.size + 1) #[.slice none 0 0, .slice none 0 0, .int .u32 0] 26) (bA : Below W.heap.size W wA) (o0 : wA.ownsRow W.heap.size 50 5 (.slice y0 Z.l0 k0) Z.l0 (flP Z.l0 Z.P0)) (q : Below wA.heap.size wA wB) (o1 : wB.ownsRow wA.heap.size 50 5 (.slice y1 Z.l1 k1) Z.l1 (flP Z.l1 Z.P1)) : ∃ cs, Hid (NtW w.heap.size ((wB.setCell ⟨w.heap.size, 0, none⟩ (.slice y0 Z.l0 k0)).setCell ⟨w.heap.size, 1, none⟩ (.slice y1 Z.l1 k1)) w.heap.size 26 cs Z ∧ Bk ((wB.setCell ⟨w.heap.size, 0, none⟩ (.slice y0 Z.l0 k0)).setCell ⟨w.heap.size, 1, none⟩ (.slice y1 Z.l1 k1)) (w.heap.size + 1) #[.slice none 0 0, .slice none 0 0, .int .u32 0] 26 ∧ Below w.heap.size w ((wB.setCell ⟨w.heap.size, 0, none⟩ (.slice y0 Z.l0 k0)).setCell ⟨w.heap.size, 1, none⟩ (.slice y1 Z.l1 k1))) := by
  have bB : Below W.heap.size W wB := bA.trans (q.mono bA.size)
  have os : Off [w.heap.size] wB ((wB.setCell ⟨w.heap.size, 0, none⟩ (.slice y0 Z.l0 k0)).setCell ⟨w.heap.size, 1, none⟩ (.slice y1 Z.l1 k1)) := Off.trans (Off.setCell _ 0 _ _) (Off.setCell _ 1 _ _)
  have lW : w.heap.size + 1 < W.heap.size := h1.lt
  have kb := h0.off (Off.of_below (l := []) bB) (by simp)
  have kz := h1.off (Off.of_below (l := []) bB) (by simp)
  have p0 := ownB o0 q
  have hbw : Below w.heap.size w wB := bW.trans (bB.mono bW.size)
  have hT : 26 ≠ 50 := by decide
  have t0 := own_ty hT kb p0
  have t1 := own_ty hT kb o1
  refine ⟨#[.slice y0 Z.l0 k0, .slice y1 Z.l1 k1, .int .u32 (Z.ms : Nat)], ⟨(kb.set 0 _).set 1 _, y0, k0, y1, k1, rfl, rfl, rfl, own_baseS (own_off p0 os (fun k hk hm => by simp at hm; rw [hm] at hk; exact t0 hk)) (by omega), own_baseS (own_off o1 os (fun k hk hm => by simp at hm; rw [hm] at hk; exact t1 hk)) (by have := bA.size; omega), fun k hk hk2 => ?_⟩, kz.off os (by simp), os.below hbw (by simp) hbw.size⟩
  have h3 := (o0.lt k hk).2
  have h4 := (o1.lt k hk2).1
  omega
end Go.Proofs.YtnmnjcjfgbpkaaaDoor

