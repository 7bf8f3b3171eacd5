/- Layer 20: a scene in memory: what the program's Parse keeps. (gensq4.py) -/
import Derived.Test.YtnmnjcjfgbpkaaaDoorJSq0
import Derived.Test.YtnmnjcjfgbpkaaaDoorJSw3
namespace Go.Proofs.YtnmnjcjfgbpkaaaDoor
set_option maxRecDepth 100000
open Go.RowKit Go.Maps
set_option maxRecDepth 100000
set_option linter.unusedVariables false
/-- A list of our own where other blocks turn. -/
theorem own_keepA {B : Nat} {w w' : World} {T K n : Nat} {v : Value} {xs : List Value} (o : w.ownsRow B T K v n xs) (h : ∀ g, v.ownBlock = some g → w'.heap[g]? = w.heap[g]?) : w'.ownsRow B T K v n xs := by
  refine ⟨o.1, ?_⟩
  rcases o.2 with q | ⟨g, cap, cur, e, hB, hg, r⟩
  · exact .inl q
  · exact .inr ⟨g, cap, cur, e, hB, (h g (by rw [e]; rfl)).trans hg, r⟩
/-- Lists of unlike types lie apart. -/
theorem own_two {B B' : Nat} {w : World} {T T' K K' n n' : Nat} {v v' : Value} {xs xs' : List Value} (hT : T ≠ T') (o : w.ownsRow B T K v n xs) (o' : w.ownsRow B' T' K' v' n' xs') : ∀ g, v.ownBlock = some g → v'.ownBlock ≠ some g := fun g hg hg' => by
  rcases o.2 with ⟨e, _⟩ | ⟨k, cap, cur, e, _, hk, _⟩
  · rw [e] at hg
    simp [Value.ownBlock] at hg
  · rcases o'.2 with ⟨e', _⟩ | ⟨k', cap', cur', e', _, hk', _⟩
    · rw [e'] at hg'
      simp [Value.ownBlock] at hg'
    · rw [e] at hg
      rw [e'] at hg'
      simp only [Value.ownBlock, Option.some.injEq] at hg hg'
      subst hg hg'
      rw [hk] at hk'
      cases hk'
      exact hT rfl
/-- A scene at block b: net and moves. -/
structure Sc (w wx : World) (b : Nat) (S : Sn) : Prop where
  ex : ∃ cs v D, NtW w.heap.size wx b 58 cs S.Z ∧ cs.size = 4 ∧ cs[3]? = some v ∧ Mc w wx 45 v S.M.length (mvL S.M) D ∧ (S.M.length = 0 → v = .slice none 0 0)
  bel : Below w.heap.size w wx
theorem Sc.below {w wx w' : World} {b : Nat} {S : Sn} (h : Sc w wx b S) (q : Below wx.heap.size wx w') : Sc w w' b S := by
  obtain ⟨cs, v, D, h1, h2, h3, h4, h5⟩ := h.ex
  exact ⟨⟨cs, v, D, h1.below q, h2, h3, OL.below h4 q, h5⟩, h.bel.trans (q.mono h.bel.size)⟩
/-- No moves. -/
theorem mc_none {w wx : World} {M : Nat → Mv} {D : Nat → Md} (b : Below w.heap.size w wx) : Mc w wx 45 (.slice none 0 0) 0 M D := ⟨⟨by simp [fl], .inl ⟨rfl, rfl⟩⟩, b, (fun i hi => by omega), (fun i hi => by omega)⟩
theorem size4 {cs cs' : Array Value} {v : Value} (h : cs.size = 4) (h3 : cs[3]? = some v) (k : ∀ i, 3 ≤ i → cs'[i]? = cs[i]?) : cs'.size = 4 ∧ cs'[3]? = some v := by
  have a := k 3 (Nat.le_refl _)
  rw [h3] at a
  have b := k 4 (by omega)
  rw [Array.getElem?_eq_none (xs := cs) (by omega)] at b
  refine ⟨?_, a⟩
  have h1 : 3 < cs'.size := (Array.getElem?_eq_some_iff.1 a).1
  have h2 : cs'.size ≤ 4 := Array.getElem?_eq_none_iff.1 b
  omega
/-- A scene behind a net's line. -/
theorem sc_net {w wx w' : World} {b : Nat} {S : Sn} {Z : Nt} {cs cs' : Array Value} {v : Value} (hM : S.M.length = 0) (hv : v = .slice none 0 0) (h2 : cs.size = 4) (h3 : cs[3]? = some v) (hn : NtW w.heap.size w' b 58 cs' Z) (k : ∀ i, 3 ≤ i → cs'[i]? = cs[i]?) (q : Below w.heap.size w w') : Sc w w' b ⟨Z, S.M⟩ := by
  obtain ⟨h4, h5⟩ := size4 h2 h3 k
  subst hv
  refine ⟨⟨cs', _, fun _ => ⟨none, 0⟩, hn, h4, h5, ?_, fun _ => rfl⟩, q⟩
  show Mc w w' 45 (.slice none 0 0) S.M.length (mvL S.M) _
  rw [hM]
  exact mc_none q
/-- A scene behind a move's line. -/
theorem sc_more {w wx w9 : World} {b : Nat} {S : Sn} {m : Mv} {am : Option Addr} {cm : Nat} {cs : Array Value} {v v9 : Value} {D : Nat → Md} (hb : w.heap.size ≤ b) (N5 : NtW w.heap.size wx b 58 cs S.Z) (h2 : cs.size = 4) (h3 : cs[3]? = some v) (L4 : Mc w wx 45 v S.M.length (mvL S.M) D) (R : Row8 wx am m.l cm m.b) (hne : ∀ y, am = some y → 0 < m.l → some y.block ≠ v.ownBlock) (O9 : w9.ownsRow w.heap.size 45 9 v9 (S.M.length + 1) (fl S.M.length (fun j => (mvL S.M j).ls (D j)) ++ m.ls ⟨am, cm⟩)) (G9 : wx.grownBy w9 v.ownBlock) (E9 : v9.ownBlock = v.ownBlock ∨ v9.ownBlock = some wx.heap.size) : Sc w (w9.setCell ⟨b, 3, none⟩ v9) b ⟨S.Z, S.M ++ [m]⟩ ∧ (∀ k ks T, k ≠ b → T ≠ 45 → Bk wx k ks T → Bk (w9.setCell ⟨b, 3, none⟩ v9) k ks T) ∧ KO wx (w9.setCell ⟨b, 3, none⟩ v9) := by
  obtain ⟨D', hD'⟩ := mc_more (wr := wx) (w8 := wx) L4 R hne O9 G9 E9
  have own := OL.own L4
  have kt : ∀ {k : Nat} {ks : Array Value} {T : TypeId}, T ≠ 45 → Bk wx k ks T → Bk w9 k ks T := fun {k ks T} hT hk => (G9.block k hk.lt (fun e => own_tyM hT hk own e.symm)).trans hk
  have q : Off [b] w9 (w9.setCell ⟨b, 3, none⟩ v9) := Off.setCell _ 3 _ _
  have bk9 : Bk w9 b cs 58 := kt (by decide) N5.bk
  have b9 : Below w.heap.size w w9 := (OL.bel L4).grown G9 (OL.bel L4).size (fun k hk => (own.lt k hk).1)
  have b10 := q.below b9 (by simpa using hb) b9.size
  have k10 := bk9.set 3 v9
  obtain ⟨a0, c0, a1, c1, e0, e1, e2, o0, o1, d⟩ := N5.v
  have hcs : ∀ u ∈ cs.toList, ∀ n, u ≠ .int .u8 n := fun u hu n e => by
    subst e
    obtain ⟨j, hj, hg⟩ := List.mem_iff_getElem.1 hu
    rw [Array.getElem_toList] at hg
    have hj' : j < cs.size := by simpa using hj
    have hs : cs[j]? = some (.int .u8 n) := by rw [Array.getElem?_eq_getElem hj', hg]
    obtain ⟨av, cv, ev, _⟩ := Mc.rows L4
    rw [ev] at h3
    have : j = 0 ∨ j = 1 ∨ j = 2 ∨ j = 3 := by omega
    rcases this with r | r | r | r <;> subst r
    · rw [e0] at hs; cases hs
    · rw [e1] at hs; cases hs
    · rw [e2] at hs; cases hs
    · rw [h3] at hs; cases hs
  have kp : ∀ (i : Nat) (u : Value), i ≠ 3 → cs[i]? = some u → (cs.setIfInBounds 3 v9)[i]? = some u := fun i u hi hu => by
    rw [Array.getElem?_setIfInBounds_ne (Ne.symm hi)]
    exact hu
  have o9 : ∀ {x : Value} {n : Nat} {xs : List Value}, wx.ownsRow w.heap.size 50 5 x n xs → (w9.setCell ⟨b, 3, none⟩ v9).ownsRow w.heap.size 50 5 x n xs := fun {x n xs} ho => by
    refine own_keepA ho (fun g hg => ?_)
    have hlt := (ho.lt g hg).2
    have h1 : w9.heap[g]? = wx.heap[g]? := G9.block g hlt (fun e => own_two (by decide) ho own g hg e.symm)
    have h2 : g ≠ b := fun e => own_ty (by decide) N5.bk ho (by rw [hg, e])
    rw [← h1]
    exact q.block g (Nat.lt_of_lt_of_le hlt G9.size) (by simpa using h2)
  refine ⟨⟨⟨cs.setIfInBounds 3 v9, v9, D', ⟨k10, a0, c0, a1, c1, kp 0 _ (by decide) e0, kp 1 _ (by decide) e1, kp 2 _ (by decide) e2, o9 o0, o9 o1, d⟩, by simp [h2], ?_, ?_, ?_⟩, b10⟩, (fun k ks T hk hT hb2 => (kt hT hb2).off q (by simpa using hk)), (KO.grown G9 own).trans (KO.off q bk9)⟩
  · rw [Array.getElem?_setIfInBounds_self_of_lt (by omega)]
  · refine ⟨own_keepA (OL.own hD') (fun g hg => q.block g ((OL.own hD').lt g hg).2 ?_), b10, OL.len hD', fun i hi r hr => ⟨(OL.row hD' i hi r hr).1.offS q (fun x hx hn => ?_), (OL.row hD' i hi r hr).2⟩⟩
    · have := own_tyM (T := 58) (by decide) bk9 (OL.own hD')
      simp only [List.mem_singleton]
      rintro rfl
      exact this hg
    · have := row8_ne (OL.row hD' i hi r hr).1 bk9 hcs x hx hn
      simpa using this
  · intro q0
    simp at q0
end Go.Proofs.YtnmnjcjfgbpkaaaDoor

namespace Go.Proofs.YtnmnjcjfgbpkaaaDoor
set_option maxRecDepth 100000
open Go.RowKit Go.Maps
set_option maxRecDepth 100000
set_option linter.unusedVariables false
/-- One move is appended, in a region that draws its order. -/
theorem step_app1M {ops : Array Oper} {o : Oper} {a : Act} {w : World} {K : Act → World → Prop} {Q : Exit → Act → World → Prop} {E : Prop}
    (hg : o.guard = none) (s x : Operand) (hop : o.op = Op.call { callee := Callee.builtin Builtin.append, args := #[s, x], argTypes := #[27, 27] }) (hty : o.type = 27)
    (B : Nat) (v : Value) (l : Nat) (xs : List Value) (A : Array Value) (one : ∀ u ∈ A.toList, u.oneCell' = true) (lA : A.toList.length = 1 * 9) (hs : a.eval s = v) (h1 : w.ownsRow B 45 9 v l xs) (q : Nat) (hx : a.eval x = .slice (some ⟨q, 0, none⟩) 1 1) (hq : ∀ j u, A.toList[j]? = some u → w.cell? ((⟨q, 0, none⟩ : Addr).add j) = some u) (hl : l ≤ 1000000) (hB : B ≤ w.heap.size)
    (hK : ∀ a' c' w', Hid (w'.ownsRow B 45 9 (.slice a' (l + 1) c') (l + 1) (xs ++ A.toList) ∧ w.grownBy w' v.ownBlock ∧ ((Value.slice a' (l + 1) c').ownBlock = v.ownBlock ∨ (Value.slice a' (l + 1) c').ownBlock = some w.heap.size)) → K (a.put o.dst (.slice a' (l + 1) c')) w') :
    if Region.wanted o (yielded ops a.tmps) = true then Oper.wp Tryd.prog o a w K Q else E := by
  have hw : Region.wanted o (yielded ops a.tmps) = true := by simp [Region.wanted, hg]
  rw [if_pos hw]
  obtain ⟨i0, hI, hz0, hz1, hz2⟩ := info_parts info_mv
  obtain ⟨v', w', hr', k1, k2, _, k4⟩ := run_append_own_at (P := Tryd.prog) w B 27 27 45 i0 (.agg #[.int .i64 0, .int .i64 0, .int .i64 0, .int .i64 0, .int .i64 0, .int .u32 0, .int .i64 0, .bool false, .slice none 0 0]) 9 88 Tryd.underlying27 hI hz0 hz1 hz2 rfl (by decide) v l xs h1 ⟨q, 0, none⟩ 1 1 A.toList lA hq one (by unfold maxLen; omega) (by omega) hB
  obtain ⟨g', c', rfl, _⟩ := own_slcM k1
  unfold Oper.wp execOp
  simp only [hop, hty, resolve, invoke, builtin, Sem.run_bind, Sem.run_pure, Result.andThen_ok, List.map_toArray, List.map_cons, List.map_nil, hs, hx, hr']
  exact hK _ _ w' ⟨k1, k2, k4⟩
/-- What take leaves. -/
def TkP (w wx : World) (b : Nat) (S : Sn) (l : List UInt8) (r : Ending) (w' : World) : Prop := r = .returned (.int .i64 (S.err l)) ∧ Hid ((S.err l = 0 → Sc w w' b (S.next l)) ∧ Below w.heap.size wx w' ∧ (∀ k ks T, k ≠ b → T ≠ 50 → T ≠ 45 → Bk wx k ks T → Bk w' k ks T) ∧ KO wx w')
set_option maxHeartbeats 8000000 in
theorem ptake (w : World) (b : Nat) (hb : w.heap.size ≤ b) (S : Sn) (hz0 : S.Z.l0 ≤ 1000000) (hz1 : S.Z.l1 ≤ 1000000) (hMl : S.M.length ≤ 1000000) (l : List UInt8) (hl : l.length ≤ 1000000000) (Lv : Lw w) (mx : Int) (hmx : w.cell? ⟨1, 0, none⟩ = some (.int .i64 mx)) (wx : World) (h : Sc w wx b S) : Calls Tryd.prog 22 #[.pointer (some ⟨b, 0, none⟩), .string (tx l)] wx (TkP w wx b S l) := by
  have hWo : Calls Tryd.prog 45 #[.string (tx l)] wx fun r w' => ∃ a c, r = .returned (.slice a (wsOf l).length c) ∧ Hid (WsRow w' a (wsOf l).length (wsL (wsOf l)) ∧ (wsOf l).length ≤ c ∧ c ≤ 9223372036854775807 ∧ Below wx.heap.size wx w') := by
    refine (pwords l hl wx mx (cellB hmx h.bel)).mono ?_
    rintro r w' ⟨a, c, rfl, H⟩
    obtain ⟨h1, h2, h3, _⟩ := own_txV rfl H.out.1
    exact ⟨a, c, rfl, h1, h2, h3, H.out.2⟩
  have hLL : ∀ i, i < (wsOf l).length → (wsL (wsOf l) i).length ≤ 281474976710656 := fun i _ => by
    have := wsL_len (wsOf_size l).1 i
    omega
  have errE : S.err l = if 1024 < l.length then 204 else if (wsOf l).length = 0 then 0 else if S.M.length = 0 ∧ hdIs (wsOf l).length (wsL (wsOf l)) = true then hdEr (wsOf l).length (wsL (wsOf l)) else rdEr (wsOf l).length (wsL (wsOf l)) := rfl
  have nxtE : S.next l = if (wsOf l).length = 0 then S else if S.M.length = 0 ∧ hdIs (wsOf l).length (wsL (wsOf l)) = true then ⟨S.Z.hd (wsOf l).length (wsL (wsOf l)), S.M⟩ else ⟨S.Z, S.M ++ [rdM (wsOf l).length (wsL (wsOf l))]⟩ := rfl
  have hPt : ∀ (e : Int) (w' : World), S.err l = e → (e = 0 → Sc w w' b (S.next l)) → Below wx.heap.size wx w' → TkP w wx b S l (.returned (.int .i64 e)) w' := fun e w' q1 q2 q3 => by
    subst q1
    exact ⟨rfl, q2, q3.mono h.bel.size, (fun k ks T _ _ _ hk => hk.off (Off.of_below (l := []) q3) (by simp)), KO.of_below q3⟩
  have hXs : (tx l).size = l.length := tx_size l
  obtain ⟨X, hX⟩ : ∃ x, tx l = x := ⟨_, rfl⟩
  rw [hX] at hWo hXs ⊢
  obtain ⟨L, hL⟩ : ∃ y, wsL (wsOf l) = y := ⟨_, rfl⟩
  obtain ⟨N, hN⟩ : ∃ y, (wsOf l).length = y := ⟨_, rfl⟩
  rw [hL, hN] at errE nxtE hWo hLL
  have HF : Hid (_) := And.intro errE nxtE
  have HPt : Hid (_) := hPt
  have HLL : Hid (_) := hLL
  have HSc : Hid (_) := h
  have HBl : Hid (_) := h.bel
  have HLw : Hid (_) := Lv
  have HMl : Hid (_) := hMl
  have HZl : Hid (_) := And.intro hz0 hz1
  have HG : Hid (_) := hb
  have HX : Hid (_) := hXs
  clear errE nxtE hPt hLL h Lv hMl hz0 hz1 hXs hX hL hN hb hmx hl
  by_cases h1024 : 1024 < X.size
  · have qL : (1024 : Int) < ((X.size : Nat) : Int) := by omega
    have HZ : Hid (TkP w wx b S l (.returned (.int .i64 204)) wx) := HPt.out 204 wx (by rw [HF.out.1, if_pos (by have := HX.out; omega)]) (fun q => by simp at q) (Below.refl _ _)
    clear hWo h1024
    go_enter Tryd.func22, Tryd.ntmps22
    go_wp2_with fail
    go_ret
    exact HZ.out
  have qL : ¬ (1024 : Int) < ((X.size : Nat) : Int) := by omega
  have HNL : Hid (¬ 1024 < l.length) := by have := HX.out; exact fun q => h1024 (by omega)
  clear h1024
  go_enter Tryd.func22, Tryd.ntmps22
  go_wp2_with fail
  refine hWo.mono ?_
  rintro r w2 ⟨aw, cw, rfl, H2⟩
  clear hWo qL
  have HB : Hid (Below wx.heap.size wx w2) := H2.out.2.2.2
  by_cases hN0 : N = 0
  · have HZ : Hid (TkP w wx b S l (.returned (.int .i64 0)) w2) := HPt.out 0 w2 (by rw [HF.out.1, if_neg HNL.out, if_pos hN0]) (fun _ => by rw [HF.out.2, if_pos hN0]; exact HSc.out.below HB.out) HB.out
    subst hN0
    clear H2
    go_wp2_with fail
    go_ret
    exact HZ.out
  have qN : (((N : Nat) : Int) == 0) = false := beq_eq_false_iff_ne.2 (by omega)
  obtain ⟨g, o, ea, cw0⟩ := H2.out.1 0 (by omega)
  subst ea
  rw [Nat.add_zero] at cw0
  have HWS : Hid (WsRow w2 (some ⟨g, o, none⟩) N L) := H2.out.1
  have HC : Hid (_) := And.intro H2.out.2.1 (And.intro H2.out.2.2.1 HLL.out)
  have HLv : Hid (Lw w2) := (HLw.out.below HBl.out).below HB.out
  obtain ⟨n, hn⟩ : ∃ n, N = n + 1 := ⟨N - 1, by omega⟩
  have hIs : Calls Tryd.prog 46 #[.slice (some ⟨g, o, none⟩) N cw] w2 fun r w' => r = .returned (.bool (hdW (L 0))) ∧ w' = w2 := by
    rw [hn]
    exact pisHead g o n cw (L 0) w2 cw0
  have HI : Hid (hdIs N L = hdW (L 0)) := by
    show hdIs N L = hdW (L 0)
    unfold hdIs
    rw [decide_eq_true (by omega : 0 < N), Bool.true_and]
  have HN1 : Hid (_) := hn
  obtain ⟨cs, v, D, hN5, h4, h3, hMc, hnil⟩ := (HSc.out.below HB.out).ex
  obtain ⟨av, cv, ev, hr0⟩ := Mc.rows hMc
  clear hr0 H2 HLL cw0 hn
  by_cases hM0 : S.M.length = 0
  · have ev2 := hnil hM0
    clear ev
    subst ev2
    have HM : Hid (_) := hM0
    have cb3 : w2.cell? ⟨b, 3, none⟩ = some (.slice none 0 0) := (hN5.bk.cell 3).trans h3
    have HD : Hid (_) := And.intro hN5 (And.intro h4 (And.intro h3 (And.intro hMc hnil)))
    clear hN5 h4 h3 hMc hnil hM0
    cases hh : hdW (L 0) with
    | true =>
      rw [hh] at hIs
      have hEn := penter w.heap.size b 58 (by decide) cs S.Z HZl.out.1 HZl.out.2 g o N n cw (cw - 1) HN1.out (by have := HC.out.1; omega) (by have := HC.out.1; have := HN1.out; omega) HC.out.2.1 L HC.out.2.2 hh w2 HLv.out HD.out.1 HG.out (fun i hi => by
        obtain ⟨g', o', e', c'⟩ := HWS.out i hi
        cases e'
        exact c')
      have HeR : Hid (S.err l = hdE n L ∧ S.next l = ⟨S.Z.put n L, S.M⟩) := by
        have hi : hdIs N L = true := by rw [HI.out]; exact hh
        have hn1 : N - 1 = n := by have := HN1.out; omega
        refine ⟨?_, ?_⟩
        · rw [HF.out.1, if_neg HNL.out, if_neg hN0, if_pos ⟨HM.out, hi⟩]
          unfold hdEr
          rw [if_pos hi, hn1]
        · rw [HF.out.2, if_neg hN0, if_pos ⟨HM.out, hi⟩]
          unfold Nt.hd
          rw [if_pos hi, hn1]
      clear hh
      go_wp2_with fail
      refine hIs.mono ?_
      rintro r w3 ⟨rfl, rfl⟩
      clear hIs
      go_wp2_with fail
      refine hEn.mono ?_
      rintro r w4 ⟨rfl, H4⟩
      clear hEn
      have HZ : Hid (TkP w wx b S l (.returned (.int .i64 (hdE n L))) w4) := by
        obtain ⟨cs', n4, k4, b4, o4, ko4⟩ := H4.out
        have qx : Below w.heap.size wx w4 := (HB.out.mono HBl.out.size).trans b4
        refine ⟨by rw [HeR.out.1], fun _ => ?_, qx, (fun k ks T hk hP _ hbk => o4 k ks T hk hP (hbk.off (Off.of_below (l := []) HB.out) (by simp))), (KO.of_below HB.out).trans ko4⟩
        rw [HeR.out.2]
        exact sc_net (wx := w3) (cs := cs) HM.out rfl HD.out.2.1 HD.out.2.2.1 n4 k4 (HBl.out.trans qx)
      clear H4
      go_wp2_with fail
      go_ret
      exact HZ.out
    | false =>
      rw [hh] at hIs
      have HNo : Hid (¬ (S.M.length = 0 ∧ hdIs N L = true)) := fun q => by
        rw [HI.out, hh] at q
        exact absurd q.2 (by decide)
      clear hh
      go_wp2_with fail
      refine hIs.mono ?_
      rintro r w3 ⟨rfl, rfl⟩
      clear hIs cb3
      have hR := pread (some ⟨g, o, none⟩) N cw HC.out.1 HC.out.2.1 L HC.out.2.2 w3 HLv.out HWS.out
      have HeR : Hid (S.err l = rdEr N L ∧ S.next l = ⟨S.Z, S.M ++ [rdM N L]⟩) := ⟨by rw [HF.out.1, if_neg HNL.out, if_neg hN0, if_neg HNo.out], by rw [HF.out.2, if_neg hN0, if_neg HNo.out]⟩
      obtain ⟨m, hm⟩ : ∃ y, rdM N L = y := ⟨_, rfl⟩
      obtain ⟨re, hre⟩ : ∃ y, rdEr N L = y := ⟨_, rfl⟩
      rw [hm, hre] at hR HeR
      clear hm hre
      go_wp2_with fail
      refine Calls.mono hR ?_
      rintro r w7 ⟨am, cm, rfl, H7⟩
      clear hR
      have k8 := Bk.new w7 (m.cs am cm) 45
      have b8 : Below w7.heap.size w7 (w7.alloc (.cells (m.cs am cm) 45)) := belA (Below.refl _ w7) _
      obtain ⟨w8, hw8⟩ : ∃ y, w7.alloc (.cells (m.cs am cm) 45) = y := ⟨_, rfl⟩
      rw [hw8] at k8 b8
      obtain ⟨bm, hbm⟩ : ∃ y, w7.heap.size = y := ⟨_, rfl⟩
      rw [hbm] at k8
      have q78 : Below w3.heap.size w3 w8 := H7.out.2.1.trans (b8.mono H7.out.2.1.size)
      have HR8 : Hid (Row8 w8 am m.l cm m.b ∧ (∀ y, am = some y → 0 < m.l → w3.heap.size ≤ y.block) ∧ Below w3.heap.size w3 w8 ∧ Bk w8 bm (m.cs am cm) 45) := ⟨H7.out.1.below b8, H7.out.2.2, q78, k8⟩
      have HW8 : Hid (w7.alloc (.cells #[.int .i64 m.k, .int .i64 m.c, .int .i64 m.s, .int .i64 m.f, .int .i64 m.a, .int .u32 (m.w : Nat), .int .i64 m.n, .bool m.h, .slice am m.l cm] 45) = w8 ∧ w7.heap.size = bm) := ⟨hw8, hbm⟩
      clear hw8 hbm b8 q78 H7 k8
      go_upto_region 9 with fail
      rw [HW8.out.1, HW8.out.2]
      clear HW8
      by_cases hre0 : re = 0
      rotate_left
      · have qe : (re == 0) = false := beq_eq_false_iff_ne.2 hre0
        have HZ : Hid (TkP w wx b S l (.returned (.int .i64 re)) w8) := by
          have e := HPt.out re w8 HeR.out.1 (fun q => absurd q hre0) (HB.out.trans (HR8.out.2.2.1.mono HB.out.size))
          exact e
        clear HR8 HeR
        go_wp2_with fail
        go_ret
        exact HZ.out
      subst hre0
      have HGen : Hid (∀ (W' w9 : World) (a' : Option Addr) (c' : Nat), Below w8.heap.size w8 W' → w9.ownsRow w.heap.size 45 9 (.slice a' (0 + 1) c') (0 + 1) (fl 0 (fun j => (mvL S.M j).ls (D j)) ++ (m.cs am cm).toList) → W'.grownBy w9 (Value.slice none 0 0).ownBlock → ((Value.slice a' (0 + 1) c').ownBlock = (Value.slice none 0 0).ownBlock ∨ (Value.slice a' (0 + 1) c').ownBlock = some W'.heap.size) → TkP w wx b S l (.returned (.int .i64 0)) (w9.setCell ⟨b, 3, none⟩ (.slice a' (0 + 1) c'))) := fun W' w9 a' c' bW o9 g9 e9 => by
        have q2 : Below w3.heap.size w3 W' := HR8.out.2.2.1.trans (bW.mono HR8.out.2.2.1.size)
        have L4 := OL.below HD.out.2.2.2.1 q2
        obtain ⟨s1, s2, s3⟩ := sc_more HG.out (HD.out.1.below q2) HD.out.2.1 HD.out.2.2.1 L4 (HR8.out.1.below bW) (fun y hy hn e => by
          have h1 := ((OL.own HD.out.2.2.2.1).lt y.block e.symm).2
          have h2 := HR8.out.2.1 y hy hn
          omega) (by rw [HM.out]; exact o9) g9 e9
        refine ⟨by rw [HeR.out.1], fun _ => ?_, ?_, (fun k ks T hk hP hMt hbk => s2 k ks T hk hMt (hbk.off (Off.of_below (l := []) (HB.out.trans (q2.mono HB.out.size))) (by simp))), (KO.of_below (HB.out.trans (q2.mono HB.out.size))).trans s3⟩
        · rw [HeR.out.2]
          exact s1
        · have qx : Below wx.heap.size wx W' := HB.out.trans (q2.mono HB.out.size)
          have b9 : Below w.heap.size wx w9 := Below.grown (qx.mono HBl.out.size) g9 (Nat.le_trans HBl.out.size qx.size) (fun k hk => ((OL.own L4).lt k hk).1)
          exact (Off.setCell b 3 w9 _).below b9 (by simpa using HG.out) (Nat.le_trans (Nat.le_trans HBl.out.size qx.size) g9.size)
      have bk8 : Bk w8 b cs 58 := HD.out.1.bk.off (Off.of_below (l := []) HR8.out.2.2.1) (by simp)
      have cb : w8.cell? ⟨b, 3, none⟩ = some (.slice none 0 0) := (bk8.cell 3).trans HD.out.2.2.1
      have fb := bk8.fz
      have cbA : ∀ ob, (w8.alloc ob).cell? ⟨b, 3, none⟩ = some (.slice none 0 0) := fun ob => cellB cb (belA (Below.refl _ _) _)
      have ow8 := ownB (OL.own HD.out.2.2.2.1) HR8.out.2.2.1
      rw [HM.out] at ow8
      have HO8 : Hid (w8.ownsRow w.heap.size 45 9 (.slice none 0 0) 0 (fl 0 (fun j => (mvL S.M j).ls (D j))) ∧ Bk w8 b cs 58 ∧ cs[3]? = some (.slice none 0 0) ∧ (Value.slice none 0 0).ownBlock ≠ some b ∧ w.heap.size ≤ w8.heap.size) := ⟨ow8, bk8, HD.out.2.2.1, own_tyM (by decide) bk8 ow8, Nat.le_trans HG.out (Nat.le_of_lt bk8.lt)⟩
      have hl9 : S.M.length ≤ 1000000 := HMl.out
      rw [HM.out] at hl9
      have p0 : w8.cell? ⟨bm, 0, none⟩ = some (.int .i64 m.k) := HR8.out.2.2.2.cell 0
      have p1 : w8.cell? ⟨bm, 1, none⟩ = some (.int .i64 m.c) := HR8.out.2.2.2.cell 1
      have p2 : w8.cell? ⟨bm, 2, none⟩ = some (.int .i64 m.s) := HR8.out.2.2.2.cell 2
      have p3 : w8.cell? ⟨bm, 3, none⟩ = some (.int .i64 m.f) := HR8.out.2.2.2.cell 3
      have p4 : w8.cell? ⟨bm, 4, none⟩ = some (.int .i64 m.a) := HR8.out.2.2.2.cell 4
      have p5 : w8.cell? ⟨bm, 5, none⟩ = some (.int .u32 (m.w : Nat)) := HR8.out.2.2.2.cell 5
      have p6 : w8.cell? ⟨bm, 6, none⟩ = some (.int .i64 m.n) := HR8.out.2.2.2.cell 6
      have p7 : w8.cell? ⟨bm, 7, none⟩ = some (.bool m.h) := HR8.out.2.2.2.cell 7
      have p8 : w8.cell? ⟨bm, 8, none⟩ = some (.slice am m.l cm) := HR8.out.2.2.2.cell 8
      clear ow8 bk8
      go_upto_region 10 with fail
      clear HR8 HeR HD
      go_region_law (first
        | (refine step_app1M rfl (.tmp 42) (.tmp 44) rfl rfl w.heap.size (.slice none 0 0) 0 _ (m.cs am cm) (m.cs_one am cm) rfl rfl (ownB HO8.out.1 (by repeat (first | with_reducible exact Below.refl _ _ | with_reducible refine Below.drew ?_ | with_reducible refine belA ?_ _))) w8.heap.size rfl (by intro j u hu; rw [Addr.add_mid]; exact range_new _ (m.cs am cm) 45 j u hu) hl9 (by have := HO8.out.2.2.2.2; simp; omega) ?_; intro a' c' w9 h9; have bk9 : Bk w9 b cs 58 := (h9.out.2.1.block b (by have := HO8.out.2.1.lt; simp; omega) (fun e => HO8.out.2.2.2.1 e.symm)).trans (HO8.out.2.1.off (Off.of_below (l := []) (by repeat (first | with_reducible exact Below.refl _ _ | with_reducible refine Below.drew ?_ | with_reducible refine belA ?_ _))) (by simp)); have c9 := (bk9.cell 3).trans HO8.out.2.2.1; have f9 := bk9.fz; have HFin : Hid (_) := HGen.out _ w9 a' c' (by repeat (first | with_reducible exact Below.refl _ _ | with_reducible refine Below.drew ?_ | with_reducible refine belA ?_ _)) h9.out.1 h9.out.2.1 h9.out.2.2; clear bk9)
        | fail)
      all_goals
        go_wp2_with fail
        go_ret
        exact HFin.out
  obtain ⟨nm, hnm⟩ : ∃ y, S.M.length = y := ⟨_, rfl⟩
  rw [hnm] at ev hM0
  subst ev
  have HM : Hid (_) := hnm
  have cb3 : w2.cell? ⟨b, 3, none⟩ = some (.slice av nm cv) := (hN5.bk.cell 3).trans h3
  have HD : Hid (_) := And.intro hN5 (And.intro h4 (And.intro h3 (And.intro hMc hnil)))
  have qM : (((nm : Nat) : Int) == 0) = false := beq_eq_false_iff_ne.2 (by omega)
  have HNo : Hid (¬ (S.M.length = 0 ∧ hdIs N L = true)) := fun q => hM0 (by rw [← HM.out]; exact q.1)
  clear hN5 h4 h3 hMc hnil hnm hIs
  have hR := pread (some ⟨g, o, none⟩) N cw HC.out.1 HC.out.2.1 L HC.out.2.2 w2 HLv.out HWS.out
  have HeR : Hid (S.err l = rdEr N L ∧ S.next l = ⟨S.Z, S.M ++ [rdM N L]⟩) := ⟨by rw [HF.out.1, if_neg HNL.out, if_neg hN0, if_neg HNo.out], by rw [HF.out.2, if_neg hN0, if_neg HNo.out]⟩
  obtain ⟨m, hm⟩ : ∃ y, rdM N L = y := ⟨_, rfl⟩
  obtain ⟨re, hre⟩ : ∃ y, rdEr N L = y := ⟨_, rfl⟩
  rw [hm, hre] at hR HeR
  clear hm hre
  go_wp2_with fail
  refine Calls.mono hR ?_
  rintro r w7 ⟨am, cm, rfl, H7⟩
  clear hR
  have k8 := Bk.new w7 (m.cs am cm) 45
  have b8 : Below w7.heap.size w7 (w7.alloc (.cells (m.cs am cm) 45)) := belA (Below.refl _ w7) _
  obtain ⟨w8, hw8⟩ : ∃ y, w7.alloc (.cells (m.cs am cm) 45) = y := ⟨_, rfl⟩
  rw [hw8] at k8 b8
  obtain ⟨bm, hbm⟩ : ∃ y, w7.heap.size = y := ⟨_, rfl⟩
  rw [hbm] at k8
  have q78 : Below w2.heap.size w2 w8 := H7.out.2.1.trans (b8.mono H7.out.2.1.size)
  have HR8 : Hid (Row8 w8 am m.l cm m.b ∧ (∀ y, am = some y → 0 < m.l → w2.heap.size ≤ y.block) ∧ Below w2.heap.size w2 w8 ∧ Bk w8 bm (m.cs am cm) 45) := ⟨H7.out.1.below b8, H7.out.2.2, q78, k8⟩
  have HW8 : Hid (w7.alloc (.cells #[.int .i64 m.k, .int .i64 m.c, .int .i64 m.s, .int .i64 m.f, .int .i64 m.a, .int .u32 (m.w : Nat), .int .i64 m.n, .bool m.h, .slice am m.l cm] 45) = w8 ∧ w7.heap.size = bm) := ⟨hw8, hbm⟩
  clear hw8 hbm b8 q78 H7 k8
  go_upto_region 9 with fail
  rw [HW8.out.1, HW8.out.2]
  clear HW8
  by_cases hre0 : re = 0
  rotate_left
  · have qe : (re == 0) = false := beq_eq_false_iff_ne.2 hre0
    have HZ : Hid (TkP w wx b S l (.returned (.int .i64 re)) w8) := by
      have e := HPt.out re w8 HeR.out.1 (fun q => absurd q hre0) (HB.out.trans (HR8.out.2.2.1.mono HB.out.size))
      exact e
    clear HR8 HeR
    go_wp2_with fail
    go_ret
    exact HZ.out
  subst hre0
  have HGen : Hid (∀ (W' w9 : World) (a' : Option Addr) (c' : Nat), Below w8.heap.size w8 W' → w9.ownsRow w.heap.size 45 9 (.slice a' (nm + 1) c') (nm + 1) (fl nm (fun j => (mvL S.M j).ls (D j)) ++ (m.cs am cm).toList) → W'.grownBy w9 (Value.slice av nm cv).ownBlock → ((Value.slice a' (nm + 1) c').ownBlock = (Value.slice av nm cv).ownBlock ∨ (Value.slice a' (nm + 1) c').ownBlock = some W'.heap.size) → TkP w wx b S l (.returned (.int .i64 0)) (w9.setCell ⟨b, 3, none⟩ (.slice a' (nm + 1) c'))) := fun W' w9 a' c' bW o9 g9 e9 => by
    have q2 : Below w2.heap.size w2 W' := HR8.out.2.2.1.trans (bW.mono HR8.out.2.2.1.size)
    have L4 := OL.below HD.out.2.2.2.1 q2
    obtain ⟨s1, s2, s3⟩ := sc_more HG.out (HD.out.1.below q2) HD.out.2.1 HD.out.2.2.1 L4 (HR8.out.1.below bW) (fun y hy hn e => by
      have h1 := ((OL.own HD.out.2.2.2.1).lt y.block e.symm).2
      have h2 := HR8.out.2.1 y hy hn
      omega) (by rw [HM.out]; exact o9) g9 e9
    refine ⟨by rw [HeR.out.1], fun _ => ?_, ?_, (fun k ks T hk hP hMt hbk => s2 k ks T hk hMt (hbk.off (Off.of_below (l := []) (HB.out.trans (q2.mono HB.out.size))) (by simp))), (KO.of_below (HB.out.trans (q2.mono HB.out.size))).trans s3⟩
    · rw [HeR.out.2]
      exact s1
    · have qx : Below wx.heap.size wx W' := HB.out.trans (q2.mono HB.out.size)
      have b9 : Below w.heap.size wx w9 := Below.grown (qx.mono HBl.out.size) g9 (Nat.le_trans HBl.out.size qx.size) (fun k hk => ((OL.own L4).lt k hk).1)
      exact (Off.setCell b 3 w9 _).below b9 (by simpa using HG.out) (Nat.le_trans (Nat.le_trans HBl.out.size qx.size) g9.size)
  have bk8 : Bk w8 b cs 58 := HD.out.1.bk.off (Off.of_below (l := []) HR8.out.2.2.1) (by simp)
  have cb : w8.cell? ⟨b, 3, none⟩ = some (.slice av nm cv) := (bk8.cell 3).trans HD.out.2.2.1
  have fb := bk8.fz
  have cbA : ∀ ob, (w8.alloc ob).cell? ⟨b, 3, none⟩ = some (.slice av nm cv) := fun ob => cellB cb (belA (Below.refl _ _) _)
  have ow8 := ownB (OL.own HD.out.2.2.2.1) HR8.out.2.2.1
  rw [HM.out] at ow8
  have HO8 : Hid (w8.ownsRow w.heap.size 45 9 (.slice av nm cv) nm (fl nm (fun j => (mvL S.M j).ls (D j))) ∧ Bk w8 b cs 58 ∧ cs[3]? = some (.slice av nm cv) ∧ (Value.slice av nm cv).ownBlock ≠ some b ∧ w.heap.size ≤ w8.heap.size) := ⟨ow8, bk8, HD.out.2.2.1, own_tyM (by decide) bk8 ow8, Nat.le_trans HG.out (Nat.le_of_lt bk8.lt)⟩
  have hl9 : S.M.length ≤ 1000000 := HMl.out
  rw [HM.out] at hl9
  have p0 : w8.cell? ⟨bm, 0, none⟩ = some (.int .i64 m.k) := HR8.out.2.2.2.cell 0
  have p1 : w8.cell? ⟨bm, 1, none⟩ = some (.int .i64 m.c) := HR8.out.2.2.2.cell 1
  have p2 : w8.cell? ⟨bm, 2, none⟩ = some (.int .i64 m.s) := HR8.out.2.2.2.cell 2
  have p3 : w8.cell? ⟨bm, 3, none⟩ = some (.int .i64 m.f) := HR8.out.2.2.2.cell 3
  have p4 : w8.cell? ⟨bm, 4, none⟩ = some (.int .i64 m.a) := HR8.out.2.2.2.cell 4
  have p5 : w8.cell? ⟨bm, 5, none⟩ = some (.int .u32 (m.w : Nat)) := HR8.out.2.2.2.cell 5
  have p6 : w8.cell? ⟨bm, 6, none⟩ = some (.int .i64 m.n) := HR8.out.2.2.2.cell 6
  have p7 : w8.cell? ⟨bm, 7, none⟩ = some (.bool m.h) := HR8.out.2.2.2.cell 7
  have p8 : w8.cell? ⟨bm, 8, none⟩ = some (.slice am m.l cm) := HR8.out.2.2.2.cell 8
  clear ow8 bk8
  go_upto_region 10 with fail
  clear HR8 HeR HD
  go_region_law (first
    | (refine step_app1M rfl (.tmp 42) (.tmp 44) rfl rfl w.heap.size (.slice av nm cv) nm _ (m.cs am cm) (m.cs_one am cm) rfl rfl (ownB HO8.out.1 (by repeat (first | with_reducible exact Below.refl _ _ | with_reducible refine Below.drew ?_ | with_reducible refine belA ?_ _))) w8.heap.size rfl (by intro j u hu; rw [Addr.add_mid]; exact range_new _ (m.cs am cm) 45 j u hu) hl9 (by have := HO8.out.2.2.2.2; simp; omega) ?_; intro a' c' w9 h9; have bk9 : Bk w9 b cs 58 := (h9.out.2.1.block b (by have := HO8.out.2.1.lt; simp; omega) (fun e => HO8.out.2.2.2.1 e.symm)).trans (HO8.out.2.1.off (Off.of_below (l := []) (by repeat (first | with_reducible exact Below.refl _ _ | with_reducible refine Below.drew ?_ | with_reducible refine belA ?_ _))) (by simp)); have c9 := (bk9.cell 3).trans HO8.out.2.2.1; have f9 := bk9.fz; have HFin : Hid (_) := HGen.out _ w9 a' c' (by repeat (first | with_reducible exact Below.refl _ _ | with_reducible refine Below.drew ?_ | with_reducible refine belA ?_ _)) h9.out.1 h9.out.2.1 h9.out.2.2; clear bk9)
    | fail)
  all_goals
    go_wp2_with fail
    go_ret
    exact HFin.out
end Go.Proofs.YtnmnjcjfgbpkaaaDoor

