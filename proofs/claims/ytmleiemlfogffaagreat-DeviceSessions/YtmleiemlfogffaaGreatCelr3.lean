/- The document's cell of layer 8: Open. -/
import Derived.Test.YtmleiemlfogffaaGreatCelr2
namespace Go.Proofs.YtmleiemlfogffaaGreat
set_option maxRecDepth 100000
open Go.RowKit

/-- What the document's Open writes at slot k. -/
def stpR (z : Nat → Nat) (k : Nat) : List (Nat × Nat) :=
  if z (5 * k) ≠ 165 ∧ z (5 * (1 - k)) = 165 then six k (wz z (1 - k)) else if z (5 * k) ≠ 165 ∧ z (5 * k) ≠ 0 then [(5 * k, 0)] else []
def rl (z : Nat → Nat) (k : Nat) : List (Nat × Nat) := if k = 0 then mend z else if k = 1 then stpR z 1 else []
theorem rl_step (z : Nat → Nat) (k : Nat) (hk : k < 2) : rl z k = stpR z k ++ rl (lays (stpR z k) z) (k + 1) := by
  have : k = 0 ∨ k = 1 := by omega
  rcases this with rfl | rfl
  · show mend z = stpR z 0 ++ stpR (lays (stpR z 0) z) 1
    by_cases h0 : z 0 = 165
    · have e0 : stpR z 0 = [] := by simp [stpR, h0]
      rw [e0]
      by_cases h5 : z 5 = 165
      · simp [mend, stpR, lays, h0, h5]
      · simp [mend, stpR, lays, h0, h5]
    · by_cases h5 : z 5 = 165
      · have e0 : stpR z 0 = six 0 (wz z 1) := by simp [stpR, h0, h5]
        have e5 : lays (six 0 (wz z 1)) z 5 = 165 := (six_else z 0 (wz z 1) 6 5 (by omega)).trans h5
        rw [e0]
        simp [mend, stpR, h0, h5, e5]
      · by_cases hz : z 0 = 0
        · have e0 : stpR z 0 = [] := by simp [stpR, h5, hz]
          rw [e0]
          by_cases h : z 5 = 0 <;> simp [mend, stpR, lays, h5, hz, h]
        · have e0 : stpR z 0 = [(0, 0)] := by simp [stpR, h0, h5, hz]
          rw [e0]
          by_cases h : z 5 = 0 <;> simp [mend, stpR, lays, lay, h0, h5, hz, h]
  · simp [rl]
theorem sq_app (n : Nat) : ∀ (l r : List (Nat × Nat)) (s : Ms), sqE n (l ++ r) s = (if sqE n l s = 0 then sqE n r (sqS n l s) else sqE n l s) ∧ sqS n (l ++ r) s = (if sqE n l s = 0 then sqS n r (sqS n l s) else sqS n l s)
  | [], r, s => by simp [sqE, sqS]
  | (p, c) :: l, r, s => by
    have ih := sq_app n l r (wrS s n (p : Nat) c)
    by_cases h : wrE s n (p : Nat) = 0
    · simp only [List.cons_append, sqE, sqS, if_pos h]
      exact ih
    · simp only [List.cons_append, sqE, sqS, if_neg h]
      exact ⟨trivial, trivial⟩
theorem app_go {n : Nat} {l r : List (Nat × Nat)} {s : Ms} {E : Int} {S : Ms} (hE : sqE n (l ++ r) s = E) (hS : sqS n (l ++ r) s = S) (h : sqE n l s = 0) : sqE n r (sqS n l s) = E ∧ sqS n r (sqS n l s) = S := by
  obtain ⟨h1, h2⟩ := sq_app n l r s
  rw [if_pos h] at h1 h2
  exact ⟨h1.symm.trans hE, h2.symm.trans hS⟩
theorem app_stop {n : Nat} {l r : List (Nat × Nat)} {s : Ms} {E : Int} {S : Ms} (hE : sqE n (l ++ r) s = E) (hS : sqS n (l ++ r) s = S) (h : ¬ sqE n l s = 0) : sqE n l s = E ∧ sqS n l s = S := by
  obtain ⟨h1, h2⟩ := sq_app n l r s
  rw [if_neg h] at h1 h2
  exact ⟨h1.symm.trans hE, h2.symm.trans hS⟩
theorem stp_in (z : Nat → Nat) (k n : Nat) (hk : k < 2) (hn : 10 ≤ n) : ∀ x, x ∈ stpR z k → x.1 < n ∧ x.2 < 256 := by
  intro x hx
  unfold stpR at hx
  split at hx
  · exact six_in k _ n hk hn x hx
  · split at hx
    · simp at hx
      subst hx
      exact ⟨by simp only; omega, by simp only; omega⟩
    · simp at hx
theorem stp_len (z : Nat → Nat) (k : Nat) : (stpR z k).length ≤ 6 := by
  unfold stpR
  split
  · simp [six]
  · split <;> simp
/-- The block of the document's cell. -/
def RV (m mx v : Nat) (dead : Bool) : Array Value := #[.pointer (some ⟨m, 0, none⟩), .int .u32 (mx : Nat), .int .u32 (v : Nat), .bool dead]
structure RX (w : World) (d m mx v : Nat) (dead : Bool) : Prop where
  at_ : w.heap[d]? = some (.cells (RV m mx v dead) 154 (0, 0))
section
variable {w w' : World} {d m mx v : Nat} {dead : Bool}
theorem RX.lt (h : RX w d m mx v dead) : d < w.heap.size := (Array.getElem?_eq_some_iff.1 h.at_).1
theorem RX.off {l : List Nat} (h : RX w d m mx v dead) (q : Off l w w') (hd : d ∉ l) : RX w' d m mx v dead := ⟨(q.block d h.lt hd).trans h.at_⟩
theorem RX.cells (h : RX w d m mx v dead) : w.cell? ⟨d, 0, none⟩ = some (.pointer (some ⟨m, 0, none⟩)) ∧ w.cell? ⟨d, 1, none⟩ = some (.int .u32 (mx : Nat)) ∧ w.cell? ⟨d, 2, none⟩ = some (.int .u32 (v : Nat)) ∧ w.cell? ⟨d, 3, none⟩ = some (.bool dead) ∧ ∀ j, w.frozen? ⟨d, j, none⟩ = false :=
  ⟨cell_of_row w d 0 _ _ _ h.at_, cell_of_row w d 1 _ _ _ h.at_, cell_of_row w d 2 _ _ _ h.at_, cell_of_row w d 3 _ _ _ h.at_, fun j => frozen_of_row w d j _ _ h.at_⟩
theorem RX.setV (h : RX w d m mx v dead) (x : Nat) : RX (w.setCell ⟨d, 2, none⟩ (.int .u32 (x : Nat))) d m mx x dead := ⟨heap_setCell_same _ _ _ _ _ _ h.at_⟩
theorem RX.setD (h : RX w d m mx v dead) (b : Bool) : RX (w.setCell ⟨d, 3, none⟩ (.bool b)) d m mx v b := ⟨heap_setCell_same _ _ _ _ _ _ h.at_⟩
theorem RX.drewN (h : RX w d m mx v dead) (k : Nat) : RX (w.drewN k) d m mx v dead := h.off (Off.drewN [] _ k) (by simp)
end
theorem ropen_no (m g n mx : Nat) (s : Ms) (w : World) (hM : RR w m g n s) (h : mx = 0 ∨ n < 10) :
    Calls Tryz.prog 39 #[.pointer (some ⟨m, 0, none⟩), .int .u32 (mx : Nat)] w fun e w' => e = .returned (.tuple #[.pointer none, .int .i64 2]) ∧ w' = w := by
  obtain ⟨a, cap, c0, _⟩ := hM.cells
  clear hM
  by_cases h0 : mx = 0
  · subst h0
    clear h
    go_enter Tryz.func39, Tryz.ntmps39
    go_wp2_with fail
    go_ret2
    exact ⟨rfl, rfl⟩
  · have h1 : decide ((n : Int) < 10) = true := by simp; omega
    have h2 : ((mx : Int) == 0) = false := by simpa using h0
    clear h h0
    go_enter Tryz.func39, Tryz.ntmps39
    go_wp2_with fail
    go_ret2
    exact ⟨rfl, rfl⟩
theorem ropen_off (m g n mx : Nat) (s : Ms) (w : World) (hM : RR w m g n s) (hn : 10 ≤ n) (h0 : mx ≠ 0) (ho : s.off = true) :
    Calls Tryz.prog 39 #[.pointer (some ⟨m, 0, none⟩), .int .u32 (mx : Nat)] w fun e w' => e = .returned (.tuple #[.pointer none, .int .i64 70]) ∧ w' = w := by
  obtain ⟨a, cap, c0, _, _, c1, _⟩ := hM.cells
  rw [ho] at c1
  have h1 : decide ((n : Int) < 10) = false := by simp; omega
  have h2 : ((mx : Int) == 0) = false := by simpa using h0
  clear hM
  go_enter Tryz.func39, Tryz.ntmps39
  go_wp2_with fail
  go_ret2
  exact ⟨rfl, rfl⟩
set_option maxRecDepth 100000 in
set_option maxHeartbeats 4000000 in
theorem ropen_go (m g n mx : Nat) (s : Ms) (w : World) (hM : RR w m g n s) (hn : 10 ≤ n) (h0 : mx ≠ 0) (ho : s.off = false) (ht : s.t < 9223372036854774000) :
    Calls Tryz.prog 39 #[.pointer (some ⟨m, 0, none⟩), .int .u32 (mx : Nat)] w fun e w' =>
      ∃ p, e = .returned (.tuple #[.pointer p, .int .i64 (sqE n (mend s.bs) s)]) ∧ Hid (Off [m, g] w w' ∧ RR w' m g n (sqS n (mend s.bs) s) ∧ (sqE n (mend s.bs) s = 0 → ∃ d, p = some ⟨d, 0, none⟩ ∧ w.heap.size ≤ d ∧ RX w' d m mx (vz s.bs) false) ∧ (¬ sqE n (mend s.bs) s = 0 → p = none)) := by
  obtain ⟨E, hE⟩ : ∃ E, sqE n (rl s.bs 0) s = E := ⟨_, rfl⟩
  obtain ⟨S, hS⟩ : ∃ S, sqS n (rl s.bs 0) s = S := ⟨_, rfl⟩
  rw [show sqE n (mend s.bs) s = E from hE, show sqS n (mend s.bs) s = S from hS]
  obtain ⟨a, cap, c0, _, _, c1, _⟩ := hM.cells
  rw [ho] at c1
  have h1 : decide ((n : Int) < 10) = false := by simp; omega
  have h2 : ((mx : Int) == 0) = false := by simpa using h0
  have qv := rvalue_any m g n s w hM hn
  obtain ⟨V, hV⟩ : ∃ V, vz s.bs = V := ⟨_, rfl⟩
  rw [hV] at qv ⊢
  clear hV
  have HM : Hid (_) := hM
  clear hM
  go_enter Tryz.func39, Tryz.ntmps39
  go_wp2_with fail
  refine qv.mono ?_
  rintro e w1 ⟨rfl, j, rfl⟩
  have M1 := HM.out.drewN j
  clear HM qv c0 c1
  go_wp2_with fail
  go_loopw [4, 5, 7, 8, 9] (fun _ _ ck _ _ wr => ∃ (k : Nat) (si : Ms), k ≤ 2 ∧ ck = .int .i64 ((k : Nat) : Int) ∧ sqE n (rl si.bs k) si = E ∧ sqS n (rl si.bs k) si = S ∧ si.off = false ∧ si.t ≤ s.t + 6 * (k : Int) ∧ Off [m, g] w wr ∧ RR wr m g n si) (fun _ _ ck _ _ _ => 2 - (intOf ck).toNat)
  case atStart => exact ⟨0, s, by omega, rfl, hE, hS, ho, by omega, Off.drewN _ _ _, M1⟩
  case round =>
    clear hE hS M1 ho
    obtain ⟨k, si, hk, rfl, hE, hS, ho, t1, O1, M1⟩ := hrel
    by_cases hlt : k < 2
    · rw [rl_step si.bs k hlt] at hE hS
      obtain ⟨o, hko⟩ : ∃ o, 1 - k = o := ⟨_, rfl⟩
      have ho2 : o < 2 := by omega
      have hb := fun h => sq_bs (stp_in si.bs k n hlt hn) ho M1.l0 h
      have ha := sq_all n (stpR si.bs k) si (fun x hx => (stp_in si.bs k n hlt hn x hx).1) ho M1.l0
      have hlen := stp_len si.bs k
      -- the state behind this slot
      have hgo : sqE n (stpR si.bs k) si = 0 → sqE n (rl (sqS n (stpR si.bs k) si).bs (k + 1)) (sqS n (stpR si.bs k) si) = E ∧ sqS n (rl (sqS n (stpR si.bs k) si).bs (k + 1)) (sqS n (stpR si.bs k) si) = S ∧ (sqS n (stpR si.bs k) si).off = false ∧ (sqS n (stpR si.bs k) si).t ≤ s.t + 6 * ((k + 1 : Nat) : Int) := fun h => by
        rw [hb h]
        refine ⟨(app_go hE hS h).1, (app_go hE hS h).2, ?_⟩
        rcases ha with ⟨_, h2, _⟩ | ⟨h1, _⟩
        · rw [h2]
          refine ⟨rfl, ?_⟩
          show si.t + ((stpR si.bs k).length : Int) ≤ _
          omega
        · omega
      have hstop : ¬ sqE n (stpR si.bs k) si = 0 → sqE n (stpR si.bs k) si = E ∧ sqS n (stpR si.bs k) si = S := fun h => app_stop hE hS h
      have HGo : Hid (_) := And.intro hgo hstop
      have qo := fun b h => rholds_is m g n o si wr M1 ho2 hn b h
      have qk := fun b h => rholds_is m g n k si wr M1 hlt hn b h
      clear hE hS hb ha hlen hgo hstop
      by_cases hA : si.bs (5 * k) ≠ 165 ∧ si.bs (5 * (1 - k)) = 165
      · have hs : stpR si.bs k = six k (wz si.bs (1 - k)) := if_pos hA
        rw [hs, hko] at HGo
        rw [hko] at hA
        have qo1 := qo true (by simp [hA.2])
        have qk1 := qk false (by simp [hA.1])
        have qw := rcword_any m g n o si wr M1 ho2 hn
        have hwl := wz_lt (z := si.bs) (fun i hi => M1.byte i (by omega)) o ho2
        have q6 := fun j => rsix_any m g n si k (wz si.bs o) (wr.drewN j) (M1.drewN j) hlt hwl (by omega)
        clear qo qk hs hA M1 hwl
        generalize wz si.bs o = x at *
        obtain ⟨E1, hE1⟩ : ∃ E1, sqE n (six k x) si = E1 := ⟨_, rfl⟩
        obtain ⟨S1, hS1⟩ : ∃ S1, sqS n (six k x) si = S1 := ⟨_, rfl⟩
        simp only [hE1, hS1] at q6 HGo
        clear hE1 hS1
        go_wp2_with fail
        rw [show (1 : Int) - (k : Int) = (o : Int) by omega]
        refine qo1.mono ?_
        rintro e w2 ⟨rfl, hw⟩
        rw [hw]
        clear hw qo1
        go_wp2_with fail
        refine qk1.mono ?_
        rintro e w2 ⟨rfl, hw⟩
        rw [hw]
        clear hw qk1
        go_wp2_with fail
        rw [show (1 : Int) - (k : Int) = (o : Int) by omega]
        refine qw.mono ?_
        rintro e w2 ⟨rfl, j2, rfl⟩
        clear qw
        go_wp2_with fail
        refine (q6 j2).mono ?_
        rintro e w3 ⟨rfl, o3, m3⟩
        have O3 : Off [m, g] w w3 := (O1.trans (Off.drewN _ _ _)).trans o3
        have H : Hid (_) := And.intro O3 m3
        clear O3 m3 o3 q6 O1
        by_cases he : E1 = 0
        · have HE := HGo.out.1 he
          subst he
          have HE2 : Hid (_) := HE
          clear HE HGo
          go_wp2_with fail
          go_roundw
          case rel => exact ⟨k + 1, S1, by omega, by go_num, HE2.out.1, HE2.out.2.1, HE2.out.2.2.1, HE2.out.2.2.2, H.out.1, H.out.2⟩
          case measure => simp [intOf] <;> omega
        · obtain ⟨rfl, rfl⟩ := HGo.out.2 he
          clear HGo
          go_wp2_with fail
          go_ret2
          exact ⟨_, rfl, H.out.1, H.out.2, fun h => absurd h he, fun _ => rfl⟩
      · by_cases hF : si.bs (5 * k) = 165
        · have hs : stpR si.bs k = [] := by
            unfold stpR
            rw [if_neg hA, if_neg (fun h => h.1 hF)]
          rw [hs] at HGo
          have HE := HGo.out.1 rfl
          rw [show sqS n [] si = si from rfl] at HE
          obtain ⟨b, hb⟩ : ∃ b, decide (si.bs (5 * o) = 165) = b := ⟨_, rfl⟩
          have qo1 := qo b hb
          have qk1 := qk true (by simp [hF])
          have HE2 : Hid (_) := And.intro HE (And.intro O1 M1)
          clear HE HGo qo qk hs hA hb M1 O1
          go_wp2_with fail
          rw [show (1 : Int) - (k : Int) = (o : Int) by omega]
          refine qo1.mono ?_
          rintro e w2 ⟨rfl, hw⟩
          rw [hw]
          clear hw qo1
          go_wp2_with fail
          refine qk1.mono ?_
          rintro e w2 ⟨rfl, hw⟩
          rw [hw]
          clear hw
          go_wp2_with fail
          refine qk1.mono ?_
          rintro e w2 ⟨rfl, hw⟩
          rw [hw]
          clear hw qk1
          go_wp2_with fail
          go_roundw
          case rel => exact ⟨k + 1, si, by omega, by go_num, HE2.out.1.1, HE2.out.1.2.1, HE2.out.1.2.2.1, HE2.out.1.2.2.2, HE2.out.2⟩
          case measure => simp [intOf] <;> omega
        · have hO : ¬ si.bs (5 * o) = 165 := by
            rw [hko] at hA
            exact fun h => hA ⟨hF, h⟩
          have qo1 := qo false (by simp [hO])
          have qk1 := qk false (by simp [hF])
          obtain ⟨a, cap, c0, _, hpl, _⟩ := M1.cells
          obtain ⟨hgb, rfl⟩ := hpl (by omega)
          obtain ⟨cg, _⟩ := M1.held (5 * k) (by omega)
          obtain ⟨x, hx⟩ : ∃ x, si.bs (5 * k) = x := ⟨_, rfl⟩
          rw [hx] at cg
          by_cases hx0 : x = 0
          · have hs : stpR si.bs k = [] := by
              unfold stpR
              rw [if_neg hA, if_neg (fun h => h.2 (by omega))]
            rw [hs] at HGo
            have HE := HGo.out.1 rfl
            rw [show sqS n [] si = si from rfl] at HE
            have HE2 : Hid (_) := And.intro HE (And.intro O1 M1)
            clear HE HGo qo qk hs hA M1 O1 hx hF hO
            subst hx0
            go_wp2_with fail
            rw [show (1 : Int) - (k : Int) = (o : Int) by omega]
            refine qo1.mono ?_
            rintro e w2 ⟨rfl, hw⟩
            rw [hw]
            clear hw qo1
            go_wp2_with fail
            refine qk1.mono ?_
            rintro e w2 ⟨rfl, hw⟩
            rw [hw]
            clear hw
            go_wp2_with fail
            refine qk1.mono ?_
            rintro e w2 ⟨rfl, hw⟩
            rw [hw]
            clear hw qk1
            go_wp2_with fail
            go_roundw
            case rel => exact ⟨k + 1, si, by omega, by go_num, HE2.out.1.1, HE2.out.1.2.1, HE2.out.1.2.2.1, HE2.out.1.2.2.2, HE2.out.2⟩
            case measure => simp [intOf] <;> omega
          · have hs : stpR si.bs k = [(5 * k, 0)] := by
              unfold stpR
              rw [if_neg hA, if_pos ⟨hF, by omega⟩]
            rw [hs] at HGo
            have e1 : sqE n [(5 * k, 0)] si = wrE si n ((5 * k : Nat) : Int) := by
              rw [sqE]
              by_cases h : wrE si n ((5 * k : Nat) : Int) = 0
              · rw [if_pos h, h]; rfl
              · rw [if_neg h]
            have e2 : sqS n [(5 * k, 0)] si = wrS si n ((5 * k : Nat) : Int) 0 := by
              rw [sqS]
              by_cases h : wrE si n ((5 * k : Nat) : Int) = 0
              · rw [if_pos h]; rfl
              · rw [if_neg h]
            have q6 := rwrite_any m g n si ((5 * k : Nat) : Int) 0 wr M1 (by omega) (by omega)
            rw [← e1, ← e2] at q6
            obtain ⟨E1, hE1⟩ : ∃ E1, sqE n [(5 * k, 0)] si = E1 := ⟨_, rfl⟩
            obtain ⟨S1, hS1⟩ : ∃ S1, sqS n [(5 * k, 0)] si = S1 := ⟨_, rfl⟩
            simp only [hE1, hS1] at q6 HGo
            have hxi : ¬ (x : Int) = 0 := by omega
            have HO : Hid (_) := O1
            clear hE1 hS1 e1 e2 hs hA hF hO hx hx0 qo qk M1 O1
            go_wp2_with fail
            rw [show (1 : Int) - (k : Int) = (o : Int) by omega]
            refine qo1.mono ?_
            rintro e w2 ⟨rfl, hw⟩
            rw [hw]
            clear hw qo1
            go_wp2_with fail
            refine qk1.mono ?_
            rintro e w2 ⟨rfl, hw⟩
            rw [hw]
            clear hw
            go_wp2_with fail
            refine qk1.mono ?_
            rintro e w2 ⟨rfl, hw⟩
            rw [hw]
            clear hw qk1
            go_wp2_with fail
            rw [show 5 * (k : Int) = ((5 * k : Nat) : Int) by omega]
            refine q6.mono ?_
            rintro e w3 ⟨rfl, o3, m3⟩
            have H : Hid (_) := And.intro (HO.out.trans o3) m3
            clear m3 o3 q6 HO c0 cg hpl
            by_cases he : E1 = 0
            · have HE := HGo.out.1 he
              subst he
              have HE2 : Hid (_) := HE
              clear HE HGo
              go_wp2_with fail
              go_roundw
              case rel => exact ⟨k + 1, S1, by omega, by go_num, HE2.out.1, HE2.out.2.1, HE2.out.2.2.1, HE2.out.2.2.2, H.out.1, H.out.2⟩
              case measure => simp [intOf] <;> omega
            · obtain ⟨rfl, rfl⟩ := HGo.out.2 he
              clear HGo
              go_wp2_with fail
              go_ret2
              exact ⟨_, rfl, H.out.1, H.out.2, fun h => absurd h he, fun _ => rfl⟩
    · obtain rfl : k = 2 := by omega
      have hE' : (0 : Int) = E := hE
      have hS' : si = S := hS
      subst hE' hS'
      have lz := O1.size
      have A1 : RX (wr.alloc (.cells (RV m mx V false) 154)) wr.heap.size m mx V false := ⟨heap_alloc_new wr _⟩
      have H : Hid (_) := And.intro (O1.trans (Off.alloc [m, g] wr (.cells (RV m mx V false) 154))) (And.intro (M1.off (Off.alloc [] wr (.cells (RV m mx V false) 154)) (by simp) (by simp)) (And.intro lz A1))
      clear O1 M1 hE hS lz A1
      go_wp2_with fail
      go_ret2
      exact ⟨_, rfl, H.out.1, H.out.2.1, _, rfl, H.out.2.2⟩

end Go.Proofs.YtmleiemlfogffaaGreat
