/- The cell of layer 8: clear, mend, Value, target. -/
import Derived.Test.YtmleiemlfogffaaGreatCell2
import Derived.Deep.QuietTactic
import Derived.BigQuiet
namespace Go.Proofs.YtmleiemlfogffaaGreat
set_option maxRecDepth 100000
open Go.RowKit

/-- What clear has still to write, from slot i on. -/
def rem (z : Nat → Nat) (i : Nat) : List (Nat × Nat) :=
  if i = 0 then (if z 0 ≠ 0 then (if z 5 ≠ 0 then [(0, 0), (5, 0)] else [(0, 0)]) else (if z 5 ≠ 0 then [(5, 0)] else [])) else if i = 1 then (if z 5 ≠ 0 then [(5, 0)] else []) else []
theorem rem_go (z : Nat → Nat) (i : Nat) (hi : i < 2) (h : z (5 * i) ≠ 0) : rem z i = (5 * i, 0) :: rem z (i + 1) := by
  have : i = 0 ∨ i = 1 := by omega
  rcases this with rfl | rfl
  · have h' : z 0 ≠ 0 := h
    unfold rem
    simp only [if_true, if_pos h']
    by_cases h5 : z 5 = 0 <;> simp [h5]
  · have h' : z 5 ≠ 0 := h
    unfold rem
    simp [h']
theorem rem_by (z : Nat → Nat) (i : Nat) (hi : i < 2) (h : z (5 * i) = 0) : rem z i = rem z (i + 1) := by
  have : i = 0 ∨ i = 1 := by omega
  rcases this with rfl | rfl
  · have h' : z 0 = 0 := h
    unfold rem
    simp [h']
  · have h' : z 5 = 0 := h
    unfold rem
    simp [h']
set_option maxRecDepth 100000 in
set_option maxHeartbeats 2000000 in
theorem clear_any (c m g n mx : Nat) (wd : Nat → Nat) (cut : Bool) (s : Ms) (w : World) (hM : MR w m g n s) (hC : CX w c m mx (fun k => s.bs (5 * k)) wd cut) (hcm : c ≠ m) (hcg : c ≠ g) (ht : s.t < 9223372036854775000) :
    Calls Tryz.prog 114 #[.pointer (some ⟨c, 0, none⟩)] w fun e w' => e = .returned (.int .i64 (sqE n (rem s.bs 0) s)) ∧ (Off [m, g, c] w w' ∧ MR w' m g n (sqS n (rem s.bs 0) s) ∧
      (sqE n (rem s.bs 0) s = 0 → CX w' c m mx (fun _ => 0) wd cut)) := by
  obtain ⟨E, hE⟩ : ∃ E, sqE n (rem s.bs 0) s = E := ⟨_, rfl⟩
  obtain ⟨S, hS⟩ : ∃ S, sqS n (rem s.bs 0) s = S := ⟨_, rfl⟩
  rw [hE, hS]
  go_enter Tryz.func114, Tryz.ntmps114
  go_wp2_with fail
  go_loopw [2, 3, 4, 5] (fun _ _ _ ci wr => ∃ (i : Nat) (mk : Nat → Nat) (si : Ms), i ≤ 2 ∧ ci = .int .i64 ((i : Nat) : Int) ∧ (∀ j, j < i → mk j = 0) ∧ (∀ j, i ≤ j → mk j = s.bs (5 * j)) ∧ sqE n (rem s.bs i) si = E ∧ sqS n (rem s.bs i) si = S ∧ si.t ≤ s.t + i ∧ Off [m, g, c] w wr ∧ MR wr m g n si ∧ CX wr c m mx mk wd cut) (fun _ _ _ ci _ => 2 - (intOf ci).toNat)
  case atStart => exact ⟨0, _, s, by omega, rfl, fun j hj => by omega, fun j hj => rfl, hE, hS, by omega, Off.refl _ _, hM, hC⟩
  case round =>
    clear hM hC hE hS
    obtain ⟨i, mk, si, hi, rfl, hj, hj2, hE, hS, t1, O, hM, hC⟩ := hrel
    by_cases hlt : i < 2
    · have c0 := hC.mem
      have z1 := hC.hmk i hlt
      have f1 := hC.fz (2 + i)
      obtain ⟨a, ha⟩ : ∃ a, mk i = a := ⟨_, rfl⟩
      have ha2 : s.bs (5 * i) = a := (hj2 i (Nat.le_refl _)).symm.trans ha
      rw [ha] at z1
      by_cases hz : a = 0
      · subst hz
        rw [rem_by _ _ hlt ha2] at hE hS
        have hj' : ∀ j, j < i + 1 → mk j = 0 := fun j hjj => by
          by_cases e : j = i
          · rw [e, ha]
          · exact hj j (by omega)
        have H : Hid (_) := And.intro hj' (And.intro (And.intro hE hS) (And.intro O (And.intro hM hC)))
        have HJ : Hid (_) := hj2
        clear hj' hj hE hS O hM hC ha ha2 hj2
        go_wp2_with fail
        go_roundw
        case rel => exact ⟨i + 1, mk, si, by omega, by go_num, H.out.1, fun j h => HJ.out j (by omega), H.out.2.1.1, H.out.2.1.2, by omega, H.out.2.2⟩
        case measure => simp [intOf] <;> omega
      · have hz' : ¬ (a : Int) = 0 := by omega
        rw [rem_go _ _ hlt (by omega)] at hE hS
        have HJ : Hid (_) := And.intro hj hj2
        have HC : Hid (_) := hC
        clear hC hj hj2 ha2
        go_wp2_with fail
        refine (write_any m g n si _ 0 wr hM (by omega) (by omega)).mono ?_
        rintro e w2 ⟨rfl, o2, m2⟩
        rw [show (i : Int) * 5 = ((5 * i : Nat) : Int) by omega] at m2 ⊢
        have t2 := wrS_t si n ((5 * i : Nat) : Int) 0
        have C2 := HC.out.off o2 (by simp; omega)
        have O2 : Off [m, g, c] w w2 := O.trans o2.three
        by_cases he : wrE si n ((5 * i : Nat) : Int) = 0
        · obtain ⟨hE1, hS1⟩ := sq_go hE hS he
          rw [he]
          have z2 := C2.hmk i hlt
          have f2 := C2.fz (2 + i)
          have H : Hid (_) := And.intro (And.intro hE1 hS1) (And.intro O2 (And.intro m2 C2))
          clear hE hS he o2 HC c0 O hM m2 C2 O2 hE1 hS1 z1 f1 ha
          generalize wrS si n ((5 * i : Nat) : Int) 0 = s2 at *
          go_wp2_with fail
          obtain ⟨⟨hE1, hS1⟩, O2, m2, C2⟩ := H.out
          have q1 : Off [c] w2 (w2.setCell ⟨c, 2 + i, none⟩ (.int .u8 0)) := Off.setCell c (2 + i) _ _
          go_roundw
          case rel =>
            refine ⟨i + 1, upd mk i 0, s2, by omega, by go_num, fun j h => ?_, fun j h => ?_, hE1, hS1, by omega, O2.trans q1.three', m2.off q1 (by simp; omega) (by simp; omega), C2.setMk i 0 hlt⟩
            · unfold upd
              by_cases e : j = i
              · rw [if_pos e]
              · rw [if_neg e]; exact HJ.out.1 j (by omega)
            · unfold upd
              rw [if_neg (by omega)]
              exact HJ.out.2 j (by omega)
          case measure => simp [intOf] <;> omega
        · obtain ⟨hE1, hS1⟩ := sq_stop hE hS he
          rw [hS1] at m2
          rw [hE1] at he ⊢
          have H : Hid (_) := And.intro O2 m2
          clear hE hS o2 HC c0 O hM m2 C2 O2 hE1 hS1 t1 t2 ha z1
          go_wp2_with fail
          go_ret
          exact ⟨rfl, H.out.1, H.out.2, fun h => absurd h he⟩
    · obtain rfl : i = 2 := by omega
      have e0 : rem s.bs 2 = [] := rfl
      rw [e0] at hE hS
      have hE' : (0 : Int) = E := hE
      have hS' : si = S := hS
      subst hE' hS'
      have H : Hid (_) := And.intro O (And.intro hM (hC.as (mk' := fun _ => 0) (wd' := wd) (hj 0 (by omega)) (hj 1 (by omega)) rfl rfl))
      clear O hM hC hj hj2 hE hS
      go_wp2_with fail
      go_ret
      exact ⟨rfl, H.out⟩
theorem CX.sync {w : World} {c m mx k v : Nat} {z : Nat → Nat} {cut : Bool} (h : CX w c m mx (upd (fun k => z (5 * k)) k 165) (upd (wz z) k v) cut) (hv : v < 4294967296) :
    CX w c m mx (fun j => lays (six k v) z (5 * j)) (wz (lays (six k v) z)) cut := by
  have hm : ∀ j, upd (fun k => z (5 * k)) k 165 j = lays (six k v) z (5 * j) := fun j => by
    unfold upd
    by_cases e : j = k
    · rw [if_pos e, e, six_mark]
    · rw [if_neg e]
      exact (six_else z k v 6 (5 * j) (by omega)).symm
  have hw : ∀ j, upd (wz z) k v j = wz (lays (six k v) z) j := fun j => by
    unfold upd
    by_cases e : j = k
    · rw [if_pos e, e, six_wz z k v hv]
    · rw [if_neg e]
      have q := fun i (h : i < 5 * k ∨ 5 * k + 4 < i) => (six_else z k v 6 i h).symm
      rw [six_take] at q
      unfold wz
      rw [q (5 * j + 1) (by omega), q (5 * j + 2) (by omega), q (5 * j + 3) (by omega), q (5 * j + 4) (by omega)]
  exact h.as (hm 0) (hm 1) (hw 0) (hw 1)
theorem CX.swept {w : World} {c m mx : Nat} {z : Nat → Nat} {cut : Bool} (h : CX w c m mx (fun _ => 0) (wz z) cut) :
    CX w c m mx (fun j => lays (rem z 0) z (5 * j)) (wz (lays (rem z 0) z)) cut := by
  have hl : ∀ i, i ≠ 0 → i ≠ 5 → lays (rem z 0) z i = z i := fun i h0 h5 => by
    unfold rem
    rw [if_pos rfl]
    split <;> split <;> simp [lays, lay, h0, h5]
  have h0 : lays (rem z 0) z 0 = 0 := by
    unfold rem
    rw [if_pos rfl]
    split <;> split <;> simp [lays, lay] <;> omega
  have h5 : lays (rem z 0) z 5 = 0 := by
    unfold rem
    rw [if_pos rfl]
    split <;> split <;> simp [lays, lay] <;> omega
  have hw : ∀ j, j < 2 → wz z j = wz (lays (rem z 0) z) j := fun j hj => by
    unfold wz
    rw [hl (5 * j + 1) (by omega) (by omega), hl (5 * j + 2) (by omega) (by omega), hl (5 * j + 3) (by omega) (by omega), hl (5 * j + 4) (by omega) (by omega)]
  exact h.as h0.symm h5.symm (hw 0 (by omega)) (hw 1 (by omega))
theorem sq_bs {n : Nat} {l : List (Nat × Nat)} {s : Ms} (hin : ∀ x, x ∈ l → x.1 < n ∧ x.2 < 256) (ho : s.off = false) (hl : 0 ≤ s.l) (h : sqE n l s = 0) : (sqS n l s).bs = lays l s.bs := by
  rcases sq_all n l s (fun x hx => (hin x hx).1) ho hl with ⟨_, h2, _⟩ | ⟨h1, _⟩
  · rw [h2]
  · omega
theorem holds_zero (c m mx : Nat) (mk wd : Nat → Nat) (cut b : Bool) (w : World) (h : CX w c m mx mk wd cut) (hb : decide (mk 0 = 165) = b) :
    Calls Tryz.prog 112 #[.pointer (some ⟨c, 0, none⟩), .int .i64 0] w fun e w' => e = .returned (.bool b) ∧ w' = w := by
  refine (holds_any c m mx mk wd cut 0 w h (by omega)).mono ?_
  rintro e w' ⟨rfl, rfl⟩
  refine ⟨?_, rfl⟩
  rw [← hb]
  congr 2
  by_cases h : mk 0 = 165
  · simp [h]
  · have : ¬ ((mk 0 : Nat) : Int) = 165 := by omega
    simp [h, this]
theorem holds_one (c m mx : Nat) (mk wd : Nat → Nat) (cut b : Bool) (w : World) (h : CX w c m mx mk wd cut) (hb : decide (mk 1 = 165) = b) :
    Calls Tryz.prog 112 #[.pointer (some ⟨c, 0, none⟩), .int .i64 1] w fun e w' => e = .returned (.bool b) ∧ w' = w := by
  refine (holds_any c m mx mk wd cut 1 w h (by omega)).mono ?_
  rintro e w' ⟨rfl, rfl⟩
  refine ⟨?_, rfl⟩
  rw [← hb]
  congr 2
  by_cases h : mk 1 = 165
  · simp [h]
  · have : ¬ ((mk 1 : Nat) : Int) = 165 := by omega
    simp [h, this]
set_option maxRecDepth 100000 in
set_option maxHeartbeats 2000000 in
theorem mend_any (c m g n mx : Nat) (cut : Bool) (s : Ms) (w : World) (hM : MR w m g n s) (hC : CX w c m mx (fun k => s.bs (5 * k)) (wz s.bs) cut) (hcm : c ≠ m) (hcg : c ≠ g) (hn : 10 ≤ n) (ho : s.off = false) (ht : s.t < 9223372036854775000) :
    Calls Tryz.prog 75 #[.pointer (some ⟨c, 0, none⟩)] w fun e w' => e = .returned (.int .i64 (sqE n (mend s.bs) s)) ∧ (Off [m, g, c] w w' ∧ MR w' m g n (sqS n (mend s.bs) s) ∧
      (sqE n (mend s.bs) s = 0 → CX w' c m mx (fun k => (sqS n (mend s.bs) s).bs (5 * k)) (wz (sqS n (mend s.bs) s).bs) cut)) := by
  have hz : Bz s.bs := fun i hi => hM.byte i (by omega)
  have l0 := hM.l0
  have c4 := hC.hwd 0 (by omega)
  have c5 := hC.hwd 1 (by omega)
  have v0 := wz_lt hz 0 (by omega)
  have v1 := wz_lt hz 1 (by omega)
  by_cases h0 : s.bs 0 = 165
  · have q0 := holds_zero c m mx _ _ cut true w hC (by simp [h0])
    by_cases h1 : s.bs 5 = 165
    · have q1 := holds_one c m mx _ _ cut true w hC (by simp [h1])
      rw [show mend s.bs = [] by unfold mend; rw [if_pos h0, if_pos h1]]
      have H : Hid (_) := And.intro (Off.refl [m, g, c] w) (And.intro hM hC)
      clear hM hC hz l0 c4 c5 v0 v1 h0 h1
      go_enter Tryz.func75, Tryz.ntmps75
      go_wp2_with fail
      refine q0.mono ?_
      rintro e w' ⟨rfl, hw⟩
      rw [hw]
      clear hw
      go_wp2_with fail
      refine q1.mono ?_
      rintro e w' ⟨rfl, hw⟩
      rw [hw]
      clear hw
      go_wp2_with fail
      go_ret
      exact ⟨rfl, H.out.1, H.out.2.1, fun _ => H.out.2.2⟩
    · have q1 := holds_one c m mx _ _ cut false w hC (by simp [h1])
      rw [show mend s.bs = six 1 (wz s.bs 0) by unfold mend; rw [if_pos h0, if_neg h1]]
      have hcw := cwrite_any c m g n mx _ _ cut s 1 (wz s.bs 0) w hM hC hcm hcg (by omega) v0 ht
      have hb := fun h => sq_bs (six_in 1 (wz s.bs 0) n (by omega) hn) ho l0 h
      have HB : Hid (_) := And.intro hb v0
      clear hM hC hz l0 c5 v1 h0 h1 hb
      go_enter Tryz.func75, Tryz.ntmps75
      go_wp2_with fail
      refine q0.mono ?_
      rintro e w' ⟨rfl, hw⟩
      rw [hw]
      clear hw
      go_wp2_with fail
      refine q1.mono ?_
      rintro e w' ⟨rfl, hw⟩
      rw [hw]
      clear hw
      go_wp2_with fail
      refine hcw.mono ?_
      rintro e w2 ⟨rfl, H2⟩
      have H : Hid (_) := H2
      clear H2 hcw c4 q0 q1
      go_wp2_with fail
      go_ret
      refine ⟨rfl, H.out.1, H.out.2.1, fun he => ?_⟩
      have C := H.out.2.2
      rw [if_pos he, if_pos he] at C
      rw [HB.out.1 he]
      exact C.sync HB.out.2
  · have q0 := holds_zero c m mx _ _ cut false w hC (by simp [h0])
    by_cases h1 : s.bs 5 = 165
    · have q1 := holds_one c m mx _ _ cut true w hC (by simp [h1])
      rw [show mend s.bs = six 0 (wz s.bs 1) by unfold mend; rw [if_neg h0, if_pos h1]]
      have hcw := cwrite_any c m g n mx _ _ cut s 0 (wz s.bs 1) w hM hC hcm hcg (by omega) v1 ht
      have hb := fun h => sq_bs (six_in 0 (wz s.bs 1) n (by omega) hn) ho l0 h
      have HB : Hid (_) := And.intro hb v1
      clear hM hC hz l0 c4 v0 h0 h1 hb
      go_enter Tryz.func75, Tryz.ntmps75
      go_wp2_with fail
      refine q0.mono ?_
      rintro e w' ⟨rfl, hw⟩
      rw [hw]
      clear hw
      go_wp2_with fail
      refine q1.mono ?_
      rintro e w' ⟨rfl, hw⟩
      rw [hw]
      clear hw
      go_wp2_with fail
      refine hcw.mono ?_
      rintro e w2 ⟨rfl, H2⟩
      have H : Hid (_) := H2
      clear H2 hcw c5 q0 q1
      go_wp2_with fail
      go_ret
      refine ⟨rfl, H.out.1, H.out.2.1, fun he => ?_⟩
      have C := H.out.2.2
      rw [if_pos he, if_pos he] at C
      rw [HB.out.1 he]
      exact C.sync HB.out.2
    · have q1 := holds_one c m mx _ _ cut false w hC (by simp [h1])
      rw [show mend s.bs = rem s.bs 0 by unfold mend rem; rw [if_neg h0, if_neg h1, if_pos rfl]]
      have hcw := clear_any c m g n mx _ cut s w hM hC hcm hcg ht
      have hin : ∀ x, x ∈ rem s.bs 0 → x.1 < n ∧ x.2 < 256 := fun x hx => mend_in s.bs n hn x (by unfold mend; rw [if_neg h0, if_neg h1]; unfold rem at hx; rwa [if_pos rfl] at hx)
      have hb := fun h => sq_bs hin ho l0 h
      have HB : Hid (_) := hb
      clear hM hC hz l0 c4 c5 v0 v1 h0 h1 hb hin
      go_enter Tryz.func75, Tryz.ntmps75
      go_wp2_with fail
      refine q0.mono ?_
      rintro e w' ⟨rfl, hw⟩
      rw [hw]
      clear hw
      go_wp2_with fail
      refine q1.mono ?_
      rintro e w' ⟨rfl, hw⟩
      rw [hw]
      clear hw
      go_wp2_with fail
      refine hcw.mono ?_
      rintro e w2 ⟨rfl, H2⟩
      have H : Hid (_) := H2
      clear H2 hcw q0 q1
      go_wp2_with fail
      go_ret
      refine ⟨rfl, H.out.1, H.out.2.1, fun he => ?_⟩
      have C := H.out.2.2 he
      rw [HB.out he]
      exact C.swept

end Go.Proofs.YtmleiemlfogffaaGreat
