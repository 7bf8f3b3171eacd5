/- Layer 8: a cell and the document's, over a memory and the document's. -/
import Derived.Test.YtmleiemlfogffaaGreatCell6
import Derived.Test.YtmleiemlfogffaaGreatCelr4
namespace Go.Proofs.YtmleiemlfogffaaGreat
set_option maxRecDepth 100000
open Go.RowKit

/-- What Open answers, and what the memory holds then. -/
def opE (mx n : Nat) (s : Ms) : Int := if mx = 0 ∨ n < 10 then 2 else if s.off then 70 else sqE n (mend s.bs) s
def opS (mx n : Nat) (s : Ms) : Ms := if mx = 0 ∨ n < 10 then s else if s.off then s else sqS n (mend s.bs) s
/-- What Next answers and leaves: z the bytes that the cell goes by, cut: it gives no number any more. -/
structure Nx where
  v : Nat
  e : Int
  s : Ms
  z : Nat → Nat
  c : Bool
def nx (mx n : Nat) (z : Nat → Nat) (cut : Bool) (s : Ms) : Nx :=
  if cut = true ∨ s.off = true then ⟨0, 70, s, z, cut⟩ else if mx ≤ vz z then ⟨0, 80, s, z, cut⟩ else
  if sqE n (six (tg z) (vz z + 1)) s = 0 then ⟨vz z + 1, 0, sqS n (six (tg z) (vz z + 1)) s, (sqS n (six (tg z) (vz z + 1)) s).bs, false⟩ else ⟨0, 70, sqS n (six (tg z) (vz z + 1)) s, z, true⟩
theorem sqE_val {n : Nat} {l : List (Nat × Nat)} {s : Ms} (hin : ∀ x, x ∈ l → x.1 < n ∧ x.2 < 256) (ho : s.off = false) (hl : 0 ≤ s.l) : sqE n l s = 0 ∨ sqE n l s = 70 := by
  rcases sq_all n l s (fun x hx => (hin x hx).1) ho hl with ⟨h, _⟩ | ⟨h, _⟩
  · exact .inl h
  · exact .inr h
theorem sqS_t {n : Nat} {l : List (Nat × Nat)} {s : Ms} (hin : ∀ x, x ∈ l → x.1 < n ∧ x.2 < 256) (ho : s.off = false) (hl : 0 ≤ s.l) : (sqS n l s).t ≤ s.t + l.length := by
  rcases sq_all n l s (fun x hx => (hin x hx).1) ho hl with ⟨_, h, _⟩ | ⟨_, h, _, h4⟩
  · rw [h]
    exact Int.le_refl _
  · rw [h]
    show s.t + s.l ≤ _
    omega
theorem opS_t (mx n : Nat) (s : Ms) (hl : 0 ≤ s.l) : (opS mx n s).t ≤ s.t + 6 := by
  unfold opS
  split
  · omega
  · split
    · omega
    · have := sqS_t (mend_in s.bs n (by omega)) (by simpa using ‹¬ s.off = true›) hl
      have := mend_len s.bs
      omega
theorem nx_t (mx n : Nat) (z : Nat → Nat) (cut : Bool) (s : Ms) (hn : 10 ≤ n) (hl : 0 ≤ s.l) : (nx mx n z cut s).s.t ≤ s.t + 6 := by
  unfold nx
  split
  · show s.t ≤ s.t + 6; omega
  · split
    · show s.t ≤ s.t + 6; omega
    · rename_i h _
      have ho : s.off = false := by cases hh : s.off <;> simp [hh] at h ⊢
      have := sqS_t (six_in (tg z) (vz z + 1) n (tg_lt z) hn) ho hl
      split
      · exact this
      · exact this
/-- What stays so of the bytes that a cell goes by. -/
theorem nx_keep (mx n : Nat) (z : Nat → Nat) (cut : Bool) (s : Ms) (hz : cut = false → z = s.bs) : (nx mx n z cut s).c = false → (nx mx n z cut s).z = (nx mx n z cut s).s.bs := by
  unfold nx
  split
  · exact hz
  · split
    · exact hz
    · split
      · exact fun _ => rfl
      · intro h
        simp at h
theorem popen (m g n mx : Nat) (s : Ms) (w : World) (hM : MR w m g n s) (ht : s.t < 9223372036854774000) :
    Calls Tryz.prog 36 #[.pointer (some ⟨m, 0, none⟩), .int .u32 (mx : Nat)] w fun e w' => ∃ p, e = .returned (.tuple #[.pointer p, .int .i64 (opE mx n s)]) ∧ Hid (Off [m, g] w w' ∧ MR w' m g n (opS mx n s) ∧
      (opE mx n s = 0 → ∃ c, p = some ⟨c, 0, none⟩ ∧ w.heap.size ≤ c ∧ CS w' c m mx (opS mx n s).bs false) ∧ (¬ opE mx n s = 0 → p = none)) := by
  unfold opE opS
  by_cases h1 : mx = 0 ∨ n < 10
  · rw [if_pos h1, if_pos h1]
    refine (open_no m g n mx s w hM h1).mono ?_
    rintro e w' ⟨rfl, rfl⟩
    exact ⟨_, rfl, Off.refl _ _, hM, fun h => by omega, fun _ => rfl⟩
  · rw [if_neg h1, if_neg h1]
    by_cases ho : s.off = true
    · rw [if_pos ho, if_pos ho]
      refine (open_off m g n mx s w hM (by omega) (by omega) ho).mono ?_
      rintro e w' ⟨rfl, o, M⟩
      exact ⟨_, rfl, o, M, fun h => by omega, fun _ => rfl⟩
    · rw [if_neg ho, if_neg ho]
      refine (open_go m g n mx s w hM (by omega) (by omega) (by simpa using ho) (by omega)).mono ?_
      rintro e w' ⟨p, rfl, H⟩
      obtain ⟨o, M, C, D⟩ := H.out
      exact ⟨p, rfl, o, M, fun h => ⟨_, (C h).1, Nat.le_refl _, (C h).2⟩, D⟩
theorem opened (m g n mx : Nat) (s : Ms) (w : World) (hM : MR w m g n s) (h : opE mx n s = 0) : mx ≠ 0 ∧ 10 ≤ n ∧ vz (opS mx n s).bs = vz s.bs := by
  unfold opE at h
  unfold opS
  by_cases h1 : mx = 0 ∨ n < 10
  · rw [if_pos h1] at h; omega
  · rw [if_neg h1] at h ⊢
    by_cases ho : s.off = true
    · rw [if_pos ho] at h; omega
    · rw [if_neg ho] at h ⊢
      refine ⟨by omega, by omega, ?_⟩
      rw [sq_bs (mend_in s.bs n (by omega)) (by simpa using ho) hM.l0 h]
      have q := vz_mend s.bs 6 (fun i hi => hM.byte i (by omega))
      rwa [List.take_of_length_le (mend_len s.bs)] at q
theorem ropen (m g n mx : Nat) (s : Ms) (w : World) (hM : RR w m g n s) (ht : s.t < 9223372036854774000) :
    Calls Tryz.prog 39 #[.pointer (some ⟨m, 0, none⟩), .int .u32 (mx : Nat)] w fun e w' => ∃ p, e = .returned (.tuple #[.pointer p, .int .i64 (opE mx n s)]) ∧ Hid (Off [m, g] w w' ∧ RR w' m g n (opS mx n s) ∧
      (opE mx n s = 0 → ∃ d, p = some ⟨d, 0, none⟩ ∧ w.heap.size ≤ d ∧ RX w' d m mx (vz s.bs) false) ∧ (¬ opE mx n s = 0 → p = none)) := by
  unfold opE opS
  by_cases h1 : mx = 0 ∨ n < 10
  · rw [if_pos h1, if_pos h1]
    refine (ropen_no m g n mx s w hM h1).mono ?_
    rintro e w' ⟨rfl, rfl⟩
    exact ⟨_, rfl, Off.refl _ _, hM, fun h => by omega, fun _ => rfl⟩
  · rw [if_neg h1, if_neg h1]
    by_cases ho : s.off = true
    · rw [if_pos ho, if_pos ho]
      refine (ropen_off m g n mx s w hM (by omega) (by omega) ho).mono ?_
      rintro e w' ⟨rfl, rfl⟩
      exact ⟨_, rfl, Off.refl _ _, hM, fun h => by omega, fun _ => rfl⟩
    · rw [if_neg ho, if_neg ho]
      exact ropen_go m g n mx s w hM (by omega) (by omega) (by simpa using ho) ht
theorem pnext (c m g n mx : Nat) (z : Nat → Nat) (cut : Bool) (s : Ms) (w : World) (hM : MR w m g n s) (hC : CS w c m mx z cut) (hz : Bz z) (hzs : cut = false → z = s.bs) (hcm : c ≠ m) (hcg : c ≠ g) (hn : 10 ≤ n) (hx : mx < 4294967296) (ht : s.t < 9223372036854774000) :
    Calls Tryz.prog 197 #[.pointer (some ⟨c, 0, none⟩)] w fun e w' => e = .returned (.tuple #[.int .u32 ((nx mx n z cut s).v : Nat), .int .i64 (nx mx n z cut s).e]) ∧
      (Off [m, g, c] w w' ∧ MR w' m g n (nx mx n z cut s).s ∧ CS w' c m mx (nx mx n z cut s).z (nx mx n z cut s).c) := by
  unfold nx
  by_cases h1 : cut = true ∨ s.off = true
  · rw [if_pos h1]
    refine (next_cut c m g n mx z cut s w hM hC h1).mono ?_
    rintro e w' ⟨rfl, rfl⟩
    exact ⟨rfl, Off.refl _ _, hM, hC⟩
  · rw [if_neg h1]
    have hc : cut = false := by cases cut <;> simp at h1 ⊢
    have ho : s.off = false := by cases hh : s.off <;> simp [hh] at h1 ⊢
    subst hc
    by_cases h2 : mx ≤ vz z
    · rw [if_pos h2]
      refine (next_full c m g n mx z s w hM hC hz ho h2).mono ?_
      rintro e w' ⟨rfl, rfl⟩
      exact ⟨rfl, Off.refl _ _, hM, hC⟩
    · rw [if_neg h2]
      obtain rfl := hzs rfl
      have q := next_go c m g n mx s w hM hC hcm hcg hn hx ho (by omega) (by omega)
      by_cases h3 : sqE n (six (tg s.bs) (vz s.bs + 1)) s = 0
      · rw [if_pos h3]
        rw [if_pos h3] at q
        refine q.mono ?_
        rintro e w' ⟨rfl, o, M, C, _⟩
        exact ⟨by rw [h3], o, M, C h3⟩
      · rw [if_neg h3]
        rw [if_neg h3] at q
        have h4 := (sqE_val (six_in (tg s.bs) (vz s.bs + 1) n (tg_lt _) hn) ho hM.l0).resolve_left h3
        refine q.mono ?_
        rintro e w' ⟨rfl, o, M, _, C⟩
        exact ⟨by rw [h4], o, M, C h3⟩
theorem rnext (d m g n mx : Nat) (z : Nat → Nat) (cut : Bool) (s : Ms) (w : World) (hM : RR w m g n s) (hC : RX w d m mx (vz z) cut) (hzs : cut = false → z = s.bs) (hcm : d ≠ m) (hcg : d ≠ g) (hn : 10 ≤ n) (hx : mx < 4294967296) (ht : s.t < 9223372036854774000) :
    Calls Tryz.prog 150 #[.pointer (some ⟨d, 0, none⟩)] w fun e w' => e = .returned (.tuple #[.int .u32 ((nx mx n z cut s).v : Nat), .int .i64 (nx mx n z cut s).e]) ∧
      (Off [m, g, d] w w' ∧ RR w' m g n (nx mx n z cut s).s ∧ RX w' d m mx (vz (nx mx n z cut s).z) (nx mx n z cut s).c) := by
  unfold nx
  by_cases h1 : cut = true ∨ s.off = true
  · rw [if_pos h1]
    refine (rnext_cut d m g n mx (vz z) cut s w hM hC h1).mono ?_
    rintro e w' ⟨rfl, rfl⟩
    exact ⟨rfl, Off.refl _ _, hM, hC⟩
  · rw [if_neg h1]
    have hc : cut = false := by cases cut <;> simp at h1 ⊢
    have ho : s.off = false := by cases hh : s.off <;> simp [hh] at h1 ⊢
    subst hc
    by_cases h2 : mx ≤ vz z
    · rw [if_pos h2]
      refine (rnext_full d m g n mx (vz z) s w hM hC ho h2).mono ?_
      rintro e w' ⟨rfl, j, rfl⟩
      exact ⟨rfl, Off.drewN _ _ _, hM.drewN j, hC.drewN j⟩
    · rw [if_neg h2]
      obtain rfl := hzs rfl
      have q := rnext_go d m g n mx (vz s.bs) s w hM hC hcm hcg hn hx ho (by omega) (by omega)
      by_cases h3 : sqE n (six (tg s.bs) (vz s.bs + 1)) s = 0
      · rw [if_pos h3]
        rw [if_pos h3, if_pos h3] at q
        refine q.mono ?_
        rintro e w' ⟨rfl, o, M, C, _⟩
        refine ⟨rfl, o, M, ?_⟩
        have hb := sq_bs (six_in (tg s.bs) (vz s.bs + 1) n (tg_lt _) hn) ho hM.l0 h3
        have hv := vz_next s.bs (vz s.bs + 1) (by omega) (by omega)
        show RX w' d m mx (vz (sqS n (six (tg s.bs) (vz s.bs + 1)) s).bs) false
        rw [hb, hv]
        exact C h3
      · rw [if_neg h3]
        rw [if_neg h3, if_neg h3] at q
        refine q.mono ?_
        rintro e w' ⟨rfl, o, M, _, C⟩
        exact ⟨rfl, o, M, C h3⟩

end Go.Proofs.YtmleiemlfogffaaGreat
