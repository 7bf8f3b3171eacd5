/- Part 40 of the texts on which the proof rests: contracts of Go functions. -/
import Derived.Test.YtpbcgpdfjplidaaGreatPkN38
namespace Go.Proofs.YtpbcgpdfjplidaaGreat
set_option maxRecDepth 100000
open Go.RowKit Go.Maps
set_option maxRecDepth 100000
set_option linter.unusedVariables false
def Pw.toB (L : Pw) (v : Value) (vs : List Value) (p : Option Addr) (f : Fm) : Pw := { L with bv := v, bs := vs, bp := p, S := { L.S with bg := L.S.bg ++ [f] } }
theorem Pw.toB_t (L : Pw) (v : Value) (vs : List Value) (p : Option Addr) (f : Fm) : (L.toB v vs p f).t 1 = bgT L.b L.m v vs p (L.S.bg ++ [f]) ∧ ∀ i, i ≠ 1 → (L.toB v vs p f).t i = L.t i := by
  refine ⟨rfl, fun i hi => ?_⟩
  unfold Pw.t
  by_cases h0 : i = 0
  · rw [if_pos h0, if_pos h0]
    rfl
  · rw [if_neg h0, if_neg h0, if_neg hi, if_neg hi]
    rfl
theorem PW.stepB {e : Nat → Nat} {w0 w w' : World} {t : Nat → Thing} {L : Pw} {f : Fm} (h : PW e w0 w t L)
    (g : ∃ g cap' x p', Off (L.b :: L.m :: L.bv.ownBlock.toList) w w' ∧ Bg 0 w' L.b L.m (.slice (some ⟨g, 0, none⟩) (L.S.bg.length + 1) cap') (L.bs ++ [x]) p' (L.S.bg ++ [f]) ∧ (L.bv.ownBlock = some g ∨ w.heap.size ≤ g) ∧ (∀ k, x.ownBlock = some k → w.heap.size ≤ k) ∧ (p' = L.bp ∨ ∃ y, p' = some y ∧ w.heap.size ≤ y.block)) : PWn e w0 t L w' { L.S with bg := L.S.bg ++ [f] } := by
  obtain ⟨g, cap', x, p', o, hb, hg, hx, hp⟩ := g
  obtain ⟨q1, q2⟩ := L.toB_t (.slice (some ⟨g, 0, none⟩) (L.S.bg.length + 1) cap') (L.bs ++ [x]) p' f
  have hlen := (h.2.bg h.1).2
  have hl2 : (L.bs ++ [x]).length = (L.S.bg ++ [f]).length := by simp [hlen]
  refine ⟨_, L.toB (.slice (some ⟨g, 0, none⟩) (L.S.bg.length + 1) cap') (L.bs ++ [x]) p' f, ⟨?_, h.2.put 1 q2⟩, rfl, ⟨rfl, rfl, rfl, rfl, rfl, rfl⟩, Els.put _ _ _ _⟩
  rw [q1]
  refine h.1.step _ (bgT L.b L.m (.slice (some ⟨g, 0, none⟩) (L.S.bg.length + 1) cap') (L.bs ++ [x]) p' (L.S.bg ++ [f])) (U := bgU L.b L.m L.bv L.bs L.bp) (by rw [h.2.2]; rfl) ⟨o.more (fun k hk => ?_), fun k hk => ?_⟩ ⟨hb, hl2⟩ (fun k hk => hb.ltU hl2 k hk)
  · simp only [bgU, List.mem_cons, List.mem_append] at hk ⊢
    rcases hk with hk | hk | hk
    · exact .inl hk
    · exact .inr (.inl hk)
    · exact .inr (.inr (.inl hk))
  · have hk : k ∈ bgU L.b L.m (.slice (some ⟨g, 0, none⟩) (L.S.bg.length + 1) cap') (L.bs ++ [x]) p' := hk
    simp only [bgU, List.mem_cons, List.mem_append, List.mem_filterMap, Option.mem_toList, List.mem_map, List.not_mem_nil, or_false] at hk ⊢
    rcases hk with hk | hk | hk | ⟨y, hy, rfl⟩ | ⟨z, hz | hz, hz2⟩
    · exact .inl (.inl hk)
    · exact .inl (.inr (.inl hk))
    · have : g = k := by
        simp only [Value.ownBlock] at hk
        injection hk
      subst this
      rcases hg with hg | hg
      · exact .inl (.inr (.inr (.inl hg)))
      · exact .inr hg
    · rcases hp with hp | ⟨y', hp, hy'⟩
      · rw [hp] at hy
        exact .inl (.inr (.inr (.inr (.inl ⟨y, hy, rfl⟩))))
      · rw [hp] at hy
        injection hy with hy
        subst hy
        exact .inr hy'
    · exact .inl (.inr (.inr (.inr (.inr ⟨z, hz, hz2⟩))))
    · rw [hz] at hz2
      exact .inr (hx k hz2)
set_option maxHeartbeats 2000000 in
theorem pput (e : Nat → Nat) (w0 w : World) (t : Nat → Thing) (L : Pw) (k s : Nat) (f : Fm) (a : Option Addr) (cap i : Nat) (h : PW e w0 w t L) (hF : L.S.fs.length ≤ 90000) (hi : ∀ j, i ≠ e j) (ht : t i = r8Y a f.1 cap f.2) (hf : f.1 ≤ 27) (hB : L.S.bg.length < 4096) : Calls Tryz.prog 62 #[.pointer (some ⟨L.x, 0, none⟩), .int .i64 (k : Nat), .int .i64 (s : Nat), .slice a f.1 cap] w fun r w' => r = .returned (.int .i64 (L.S.putI f)) ∧ Hid (PWn e w0 t L w' (L.S.put k s f)) := by
  by_cases h0 : f.1 = 0
  · have e1 : L.S.putI f = -1 := by unfold Ws.putI; rw [if_pos h0]
    have e2 : L.S.put k s f = L.S := by unfold Ws.put; rw [if_pos h0]
    rw [e1, e2, h0]
    have H0 : Hid (PWn e w0 t L w L.S) := h.n
    clear h ht e1 e2 hf hB hF h0
    go_enter Tryz.func62, Tryz.ntmps62
    go_wp2_with fail
    go_ret
    exact ⟨rfl, H0⟩
  · have e1 : L.S.putI f = ((L.S.bg.length : Nat) : Int) := by unfold Ws.putI; rw [if_neg h0]
    have e2 : L.S.put k s f = { L.S.note (fData 1 k s f) with bg := L.S.bg ++ [f] } := by unfold Ws.put; rw [if_neg h0]; rfl
    rw [e1, e2]
    have hN : Calls Tryz.prog 82 #[.pointer (some ⟨L.x, 0, none⟩), .int .i64 1, .int .i64 (k : Nat), .int .i64 (s : Nat), .slice a f.1 cap] w fun r w' => r = .returned (.tuple #[]) ∧ Hid (PWn e w0 t L w' (L.S.note (fData 1 k s f))) := pnoteData e w0 w t L 1 k s f a cap h (by omega) (h.row ht)
    have hP : ∀ w1, PWn e w0 t L w1 (L.S.note (fData 1 k s f)) → w1.cell? ⟨L.x, 4, none⟩ = some (.pointer (some ⟨L.b, 0, none⟩)) ∧ Calls Tryz.prog 83 #[.pointer (some ⟨L.b, 0, none⟩), .slice a f.1 cap] w1 fun r w' => r = .returned (.tuple #[.int .i64 (L.S.bg.length : Nat), .int .i64 0]) ∧ Hid (PWn e w0 t L w' { L.S.note (fData 1 k s f) with bg := L.S.bg ++ [f] }) := fun w1 q => by
      obtain ⟨t1, L1, h1, hs, hx, he⟩ := q
      have ht1 : t1 i = r8Y a f.1 cap f.2 := (he i hi).trans ht
      have hb := h1.2.bg h1.1
      have e3 : L1.S.bg = L.S.bg := by rw [hs]; rfl
      refine ⟨?_, ?_⟩
      · have := cell_of_row w1 L1.x 4 _ _ _ (h1.2.wb h1.1).blk
        rw [hx.x] at this
        refine this.trans ?_
        show some (Value.pointer (some ⟨L1.b, 0, none⟩)) = _
        rw [hx.b]
      · have hab : ∀ y, a = some y → y.block ≠ L1.m := fun y hy hm => by
          refine h1.1.dis i (e 1) (hi 1) y.block ?_ ?_
          · rw [ht1]
            show y.block ∈ (if 0 < f.1 then a.toList.map (·.block) else [])
            rw [if_pos (by omega), hy]
            simp
          · rw [h1.2.2 1]
            show y.block ∈ bgU L1.b L1.m L1.bv L1.bs L1.bp
            rw [hm]
            simp [bgU]
        have := bput_new 0 L1.b L1.m L1.bv L1.bs L1.bp L1.S.bg a f.1 cap f.2 w1 hb.1 (h1.row ht1) hab hf (by rw [e3]; exact hB) (Nat.zero_le _)
        rw [hx.b] at this
        refine this.mono ?_
        rintro r w' ⟨rfl, H⟩
        rw [e3]
        refine ⟨rfl, PWn.bind hx he ?_⟩
        have h3 := h1.stepB (f := f) (by rw [← hx.b] at H; exact H.out)
        have e4 : ({ L1.S with bg := L1.S.bg ++ [f] } : Ws) = { L.S.note (fData 1 k s f) with bg := L.S.bg ++ [f] } := by
          rw [hs]
          rfl
        rw [← e4]
        exact h3
    obtain ⟨X, hX⟩ : ∃ y, L.x = y := ⟨_, rfl⟩
    obtain ⟨n, hn⟩ : ∃ y, f.1 = y := ⟨_, rfl⟩
    have h0' : (((n : Nat) : Int) == 0) = false := by
      rw [hn] at h0
      simp
      omega
    rw [hX, hn] at hN ⊢
    rw [hX, hn] at hP
    have HP : Hid (_) := hP
    clear h ht e1 e2 hf hB hF h0 hP
    go_enter Tryz.func62, Tryz.ntmps62
    go_wp2_with fail
    refine hN.mono ?_
    rintro r w1 ⟨rfl, H1⟩
    obtain ⟨c4, hC⟩ := HP.out w1 H1.out
    clear hN
    go_wp2_with fail
    refine hC.mono ?_
    rintro r w2 ⟨rfl, H2⟩
    go_wp2_with fail
    go_ret
    exact ⟨rfl, H2⟩
end Go.Proofs.YtpbcgpdfjplidaaGreat
