/- Part 35 of the texts on which the proof rests: contracts of Go functions. -/
import Derived.Test.YtpbcgpdfjplidaaGreatPkN29
import Derived.Test.YtpbcgpdfjplidaaGreatPkN33
namespace Go.Proofs.YtpbcgpdfjplidaaGreat
set_option maxRecDepth 100000
open Go.RowKit
theorem hrefE_range (P : Pm) (s : Sh) (k c ss num len : Nat) (bs : Nat → Nat) : 0 ≤ hrefE P s k c ss num len bs ∧ hrefE P s k c ss num len bs ≤ 200 := by
  unfold hrefE hoffE
  split
  · omega
  · split
    · omega
    · split
      · split
        · omega
        · split <;> omega
      · split <;> omega
theorem hrefE_zero {P : Pm} {s : Sh} {k c ss num len : Nat} {bs : Nat → Nat} (h : hrefE P s k c ss num len bs = 0) : (17 ≤ k ∧ k ≤ 22) ∧ (k = 20 → len = P.i) := by
  unfold hrefE hoffE at h
  by_cases hK : devK (k : Int) = false
  · rw [if_pos hK] at h; omega
  · rw [if_neg hK] at h
    have hK' : devK (k : Int) = true := by simpa using hK
    have hk : 17 ≤ k ∧ k ≤ 22 := by unfold devK at hK'; simp at hK'; omega
    refine ⟨hk, fun e => ?_⟩
    by_cases hC : c = P.c
    · rw [if_neg (by omega)] at h
      by_cases h1 : s.st = 1
      · rw [if_pos h1, if_pos (.inl (by omega))] at h; omega
      · rw [if_neg h1] at h
        by_cases hw : ss ≠ s.ss ∨ hawaits P s k num len = false
        · rw [if_pos hw] at h; omega
        · have hw' : hawaits P s k num len = true := by
            cases hq : hawaits P s k num len
            · exact absurd (.inr hq) hw
            · rfl
          unfold hawaits at hw'
          simp at hw'
          omega
    · rw [if_pos hC] at h; omega
set_option maxHeartbeats 6400000 in
theorem hreceive_any (d : Nat) (P : Pm) (U : List Nat) (s : Sh) (a : Option Addr) (len cap : Nat) (bs : Nat → Nat) (w : World) (h : HV w d P U s) (hr : Row8 w a len cap bs) (hL : s.L.length < 800000) :
    Calls Tryz.prog 84 #[.pointer (some ⟨d, 0, none⟩), .slice a len cap] w fun e w' => e = .returned (.int .i64 (hrecvE P s len bs)) ∧ Hid (∃ U', Gr U w U' w' ∧ HV w' d P U' (hrecvS P s len bs)) := by
  have hNote : ∀ (x : Int) (wx : World), x ≠ 0 → 0 ≤ x → x ≤ 200 → HV wx d P U s → Calls Tryz.prog 113 #[.pointer (some ⟨d, 0, none⟩), .int .i64 x] wx fun e w' => e = .returned (.tuple #[]) ∧ Hid (∃ U', Gr U wx U' w' ∧ HV w' d P U' (hnote s x)) := fun x wx h0 h1 h2 hx => hnote_any d P U s x wx hx h0 (wf_small x h1 h2) (by omega)
  unfold hrecvS hrecvE
  by_cases hE : DE bs len = 0
  · rw [if_neg (by omega)]
    have hD := decode_ok a len cap bs w hr hE
    obtain ⟨_, _, _, hLW⟩ := DE_zero hE
    obtain ⟨_, _, _, _, hf1⟩ := LW_zero hLW
    have hby : ∀ i, i < len → bs i < 256 := hr.byte
    have hRg := hrefE_range P s (bs 0) (w4v bs 1) (w4v bs 5) (w4v bs 9) (len - 19) (fun i => bs (15 + i))
    have hZ := hrefE_zero (P := P) (s := s) (k := bs 0) (c := w4v bs 1) (ss := w4v bs 5) (num := w4v bs 9) (len := len - 19) (bs := fun i => bs (15 + i))
    have hRf := fun (w2 : World) (a2 : Option Addr) (c2 : Nat) (ho : w2.ownsRow w.heap.size 5 1 (.slice a2 (len - 19) c2) (len - 19) (CB (fun i => bs (15 + i)) (len - 19))) (wx : World) (hx : Below w2.heap.size w2 wx) (hw : Below w.heap.size w w2) => hrefusal_any d P U s (bs 0) (w4v bs 1) (w4v bs 5) (w4v bs 9) (bs 13) a2 (len - 19) c2 (fun i => bs (15 + i)) wx (HV.below h (hw.trans (hx.mono hw.size))) ((own_slice8 ho (fun i hi => hby _ (by omega))).below hx)
    have HH : Hid (_) := And.intro h (And.intro hL (And.intro hby (And.intro hf1 (And.intro hRg hZ))))
    have HR : Hid (_) := hRf
    have HN : Hid (_) := hNote
    clear h hr hL hE hLW hf1 hby hRg hZ hRf hNote
    generalize hrefE P s (bs 0) (w4v bs 1) (w4v bs 5) (w4v bs 9) (len - 19) (fun i => bs (15 + i)) = E at *
    by_cases hz : E = 0
    · subst hz
      rw [if_neg (by simp)]
      go_enter Tryz.func84, Tryz.ntmps84
      go_wp2_with fail
      refine hD.mono ?_
      rintro e w2 ⟨a2, c2, rfl, h2⟩
      have b3 : Below w2.heap.size w2 (w2.alloc (.cells #[.int .i64 (bs 0 : Nat), .int .u32 (w4v bs 1 : Nat), .int .u32 (w4v bs 5 : Nat), .int .u32 (w4v bs 9 : Nat), .int .i64 (bs 13 : Nat), .slice a2 (len - 19) c2] 175)) := (Below.refl _ _).alloc (Nat.le_refl _) _
      have x3 := heap_alloc_new w2 (.cells #[.int .i64 (bs 0 : Nat), .int .u32 (w4v bs 1 : Nat), .int .u32 (w4v bs 5 : Nat), .int .u32 (w4v bs 9 : Nat), .int .i64 (bs 13 : Nat), .slice a2 (len - 19) c2] 175)
      have l3 : w2.heap.size < (w2.alloc (.cells #[.int .i64 (bs 0 : Nat), .int .u32 (w4v bs 1 : Nat), .int .u32 (w4v bs 5 : Nat), .int .u32 (w4v bs 9 : Nat), .int .i64 (bs 13 : Nat), .slice a2 (len - 19) c2] 175)).heap.size := by rw [World.size_alloc]; omega
      have hRf := HR.out w2 a2 c2 h2.out.1 _ b3 h2.out.2
      have H3 : Hid (_) := And.intro b3 (And.intro x3 (And.intro l3 h2.out))
      clear hD b3 x3 l3 h2 HR
      go_wp2_with fail
      refine hRf.mono ?_
      rintro e w4 ⟨rfl, b4⟩
      obtain ⟨b3, x3, l3, o2, b2⟩ := H3.out
      have b24 := b3.trans (b4.mono b3.size)
      have b04 := b2.trans (b24.mono b2.size)
      have e4 := (b4.block w2.heap.size l3).trans x3
      have u0 : w4.cell? ⟨w2.heap.size, 0, none⟩ = some (.int .i64 (bs 0 : Nat)) := cell_of_row w4 _ 0 _ _ _ e4
      have u1 : w4.cell? ⟨w2.heap.size, 1, none⟩ = some (.int .u32 (w4v bs 1 : Nat)) := cell_of_row w4 _ 1 _ _ _ e4
      have u2 : w4.cell? ⟨w2.heap.size, 2, none⟩ = some (.int .u32 (w4v bs 5 : Nat)) := cell_of_row w4 _ 2 _ _ _ e4
      have u3 : w4.cell? ⟨w2.heap.size, 3, none⟩ = some (.int .u32 (w4v bs 9 : Nat)) := cell_of_row w4 _ 3 _ _ _ e4
      have u4 : w4.cell? ⟨w2.heap.size, 4, none⟩ = some (.int .i64 (bs 13 : Nat)) := cell_of_row w4 _ 4 _ _ _ e4
      have u5 : w4.cell? ⟨w2.heap.size, 5, none⟩ = some (.slice a2 (len - 19) c2) := cell_of_row w4 _ 5 _ _ _ e4
      obtain ⟨h, hL, hby, hf1, hRg, hZ⟩ := HH.out
      obtain ⟨hk, hlen⟩ := hZ trivial
      have hT := htake_any d P U s (bs 0) (w4v bs 1) (w4v bs 5) (w4v bs 9) (bs 13) a2 (len - 19) c2 (fun i => bs (15 + i)) w4 (HV.below h b04) ((own_slice8 o2 (fun i hi => hby _ (by omega))).below b24) (fun x hx => ⟨Nat.lt_of_lt_of_le (own_far o2 x hx).2 b24.size, fun hm => by have := (own_far o2 x hx).1; have := HV.ult h _ hm; omega⟩) hk (by omega) hlen (by omega)
      have H4 : Hid (_) := b04
      clear hRf b4 b3 x3 l3 o2 b2 b24 b04 e4 h hL hby hf1 hRg hZ hk hlen HH H3 HN
      go_wp2_with fail
      refine hT.mono ?_
      rintro e w5 ⟨rfl, h5⟩
      obtain ⟨U5, g5, x5⟩ := h5.out
      have H5 : Hid (_) := And.intro ((Gr.below (U := U) H4.out).trans g5) x5
      clear hT h5 g5 x5 H4 u0 u1 u2 u3 u4 u5
      go_wp2_with fail
      go_ret
      exact ⟨rfl, U5, H5.out.1, H5.out.2⟩
    · rw [if_pos hz]
      have e1 : (E != 0) = true := by simpa using hz
      have HZ : Hid (_) := hz
      clear hz
      go_enter Tryz.func84, Tryz.ntmps84
      go_wp2_with fail
      refine hD.mono ?_
      rintro e w2 ⟨a2, c2, rfl, h2⟩
      have b3 : Below w2.heap.size w2 (w2.alloc (.cells #[.int .i64 (bs 0 : Nat), .int .u32 (w4v bs 1 : Nat), .int .u32 (w4v bs 5 : Nat), .int .u32 (w4v bs 9 : Nat), .int .i64 (bs 13 : Nat), .slice a2 (len - 19) c2] 175)) := (Below.refl _ _).alloc (Nat.le_refl _) _
      have x3 := heap_alloc_new w2 (.cells #[.int .i64 (bs 0 : Nat), .int .u32 (w4v bs 1 : Nat), .int .u32 (w4v bs 5 : Nat), .int .u32 (w4v bs 9 : Nat), .int .i64 (bs 13 : Nat), .slice a2 (len - 19) c2] 175)
      have l3 : w2.heap.size < (w2.alloc (.cells #[.int .i64 (bs 0 : Nat), .int .u32 (w4v bs 1 : Nat), .int .u32 (w4v bs 5 : Nat), .int .u32 (w4v bs 9 : Nat), .int .i64 (bs 13 : Nat), .slice a2 (len - 19) c2] 175)).heap.size := by rw [World.size_alloc]; omega
      have hRf := HR.out w2 a2 c2 h2.out.1 _ b3 h2.out.2
      have H3 : Hid (_) := And.intro b3 (And.intro x3 (And.intro l3 h2.out))
      clear hD b3 x3 l3 h2 HR
      go_wp2_with fail
      refine hRf.mono ?_
      rintro e w4 ⟨rfl, b4⟩
      obtain ⟨b3, x3, l3, o2, b2⟩ := H3.out
      have b24 := b3.trans (b4.mono b3.size)
      have b04 := b2.trans (b24.mono b2.size)
      have hN := HN.out E _ HZ.out HH.out.2.2.2.2.1.1 HH.out.2.2.2.2.1.2 (HV.below HH.out.1 b04)
      have H4 : Hid (_) := b04
      clear hRf b4 b3 x3 l3 o2 b2 b24 b04 HH H3 HN HZ
      go_wp2_with fail
      refine hN.mono ?_
      rintro e w5 ⟨rfl, h5⟩
      obtain ⟨U5, g5, x5⟩ := h5.out
      have H5 : Hid (_) := And.intro ((Gr.below (U := U) H4.out).trans g5) x5
      clear hN h5 g5 x5 H4
      go_wp2_with fail
      go_ret
      exact ⟨rfl, U5, H5.out.1, H5.out.2⟩
  · rw [if_pos hE, if_pos hE]
    have hD := decode_no a len cap bs w hr hE
    have hRg := DE_rng bs len
    have e0 : (DE bs len == 0) = false := by simpa using hE
    have e1 : (DE bs len != 0) = true := by simpa using hE
    have HH : Hid (_) := And.intro h (And.intro hE hRg)
    have HN : Hid (_) := hNote
    clear h hr hL hE hRg hNote
    generalize DE bs len = E at *
    go_enter Tryz.func84, Tryz.ntmps84
    go_wp2_with fail
    refine hD.mono ?_
    rintro e w2 ⟨rfl, b2⟩
    have b3 : Below w.heap.size w (w2.alloc (.cells #[.int .i64 0, .int .u32 0, .int .u32 0, .int .u32 0, .int .i64 0, .slice none 0 0] 175)) := b2.alloc b2.size _
    have hN := HN.out E _ HH.out.2.1 HH.out.2.2.1 (by have := HH.out.2.2.2; omega) (HV.below HH.out.1 b3)
    have H3 : Hid (_) := b3
    clear hD b2 b3 HN HH
    go_wp2_with fail
    refine hN.mono ?_
    rintro e w4 ⟨rfl, h4⟩
    obtain ⟨U4, g4, x4⟩ := h4.out
    have H4 : Hid (_) := And.intro ((Gr.below (U := U) H3.out).trans g4) x4
    clear hN h4 g4 x4 H3
    go_wp2_with fail
    go_ret
    exact ⟨rfl, U4, H4.out.1, H4.out.2⟩
end Go.Proofs.YtpbcgpdfjplidaaGreat
namespace Go.Proofs.YtpbcgpdfjplidaaGreat
set_option maxRecDepth 100000
open Go.RowKit
end Go.Proofs.YtpbcgpdfjplidaaGreat
namespace Go.Proofs.YtpbcgpdfjplidaaGreat
set_option maxRecDepth 100000
open Go.RowKit
end Go.Proofs.YtpbcgpdfjplidaaGreat
