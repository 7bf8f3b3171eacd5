/- Part 14 of the texts on which the proof rests: contracts of Go functions. -/
import Derived.Test.YthlgahkoignnkaaPkG11
namespace Go.Proofs.Ythlgahkoignnkaa
open Go.RowKit Go.Maps
set_option maxRecDepth 100000
def FRow (w : World) (a : Option Addr) (len : Nat) (F : Nat → Fa) : Prop := ∀ i, i < len → ∃ q off da dc, a = some ⟨q, off, none⟩ ∧ w.cell? ⟨q, off + i * 8, none⟩ = some (.int .i64 (F i).k) ∧ w.cell? ⟨q, off + i * 8 + 1, none⟩ = some (.int .i64 (F i).c) ∧ w.cell? ⟨q, off + i * 8 + 2, none⟩ = some (.int .i64 (F i).s) ∧ w.cell? ⟨q, off + i * 8 + 3, none⟩ = some (.int .u32 ((F i).ss : Nat)) ∧ w.cell? ⟨q, off + i * 8 + 4, none⟩ = some (.int .u32 ((F i).nn : Nat)) ∧ w.cell? ⟨q, off + i * 8 + 5, none⟩ = some (.bool (F i).on) ∧ w.cell? ⟨q, off + i * 8 + 6, none⟩ = some (.int .i64 (F i).cd) ∧ w.cell? ⟨q, off + i * 8 + 7, none⟩ = some (.slice da (F i).n dc) ∧ Row8 w da (F i).n dc (F i).b
theorem FRow.below {w w' : World} {a : Option Addr} {len : Nat} {F : Nat → Fa} (h : FRow w a len F) (b : Below w.heap.size w w') : FRow w' a len F := fun i hi => by
  obtain ⟨q, off, da, dc, e, c0, c1, c2, c3, c4, c5, c6, c7, r⟩ := h i hi
  exact ⟨q, off, da, dc, e, cell_belowJ c0 b, cell_belowJ c1 b, cell_belowJ c2 b, cell_belowJ c3 b, cell_belowJ c4 b, cell_belowJ c5 b, cell_belowJ c6 b, cell_belowJ c7 b, r.below b⟩
noncomputable def sees (J : Ju) (F : Nat → Fa) : Nat → Ju
  | 0 => J
  | i + 1 => (sees J F i).see (F i)
theorem see_n (J : Ju) (f : Fa) : (J.see f).n ≤ J.n + 1 := by
  unfold Ju.see
  split
  · omega
  · split
    · show J.n ≤ _; omega
    · show J.n + 1 ≤ _; omega
theorem sees_n (J : Ju) (F : Nat → Fa) : ∀ i, (sees J F i).n ≤ J.n + i
  | 0 => Nat.le_refl _
  | i + 1 => by
    have h1 := sees_n J F i
    have h2 := see_n (sees J F i) (F i)
    unfold sees
    omega
open Classical in
set_option maxHeartbeats 8000000 in
theorem gcheck_core (a0 : Option Addr) (l0 c0 : Nat) (a1 : Option Addr) (l1 c1 : Nat) (ms : Nat) (af : Option Addr) (lf cf : Nat) (F : Nat → Fa) (w : World) (J0 : Ju) (hJ0 : J0.n = 0) (hN : ∀ wx, Below w.heap.size w wx → Calls Try.prog 8 #[.agg #[.slice a0 l0 c0, .slice a1 l1 c1, .int .u32 (ms : Nat)]] wx fun r w' => ∃ jb, r = .returned (.pointer (some ⟨jb, 0, none⟩)) ∧ Hid (∃ g cap ob, wx.heap.size ≤ jb ∧ wx.heap.size ≤ ob ∧ wx.heap.size ≤ g ∧ Below wx.heap.size wx w' ∧ GJ w' jb g cap ob 0 (fun _ => none) J0)) (hF : FRow w af lf F) (hO : ∀ i, i < lf → (F i).Ok) (hlf : lf ≤ 100000) :
    Calls Try.prog 15 #[.agg #[.slice a0 l0 c0, .slice a1 l1 c1, .int .u32 (ms : Nat)], .slice af lf cf] w fun r w' => r = .returned (.agg #[.int .i64 (sees J0 F lf).r, .int .i64 (sees J0 F lf).a]) ∧ Below w.heap.size w w' := by
  have b1 : Below w.heap.size w ((w.alloc (.cells #[.slice a0 l0 c0, .slice a1 l1 c1, .int .u32 (ms : Nat)] 25)).alloc (.cells #[.int .i64 0, .int .i64 0] 34)) := belowG (belowG (Below.refl _ _) _) _
  have hN1 := hN _ b1
  have HB1 : Hid (_) := b1
  clear hN b1
  go_enter Try.func15, Try.ntmps15
  go_wp2_with fail
  refine hN1.mono ?_
  rintro r w2 ⟨jb, rfl, h2⟩
  have hs2 : ((w.alloc (.cells #[.slice a0 l0 c0, .slice a1 l1 c1, .int .u32 (ms : Nat)] 25)).alloc (.cells #[.int .i64 0, .int .i64 0] 34)).heap.size = w.heap.size + 2 := by simp
  have HI0 : Hid (∃ g cap ob M N, w.heap.size + 2 ≤ jb ∧ w.heap.size + 2 ≤ ob ∧ w.heap.size + 2 ≤ g ∧ N ≤ 2 * 0 ∧ (∀ t b, t.ok → M t = some b → w.heap.size + 2 ≤ b) ∧ GJ w2 jb g cap ob N M (sees J0 F 0) ∧ Below (w.heap.size + 2) ((w.alloc (.cells #[.slice a0 l0 c0, .slice a1 l1 c1, .int .u32 (ms : Nat)] 25)).alloc (.cells #[.int .i64 0, .int .i64 0] 34)) w2) := by
    obtain ⟨g, cap, ob, e1, e2, e3, e4, e5⟩ := h2.out
    rw [hs2] at e1 e2 e3 e4
    exact ⟨g, cap, ob, _, 0, e1, e2, e3, by omega, fun t b _ hm => (by cases hm), e5, e4⟩
  have hkr : ((w.alloc (.cells #[.slice a0 l0 c0, .slice a1 l1 c1, .int .u32 (ms : Nat)] 25)).alloc (.cells #[.int .i64 0, .int .i64 0] 34)).heap[w.heap.size + 1]? = some (.cells #[.int .i64 0, .int .i64 0] 34 (0, 0)) := by
    have := heap_alloc_new (w.alloc (.cells #[.slice a0 l0 c0, .slice a1 l1 c1, .int .u32 (ms : Nat)] 25)) (.cells #[.int .i64 0, .int .i64 0] 34)
    simpa using this
  have HKR : Hid (_) := And.intro hkr hs2
  have HF : Hid (_) := And.intro hF hO
  clear hN1 h2 hkr hs2 hF hO
  go_wp2_with fail
  go_loopw [7, 12, 13, 14, 15, 16, 17, 18, 19] (fun _ c _ _ _ _ _ _ _ wr => ∃ i : Nat, i ≤ lf ∧ c = .int .i64 ((i : Nat) : Int) ∧ Hid (∃ g cap ob M N, w.heap.size + 2 ≤ jb ∧ w.heap.size + 2 ≤ ob ∧ w.heap.size + 2 ≤ g ∧ N ≤ 2 * i ∧ (∀ t b, t.ok → M t = some b → w.heap.size + 2 ≤ b) ∧ GJ wr jb g cap ob N M (sees J0 F i) ∧ Below (w.heap.size + 2) ((w.alloc (.cells #[.slice a0 l0 c0, .slice a1 l1 c1, .int .u32 (ms : Nat)] 25)).alloc (.cells #[.int .i64 0, .int .i64 0] 34)) wr)) (fun _ c _ _ _ _ _ _ _ _ => lf - natG c)
  case atStart => exact ⟨0, by omega, rfl, HI0⟩
  case round =>
    obtain ⟨i, hi, rfl, HI⟩ := hrel
    clear HI0
    by_cases hlt : i < lf
    · have hlt' : ((i : Nat) : Int) < ((lf : Nat) : Int) := by omega
      obtain ⟨g, cap, ob, M, N, e1, e2, e3, e4, e5, e6, e7⟩ := HI.out
      have b2 : Below w.heap.size w wr := HB1.out.trans (e7.mono (by omega))
      obtain ⟨q, off, da, dc, rfl, k0, k1, k2, k3, k4, k5, k6, k7, rd⟩ := (HF.out.1.below b2) i hlt
      have bw : Below wr.heap.size wr (wr.alloc (.cells #[.int .i64 (F i).k, .int .i64 (F i).c, .int .i64 (F i).s, .int .u32 ((F i).ss : Nat), .int .u32 ((F i).nn : Nat), .bool (F i).on, .int .i64 (F i).cd, .slice da (F i).n dc] 43)) := belowG (Below.refl _ _) _
      have hn := sees_n J0 F i
      have hS := gsee jb g cap ob N M (sees J0 F i) (F i) da dc _ (e6.below bw) (by unfold maxLen; omega) (by omega) (HF.out.2 i hlt) (rd.below bw)
      unfold faC at hS
      have HG : Hid (_) := e6.below bw
      have HE : Hid (_) := And.intro e1 (And.intro e2 (And.intro e3 (And.intro e4 (And.intro e5 (And.intro e7 (And.intro b2 bw))))))
      clear e1 e2 e3 e4 e5 e6 e7 rd hn b2 bw HI
      go_wp2_with fail
      refine hS.mono ?_
      rintro r w5 ⟨rfl, h5⟩
      have HI1 : Hid (∃ g cap ob M N, w.heap.size + 2 ≤ jb ∧ w.heap.size + 2 ≤ ob ∧ w.heap.size + 2 ≤ g ∧ N ≤ 2 * (i + 1) ∧ (∀ t b, t.ok → M t = some b → w.heap.size + 2 ≤ b) ∧ GJ w5 jb g cap ob N M (sees J0 F (i + 1)) ∧ Below (w.heap.size + 2) ((w.alloc (.cells #[.slice a0 l0 c0, .slice a1 l1 c1, .int .u32 (ms : Nat)] 25)).alloc (.cells #[.int .i64 0, .int .i64 0] 34)) w5) := by
        obtain ⟨e1, e2, e3, e4, e5, e7, b2, bw⟩ := HE.out
        obtain ⟨M', N', f1, f2, f3, f4⟩ := h5.out
        have sz1 := HKR.out.2
        have szr := e7.size
        rw [sz1] at szr
        have bwn := bw.size
        refine ⟨g, cap, ob, M', N', e1, e2, e3, by omega, fun t b ht hm => ?_, f3, ?_⟩
        · rcases f2 t b ht hm with h | h
          · exact e5 t b ht h
          · omega
        · have o := f4 ((List.range (wr.heap.size + jb + g + ob + 2)).filter (fun b => decide (w.heap.size + 2 ≤ b))) ⟨by simp; omega, by simp; omega, by simp; omega, fun t b ht hm => by
            have := e5 t b ht hm
            have l := HG.out.sm.lt1 ht hm
            simp at l ⊢
            omega⟩
          exact (e7.trans (bw.mono szr)).trans ⟨o.os, o.tape, o.output, o.size, fun kk hkk => o.block kk (by omega) (by simp; omega)⟩
      clear HE HG hS h5
      go_wp2_with fail
      go_roundw
      case rel => exact ⟨i + 1, by omega, by go_num, HI1⟩
      case measure => simp [natG] <;> omega
    · obtain rfl : i = lf := by omega
      have hlt' : ¬ ((i : Nat) : Int) < ((i : Nat) : Int) := by omega
      obtain ⟨g, cap, ob, M, N, e1, e2, e3, e4, e5, e6, e7⟩ := HI.out
      have hV := gverdict jb g cap ob N M (sees J0 F i) wr e6
      have HE : Hid (_) := And.intro e7 (And.intro HKR.out.1 HKR.out.2)
      clear e1 e2 e3 e4 e5 e6 e7 HI
      go_wp2_with fail
      refine hV.mono ?_
      rintro r w5 ⟨rfl, b5⟩
      obtain ⟨e7, kr, sz1⟩ := HE.out
      have szr := e7.size
      have kr5 := (b5.block (w.heap.size + 1) (by omega)).trans ((e7.block (w.heap.size + 1) (by omega)).trans kr)
      have p0 := cell_of_row w5 _ 0 _ _ _ kr5
      have p1 := cell_of_row w5 _ 1 _ _ _ kr5
      have pz := fun k => frozen_of_row w5 _ k _ _ kr5
      have HW : Hid (_) := b5
      clear b5 kr e7
      go_wp2_with fail
      refine bodyPost_ret (v := .agg #[.int .i64 (sees J0 F i).r, .int .i64 (sees J0 F i).a]) (by simp [results, Try.results15, go_sem, p0, p1]) rfl ⟨rfl, ?_⟩
      obtain ⟨e7, kr, sz1⟩ := HE.out
      have b6 : Below w.heap.size w w5 := (HB1.out.trans (e7.mono (by omega))).trans (HW.out.mono (by have := HB1.out.size; omega))
      exact (Off.setCell (w.heap.size + 1) 1 _ _).below ((Off.setCell (w.heap.size + 1) 0 _ _).below b6 (fun k hk => by simp at hk; omega) b6.size) (fun k hk => by simp at hk; omega) (by have := b6.size; simp [World.setCell]; omega)
end Go.Proofs.Ythlgahkoignnkaa
