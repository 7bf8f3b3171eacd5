/- Layer 18: Copied. -/
import Derived.Test.YtaeamogagaaodaaGc2
namespace Go.Proofs.Ytaeamogagaaodaa
open Go.RowKit Go.Maps Go.Sort
set_option maxRecDepth 100000
theorem info_fact : (Try.prog.info? 43).map (fun i => (i.zero, i.size, i.bytes)) = some (some (.agg #[.int .i64 0, .int .i64 0, .int .i64 0, .int .u32 0, .int .u32 0, .bool false, .int .i64 0, .slice none 0 0]), 8, 72) := by kernel_rfl
theorem build0F (w : World) : (Instr.buildSlice 26 0 #[]).run Try.prog w = .ok (.slice (some ⟨w.heap.size, 0, none⟩) 0 0) (w.alloc (.cells #[] 43)) := by kernel_rfl
theorem build0G (w : World) : (Instr.buildSlice 41 0 #[]).run Try.prog w = .ok (.slice (some ⟨w.heap.size, 0, none⟩) 0 0) (w.alloc (.cells #[] 5)) := by kernel_rfl
theorem own0F (w : World) (F : Nat → Fa) (A : Nat → Option Addr) (C : Nat → Nat) : (w.alloc (.cells #[] 43)).ownsRow w.heap.size 43 8 (.slice (some ⟨w.heap.size, 0, none⟩) 0 0) 0 (flF 0 F A C) := World.ownsRow_made w #[] 0 (Nat.le_refl _) (Nat.zero_le _) rfl
theorem flF_cells {W : World} {q off len : Nat} {F : Nat → Fa} {A : Nat → Option Addr} {C : Nat → Nat} (h : ∀ i, i < len → ∀ j u, (faL (F i) (A i) (C i))[j]? = some u → W.cell? ⟨q, off + i * 8 + j, none⟩ = some u) : ∀ j u, (flF len F A C)[j]? = some u → W.cell? ((⟨q, off, none⟩ : Addr).add j) = some u := fun j u hu => by
  have hj : j < len * 8 := by
    have := (List.getElem?_eq_some_iff.1 hu).1
    rwa [flF_len] at this
  have e : (Addr.add ⟨q, off, none⟩ j) = ⟨q, off + j / 8 * 8 + j % 8, none⟩ := by
    have d : off + j / 8 * 8 + j % 8 = off + j := by omega
    rw [d]
    unfold Addr.add
    split
    · next z => rw [z, Nat.add_zero]
    · rfl
  rw [e]
  refine h (j / 8) (by omega) (j % 8) u ?_
  rw [← flF_get len F A C (j / 8) (j % 8) (by omega) (by omega), ← hu]
  congr 1
  omega
/-- The copy as it is made first: the data are those that came. -/
theorem Cq.made {w w2 : World} {B0 g cp len : Nat} {cur : Array Value} {F : Nat → Fa} {A : Nat → Option Addr} {C : Nat → Nat} (b : Below w.heap.size w w2) (hg : w.heap.size ≤ g) (hgg : w2.heap[g]? = some (.cells cur 43 (0, 0))) (h1 : len ≤ cp) (h2 : cp ≤ maxLen) (h3 : cur.size = cp * 8) (ht : cur.toList.take (len * 8) = flF len F A C) (R : ∀ i, i < len → Row8 w (A i) (F i).n (C i) (F i).b) (R0 : ∀ i, i < len → ∀ y, A i = some y → 0 < (F i).n → y.block < B0) : Cq w w2 B0 g cp len F := by
  refine ⟨b, ⟨cur, hgg, h3⟩, ⟨h1, h2⟩, fun i hi => ⟨A i, C i, fun j u hu => ?_, (R i hi).below b, fun y hy hn => ⟨?_, .inl (R0 i hi y hy hn)⟩⟩⟩
  · have hj : j < 8 := by
      have := (List.getElem?_eq_some_iff.1 hu).1
      simpa [faL] using this
    rw [cell_of_row w2 g (i * 8 + j) _ _ _ hgg, ← hu, ← flF_get len F A C i j hi hj, ← ht, List.getElem?_take_of_lt (by omega), Array.getElem?_toList]
  · have h1 := (R i hi).src y hy 0 hn
    have hlt := World.block_lt_of_cell? w _ h1
    have hb : (y.add 0).block = y.block := by unfold Addr.add; split <;> rfl
    omega
set_option maxHeartbeats 4000000 in
theorem gcopied (a : Option Addr) (cap len : Nat) (F : Nat → Fa) (w w0 : World) (bb : Below w0.heap.size w0 w) (h0 : 0 < len) (hlen : len ≤ 100000) (hF0 : FRow w0 a len F) (hO : ∀ i, i < len → (F i).n ≤ 140737488355328) : Calls Try.prog 12 #[.slice a len cap] w fun r w' => ∃ g c, r = .returned (.slice (some ⟨g, 0, none⟩) len c) ∧ Hid (w.heap.size ≤ g ∧ Cq w w' w0.heap.size g c len F) := by
  obtain ⟨q, off, A, C, rfl, hA0⟩ := hF0.at_ h0
  have HR0 : Hid (∀ i, i < len → ∀ y, A i = some y → 0 < (F i).n → y.block < w0.heap.size) := fun i hi y hy hn => by
    have h1 := (hA0 i hi).2.src y hy 0 hn
    have hlt := World.block_lt_of_cell? w0 _ h1
    have hb : (y.add 0).block = y.block := by unfold Addr.add; split <;> rfl
    omega
  have hA : ∀ i, i < len → (∀ j u, (faL (F i) (A i) (C i))[j]? = some u → w.cell? ⟨q, off + i * 8 + j, none⟩ = some u) ∧ Row8 w (A i) (F i).n (C i) (F i).b := fun i hi => ⟨fun j u hu => cell_belowJ ((hA0 i hi).1 j u hu) bb, (hA0 i hi).2.below bb⟩
  obtain ⟨B0, hB0⟩ : ∃ B0, w0.heap.size = B0 := ⟨_, rfl⟩
  rw [hB0] at HR0 ⊢
  clear hA0 hF0 bb hB0
  obtain ⟨i0, hI, hz0, hz1, hz2⟩ := info_parts info_fact
  have hbF := build0F
  have bA : Below w.heap.size w (w.alloc (.cells #[] 43)) := (Below.refl _ _).alloc (Nat.le_refl _) _
  have hszA := bA.size
  have O0 := own0F w F A C
  have hnews := flF_cells (W := w.alloc (.cells #[] 43)) (F := F) (A := A) (C := C) (fun i hi j u hu => cell_belowJ ((hA i hi).1 j u hu) bA)
  have hl := flF_len len F A C
  have ho := flF_one len F A C
  go_enter Try.func12, Try.ntmps12
  go_wp2_with (at_builtin; refine wpList_append_own_at _ rfl _ _ 26 rfl w.heap.size 43 i0 (.agg #[.int .i64 0, .int .i64 0, .int .i64 0, .int .u32 0, .int .u32 0, .bool false, .int .i64 0, .slice none 0 0]) 8 72 Try.underlying26 hI hz0 hz1 hz2 rfl (by decide) (.slice (some ⟨w.heap.size, 0, none⟩) 0 0) 0 (flF 0 F A C) rfl O0 ⟨q, off, none⟩ len cap (flF len F A C) rfl hl hnews ho (by unfold maxLen; omega) (by omega) hszA ?_)
  intro v2 w2 O2 G2 _ _
  have b2 : Below w.heap.size w w2 := bA.grown G2 hszA (fun k hk => (O0.lt k hk).1)
  replace O2 : w2.ownsRow w.heap.size 43 8 v2 len (flF len F A C) := O2
  obtain ⟨g, cp, cur, rfl, hg, hgg, h1, h2, h3, h4⟩ := O2.2.resolve_left (fun x => by have := x.2; omega)
  have HQ : Hid (w.heap.size ≤ g ∧ Cq w w2 B0 g cp len F) := ⟨hg, Cq.made b2 hg hgg h1 h2 h3 h4 (fun i hi => (hA i hi).2) HR0.out⟩
  clear O2 G2 b2 O0 hnews hl ho bA hszA hA HR0 hgg h1 h2 h3 h4
  go_wp2_with fail
  go_loopw [4, 10, 11, 12, 13, 14, 15, 16, 17, 18, 19, 20, 21, 22, 23, 24] (fun _ c _ _ _ _ _ _ _ _ _ _ _ _ _ _ wr => ∃ i : Nat, i ≤ len ∧ c = .int .i64 ((i : Nat) : Int) ∧ Hid (w.heap.size ≤ g ∧ Cq w wr B0 g cp len F)) (fun _ c _ _ _ _ _ _ _ _ _ _ _ _ _ _ _ => len - natG c)
  case atStart => exact ⟨0, by omega, rfl, HQ⟩
  case round =>
    obtain ⟨i, hi, rfl, HI⟩ := hrel
    clear HQ
    by_cases hlt : i < len
    · have hlt' : ((i : Nat) : Int) < ((len : Nat) : Int) := by omega
      obtain ⟨j0, hJ, hy0, hy1, hy2⟩ := info_parts info_u8
      have hbG := build0G
      obtain ⟨cur2, hc2, _⟩ := HI.out.2.blk
      have hgl : g < wr.heap.size := (Array.getElem?_eq_some_iff.1 hc2).1
      obtain ⟨da, dc, k1, k2, k3⟩ := HI.out.2.row i hlt
      have bw : Below wr.heap.size wr (wr.alloc (.cells #[] 5)) := (Below.refl _ _).alloc (Nat.le_refl _) _
      have hsw := bw.size
      have c7 := cell_belowJ (k1 7 _ rfl) bw
      have R0 := k2.below bw
      have hby := k2.byte
      have hn := hO i hlt
      have O1 : (wr.alloc (.cells #[] 5)).ownsRow wr.heap.size 5 1 (.slice (some ⟨wr.heap.size, 0, none⟩) 0 0) 0 (CB (F i).b 0) := World.ownsRow_made wr #[] 0 (Nat.le_refl _) (Nat.zero_le _) rfl
      have HK : Hid (_) := k1
      clear k1 k3
      go_wp2_with (at_builtin; refine wpList_append_row8 rfl (.tmp 15) (.tmp 20) 41 rfl wr.heap.size 5 j0 (.int .u8 0) Try.underlying41 hJ hy0 hy1 hy2 rfl _ 0 _ rfl O1 da (F i).n dc (F i).b rfl R0 (by unfold maxLen; omega) (by omega) hsw ?_)
      intro v3 w3 O3 G3
      have b3 : Below wr.heap.size wr w3 := bw.grown G3 hsw (fun k hk => (O1.lt k hk).1)
      replace O3 : w3.ownsRow wr.heap.size 5 1 v3 (F i).n (CB (F i).b (F i).n) := by simpa [CB] using O3
      obtain ⟨a3, n3, rfl, R3⟩ := own_row8 O3 hby
      have hwr : w.heap.size ≤ wr.heap.size := HI.out.2.bel.size
      have hd : ∀ y, a3 = some y → 0 < (F i).n → y.block ≠ g ∧ (y.block < B0 ∨ w.heap.size ≤ y.block) := fun y hy hp => by
        rcases O3.2 with ⟨_, hx⟩ | ⟨g', cap', cur', e', hg', _⟩
        · omega
        · simp only [Value.slice.injEq] at e'
          rw [e'.1] at hy
          cases hy
          show g' ≠ g ∧ (g' < B0 ∨ w.heap.size ≤ g')
          omega
      have Q3 := HI.out.2.below b3
      have HS : Hid (w.heap.size ≤ g ∧ Cq w (w3.setCell ⟨g, i * 8 + 7, none⟩ (.slice a3 (F i).n n3)) B0 g cp len F) := ⟨hg, Q3.set hg hlt R3 hd⟩
      have c73 := cell_belowJ (HK.out 7 _ rfl) b3
      have fz : w3.frozen? ⟨g, i * 8 + 7, none⟩ = false := frozen_of_row w3 g _ _ _ ((b3.block g hgl).trans hc2)
      clear O3 G3 R3 hd Q3 O1 R0 bw b3 HK HI hwr
      go_wp2_with fail
      refine ⟨⟨i + 1, by omega, by simp, HS⟩, ?_⟩
      have e1 : natG (.int .i64 ((i : Nat) : Int)) = i := by simp [natG]
      have e2 : natG (.int .i64 (((i : Nat) : Int) + 1)) = i + 1 := by simp [natG]
      rw [e1, e2]
      omega
    · obtain rfl : i = len := by omega
      have hlt' : ¬ ((i : Nat) : Int) < ((i : Nat) : Int) := by omega
      go_wp2_with fail
      go_ret
      first | exact HI.out | exact ⟨g, cp, rfl, HI⟩ | exact ⟨g, HI.out.1, HI.out.2⟩ | exact ⟨g, rfl, HI.out⟩ | exact ⟨g, ⟨cp, rfl⟩, HI.out⟩ | trace_state
end Go.Proofs.Ytaeamogagaaodaa
