/- Part 18 of the texts on which the proof rests: contracts of Go functions. -/
import Derived.Laws.AppendOwnNone
import Derived.Deep.RegionHeld3
import Derived.Test.YthlgahkoignnkaaPkG02
import Derived.Test.YthlgahkoignnkaaPkG05
import Derived.Test.YthlgahkoignnkaaPkG11
import Derived.Test.YthlgahkoignnkaaPkG13
import Derived.Test.YthlgahkoignnkaaPkG15
import Derived.Test.YthlgahkoignnkaaPkG16
namespace Go.Proofs.Ythlgahkoignnkaa
open Go.RowKit Go.Maps Go.Sort
set_option maxRecDepth 100000
def Ex.may (x : Ex) (f : Fa) (dev : Bool) (ses : Nat) : Bool := x.has && (f.n != 0) && (x.e.v.toList == f.x.toList) && !(dev && (x.inn != ses))
def Ex.orl (x : Ex) (f : Fa) (dev : Bool) (ses : Nat) : Int := outR f.on (x.may f dev ses) (sfe f.n f.b) (f.cd != 0) x.e.ovr (x.e.lat != 0) x.e.ak
def Ex.shw (x : Ex) (f : Fa) (dev : Bool) (ses : Nat) : Ex := if x.orl f dev ses = 0 then { x with e := x.e.shw f.cd } else x
theorem tn_drew {w w' : World} {g p q : Nat} (h : Tn w w' g p q) : Tn w w'.drew g p q := h.trans (Tn.drewN w' g p q 1)
theorem tn_drewN {w w' : World} {g p q : Nat} (h : Tn w w' g p q) (n : Nat) : Tn w (w'.drewN n) g p q := h.trans (Tn.drewN w' g p q n)
theorem tn_set {w w' : World} {g p q i : Nat} {v : Value} (h : Tn w w' g p q) (h1 : p ≤ i) (h2 : i < q) : Tn w (w'.setCell ⟨g, i, none⟩ v) g p q := h.trans (Tn.set _ g _ _ _ _ h1 h2)
theorem ex_drew {w : World} {g p : Nat} {x : Ex} (h : ExW w g p x) : ExW w.drew g p x := h.drewN 1
theorem ex_drewN {w : World} {g p : Nat} {x : Ex} (h : ExW w g p x) (n : Nat) : ExW (w.drewN n) g p x := h.drewN n
theorem Ex.shw_no {x : Ex} {f : Fa} {dev : Bool} {ses : Nat} (h : x.orl f dev ses ≠ 0) : x.shw f dev ses = x := by unfold Ex.shw; rw [if_neg h]
theorem Ex.shw_go {x : Ex} {f : Fa} {dev : Bool} {ses : Nat} (h : x.orl f dev ses = 0) : x.shw f dev ses = { x with e := x.e.shw f.cd } := by unfold Ex.shw; rw [if_pos h]
end Go.Proofs.Ythlgahkoignnkaa
namespace Go.Proofs.Ythlgahkoignnkaa
open Go.RowKit Go.Maps Go.Sort
set_option maxRecDepth 100000
structure Cq (w wr : World) (B0 g cp len : Nat) (F : Nat → Fa) : Prop where
  bel : Below w.heap.size w wr
  blk : ∃ cur, wr.heap[g]? = some (.cells cur 43 (0, 0)) ∧ cur.size = cp * 8
  cap : len ≤ cp ∧ cp ≤ maxLen
  row : ∀ i, i < len → ∃ da dc, (∀ j u, (faL (F i) da dc)[j]? = some u → wr.cell? ⟨g, i * 8 + j, none⟩ = some u) ∧ Row8 wr da (F i).n dc (F i).b ∧ ∀ y, da = some y → 0 < (F i).n → y.block ≠ g ∧ (y.block < B0 ∨ w.heap.size ≤ y.block)
section
variable {w wr w' : World} {B0 g cp len : Nat} {F : Nat → Fa}
theorem Cq.below (h : Cq w wr B0 g cp len F) (b : Below wr.heap.size wr w') : Cq w w' B0 g cp len F := by
  obtain ⟨cur, hc, hz⟩ := h.blk
  refine ⟨h.bel.trans (b.mono h.bel.size), ⟨cur, (b.block g (Array.getElem?_eq_some_iff.1 hc).1).trans hc, hz⟩, h.cap, fun i hi => ?_⟩
  obtain ⟨da, dc, h1, h2, h3⟩ := h.row i hi
  exact ⟨da, dc, fun j u hu => cell_belowJ (h1 j u hu) b, h2.below b, h3⟩
theorem Cq.frow (h : Cq w wr B0 g cp len F) : FRow wr (some ⟨g, 0, none⟩) len F := fun i hi => by
  obtain ⟨da, dc, h1, h2, _⟩ := h.row i hi
  refine ⟨g, 0, da, dc, rfl, ?_, ?_, ?_, ?_, ?_, ?_, ?_, ?_, h2⟩
  all_goals rw [Nat.zero_add]
  · exact h1 0 _ rfl
  · exact h1 1 _ rfl
  · exact h1 2 _ rfl
  · exact h1 3 _ rfl
  · exact h1 4 _ rfl
  · exact h1 5 _ rfl
  · exact h1 6 _ rfl
  · exact h1 7 _ rfl
theorem row8_off2 {a : Option Addr} {n cap r : Nat} {bs : Nat → Nat} (h : Row8 wr a n cap bs) (q : Off [r] wr w') (hl : ∀ y, a = some y → 0 < n → y.block ≠ r) : Row8 w' a n cap bs := by
  refine ⟨h.byte, h.nil, fun x hx i hi => ?_, h.le⟩
  have h1 := h.src x hx i hi
  have hlt := World.block_lt_of_cell? wr _ h1
  have hb : (x.add i).block = x.block := by unfold Addr.add; split <;> rfl
  have he : w'.heap[(x.add i).block]? = wr.heap[(x.add i).block]? := q.block _ hlt (by rw [hb]; simpa using hl x hx (by omega))
  rw [← h1]
  unfold World.cell?
  rw [he]
theorem Cq.set (h : Cq w wr B0 g cp len F) (hg : w.heap.size ≤ g) {i : Nat} (hi : i < len) {da : Option Addr} {dc : Nat} (R : Row8 wr da (F i).n dc (F i).b) (hd : ∀ y, da = some y → 0 < (F i).n → y.block ≠ g ∧ (y.block < B0 ∨ w.heap.size ≤ y.block)) : Cq w (wr.setCell ⟨g, i * 8 + 7, none⟩ (.slice da (F i).n dc)) B0 g cp len F := by
  have o : Off [g] wr (wr.setCell ⟨g, i * 8 + 7, none⟩ (.slice da (F i).n dc)) := Off.setCell _ _ _ _
  obtain ⟨cur, hc, hz⟩ := h.blk
  refine ⟨o.below h.bel (fun k hk => by simp at hk; omega) h.bel.size, ⟨_, heap_setCell_same _ _ _ _ _ _ hc, by simpa using hz⟩, h.cap, fun k hk => ?_⟩
  obtain ⟨dk, ck, h1, h2, h3⟩ := h.row k hk
  by_cases e : k = i
  · subst e
    refine ⟨da, dc, fun j u hu => ?_, row8_off2 R o (fun y hy hn => (hd y hy hn).1), hd⟩
    have hj : j < 8 := by
      have := (List.getElem?_eq_some_iff.1 hu).1
      simpa [faL] using this
    by_cases e7 : j = 7
    · subst e7
      simp [faL] at hu
      subst hu
      exact World.cell?_setCell_same _ _ _ (h1 7 _ rfl)
    · rw [World.cell?_setCell_other _ _ _ _ (by intro q; have := congrArg Addr.off q; simp at this; omega)]
      have : j = 0 ∨ j = 1 ∨ j = 2 ∨ j = 3 ∨ j = 4 ∨ j = 5 ∨ j = 6 := by omega
      rcases this with rfl | rfl | rfl | rfl | rfl | rfl | rfl
      all_goals exact h1 _ u hu
  · refine ⟨dk, ck, fun j u hu => ?_, row8_off2 h2 o (fun y hy hn => (h3 y hy hn).1), h3⟩
    have hj : j < 8 := by
      have := (List.getElem?_eq_some_iff.1 hu).1
      simpa [faL] using this
    rw [World.cell?_setCell_other _ _ _ _ (by intro q; have := congrArg Addr.off q; simp at this; omega)]
    exact h1 j u hu
theorem Cq.own (h : Cq w wr B0 g cp len F) {B : Nat} (hB : B ≤ g) : ∃ (A : Nat → Option Addr) (C : Nat → Nat), wr.ownsRow B 43 8 (.slice (some ⟨g, 0, none⟩) len cp) len (flF len F A C) ∧ ∀ i, i < len → Row8 wr (A i) (F i).n (C i) (F i).b ∧ ∀ y, A i = some y → 0 < (F i).n → y.block ≠ g ∧ (y.block < B0 ∨ w.heap.size ≤ y.block) := by
  have key : ∀ i, ∃ x : Option Addr × Nat, i < len → (∀ j u, (faL (F i) x.1 x.2)[j]? = some u → wr.cell? ⟨g, i * 8 + j, none⟩ = some u) ∧ Row8 wr x.1 (F i).n x.2 (F i).b ∧ ∀ y, x.1 = some y → 0 < (F i).n → y.block ≠ g ∧ (y.block < B0 ∨ w.heap.size ≤ y.block) := fun i => by
    by_cases hi : i < len
    · obtain ⟨da, dc, h1, h2, h3⟩ := h.row i hi
      exact ⟨(da, dc), fun _ => ⟨h1, h2, h3⟩⟩
    · exact ⟨(none, 0), fun q => absurd q hi⟩
  obtain ⟨X, hX⟩ := Classical.axiomOfChoice key
  obtain ⟨cur, hc, hz⟩ := h.blk
  have hcap := h.cap
  refine ⟨fun i => (X i).1, fun i => (X i).2, ⟨flF_len _ _ _ _, .inr ⟨g, cp, cur, rfl, hB, hc, hcap.1, hcap.2, hz, ?_⟩⟩, fun i hi => (hX i hi).2⟩
  apply List.ext_getElem?
  intro k
  by_cases hk : k < len * 8
  · rw [List.getElem?_take_of_lt hk, Array.getElem?_toList, ← cell_of_row wr g k _ _ _ hc]
    have hl : k < (flF len F (fun i => (X i).1) (fun i => (X i).2)).length := by rw [flF_len]; exact hk
    rw [List.getElem?_eq_getElem hl]
    have e := flF_get len F (fun i => (X i).1) (fun i => (X i).2) (k / 8) (k % 8) (by omega) (by omega)
    have ek : k / 8 * 8 + k % 8 = k := by omega
    rw [ek, List.getElem?_eq_getElem hl] at e
    have := (hX (k / 8) (by omega)).1 (k % 8) _ e.symm
    rwa [ek] at this
  · rw [List.getElem?_eq_none (by simp; omega), List.getElem?_eq_none (by rw [flF_len]; omega)]
end
end Go.Proofs.Ythlgahkoignnkaa
namespace Go.Proofs.Ythlgahkoignnkaa
open Go.RowKit Go.Maps Go.Sort
set_option maxRecDepth 100000
theorem info_fact : (Try.prog.info? 43).map (fun i => (i.zero, i.size, i.bytes)) = some (some (.agg #[.int .i64 0, .int .i64 0, .int .i64 0, .int .u32 0, .int .u32 0, .bool false, .int .i64 0, .slice none 0 0]), 8, 72) := by kernel_rfl
theorem build0F (w : World) : (Instr.buildSlice 26 0 #[]).run Try.prog w = .ok (.slice (some ⟨w.heap.size, 0, none⟩) 0 0) (w.alloc (.cells #[] 43)) := by kernel_rfl
theorem build0G (w : World) : (Instr.buildSlice 41 0 #[]).run Try.prog w = .ok (.slice (some ⟨w.heap.size, 0, none⟩) 0 0) (w.alloc (.cells #[] 5)) := by kernel_rfl
theorem own0F (w : World) (F : Nat → Fa) (A : Nat → Option Addr) (C : Nat → Nat) : (w.alloc (.cells #[] 43)).ownsRow w.heap.size 43 8 (.slice (some ⟨w.heap.size, 0, none⟩) 0 0) 0 (flF 0 F A C) := World.ownsRow_made w #[] 0 (Nat.le_refl _) (Nat.zero_le _) rfl
theorem flF_cells {W : World} {q off len : Nat} {F : Nat → Fa} {A : Nat → Option Addr} {C : Nat → Nat} (h : ∀ i, i < len → ∀ j u, (faL (F i) (A i) (C i))[j]? = some u → W.cell? ⟨q, off + i * 8 + j, none⟩ = some u) : ∀ j u, (flF len F A C)[j]? = some u → W.cell? ((⟨q, off, none⟩ : Addr).add j) = some u := fun j u hu => by
  have hj : j < len * 8 := by
    have := (List.getElem?_eq_some_iff.1 hu).1
    rwa [flF_len] at this
  have e : (Addr.add ⟨q, off, none⟩ j) = ⟨q, off + j / 8 * 8 + j % 8, none⟩ := by
    have d : off + j / 8 * 8 + j % 8 = off + j := by omega
    rw [d]
    unfold Addr.add
    split
    · next z => rw [z, Nat.add_zero]
    · rfl
  rw [e]
  refine h (j / 8) (by omega) (j % 8) u ?_
  rw [← flF_get len F A C (j / 8) (j % 8) (by omega) (by omega), ← hu]
  congr 1
  omega
theorem Cq.made {w w2 : World} {B0 g cp len : Nat} {cur : Array Value} {F : Nat → Fa} {A : Nat → Option Addr} {C : Nat → Nat} (b : Below w.heap.size w w2) (hg : w.heap.size ≤ g) (hgg : w2.heap[g]? = some (.cells cur 43 (0, 0))) (h1 : len ≤ cp) (h2 : cp ≤ maxLen) (h3 : cur.size = cp * 8) (ht : cur.toList.take (len * 8) = flF len F A C) (R : ∀ i, i < len → Row8 w (A i) (F i).n (C i) (F i).b) (R0 : ∀ i, i < len → ∀ y, A i = some y → 0 < (F i).n → y.block < B0) : Cq w w2 B0 g cp len F := by
  refine ⟨b, ⟨cur, hgg, h3⟩, ⟨h1, h2⟩, fun i hi => ⟨A i, C i, fun j u hu => ?_, (R i hi).below b, fun y hy hn => ⟨?_, .inl (R0 i hi y hy hn)⟩⟩⟩
  · have hj : j < 8 := by
      have := (List.getElem?_eq_some_iff.1 hu).1
      simpa [faL] using this
    rw [cell_of_row w2 g (i * 8 + j) _ _ _ hgg, ← hu, ← flF_get len F A C i j hi hj, ← ht, List.getElem?_take_of_lt (by omega), Array.getElem?_toList]
  · have h1 := (R i hi).src y hy 0 hn
    have hlt := World.block_lt_of_cell? w _ h1
    have hb : (y.add 0).block = y.block := by unfold Addr.add; split <;> rfl
    omega
set_option maxHeartbeats 4000000 in
theorem gcopied (a : Option Addr) (cap len : Nat) (F : Nat → Fa) (w w0 : World) (bb : Below w0.heap.size w0 w) (h0 : 0 < len) (hlen : len * 72 ≤ 140737488351232) (hF0 : FRow w0 a len F) (hO : ∀ i, i < len → (F i).n ≤ 140737488355328) : Calls Try.prog 12 #[.slice a len cap] w fun r w' => ∃ g c, r = .returned (.slice (some ⟨g, 0, none⟩) len c) ∧ Hid (w.heap.size ≤ g ∧ Cq w w' w0.heap.size g c len F) := by
  obtain ⟨q, off, A, C, rfl, hA0⟩ := hF0.at_ h0
  have HR0 : Hid (∀ i, i < len → ∀ y, A i = some y → 0 < (F i).n → y.block < w0.heap.size) := fun i hi y hy hn => by
    have h1 := (hA0 i hi).2.src y hy 0 hn
    have hlt := World.block_lt_of_cell? w0 _ h1
    have hb : (y.add 0).block = y.block := by unfold Addr.add; split <;> rfl
    omega
  have hA : ∀ i, i < len → (∀ j u, (faL (F i) (A i) (C i))[j]? = some u → w.cell? ⟨q, off + i * 8 + j, none⟩ = some u) ∧ Row8 w (A i) (F i).n (C i) (F i).b := fun i hi => ⟨fun j u hu => cell_belowJ ((hA0 i hi).1 j u hu) bb, (hA0 i hi).2.below bb⟩
  obtain ⟨B0, hB0⟩ : ∃ B0, w0.heap.size = B0 := ⟨_, rfl⟩
  rw [hB0] at HR0 ⊢
  clear hA0 hF0 bb hB0
  obtain ⟨i0, hI, hz0, hz1, hz2⟩ := info_parts info_fact
  have hbF := build0F
  have bA : Below w.heap.size w (w.alloc (.cells #[] 43)) := (Below.refl _ _).alloc (Nat.le_refl _) _
  have hszA := bA.size
  have O0 := own0F w F A C
  have hnews := flF_cells (W := w.alloc (.cells #[] 43)) (F := F) (A := A) (C := C) (fun i hi j u hu => cell_belowJ ((hA i hi).1 j u hu) bA)
  have hl := flF_len len F A C
  have ho := flF_one len F A C
  go_enter Try.func12, Try.ntmps12
  go_wp2_with (at_builtin; refine wpList_append_own_at _ rfl _ _ 26 rfl w.heap.size 43 i0 (.agg #[.int .i64 0, .int .i64 0, .int .i64 0, .int .u32 0, .int .u32 0, .bool false, .int .i64 0, .slice none 0 0]) 8 72 Try.underlying26 hI hz0 hz1 hz2 rfl (by decide) (.slice (some ⟨w.heap.size, 0, none⟩) 0 0) 0 (flF 0 F A C) rfl O0 ⟨q, off, none⟩ len cap (flF len F A C) rfl hl hnews ho (by unfold maxLen; omega) (by omega) hszA ?_)
  intro v2 w2 O2 G2 _ _
  have b2 : Below w.heap.size w w2 := bA.grown G2 hszA (fun k hk => (O0.lt k hk).1)
  replace O2 : w2.ownsRow w.heap.size 43 8 v2 len (flF len F A C) := O2
  obtain ⟨g, cp, cur, rfl, hg, hgg, h1, h2, h3, h4⟩ := O2.2.resolve_left (fun x => by have := x.2; omega)
  have HQ : Hid (w.heap.size ≤ g ∧ Cq w w2 B0 g cp len F) := ⟨hg, Cq.made b2 hg hgg h1 h2 h3 h4 (fun i hi => (hA i hi).2) HR0.out⟩
  clear O2 G2 b2 O0 hnews hl ho bA hszA hA HR0 hgg h1 h2 h3 h4
  go_wp2_with fail
  go_loopw [4, 10, 11, 12, 13, 14, 15, 16, 17, 18, 19, 20, 21, 22, 23, 24] (fun _ c _ _ _ _ _ _ _ _ _ _ _ _ _ _ wr => ∃ i : Nat, i ≤ len ∧ c = .int .i64 ((i : Nat) : Int) ∧ Hid (w.heap.size ≤ g ∧ Cq w wr B0 g cp len F)) (fun _ c _ _ _ _ _ _ _ _ _ _ _ _ _ _ _ => len - natG c)
  case atStart => exact ⟨0, by omega, rfl, HQ⟩
  case round =>
    obtain ⟨i, hi, rfl, HI⟩ := hrel
    clear HQ
    by_cases hlt : i < len
    · have hlt' : ((i : Nat) : Int) < ((len : Nat) : Int) := by omega
      obtain ⟨j0, hJ, hy0, hy1, hy2⟩ := info_parts info_u8
      have hbG := build0G
      obtain ⟨cur2, hc2, _⟩ := HI.out.2.blk
      have hgl : g < wr.heap.size := (Array.getElem?_eq_some_iff.1 hc2).1
      obtain ⟨da, dc, k1, k2, k3⟩ := HI.out.2.row i hlt
      have bw : Below wr.heap.size wr (wr.alloc (.cells #[] 5)) := (Below.refl _ _).alloc (Nat.le_refl _) _
      have hsw := bw.size
      have c7 := cell_belowJ (k1 7 _ rfl) bw
      have R0 := k2.below bw
      have hby := k2.byte
      have hn := hO i hlt
      have O1 : (wr.alloc (.cells #[] 5)).ownsRow wr.heap.size 5 1 (.slice (some ⟨wr.heap.size, 0, none⟩) 0 0) 0 (CB (F i).b 0) := World.ownsRow_made wr #[] 0 (Nat.le_refl _) (Nat.zero_le _) rfl
      have HK : Hid (_) := k1
      clear k1 k3
      go_wp2_with (at_builtin; refine wpList_append_row8 rfl (.tmp 15) (.tmp 20) 41 rfl wr.heap.size 5 j0 (.int .u8 0) Try.underlying41 hJ hy0 hy1 hy2 rfl _ 0 _ rfl O1 da (F i).n dc (F i).b rfl R0 (by unfold maxLen; omega) (by omega) hsw ?_)
      intro v3 w3 O3 G3
      have b3 : Below wr.heap.size wr w3 := bw.grown G3 hsw (fun k hk => (O1.lt k hk).1)
      replace O3 : w3.ownsRow wr.heap.size 5 1 v3 (F i).n (CB (F i).b (F i).n) := by simpa [CB] using O3
      obtain ⟨a3, n3, rfl, R3⟩ := own_row8 O3 hby
      have hwr : w.heap.size ≤ wr.heap.size := HI.out.2.bel.size
      have hd : ∀ y, a3 = some y → 0 < (F i).n → y.block ≠ g ∧ (y.block < B0 ∨ w.heap.size ≤ y.block) := fun y hy hp => by
        rcases O3.2 with ⟨_, hx⟩ | ⟨g', cap', cur', e', hg', _⟩
        · omega
        · simp only [Value.slice.injEq] at e'
          rw [e'.1] at hy
          cases hy
          show g' ≠ g ∧ (g' < B0 ∨ w.heap.size ≤ g')
          omega
      have Q3 := HI.out.2.below b3
      have HS : Hid (w.heap.size ≤ g ∧ Cq w (w3.setCell ⟨g, i * 8 + 7, none⟩ (.slice a3 (F i).n n3)) B0 g cp len F) := ⟨hg, Q3.set hg hlt R3 hd⟩
      have c73 := cell_belowJ (HK.out 7 _ rfl) b3
      have fz : w3.frozen? ⟨g, i * 8 + 7, none⟩ = false := frozen_of_row w3 g _ _ _ ((b3.block g hgl).trans hc2)
      clear O3 G3 R3 hd Q3 O1 R0 bw b3 HK HI hwr
      go_wp2_with fail
      refine ⟨⟨i + 1, by omega, by simp, HS⟩, ?_⟩
      have e1 : natG (.int .i64 ((i : Nat) : Int)) = i := by simp [natG]
      have e2 : natG (.int .i64 (((i : Nat) : Int) + 1)) = i + 1 := by simp [natG]
      rw [e1, e2]
      omega
    · obtain rfl : i = len := by omega
      have hlt' : ¬ ((i : Nat) : Int) < ((i : Nat) : Int) := by omega
      go_wp2_with fail
      go_ret
      first | exact HI.out | exact ⟨g, cp, rfl, HI⟩ | exact ⟨g, HI.out.1, HI.out.2⟩ | exact ⟨g, rfl, HI.out⟩ | exact ⟨g, ⟨cp, rfl⟩, HI.out⟩ | trace_state
end Go.Proofs.Ythlgahkoignnkaa
namespace Go.Proofs.Ythlgahkoignnkaa
open Go.RowKit Go.Maps Go.Sort
set_option maxRecDepth 100000
set_option maxHeartbeats 4000000 in
theorem gcopied0 (a : Option Addr) (cap : Nat) (w : World) : Calls Try.prog 12 #[.slice a 0 cap] w fun r w' => ∃ a' c, r = .returned (.slice a' 0 c) ∧ Hid (Below w.heap.size w w' ∧ w'.ownsRow w.heap.size 43 8 (.slice a' 0 c) 0 []) := by
  obtain ⟨i0, hI, hz0, hz1, hz2⟩ := info_parts info_fact
  have hbF := build0F
  have bA : Below w.heap.size w (w.alloc (.cells #[] 43)) := (Below.refl _ _).alloc (Nat.le_refl _) _
  have hszA := bA.size
  have O0 : (w.alloc (.cells #[] 43)).ownsRow w.heap.size 43 8 (.slice (some ⟨w.heap.size, 0, none⟩) 0 0) 0 [] := World.ownsRow_made w #[] 0 (Nat.le_refl _) (Nat.zero_le _) rfl
  cases a with
  | none =>
    go_enter Try.func12, Try.ntmps12
    go_wp2_with (at_builtin; refine wpList_append_own_none rfl (.tmp 5) (.tmp 6) 26 rfl w.heap.size 43 i0 8 Try.underlying26 hI (.slice (some ⟨w.heap.size, 0, none⟩) 0 0) 0 [] rfl O0 rfl ?_)
    go_wp2_with fail
    go_loopw [4, 10, 11, 12, 13, 14, 15, 16, 17, 18, 19, 20, 21, 22, 23, 24] (fun _ c _ _ _ _ _ _ _ _ _ _ _ _ _ _ wr => c = .int .i64 0 ∧ Hid (Below w.heap.size w wr ∧ wr.ownsRow w.heap.size 43 8 (.slice (some ⟨w.heap.size, 0, none⟩) 0 0) 0 [])) (fun _ _ _ _ _ _ _ _ _ _ _ _ _ _ _ _ _ => 0)
    case atStart => exact ⟨rfl, bA, O0⟩
    case round =>
      obtain ⟨rfl, HI⟩ := hrel
      go_wp2_with fail
      go_ret
      exact ⟨_, _, rfl, HI⟩
  | some x =>
    go_enter Try.func12, Try.ntmps12
    go_wp2_with (at_builtin; refine wpList_append_own_at _ rfl (.tmp 5) (.tmp 6) 26 rfl w.heap.size 43 i0 (.agg #[.int .i64 0, .int .i64 0, .int .i64 0, .int .u32 0, .int .u32 0, .bool false, .int .i64 0, .slice none 0 0]) 8 72 Try.underlying26 hI hz0 hz1 hz2 rfl (by decide) (.slice (some ⟨w.heap.size, 0, none⟩) 0 0) 0 [] rfl O0 x 0 cap [] rfl rfl (fun j u hu => by simp at hu) (fun u hu => by simp at hu) (by unfold maxLen; omega) (by omega) hszA ?_)
    intro v2 w2 O2 G2 hne _
    have b2 : Below w.heap.size w w2 := bA.grown G2 hszA (fun k hk => (O0.lt k hk).1)
    obtain ⟨a2, c2, rfl⟩ : ∃ a2 c2, v2 = .slice a2 0 c2 := by
      rcases O2.2 with ⟨e, _⟩ | ⟨g, cp, cur, e, _⟩
      · exact ⟨_, _, e⟩
      · exact ⟨_, _, e⟩
    have HB : Hid (Below w.heap.size w w2 ∧ w2.ownsRow w.heap.size 43 8 (.slice a2 0 c2) 0 []) := ⟨b2, O2⟩
    clear O2 G2 b2 O0 bA hszA hne
    go_wp2_with fail
    go_loopw [4, 10, 11, 12, 13, 14, 15, 16, 17, 18, 19, 20, 21, 22, 23, 24] (fun _ c _ _ _ _ _ _ _ _ _ _ _ _ _ _ wr => c = .int .i64 0 ∧ Hid (Below w.heap.size w wr ∧ wr.ownsRow w.heap.size 43 8 (.slice a2 0 c2) 0 [])) (fun _ _ _ _ _ _ _ _ _ _ _ _ _ _ _ _ _ => 0)
    case atStart => exact ⟨rfl, HB⟩
    case round =>
      obtain ⟨rfl, HI⟩ := hrel
      go_wp2_with fail
      go_ret
      exact ⟨_, _, rfl, HI⟩
end Go.Proofs.Ythlgahkoignnkaa
namespace Go.Proofs.Ythlgahkoignnkaa
open Go.RowKit Go.Maps
set_option maxRecDepth 100000
theorem own_belowG {w w' : World} {B e sz n : Nat} {v : Value} {xs : List Value} (h : w.ownsRow B e sz v n xs) (b : Below w.heap.size w w') : w'.ownsRow B e sz v n xs := by
  refine ⟨h.1, ?_⟩
  rcases h.2 with hn | ⟨g, cap, cur, rfl, hg, hgg, rest⟩
  · exact .inl hn
  · exact .inr ⟨g, cap, cur, rfl, hg, (b.block g (Array.getElem?_eq_some_iff.1 hgg).1).trans hgg, rest⟩
theorem own_slc {w : World} {B e size n : Nat} {v : Value} {xs : List Value} (h : w.ownsRow B e size v (n + 1) xs) : ∃ g cap, v = .slice (some ⟨g, 0, none⟩) (n + 1) cap ∧ B ≤ g := by
  rcases h.2 with ⟨_, hn⟩ | ⟨g, cap, cur, rfl, hg, hgg, rest⟩
  · omega
  · exact ⟨g, cap, rfl, hg⟩
theorem step_callN {P : Program} {ops : Array Oper} {o : Oper} {a : Act} {w : World} {K : Act → World → Prop} {Q : Exit → Act → World → Prop} {E : Prop} {R : Value → World → Prop}
    (f : FuncId) (ts : Array Operand) (ty : Array TypeId) (_ : o.op = .call { callee := .value (.func f), args := ts, argTypes := ty }) (hw : Region.wanted o (yielded ops a.tmps) = true) (args : Array Value) (hrun : (execOp a.eval o).run P w = .ok (.enter f args) w) (hc : Calls P f args w fun e w' => ∃ v, e = .returned v ∧ R v w') (hK : ∀ v w', R v w' → K (a.put o.dst v) w') :
    if Region.wanted o (yielded ops a.tmps) = true then Oper.wp P o a w K Q else E := by
  rw [if_pos hw]
  unfold Oper.wp
  rw [hrun]
  refine hc.mono ?_
  rintro e w'' ⟨v, rfl, hr⟩
  exact hK _ _ hr
structure St (w wr : World) (a0 : Option Addr) (l0 c0 : Nat) (a1 : Option Addr) (l1 c1 ms : Nat) (P0 P1 : Nat → Pg) (i : Nat) (v : Value) : Prop where
  bel : Below w.heap.size w wr
  bx : wr.heap[w.heap.size]? = some (.cells #[.slice a0 l0 c0, .slice a1 l1 c1, .int .u32 (ms : Nat)] 25 (0, 0))
  mp : wr.heap[w.heap.size + 1]? = some (.map #[] 0)
  ju : wr.heap[w.heap.size + 1 + 1]? = some (.cells #[v, .map (some (w.heap.size + 1)), .int .i64 0, .int .i64 0, .int .i64 0] 59 (0, 0))
  own : wr.ownsRow (w.heap.size + 3) 67 19 v i (flC i (fun j => (P0 j).t) (fun j => (P1 j).t))
  nil : i = 0 → v = .slice none 0 0
section
variable {w wr w6 : World} {a0 : Option Addr} {l0 c0 : Nat} {a1 : Option Addr} {l1 c1 ms : Nat} {P0 P1 : Nat → Pg} {i : Nat} {v : Value}
theorem St.next (hI : St w wr a0 l0 c0 a1 l1 c1 ms P0 P1 i v) {x6 y6 : Nat} (H6 : w6.ownsRow (w.heap.size + 3) 67 19 (.slice (some ⟨x6, 0, none⟩) (i + 1) y6) (i + 1) (flC (i + 1) (fun j => (P0 j).t) (fun j => (P1 j).t))) (b6 : Below (w.heap.size + 3) wr w6) (j6 : w6.heap[w.heap.size + 1 + 1]? = some (.cells #[v, .map (some (w.heap.size + 1)), .int .i64 0, .int .i64 0, .int .i64 0] 59 (0, 0))) :
    St w (w6.setCell ⟨w.heap.size + 1 + 1, 0, none⟩ (.slice (some ⟨x6, 0, none⟩) (i + 1) y6)) a0 l0 c0 a1 l1 c1 ms P0 P1 (i + 1) (.slice (some ⟨x6, 0, none⟩) (i + 1) y6) := by
  have o6 : Off [w.heap.size + 1 + 1] w6 (w6.setCell ⟨w.heap.size + 1 + 1, 0, none⟩ (.slice (some ⟨x6, 0, none⟩) (i + 1) y6)) := Off.setCell _ _ _ _
  have lb := (Array.getElem?_eq_some_iff.1 hI.bx).1
  have lm := (Array.getElem?_eq_some_iff.1 hI.mp).1
  have l6 := (Array.getElem?_eq_some_iff.1 j6).1
  refine ⟨?_, ?_, ?_, heap_setCell_same _ _ _ _ _ _ j6, ?_, fun q => by omega⟩
  · have b7 : Below w.heap.size w w6 := hI.bel.trans (b6.mono (by omega))
    exact o6.below b7 (fun k hk => by simp at hk; omega) b7.size
  · exact (o6.block _ (by omega) (by simp; omega)).trans ((b6.block _ (by omega)).trans hI.bx)
  · exact (o6.block _ (by omega) (by simp)).trans ((b6.block _ (by omega)).trans hI.mp)
  · have := H6
    rcases this.2 with ⟨e, _⟩ | ⟨g, cap, cur, e, hg, hgg, rest⟩
    · cases e
    · refine ⟨this.1, .inr ⟨g, cap, cur, e, hg, (o6.block g (Array.getElem?_eq_some_iff.1 hgg).1 (by simp; omega)).trans hgg, rest⟩⟩
theorem St.done (hI : St w wr a0 l0 c0 a1 l1 c1 ms P0 P1 i v) (hk1 : i ≤ 1000) : ∃ g cap ob, w.heap.size ≤ w.heap.size + 1 + 1 ∧ w.heap.size ≤ ob ∧ w.heap.size ≤ g ∧ Below w.heap.size w wr ∧ GJ wr (w.heap.size + 1 + 1) g cap ob 0 (fun _ => none) (ju0 i (fun j => (P0 j).t) (fun j => (P1 j).t)) := by
  obtain ⟨g, cap, hv, hg, hc⟩ := con_of_own hI.own hI.nil
  have lj := (Array.getElem?_eq_some_iff.1 hI.ju).1
  have hlen : (ju0 i (fun j => (P0 j).t) (fun j => (P1 j).t)).cs.length = i := by simp [ju0]
  have hsm : Sm wr (w.heap.size + 1) (fun _ => none) (fun _ _ _ => False) 0 := by
    refine ⟨⟨.map [], ⟨#[], 0, hI.mp, ⟨by simp, Go.MapKept.stamped_empty 0, by simp⟩, by simp, rfl⟩, fun t _ => rfl⟩, fun t b _ hm => (by cases hm), fun _ _ _ _ _ h => h, fun t t' b _ _ hm => (by cases hm), fun t b _ hm => (by cases hm)⟩
  refine ⟨if 0 < i then g else w.heap.size + 1 + 1, cap, w.heap.size + 1, by omega, by omega, ?_, hI.bel, ?_, fun j c hj => ?_, hsm, fun q => ?_, by rw [hlen]; exact hk1⟩
  · split
    · rename_i q; have := (hg q).1; omega
    · omega
  · rw [hlen]
    have e : csV i (if 0 < i then g else w.heap.size + 1 + 1) cap = v := by
      rw [hv]
      unfold csV
      split
      · rfl
      · rw [if_pos (by omega)]
    rw [e]
    exact hI.ju
  · obtain ⟨h1, h2⟩ := ju0_get i _ _ hj
    rw [if_pos (by omega), h2]
    exact hc j h1
  · rw [hlen] at q
    rw [if_pos q]
    obtain ⟨h1, c, hc'⟩ := hg q
    omega
end
end Go.Proofs.Ythlgahkoignnkaa
namespace Go.Proofs.Ythlgahkoignnkaa
open Go.RowKit Go.Maps Go.Sort
set_option maxRecDepth 100000
def OF (w : World) (B0 B : Nat) (a : Option Addr) (len c : Nat) (F : Nat → Fa) : Prop := ∃ (A : Nat → Option Addr) (C : Nat → Nat), w.ownsRow B 43 8 (.slice a len c) len (flF len F A C) ∧ ∀ i, i < len → Row8 w (A i) (F i).n (C i) (F i).b ∧ ∀ y, A i = some y → 0 < (F i).n → (∀ g, (Value.slice a len c).ownBlock = some g → y.block ≠ g) ∧ (y.block < B0 ∨ B ≤ y.block)
theorem FRow.of_own {w : World} {B : Nat} {a : Option Addr} {len c : Nat} {F : Nat → Fa} {A : Nat → Option Addr} {C : Nat → Nat} (o : w.ownsRow B 43 8 (.slice a len c) len (flF len F A C)) (R : ∀ i, i < len → Row8 w (A i) (F i).n (C i) (F i).b) : FRow w a len F := fun i hi => by
  rcases o.2 with ⟨_, hn⟩ | ⟨g, cap, cur, e, hg, hgg, h1, h2, h3, h4⟩
  · omega
  · simp only [Value.slice.injEq] at e
    obtain ⟨rfl, _, rfl⟩ := e
    have cl : ∀ j, j < 8 → w.cell? ⟨g, 0 + i * 8 + j, none⟩ = (faL (F i) (A i) (C i))[j]? := fun j hj => by
      rw [Nat.zero_add, cell_of_row w g (i * 8 + j) _ _ _ hgg, ← flF_get len F A C i j hi hj, ← h4, List.getElem?_take_of_lt (by omega), Array.getElem?_toList]
    exact ⟨g, 0, A i, C i, rfl, cl 0 (by omega), cl 1 (by omega), cl 2 (by omega), cl 3 (by omega), cl 4 (by omega), cl 5 (by omega), cl 6 (by omega), cl 7 (by omega), R i hi⟩
theorem OF.frow {w : World} {B0 B : Nat} {a : Option Addr} {len c : Nat} {F : Nat → Fa} (h : OF w B0 B a len c F) : FRow w a len F := by
  obtain ⟨A, C, o, R⟩ := h
  exact FRow.of_own o (fun i hi => (R i hi).1)
theorem OF.below {w w' : World} {B0 B : Nat} {a : Option Addr} {len c : Nat} {F : Nat → Fa} (h : OF w B0 B a len c F) (b : Below w.heap.size w w') : OF w' B0 B a len c F := by
  obtain ⟨A, C, o, R⟩ := h
  exact ⟨A, C, own_belowG o b, fun i hi => ⟨(R i hi).1.below b, (R i hi).2⟩⟩
theorem gcopyO (a : Option Addr) (cap len : Nat) (F : Nat → Fa) (w w0 : World) (bb : Below w0.heap.size w0 w) (hlen : len * 72 ≤ 140737488351232) (hF : FRow w0 a len F) (hO : ∀ i, i < len → (F i).Ok) : Calls Try.prog 12 #[.slice a len cap] w fun r w' => ∃ a' c, r = .returned (.slice a' len c) ∧ Hid (OF w' w0.heap.size w.heap.size a' len c F ∧ Below w.heap.size w w') := by
  by_cases h0 : 0 < len
  · refine (gcopied a cap len F w w0 bb h0 hlen hF (fun i hi => by have := (hO i hi).n; omega)).mono ?_
    rintro r w' ⟨g, c, rfl, h⟩
    obtain ⟨A, C, o, R⟩ := h.out.2.own h.out.1
    refine ⟨_, _, rfl, ⟨A, C, o, fun i hi => ⟨(R i hi).1, fun y hy hn => ⟨fun g' hg' => ?_, ((R i hi).2 y hy hn).2⟩⟩⟩, h.out.2.bel⟩
    cases hg'
    exact ((R i hi).2 y hy hn).1
  · obtain rfl : len = 0 := by omega
    refine (gcopied0 a cap w).mono ?_
    rintro r w' ⟨a', c, rfl, h⟩
    exact ⟨_, _, rfl, ⟨fun _ => none, fun _ => 0, h.out.2, fun i hi => absurd hi (by omega)⟩, h.out.1⟩
theorem gcopy (a : Option Addr) (cap len : Nat) (F : Nat → Fa) (w : World) (hlen : len * 72 ≤ 140737488351232) (hF : FRow w a len F) (hO : ∀ i, i < len → (F i).Ok) : Calls Try.prog 12 #[.slice a len cap] w fun r w' => ∃ a' c, r = .returned (.slice a' len c) ∧ Hid (FRow w' a' len F ∧ Below w.heap.size w w') := by
  refine (gcopyO a cap len F w w (Below.refl _ _) hlen hF hO).mono ?_
  rintro r w' ⟨a', c, rfl, h⟩
  exact ⟨_, _, rfl, h.out.1.frow, h.out.2⟩
def two (F G : Nat → Fa) (n : Nat) (i : Nat) : Fa := if i < n then F i else G (i - n)
theorem flF_congr {F G : Nat → Fa} {A A' : Nat → Option Addr} {C C' : Nat → Nat} : ∀ n, (∀ i, i < n → F i = G i ∧ A i = A' i ∧ C i = C' i) → flF n F A C = flF n G A' C'
  | 0, _ => rfl
  | n + 1, h => by
    obtain ⟨h1, h2, h3⟩ := h n (by omega)
    rw [flF_succ, flF_succ, flF_congr n (fun i hi => h i (by omega)), h1, h2, h3]
theorem flF_two (F G : Nat → Fa) (A A' : Nat → Option Addr) (C C' : Nat → Nat) (n : Nat) : ∀ m, flF n F A C ++ flF m G A' C' = flF (n + m) (two F G n) (fun i => if i < n then A i else A' (i - n)) (fun i => if i < n then C i else C' (i - n))
  | 0 => by
    rw [Nat.add_zero]
    have e : flF 0 G A' C' = [] := rfl
    rw [e, List.append_nil]
    exact flF_congr n (fun i hi => by simp [two, hi])
  | m + 1 => by
    rw [flF_succ, ← List.append_assoc, flF_two F G A A' C C' n m, ← Nat.add_assoc, flF_succ]
    have e : ¬ n + m < n := by omega
    simp [two, e]
theorem row8_grown {w w' : World} {g : Option Nat} {a : Option Addr} {n cap : Nat} {bs : Nat → Nat} (h : Row8 w a n cap bs) (q : w.grownBy w' g) (hl : ∀ y, a = some y → 0 < n → ∀ k, g = some k → y.block ≠ k) : Row8 w' a n cap bs := by
  refine ⟨h.byte, h.nil, fun x hx i hi => ?_, h.le⟩
  have h1 := h.src x hx i hi
  have hlt := World.block_lt_of_cell? w _ h1
  have hb : (x.add i).block = x.block := by unfold Addr.add; split <;> rfl
  have he : w'.heap[(x.add i).block]? = w.heap[(x.add i).block]? := q.block _ hlt (by rw [hb]; intro e; exact hl x hx (by omega) x.block e.symm rfl)
  rw [← h1]
  unfold World.cell?
  rw [he]
theorem OF.lt {w : World} {B0 B : Nat} {a : Option Addr} {len c : Nat} {F : Nat → Fa} (h : OF w B0 B a len c F) : ∀ g, (Value.slice a len c).ownBlock = some g → g < w.heap.size := by
  obtain ⟨A, C, o, R⟩ := h
  exact fun g hg => (o.lt g hg).2
theorem step_appFF {ops : Array Oper} {o : Oper} {a : Act} {w : World} {K : Act → World → Prop} {Q : Exit → Act → World → Prop} {E : Prop}
    (hg : o.guard = none) (s x : Operand) (hop : o.op = Op.call { callee := Callee.builtin Builtin.append, args := #[s, x], argTypes := #[26, 26] }) (hty : o.type = 26)
    (B0 B B2 n m c1 c2 : Nat) (F G : Nat → Fa) (a1 a2 : Option Addr) (hs : a.eval s = .slice a1 n c1) (hx : a.eval x = .slice a2 m c2) (h1 : OF w B0 B a1 n c1 F) (h2 : OF w B0 B2 a2 m c2 G) (hn : n + m ≤ 100000) (N : Nat) (hN : n + m = N) (hB : B0 ≤ B) (h12 : ∀ g, (Value.slice a1 n c1).ownBlock = some g → g < B2)
    (w0 : World) (hB0 : B ≤ w0.heap.size) (hb : Below B w0 w)
    (hK : ∀ a' c' w', Hid (FRow w' a' N (two F G n)) → Below B w0 w' → K (a.put o.dst (.slice a' N c')) w') :
    if Region.wanted o (yielded ops a.tmps) = true then Oper.wp Try.prog o a w K Q else E := by
  subst hN
  have hw : Region.wanted o (yielded ops a.tmps) = true := by simp [Region.wanted, hg]
  rw [if_pos hw]
  obtain ⟨i0, hI, hz0, hz1, hz2⟩ := info_parts info_fact
  obtain ⟨A, C, o1, R1⟩ := h1
  obtain ⟨A2, C2, o2, R2⟩ := h2
  have hBw : B ≤ w.heap.size := Nat.le_trans hB0 hb.size
  have fin : ∀ v' w', w'.ownsRow B 43 8 v' (n + m) (flF n F A C ++ flF m G A2 C2) → w.grownBy w' (Value.slice a1 n c1).ownBlock → K (a.put o.dst v') w' := by
    intro v' w' k1 k2
    rw [flF_two] at k1
    obtain ⟨a', c', rfl⟩ : ∃ a' c', v' = .slice a' (n + m) c' := by
      rcases k1.2 with ⟨e, e0⟩ | ⟨g, cp, cur, e, _⟩
      · exact ⟨none, 0, by rw [e, e0]⟩
      · exact ⟨_, _, e⟩
    refine hK a' c' w' (FRow.of_own k1 (fun i hi => ?_)) (hb.grown k2 hBw (fun j hj => (o1.lt j hj).1))
    by_cases hi' : i < n
    · simp only [two, hi', if_true]
      exact row8_grown (R1 i hi').1 k2 (fun y hy hp k hk => ((R1 i hi').2 y hy hp).1 k hk)
    · simp only [two, hi', if_false]
      have him : i - n < m := by omega
      refine row8_grown (R2 _ him).1 k2 (fun y hy hp k hk e => ?_)
      have h3 := h12 k hk
      have h4 := (o1.lt k hk).1
      rcases ((R2 _ him).2 y hy hp).2 with h | h
      · omega
      · omega
  have hrun : ∃ v' w', (Builtin.append_ #[26, 26] 26 #[.slice a1 n c1, .slice a2 m c2]).run Try.prog w = .ok v' w' ∧ K (a.put o.dst v') w' := by
    rcases o2.2 with ⟨e, e0⟩ | ⟨g, cp, cur, e, hg2, hgg, q1, q2, q3, q4⟩
    · rw [e]
      subst e0
      refine ⟨_, _, run_append_owned_none (P := Try.prog) (w := w) B 26 26 43 i0 8 Try.underlying26 hI _ n _ o1, fin _ _ ?_ ⟨rfl, rfl, rfl, Nat.le_refl _, fun _ _ _ => rfl⟩⟩
      have e2 : flF 0 G A2 C2 = [] := rfl
      rw [e2, List.append_nil]
      exact o1
    · obtain ⟨v', w', hr, k1, k2, _⟩ := run_append_own w B 26 26 43 i0 (.agg #[.int .i64 0, .int .i64 0, .int .i64 0, .int .u32 0, .int .u32 0, .bool false, .int .i64 0, .slice none 0 0]) 8 72 Try.underlying26 hI hz0 hz1 hz2 rfl (by decide) (.slice a1 n c1) n (flF n F A C) o1 ⟨g, 0, none⟩ m cp (flF m G A2 C2) (flF_len _ _ _ _) (by
        intro j u hu
        have e : (Addr.add ⟨g, 0, none⟩ j) = ⟨g, j, none⟩ := by unfold Addr.add; simp; omega
        have hj : j < m * 8 := by
          have := (List.getElem?_eq_some_iff.1 hu).1
          rwa [flF_len] at this
        rw [e, cell_of_row w g j _ _ _ hgg, ← hu, ← q4, List.getElem?_take_of_lt hj, Array.getElem?_toList]) (flF_one _ _ _ _) (by unfold maxLen; omega) (by omega) hBw
      rw [e]
      exact ⟨v', w', hr, fin v' w' k1 k2⟩
  obtain ⟨v', w', hr, hk⟩ := hrun
  unfold Oper.wp execOp
  simp only [hop, hty, resolve, invoke, builtin, Sem.run_bind, Sem.run_pure, Result.andThen_ok, List.map_toArray, List.map_cons, List.map_nil, hs, hx, hr]
  exact hk
end Go.Proofs.Ythlgahkoignnkaa
namespace Go.Proofs.Ythlgahkoignnkaa
open Go.RowKit Go.Maps Go.Sort
set_option maxRecDepth 100000
def pgS : Pg := ⟨7, 2, 1, 10, 9⟩
def pgP (i : Nat) : Pg := ⟨7 + i, 2, 1, 10 + (i : Nat), 9⟩
def pgL (p : Pg) : List Value := [.int .u32 (p.c : Nat), .int .i64 p.o, .int .i64 p.i, .int .i64 p.t, .int .u32 (p.n : Nat)]
theorem pgL_one (p : Pg) : ∀ u ∈ pgL p, u.oneCell' = true := by
  intro u hu
  simp [pgL] at hu
  rcases hu with rfl | rfl | rfl | rfl | rfl <;> rfl
def flP (k : Nat) (P : Nat → Pg) : List Value := (List.range k).flatMap fun i => pgL (P i)
theorem flP_succ (k : Nat) (P : Nat → Pg) : flP (k + 1) P = flP k P ++ pgL (P k) := by
  unfold flP
  rw [List.range_succ, List.flatMap_append]
  simp
theorem flP_len (k : Nat) (P : Nat → Pg) : (flP k P).length = k * 5 := by
  induction k with
  | zero => rfl
  | succ k ih =>
    rw [flP_succ, List.length_append, ih]
    simp [pgL]
    omega
theorem flP_get (k : Nat) (P : Nat → Pg) (i j : Nat) (hi : i < k) (hj : j < 5) : (flP k P)[i * 5 + j]? = (pgL (P i))[j]? := by
  induction k with
  | zero => omega
  | succ k ih =>
    rw [flP_succ]
    by_cases e : i < k
    · rw [List.getElem?_append_left (by rw [flP_len]; omega), ih e]
    · obtain rfl : i = k := by omega
      rw [List.getElem?_append_right (by rw [flP_len]; omega), flP_len]
      congr 1
      omega
theorem PRow.of_own {w : World} {B k : Nat} {a : Option Addr} {cap : Nat} {P : Nat → Pg} (o : w.ownsRow B 70 5 (.slice a k cap) k (flP k P)) : PRow w a k P := fun i hi => by
  rcases o.2 with ⟨_, hn⟩ | ⟨g, cap', cur, e, hg, hgg, h1, h2, h3, h4⟩
  · omega
  · simp only [Value.slice.injEq] at e
    obtain ⟨rfl, _, rfl⟩ := e
    have cl : ∀ j, j < 5 → w.cell? ⟨g, 0 + i * 5 + j, none⟩ = (pgL (P i))[j]? := fun j hj => by
      rw [Nat.zero_add, cell_of_row w g (i * 5 + j) _ _ _ hgg, ← flP_get k P i j hi hj, ← h4, List.getElem?_take_of_lt (by omega), Array.getElem?_toList]
    exact ⟨g, 0, rfl, cl 0 (by omega), cl 1 (by omega), cl 2 (by omega), cl 3 (by omega), cl 4 (by omega)⟩
theorem gsmall (w : World) : Calls Try.prog 22 #[] w fun r w' => r = .returned (.agg #[.int .u32 7, .int .i64 2, .int .i64 1, .int .i64 10, .int .u32 9]) ∧ Below w.heap.size w w' := by
  go_enter Try.func22, Try.ntmps22
  go_wp2_with fail
  refine bodyPost_ret (v := .agg #[.int .u32 7, .int .i64 2, .int .i64 1, .int .i64 10, .int .u32 9]) (by simp [results, Try.results22, go_sem]) rfl ⟨rfl, ?_⟩
  exact belowG (Below.refl _ _) _
theorem own_slcP {w : World} {B e size n : Nat} {v : Value} {xs : List Value} (h : w.ownsRow B e size v (n + 1) xs) : ∃ g cap, v = .slice (some ⟨g, 0, none⟩) (n + 1) cap ∧ B ≤ g := by
  rcases h.2 with ⟨_, hn⟩ | ⟨g, cap, cur, rfl, hg, hgg, rest⟩
  · omega
  · exact ⟨g, cap, rfl, hg⟩
theorem own_belowP {w w' : World} {B e sz n : Nat} {v : Value} {xs : List Value} (h : w.ownsRow B e sz v n xs) (b : Below w.heap.size w w') : w'.ownsRow B e sz v n xs := by
  refine ⟨h.1, ?_⟩
  rcases h.2 with hn | ⟨g, cap, cur, rfl, hg, hgg, rest⟩
  · exact .inl hn
  · exact .inr ⟨g, cap, cur, rfl, hg, (b.block g (Array.getElem?_eq_some_iff.1 hgg).1).trans hgg, rest⟩
theorem own_keepP {w w' : World} {B e s n : Nat} {v : Value} {xs : List Value} (h : w.ownsRow B e s v n xs) (hk : ∀ g, v.ownBlock = some g → w'.heap[g]? = w.heap[g]?) : w'.ownsRow B e s v n xs := by
  obtain ⟨h0, h1 | ⟨g, cap, cur, rfl, hg, hgg, rest⟩⟩ := h
  · exact ⟨h0, .inl h1⟩
  · exact ⟨h0, .inr ⟨g, cap, cur, rfl, hg, (hk g rfl).trans hgg, rest⟩⟩
theorem pg_cells {W : World} {g : Nat} {p : Pg} (h : W.heap[g]? = some (.cells (pgL p).toArray 70 (0, 0))) : ∀ j u, (pgL p)[j]? = some u → W.cell? ((⟨g, 0, none⟩ : Addr).add j) = some u := fun j u hu => by
  have e : (Addr.add ⟨g, 0, none⟩ j) = ⟨g, j, none⟩ := by unfold Addr.add; simp; omega
  rw [e, cell_of_row W g j _ _ _ h]
  simpa using hu
structure Sp (w wr : World) (i : Nat) (va : Option Addr) (vc : Nat) (ua : Option Addr) (uc : Nat) : Prop where
  bel : Below w.heap.size w wr
  rb : wr.heap[w.heap.size]? = some (.cells #[.slice none 0 0, .slice none 0 0, .int .u32 0] 25 (0, 0))
  xb : wr.heap[w.heap.size + 1]? = some (.cells #[.slice va i vc, .slice ua i uc, .int .u32 50] 25 (0, 0))
  ov : wr.ownsRow (w.heap.size + 2) 70 5 (.slice va i vc) i (flP i pgP)
  ou : wr.ownsRow (w.heap.size + 2) 70 5 (.slice ua i uc) i (flP i pgP)
  dis : ∀ g, (Value.slice va i vc).ownBlock = some g → (Value.slice ua i uc).ownBlock ≠ some g
theorem info_par : (Try.prog.info? 70).map (fun i => (i.zero, i.size, i.bytes)) = some (some (.agg #[.int .u32 0, .int .i64 0, .int .i64 0, .int .i64 0, .int .u32 0]), 5, 40) := by kernel_rfl
set_option maxHeartbeats 4000000 in
theorem gpair (w : World) : Calls Try.prog 16 #[.int .i64 1] w fun r w' => ∃ a0 c0 a1 c1, r = .returned (.agg #[.slice a0 2 c0, .slice a1 2 c1, .int .u32 50]) ∧ Hid (PRow w' a0 2 pgP ∧ PRow w' a1 2 pgP ∧ Below w.heap.size w w') := by
  have hS := fun wx => gsmall wx
  go_enter Try.func16, Try.ntmps16
  go_wp2_with fail
  have HS : Hid (Sp w ((w.alloc (.cells #[.slice none 0 0, .slice none 0 0, .int .u32 0] 25)).alloc (.cells #[.slice none 0 0, .slice none 0 0, .int .u32 50] 25)) 0 none 0 none 0) := by
    have a1' := heap_alloc_new w (.cells #[.slice none 0 0, .slice none 0 0, .int .u32 0] 25)
    have a2' := heap_alloc_new (w.alloc (.cells #[.slice none 0 0, .slice none 0 0, .int .u32 0] 25)) (.cells #[.slice none 0 0, .slice none 0 0, .int .u32 50] 25)
    simp only [World.size_alloc] at a1' a2'
    refine ⟨belowG (belowG (Below.refl _ _) _) _, ?_, a2', ⟨by simp [flP], .inl ⟨rfl, rfl⟩⟩, ⟨by simp [flP], .inl ⟨rfl, rfl⟩⟩, fun g hg => by cases hg⟩
    exact ((belowG (Below.refl _ _) _).block _ (by simp)).trans a1'
  go_loopw [4, 5, 7, 8, 9, 10, 11, 12, 13, 14, 15, 16, 17, 18, 19, 20, 21, 22, 23, 24, 25, 26, 27, 28, 29, 30, 31, 32, 33, 34] (fun c _ _ _ _ _ _ _ _ _ _ _ _ _ _ _ _ _ _ _ _ _ _ _ _ _ _ _ _ _ wr => ∃ (i : Nat) (va : Option Addr) (vc : Nat) (ua : Option Addr) (uc : Nat), i ≤ 2 ∧ c = .int .i64 ((i : Nat) : Int) ∧ Hid (Sp w wr i va vc ua uc)) (fun c _ _ _ _ _ _ _ _ _ _ _ _ _ _ _ _ _ _ _ _ _ _ _ _ _ _ _ _ _ _ => 2 - natG c)
  case atStart => exact ⟨0, none, 0, none, 0, by omega, rfl, HS⟩
  case round =>
    obtain ⟨i, va, vc, ua, uc, hi, rfl, HI⟩ := hrel
    clear HS
    have hi3 : i = 0 ∨ i = 1 ∨ i = 2 := by omega
    rcases hi3 with rfl | rfl | rfl
    · obtain ⟨i0, hI, hz0, hz1, hz2⟩ := info_parts info_par
      go_wp2_with fail
      refine (hS _).mono ?_
      rintro r w3 ⟨rfl, b3⟩
      have q0 := cell_belowJ (cell_of_row wr _ 0 _ _ _ HI.out.xb) (belowG b3 (.cells #[.int .u32 7, .int .i64 2, .int .i64 1, .int .i64 10, .int .u32 9] 70))
      have q1 := cell_belowJ (cell_of_row wr _ 1 _ _ _ HI.out.xb) (belowG b3 (.cells #[.int .u32 7, .int .i64 2, .int .i64 1, .int .i64 10, .int .u32 9] 70))
      have b4 := belowG (belowG b3 (.cells #[.int .u32 7, .int .i64 2, .int .i64 1, .int .i64 10, .int .u32 9] 70)) (.cells #[.int .u32 7, .int .i64 2, .int .i64 1, .int .i64 10, .int .u32 9] 70)
      have hrow := own_belowP HI.out.ov b4
      have lx := (Array.getElem?_eq_some_iff.1 HI.out.xb).1
      have s3 := b3.size
      have nk := heap_alloc_new (w3.alloc (.cells #[.int .u32 7, .int .i64 2, .int .i64 1, .int .i64 10, .int .u32 9] 70)) (.cells #[.int .u32 7, .int .i64 2, .int .i64 1, .int .i64 10, .int .u32 9] 70)
      simp only [World.size_alloc] at nk
      have hcl : ∀ j u, (pgL (pgP 0))[j]? = some u → ((w3.alloc (.cells #[.int .u32 7, .int .i64 2, .int .i64 1, .int .i64 10, .int .u32 9] 70)).alloc (.cells #[.int .u32 7, .int .i64 2, .int .i64 1, .int .i64 10, .int .u32 9] 70)).cell? ((⟨w3.heap.size + 1, 0, none⟩ : Addr).add j) = some u := pg_cells nk
      have hbs : w.heap.size + 2 ≤ ((w3.alloc (.cells #[.int .u32 7, .int .i64 2, .int .i64 1, .int .i64 10, .int .u32 9] 70)).alloc (.cells #[.int .u32 7, .int .i64 2, .int .i64 1, .int .i64 10, .int .u32 9] 70)).heap.size := by simp; omega
      go_wp2_with (at_builtin; refine wpList_append_own_at _ rfl (.tmp 24) (.tmp 26) 22 rfl (w.heap.size + 2) 70 i0 (.agg #[.int .u32 0, .int .i64 0, .int .i64 0, .int .i64 0, .int .u32 0]) 5 40 Try.underlying22 hI hz0 hz1 hz2 rfl (by decide) (.slice va 0 vc) 0 (flP 0 pgP) rfl hrow ⟨w3.heap.size + 1, 0, none⟩ 1 1 (pgL (pgP 0)) rfl rfl hcl (pgL_one _) (by unfold maxLen; omega) (by omega) hbs ?_)
      intro v5 w5 o5 g5 _ s5
      obtain ⟨x5, y5, rfl, hx5⟩ := own_slcP (n := 0) o5
      have nb := fun g (hg : (Value.slice va 0 vc).ownBlock = some g) => HI.out.ov.lt g hg
      have nu := fun g (hg : (Value.slice ua 0 uc).ownBlock = some g) => HI.out.ou.lt g hg
      have k5 : w5.heap[w.heap.size + 1]? = some (.cells #[.slice va 0 vc, .slice ua 0 uc, .int .u32 50] 25 (0, 0)) := (g5.block _ (by simp; omega) (fun e => by have := (nb _ e.symm).1; omega)).trans ((b4.block _ lx).trans HI.out.xb)
      have p5 : w5.heap[w3.heap.size]? = some (.cells #[.int .u32 7, .int .i64 2, .int .i64 1, .int .i64 10, .int .u32 9] 70 (0, 0)) := (g5.block _ (by simp; omega) (fun e => by have := (nb _ e.symm).2; omega)).trans (((belowG (Below.refl _ _) _).block w3.heap.size (by simp)).trans (heap_alloc_new w3 (.cells #[.int .u32 7, .int .i64 2, .int .i64 1, .int .i64 10, .int .u32 9] 70)))
      have u5 : w5.ownsRow (w.heap.size + 2) 70 5 (.slice ua 0 uc) 0 (flP 0 pgP) := own_keepP (own_belowP HI.out.ou b4) (fun g hg => g5.block g (by have := (nu g hg).2; simp; omega) (fun e => HI.out.dis g e.symm hg))
      have r0 := cell_of_row w5 _ 0 _ _ _ k5
      have r1 := cell_of_row w5 _ 1 _ _ _ k5
      have rz := fun k => frozen_of_row w5 _ k _ _ k5
      have t0 := cell_of_row w5 _ 0 _ _ _ p5
      have t1 := cell_of_row w5 _ 1 _ _ _ p5
      have t2 := cell_of_row w5 _ 2 _ _ _ p5
      have t3 := cell_of_row w5 _ 3 _ _ _ p5
      have t4 := cell_of_row w5 _ 4 _ _ _ p5
      have s5s := g5.size
      simp only [World.size_alloc] at s5s
      have o6 : Off [w.heap.size + 1] w5 (w5.setCell ⟨w.heap.size + 1, 0, none⟩ (.slice (some ⟨x5, 0, none⟩) 1 y5)) := Off.setCell _ _ _ _
      have u7 : ((w5.setCell ⟨w.heap.size + 1, 0, none⟩ (.slice (some ⟨x5, 0, none⟩) 1 y5)).alloc (.cells #[.int .u32 7, .int .i64 2, .int .i64 1, .int .i64 10, .int .u32 9] 70)).ownsRow (w.heap.size + 2) 70 5 (.slice ua 0 uc) 0 (flP 0 pgP) := own_belowP (own_keepP u5 (fun g hg => o6.block g (by have := (u5.lt g hg).2; omega) (by have := (u5.lt g hg).1; simp; omega))) (belowG (Below.refl _ _) _)
      have nk7 := heap_alloc_new (w5.setCell ⟨w.heap.size + 1, 0, none⟩ (.slice (some ⟨x5, 0, none⟩) 1 y5)) (.cells #[.int .u32 7, .int .i64 2, .int .i64 1, .int .i64 10, .int .u32 9] 70)
      have hs6 : (w5.setCell ⟨w.heap.size + 1, 0, none⟩ (.slice (some ⟨x5, 0, none⟩) 1 y5)).heap.size = w5.heap.size := by simp [World.setCell]
      rw [hs6] at nk7
      have hcl7 : ∀ j u, (pgL (pgP 0))[j]? = some u → ((w5.setCell ⟨w.heap.size + 1, 0, none⟩ (.slice (some ⟨x5, 0, none⟩) 1 y5)).alloc (.cells #[.int .u32 7, .int .i64 2, .int .i64 1, .int .i64 10, .int .u32 9] 70)).cell? ((⟨w5.heap.size, 0, none⟩ : Addr).add j) = some u := pg_cells nk7
      have hbs7 : w.heap.size + 2 ≤ ((w5.setCell ⟨w.heap.size + 1, 0, none⟩ (.slice (some ⟨x5, 0, none⟩) 1 y5)).alloc (.cells #[.int .u32 7, .int .i64 2, .int .i64 1, .int .i64 10, .int .u32 9] 70)).heap.size := by rw [World.size_alloc, hs6]; omega
      have HH : Hid (_) := And.intro o5 (And.intro g5 (And.intro s5 (And.intro k5 (And.intro p5 (And.intro u5 (And.intro nb (And.intro nu b4)))))))
      clear o5 g5 s5 k5 p5 u5 hrow hcl hbs nk q0 q1 nk7 o6 nb nu
      go_wp2_with (at_builtin; refine wpList_append_own_at _ rfl (.tmp 30) (.tmp 32) 22 rfl (w.heap.size + 2) 70 i0 (.agg #[.int .u32 0, .int .i64 0, .int .i64 0, .int .i64 0, .int .u32 0]) 5 40 Try.underlying22 hI hz0 hz1 hz2 rfl (by decide) (.slice ua 0 uc) 0 (flP 0 pgP) rfl u7 ⟨w5.heap.size, 0, none⟩ 1 1 (pgL (pgP 0)) rfl rfl hcl7 (pgL_one _) (by unfold maxLen; omega) (by omega) hbs7 ?_)
      intro v8 w8 o8 g8 _ s8
      obtain ⟨x8, y8, rfl, hx8⟩ := own_slcP (n := 0) o8
      have key : Hid (Sp w (w8.setCell ⟨w.heap.size + 1, 1, none⟩ (.slice (some ⟨x8, 0, none⟩) 1 y8)) 1 (some ⟨x5, 0, none⟩) y5 (some ⟨x8, 0, none⟩) y8 ∧ w8.heap[w.heap.size + 1]? = some (.cells #[.slice (some ⟨x5, 0, none⟩) 1 y5, .slice ua 0 uc, .int .u32 50] 25 (0, 0))) := by
        obtain ⟨o5, g5, s5, k5, p5, u5, nb, nu, b4⟩ := HH.out
        have hI' := HI.out
        have o6 : Off [w.heap.size + 1] w5 (w5.setCell ⟨w.heap.size + 1, 0, none⟩ (.slice (some ⟨x5, 0, none⟩) 1 y5)) := Off.setCell _ _ _ _
        have o9 : Off [w.heap.size + 1] w8 (w8.setCell ⟨w.heap.size + 1, 1, none⟩ (.slice (some ⟨x8, 0, none⟩) 1 y8)) := Off.setCell _ _ _ _
        have g8s := g8.size
        rw [World.size_alloc, hs6] at g8s
        have wr2 : w.heap.size + 2 ≤ wr.heap.size := by omega
        have thr : ∀ k, k < w5.heap.size → k ≠ w.heap.size + 1 → (∀ g, (Value.slice ua 0 uc).ownBlock = some g → k ≠ g) → (w8.setCell ⟨w.heap.size + 1, 1, none⟩ (.slice (some ⟨x8, 0, none⟩) 1 y8)).heap[k]? = w5.heap[k]? := fun k hk h1 h2 =>
          (o9.block k (by omega) (by simpa using h1)).trans ((g8.block k (by rw [World.size_alloc, hs6]; omega) (fun e => h2 k e.symm rfl)).trans (((belowG (Below.refl _ _) _).block k (by rw [hs6]; exact hk)).trans (o6.block k hk (by simpa using h1))))
        have kk6 : (w5.setCell ⟨w.heap.size + 1, 0, none⟩ (.slice (some ⟨x5, 0, none⟩) 1 y5)).heap[w.heap.size + 1]? = some (.cells #[.slice (some ⟨x5, 0, none⟩) 1 y5, .slice ua 0 uc, .int .u32 50] 25 (0, 0)) := heap_setCell_same _ _ _ _ _ _ k5
        have kk8 : w8.heap[w.heap.size + 1]? = some (.cells #[.slice (some ⟨x5, 0, none⟩) 1 y5, .slice ua 0 uc, .int .u32 50] 25 (0, 0)) := (g8.block _ (by rw [World.size_alloc, hs6]; omega) (fun e => by have := (nu _ e.symm).1; omega)).trans (((belowG (Below.refl _ _) _).block _ (by rw [hs6]; omega)).trans kk6)
        have b5 : Below w.heap.size w w5 := (hI'.bel.trans (b4.mono (by omega))).grown g5 (by simp; omega) (fun j hj => by have := (nb j hj).1; omega)
        have l5 := (o5.lt x5 rfl).2
        have xu : ∀ g, (Value.slice ua 0 uc).ownBlock = some g → x5 ≠ g := fun g hg e => by
          subst e
          rcases s5 with h | h
          · exact hI'.dis x5 (h.symm.trans rfl) hg
          · have h2 : some x5 = some _ := h
            simp only [Option.some.injEq] at h2
            have := (nu _ hg).2
            omega
        refine ⟨⟨?_, ?_, heap_setCell_same _ _ _ _ _ _ kk8, ?_, ?_, ?_⟩, kk8⟩
        · have b6 := o6.below b5 (fun k hk => by simp at hk; omega) b5.size
          have b7 := (b6.alloc (by rw [hs6]; exact b5.size) (.cells #[.int .u32 7, .int .i64 2, .int .i64 1, .int .i64 10, .int .u32 9] 70)).grown g8 (by rw [World.size_alloc, hs6]; have := b5.size; omega) (fun j hj => by have := (nu j hj).1; omega)
          exact o9.below b7 (fun k hk => by simp at hk; omega) b7.size
        · rw [thr _ (by omega) (by omega) (fun g hg => by have := (nu g hg).1; omega)]
          exact (g5.block _ (by simp; omega) (fun e => by have := (nb _ e.symm).1; omega)).trans ((b4.block _ (by omega)).trans hI'.rb)
        · rw [flP_succ]
          exact own_keepP o5 (fun g hg => by
            have e : g = x5 := by simpa [Value.ownBlock] using hg.symm
            subst e
            exact thr g l5 (by omega) xu)
        · rw [flP_succ]
          exact own_keepP o8 (fun g hg => by
            have e : g = x8 := by simpa [Value.ownBlock] using hg.symm
            subst e
            exact o9.block g (o8.lt g rfl).2 (by simp; omega))
        · intro g hg hg'
          cases hg
          have e8 : x8 = x5 := by simpa [Value.ownBlock] using hg'
          rcases s8 with h | h
          · have h2 : some x8 = _ := h
            exact xu x8 h2.symm e8.symm
          · have h2 : some x8 = some _ := h
            simp only [Option.some.injEq] at h2
            omega
      have HS : Hid (_) := key.out.1
      have f0 := cell_of_row w8 _ 0 _ _ _ key.out.2
      have f1 := cell_of_row w8 _ 1 _ _ _ key.out.2
      have fz := fun k => frozen_of_row w8 _ k _ _ key.out.2
      clear key o8 g8 s8 HH u7 hcl7 hbs7 HI
      go_wp2_with fail
      go_roundw
      case rel => exact ⟨1, _, _, _, _, by omega, by go_num, HS⟩
      case measure => simp [natG]
    · obtain ⟨i0, hI, hz0, hz1, hz2⟩ := info_parts info_par
      go_wp2_with fail
      refine (hS _).mono ?_
      rintro r w3 ⟨rfl, b3⟩
      have q0 := cell_belowJ (cell_of_row wr _ 0 _ _ _ HI.out.xb) (belowG b3 (.cells #[.int .u32 8, .int .i64 2, .int .i64 1, .int .i64 11, .int .u32 9] 70))
      have q1 := cell_belowJ (cell_of_row wr _ 1 _ _ _ HI.out.xb) (belowG b3 (.cells #[.int .u32 8, .int .i64 2, .int .i64 1, .int .i64 11, .int .u32 9] 70))
      have b4 := belowG (belowG b3 (.cells #[.int .u32 8, .int .i64 2, .int .i64 1, .int .i64 11, .int .u32 9] 70)) (.cells #[.int .u32 8, .int .i64 2, .int .i64 1, .int .i64 11, .int .u32 9] 70)
      have hrow := own_belowP HI.out.ov b4
      have lx := (Array.getElem?_eq_some_iff.1 HI.out.xb).1
      have s3 := b3.size
      have nk := heap_alloc_new (w3.alloc (.cells #[.int .u32 8, .int .i64 2, .int .i64 1, .int .i64 11, .int .u32 9] 70)) (.cells #[.int .u32 8, .int .i64 2, .int .i64 1, .int .i64 11, .int .u32 9] 70)
      simp only [World.size_alloc] at nk
      have hcl : ∀ j u, (pgL (pgP 1))[j]? = some u → ((w3.alloc (.cells #[.int .u32 8, .int .i64 2, .int .i64 1, .int .i64 11, .int .u32 9] 70)).alloc (.cells #[.int .u32 8, .int .i64 2, .int .i64 1, .int .i64 11, .int .u32 9] 70)).cell? ((⟨w3.heap.size + 1, 0, none⟩ : Addr).add j) = some u := pg_cells nk
      have hbs : w.heap.size + 2 ≤ ((w3.alloc (.cells #[.int .u32 8, .int .i64 2, .int .i64 1, .int .i64 11, .int .u32 9] 70)).alloc (.cells #[.int .u32 8, .int .i64 2, .int .i64 1, .int .i64 11, .int .u32 9] 70)).heap.size := by simp; omega
      go_wp2_with (at_builtin; refine wpList_append_own_at _ rfl (.tmp 24) (.tmp 26) 22 rfl (w.heap.size + 2) 70 i0 (.agg #[.int .u32 0, .int .i64 0, .int .i64 0, .int .i64 0, .int .u32 0]) 5 40 Try.underlying22 hI hz0 hz1 hz2 rfl (by decide) (.slice va 1 vc) 1 (flP 1 pgP) rfl hrow ⟨w3.heap.size + 1, 0, none⟩ 1 1 (pgL (pgP 1)) rfl rfl hcl (pgL_one _) (by unfold maxLen; omega) (by omega) hbs ?_)
      intro v5 w5 o5 g5 _ s5
      obtain ⟨x5, y5, rfl, hx5⟩ := own_slcP (n := 1) o5
      have nb := fun g (hg : (Value.slice va 1 vc).ownBlock = some g) => HI.out.ov.lt g hg
      have nu := fun g (hg : (Value.slice ua 1 uc).ownBlock = some g) => HI.out.ou.lt g hg
      have k5 : w5.heap[w.heap.size + 1]? = some (.cells #[.slice va 1 vc, .slice ua 1 uc, .int .u32 50] 25 (0, 0)) := (g5.block _ (by simp; omega) (fun e => by have := (nb _ e.symm).1; omega)).trans ((b4.block _ lx).trans HI.out.xb)
      have p5 : w5.heap[w3.heap.size]? = some (.cells #[.int .u32 8, .int .i64 2, .int .i64 1, .int .i64 11, .int .u32 9] 70 (0, 0)) := (g5.block _ (by simp; omega) (fun e => by have := (nb _ e.symm).2; omega)).trans (((belowG (Below.refl _ _) _).block w3.heap.size (by simp)).trans (heap_alloc_new w3 (.cells #[.int .u32 8, .int .i64 2, .int .i64 1, .int .i64 11, .int .u32 9] 70)))
      have u5 : w5.ownsRow (w.heap.size + 2) 70 5 (.slice ua 1 uc) 1 (flP 1 pgP) := own_keepP (own_belowP HI.out.ou b4) (fun g hg => g5.block g (by have := (nu g hg).2; simp; omega) (fun e => HI.out.dis g e.symm hg))
      have r0 := cell_of_row w5 _ 0 _ _ _ k5
      have r1 := cell_of_row w5 _ 1 _ _ _ k5
      have rz := fun k => frozen_of_row w5 _ k _ _ k5
      have t0 := cell_of_row w5 _ 0 _ _ _ p5
      have t1 := cell_of_row w5 _ 1 _ _ _ p5
      have t2 := cell_of_row w5 _ 2 _ _ _ p5
      have t3 := cell_of_row w5 _ 3 _ _ _ p5
      have t4 := cell_of_row w5 _ 4 _ _ _ p5
      have s5s := g5.size
      simp only [World.size_alloc] at s5s
      have o6 : Off [w.heap.size + 1] w5 (w5.setCell ⟨w.heap.size + 1, 0, none⟩ (.slice (some ⟨x5, 0, none⟩) 2 y5)) := Off.setCell _ _ _ _
      have u7 : ((w5.setCell ⟨w.heap.size + 1, 0, none⟩ (.slice (some ⟨x5, 0, none⟩) 2 y5)).alloc (.cells #[.int .u32 8, .int .i64 2, .int .i64 1, .int .i64 11, .int .u32 9] 70)).ownsRow (w.heap.size + 2) 70 5 (.slice ua 1 uc) 1 (flP 1 pgP) := own_belowP (own_keepP u5 (fun g hg => o6.block g (by have := (u5.lt g hg).2; omega) (by have := (u5.lt g hg).1; simp; omega))) (belowG (Below.refl _ _) _)
      have nk7 := heap_alloc_new (w5.setCell ⟨w.heap.size + 1, 0, none⟩ (.slice (some ⟨x5, 0, none⟩) 2 y5)) (.cells #[.int .u32 8, .int .i64 2, .int .i64 1, .int .i64 11, .int .u32 9] 70)
      have hs6 : (w5.setCell ⟨w.heap.size + 1, 0, none⟩ (.slice (some ⟨x5, 0, none⟩) 2 y5)).heap.size = w5.heap.size := by simp [World.setCell]
      rw [hs6] at nk7
      have hcl7 : ∀ j u, (pgL (pgP 1))[j]? = some u → ((w5.setCell ⟨w.heap.size + 1, 0, none⟩ (.slice (some ⟨x5, 0, none⟩) 2 y5)).alloc (.cells #[.int .u32 8, .int .i64 2, .int .i64 1, .int .i64 11, .int .u32 9] 70)).cell? ((⟨w5.heap.size, 0, none⟩ : Addr).add j) = some u := pg_cells nk7
      have hbs7 : w.heap.size + 2 ≤ ((w5.setCell ⟨w.heap.size + 1, 0, none⟩ (.slice (some ⟨x5, 0, none⟩) 2 y5)).alloc (.cells #[.int .u32 8, .int .i64 2, .int .i64 1, .int .i64 11, .int .u32 9] 70)).heap.size := by rw [World.size_alloc, hs6]; omega
      have HH : Hid (_) := And.intro o5 (And.intro g5 (And.intro s5 (And.intro k5 (And.intro p5 (And.intro u5 (And.intro nb (And.intro nu b4)))))))
      clear o5 g5 s5 k5 p5 u5 hrow hcl hbs nk q0 q1 nk7 o6 nb nu
      go_wp2_with (at_builtin; refine wpList_append_own_at _ rfl (.tmp 30) (.tmp 32) 22 rfl (w.heap.size + 2) 70 i0 (.agg #[.int .u32 0, .int .i64 0, .int .i64 0, .int .i64 0, .int .u32 0]) 5 40 Try.underlying22 hI hz0 hz1 hz2 rfl (by decide) (.slice ua 1 uc) 1 (flP 1 pgP) rfl u7 ⟨w5.heap.size, 0, none⟩ 1 1 (pgL (pgP 1)) rfl rfl hcl7 (pgL_one _) (by unfold maxLen; omega) (by omega) hbs7 ?_)
      intro v8 w8 o8 g8 _ s8
      obtain ⟨x8, y8, rfl, hx8⟩ := own_slcP (n := 1) o8
      have key : Hid (Sp w (w8.setCell ⟨w.heap.size + 1, 1, none⟩ (.slice (some ⟨x8, 0, none⟩) 2 y8)) 2 (some ⟨x5, 0, none⟩) y5 (some ⟨x8, 0, none⟩) y8 ∧ w8.heap[w.heap.size + 1]? = some (.cells #[.slice (some ⟨x5, 0, none⟩) 2 y5, .slice ua 1 uc, .int .u32 50] 25 (0, 0))) := by
        obtain ⟨o5, g5, s5, k5, p5, u5, nb, nu, b4⟩ := HH.out
        have hI' := HI.out
        have o6 : Off [w.heap.size + 1] w5 (w5.setCell ⟨w.heap.size + 1, 0, none⟩ (.slice (some ⟨x5, 0, none⟩) 2 y5)) := Off.setCell _ _ _ _
        have o9 : Off [w.heap.size + 1] w8 (w8.setCell ⟨w.heap.size + 1, 1, none⟩ (.slice (some ⟨x8, 0, none⟩) 2 y8)) := Off.setCell _ _ _ _
        have g8s := g8.size
        rw [World.size_alloc, hs6] at g8s
        have wr2 : w.heap.size + 2 ≤ wr.heap.size := by omega
        have thr : ∀ k, k < w5.heap.size → k ≠ w.heap.size + 1 → (∀ g, (Value.slice ua 1 uc).ownBlock = some g → k ≠ g) → (w8.setCell ⟨w.heap.size + 1, 1, none⟩ (.slice (some ⟨x8, 0, none⟩) 2 y8)).heap[k]? = w5.heap[k]? := fun k hk h1 h2 =>
          (o9.block k (by omega) (by simpa using h1)).trans ((g8.block k (by rw [World.size_alloc, hs6]; omega) (fun e => h2 k e.symm rfl)).trans (((belowG (Below.refl _ _) _).block k (by rw [hs6]; exact hk)).trans (o6.block k hk (by simpa using h1))))
        have kk6 : (w5.setCell ⟨w.heap.size + 1, 0, none⟩ (.slice (some ⟨x5, 0, none⟩) 2 y5)).heap[w.heap.size + 1]? = some (.cells #[.slice (some ⟨x5, 0, none⟩) 2 y5, .slice ua 1 uc, .int .u32 50] 25 (0, 0)) := heap_setCell_same _ _ _ _ _ _ k5
        have kk8 : w8.heap[w.heap.size + 1]? = some (.cells #[.slice (some ⟨x5, 0, none⟩) 2 y5, .slice ua 1 uc, .int .u32 50] 25 (0, 0)) := (g8.block _ (by rw [World.size_alloc, hs6]; omega) (fun e => by have := (nu _ e.symm).1; omega)).trans (((belowG (Below.refl _ _) _).block _ (by rw [hs6]; omega)).trans kk6)
        have b5 : Below w.heap.size w w5 := (hI'.bel.trans (b4.mono (by omega))).grown g5 (by simp; omega) (fun j hj => by have := (nb j hj).1; omega)
        have l5 := (o5.lt x5 rfl).2
        have xu : ∀ g, (Value.slice ua 1 uc).ownBlock = some g → x5 ≠ g := fun g hg e => by
          subst e
          rcases s5 with h | h
          · exact hI'.dis x5 (h.symm.trans rfl) hg
          · have h2 : some x5 = some _ := h
            simp only [Option.some.injEq] at h2
            have := (nu _ hg).2
            omega
        refine ⟨⟨?_, ?_, heap_setCell_same _ _ _ _ _ _ kk8, ?_, ?_, ?_⟩, kk8⟩
        · have b6 := o6.below b5 (fun k hk => by simp at hk; omega) b5.size
          have b7 := (b6.alloc (by rw [hs6]; exact b5.size) (.cells #[.int .u32 8, .int .i64 2, .int .i64 1, .int .i64 11, .int .u32 9] 70)).grown g8 (by rw [World.size_alloc, hs6]; have := b5.size; omega) (fun j hj => by have := (nu j hj).1; omega)
          exact o9.below b7 (fun k hk => by simp at hk; omega) b7.size
        · rw [thr _ (by omega) (by omega) (fun g hg => by have := (nu g hg).1; omega)]
          exact (g5.block _ (by simp; omega) (fun e => by have := (nb _ e.symm).1; omega)).trans ((b4.block _ (by omega)).trans hI'.rb)
        · rw [flP_succ]
          exact own_keepP o5 (fun g hg => by
            have e : g = x5 := by simpa [Value.ownBlock] using hg.symm
            subst e
            exact thr g l5 (by omega) xu)
        · rw [flP_succ]
          exact own_keepP o8 (fun g hg => by
            have e : g = x8 := by simpa [Value.ownBlock] using hg.symm
            subst e
            exact o9.block g (o8.lt g rfl).2 (by simp; omega))
        · intro g hg hg'
          cases hg
          have e8 : x8 = x5 := by simpa [Value.ownBlock] using hg'
          rcases s8 with h | h
          · have h2 : some x8 = _ := h
            exact xu x8 h2.symm e8.symm
          · have h2 : some x8 = some _ := h
            simp only [Option.some.injEq] at h2
            omega
      have HS : Hid (_) := key.out.1
      have f0 := cell_of_row w8 _ 0 _ _ _ key.out.2
      have f1 := cell_of_row w8 _ 1 _ _ _ key.out.2
      have fz := fun k => frozen_of_row w8 _ k _ _ key.out.2
      clear key o8 g8 s8 HH u7 hcl7 hbs7 HI
      go_wp2_with fail
      go_roundw
      case rel => exact ⟨2, _, _, _, _, by omega, by go_num, HS⟩
      case measure => simp [natG]
    · have x0 := cell_of_row wr _ 0 _ _ _ HI.out.xb
      have x1 := cell_of_row wr _ 1 _ _ _ HI.out.xb
      have x2 := cell_of_row wr _ 2 _ _ _ HI.out.xb
      have y0 := cell_of_row wr _ 0 _ _ _ HI.out.rb
      have y1 := cell_of_row wr _ 1 _ _ _ HI.out.rb
      have y2 := cell_of_row wr _ 2 _ _ _ HI.out.rb
      have yz := fun k => frozen_of_row wr _ k _ _ HI.out.rb
      go_wp2_with fail
      refine bodyPost_ret (v := .agg #[.slice va 2 vc, .slice ua 2 uc, .int .u32 50]) (by simp [results, Try.results16, go_sem, y0, y1, y2]) rfl ?_
      have o : Off [w.heap.size] wr (((wr.setCell ⟨w.heap.size, 0, none⟩ (.slice va 2 vc)).setCell ⟨w.heap.size, 1, none⟩ (.slice ua 2 uc)).setCell ⟨w.heap.size, 2, none⟩ (.int .u32 50)) := ((Off.setCell _ _ _ _).trans (Off.setCell _ _ _ _)).trans (Off.setCell _ _ _ _)
      have hI := HI.out
      exact ⟨va, vc, ua, uc, rfl, PRow.of_own (own_keepP hI.ov (fun g hg => o.block g (hI.ov.lt g hg).2 (by have := (hI.ov.lt g hg).1; simp; omega))), PRow.of_own (own_keepP hI.ou (fun g hg => o.block g (hI.ou.lt g hg).2 (by have := (hI.ou.lt g hg).1; simp; omega))), o.below hI.bel (fun k hk => by simp at hk; omega) hI.bel.size⟩
end Go.Proofs.Ythlgahkoignnkaa
namespace Go.Proofs.Ythlgahkoignnkaa
open Go.RowKit Go.Maps
theorem sees_congr (J : Ju) {F G : Nat → Fa} : ∀ n, (∀ i, i < n → F i = G i) → sees J F n = sees J G n
  | 0, _ => rfl
  | n + 1, h => by
    unfold sees
    rw [sees_congr J n (fun i hi => h i (by omega)), h n (by omega)]
theorem sees_add (J : Ju) (F : Nat → Fa) (a : Nat) : ∀ b, sees J F (a + b) = sees (sees J F a) (fun i => F (a + i)) b
  | 0 => rfl
  | b + 1 => by
    show (sees J F (a + b)).see (F (a + b)) = _
    rw [sees_add J F a b]
    rfl
theorem see_stuck {J : Ju} (h : J.r ≠ 0) (f : Fa) : J.see f = J := by
  unfold Ju.see
  rw [if_pos h]
theorem sees_stuck {J : Ju} (h : J.r ≠ 0) (F : Nat → Fa) : ∀ n, sees J F n = J
  | 0 => rfl
  | n + 1 => by
    unfold sees
    rw [sees_stuck h F n, see_stuck h]
theorem lrn_rest (J : Ju) (f : Fa) : (J.lrn f).r = J.r ∧ (J.lrn f).a = J.a ∧ (J.lrn f).n = J.n := by
  unfold Ju.lrn
  split
  · exact ⟨rfl, rfl, rfl⟩
  · repeat' split
    all_goals exact ⟨rfl, rfl, rfl⟩
theorem see_cases {J : Ju} (h : J.r = 0) (f : Fa) : ((J.see f).r = 0 ∧ (J.see f).a = J.a ∧ (J.see f).n = J.n + 1 ∧ J.rule f = 0) ∨ ((J.see f).r ≠ 0 ∧ (J.see f).r = J.rule f ∧ (J.see f).a = ((J.n : Nat) : Int)) := by
  unfold Ju.see
  rw [if_neg (by simp [h])]
  by_cases hr : J.rule f = 0
  · rw [if_neg (by simp [hr])]
    obtain ⟨h1, h2, h3⟩ := lrn_rest J f
    exact .inl ⟨h1.trans h, h2, rfl, hr⟩
  · rw [if_pos hr]
    exact .inr ⟨hr, rfl, rfl⟩
theorem sees_good {J : Ju} (h : J.r = 0) (ha : J.a = 0) (F : Nat → Fa) : ∀ n, (sees J F n).r = 0 → (sees J F n).a = 0 ∧ (sees J F n).n = J.n + n
  | 0, _ => ⟨ha, rfl⟩
  | n + 1, hn => by
    by_cases hb : (sees J F n).r = 0
    · obtain ⟨h1, h2⟩ := sees_good h ha F n hb
      unfold sees at hn ⊢
      rcases see_cases hb (F n) with ⟨_, e2, e3, _⟩ | ⟨e1, _⟩
      · exact ⟨e2.trans h1, by rw [e3, h2]; omega⟩
      · exact absurd hn e1
    · unfold sees at hn
      rw [see_stuck hb] at hn
      exact absurd hn hb
theorem sees_pre {J : Ju} (F : Nat → Fa) {n k : Nat} (hk : k ≤ n) (hn : (sees J F n).r = 0) : (sees J F k).r = 0 := by
  apply Decidable.byContradiction
  intro hb
  obtain ⟨m, rfl⟩ : ∃ m, n = k + m := ⟨n - k, by omega⟩
  rw [sees_add, sees_stuck hb] at hn
  exact hb hn
theorem sees_bad {J : Ju} (h : J.r = 0) (ha : J.a = 0) (hJ : J.n = 0) (F : Nat → Fa) : ∀ n, (sees J F n).r ≠ 0 → ∃ k, k < n ∧ (sees J F n).a = ((k : Nat) : Int) ∧ (sees J F k).r = 0 ∧ (sees J F k).a = 0 ∧ ∀ m, k + 1 ≤ m → ∀ G : Nat → Fa, (∀ i, i < k + 1 → G i = F i) → sees J G m = sees J F n
  | 0, hn => absurd h hn
  | n + 1, hn => by
    by_cases hb : (sees J F n).r = 0
    · obtain ⟨h1, h2⟩ := sees_good h ha F n hb
      have hn' : ((sees J F n).see (F n)).r ≠ 0 := hn
      rcases see_cases hb (F n) with ⟨e1, _⟩ | ⟨_, e2, e3⟩
      · exact absurd e1 hn'
      · refine ⟨n, by omega, ?_, hb, h1, fun m hm G hG => ?_⟩
        · show ((sees J F n).see (F n)).a = _
          rw [e3, h2, hJ]
          simp
        · obtain ⟨d, rfl⟩ : ∃ d, m = n + 1 + d := ⟨m - (n + 1), by omega⟩
          have e : sees J G (n + 1) = sees J F (n + 1) := sees_congr J (n + 1) hG
          rw [sees_add, e, sees_stuck hn]
    · obtain ⟨k, hk, e1, e2, e3, e4⟩ := sees_bad h ha hJ F n hb
      have es : sees J F (n + 1) = sees J F n := by
        show (sees J F n).see (F n) = _
        exact see_stuck hb _
      rw [es]
      exact ⟨k, by omega, e1, e2, e3, e4⟩
end Go.Proofs.Ythlgahkoignnkaa
namespace Go.Proofs.Ythlgahkoignnkaa
open Go.RowKit Go.Maps
noncomputable def seeL (J : Ju) (l : List Fa) : Ju := l.foldl Ju.see J
theorem sees_L (J : Ju) (F : Nat → Fa) : ∀ n, sees J F n = seeL J ((List.range n).map F)
  | 0 => rfl
  | n + 1 => by
    unfold sees seeL
    rw [List.range_succ, List.map_append, List.foldl_append, sees_L J F n]
    rfl
theorem seeL_app (J : Ju) (l : List Fa) (f : Fa) : seeL J (l ++ [f]) = (seeL J l).see f := by
  unfold seeL
  rw [List.foldl_append]
  rfl
structure Same1 (i : Nat) (J K : Ju) : Prop where
  len : J.cs.length = K.cs.length
  con : J.cs[i]? = K.cs[i]?
  snt : ∀ (t : TK) n x, t.c = ((i : Nat) : Int) → (J.S t n x ↔ K.S t n x)
theorem Same1.bad {i : Nat} {J K : Ju} (h : Same1 i J K) (f : Fa) : J.bad f ↔ K.bad f := by
  unfold Ju.bad
  rw [h.len]
theorem Same1.rule {i : Nat} {J K : Ju} (h : Same1 i J K) {f : Fa} (hf : f.c = ((i : Nat) : Int)) : J.rule f = K.rule f := by
  unfold Ju.rule
  rw [hf, Int.toNat_natCast, ← h.con]
  by_cases hb : J.bad f
  · rw [if_pos hb, if_pos ((h.bad f).1 hb)]
  · rw [if_neg hb, if_neg (fun q => hb ((h.bad f).2 q))]
    cases J.cs[i]? with
    | none => rfl
    | some c =>
      show J.rul c f = K.rul c f
      unfold Ju.rul Ju.tak
      have e : J.S ⟨f.c, oth f.s, f.ss⟩ f.nn f.x ↔ K.S ⟨f.c, oth f.s, f.ss⟩ f.nn f.x := h.snt _ _ _ hf
      have eS : J.S ⟨f.c, oth f.s, f.ss⟩ f.nn f.x = K.S ⟨f.c, oth f.s, f.ss⟩ f.nn f.x := propext e
      rw [eS]
theorem Same1.lrn {i : Nat} {J K : Ju} (h : Same1 i J K) {f : Fa} (hf : f.c = ((i : Nat) : Int)) : Same1 i (J.lrn f) (K.lrn f) := by
  unfold Ju.lrn
  rw [hf, Int.toNat_natCast, ← h.con]
  have hl := h.len
  have hs := h.snt
  cases hc : J.cs[i]? with
  | none => exact h
  | some c =>
    have hi := (List.getElem?_eq_some_iff.1 hc).1
    have hi' : i < K.cs.length := by omega
    have st : ∀ c', (J.cs.set i c')[i]? = (K.cs.set i c')[i]? := fun c' => by simp [hi, hi']
    have hcon := h.con
    dsimp only
    repeat' split
    all_goals
      first
        | exact ⟨hl, hcon, fun t n x ht => by simp only [hs t n x ht]⟩
        | exact ⟨by simp [hl], st _, fun t n x ht => by simp only [hs t n x ht]⟩
theorem Same1.other {i : Nat} {J K : Ju} (h : Same1 i J K) {f : Fa} {j : Nat} (hf : f.c = ((j : Nat) : Int)) (hij : i ≠ j) : Same1 i (J.lrn f) K := by
  unfold Ju.lrn
  rw [hf, Int.toNat_natCast]
  have hl := h.len
  have hs := h.snt
  have hcon := h.con
  cases J.cs[j]? with
  | none => exact h
  | some c =>
    have st : ∀ c', (J.cs.set j c')[i]? = K.cs[i]? := fun c' => by rw [List.getElem?_set_ne (Ne.symm hij)]; exact hcon
    have nt : ∀ (t : TK) (s : Int) (ss : Nat), t.c = ((i : Nat) : Int) → t ≠ ⟨((j : Nat) : Int), s, ss⟩ := fun t s ss ht e => by
      rw [e] at ht
      have : ((j : Nat) : Int) = ((i : Nat) : Int) := ht
      omega
    dsimp only
    repeat' split
    all_goals
      first
        | exact ⟨hl, hcon, fun t n x ht => ⟨fun q => (hs t n x ht).1 (q.resolve_right (fun k => nt t _ _ ht k.1)), fun q => .inl ((hs t n x ht).2 q)⟩⟩
        | exact ⟨by simp [hl], st _, fun t n x ht => ⟨fun q => (hs t n x ht).1 q.1, fun q => ⟨(hs t n x ht).2 q, nt t _ _ ht⟩⟩⟩
        | exact ⟨by simp [hl], st _, hs⟩
theorem Same1.num {i : Nat} {J K : Ju} (h : Same1 i J K) (m n : Nat) : Same1 i { J with n := m } { K with n := n } := ⟨h.len, h.con, h.snt⟩
theorem see_good {J : Ju} (h : J.r = 0) {f : Fa} (hr : J.rule f = 0) : J.see f = { J.lrn f with n := J.n + 1 } := by
  unfold Ju.see
  rw [if_neg (by simp [h]), if_neg (by simp [hr])]
theorem see_badr {J : Ju} (h : J.r = 0) {f : Fa} (hr : J.rule f ≠ 0) : (J.see f).r ≠ 0 := by
  unfold Ju.see
  rw [if_neg (by simp [h]), if_pos hr]
  exact hr
theorem see_keep {J : Ju} (h : J.r ≠ 0) (f : Fa) : (J.see f).r ≠ 0 := by rw [see_stuck h]; exact h
theorem seeL_stuck {J : Ju} (h : J.r ≠ 0) : ∀ l : List Fa, (seeL J l).r ≠ 0
  | [] => h
  | f :: l => by
    show (seeL (J.see f) l).r ≠ 0
    exact seeL_stuck (see_keep h f) l
theorem conns_pure : ∀ (l : List Fa), (∀ f, f ∈ l → f.c = 0 ∨ f.c = 1) → ∀ J A B : Ju, J.r = 0 → A.r = 0 → B.r = 0 → Same1 0 J A → Same1 1 J B → ((seeL J l).r = 0 ↔ (seeL A (l.filter (fun f => f.c == 0))).r = 0 ∧ (seeL B (l.filter (fun f => f.c == 1))).r = 0)
  | [], _, J, A, B, hJ, hA, hB, _, _ => ⟨fun _ => ⟨hA, hB⟩, fun _ => hJ⟩
  | f :: l, hl, J, A, B, hJ, hA, hB, sA, sB => by
    have hl' : ∀ g, g ∈ l → g.c = 0 ∨ g.c = 1 := fun g hg => hl g (List.mem_cons_of_mem _ hg)
    rcases hl f (List.mem_cons_self ..) with hc | hc
    · have e0 : (f :: l).filter (fun f => f.c == 0) = f :: l.filter (fun f => f.c == 0) := by simp [hc]
      have e1 : (f :: l).filter (fun f => f.c == 1) = l.filter (fun f => f.c == 1) := by simp [hc]
      rw [e0, e1]
      show (seeL (J.see f) l).r = 0 ↔ (seeL (A.see f) _).r = 0 ∧ _
      have hc' : f.c = ((0 : Nat) : Int) := hc
      have er := sA.rule hc'
      by_cases hr : J.rule f = 0
      · have hr' : A.rule f = 0 := er ▸ hr
        rw [see_good hJ hr, see_good hA hr']
        exact conns_pure l hl' _ _ _ ((lrn_rest J f).1.trans hJ) ((lrn_rest A f).1.trans hA) hB ((sA.lrn hc').num _ _) ((sB.other hc' (by omega)).num _ B.n)
      · have hr' : A.rule f ≠ 0 := er ▸ hr
        have k1 := seeL_stuck (see_badr hJ hr) l
        have k2 := seeL_stuck (see_badr hA hr') (l.filter (fun f => f.c == 0))
        exact ⟨fun q => absurd q k1, fun q => absurd q.1 k2⟩
    · have e0 : (f :: l).filter (fun f => f.c == 0) = l.filter (fun f => f.c == 0) := by simp [hc]
      have e1 : (f :: l).filter (fun f => f.c == 1) = f :: l.filter (fun f => f.c == 1) := by simp [hc]
      rw [e0, e1]
      show (seeL (J.see f) l).r = 0 ↔ _ ∧ (seeL (B.see f) _).r = 0
      have hc' : f.c = ((1 : Nat) : Int) := hc
      have er := sB.rule hc'
      by_cases hr : J.rule f = 0
      · have hr' : B.rule f = 0 := er ▸ hr
        rw [see_good hJ hr, see_good hB hr']
        exact conns_pure l hl' _ _ _ ((lrn_rest J f).1.trans hJ) hA ((lrn_rest B f).1.trans hB) ((sA.other hc' (by omega)).num _ A.n) ((sB.lrn hc').num _ _)
      · have hr' : B.rule f ≠ 0 := er ▸ hr
        have k1 := seeL_stuck (see_badr hJ hr) l
        have k2 := seeL_stuck (see_badr hB hr') (l.filter (fun f => f.c == 1))
        exact ⟨fun q => absurd q k1, fun q => absurd q.2 k2⟩
theorem lrn_len (J : Ju) (f : Fa) : (J.lrn f).cs.length = J.cs.length := by
  unfold Ju.lrn
  split
  · rfl
  · repeat' split
    all_goals simp
theorem see_len (J : Ju) (f : Fa) : (J.see f).cs.length = J.cs.length := by
  unfold Ju.see
  split
  · rfl
  · split
    · rfl
    · exact lrn_len J f
theorem conn_bad : ∀ (l : List Fa) (J : Ju), (∃ f, f ∈ l ∧ (f.c < 0 ∨ (J.cs.length : Int) ≤ f.c)) → (seeL J l).r ≠ 0
  | [], _, h => by obtain ⟨f, hf, _⟩ := h; cases hf
  | f :: l, J, h => by
    show (seeL (J.see f) l).r ≠ 0
    by_cases hJ : J.r = 0
    · obtain ⟨g, hg, hb⟩ := h
      rcases List.mem_cons.1 hg with rfl | hg
      · refine seeL_stuck (see_badr hJ ?_) l
        unfold Ju.rule
        have : J.bad g := by
          rcases hb with h | h
          · exact .inr (.inl h)
          · exact .inr (.inr (.inl h))
        rw [if_pos this]
        decide
      · exact conn_bad l (J.see f) ⟨g, hg, by rw [see_len]; exact hb⟩
    · exact seeL_stuck (see_keep hJ f) l
end Go.Proofs.Ythlgahkoignnkaa
namespace Go.Proofs.Ythlgahkoignnkaa
open Go.RowKit
theorem held_call {P : Program} {md : Region.Mode} {ops : Array Oper} {Q : Exit → Act → World → Prop} {S : World → Prop} {fuel : Nat} {l : Array Bool} {a : Act} {w : World} {i : Nat} {o : Oper} (f : FuncId) (args : Array Value) (hr : Region.ready md ops l = [i]) (ho : ops[i]? = some o)
    (hw : Region.wanted o (yielded ops a.tmps) = true) (hrun : (execOp a.eval o).run P w = .ok (.enter f args) w)
    (hc : Calls P f args w fun e w'' => ∃ v, e = .returned v ∧ (S w'' ∧ wpAnyH P md ops Q S fuel (l.setIfInBounds i true) (a.put o.dst v) w'')) : wpAnyH P md ops Q S (fuel + 1) l a w :=
  wpAnyH_all hr (by simp) (fun j hj => by
    obtain rfl := List.mem_singleton.1 hj
    exact any_call f args ho hw hrun hc)
theorem held_val {P : Program} {md : Region.Mode} {ops : Array Oper} {Q : Exit → Act → World → Prop} {S : World → Prop} {fuel : Nat} {l : Array Bool} {a : Act} {w : World} {i : Nat} {o : Oper} (v : Value) (hr : Region.ready md ops l = [i]) (ho : ops[i]? = some o)
    (hw : Region.wanted o (yielded ops a.tmps) = true) (hrun : (execOp a.eval o).run P w = .ok (.value v) w) (hS : S w)
    (h : wpAnyH P md ops Q S fuel (l.setIfInBounds i true) (a.put o.dst v) w) : wpAnyH P md ops Q S (fuel + 1) l a w :=
  wpAnyH_all hr (by simp) (fun j hj => by
    obtain rfl := List.mem_singleton.1 hj
    exact any_val v w ho hw hrun ⟨hS, h⟩)
theorem held_skip {P : Program} {md : Region.Mode} {ops : Array Oper} {Q : Exit → Act → World → Prop} {S : World → Prop} {fuel : Nat} {l : Array Bool} {a : Act} {w : World} {i : Nat} {o : Oper} (w' : World) (hr : Region.ready md ops l = [i]) (ho : ops[i]? = some o)
    (hw : Region.wanted o (yielded ops a.tmps) = true) (hrun : (execOp a.eval o).run P w = .ok .skip w') (hS : S w')
    (h : wpAnyH P md ops Q S fuel (l.setIfInBounds i true) (a.put o.dst undef) w') : wpAnyH P md ops Q S (fuel + 1) l a w :=
  wpAnyH_all hr (by simp) (fun j hj => by
    obtain rfl := List.mem_singleton.1 hj
    unfold wpOp
    simp only [ho, hw, if_true]
    refine .inl ?_
    unfold Oper.wp
    rw [hrun]
    exact ⟨hS, h⟩)
theorem held_at {P : Program} {md : Region.Mode} {ops : Array Oper} {Q : Exit → Act → World → Prop} {S : World → Prop} {fuel : Nat} {l l' : Array Bool} {a a' : Act} {w : World} (ha : a = a') (hl : l = l') (h : wpAnyH P md ops Q S fuel l' a' w) : wpAnyH P md ops Q S fuel l a w := by rw [ha, hl]; exact h
end Go.Proofs.Ythlgahkoignnkaa
