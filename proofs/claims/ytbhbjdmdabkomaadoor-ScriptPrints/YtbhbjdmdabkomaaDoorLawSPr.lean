/- ScriptPrints (P20.2): Print is the document's. -/
import Derived.Test.YtbhbjdmdabkomaaDoorSp5
import Derived.Test.YtbhbjdmdabkomaaDoorNcs
import Derived.Test.YtbhbjdmdabkomaaDoorSaw
namespace Go.Proofs.YtbhbjdmdabkomaaDoor
set_option maxRecDepth 100000
open Go.RowKit Go.Maps
set_option maxRecDepth 100000
set_option maxHeartbeats 4000000 in
theorem scriptPrints_any (a0 : Option Addr) (l0 c0 : Nat) (P0 : Nat → Ps) (a1 : Option Addr) (l1 c1 : Nat) (P1 : Nat → Ps) (ms : Nat) (am : Option Addr) (n cm : Nat) (M : Nat → Mv) (D : Nat → Md) (w : World) (h0 : PsRow w a0 l0 P0) (h1 : PsRow w a1 l1 P1) (hM : MvRow w am n M D) (z0 : a0 = none → l0 = 0 ∧ c0 = 0) (z1 : a1 = none → l1 = 0 ∧ c1 = 0) (ok0 : ∀ i, i < l0 → (P0 i).Ok) (ok1 : ∀ i, i < l1 → (P1 i).Ok) (okM : ∀ i, i < n → (M i).Ok ∧ (M i).l ≤ 140737488355328) (hms : ms < 4294967296) (hl0 : l0 ≤ 9223372036854775807) (hl1 : l1 ≤ 9223372036854775807) (hn : n ≤ 9223372036854775807) (L : Lw w) :
    Calls Tryd.prog 4 #[.agg #[.slice a0 l0 c0, .slice a1 l1 c1, .int .u32 (ms : Nat)], .slice am n cm] w fun r w' => r = .returned (.bool true) ∧ Below w.heap.size w w' := by
  obtain ⟨W, hW⟩ : ∃ W : World, w.alloc (.cells #[.slice a0 l0 c0, .slice a1 l1 c1, .int .u32 (ms : Nat)] 41) = W := ⟨_, rfl⟩
  have bW : Below w.heap.size w W := by rw [← hW]; exact belA (Below.refl _ _) _
  have eB : W.heap[w.heap.size]? = some (.cells #[.slice a0 l0 c0, .slice a1 l1 c1, .int .u32 (ms : Nat)] 41 (0, 0)) := by rw [← hW]; exact heap_alloc_new _ _
  have cel : Hid (∀ wx, Below W.heap.size W wx → wx.cell? ⟨w.heap.size, 0, none⟩ = some (.slice a0 l0 c0) ∧ wx.cell? ⟨w.heap.size, 1, none⟩ = some (.slice a1 l1 c1) ∧ wx.cell? ⟨w.heap.size, 2, none⟩ = some (.int .u32 (ms : Nat)) ∧ PsRow wx a0 l0 P0 ∧ PsRow wx a1 l1 P1 ∧ MvRow wx am n M D ∧ Lw wx) := fun wx bx => by
    have h := (bx.block w.heap.size (by have := (Array.getElem?_eq_some_iff.1 eB).1; exact this)).trans eB
    have bb := belTS bx bW
    exact ⟨cell_of_row wx _ 0 _ _ _ h, cell_of_row wx _ 1 _ _ _ h, cell_of_row wx _ 2 _ _ _ h, h0.below bb, h1.below bb, hM.below bb, L.below bb⟩
  have hA := awake20 W (L.below bW)
  have HW : Hid (_) := And.intro bW (And.intro ok0 (And.intro ok1 (And.intro okM (And.intro z0 z1))))
  clear bW eB h0 h1 hM ok0 ok1 okM L z0 z1
  go_enter Tryd.func4, Tryd.ntmps4
  go_wp2_with fail
  try rw [hW]
  clear hW
  refine hA.mono ?_
  rintro r w1 ⟨rfl, b1⟩
  have H1 : Hid (Below W.heap.size W w1) := b1
  clear hA b1
  obtain ⟨r0, r1, r2, _⟩ := cel.out w1 H1.out
  by_cases g0 : 100 < l0
  · have q0 : (100 : Int) < ((l0 : Nat) : Int) := by omega
    go_wp2_with fail
    go_ret
    exact ⟨rfl, HW.out.1.trans (H1.out.mono HW.out.1.size)⟩
  have q0 : ¬ (100 : Int) < ((l0 : Nat) : Int) := by omega
  by_cases g1 : 100 < l1
  · have q1 : (100 : Int) < ((l1 : Nat) : Int) := by omega
    go_wp2_with fail
    go_ret
    exact ⟨rfl, HW.out.1.trans (H1.out.mono HW.out.1.size)⟩
  have q1 : ¬ (100 : Int) < ((l1 : Nat) : Int) := by omega
  by_cases g2 : 500 < n
  · have q2 : (500 : Int) < ((n : Nat) : Int) := by omega
    go_wp2_with fail
    go_ret
    exact ⟨rfl, HW.out.1.trans (H1.out.mono HW.out.1.size)⟩
  have q2 : ¬ (500 : Int) < ((n : Nat) : Int) := by omega
  have HG : Hid (l0 ≤ 100 ∧ l1 ≤ 100 ∧ n ≤ 500) := ⟨by omega, by omega, by omega⟩
  have k1 := cel.out w1 H1.out
  have hC := ncopied a0 l0 c0 P0 a1 l1 c1 P1 ms w1 k1.2.2.2.1.prow k1.2.2.2.2.1.prow ⟨by omega, HW.out.2.2.2.2.1⟩ ⟨by omega, HW.out.2.2.2.2.2⟩
  clear k1 g0 g1 g2
  go_wp2_with fail
  refine hC.mono ?_
  rintro r w2 ⟨y0, k0, y1, k1, rfl, p0, p1, b2⟩
  have H2 : Hid (Below W.heap.size W w2) := belTS b2 H1.out
  have HPp : Hid (_) := And.intro (PRow.psrow p0) (PRow.psrow p1)
  have hD := pcopies am n cm M D w2 (cel.out w2 H2.out).2.2.2.2.2.1 (fun i hi => (HW.out.2.2.2.1 i hi).2) (by have := HG.out; omega)
  clear hC b2 p0 p1 r0 r1 r2 q0 q1 q2
  go_wp2_with fail
  refine hD.mono ?_
  rintro r w3 ⟨ac, cc, D', rfl, h3⟩
  have H3 : Hid (Below W.heap.size W w3) := belTS h3.out.2 H2.out
  have hP := pprint y0 l0 k0 P0 y1 l1 k1 P1 ms ac n cc M D' w3 (HPp.out.1.below h3.out.2) (HPp.out.2.below h3.out.2) h3.out.1 HW.out.2.1 HW.out.2.2.1 HW.out.2.2.2.1 hms (by have := HG.out; omega) (by have := HG.out; omega) (by have := HG.out; omega) ((cel.out w3 H3.out).2.2.2.2.2.2 : Lw w3)
  obtain ⟨X, hX⟩ : ∃ y, prS ms P0 l0 P1 l1 M n = y := ⟨_, rfl⟩
  obtain ⟨E, hE⟩ : ∃ y, prE ms P0 l0 P1 l1 M n = y := ⟨_, rfl⟩
  rw [hX, hE] at hP
  have HX : Hid (_) := And.intro hX hE
  clear hD h3 hX hE HPp
  go_wp2_with fail
  refine hP.mono ?_
  rintro r w4 ⟨rfl, b4⟩
  have H4 : Hid (Below W.heap.size W w4) := belTS b4 H3.out
  obtain ⟨r0, r1, r2, m0, m1, mM, _⟩ := cel.out w4 H4.out
  have hR := rprint a0 l0 c0 P0 a1 l1 c1 P1 ms am n cm M D w4 m0 m1 mM HW.out.2.1 HW.out.2.2.1 HW.out.2.2.2.1 hms (by have := HG.out; omega) (by have := HG.out; omega) (by have := HG.out; omega)
  rw [HX.out.1, HX.out.2] at hR
  clear hP b4 m0 m1 mM
  go_wp2_with fail
  refine hR.mono ?_
  rintro r w5 ⟨rfl, b5⟩
  have H5 : Hid (Below W.heap.size W w5) := belTS b5 H4.out
  clear hR b5 r0 r1 r2
  go_wp2_with fail
  go_ret
  exact ⟨rfl, HW.out.1.trans (H5.out.mono HW.out.1.size)⟩
end Go.Proofs.YtbhbjdmdabkomaaDoor
