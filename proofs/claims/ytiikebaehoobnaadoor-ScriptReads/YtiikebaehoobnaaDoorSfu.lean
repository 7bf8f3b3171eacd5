/- Layer 20: FormatUint of any number; numberOf of any word. -/
import Derived.Test.YtiikebaehoobnaaDoorSrd
import Derived.Lib.ItoaMem
namespace Go.Proofs.YtiikebaehoobnaaDoor
set_option maxRecDepth 100000
open Go.RowKit Go.Maps Go.Sort
set_option maxRecDepth 100000
theorem below_put (w : World) (o : Obj) (dk : Array UInt8) (k : Nat) : Below w.heap.size w ((putRow (fun (b : UInt8) => Value.int .u8 (b.toNat : Int)) (w.alloc o) w.heap.size 0 dk).drewN k) := by
  rw [alloc_eq_grow]
  obtain ⟨os', _, e⟩ := putRow_grow_new (fun (b : UInt8) => Value.int .u8 (b.toNat : Int)) w #[o] w.heap.size 0 dk (Nat.le_refl _)
  rw [e]
  exact below_grow w k os'
theorem holds_zero0 (w : World) (T : TypeId) (nd : Nat) (hs : nd ≤ 24) : Holds (fun (b : UInt8) => Value.int .u8 (b.toNat : Int)) (w.alloc (.cells Lib.zeros24 T)) w.heap.size 0 (Array.replicate nd (0 : UInt8)) := fun j hj => by
  have hj' : j < nd := by simpa using hj
  refine ⟨?_, World.frozen?_alloc_new _ _ _ _⟩
  rw [World.cell?_alloc_new, Lib.zeros24_at _ (by omega), getElem!_pos _ j hj]
  simp
set_option maxHeartbeats 1000000 in
theorem pfmtI (u : Nat) (hu : 100 ≤ u) (hu64 : u < 18446744073709551616) (w : World) (L : Lw w) : Calls Tryd.prog 100 #[.int .u64 ((u : Nat) : Int), .int .i64 10] w fun r w' => r = .returned (.string (tx (Lib.decDigits u))) ∧ Below w.heap.size w w' := by
  have hu1 : 1 ≤ u := by omega
  have hnd20 : Lib.nDigits u ≤ 20 := by have := Lib.numDigits_eq u hu1 hu64; split at this <;> omega
  have hal : Tryd.prog.arrayLen 155 = 24 := by kernel_rfl
  have hsl : ∀ W, (Instr.sliceAt 155 (.pointer (some ⟨w.heap.size, 0, none⟩)) none (some (.int .i64 (Lib.nDigits u : Int))) none).run Tryd.prog W = .ok (.slice (some ⟨w.heap.size, 0, none⟩) (Lib.nDigits u) 24) W := fun W => by
    rw [run_sliceAt_array_h W 155 ⟨w.heap.size, 0, none⟩ (by kernel_rfl) .i64 (Lib.nDigits u : Int) (by omega) (by rw [hal]; omega)]
    go_simp
  have hH0 := holds_zero0 w 155 (Lib.nDigits u) (by omega)
  have hfmt := Tryd.internal_strconv_formatBase10 w.heap.size 0 24 u (Array.replicate (Lib.nDigits u) 0) (w.alloc (.cells Lib.zeros24 155)) hH0 (by rw [Array.size_replicate]; exact Lib.lt_pow_nDigits u) hu64 (by rw [Array.size_replicate]; omega)
  rw [Array.size_replicate] at hfmt
  have hnum := Tryd.internal_strconv_numDigits u hu1 hu64 (w.alloc (.cells Lib.zeros24 155)) (Lib.tabIs_alloc L.pow _)
  have HH0 : Hid (_) := hH0
  have g : ¬ ((u : Nat) : Int) < 100 := by omega
  clear hH0 hal L
  go_enter Tryd.func100, Tryd.ntmps100
  go_wp2_with fail
  refine hnum.mono ?_
  rintro r w' ⟨rfl, hw⟩
  rw [hw]
  clear hw hnum
  go_wp2_with fail
  refine hfmt.mono ?_
  rintro e w' ⟨rfl, k, v', dk, hw', hF⟩
  have hcv : (convert 32 9 (.slice (some ⟨w.heap.size, 0, none⟩) (Lib.nDigits u) 24)).run Tryd.prog w' = .ok (.string (tx (Lib.decDigits u))) w' := by
    rw [hw']
    have h := run_convert_bytes_back (P := Tryd.prog) ((putRow (fun (b : UInt8) => Value.int .u8 (b.toNat : Int)) (w.alloc (.cells Lib.zeros24 155)) w.heap.size 0 dk).drewN k) 32 9 5 ⟨w.heap.size, 0, none⟩ 24 (Lib.decDigits u) Tryd.underlying32 Tryd.underlying5 Tryd.underlying9 (fun j hj => by
      rw [Lib.row_is_numeral hF j hj, Lib.add_plain, World.cell?_drewN]
      exact cell?_putRow (fun (b : UInt8) => Value.int .u8 (b.toNat : Int)) _ w.heap.size 0 _ dk HH0.out (by rw [hF.size, Array.size_replicate]) j (by rw [hF.size]; rw [Lib.decDigits_length] at hj; exact hj))
    rw [Lib.decDigits_length] at h
    exact h
  have HB : Hid (Below w.heap.size w w') := by
    show Below w.heap.size w w'
    rw [hw']
    exact below_put _ _ _ _
  clear hw' hF HH0 hfmt
  go_wp2_with fail
  go_ret
  exact ⟨rfl, HB.out⟩
theorem pfmt (u : Nat) (hu64 : u < 18446744073709551616) (w : World) (L : Lw w) : Calls Tryd.prog 87 #[.int .u64 ((u : Nat) : Int), .int .i64 10] w fun r w' => r = .returned (.string (tx (Lib.decDigits u))) ∧ Below w.heap.size w w' := by
  by_cases h : u < 100
  · exact (pfmt_small u h w).mono fun _ _ ⟨e, q⟩ => ⟨e, by rw [q]; exact Below.refl _ _⟩
  · have h1 := pfmtI u (by omega) hu64 w L
    go_enter Tryd.func87, Tryd.ntmps87
    go_wp2_with fail
    refine h1.mono ?_
    rintro r w' ⟨rfl, hw⟩
    have HB : Hid (_) := hw
    clear h1 hw
    go_wp2_with fail
    go_ret
    exact ⟨rfl, HB.out⟩
end Go.Proofs.YtiikebaehoobnaaDoor
