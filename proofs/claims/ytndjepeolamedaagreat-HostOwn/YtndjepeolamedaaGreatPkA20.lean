/- Part 21 of the texts on which the proofs of layer 13 rest: contracts of Go functions. -/
import Derived.Test.YtndjepeolamedaaGreatPkA19
namespace Go.Proofs.YtndjepeolamedaaGreat
set_option maxRecDepth 100000
open Go.RowKit
set_option maxHeartbeats 3200000 in
set_option linter.unusedSimpArgs false in
theorem hrsee_any (d : Nat) (P : Pm) (U : List Nat) (s : Sh) (w : World) (h : RVh w d P U s) :
    Calls Tryz.prog 80 #[.pointer (some ⟨d, 0, none⟩)] w fun e w' => ∃ va vc, e = .returned (.agg #[.int .i64 (s.st : Nat), .int .u32 (s.ss : Nat), .int .u32 (s.nm : Nat), .int .u32 (s.sn : Nat), .int .i64 (s.dc : Nat), .int .i64 s.v.lat, .bool (vreq s.v), .bool (von s.v), .slice va P.i vc]) ∧ Hid (Fr w' w.heap.size (.slice va P.i vc) (P.i, vout s.v) ∧ Row8 w' va P.i vc (vout s.v) ∧ Below w.heap.size w w') := by
  obtain ⟨B, x⟩ := h
  have hdn : ¬ d = w.heap.size := by have := x.dlt; omega
  have b0 : Below w.heap.size w (w.alloc (.cells zEnd 57)) := (Below.refl _ _).alloc (Nat.le_refl _) _
  have x0 := x.newd (Off.of_below b0)
  have hO := hroutv_any d P U s B _ x0
  have hx := heap_alloc_new w (.cells zEnd 57)
  have hs0 : w.heap.size < (w.alloc (.cells zEnd 57)).heap.size := by simp
  have H0 : Hid (_) := And.intro b0 (And.intro x0 (And.intro hx hs0))
  unfold zEnd at *
  clear b0 x0 x hx hs0
  go_enter Tryz.func80, Tryz.ntmps80
  go_wp2_with (go_at_call 143; refine hO.mono ?_; rintro e w2 ⟨va, vc, rfl, h2⟩)
  obtain ⟨b0, x0, hx, hs0⟩ := H0.out
  have b2 := h2.out.2.2
  have x2 := x0.newd (Off.of_below b2)
  have e2 := (b2.block _ hs0).trans hx
  have xd := x2.newd (Off.drew [] w2)
  have q2 := hrqv_any d P U s B _ xd
  have y18 : w2.cell? ⟨d, 15, none⟩ = some (.int .i64 (s.st : Nat)) := cell_of_row w2 d 15 _ _ _ x2.dev
  have y19 : w2.cell? ⟨d, 16, none⟩ = some (.int .u32 (s.ss : Nat)) := cell_of_row w2 d 16 _ _ _ x2.dev
  have y20 : w2.cell? ⟨d, 17, none⟩ = some (.int .u32 (s.nm : Nat)) := cell_of_row w2 d 17 _ _ _ x2.dev
  have y21 : w2.cell? ⟨d, 18, none⟩ = some (.int .u32 (s.sn : Nat)) := cell_of_row w2 d 18 _ _ _ x2.dev
  have y10 : w2.cell? ⟨d, 7, none⟩ = some (.int .i64 (s.dc : Nat)) := cell_of_row w2 d 7 _ _ _ x2.dev
  have y15 : w2.cell? ⟨d, 12, none⟩ = some (.int .i64 s.v.lat) := cell_of_row w2 d 12 _ _ _ x2.dev
  have k0 := cell_of_row w2 w.heap.size 0 _ _ _ e2
  have k1 := cell_of_row w2 w.heap.size 1 _ _ _ e2
  have k2 := cell_of_row w2 w.heap.size 2 _ _ _ e2
  have k3 := cell_of_row w2 w.heap.size 3 _ _ _ e2
  have k4 := cell_of_row w2 w.heap.size 4 _ _ _ e2
  have k5 := cell_of_row w2 w.heap.size 5 _ _ _ e2
  have k6 := cell_of_row w2 w.heap.size 6 _ _ _ e2
  have k7 := cell_of_row w2 w.heap.size 7 _ _ _ e2
  have k8 := cell_of_row w2 w.heap.size 8 _ _ _ e2
  have fz := fun j => frozen_of_row w2 w.heap.size j _ _ e2
  have f0 := fz 0
  have f1 := fz 1
  have f2 := fz 2
  have f3 := fz 3
  have f4 := fz 4
  have f5 := fz 5
  have f6 := fz 6
  have f7 := fz 7
  have f8 := fz 8
  have hne : ¬ d = w.heap.size := hdn
  have H2 : Hid (_) := And.intro b0 (And.intro b2 (And.intro h2.out.1 (And.intro h2.out.2.1 (And.intro hs0 e2))))
  clear hO h2 b0 x0 hx hs0 b2 x2 e2 xd fz H0
  have HS : w2.drew.cell? ⟨d, 15, none⟩ = some (Value.int .i64 (s.st : Nat)) ∧ w2.drew.cell? ⟨d, 16, none⟩ = some (Value.int .u32 (s.ss : Nat)) ∧ w2.drew.cell? ⟨d, 17, none⟩ = some (Value.int .u32 (s.nm : Nat)) ∧ w2.drew.cell? ⟨d, 18, none⟩ = some (Value.int .u32 (s.sn : Nat)) ∧ w2.drew.cell? ⟨d, 7, none⟩ = some (Value.int .i64 (s.dc : Nat)) ∧ w2.drew.cell? ⟨d, 12, none⟩ = some (Value.int .i64 s.v.lat) := ⟨y18, y19, y20, y21, y10, y15⟩
  clear y18 y19 y20 y21 y10 y15
  refine wp_region_held_drew (S := fun w' => w'.cell? ⟨d, 15, none⟩ = some (Value.int .i64 (s.st : Nat)) ∧ w'.cell? ⟨d, 16, none⟩ = some (Value.int .u32 (s.ss : Nat)) ∧ w'.cell? ⟨d, 17, none⟩ = some (Value.int .u32 (s.nm : Nat)) ∧ w'.cell? ⟨d, 18, none⟩ = some (Value.int .u32 (s.sn : Nat)) ∧ w'.cell? ⟨d, 7, none⟩ = some (Value.int .i64 (s.dc : Nat)) ∧ w'.cell? ⟨d, 12, none⟩ = some (Value.int .i64 s.v.lat)) (by kernel_rfl) HS (fun _ => ?_)
  refine held_at (a' := { tmps := #[Value.pointer (some ⟨d, 0, none⟩), undef, Value.pointer (some ⟨w.heap.size, 0, none⟩), Value.slice va P.i vc, Value.bool (von s.v), Value.tuple #[Value.slice va P.i vc, Value.bool (von s.v)], Value.pointer (some ⟨d, 0, none⟩), Value.pointer (some ⟨d, 0, none⟩), Value.pointer (some ⟨d, 8, none⟩), Value.tuple #[Value.slice va P.i vc, Value.bool (von s.v)], Value.slice va P.i vc, Value.bool (von s.v), undef, undef, undef, undef, undef, undef, undef, undef, undef, undef, undef, undef, undef, undef, undef, undef, undef, undef, undef, undef, undef, undef, undef, undef, undef, undef, undef, undef, undef, undef, undef, undef, undef], defers := [] }) (l' := #[false, false, false, false, false, false, false, false, false, false, false, false, false, false, false, false, false, false, false, false, false, false, false, false, false, false, false, false, false, false, false, false, false, false]) (by kernel_rfl) (by kernel_rfl) ?_
  refine wpAnyH_take (i := 0) (v := Value.pointer (some ⟨d, 0, none⟩)) rfl (by kernel_rfl) (by kernel_rfl) (by kernel_rfl) (fun _ _ _ h => h) (Or.inl ⟨by kernel_rfl, fun w hSw => by go_simp⟩) (by assumption) ?_
  refine wpAnyH_take (i := 1) (v := Value.pointer (some ⟨d, 0, none⟩)) rfl (by kernel_rfl) (by kernel_rfl) (by kernel_rfl) (fun _ _ _ h => h) (Or.inl ⟨by kernel_rfl, fun w hSw => by go_simp⟩) (by assumption) ?_
  refine wpAnyH_take (i := 2) (v := Value.pointer (some ⟨d, 15, none⟩)) rfl (by kernel_rfl) (by kernel_rfl) (by kernel_rfl) (fun _ _ _ h => h) (Or.inl ⟨by kernel_rfl, fun w hSw => by go_simp⟩) (by assumption) ?_
  refine wpAnyH_take (i := 3) (v := Value.int .i64 (s.st : Nat)) rfl (by kernel_rfl) (by kernel_rfl) (by kernel_rfl) (fun _ _ _ h => h) (Or.inl ⟨by kernel_rfl, fun w hSw => by go_simp⟩) (by assumption) ?_
  refine wpAnyH_take (i := 4) (v := Value.pointer (some ⟨d, 0, none⟩)) rfl (by kernel_rfl) (by kernel_rfl) (by kernel_rfl) (fun _ _ _ h => h) (Or.inl ⟨by kernel_rfl, fun w hSw => by go_simp⟩) (by assumption) ?_
  refine wpAnyH_take (i := 5) (v := Value.pointer (some ⟨d, 0, none⟩)) rfl (by kernel_rfl) (by kernel_rfl) (by kernel_rfl) (fun _ _ _ h => h) (Or.inl ⟨by kernel_rfl, fun w hSw => by go_simp⟩) (by assumption) ?_
  refine wpAnyH_take (i := 6) (v := Value.pointer (some ⟨d, 16, none⟩)) rfl (by kernel_rfl) (by kernel_rfl) (by kernel_rfl) (fun _ _ _ h => h) (Or.inl ⟨by kernel_rfl, fun w hSw => by go_simp⟩) (by assumption) ?_
  refine wpAnyH_take (i := 7) (v := Value.int .u32 (s.ss : Nat)) rfl (by kernel_rfl) (by kernel_rfl) (by kernel_rfl) (fun _ _ _ h => h) (Or.inl ⟨by kernel_rfl, fun w hSw => by go_simp⟩) (by assumption) ?_
  refine wpAnyH_take (i := 8) (v := Value.pointer (some ⟨d, 0, none⟩)) rfl (by kernel_rfl) (by kernel_rfl) (by kernel_rfl) (fun _ _ _ h => h) (Or.inl ⟨by kernel_rfl, fun w hSw => by go_simp⟩) (by assumption) ?_
  refine wpAnyH_take (i := 9) (v := Value.pointer (some ⟨d, 0, none⟩)) rfl (by kernel_rfl) (by kernel_rfl) (by kernel_rfl) (fun _ _ _ h => h) (Or.inl ⟨by kernel_rfl, fun w hSw => by go_simp⟩) (by assumption) ?_
  refine wpAnyH_take (i := 10) (v := Value.pointer (some ⟨d, 17, none⟩)) rfl (by kernel_rfl) (by kernel_rfl) (by kernel_rfl) (fun _ _ _ h => h) (Or.inl ⟨by kernel_rfl, fun w hSw => by go_simp⟩) (by assumption) ?_
  refine wpAnyH_take (i := 11) (v := Value.int .u32 (s.nm : Nat)) rfl (by kernel_rfl) (by kernel_rfl) (by kernel_rfl) (fun _ _ _ h => h) (Or.inl ⟨by kernel_rfl, fun w hSw => by go_simp⟩) (by assumption) ?_
  refine wpAnyH_take (i := 12) (v := Value.pointer (some ⟨d, 0, none⟩)) rfl (by kernel_rfl) (by kernel_rfl) (by kernel_rfl) (fun _ _ _ h => h) (Or.inl ⟨by kernel_rfl, fun w hSw => by go_simp⟩) (by assumption) ?_
  refine wpAnyH_take (i := 13) (v := Value.pointer (some ⟨d, 0, none⟩)) rfl (by kernel_rfl) (by kernel_rfl) (by kernel_rfl) (fun _ _ _ h => h) (Or.inl ⟨by kernel_rfl, fun w hSw => by go_simp⟩) (by assumption) ?_
  refine wpAnyH_take (i := 14) (v := Value.pointer (some ⟨d, 18, none⟩)) rfl (by kernel_rfl) (by kernel_rfl) (by kernel_rfl) (fun _ _ _ h => h) (Or.inl ⟨by kernel_rfl, fun w hSw => by go_simp⟩) (by assumption) ?_
  refine wpAnyH_take (i := 15) (v := Value.int .u32 (s.sn : Nat)) rfl (by kernel_rfl) (by kernel_rfl) (by kernel_rfl) (fun _ _ _ h => h) (Or.inl ⟨by kernel_rfl, fun w hSw => by go_simp⟩) (by assumption) ?_
  refine wpAnyH_take (i := 16) (v := Value.pointer (some ⟨d, 0, none⟩)) rfl (by kernel_rfl) (by kernel_rfl) (by kernel_rfl) (fun _ _ _ h => h) (Or.inl ⟨by kernel_rfl, fun w hSw => by go_simp⟩) (by assumption) ?_
  refine wpAnyH_take (i := 17) (v := Value.pointer (some ⟨d, 0, none⟩)) rfl (by kernel_rfl) (by kernel_rfl) (by kernel_rfl) (fun _ _ _ h => h) (Or.inl ⟨by kernel_rfl, fun w hSw => by go_simp⟩) (by assumption) ?_
  refine wpAnyH_take (i := 18) (v := Value.pointer (some ⟨d, 6, none⟩)) rfl (by kernel_rfl) (by kernel_rfl) (by kernel_rfl) (fun _ _ _ h => h) (Or.inl ⟨by kernel_rfl, fun w hSw => by go_simp⟩) (by assumption) ?_
  refine wpAnyH_take (i := 19) (v := Value.pointer (some ⟨d, 7, none⟩)) rfl (by kernel_rfl) (by kernel_rfl) (by kernel_rfl) (fun _ _ _ h => h) (Or.inl ⟨by kernel_rfl, fun w hSw => by go_simp⟩) (by assumption) ?_
  refine wpAnyH_take (i := 20) (v := Value.int .i64 (s.dc : Nat)) rfl (by kernel_rfl) (by kernel_rfl) (by kernel_rfl) (fun _ _ _ h => h) (Or.inl ⟨by kernel_rfl, fun w hSw => by go_simp⟩) (by assumption) ?_
  refine wpAnyH_take (i := 21) (v := Value.pointer (some ⟨d, 0, none⟩)) rfl (by kernel_rfl) (by kernel_rfl) (by kernel_rfl) (fun _ _ _ h => h) (Or.inl ⟨by kernel_rfl, fun w hSw => by go_simp⟩) (by assumption) ?_
  refine wpAnyH_take (i := 22) (v := Value.pointer (some ⟨d, 0, none⟩)) rfl (by kernel_rfl) (by kernel_rfl) (by kernel_rfl) (fun _ _ _ h => h) (Or.inl ⟨by kernel_rfl, fun w hSw => by go_simp⟩) (by assumption) ?_
  refine wpAnyH_take (i := 23) (v := Value.pointer (some ⟨d, 8, none⟩)) rfl (by kernel_rfl) (by kernel_rfl) (by kernel_rfl) (fun _ _ _ h => h) (Or.inl ⟨by kernel_rfl, fun w hSw => by go_simp⟩) (by assumption) ?_
  refine wpAnyH_take (i := 24) (v := Value.pointer (some ⟨d, 12, none⟩)) rfl (by kernel_rfl) (by kernel_rfl) (by kernel_rfl) (fun _ _ _ h => h) (Or.inl ⟨by kernel_rfl, fun w hSw => by go_simp⟩) (by assumption) ?_
  refine wpAnyH_take (i := 25) (v := Value.int .i64 s.v.lat) rfl (by kernel_rfl) (by kernel_rfl) (by kernel_rfl) (fun _ _ _ h => h) (Or.inl ⟨by kernel_rfl, fun w hSw => by go_simp⟩) (by assumption) ?_
  refine wpAnyH_take (i := 26) (v := Value.pointer (some ⟨d, 0, none⟩)) rfl (by kernel_rfl) (by kernel_rfl) (by kernel_rfl) (fun _ _ _ h => h) (Or.inl ⟨by kernel_rfl, fun w hSw => by go_simp⟩) (by assumption) ?_
  refine wpAnyH_take (i := 27) (v := Value.pointer (some ⟨d, 0, none⟩)) rfl (by kernel_rfl) (by kernel_rfl) (by kernel_rfl) (fun _ _ _ h => h) (Or.inl ⟨by kernel_rfl, fun w hSw => by go_simp⟩) (by assumption) ?_
  refine wpAnyH_take (i := 28) (v := Value.pointer (some ⟨d, 8, none⟩)) rfl (by kernel_rfl) (by kernel_rfl) (by kernel_rfl) (fun _ _ _ h => h) (Or.inl ⟨by kernel_rfl, fun w hSw => by go_simp⟩) (by assumption) ?_
  refine wpAnyH_take (i := 30) (v := Value.bool (von s.v)) rfl (by kernel_rfl) (by kernel_rfl) (by kernel_rfl) (fun _ _ _ h => h) (Or.inl ⟨by kernel_rfl, fun w hSw => by go_simp⟩) (by assumption) ?_
  refine wpAnyH_take (i := 31) (v := Value.slice va P.i vc) rfl (by kernel_rfl) (by kernel_rfl) (by kernel_rfl) (fun _ _ _ h => h) (Or.inl ⟨by kernel_rfl, fun w hSw => by go_simp⟩) (by assumption) ?_
  refine held_at (a' := { tmps := #[Value.pointer (some ⟨d, 0, none⟩), undef, Value.pointer (some ⟨w.heap.size, 0, none⟩), Value.slice va P.i vc, Value.bool (von s.v), Value.tuple #[Value.slice va P.i vc, Value.bool (von s.v)], Value.pointer (some ⟨d, 0, none⟩), Value.pointer (some ⟨d, 0, none⟩), Value.pointer (some ⟨d, 8, none⟩), Value.tuple #[Value.slice va P.i vc, Value.bool (von s.v)], Value.slice va P.i vc, Value.bool (von s.v), Value.pointer (some ⟨d, 0, none⟩), Value.pointer (some ⟨d, 0, none⟩), Value.pointer (some ⟨d, 15, none⟩), Value.int .i64 (s.st : Nat), Value.pointer (some ⟨d, 0, none⟩), Value.pointer (some ⟨d, 0, none⟩), Value.pointer (some ⟨d, 16, none⟩), Value.int .u32 (s.ss : Nat), Value.pointer (some ⟨d, 0, none⟩), Value.pointer (some ⟨d, 0, none⟩), Value.pointer (some ⟨d, 17, none⟩), Value.int .u32 (s.nm : Nat), Value.pointer (some ⟨d, 0, none⟩), Value.pointer (some ⟨d, 0, none⟩), Value.pointer (some ⟨d, 18, none⟩), Value.int .u32 (s.sn : Nat), Value.pointer (some ⟨d, 0, none⟩), Value.pointer (some ⟨d, 0, none⟩), Value.pointer (some ⟨d, 6, none⟩), Value.pointer (some ⟨d, 7, none⟩), Value.int .i64 (s.dc : Nat), Value.pointer (some ⟨d, 0, none⟩), Value.pointer (some ⟨d, 0, none⟩), Value.pointer (some ⟨d, 8, none⟩), Value.pointer (some ⟨d, 12, none⟩), Value.int .i64 s.v.lat, Value.pointer (some ⟨d, 0, none⟩), Value.pointer (some ⟨d, 0, none⟩), Value.pointer (some ⟨d, 8, none⟩), undef, Value.bool (von s.v), Value.slice va P.i vc, undef], defers := [] }) (l' := #[true, true, true, true, true, true, true, true, true, true, true, true, true, true, true, true, true, true, true, true, true, true, true, true, true, true, true, true, true, false, true, true, false, false]) (by kernel_rfl) (by kernel_rfl) ?_
  refine held_call (i := 29) 144 #[Value.pointer (some ⟨d, 8, none⟩)] (by kernel_rfl) rfl (by kernel_rfl) (by go_simp) ?_
  refine (q2).mono ?_
  rintro e w' ⟨rfl, hw⟩
  have hw := hw.symm
  subst hw
  refine ⟨_, rfl, HS, ?_⟩
  refine held_at (a' := { tmps := #[Value.pointer (some ⟨d, 0, none⟩), undef, Value.pointer (some ⟨w.heap.size, 0, none⟩), Value.slice va P.i vc, Value.bool (von s.v), Value.tuple #[Value.slice va P.i vc, Value.bool (von s.v)], Value.pointer (some ⟨d, 0, none⟩), Value.pointer (some ⟨d, 0, none⟩), Value.pointer (some ⟨d, 8, none⟩), Value.tuple #[Value.slice va P.i vc, Value.bool (von s.v)], Value.slice va P.i vc, Value.bool (von s.v), Value.pointer (some ⟨d, 0, none⟩), Value.pointer (some ⟨d, 0, none⟩), Value.pointer (some ⟨d, 15, none⟩), Value.int .i64 (s.st : Nat), Value.pointer (some ⟨d, 0, none⟩), Value.pointer (some ⟨d, 0, none⟩), Value.pointer (some ⟨d, 16, none⟩), Value.int .u32 (s.ss : Nat), Value.pointer (some ⟨d, 0, none⟩), Value.pointer (some ⟨d, 0, none⟩), Value.pointer (some ⟨d, 17, none⟩), Value.int .u32 (s.nm : Nat), Value.pointer (some ⟨d, 0, none⟩), Value.pointer (some ⟨d, 0, none⟩), Value.pointer (some ⟨d, 18, none⟩), Value.int .u32 (s.sn : Nat), Value.pointer (some ⟨d, 0, none⟩), Value.pointer (some ⟨d, 0, none⟩), Value.pointer (some ⟨d, 6, none⟩), Value.pointer (some ⟨d, 7, none⟩), Value.int .i64 (s.dc : Nat), Value.pointer (some ⟨d, 0, none⟩), Value.pointer (some ⟨d, 0, none⟩), Value.pointer (some ⟨d, 8, none⟩), Value.pointer (some ⟨d, 12, none⟩), Value.int .i64 s.v.lat, Value.pointer (some ⟨d, 0, none⟩), Value.pointer (some ⟨d, 0, none⟩), Value.pointer (some ⟨d, 8, none⟩), Value.bool (vreq s.v), Value.bool (von s.v), Value.slice va P.i vc, undef], defers := [] }) (l' := #[true, true, true, true, true, true, true, true, true, true, true, true, true, true, true, true, true, true, true, true, true, true, true, true, true, true, true, true, true, true, true, true, false, false]) (by kernel_rfl) (by kernel_rfl) ?_
  refine wpAnyH_take (i := 32) (v := Value.agg #[Value.int .i64 (s.st : Nat), Value.int .u32 (s.ss : Nat), Value.int .u32 (s.nm : Nat), Value.int .u32 (s.sn : Nat), Value.int .i64 (s.dc : Nat), Value.int .i64 s.v.lat, Value.bool (vreq s.v), Value.bool (von s.v), Value.slice va P.i vc]) rfl (by kernel_rfl) (by kernel_rfl) (by kernel_rfl) (fun _ _ _ h => h) (Or.inl ⟨by kernel_rfl, fun w hSw => by go_simp⟩) (by assumption) ?_
  refine held_at (a' := { tmps := #[Value.pointer (some ⟨d, 0, none⟩), undef, Value.pointer (some ⟨w.heap.size, 0, none⟩), Value.slice va P.i vc, Value.bool (von s.v), Value.tuple #[Value.slice va P.i vc, Value.bool (von s.v)], Value.pointer (some ⟨d, 0, none⟩), Value.pointer (some ⟨d, 0, none⟩), Value.pointer (some ⟨d, 8, none⟩), Value.tuple #[Value.slice va P.i vc, Value.bool (von s.v)], Value.slice va P.i vc, Value.bool (von s.v), Value.pointer (some ⟨d, 0, none⟩), Value.pointer (some ⟨d, 0, none⟩), Value.pointer (some ⟨d, 15, none⟩), Value.int .i64 (s.st : Nat), Value.pointer (some ⟨d, 0, none⟩), Value.pointer (some ⟨d, 0, none⟩), Value.pointer (some ⟨d, 16, none⟩), Value.int .u32 (s.ss : Nat), Value.pointer (some ⟨d, 0, none⟩), Value.pointer (some ⟨d, 0, none⟩), Value.pointer (some ⟨d, 17, none⟩), Value.int .u32 (s.nm : Nat), Value.pointer (some ⟨d, 0, none⟩), Value.pointer (some ⟨d, 0, none⟩), Value.pointer (some ⟨d, 18, none⟩), Value.int .u32 (s.sn : Nat), Value.pointer (some ⟨d, 0, none⟩), Value.pointer (some ⟨d, 0, none⟩), Value.pointer (some ⟨d, 6, none⟩), Value.pointer (some ⟨d, 7, none⟩), Value.int .i64 (s.dc : Nat), Value.pointer (some ⟨d, 0, none⟩), Value.pointer (some ⟨d, 0, none⟩), Value.pointer (some ⟨d, 8, none⟩), Value.pointer (some ⟨d, 12, none⟩), Value.int .i64 s.v.lat, Value.pointer (some ⟨d, 0, none⟩), Value.pointer (some ⟨d, 0, none⟩), Value.pointer (some ⟨d, 8, none⟩), Value.bool (vreq s.v), Value.bool (von s.v), Value.slice va P.i vc, Value.agg #[Value.int .i64 (s.st : Nat), Value.int .u32 (s.ss : Nat), Value.int .u32 (s.nm : Nat), Value.int .u32 (s.sn : Nat), Value.int .i64 (s.dc : Nat), Value.int .i64 s.v.lat, Value.bool (vreq s.v), Value.bool (von s.v), Value.slice va P.i vc]], defers := [] }) (l' := #[true, true, true, true, true, true, true, true, true, true, true, true, true, true, true, true, true, true, true, true, true, true, true, true, true, true, true, true, true, true, true, true, true, false]) (by kernel_rfl) (by kernel_rfl) ?_
  refine held_skip (i := 33) ((((((((((w2.drew.setCell ⟨w.heap.size, 0, none⟩ (Value.int .i64 (s.st : Nat))).setCell ⟨w.heap.size, 1, none⟩ (Value.int .u32 (s.ss : Nat))).setCell ⟨w.heap.size, 2, none⟩ (Value.int .u32 (s.nm : Nat))).setCell ⟨w.heap.size, 3, none⟩ (Value.int .u32 (s.sn : Nat))).setCell ⟨w.heap.size, 4, none⟩ (Value.int .i64 (s.dc : Nat))).setCell ⟨w.heap.size, 5, none⟩ (Value.int .i64 s.v.lat)).setCell ⟨w.heap.size, 6, none⟩ (Value.bool (vreq s.v))).setCell ⟨w.heap.size, 7, none⟩ (Value.bool (von s.v))).setCell ⟨w.heap.size, 8, none⟩ (Value.slice va P.i vc))) (by kernel_rfl) rfl (by kernel_rfl) (by go_simp) ⟨nine_cell HS.1 hne _ _ _ _ _ _ _ _ _, nine_cell HS.2.1 hne _ _ _ _ _ _ _ _ _, nine_cell HS.2.2.1 hne _ _ _ _ _ _ _ _ _, nine_cell HS.2.2.2.1 hne _ _ _ _ _ _ _ _ _, nine_cell HS.2.2.2.2.1 hne _ _ _ _ _ _ _ _ _, nine_cell HS.2.2.2.2.2 hne _ _ _ _ _ _ _ _ _⟩ ?_
  refine held_at (a' := { tmps := #[Value.pointer (some ⟨d, 0, none⟩), undef, Value.pointer (some ⟨w.heap.size, 0, none⟩), Value.slice va P.i vc, Value.bool (von s.v), Value.tuple #[Value.slice va P.i vc, Value.bool (von s.v)], Value.pointer (some ⟨d, 0, none⟩), Value.pointer (some ⟨d, 0, none⟩), Value.pointer (some ⟨d, 8, none⟩), Value.tuple #[Value.slice va P.i vc, Value.bool (von s.v)], Value.slice va P.i vc, Value.bool (von s.v), Value.pointer (some ⟨d, 0, none⟩), Value.pointer (some ⟨d, 0, none⟩), Value.pointer (some ⟨d, 15, none⟩), Value.int .i64 (s.st : Nat), Value.pointer (some ⟨d, 0, none⟩), Value.pointer (some ⟨d, 0, none⟩), Value.pointer (some ⟨d, 16, none⟩), Value.int .u32 (s.ss : Nat), Value.pointer (some ⟨d, 0, none⟩), Value.pointer (some ⟨d, 0, none⟩), Value.pointer (some ⟨d, 17, none⟩), Value.int .u32 (s.nm : Nat), Value.pointer (some ⟨d, 0, none⟩), Value.pointer (some ⟨d, 0, none⟩), Value.pointer (some ⟨d, 18, none⟩), Value.int .u32 (s.sn : Nat), Value.pointer (some ⟨d, 0, none⟩), Value.pointer (some ⟨d, 0, none⟩), Value.pointer (some ⟨d, 6, none⟩), Value.pointer (some ⟨d, 7, none⟩), Value.int .i64 (s.dc : Nat), Value.pointer (some ⟨d, 0, none⟩), Value.pointer (some ⟨d, 0, none⟩), Value.pointer (some ⟨d, 8, none⟩), Value.pointer (some ⟨d, 12, none⟩), Value.int .i64 s.v.lat, Value.pointer (some ⟨d, 0, none⟩), Value.pointer (some ⟨d, 0, none⟩), Value.pointer (some ⟨d, 8, none⟩), Value.bool (vreq s.v), Value.bool (von s.v), Value.slice va P.i vc, Value.agg #[Value.int .i64 (s.st : Nat), Value.int .u32 (s.ss : Nat), Value.int .u32 (s.nm : Nat), Value.int .u32 (s.sn : Nat), Value.int .i64 (s.dc : Nat), Value.int .i64 s.v.lat, Value.bool (vreq s.v), Value.bool (von s.v), Value.slice va P.i vc]], defers := [] }) (l' := #[true, true, true, true, true, true, true, true, true, true, true, true, true, true, true, true, true, true, true, true, true, true, true, true, true, true, true, true, true, true, true, true, true, true]) (by kernel_rfl) (by kernel_rfl) ?_
  refine wpAnyH_done (by kernel_rfl) ?_ _
  obtain ⟨b0, b2, hf, hr2, hs0, e2⟩ := H2.out
  have o9 := (Off.drew [w.heap.size] w2).trans (nine w.heap.size w2.drew (.int .i64 (s.st : Nat)) (.int .u32 (s.ss : Nat)) (.int .u32 (s.nm : Nat)) (.int .u32 (s.sn : Nat)) (.int .i64 (s.dc : Nat)) (.int .i64 s.v.lat) (.bool (vreq s.v)) (.bool (von s.v)) (.slice va P.i vc))
  have e9 := nineRow (.int .i64 (s.st : Nat)) (.int .u32 (s.ss : Nat)) (.int .u32 (s.nm : Nat)) (.int .u32 (s.sn : Nat)) (.int .i64 (s.dc : Nat)) (.int .i64 s.v.lat) (.bool (vreq s.v)) (.bool (von s.v)) (.slice va P.i vc) (show w2.drew.heap[w.heap.size]? = _ from e2)
  have hfa : ∀ x, va = some x → x.block ∉ [w.heap.size] := fun x hx hm => by
    have := (own_far hf x hx).1
    simp at hm; omega
  have H9 : Hid (_) := And.intro (own_base (own_offk hf o9 (fun k hk hm => by have := Fr.ge (f := (P.i, vout s.v)) hf k hk; simp at hm; omega)) b0.size) (And.intro (hr2.off o9 hfa) (o9.below (b0.trans (b2.mono b0.size)) (by simp) (by have := b0.size; have := b2.size; omega)))
  clear o9 b0 b2 hf hr2 hfa hs0 e2 H2 q2 HS k0 k1 k2 k3 k4 k5 k6 k7 k8 f0 f1 f2 f3 f4 f5 f6 f7 f8
  generalize (((((((((w2.drew.setCell ⟨w.heap.size, 0, none⟩ (Value.int .i64 (s.st : Nat))).setCell ⟨w.heap.size, 1, none⟩ (Value.int .u32 (s.ss : Nat))).setCell ⟨w.heap.size, 2, none⟩ (Value.int .u32 (s.nm : Nat))).setCell ⟨w.heap.size, 3, none⟩ (Value.int .u32 (s.sn : Nat))).setCell ⟨w.heap.size, 4, none⟩ (Value.int .i64 (s.dc : Nat))).setCell ⟨w.heap.size, 5, none⟩ (Value.int .i64 s.v.lat)).setCell ⟨w.heap.size, 6, none⟩ (Value.bool (vreq s.v))).setCell ⟨w.heap.size, 7, none⟩ (Value.bool (von s.v))).setCell ⟨w.heap.size, 8, none⟩ (Value.slice va P.i vc)) = w9 at *
  have r0 := cell_of_row w9 w.heap.size 0 _ _ _ e9
  have r1 := cell_of_row w9 w.heap.size 1 _ _ _ e9
  have r2 := cell_of_row w9 w.heap.size 2 _ _ _ e9
  have r3 := cell_of_row w9 w.heap.size 3 _ _ _ e9
  have r4 := cell_of_row w9 w.heap.size 4 _ _ _ e9
  have r5 := cell_of_row w9 w.heap.size 5 _ _ _ e9
  have r6 := cell_of_row w9 w.heap.size 6 _ _ _ e9
  have r7 := cell_of_row w9 w.heap.size 7 _ _ _ e9
  have r8 := cell_of_row w9 w.heap.size 8 _ _ _ e9
  clear e9
  go_wp2_with fail
  refine bodyPost_ret (v := .agg #[Value.int .i64 (s.st : Nat), Value.int .u32 (s.ss : Nat), Value.int .u32 (s.nm : Nat), Value.int .u32 (s.sn : Nat), Value.int .i64 (s.dc : Nat), Value.int .i64 s.v.lat, Value.bool (vreq s.v), Value.bool (von s.v), Value.slice va P.i vc]) (by simp [results, Tryz.results80, go_sem, r0, r1, r2, r3, r4, r5, r6, r7, r8]) rfl ⟨va, vc, rfl, H9.out⟩
end Go.Proofs.YtndjepeolamedaaGreat
namespace Go.Proofs.YtndjepeolamedaaGreat
set_option maxRecDepth 100000
open Go.RowKit
theorem hlife15 {w : World} {d : Nat} {P : Pm} {s : Sh} {B : Bk3} (h : w.heap[d]? = some (.cells (RHC P B.lv B.vv s B.av) 149 (0, 0))) :
    (((((((((((((((w.setCell ⟨d, 6, none⟩ (.int .i64 (P.t : Nat))).setCell ⟨d, 7, none⟩ (.int .i64 0)).setCell ⟨d, 8, none⟩ (.int .i64 (P.i : Nat))).setCell ⟨d, 9, none⟩ (.bool false)).setCell ⟨d, 10, none⟩ (.bool false)).setCell ⟨d, 11, none⟩ (.bool false)).setCell ⟨d, 12, none⟩ (.int .i64 0)).setCell ⟨d, 13, none⟩ (.slice none 0 0)).setCell ⟨d, 14, none⟩ (.bool false)).setCell ⟨d, 15, none⟩ (.int .i64 1)).setCell ⟨d, 16, none⟩ (.int .u32 0)).setCell ⟨d, 17, none⟩ (.int .u32 0)).setCell ⟨d, 18, none⟩ (.int .u32 0)).setCell ⟨d, 19, none⟩ (.bool false)).setCell ⟨d, 20, none⟩ (.int .i64 0)).heap[d]? = some (.cells (RHC P B.lv (.slice none 0 0) { s with dc := 0, st := 1, ss := 0, nm := 0, sn := 0, wt := false, ms := 0, v := { s.v with run := false, held := false, fr := false, lat := 0, sm := false } } B.av) 149 (0, 0)) ∧ Off [d] w (((((((((((((((w.setCell ⟨d, 6, none⟩ (.int .i64 (P.t : Nat))).setCell ⟨d, 7, none⟩ (.int .i64 0)).setCell ⟨d, 8, none⟩ (.int .i64 (P.i : Nat))).setCell ⟨d, 9, none⟩ (.bool false)).setCell ⟨d, 10, none⟩ (.bool false)).setCell ⟨d, 11, none⟩ (.bool false)).setCell ⟨d, 12, none⟩ (.int .i64 0)).setCell ⟨d, 13, none⟩ (.slice none 0 0)).setCell ⟨d, 14, none⟩ (.bool false)).setCell ⟨d, 15, none⟩ (.int .i64 1)).setCell ⟨d, 16, none⟩ (.int .u32 0)).setCell ⟨d, 17, none⟩ (.int .u32 0)).setCell ⟨d, 18, none⟩ (.int .u32 0)).setCell ⟨d, 19, none⟩ (.bool false)).setCell ⟨d, 20, none⟩ (.int .i64 0)) := by
  have e0 : (w.setCell ⟨d, 6, none⟩ (.int .i64 (P.t : Nat))).heap[d]? = some (.cells (RHC P B.lv B.vv s B.av) 149 (0, 0)) := heap_setCell_same _ _ _ _ _ _ h
  have e1 : ((w.setCell ⟨d, 6, none⟩ (.int .i64 (P.t : Nat))).setCell ⟨d, 7, none⟩ (.int .i64 0)).heap[d]? = some (.cells (RHC P B.lv B.vv { s with dc := 0 } B.av) 149 (0, 0)) := heap_setCell_same _ _ _ _ _ _ e0
  have e2 : (((w.setCell ⟨d, 6, none⟩ (.int .i64 (P.t : Nat))).setCell ⟨d, 7, none⟩ (.int .i64 0)).setCell ⟨d, 8, none⟩ (.int .i64 (P.i : Nat))).heap[d]? = some (.cells (RHC P B.lv B.vv { s with dc := 0 } B.av) 149 (0, 0)) := heap_setCell_same _ _ _ _ _ _ e1
  have e3 : ((((w.setCell ⟨d, 6, none⟩ (.int .i64 (P.t : Nat))).setCell ⟨d, 7, none⟩ (.int .i64 0)).setCell ⟨d, 8, none⟩ (.int .i64 (P.i : Nat))).setCell ⟨d, 9, none⟩ (.bool false)).heap[d]? = some (.cells (RHC P B.lv B.vv { s with dc := 0, v := { s.v with run := false } } B.av) 149 (0, 0)) := heap_setCell_same _ _ _ _ _ _ e2
  have e4 : (((((w.setCell ⟨d, 6, none⟩ (.int .i64 (P.t : Nat))).setCell ⟨d, 7, none⟩ (.int .i64 0)).setCell ⟨d, 8, none⟩ (.int .i64 (P.i : Nat))).setCell ⟨d, 9, none⟩ (.bool false)).setCell ⟨d, 10, none⟩ (.bool false)).heap[d]? = some (.cells (RHC P B.lv B.vv { s with dc := 0, v := { s.v with run := false, held := false } } B.av) 149 (0, 0)) := heap_setCell_same _ _ _ _ _ _ e3
  have e5 : ((((((w.setCell ⟨d, 6, none⟩ (.int .i64 (P.t : Nat))).setCell ⟨d, 7, none⟩ (.int .i64 0)).setCell ⟨d, 8, none⟩ (.int .i64 (P.i : Nat))).setCell ⟨d, 9, none⟩ (.bool false)).setCell ⟨d, 10, none⟩ (.bool false)).setCell ⟨d, 11, none⟩ (.bool false)).heap[d]? = some (.cells (RHC P B.lv B.vv { s with dc := 0, v := { s.v with run := false, held := false, fr := false } } B.av) 149 (0, 0)) := heap_setCell_same _ _ _ _ _ _ e4
  have e6 : (((((((w.setCell ⟨d, 6, none⟩ (.int .i64 (P.t : Nat))).setCell ⟨d, 7, none⟩ (.int .i64 0)).setCell ⟨d, 8, none⟩ (.int .i64 (P.i : Nat))).setCell ⟨d, 9, none⟩ (.bool false)).setCell ⟨d, 10, none⟩ (.bool false)).setCell ⟨d, 11, none⟩ (.bool false)).setCell ⟨d, 12, none⟩ (.int .i64 0)).heap[d]? = some (.cells (RHC P B.lv B.vv { s with dc := 0, v := { s.v with run := false, held := false, fr := false, lat := 0 } } B.av) 149 (0, 0)) := heap_setCell_same _ _ _ _ _ _ e5
  have e7 : ((((((((w.setCell ⟨d, 6, none⟩ (.int .i64 (P.t : Nat))).setCell ⟨d, 7, none⟩ (.int .i64 0)).setCell ⟨d, 8, none⟩ (.int .i64 (P.i : Nat))).setCell ⟨d, 9, none⟩ (.bool false)).setCell ⟨d, 10, none⟩ (.bool false)).setCell ⟨d, 11, none⟩ (.bool false)).setCell ⟨d, 12, none⟩ (.int .i64 0)).setCell ⟨d, 13, none⟩ (.slice none 0 0)).heap[d]? = some (.cells (RHC P B.lv (.slice none 0 0) { s with dc := 0, v := { s.v with run := false, held := false, fr := false, lat := 0 } } B.av) 149 (0, 0)) := heap_setCell_same _ _ _ _ _ _ e6
  have e8 : (((((((((w.setCell ⟨d, 6, none⟩ (.int .i64 (P.t : Nat))).setCell ⟨d, 7, none⟩ (.int .i64 0)).setCell ⟨d, 8, none⟩ (.int .i64 (P.i : Nat))).setCell ⟨d, 9, none⟩ (.bool false)).setCell ⟨d, 10, none⟩ (.bool false)).setCell ⟨d, 11, none⟩ (.bool false)).setCell ⟨d, 12, none⟩ (.int .i64 0)).setCell ⟨d, 13, none⟩ (.slice none 0 0)).setCell ⟨d, 14, none⟩ (.bool false)).heap[d]? = some (.cells (RHC P B.lv (.slice none 0 0) { s with dc := 0, v := { s.v with run := false, held := false, fr := false, lat := 0, sm := false } } B.av) 149 (0, 0)) := heap_setCell_same _ _ _ _ _ _ e7
  have e9 : ((((((((((w.setCell ⟨d, 6, none⟩ (.int .i64 (P.t : Nat))).setCell ⟨d, 7, none⟩ (.int .i64 0)).setCell ⟨d, 8, none⟩ (.int .i64 (P.i : Nat))).setCell ⟨d, 9, none⟩ (.bool false)).setCell ⟨d, 10, none⟩ (.bool false)).setCell ⟨d, 11, none⟩ (.bool false)).setCell ⟨d, 12, none⟩ (.int .i64 0)).setCell ⟨d, 13, none⟩ (.slice none 0 0)).setCell ⟨d, 14, none⟩ (.bool false)).setCell ⟨d, 15, none⟩ (.int .i64 1)).heap[d]? = some (.cells (RHC P B.lv (.slice none 0 0) { s with dc := 0, st := 1, v := { s.v with run := false, held := false, fr := false, lat := 0, sm := false } } B.av) 149 (0, 0)) := heap_setCell_same _ _ _ _ _ _ e8
  have e10 : (((((((((((w.setCell ⟨d, 6, none⟩ (.int .i64 (P.t : Nat))).setCell ⟨d, 7, none⟩ (.int .i64 0)).setCell ⟨d, 8, none⟩ (.int .i64 (P.i : Nat))).setCell ⟨d, 9, none⟩ (.bool false)).setCell ⟨d, 10, none⟩ (.bool false)).setCell ⟨d, 11, none⟩ (.bool false)).setCell ⟨d, 12, none⟩ (.int .i64 0)).setCell ⟨d, 13, none⟩ (.slice none 0 0)).setCell ⟨d, 14, none⟩ (.bool false)).setCell ⟨d, 15, none⟩ (.int .i64 1)).setCell ⟨d, 16, none⟩ (.int .u32 0)).heap[d]? = some (.cells (RHC P B.lv (.slice none 0 0) { s with dc := 0, st := 1, ss := 0, v := { s.v with run := false, held := false, fr := false, lat := 0, sm := false } } B.av) 149 (0, 0)) := heap_setCell_same _ _ _ _ _ _ e9
  have e11 : ((((((((((((w.setCell ⟨d, 6, none⟩ (.int .i64 (P.t : Nat))).setCell ⟨d, 7, none⟩ (.int .i64 0)).setCell ⟨d, 8, none⟩ (.int .i64 (P.i : Nat))).setCell ⟨d, 9, none⟩ (.bool false)).setCell ⟨d, 10, none⟩ (.bool false)).setCell ⟨d, 11, none⟩ (.bool false)).setCell ⟨d, 12, none⟩ (.int .i64 0)).setCell ⟨d, 13, none⟩ (.slice none 0 0)).setCell ⟨d, 14, none⟩ (.bool false)).setCell ⟨d, 15, none⟩ (.int .i64 1)).setCell ⟨d, 16, none⟩ (.int .u32 0)).setCell ⟨d, 17, none⟩ (.int .u32 0)).heap[d]? = some (.cells (RHC P B.lv (.slice none 0 0) { s with dc := 0, st := 1, ss := 0, nm := 0, v := { s.v with run := false, held := false, fr := false, lat := 0, sm := false } } B.av) 149 (0, 0)) := heap_setCell_same _ _ _ _ _ _ e10
  have e12 : (((((((((((((w.setCell ⟨d, 6, none⟩ (.int .i64 (P.t : Nat))).setCell ⟨d, 7, none⟩ (.int .i64 0)).setCell ⟨d, 8, none⟩ (.int .i64 (P.i : Nat))).setCell ⟨d, 9, none⟩ (.bool false)).setCell ⟨d, 10, none⟩ (.bool false)).setCell ⟨d, 11, none⟩ (.bool false)).setCell ⟨d, 12, none⟩ (.int .i64 0)).setCell ⟨d, 13, none⟩ (.slice none 0 0)).setCell ⟨d, 14, none⟩ (.bool false)).setCell ⟨d, 15, none⟩ (.int .i64 1)).setCell ⟨d, 16, none⟩ (.int .u32 0)).setCell ⟨d, 17, none⟩ (.int .u32 0)).setCell ⟨d, 18, none⟩ (.int .u32 0)).heap[d]? = some (.cells (RHC P B.lv (.slice none 0 0) { s with dc := 0, st := 1, ss := 0, nm := 0, sn := 0, v := { s.v with run := false, held := false, fr := false, lat := 0, sm := false } } B.av) 149 (0, 0)) := heap_setCell_same _ _ _ _ _ _ e11
  have e13 : ((((((((((((((w.setCell ⟨d, 6, none⟩ (.int .i64 (P.t : Nat))).setCell ⟨d, 7, none⟩ (.int .i64 0)).setCell ⟨d, 8, none⟩ (.int .i64 (P.i : Nat))).setCell ⟨d, 9, none⟩ (.bool false)).setCell ⟨d, 10, none⟩ (.bool false)).setCell ⟨d, 11, none⟩ (.bool false)).setCell ⟨d, 12, none⟩ (.int .i64 0)).setCell ⟨d, 13, none⟩ (.slice none 0 0)).setCell ⟨d, 14, none⟩ (.bool false)).setCell ⟨d, 15, none⟩ (.int .i64 1)).setCell ⟨d, 16, none⟩ (.int .u32 0)).setCell ⟨d, 17, none⟩ (.int .u32 0)).setCell ⟨d, 18, none⟩ (.int .u32 0)).setCell ⟨d, 19, none⟩ (.bool false)).heap[d]? = some (.cells (RHC P B.lv (.slice none 0 0) { s with dc := 0, st := 1, ss := 0, nm := 0, sn := 0, wt := false, v := { s.v with run := false, held := false, fr := false, lat := 0, sm := false } } B.av) 149 (0, 0)) := heap_setCell_same _ _ _ _ _ _ e12
  have e14 : (((((((((((((((w.setCell ⟨d, 6, none⟩ (.int .i64 (P.t : Nat))).setCell ⟨d, 7, none⟩ (.int .i64 0)).setCell ⟨d, 8, none⟩ (.int .i64 (P.i : Nat))).setCell ⟨d, 9, none⟩ (.bool false)).setCell ⟨d, 10, none⟩ (.bool false)).setCell ⟨d, 11, none⟩ (.bool false)).setCell ⟨d, 12, none⟩ (.int .i64 0)).setCell ⟨d, 13, none⟩ (.slice none 0 0)).setCell ⟨d, 14, none⟩ (.bool false)).setCell ⟨d, 15, none⟩ (.int .i64 1)).setCell ⟨d, 16, none⟩ (.int .u32 0)).setCell ⟨d, 17, none⟩ (.int .u32 0)).setCell ⟨d, 18, none⟩ (.int .u32 0)).setCell ⟨d, 19, none⟩ (.bool false)).setCell ⟨d, 20, none⟩ (.int .i64 0)).heap[d]? = some (.cells (RHC P B.lv (.slice none 0 0) { s with dc := 0, st := 1, ss := 0, nm := 0, sn := 0, wt := false, ms := 0, v := { s.v with run := false, held := false, fr := false, lat := 0, sm := false } } B.av) 149 (0, 0)) := heap_setCell_same _ _ _ _ _ _ e13
  exact ⟨e14, ((((((((((((((Off.setCell d 6 w (.int .i64 (P.t : Nat))).trans (Off.setCell d 7 _ (.int .i64 0))).trans (Off.setCell d 8 _ (.int .i64 (P.i : Nat)))).trans (Off.setCell d 9 _ (.bool false))).trans (Off.setCell d 10 _ (.bool false))).trans (Off.setCell d 11 _ (.bool false))).trans (Off.setCell d 12 _ (.int .i64 0))).trans (Off.setCell d 13 _ (.slice none 0 0))).trans (Off.setCell d 14 _ (.bool false))).trans (Off.setCell d 15 _ (.int .i64 1))).trans (Off.setCell d 16 _ (.int .u32 0))).trans (Off.setCell d 17 _ (.int .u32 0))).trans (Off.setCell d 18 _ (.int .u32 0))).trans (Off.setCell d 19 _ (.bool false))).trans (Off.setCell d 20 _ (.int .i64 0))⟩
theorem RH.lived {w w1 w2 w3 : World} {d : Nat} {P : Pm} {U : List Nat} {s : Sh} {B : Bk3} (h : RH w d P U s B) {ga : Nat} (q1 : Off [d] w w1) (b2 : Below w1.heap.size w1 w2) (ho : w2.ownsRow w1.heap.size 5 1 (.slice (some ⟨ga, 0, none⟩) P.o P.o) P.o (CB (fun _ => 0) P.o)) (q3 : Off [d] w2 w3)
    (e : w3.heap[d]? = some (.cells (RHC P B.lv (.slice none 0 0) (hlife s) (.slice (some ⟨ga, 0, none⟩) P.o P.o)) 149 (0, 0))) :
    ∃ U' B', Gr U w U' w3 ∧ RH w3 d P U' (hlife s) B' := by
  have s1 := q1.size
  have s2 := b2.size
  have s3 := q3.size
  have hga := own_far ho ⟨ga, 0, none⟩ rfl
  have hgl : ga < w3.heap.size := Nat.lt_of_lt_of_le hga.2 s3
  have hge : w.heap.size ≤ ga := Nat.le_trans s1 hga.1
  have hd := h.dlt
  have Q : Off [d] w w3 := (q1.trans (Off.of_below b2)).trans q3
  have hn : ∀ k, B.col k ≠ 0 → k ∉ [d] := fun k hk hm => by simp at hm; rw [hm, h.kd.1] at hk; exact hk rfl
  have hq : ∀ k x, B.col k = x ∧ k ∈ U → (if k < w.heap.size then B.col k else 6) = x ∧ k ∈ ga :: U := fun k x hk => ⟨by rw [if_pos (h.ltU k hk.2)]; exact hk.1, by simp [hk.2]⟩
  refine ⟨ga :: U, { B with vv := .slice none 0 0, av := .slice (some ⟨ga, 0, none⟩) P.o P.o, col := fun k => if k < w.heap.size then B.col k else 6 }, ⟨Q.more (by simp [h.kd.2]), fun k hk => ?_⟩, ?_⟩
  · simp at hk
    rcases hk with rfl | hk
    · exact .inr hge
    · exact .inl hk
  · refine ⟨e, .inl ⟨rfl, rfl⟩, own_offk h.log Q (fun k hk => hn _ (by rw [(h.kl k hk).1]; omega)), ?_, fun _ _ => by show 0 < 256; omega, Vok.new, Nat.zero_le _, ?_, hq _ _ h.kd, fun k hk => hq _ _ (h.kM k hk), fun k hk => hq _ _ (h.kl k hk), ?_, h.pok, h.nl⟩
    · refine own_offk (own_base ho (Nat.zero_le _)) q3 (fun k hk => ?_)
      cases hk
      simp; omega
    · intro k hk
      simp at hk
      rcases hk with rfl | hk
      · exact hgl
      · exact Nat.lt_of_lt_of_le (h.ltU k hk) Q.size
    · intro k hk
      cases hk
      exact ⟨by show (if ga < w.heap.size then _ else 6) = 6; rw [if_neg (by omega)], by simp⟩
set_option maxHeartbeats 3200000 in
theorem hrreset_any (d : Nat) (P : Pm) (U : List Nat) (s : Sh) (B : Bk3) (w : World) (h : RH w d P U s B) :
    Calls Tryz.prog 79 #[.pointer (some ⟨d, 0, none⟩)] w fun e w' => e = .returned (.tuple #[]) ∧ Hid (∃ U' B', Gr U w U' w' ∧ RH w' d P U' (hlife s) B') := by
  obtain ⟨i0, hi, hz0, hz1, hz2⟩ := info_parts info_u8
  have c1 : w.cell? ⟨d, 1, none⟩ = some (.int .i64 (P.o : Nat)) := cell_of_row w d 1 _ _ _ h.dev
  have c2 : w.cell? ⟨d, 2, none⟩ = some (.int .i64 (P.i : Nat)) := cell_of_row w d 2 _ _ _ h.dev
  have c3 : w.cell? ⟨d, 3, none⟩ = some (.int .i64 (P.t : Nat)) := cell_of_row w d 3 _ _ _ h.dev
  have c6 : w.cell? ⟨d, 6, none⟩ = some (.int .i64 (P.t : Nat)) := cell_of_row w d 6 _ _ _ h.dev
  have z6 := h.fz 6
  have c7 : w.cell? ⟨d, 7, none⟩ = some (.int .i64 (s.dc : Nat)) := cell_of_row w d 7 _ _ _ h.dev
  have z7 := h.fz 7
  have c8 : w.cell? ⟨d, 8, none⟩ = some (.int .i64 (P.i : Nat)) := cell_of_row w d 8 _ _ _ h.dev
  have z8 := h.fz 8
  have c9 : w.cell? ⟨d, 9, none⟩ = some (.bool s.v.run) := cell_of_row w d 9 _ _ _ h.dev
  have z9 := h.fz 9
  have c10 : w.cell? ⟨d, 10, none⟩ = some (.bool s.v.held) := cell_of_row w d 10 _ _ _ h.dev
  have z10 := h.fz 10
  have c11 : w.cell? ⟨d, 11, none⟩ = some (.bool s.v.fr) := cell_of_row w d 11 _ _ _ h.dev
  have z11 := h.fz 11
  have c12 : w.cell? ⟨d, 12, none⟩ = some (.int .i64 s.v.lat) := cell_of_row w d 12 _ _ _ h.dev
  have z12 := h.fz 12
  have c13 : w.cell? ⟨d, 13, none⟩ = some (B.vv) := cell_of_row w d 13 _ _ _ h.dev
  have z13 := h.fz 13
  have c14 : w.cell? ⟨d, 14, none⟩ = some (.bool s.v.sm) := cell_of_row w d 14 _ _ _ h.dev
  have z14 := h.fz 14
  have c15 : w.cell? ⟨d, 15, none⟩ = some (.int .i64 (s.st : Nat)) := cell_of_row w d 15 _ _ _ h.dev
  have z15 := h.fz 15
  have c16 : w.cell? ⟨d, 16, none⟩ = some (.int .u32 (s.ss : Nat)) := cell_of_row w d 16 _ _ _ h.dev
  have z16 := h.fz 16
  have c17 : w.cell? ⟨d, 17, none⟩ = some (.int .u32 (s.nm : Nat)) := cell_of_row w d 17 _ _ _ h.dev
  have z17 := h.fz 17
  have c18 : w.cell? ⟨d, 18, none⟩ = some (.int .u32 (s.sn : Nat)) := cell_of_row w d 18 _ _ _ h.dev
  have z18 := h.fz 18
  have c19 : w.cell? ⟨d, 19, none⟩ = some (.bool s.wt) := cell_of_row w d 19 _ _ _ h.dev
  have z19 := h.fz 19
  have c20 : w.cell? ⟨d, 20, none⟩ = some (.int .i64 (s.ms : Nat)) := cell_of_row w d 20 _ _ _ h.dev
  have z20 := h.fz 20
  have hi8 := h.pok.o8
  have l14 := hlife15 h.dev
  have H : Hid (_) := And.intro h l14
  clear h l14
  go_enter Tryz.func79, Tryz.ntmps79
  go_upto_region 8 with fail
  generalize (((((((((((((((w.setCell ⟨d, 6, none⟩ (.int .i64 (P.t : Nat))).setCell ⟨d, 7, none⟩ (.int .i64 0)).setCell ⟨d, 8, none⟩ (.int .i64 (P.i : Nat))).setCell ⟨d, 9, none⟩ (.bool false)).setCell ⟨d, 10, none⟩ (.bool false)).setCell ⟨d, 11, none⟩ (.bool false)).setCell ⟨d, 12, none⟩ (.int .i64 0)).setCell ⟨d, 13, none⟩ (.slice none 0 0)).setCell ⟨d, 14, none⟩ (.bool false)).setCell ⟨d, 15, none⟩ (.int .i64 1)).setCell ⟨d, 16, none⟩ (.int .u32 0)).setCell ⟨d, 17, none⟩ (.int .u32 0)).setCell ⟨d, 18, none⟩ (.int .u32 0)).setCell ⟨d, 19, none⟩ (.bool false)).setCell ⟨d, 20, none⟩ (.int .i64 0)) = w1 at *
  have e1 := H.out.2.1
  have hd1 : d < w1.heap.size := Nat.lt_of_lt_of_le H.out.1.dlt H.out.2.2.size
  have d1 : w1.cell? ⟨d, 1, none⟩ = some (.int .i64 (P.o : Nat)) := cell_of_row w1 d 1 _ _ _ e1
  have H1 : Hid (_) := And.intro e1 hd1
  clear e1 hd1 c1 c2 c3 c6 z6 c7 z7 c8 z8 c9 z9 c10 z10 c11 z11 c12 z12 c13 z13 c14 z14 c15 z15 c16 z16 c17 z17 c18 z18 c19 z19 c20 z20
  go_wp2_with (at_make; refine wpList_make8 _ rfl (.tmp 43) (.tmp 43) 22 rfl w1.heap.size 5 i0 Tryz.underlying22 hi hz0 hz1 hz2 _ _ _ _ P.o P.o rfl rfl rfl rfl (Nat.le_refl _) (by omega) (Nat.le_refl _) ?_)
  intro w2 hown2 hbel2
  have e2 := (hbel2.block d H1.out.2).trans H1.out.1
  have c21 : w2.cell? ⟨d, 21, none⟩ = some B.av := cell_of_row w2 d 21 _ _ _ e2
  have c22 : w2.cell? ⟨d, 22, none⟩ = some (.bool s.hd) := cell_of_row w2 d 22 _ _ _ e2
  have z21 := frozen_of_row w2 d 21 _ _ e2
  have z22 := frozen_of_row w2 d 22 _ _ e2
  have H2 : Hid (_) := And.intro hown2 (And.intro hbel2 e2)
  clear hown2 hbel2 e2 d1 H1
  go_wp2_with fail
  go_end0
  obtain ⟨hown2, hbel2, e2⟩ := H2.out
  have e3 : (w2.setCell ⟨d, 21, none⟩ (.slice (some ⟨w1.heap.size, 0, none⟩) P.o P.o)).heap[d]? = some (.cells (RHC P B.lv (.slice none 0 0) { s with dc := 0, st := 1, ss := 0, nm := 0, sn := 0, wt := false, ms := 0, v := { s.v with run := false, held := false, fr := false, lat := 0, sm := false } } (.slice (some ⟨w1.heap.size, 0, none⟩) P.o P.o)) 149 (0, 0)) := heap_setCell_same _ _ _ _ _ _ e2
  have e4 : ((w2.setCell ⟨d, 21, none⟩ (.slice (some ⟨w1.heap.size, 0, none⟩) P.o P.o)).setCell ⟨d, 22, none⟩ (.bool false)).heap[d]? = some (.cells (RHC P B.lv (.slice none 0 0) (hlife s) (.slice (some ⟨w1.heap.size, 0, none⟩) P.o P.o)) 149 (0, 0)) := heap_setCell_same _ _ _ _ _ _ e3
  obtain ⟨U', B', g', x'⟩ := H.out.1.lived H.out.2.2 hbel2 hown2 ((Off.setCell d 21 w2 _).trans (Off.setCell d 22 _ (.bool false))) e4
  exact ⟨rfl, U', B', g', x'⟩
end Go.Proofs.YtndjepeolamedaaGreat
namespace Go.Proofs.YtndjepeolamedaaGreat
set_option maxRecDepth 100000
open Go.RowKit
end Go.Proofs.YtndjepeolamedaaGreat
