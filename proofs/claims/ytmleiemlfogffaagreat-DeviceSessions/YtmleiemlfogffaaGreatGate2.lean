/- Trip. -/
import Derived.Test.YtmleiemlfogffaaGreatGate
namespace Go.Proofs.YtmleiemlfogffaaGreat
set_option maxRecDepth 100000
open Go.RowKit

/-- What the Once calls. -/
theorem tcl_any (b pc pg pf : Nat) (k d m c t x : Int) (y : Value) (w : World) (h : GR w b k d m c t) (vc : Vr w pc (.int .i64 x) 29) (vg : Vr w pg (.pointer (some ⟨b, 0, none⟩)) 158) (vf : Vr w pf y 4) (hbf : b ≠ pf) :
    Calls Tryz.prog 180 #[.pointer (some ⟨pc, 0, none⟩), .pointer (some ⟨pg, 0, none⟩), .pointer (some ⟨pf, 0, none⟩)] w fun e w' => e = .returned (.tuple #[]) ∧
      (Off [b, pf] w w' ∧ GR w' b k d m x t ∧ Vr w' pf (.bool true) 4) := by
  have h1 := vc.c
  have h2 := vg.c
  have h3 := vf.c
  have h5 := h.c5
  have z5 := h.fz 5
  have z3 := vf.fz
  have h3' : (w.setCell ⟨b, 5, none⟩ (.int .i64 x)).cell? ⟨pf, 0, none⟩ = some y := (World.cell?_setCell_other _ _ _ _ (by simp)).trans h3
  go_enter Tryz.func180, Tryz.ntmps180
  go_wp2_with fail
  go_end0
  have o1 : Off [b, pf] w (w.setCell ⟨b, 5, none⟩ (.int .i64 x)) := (Off.setCell b 5 w _).more (by simp)
  have o2 : Off [pf] (w.setCell ⟨b, 5, none⟩ (.int .i64 x)) ((w.setCell ⟨b, 5, none⟩ (.int .i64 x)).setCell ⟨pf, 0, none⟩ (.bool true)) := Off.setCell pf 0 _ _
  exact ⟨rfl, o1.trans (o2.more (by simp)), (h.s5 x).off o2 (by simpa using hbf), (vf.off (Off.setCell b 5 w _) (by simp; omega)).set _⟩
set_option maxRecDepth 100000 in
set_option maxHeartbeats 2000000 in
/-- Trip of a lifted gate. -/
theorem trip_first (b : Nat) (x t : Int) (hx : ¬ x = 0) (w : World) (h : GR w b 0 0 0 0 t) :
    Calls Tryz.prog 145 #[.pointer (some ⟨b, 0, none⟩), .int .i64 x] w fun e w' => e = .returned (.bool true) ∧ (Off [b] w w' ∧ GR w' b 0 1 0 x (wrap64 (t + 1))) := by
  have hmf : ∀ (fn : Fn) (first cap : Array Value) (w : World), (Instr.makeFunc fn first cap).run Tryz.prog w = .ok (.func fn first cap) w := fun _ _ _ _ => rfl
  go_enter_defers Tryz.func145, Tryz.ntmps145
  go_wp2_with fail
  have o1 : Off [] w ((w.alloc (.cells #[.pointer (some ⟨b, 0, none⟩)] 158)).alloc (.cells #[.int .i64 x] 29)) := (Off.alloc _ _ _).trans (Off.alloc _ _ _)
  have vg1 := (Vr.new w (.pointer (some ⟨b, 0, none⟩)) 158).off (Off.alloc [] _ (.cells #[.int .i64 x] 29)) (by simp)
  have vc1 := Vr.new (w.alloc (.cells #[.pointer (some ⟨b, 0, none⟩)] 158)) (.int .i64 x) 29
  rw [World.size_alloc] at vc1
  have g1 := h.off o1 (by simp)
  have lb := h.lt
  generalize (w.alloc (.cells #[.pointer (some ⟨b, 0, none⟩)] 158)).alloc (.cells #[.int .i64 x] 29) = w1 at *
  refine (lock_free ⟨b, 0, none⟩ _ g1.c0 (g1.fz 0)).mono ?_
  rintro e w2 ⟨rfl, hw⟩
  have g2 : GR w2 b 1 0 0 0 t := hw ▸ g1.s0 1
  have o2 : Off [b] w1 w2 := hw ▸ Off.setCell b 0 w1 _
  clear hw
  have vg2 := vg1.off o2 (by simp; omega)
  have vc2 := vc1.off o2 (by simp; omega)
  have o2' : Off [b] w w2 := (o1.more (by simp)).trans o2
  clear g1 vg1 vc1 o1 o2
  have cg := vg2.c
  have c6 := g2.c6
  have z6 := g2.fz 6
  have lg := vg2.lt
  have lc := vc2.lt
  have l2 := g2.lt
  go_wp2_with fail
  have s2 : w.heap.size ≤ w2.heap.size := o2'.size
  have o3 : Off [b] w2 ((w2.setCell ⟨b, 6, none⟩ (.int .i64 (wrap64 (t + 1)))).alloc (.cells #[.bool false] 4)) := (Off.setCell b 6 w2 _).trans (Off.alloc _ _ _)
  have vf3 := Vr.new (w2.setCell ⟨b, 6, none⟩ (.int .i64 (wrap64 (t + 1)))) (.bool false) 4
  have g3 := (g2.s6 (wrap64 (t + 1))).off (Off.alloc [] _ (.cells #[.bool false] 4)) (by simp)
  rw [show (w2.setCell ⟨b, 6, none⟩ (.int .i64 (wrap64 (t + 1)))).heap.size = w2.heap.size by simp [World.setCell]] at vf3
  generalize (w2.setCell ⟨b, 6, none⟩ (.int .i64 (wrap64 (t + 1)))).alloc (.cells #[.bool false] 4) = w3 at *
  have vg3 := vg2.off o3 (by simp; omega)
  have vc3 := vc2.off o3 (by simp; omega)
  have o3' := o2'.trans o3
  clear vg2 vc2 g2 o2' o3 c6 z6 cg
  have o4 := Off.setCell b 3 w3 (.int .i32 1)
  have hf := tcl_any b (w.heap.size + 1) w.heap.size w2.heap.size 1 0 1 0 (wrap64 (t + 1)) x (.bool false) (w3.setCell ⟨b, 3, none⟩ (.int .i32 1)) (g3.s3 1) (vc3.off o4 (by simp; omega)) (vg3.off o4 (by simp; omega)) (vf3.off o4 (by simp; omega)) (by omega)
  refine (do_cl 180 b 2 _ w3 _ (fun _ => by kernel_rfl) g3.c2 g3.c3 (g3.fz 3) hf ?_).mono ?_
  · rintro w5 ⟨_, g5, _⟩
    exact ⟨g5.c2, g5.c3, g5.fz 2, g5.fz 3⟩
  rintro e w6 ⟨rfl, w5, ⟨o5, g5, v5⟩, hw⟩
  have g6 : GR w6 b 1 1 0 x (wrap64 (t + 1)) := hw ▸ (g5.drew.s2 1).s3 0
  have o6 : Off [b] w5 w6 := hw ▸ ((Off.drew _ _).trans (Off.setCell b 2 _ _)).trans (Off.setCell b 3 _ _)
  have v6 := v5.off o6 (by simp; omega)
  have m1 : ∀ k, k ∈ [b] → k ∈ [b, w2.heap.size] := by simp
  have o7 : Off [b] w w6 := ((((o3'.more m1).trans (o4.more m1)).trans o5).trans (o6.more m1)).only (by simp; omega)
  clear hf g5 v5 o5 o4 o3' hw vf3 vg3 vc3 g3
  have cf := v6.c
  go_wp2_with fail
  refine leaves_cons (f := 128) (args := #[.pointer (some ⟨b, 0, none⟩)]) (by simp) (by simp [go_sem]) ?_
  refine (unlock_deferred ⟨b, 0, none⟩ .returning _ g6.c0 (g6.fz 0)).mono ?_
  rintro e u' w'' ⟨rfl, rfl, hw⟩
  have g8 : GR w'' b 0 1 0 x (wrap64 (t + 1)) := hw ▸ g6.s0 0
  have o8 : Off [b] w6 w'' := hw ▸ Off.setCell b 0 _ _
  exact ⟨_, results_tmp rfl _ _ _, rfl, o7.trans o8, g8⟩
set_option maxRecDepth 100000 in
set_option maxHeartbeats 2000000 in
/-- Trip of one that fell. -/
theorem trip_again (b : Nat) (x c t : Int) (hx : ¬ x = 0) (w : World) (h : GR w b 0 1 0 c t) :
    Calls Tryz.prog 145 #[.pointer (some ⟨b, 0, none⟩), .int .i64 x] w fun e w' => e = .returned (.bool false) ∧ (Off [b] w w' ∧ GR w' b 0 1 0 c (wrap64 (t + 1))) := by
  have hmf : ∀ (fn : Fn) (first cap : Array Value) (w : World), (Instr.makeFunc fn first cap).run Tryz.prog w = .ok (.func fn first cap) w := fun _ _ _ _ => rfl
  go_enter_defers Tryz.func145, Tryz.ntmps145
  go_wp2_with fail
  have o1 : Off [] w ((w.alloc (.cells #[.pointer (some ⟨b, 0, none⟩)] 158)).alloc (.cells #[.int .i64 x] 29)) := (Off.alloc _ _ _).trans (Off.alloc _ _ _)
  have vg1 := (Vr.new w (.pointer (some ⟨b, 0, none⟩)) 158).off (Off.alloc [] _ (.cells #[.int .i64 x] 29)) (by simp)
  have vc1 := Vr.new (w.alloc (.cells #[.pointer (some ⟨b, 0, none⟩)] 158)) (.int .i64 x) 29
  rw [World.size_alloc] at vc1
  have g1 := h.off o1 (by simp)
  have lb := h.lt
  generalize (w.alloc (.cells #[.pointer (some ⟨b, 0, none⟩)] 158)).alloc (.cells #[.int .i64 x] 29) = w1 at *
  refine (lock_free ⟨b, 0, none⟩ _ g1.c0 (g1.fz 0)).mono ?_
  rintro e w2 ⟨rfl, hw⟩
  have g2 : GR w2 b 1 1 0 c t := hw ▸ g1.s0 1
  have o2 : Off [b] w1 w2 := hw ▸ Off.setCell b 0 w1 _
  clear hw
  have vg2 := vg1.off o2 (by simp; omega)
  have vc2 := vc1.off o2 (by simp; omega)
  have o2' : Off [b] w w2 := (o1.more (by simp)).trans o2
  clear g1 vg1 vc1 o1 o2
  have cg := vg2.c
  have c6 := g2.c6
  have z6 := g2.fz 6
  have lg := vg2.lt
  have lc := vc2.lt
  have l2 := g2.lt
  go_wp2_with fail
  have s2 : w.heap.size ≤ w2.heap.size := o2'.size
  have o3 : Off [b] w2 ((w2.setCell ⟨b, 6, none⟩ (.int .i64 (wrap64 (t + 1)))).alloc (.cells #[.bool false] 4)) := (Off.setCell b 6 w2 _).trans (Off.alloc _ _ _)
  have vf3 := Vr.new (w2.setCell ⟨b, 6, none⟩ (.int .i64 (wrap64 (t + 1)))) (.bool false) 4
  have g3 := (g2.s6 (wrap64 (t + 1))).off (Off.alloc [] _ (.cells #[.bool false] 4)) (by simp)
  rw [show (w2.setCell ⟨b, 6, none⟩ (.int .i64 (wrap64 (t + 1)))).heap.size = w2.heap.size by simp [World.setCell]] at vf3
  generalize (w2.setCell ⟨b, 6, none⟩ (.int .i64 (wrap64 (t + 1)))).alloc (.cells #[.bool false] 4) = w3 at *
  have vg3 := vg2.off o3 (by simp; omega)
  have vc3 := vc2.off o3 (by simp; omega)
  have o3' := o2'.trans o3
  clear vg2 vc2 g2 o2' o3 c6 z6 cg
  refine (do_done ⟨b, 2, none⟩ _ w3 g3.c2).mono ?_
  rintro e w6 ⟨rfl, hw⟩
  have g6 : GR w6 b 1 1 0 c (wrap64 (t + 1)) := hw ▸ g3
  have v6 : Vr w6 w2.heap.size (.bool false) 4 := hw ▸ vf3
  have o7 : Off [b] w w6 := hw ▸ o3'
  clear o3' hw vf3 vg3 vc3 g3
  have cf := v6.c
  go_wp2_with fail
  refine leaves_cons (f := 128) (args := #[.pointer (some ⟨b, 0, none⟩)]) (by simp) (by simp [go_sem]) ?_
  refine (unlock_deferred ⟨b, 0, none⟩ .returning _ g6.c0 (g6.fz 0)).mono ?_
  rintro e u' w'' ⟨rfl, rfl, hw⟩
  have g8 : GR w'' b 0 1 0 c (wrap64 (t + 1)) := hw ▸ g6.s0 0
  have o8 : Off [b] w6 w'' := hw ▸ Off.setCell b 0 _ _
  exact ⟨_, results_tmp rfl _ _ _, rfl, o7.trans o8, g8⟩
/-- Trip of OK; of a nil gate. -/
theorem trip_ok (b : Nat) (k d m c t : Int) (w : World) (h : GR w b k d m c t) :
    Calls Tryz.prog 145 #[.pointer (some ⟨b, 0, none⟩), .int .i64 0] w fun e w' => e = .returned (.bool false) ∧ (Off [b] w w' ∧ GR w' b k d m c t) := by
  go_enter_defers Tryz.func145, Tryz.ntmps145
  go_wp2_with fail
  have o1 : Off [b] w ((w.alloc (.cells #[.pointer (some ⟨b, 0, none⟩)] 158)).alloc (.cells #[.int .i64 0] 29)) := (Off.alloc _ _ _).trans (Off.alloc _ _ _)
  have o0 : Off [] w ((w.alloc (.cells #[.pointer (some ⟨b, 0, none⟩)] 158)).alloc (.cells #[.int .i64 0] 29)) := (Off.alloc _ _ _).trans (Off.alloc _ _ _)
  exact ⟨_, results_tmp rfl _ _ _, rfl, o1, h.off o0 (by simp)⟩
theorem trip_nil (x : Int) (w : World) :
    Calls Tryz.prog 145 #[.pointer none, .int .i64 x] w fun e w' => e = .returned (.bool false) ∧ Off [] w w' := by
  go_enter_defers Tryz.func145, Tryz.ntmps145
  go_wp2_with fail
  exact ⟨_, results_tmp rfl _ _ _, rfl, (Off.alloc _ _ _).trans (Off.alloc _ _ _)⟩

end Go.Proofs.YtmleiemlfogffaaGreat
