/- A function that panics within sync.Once; Get of such a one. -/
import Derived.Test.YtodopnconlgghaaGate3
import Derived.WalkLawsBesides
import Derived.RegionDies
namespace Go.Proofs.Ytodopnconlgghaa
open Go.RowKit

/-- One panic that nobody has recovered. -/
abbrev PE (v : Value) : List PanicEntry := [{ v := v, recovered := false }]
set_option maxRecDepth 100000 in
set_option maxHeartbeats 1600000 in
theorem slow_dies (F : FuncId) (b o : Nat) (cap : Array Value) (pv : Value) (w : World) (Post : World → Prop) (hcf : ∀ w, (callFunc F cap).run Try.prog w = .ok (.enter F cap) w)
    (h0 : w.cell? ⟨b, o, none⟩ = some (.int .u32 0)) (h1 : w.cell? ⟨b, o + 1, none⟩ = some (.int .i32 0)) (f1 : w.frozen? ⟨b, o + 1, none⟩ = false)
    (hf : Calls Try.prog F cap (w.setCell ⟨b, o + 1, none⟩ (.int .i32 1)) fun e w2 => e = .panicked (PE pv) ∧ Post w2)
    (hP : ∀ w2, Post w2 → w2.cell? ⟨b, o, none⟩ = some (.int .u32 0) ∧ w2.cell? ⟨b, o + 1, none⟩ = some (.int .i32 1) ∧ w2.frozen? ⟨b, o, none⟩ = false ∧ w2.frozen? ⟨b, o + 1, none⟩ = false) :
    Calls Try.prog 37 #[.pointer (some ⟨b, o, none⟩), .func (.func F) #[] cap] w fun e w' => e = .panicked (PE pv) ∧
      ∃ w2, Post w2 ∧ w' = (w2.drew.setCell ⟨b, o, none⟩ (.int .u32 1)).setCell ⟨b, o + 1, none⟩ (.int .i32 0) := by
  have h01 : (w.setCell ⟨b, o + 1, none⟩ (.int .i32 1)).cell? ⟨b, o, none⟩ = some (.int .u32 0) := (World.cell?_setCell_other _ ⟨b, o + 1, none⟩ ⟨b, o, none⟩ _ (by simp)).trans h0
  have hld := bload ⟨b, o, none⟩ 0 _ h01
  go_enter_defers Try.func37, Try.ntmps37
  go_wp2_with (first | (go_at_call 26; refine (lock_free ⟨b, o + 1, none⟩ _ h1 f1).mono ?_; rintro e w' ⟨rfl, rfl⟩) | (go_at_call 30; refine hld.mono ?_; rintro e w' ⟨rfl, rfl⟩))
  refine hf.mono ?_
  rintro e w2 ⟨rfl, hpost⟩
  obtain ⟨c0, c1, z0, z1⟩ := hP w2 hpost
  clear hf hP hld hcf
  refine leaves_cons (f := 32) (args := #[.pointer (some ⟨b, o, none⟩), .bool true]) (by simp) (by simp [go_sem]) ?_
  refine (store_deferred ⟨b, o, none⟩ (.int .u32 0) _ _ c0 z0).mono ?_
  rintro e u' w'' ⟨rfl, rfl, rfl⟩
  refine leaves_cons (f := 27) (args := #[.pointer (some ⟨b, o + 1, none⟩)]) (by simp [settle]) (by simp [go_sem]) ?_
  refine (unlock_deferred ⟨b, o + 1, none⟩ _ _ ?_ (by simp [z1])).mono ?_
  · refine (World.cell?_setCell_other _ ⟨b, o, none⟩ ⟨b, o + 1, none⟩ _ (by simp)).trans ?_
    rw [World.cell?_drew]; exact c1
  rintro e u' w'' ⟨rfl, rfl, rfl⟩
  simp [Leaves, settle]
  exact ⟨w2, hpost, rfl⟩
set_option maxRecDepth 100000 in
set_option maxHeartbeats 1600000 in
theorem do_dies (F : FuncId) (b o : Nat) (cap : Array Value) (pv : Value) (w : World) (Post : World → Prop) (hcf : ∀ w, (callFunc F cap).run Try.prog w = .ok (.enter F cap) w)
    (h0 : w.cell? ⟨b, o, none⟩ = some (.int .u32 0)) (h1 : w.cell? ⟨b, o + 1, none⟩ = some (.int .i32 0)) (f1 : w.frozen? ⟨b, o + 1, none⟩ = false)
    (hf : Calls Try.prog F cap (w.setCell ⟨b, o + 1, none⟩ (.int .i32 1)) fun e w2 => e = .panicked (PE pv) ∧ Post w2)
    (hP : ∀ w2, Post w2 → w2.cell? ⟨b, o, none⟩ = some (.int .u32 0) ∧ w2.cell? ⟨b, o + 1, none⟩ = some (.int .i32 1) ∧ w2.frozen? ⟨b, o, none⟩ = false ∧ w2.frozen? ⟨b, o + 1, none⟩ = false) :
    Calls Try.prog 28 #[.pointer (some ⟨b, o, none⟩), .func (.func F) #[] cap] w fun e w' => e = .panicked (PE pv) ∧
      ∃ w2, Post w2 ∧ w' = (w2.drew.setCell ⟨b, o, none⟩ (.int .u32 1)).setCell ⟨b, o + 1, none⟩ (.int .i32 0) := by
  have hS := slow_dies F b o cap pv w Post hcf h0 h1 f1 hf hP
  have hld := bload ⟨b, o, none⟩ 0 _ h0
  clear hf hP hcf
  go_enter Try.func28, Try.ntmps28
  go_wp2_with (go_at_call 30; refine hld.mono ?_; rintro e w' ⟨rfl, rfl⟩)
  refine hS.mono ?_
  rintro e w' ⟨rfl, h⟩
  exact ⟨rfl, rfl, h⟩
/-- The function that panics. -/
theorem pn1 (pc pn : Nat) (n : Int) (w : World) (c : Vr w pc (.int .i64 0) 3) (d : Vr w pn (.int .i64 n) 3) (hne : pc ≠ pn) :
    Calls Try.prog 24 #[.pointer (some ⟨pc, 0, none⟩), .pointer (some ⟨pn, 0, none⟩)] w fun e w' => e = .panicked (PE (.iface 3 (.int .i64 n))) ∧ (Off [pc] w w' ∧ Vr w' pc (.int .i64 1) 3) := by
  have c1 := c.c
  have z1 := c.fz
  have d1 := d.c
  have c2 := (c.set (.int .i64 1)).c
  have d2 := (d.off (Off.setCell pc 0 w (.int .i64 1)) (by simpa using hne.symm)).c
  go_enter Try.func24, Try.ntmps24
  go_wp2_with fail
  exact ⟨rfl, rfl, Off.setCell pc 0 w _, c.set _⟩
set_option maxRecDepth 100000 in
set_option maxHeartbeats 2000000 in
/-- What the Once calls, where the function panics. -/
theorem getI_cldies (F : FuncId) (cap : Array Value) (b pl : Nat) (l : List Nat) (pv : Value) (Q : World → Prop) (w : World) (hcf : ∀ w, (callFunc F cap).run Try.prog w = .ok (.enter F cap) w)
    (hp : Vr w pl (.pointer (some ⟨b, 0, none⟩)) 35) (h : LR 59 w b (.func (.func F) #[] cap) 0 1 (.int .i64 0) 0)
    (hf : ∀ w1, Off [] w w1 → Calls Try.prog F cap w1 fun e w2 => e = .panicked (PE pv) ∧ (Off l w1 w2 ∧ Q w2)) (hb : b ∉ l) :
    Calls Try.prog 31 #[.pointer (some ⟨pl, 0, none⟩)] w fun e w' => e = .panicked (PE pv) ∧ (Off l w w' ∧ LR 59 w' b (.func (.func F) #[] cap) 0 1 (.int .i64 0) 0 ∧ Q w') := by
  have c0 := hp.c
  have k0 := h.c0
  have hb' : Hid (b ∉ l) := hb
  clear hb
  have hfd := hf w.drew (Off.drew _ _)
  clear hf
  go_enter Try.func31, Try.ntmps31
  go_wp2_with fail
  go_region_dies
  all_goals
    refine hfd.mono ?_
    rintro e w2 ⟨rfl, o2, q2⟩
    exact ⟨rfl, rfl, (Off.drew _ _).trans o2, (h.off (Off.drew [] _) (by simp)).off o2 hb'.out, q2⟩
set_option maxRecDepth 100000 in
set_option maxHeartbeats 2000000 in
/-- Get, the first time, where the function panics. -/
theorem getI_dies (F : FuncId) (cap : Array Value) (b : Nat) (l : List Nat) (pv : Value) (Q : World → Prop) (w : World) (hcf : ∀ w, (callFunc F cap).run Try.prog w = .ok (.enter F cap) w)
    (h : LR 59 w b (.func (.func F) #[] cap) 0 0 (.int .i64 0) 0)
    (hf : ∀ w1, Off [b] w w1 → Calls Try.prog F cap w1 fun e w2 => e = .panicked (PE pv) ∧ (Off l w1 w2 ∧ Q w2)) (hb : b ∉ l) (hQ : ∀ u u', Q u → Off [b] u u' → Q u') :
    Calls Try.prog 22 #[.pointer (some ⟨b, 0, none⟩)] w fun e w' => e = .panicked (PE pv) ∧ (Off (b :: l) w w' ∧ LR 59 w' b (.func (.func F) #[] cap) 1 0 (.int .i64 0) 0 ∧ Q w') := by
  have hmf : ∀ (fn : Fn) (first cap : Array Value) (w : World), (Instr.makeFunc fn first cap).run Try.prog w = .ok (.func fn first cap) w := fun _ _ _ _ => rfl
  have hnn : ∀ w, (binOp .eql 31 (.func (.func F) #[] cap) .nilFunc).run Try.prog w = .ok (.bool false) w := fun _ => rfl
  have o1 : Off [] w (w.alloc (.cells #[.pointer (some ⟨b, 0, none⟩)] 35)) := Off.alloc _ _ _
  have v1 := Vr.new w (.pointer (some ⟨b, 0, none⟩)) 35
  have h1 := h.off o1 (by simp)
  have k0 := h1.c0
  have lb := h.lt
  go_enter Try.func22, Try.ntmps22
  go_wp2_with fail
  generalize w.alloc (.cells #[.pointer (some ⟨b, 0, none⟩)] 35) = w1 at *
  have o2 : Off [b] w1 (w1.setCell ⟨b, 2, none⟩ (.int .i32 1)) := Off.setCell b 2 _ _
  have hc := getI_cldies F cap b w.heap.size l pv Q (w1.setCell ⟨b, 2, none⟩ (.int .i32 1)) hcf (v1.off o2 (by simp; omega)) (h1.s2 1) (fun w3 o3 => hf w3 (((o1.more (by simp)).trans o2).trans (o3.more (by simp)))) hb
  refine (do_dies 31 b 1 _ pv w1 _ (fun _ => by kernel_rfl) h1.c1 h1.c2 (h1.fz 2) hc ?_).mono ?_
  · rintro w5 ⟨_, g5, _⟩
    exact ⟨g5.c1, g5.c2, g5.fz 1, g5.fz 2⟩
  rintro e w6 ⟨rfl, w5, ⟨o5, g5, q5⟩, hw⟩
  have g6 : LR 59 w6 b (.func (.func F) #[] cap) 1 0 (.int .i64 0) 0 := hw ▸ (g5.drew.s1 1).s2 0
  have o6 : Off [b] w5 w6 := hw ▸ ((Off.drew _ _).trans (Off.setCell b 1 _ _)).trans (Off.setCell b 2 _ _)
  have m1 : ∀ k, k ∈ [b] → k ∈ b :: l := by simp
  have q6 := hQ _ _ q5 o6
  have o7 : Off (b :: l) w w6 := ((o1.more (by simp)).trans (o2.more m1)).trans ((o5.more (by simp; intro k hk; exact .inr hk)).trans (o6.more m1))
  exact ⟨rfl, rfl, o7, g6, q6⟩

end Go.Proofs.Ytodopnconlgghaa
