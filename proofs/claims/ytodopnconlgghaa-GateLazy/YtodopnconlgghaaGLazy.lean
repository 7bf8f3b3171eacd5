/- Get, the first time: the function answers. -/
import Derived.Test.YtodopnconlgghaaGate3
namespace Go.Proofs.Ytodopnconlgghaa
open Go.RowKit

set_option maxRecDepth 100000 in
set_option maxHeartbeats 2000000 in
/-- What the Once calls. -/
theorem getI_cl (F : FuncId) (cap : Array Value) (b pl : Nat) (l : List Nat) (r : Int) (Q : World → Prop) (w : World) (hcf : ∀ w, (callFunc F cap).run Try.prog w = .ok (.enter F cap) w)
    (hp : Vr w pl (.pointer (some ⟨b, 0, none⟩)) 35) (h : LR 59 w b (.func (.func F) #[] cap) 0 1 (.int .i64 0) 0)
    (hf : ∀ w1, Off [] w w1 → Calls Try.prog F cap w1 fun e w2 => e = .returned (.int .i64 r) ∧ (Off l w1 w2 ∧ Q w2)) (hb : b ∉ l) (hl : pl ∉ l) (hQ : ∀ u u', Q u → Off [b] u u' → Q u') :
    Calls Try.prog 31 #[.pointer (some ⟨pl, 0, none⟩)] w fun e w' => e = .returned (.tuple #[]) ∧ (Off (b :: l) w w' ∧ LR 59 w' b (.func (.func F) #[] cap) 0 1 (.int .i64 r) 1 ∧ Q w') := by
  have c0 := hp.c
  have k0 := h.c0
  have hb' : Hid (b ∉ l) := hb
  have hl' : Hid (pl ∉ l) := hl
  have npb : pl ≠ b := fun e => by
    have h1 := hp.at_
    rw [e, h.at_] at h1
    simp [LC] at h1
  have fin : ∀ w2 w5, Off l w.drew w2 → Q w2 → w5 = (((w2.setCell ⟨b, 4, none⟩ (.int .i64 r)).drew).setCell ⟨b, 5, none⟩ (.int .u32 1)) → Hid (Off (b :: l) w w5 ∧ LR 59 w5 b (.func (.func F) #[] cap) 0 1 (.int .i64 r) 1 ∧ Q w5) := by
    intro w2 w5 o2 q2 e
    have h2 := (h.off (Off.drew [] _) (by simp)).off o2 hb
    have o5 : Off [b] w2 w5 := e ▸ (((Off.setCell b 4 _ _).trans (Off.drew _ _)).trans (Off.setCell b 5 _ _))
    have h5 : LR 59 w5 b (.func (.func F) #[] cap) 0 1 (.int .i64 r) 1 := e ▸ ((h2.s4 (.int .i64 r)).drew.s5 1)
    exact ⟨((Off.drew _ _).trans (o2.more (by simp; intro k hk; exact .inr hk))).trans (o5.more (by simp)), h5, hQ _ _ q2 o5⟩
  clear hb hl
  have hfd := hf w.drew (Off.drew _ _)
  clear hf hQ
  go_enter Try.func31, Try.ntmps31
  go_wp2_with fail
  go_region_with (refine hfd.mono ?_; rintro e w2 ⟨rfl, o2, q2⟩; have c2 := ((hp.off (Off.drew [] _) (by simp)).off o2 hl'.out).c; have h2 := (h.off (Off.drew [] _) (by simp)).off o2 hb'.out; have k4 := h2.c4; have z4 := h2.fz 4)
  all_goals
    have f2 := fun w5 e => fin w2 w5 o2 q2 e
    have h3 := h2.s4 (.int .i64 r)
    have c3 := (((hp.off (Off.drew [] _) (by simp)).off o2 hl'.out).off (Off.setCell b 4 w2 (.int .i64 r)) (by simpa using npb)).c
    clear fin hfd hp h h2 k4 z4 c2 c0 k0 o2 q2 hb' hl'
    generalize w2.setCell ⟨b, 4, none⟩ (.int .i64 r) = w3 at *
    go_wp2_with fail
    refine (bstore ⟨b, 5, none⟩ _ w3 h3.c5 (h3.fz 5)).mono ?_
    rintro e w5 ⟨rfl, hw⟩
    have f5 := f2 w5 hw
    clear hw f2
    go_wp2_with fail
    go_end0
    exact ⟨rfl, f5.out⟩
set_option maxRecDepth 100000 in
set_option maxHeartbeats 2000000 in
/-- Get, the first time. -/
theorem getI_first (F : FuncId) (cap : Array Value) (b : Nat) (l : List Nat) (r : Int) (Q : World → Prop) (w : World) (hcf : ∀ w, (callFunc F cap).run Try.prog w = .ok (.enter F cap) w)
    (h : LR 59 w b (.func (.func F) #[] cap) 0 0 (.int .i64 0) 0)
    (hf : ∀ w1, Off [b] w w1 → Calls Try.prog F cap w1 fun e w2 => e = .returned (.int .i64 r) ∧ (Off l w1 w2 ∧ Q w2)) (hb : b ∉ l) (hl : ∀ k, k ∈ l → k < w.heap.size) (hQ : ∀ u u', Q u → Off [b] u u' → Q u') :
    Calls Try.prog 22 #[.pointer (some ⟨b, 0, none⟩)] w fun e w' => e = .returned (.int .i64 r) ∧ (Off (b :: l) w w' ∧ LR 59 w' b (.func (.func F) #[] cap) 1 0 (.int .i64 r) 1 ∧ Q w') := by
  have hmf : ∀ (fn : Fn) (first cap : Array Value) (w : World), (Instr.makeFunc fn first cap).run Try.prog w = .ok (.func fn first cap) w := fun _ _ _ _ => rfl
  have hnn : ∀ w, (binOp .eql 31 (.func (.func F) #[] cap) .nilFunc).run Try.prog w = .ok (.bool false) w := fun _ => rfl
  have o1 : Off [] w (w.alloc (.cells #[.pointer (some ⟨b, 0, none⟩)] 35)) := Off.alloc _ _ _
  have v1 := Vr.new w (.pointer (some ⟨b, 0, none⟩)) 35
  have h1 := h.off o1 (by simp)
  have k0 := h1.c0
  have lb := h.lt
  go_enter Try.func22, Try.ntmps22
  go_wp2_with fail
  generalize w.alloc (.cells #[.pointer (some ⟨b, 0, none⟩)] 35) = w1 at *
  have o2 : Off [b] w1 (w1.setCell ⟨b, 2, none⟩ (.int .i32 1)) := Off.setCell b 2 _ _
  have hc := getI_cl F cap b w.heap.size l r Q (w1.setCell ⟨b, 2, none⟩ (.int .i32 1)) hcf (v1.off o2 (by simp; omega)) (h1.s2 1) (fun w3 o3 => hf w3 (((o1.more (by simp)).trans o2).trans (o3.more (by simp)))) hb (fun hk => by have := hl _ hk; omega) hQ
  refine (do_cl 31 b 1 _ w1 _ (fun _ => by kernel_rfl) h1.c1 h1.c2 (h1.fz 2) hc ?_).mono ?_
  · rintro w5 ⟨_, g5, _⟩
    exact ⟨g5.c1, g5.c2, g5.fz 1, g5.fz 2⟩
  rintro e w6 ⟨rfl, w5, ⟨o5, g5, q5⟩, hw⟩
  have g6 : LR 59 w6 b (.func (.func F) #[] cap) 1 0 (.int .i64 r) 1 := hw ▸ (g5.drew.s1 1).s2 0
  have o6 : Off [b] w5 w6 := hw ▸ ((Off.drew _ _).trans (Off.setCell b 1 _ _)).trans (Off.setCell b 2 _ _)
  have m1 : ∀ k, k ∈ [b] → k ∈ b :: l := by simp
  have q6 := hQ _ _ q5 o6
  have v6 := (((v1.off o2 (by simp; omega)).off o5 (by simp; exact ⟨by omega, fun hk => by have := hl _ hk; omega⟩)).off o6 (by simp; omega)).c
  have o7 : Off (b :: l) w w6 := ((o1.more (by simp)).trans (o2.more m1)).trans (o5.trans (o6.more m1))
  have HB : Hid (_) := And.intro o7 (And.intro g6 q6)
  have k4 := g6.c4
  clear hc hw g5 q5 o5 o6 o2 o1 v1 h1 k0 q6 o7 hf hQ hl hb hcf h m1
  go_wp2_with fail
  go_ret
  exact ⟨rfl, HB.out⟩
set_option maxRecDepth 100000 in
set_option maxHeartbeats 2000000 in
/-- What the Once calls. -/
theorem getS_cl (F : FuncId) (cap : Array Value) (b pl : Nat) (l : List Nat) (r : ByteArray) (Q : World → Prop) (w : World) (hcf : ∀ w, (callFunc F cap).run Try.prog w = .ok (.enter F cap) w)
    (hp : Vr w pl (.pointer (some ⟨b, 0, none⟩)) 37) (h : LR 61 w b (.func (.func F) #[] cap) 0 1 (.string ⟨#[]⟩) 0)
    (hf : ∀ w1, Off [] w w1 → Calls Try.prog F cap w1 fun e w2 => e = .returned (.string r) ∧ (Off l w1 w2 ∧ Q w2)) (hb : b ∉ l) (hl : pl ∉ l) (hQ : ∀ u u', Q u → Off [b] u u' → Q u') :
    Calls Try.prog 33 #[.pointer (some ⟨pl, 0, none⟩)] w fun e w' => e = .returned (.tuple #[]) ∧ (Off (b :: l) w w' ∧ LR 61 w' b (.func (.func F) #[] cap) 0 1 (.string r) 1 ∧ Q w') := by
  have c0 := hp.c
  have k0 := h.c0
  have hb' : Hid (b ∉ l) := hb
  have hl' : Hid (pl ∉ l) := hl
  have npb : pl ≠ b := fun e => by
    have h1 := hp.at_
    rw [e, h.at_] at h1
    simp [LC] at h1
  have fin : ∀ w2 w5, Off l w.drew w2 → Q w2 → w5 = (((w2.setCell ⟨b, 4, none⟩ (.string r)).drew).setCell ⟨b, 5, none⟩ (.int .u32 1)) → Hid (Off (b :: l) w w5 ∧ LR 61 w5 b (.func (.func F) #[] cap) 0 1 (.string r) 1 ∧ Q w5) := by
    intro w2 w5 o2 q2 e
    have h2 := (h.off (Off.drew [] _) (by simp)).off o2 hb
    have o5 : Off [b] w2 w5 := e ▸ (((Off.setCell b 4 _ _).trans (Off.drew _ _)).trans (Off.setCell b 5 _ _))
    have h5 : LR 61 w5 b (.func (.func F) #[] cap) 0 1 (.string r) 1 := e ▸ ((h2.s4 (.string r)).drew.s5 1)
    exact ⟨((Off.drew _ _).trans (o2.more (by simp; intro k hk; exact .inr hk))).trans (o5.more (by simp)), h5, hQ _ _ q2 o5⟩
  clear hb hl
  have hfd := hf w.drew (Off.drew _ _)
  clear hf hQ
  go_enter Try.func33, Try.ntmps33
  go_wp2_with fail
  go_region_with (refine hfd.mono ?_; rintro e w2 ⟨rfl, o2, q2⟩; have c2 := ((hp.off (Off.drew [] _) (by simp)).off o2 hl'.out).c; have h2 := (h.off (Off.drew [] _) (by simp)).off o2 hb'.out; have k4 := h2.c4; have z4 := h2.fz 4)
  all_goals
    have f2 := fun w5 e => fin w2 w5 o2 q2 e
    have h3 := h2.s4 (.string r)
    have c3 := (((hp.off (Off.drew [] _) (by simp)).off o2 hl'.out).off (Off.setCell b 4 w2 (.string r)) (by simpa using npb)).c
    clear fin hfd hp h h2 k4 z4 c2 c0 k0 o2 q2 hb' hl'
    generalize w2.setCell ⟨b, 4, none⟩ (.string r) = w3 at *
    go_wp2_with fail
    refine (bstore ⟨b, 5, none⟩ _ w3 h3.c5 (h3.fz 5)).mono ?_
    rintro e w5 ⟨rfl, hw⟩
    have f5 := f2 w5 hw
    clear hw f2
    go_wp2_with fail
    go_end0
    exact ⟨rfl, f5.out⟩
set_option maxRecDepth 100000 in
set_option maxHeartbeats 2000000 in
/-- Get, the first time. -/
theorem getS_first (F : FuncId) (cap : Array Value) (b : Nat) (l : List Nat) (r : ByteArray) (Q : World → Prop) (w : World) (hcf : ∀ w, (callFunc F cap).run Try.prog w = .ok (.enter F cap) w)
    (h : LR 61 w b (.func (.func F) #[] cap) 0 0 (.string ⟨#[]⟩) 0)
    (hf : ∀ w1, Off [b] w w1 → Calls Try.prog F cap w1 fun e w2 => e = .returned (.string r) ∧ (Off l w1 w2 ∧ Q w2)) (hb : b ∉ l) (hl : ∀ k, k ∈ l → k < w.heap.size) (hQ : ∀ u u', Q u → Off [b] u u' → Q u') :
    Calls Try.prog 23 #[.pointer (some ⟨b, 0, none⟩)] w fun e w' => e = .returned (.string r) ∧ (Off (b :: l) w w' ∧ LR 61 w' b (.func (.func F) #[] cap) 1 0 (.string r) 1 ∧ Q w') := by
  have hmf : ∀ (fn : Fn) (first cap : Array Value) (w : World), (Instr.makeFunc fn first cap).run Try.prog w = .ok (.func fn first cap) w := fun _ _ _ _ => rfl
  have hnn : ∀ w, (binOp .eql 39 (.func (.func F) #[] cap) .nilFunc).run Try.prog w = .ok (.bool false) w := fun _ => rfl
  have o1 : Off [] w (w.alloc (.cells #[.pointer (some ⟨b, 0, none⟩)] 37)) := Off.alloc _ _ _
  have v1 := Vr.new w (.pointer (some ⟨b, 0, none⟩)) 37
  have h1 := h.off o1 (by simp)
  have k0 := h1.c0
  have lb := h.lt
  go_enter Try.func23, Try.ntmps23
  go_wp2_with fail
  generalize w.alloc (.cells #[.pointer (some ⟨b, 0, none⟩)] 37) = w1 at *
  have o2 : Off [b] w1 (w1.setCell ⟨b, 2, none⟩ (.int .i32 1)) := Off.setCell b 2 _ _
  have hc := getS_cl F cap b w.heap.size l r Q (w1.setCell ⟨b, 2, none⟩ (.int .i32 1)) hcf (v1.off o2 (by simp; omega)) (h1.s2 1) (fun w3 o3 => hf w3 (((o1.more (by simp)).trans o2).trans (o3.more (by simp)))) hb (fun hk => by have := hl _ hk; omega) hQ
  refine (do_cl 33 b 1 _ w1 _ (fun _ => by kernel_rfl) h1.c1 h1.c2 (h1.fz 2) hc ?_).mono ?_
  · rintro w5 ⟨_, g5, _⟩
    exact ⟨g5.c1, g5.c2, g5.fz 1, g5.fz 2⟩
  rintro e w6 ⟨rfl, w5, ⟨o5, g5, q5⟩, hw⟩
  have g6 : LR 61 w6 b (.func (.func F) #[] cap) 1 0 (.string r) 1 := hw ▸ (g5.drew.s1 1).s2 0
  have o6 : Off [b] w5 w6 := hw ▸ ((Off.drew _ _).trans (Off.setCell b 1 _ _)).trans (Off.setCell b 2 _ _)
  have m1 : ∀ k, k ∈ [b] → k ∈ b :: l := by simp
  have q6 := hQ _ _ q5 o6
  have v6 := (((v1.off o2 (by simp; omega)).off o5 (by simp; exact ⟨by omega, fun hk => by have := hl _ hk; omega⟩)).off o6 (by simp; omega)).c
  have o7 : Off (b :: l) w w6 := ((o1.more (by simp)).trans (o2.more m1)).trans (o5.trans (o6.more m1))
  have HB : Hid (_) := And.intro o7 (And.intro g6 q6)
  have k4 := g6.c4
  clear hc hw g5 q5 o5 o6 o2 o1 v1 h1 k0 q6 o7 hf hQ hl hb hcf h m1
  go_wp2_with fail
  go_ret
  exact ⟨rfl, HB.out⟩

end Go.Proofs.Ytodopnconlgghaa
