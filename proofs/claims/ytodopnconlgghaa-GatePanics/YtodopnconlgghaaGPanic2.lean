/- caught: what a Get panics with. -/
import Derived.Test.YtodopnconlgghaaGPanic
namespace Go.Proofs.Ytodopnconlgghaa
open Go.RowKit

theorem catch_dying (p : Addr) (x n : Int) (older : List PanicEntry) (w : World) (hc : w.cell? p = some (.int .i64 x)) (hz : w.frozen? p = false) :
    CallsD Try.prog 34 #[.pointer (some p)] (.panicking ({ v := .iface 3 (.int .i64 n), recovered := false } :: older)) w fun e u' w' =>
      e = .returned (.tuple #[]) ∧ u' = .panicking ({ v := .iface 3 (.int .i64 n), recovered := true } :: older) ∧ w' = w.setCell p (.int .i64 n) := by
  have hta : ∀ w, (Instr.typeAssert (.iface 3 (.int .i64 n)) 20 3 true).run Try.prog w = .ok (.tuple #[.int .i64 n, .bool true]) w := fun w => by kernel_rfl
  refine callsD_of_wpS Try.func34 rfl fun c₀ cs hu => ?_
  apply wpS_seq
  apply wpS_region
  simp [wpOpsS, go_sem, recoverD, hu, Try.ntmps34, Exit.thenS]
  refine wpS_of_wp ?_
  have e0 : #[Value.pointer (some p)] ++ ((Array.replicate 9 undef).setIfInBounds 1 (Value.iface 3 (Value.int IntKind.i64 n))).setIfInBounds 0 (Value.iface 3 (Value.int IntKind.i64 n)) = #[.pointer (some p), .iface 3 (.int .i64 n), .iface 3 (.int .i64 n), undef, undef, undef, undef, undef, undef, undef] := rfl
  rw [e0]
  clear e0
  go_wp2_with fail
  exact ⟨rfl, _, rfl, _, results_none rfl _ _ _, rfl, rfl, rfl⟩
theorem catch_idle (p : Addr) (w : World) :
    CallsD Try.prog 34 #[.pointer (some p)] .returning w fun e u' w' => e = .returned (.tuple #[]) ∧ u' = .returning ∧ w' = w := by
  refine callsD_of_wpS Try.func34 rfl fun c₀ cs hu => ?_
  apply wpS_seq
  apply wpS_region
  simp [wpOpsS, go_sem, recoverD, hu, Try.ntmps34, Exit.thenS]
  refine wpS_of_wp ?_
  have e0 : #[Value.pointer (some p)] ++ ((Array.replicate 9 undef).setIfInBounds 1 Value.nilIface).setIfInBounds 0 Value.nilIface = #[.pointer (some p), .nilIface, .nilIface, undef, undef, undef, undef, undef, undef, undef] := rfl
  rw [e0]
  clear e0
  go_wp2_with fail
  refine ⟨rfl, .returning, ?_, _, results_none rfl _ _ _, rfl, rfl, rfl⟩
  cases c₀
  simp_all
set_option maxRecDepth 100000 in
set_option maxHeartbeats 2000000 in
theorem caught_dies (F : FuncId) (cap : Array Value) (b : Nat) (l : List Nat) (n : Int) (Q : World → Prop) (w : World) (hcf : ∀ w, (callFunc F cap).run Try.prog w = .ok (.enter F cap) w)
    (h : LR 59 w b (.func (.func F) #[] cap) 0 0 (.int .i64 0) 0)
    (hf : ∀ w1, Off [b] w w1 → Calls Try.prog F cap w1 fun e w2 => e = .panicked (PE (.iface 3 (.int .i64 n))) ∧ (Off l w1 w2 ∧ Q w2)) (hb : b ∉ l) (hl : ∀ k, k ∈ l → k < w.heap.size) (hQ : ∀ u u' L, Q u → Off L u u' → (∀ k, k ∈ l → k ∉ L) → Q u') :
    Calls Try.prog 25 #[.pointer (some ⟨b, 0, none⟩)] w fun e w' => e = .returned (.tuple #[.int .i64 0, .int .i64 n]) ∧ (Off (b :: l) w w' ∧ LR 59 w' b (.func (.func F) #[] cap) 1 0 (.int .i64 0) 0 ∧ Q w') := by
  have hmf : ∀ (fn : Fn) (first cap : Array Value) (w : World), (Instr.makeFunc fn first cap).run Try.prog w = .ok (.func fn first cap) w := fun _ _ _ _ => rfl
  have lb := h.lt
  have o1 : Off [] w (w.alloc (.cells #[.int .i64 0] 3)) := Off.alloc _ _ _
  have v1 := Vr.new w (.int .i64 0) 3
  have h1 := h.off o1 (by simp)
  have hG := getI_dies F cap b l (.iface 3 (.int .i64 n)) Q _ hcf h1 (fun w1 o => hf w1 ((o1.more (by simp)).trans o)) hb (fun u u' q o => hQ u u' [b] q o (fun k hk => by simp; intro e; subst e; exact hb hk))
  clear hf hcf
  go_enter_defers Try.func25, Try.ntmps25
  go_wp2_with fail
  generalize w.alloc (.cells #[.int .i64 0] 3) = w1 at *
  refine hG.mono ?_
  rintro e w2 ⟨rfl, o2, g2, q2⟩
  have v2 := v1.off o2 (by simp; exact ⟨by omega, fun hk => by have := hl _ hk; omega⟩)
  refine leaves_cons (f := 34) (args := #[.pointer (some ⟨w.heap.size, 0, none⟩)]) (by simp) (by simp [go_sem]) ?_
  refine (catch_dying ⟨w.heap.size, 0, none⟩ 0 n [] _ v2.c v2.fz).mono ?_
  rintro e u' w3 ⟨rfl, rfl, hw⟩
  have v3 : Vr w3 w.heap.size (.int .i64 n) 3 := hw ▸ v2.set _
  have o3 : Off [w.heap.size] w2 w3 := hw ▸ Off.setCell _ 0 _ _
  have c3 := v3.c
  have hne : b ∉ [w.heap.size] := by simp; omega
  simp [Leaves, settle, results, Try.results25, go_sem, c3]
  have o4 : Off (b :: l) w w3 := (((o1.more (m := w.heap.size :: b :: l) (by simp)).trans (o2.more (by simp; intro k hk; exact .inr (.inr hk)))).trans (o3.more (by simp))).only (by
    intro k hk hlt
    simp only [List.mem_cons] at hk ⊢
    rcases hk with hk | hk | hk
    · omega
    · exact .inl hk
    · exact .inr hk)
  exact ⟨o4, g2.off o3 hne, hQ w2 w3 [w.heap.size] q2 o3 (fun k hk => by have := hl k hk; simp; omega)⟩
set_option maxRecDepth 100000 in
set_option maxHeartbeats 2000000 in
theorem caught_again (F : FuncId) (cap : Array Value) (b : Nat) (q : Int) (w : World) (h : LR 59 w b (.func (.func F) #[] cap) 1 0 (.int .i64 0) q) :
    Calls Try.prog 25 #[.pointer (some ⟨b, 0, none⟩)] w fun e w' => e = .returned (.tuple #[.int .i64 0, .int .i64 0]) ∧ Off [] w w' := by
  have hmf : ∀ (fn : Fn) (first cap : Array Value) (w : World), (Instr.makeFunc fn first cap).run Try.prog w = .ok (.func fn first cap) w := fun _ _ _ _ => rfl
  have lb := h.lt
  have o1 : Off [] w (w.alloc (.cells #[.int .i64 0] 3)) := Off.alloc _ _ _
  have v1 := Vr.new w (.int .i64 0) 3
  have h1 := h.off o1 (by simp)
  have hG := getI_done b F cap 0 0 q _ h1
  go_enter_defers Try.func25, Try.ntmps25
  go_wp2_with fail
  generalize w.alloc (.cells #[.int .i64 0] 3) = w1 at *
  refine hG.mono ?_
  rintro e w2 ⟨rfl, o2⟩
  have v2 := v1.off o2 (by simp)
  have c2 := v2.c
  have z2 := v2.fz
  have v3 := v2.set (.int .i64 0)
  have o3 : Off [] w (w2.setCell ⟨w.heap.size, 0, none⟩ (.int .i64 0)) := (((o1.trans o2).more (m := [w.heap.size]) (by simp)).trans (Off.setCell _ 0 _ _)).only (by simp)
  clear hG h h1
  go_wp2_with fail
  refine leaves_cons (f := 34) (args := #[.pointer (some ⟨w.heap.size, 0, none⟩)]) (by simp) (by simp [go_sem]) ?_
  refine (catch_idle ⟨w.heap.size, 0, none⟩ _).mono ?_
  rintro e u' w4 ⟨rfl, rfl, hw⟩
  have c4 : w4.cell? ⟨w.heap.size, 0, none⟩ = some (.int .i64 0) := hw ▸ v3.c
  have o4 : Off [] w w4 := hw ▸ o3
  simp [Leaves, settle, results, Try.results25, go_sem, c4]
  exact o4

end Go.Proofs.Ytodopnconlgghaa
