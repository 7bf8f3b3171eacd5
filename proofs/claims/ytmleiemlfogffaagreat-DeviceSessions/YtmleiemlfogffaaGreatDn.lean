/- New, meterOf, Note. -/
import Derived.Test.YtmleiemlfogffaaGreatDg
namespace Go.Proofs.YtmleiemlfogffaaGreat
set_option maxRecDepth 100000
open Go.RowKit Go.Maps

def zD : Array Value := #[.pointer none, .map none] ++ #[.int .i64 0, .int .i64 0, .int .u32 0, .int .u32 0, .int .i64 0, .int .i64 0, .int .u32 0, .int .u32 0, .int .i64 0, .int .i64 0, .int .u32 0, .int .u32 0, .int .i64 0, .int .i64 0, .int .u32 0, .int .u32 0, .int .i64 0, .int .i64 0, .int .u32 0, .int .u32 0, .int .i64 0, .int .i64 0, .int .u32 0, .int .u32 0, .int .i64 0, .int .i64 0, .int .u32 0, .int .u32 0, .int .i64 0, .int .i64 0, .int .u32 0, .int .u32 0, .int .i64 0, .int .i64 0, .int .u32 0, .int .u32 0, .int .i64 0, .int .i64 0, .int .u32 0, .int .u32 0, .int .i64 0, .int .i64 0, .int .u32 0, .int .u32 0, .int .i64 0, .int .i64 0, .int .u32 0, .int .u32 0, .int .i64 0, .int .i64 0, .int .u32 0, .int .u32 0, .int .i64 0, .int .i64 0, .int .u32 0, .int .u32 0, .int .i64 0, .int .i64 0, .int .u32 0, .int .u32 0, .int .i64 0, .int .i64 0, .int .u32 0, .int .u32 0]
theorem zD_v (w : World) : (zeroValue 143).run Tryz.prog w = .ok (.agg zD) w := by kernel_rfl
theorem zD_size : zD.size = 66 := by kernel_rfl
theorem zD_ne : (zD = #[]) = False := by
  refine eq_false fun h => ?_
  have := congrArg Array.size h
  rw [zD_size] at this
  simp at this
theorem zD_two : (zD.size < 2) = False := by rw [zD_size]; simp
set_option maxRecDepth 100000 in
theorem dnew_any (w : World) : Calls Tryz.prog 37 #[] w fun e w' => e = .returned (.pointer (some ⟨w.heap.size + 2, 0, none⟩)) ∧ Hid (Below w.heap.size w w' ∧ w'.heap.size = w.heap.size + 3 ∧ DG w' (w.heap.size + 2) [w.heap.size, w.heap.size + 1, w.heap.size + 2] []) := by
  have hmk := @run_makeMap Tryz.prog
  have hz := zD_v
  have hz1 := zD_ne
  have hz2 := zD_two
  go_enter Tryz.func37, Tryz.ntmps37
  go_wp2_with (go_at_call 76; refine (new_any _).mono ?_; rintro e w' ⟨rfl, rfl⟩)
  go_ret
  refine ⟨rfl, ?_⟩
  generalize hw1 : w.alloc (Obj.cells (MtC 0 none 0 0 none) 199) = w1
  generalize hw2 : w1.alloc (Obj.map #[] 0) = w2
  have s1 : w1.heap.size = w.heap.size + 1 := by rw [← hw1]; simp
  have s2 : w2.heap.size = w.heap.size + 2 := by rw [← hw2]; simp [s1]
  have o1 : Off [] w w1 := hw1 ▸ Off.alloc [] w _
  have o2 : Off [] w1 w2 := hw2 ▸ Off.alloc [] w1 _
  have o3 : ∀ o, Off [] w2 (w2.alloc o) := fun o => Off.alloc [] w2 o
  have m1 : Met w1 w.heap.size 0 none 0 0 none := hw1 ▸ new_met w
  have m2 : w2.ownsMap Tryz.prog 29 rdP (w.heap.size + 1) 0 (.map []) := by
    have := World.ownsMap_made w1 Tryz.prog 29 rdP
    rw [hw2, s1] at this
    exact this
  clear hz hz1 hz2 hmk
  refine ⟨?_, ?_, ?_⟩
  · have := (o1.trans o2).trans (o3 (Obj.cells ((zD.setIfInBounds 0 (Value.pointer (some ⟨w.heap.size, 0, none⟩))).setIfInBounds 1 (Value.map (some (w.heap.size + 1)))) 143))
    exact this.below (Below.refl _ _) (by simp) (Nat.le_refl _)
  · simp [s2]
  · generalize hcs : (zD.setIfInBounds 0 (Value.pointer (some ⟨w.heap.size, 0, none⟩))).setIfInBounds 1 (Value.map (some (w.heap.size + 1))) = cs
    have hsz : cs.size = 66 := by rw [← hcs]; simp [zD_size]
    have h0 : cs[0]? = some (Value.pointer (some ⟨w.heap.size, 0, none⟩)) := by rw [← hcs]; simp [zD_size]
    have h1 : cs[1]? = some (Value.map (some (w.heap.size + 1))) := by rw [← hcs]; simp [zD_size]
    have hb : (w2.alloc (Obj.cells cs 143)).heap[w.heap.size + 2]? = some (.cells cs 143 (0, 0)) := by
      have := heap_alloc_new w2 (Obj.cells cs 143)
      rw [s2] at this
      exact this
    refine ⟨w.heap.size, w.heap.size + 1, 0, .map [], fun _ => none, ⟨⟨cs, hb, hsz, h0, h1, fun i h => by simp at h⟩, (m1.off o2 (by simp)).off (o3 _) (by simp), ownsMap_off m2 (o3 _) (by simp), Nat.le_refl _, fun c _ => rfl, fun c => rfl, fun c _ => rfl, fun c k h => (by cases h), fun c c' k h => (by cases h), by simp, by simp, by simp, by omega, by omega, by omega, ?_, Nmb.nil⟩⟩
    intro k hk
    simp at hk
    simp [s2]
    omega
set_option maxRecDepth 100000 in
theorem meterOf_old (b mb : Nat) (c : Int) (k : Nat) (w : World) (h1 : w.cell? ⟨b, 1, none⟩ = some (.map (some mb)))
    (hk : (Instr.lookup 138 (.map (some mb)) (.int .i64 c) false).run Tryz.prog w = .ok (.pointer (some ⟨k, 0, none⟩)) w) :
    Calls Tryz.prog 140 #[.pointer (some ⟨b, 0, none⟩), .int .i64 c] w fun e w' => e = .returned (.pointer (some ⟨k, 0, none⟩)) ∧ w' = w := by
  go_enter Tryz.func140, Tryz.ntmps140
  go_wp2_with fail
  go_ret
  exact ⟨rfl, rfl⟩
set_option maxRecDepth 100000 in
theorem meterOf_new (b mb nn : Nat) (D : DataW Unit) (c : Int) (w : World) (h1 : w.cell? ⟨b, 1, none⟩ = some (.map (some mb))) (hlt : b < w.heap.size)
    (hk : (Instr.lookup 138 (.map (some mb)) (.int .i64 c) false).run Tryz.prog w = .ok (.pointer none) w) (hmap : w.ownsMap Tryz.prog 29 rdP mb nn D) (hc : (Lit.int .i64 c).wf = true) (hn : nn < 1000000) :
    Calls Tryz.prog 140 #[.pointer (some ⟨b, 0, none⟩), .int .i64 c] w fun e w' => e = .returned (.pointer (some ⟨w.heap.size, 0, none⟩)) ∧ Hid (Off [mb] w w' ∧ Met w' w.heap.size 0 none 0 0 none ∧ w'.ownsMap Tryz.prog 29 rdP mb (nn + 1) (D.put (.int .i64 c) (dat (some w.heap.size)))) := by
  have h1' : (w.alloc (.cells (MtC 0 none 0 0 none) 199)).cell? ⟨b, 1, none⟩ = some (.map (some mb)) := (World.cell?_of_block ((Off.alloc [] w _).block b hlt (by simp))).trans h1
  have hmm : (w.alloc (.cells (MtC 0 none 0 0 none) 199)).ownsMap Tryz.prog 29 rdP mb nn D := ownsMap_off hmap (Off.alloc [] w _) (by simp)
  have hnn : nn < maxLen := by unfold maxLen; omega
  obtain ⟨w2, hrun, hown, hg⟩ := hmm.update key_i64 Tryz.underlying138 hnn (keyOf_int_mk Tryz.underlying29 hc) (rdP_ptr (some w.heap.size))
  change (Instr.mapUpdate 138 (.map (some mb)) (.int .i64 c) (.pointer (some ⟨w.heap.size, 0, none⟩))).run Tryz.prog (w.alloc (.cells (MtC 0 none 0 0 none) 199)) = .ok () w2 at hrun
  have hmb : mb < w.heap.size := hmap.lt
  have hO : Hid (Off [mb] w w2 ∧ Met w2 w.heap.size 0 none 0 0 none ∧ w2.ownsMap Tryz.prog 29 rdP mb (nn + 1) (D.put (.int .i64 c) (dat (some w.heap.size)))) := by
    have o1 : Off [mb] w (w.alloc (.cells (MtC 0 none 0 0 none) 199)) := Off.alloc [mb] w _
    have o2 : Off [mb] (w.alloc (.cells (MtC 0 none 0 0 none) 199)) w2 := ⟨hg.os, hg.tape, hg.output, hg.size, fun k hk hb => hg.block k hk (by simp at hb; simp; exact hb)⟩
    exact ⟨o1.trans o2, (new_met w).off o2 (by simp; omega), hown⟩
  clear hg hown hmm hmap
  go_enter Tryz.func140, Tryz.ntmps140
  go_wp2_with (go_at_call 76; refine (new_any _).mono ?_; rintro e w' ⟨rfl, rfl⟩)
  go_ret
  exact ⟨rfl, hO⟩
set_option maxHeartbeats 2000000 in
theorem note_nilD (c s n : Int) (w : World) : Calls Tryz.prog 104 #[.pointer none, .int .i64 c, .int .u32 s, .int .u32 n] w fun e w' => e = .returned (.tuple #[.int .i64 0, .int .i64 1]) ∧ w' = w := by
  go_enter Tryz.func104, Tryz.ntmps104
  go_wp2_with fail
  go_ret2
  exact ⟨rfl, rfl⟩
theorem note_ok (b : Nat) (s n : Int) (w : World) : Calls Tryz.prog 104 #[.pointer (some ⟨b, 0, none⟩), .int .i64 0, .int .u32 s, .int .u32 n] w fun e w' => e = .returned (.tuple #[.int .i64 0, .int .i64 2]) ∧ w' = w := by
  go_enter Tryz.func104, Tryz.ntmps104
  go_wp2_with fail
  go_ret2
  exact ⟨rfl, rfl⟩
end Go.Proofs.YtmleiemlfogffaaGreat
