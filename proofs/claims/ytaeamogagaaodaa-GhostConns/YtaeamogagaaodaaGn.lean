/- Layer 18: newConn. -/
import Derived.Test.YtaeamogagaaodaaGh13
import Derived.Deep.MidRow
import Derived.Deep.Upon
namespace Go.Proofs.Ytaeamogagaaodaa
open Go.RowKit Go.Maps
set_option maxRecDepth 100000

/-- A set, as a net bears it. -/
structure Pg where
  c : Nat
  o : Int
  i : Int
  t : Int
  n : Nat
def coL (h d : Int) : List Value := [.int .i64 h, .bool false, .int .u32 0, .int .u32 0, .string (ByteArray.mk #[]), .int .i64 0, .int .i64 0, .bool false, .bool false, .int .i64 d, .bool false, .int .u32 0, .int .u32 0, .string (ByteArray.mk #[]), .int .i64 0, .int .i64 0, .bool false, .bool false, .int .u32 0]
theorem coL_len (h d : Int) : (coL h d).length = 19 := rfl
theorem coL_one (h d : Int) : ∀ u ∈ coL h d, u.oneCell' = true := by
  intro u hu
  simp [coL] at hu
  rcases hu with rfl | rfl | rfl | rfl | rfl | rfl | rfl | rfl | rfl | rfl | rfl | rfl | rfl | rfl | rfl | rfl | rfl | rfl | rfl <;> rfl
theorem info_con : (Try.prog.info? 67).map (fun i => (i.zero, i.size, i.bytes)) = some (some (.agg #[.int .i64 0, .bool false, .int .u32 0, .int .u32 0, .string (ByteArray.mk #[]), .int .i64 0, .int .i64 0, .bool false, .bool false, .int .i64 0, .bool false, .int .u32 0, .int .u32 0, .string (ByteArray.mk #[]), .int .i64 0, .int .i64 0, .bool false, .bool false, .int .u32 0]), 19, 136) := by kernel_rfl
theorem size_con : (Try.prog.info? 67).map (·.size) = some 19 := by kernel_rfl
theorem zv_con (w : World) : (zeroValue 67).run Try.prog w = .ok (.agg #[.int .i64 0, .bool false, .int .u32 0, .int .u32 0, .string (ByteArray.mk #[]), .int .i64 0, .int .i64 0, .bool false, .bool false, .int .i64 0, .bool false, .int .u32 0, .int .u32 0, .string (ByteArray.mk #[]), .int .i64 0, .int .i64 0, .bool false, .bool false, .int .u32 0]) w := by kernel_rfl
theorem bld_con (x y : Int) (w : World) : (Instr.build 67 #[(0, .agg #[.int .i64 x, .bool false, .int .u32 0, .int .u32 0, .string (ByteArray.mk #[]), .int .i64 0, .int .i64 0, .bool false, .bool false]), (1, .agg #[.int .i64 y, .bool false, .int .u32 0, .int .u32 0, .string (ByteArray.mk #[]), .int .i64 0, .int .i64 0, .bool false, .bool false])]).run Try.prog w = .ok (.agg #[.int .i64 x, .bool false, .int .u32 0, .int .u32 0, .string (ByteArray.mk #[]), .int .i64 0, .int .i64 0, .bool false, .bool false, .int .i64 y, .bool false, .int .u32 0, .int .u32 0, .string (ByteArray.mk #[]), .int .i64 0, .int .i64 0, .bool false, .bool false, .int .u32 0]) w := by kernel_rfl
theorem setCells_tape (b : Nat) : ∀ (vs : List Value) (o : Nat) (w : World), (w.setCells b o vs).tape = w.tape ∧ w.heap.size ≤ (w.setCells b o vs).heap.size
  | [], _, _ => ⟨rfl, Nat.le_refl _⟩
  | v :: vs, o, w => by
    have h := setCells_tape b vs (o + 1) (w.setCell ⟨b, o, none⟩ v)
    have e : (w.setCell ⟨b, o, none⟩ v).heap.size = w.heap.size := by simp [World.setCell]
    rw [e] at h
    exact h
theorem op_bld {op : Oper} {a : Act} {w : World} {K : Act → World → Prop} {Q : Exit → Act → World → Prop} (t : TypeId) (parts : Array (Nat × Operand)) (ho : op.op = .build t parts) (v : Value) (hrun : (Instr.build t (parts.map fun (i, x) => (i, a.eval x))).run Try.prog w = .ok v w) (h : K (a.put op.dst v) w) : op.wp Try.prog a w K Q := by
  unfold Oper.wp execOp
  simp only [ho, Sem.run_bind, Sem.run_pure, Result.andThen_ok, hrun]
  exact h
set_option maxHeartbeats 400000 in
theorem gnewconn (p q : Pg) (w : World) :
    Calls Try.prog 18 #[.agg #[.int .u32 ((p).c : Nat), .int .i64 (p).o, .int .i64 (p).i, .int .i64 (p).t, .int .u32 ((p).n : Nat)], .agg #[.int .u32 ((q).c : Nat), .int .i64 (q).o, .int .i64 (q).i, .int .i64 (q).t, .int .u32 ((q).n : Nat)]] w fun r w' => r = .returned (.agg #[.int .i64 p.t, .bool false, .int .u32 0, .int .u32 0, .string (ByteArray.mk #[]), .int .i64 0, .int .i64 0, .bool false, .bool false, .int .i64 q.t, .bool false, .int .u32 0, .int .u32 0, .string (ByteArray.mk #[]), .int .i64 0, .int .i64 0, .bool false, .bool false, .int .u32 0]) ∧ Below w.heap.size w w' := by
  have hb := fun w => bld_con p.t q.t w
  obtain ⟨C, hC⟩ : ∃ C : Array Value, #[.int .i64 p.t, .bool false, .int .u32 0, .int .u32 0, .string (ByteArray.mk #[]), .int .i64 0, .int .i64 0, .bool false, .bool false, .int .i64 q.t, .bool false, .int .u32 0, .int .u32 0, .string (ByteArray.mk #[]), .int .i64 0, .int .i64 0, .bool false, .bool false, .int .u32 0] = C := ⟨_, rfl⟩
  have HC : Hid (_) := hC
  have hsz : C.size = 19 := by rw [← hC]; rfl
  have hone : C.all (·.oneCell') = true := by rw [← hC]; exact all_oneCell_toArray (coL_one p.t q.t)
  rw [hC] at hb ⊢
  have hk : (((w.alloc (.cells #[.int .u32 ((p).c : Nat), .int .i64 (p).o, .int .i64 (p).i, .int .i64 (p).t, .int .u32 ((p).n : Nat)] 70)).alloc (.cells #[.int .u32 ((q).c : Nat), .int .i64 (q).o, .int .i64 (q).i, .int .i64 (q).t, .int .u32 ((q).n : Nat)] 70)).alloc (.cells #[.int .i64 0, .bool false, .int .u32 0, .int .u32 0, .string (ByteArray.mk #[]), .int .i64 0, .int .i64 0, .bool false, .bool false, .int .i64 0, .bool false, .int .u32 0, .int .u32 0, .string (ByteArray.mk #[]), .int .i64 0, .int .i64 0, .bool false, .bool false, .int .u32 0] 67)).heap[w.heap.size + 1 + 1]? = some (.cells #[.int .i64 0, .bool false, .int .u32 0, .int .u32 0, .string (ByteArray.mk #[]), .int .i64 0, .int .i64 0, .bool false, .bool false, .int .i64 0, .bool false, .int .u32 0, .int .u32 0, .string (ByteArray.mk #[]), .int .i64 0, .int .i64 0, .bool false, .bool false, .int .u32 0] 67 (0, 0)) := by
    have := heap_alloc_new ((w.alloc (.cells #[.int .u32 ((p).c : Nat), .int .i64 (p).o, .int .i64 (p).i, .int .i64 (p).t, .int .u32 ((p).n : Nat)] 70)).alloc (.cells #[.int .u32 ((q).c : Nat), .int .i64 (q).o, .int .i64 (q).i, .int .i64 (q).t, .int .u32 ((q).n : Nat)] 70)) (.cells #[.int .i64 0, .bool false, .int .u32 0, .int .u32 0, .string (ByteArray.mk #[]), .int .i64 0, .int .i64 0, .bool false, .bool false, .int .i64 0, .bool false, .int .u32 0, .int .u32 0, .string (ByteArray.mk #[]), .int .i64 0, .int .i64 0, .bool false, .bool false, .int .u32 0] 67)
    simpa using this
  have hth : (((w.alloc (.cells #[.int .u32 ((p).c : Nat), .int .i64 (p).o, .int .i64 (p).i, .int .i64 (p).t, .int .u32 ((p).n : Nat)] 70)).alloc (.cells #[.int .u32 ((q).c : Nat), .int .i64 (q).o, .int .i64 (q).i, .int .i64 (q).t, .int .u32 ((q).n : Nat)] 70)).alloc (.cells #[.int .i64 0, .bool false, .int .u32 0, .int .u32 0, .string (ByteArray.mk #[]), .int .i64 0, .int .i64 0, .bool false, .bool false, .int .i64 0, .bool false, .int .u32 0, .int .u32 0, .string (ByteArray.mk #[]), .int .i64 0, .int .i64 0, .bool false, .bool false, .int .u32 0] 67)).there (w.heap.size + 1 + 1) 0 C.size := fun j hj => by
    rw [hsz] at hj
    rw [Nat.zero_add]
    refine ⟨?_, frozen_of_row _ _ j _ _ hk⟩
    rw [cell_of_row _ _ j _ _ _ hk, Array.getElem?_eq_getElem (by simpa using hj)]
    rfl
  clear hC hk
  go_enter Try.func18, Try.ntmps18
  iterate 36 go_step
  refine op_bld 67 #[(0, .tmp 7), (1, .tmp 10)] rfl (.agg C) (by simp only [List.map_toArray, List.map_cons, List.map_nil]; exact hb _) ?_
  iterate 2 go_step
  refine wp_store_mid 67 (.tmp 4) (.tmp 11) rfl (w.heap.size + 1 + 1) 0 C (by rfl) (by rfl) hth (by rw [hsz]; exact size_con) hone ?_
  have HT : Hid (_) := hth
  clear hth hb
  go_wp2_with fail
  have hB : Below w.heap.size w ((((w.alloc (.cells #[.int .u32 ((p).c : Nat), .int .i64 (p).o, .int .i64 (p).i, .int .i64 (p).t, .int .u32 ((p).n : Nat)] 70)).alloc (.cells #[.int .u32 ((q).c : Nat), .int .i64 (q).o, .int .i64 (q).i, .int .i64 (q).t, .int .u32 ((q).n : Nat)] 70)).alloc (.cells #[.int .i64 0, .bool false, .int .u32 0, .int .u32 0, .string (ByteArray.mk #[]), .int .i64 0, .int .i64 0, .bool false, .bool false, .int .i64 0, .bool false, .int .u32 0, .int .u32 0, .string (ByteArray.mk #[]), .int .i64 0, .int .i64 0, .bool false, .bool false, .int .u32 0] 67)).setCells (w.heap.size + 1 + 1) 0 C.toList) := by
    refine Below.trans (belowG (belowG (belowG (Below.refl _ _) _) _) _) ⟨World.os_setCells _ _ _ _, (setCells_tape _ _ _ _).1, World.output_setCells _ _ _ _, (setCells_tape _ _ _ _).2, fun k hk => World.heap_setCells_other _ _ _ _ (by simp; omega) (by omega)⟩
  have hR := World.rangeAt_setCells_same _ (w.heap.size + 1 + 1) 0 C.toList (by rw [Array.length_toList]; exact HT.out)
  have hl := run_loadVar_mid (P := Try.prog) _ (w.heap.size + 1 + 1) 0 67 C.toList _ hR Try.underlying67 rfl (by rw [size_con]; simp [hsz])
  rw [Array.toArray_toList] at hl
  generalize ((((w.alloc (.cells #[.int .u32 ((p).c : Nat), .int .i64 (p).o, .int .i64 (p).i, .int .i64 (p).t, .int .u32 ((p).n : Nat)] 70)).alloc (.cells #[.int .u32 ((q).c : Nat), .int .i64 (q).o, .int .i64 (q).i, .int .i64 (q).t, .int .u32 ((q).n : Nat)] 70)).alloc (.cells #[.int .i64 0, .bool false, .int .u32 0, .int .u32 0, .string (ByteArray.mk #[]), .int .i64 0, .int .i64 0, .bool false, .bool false, .int .i64 0, .bool false, .int .u32 0, .int .u32 0, .string (ByteArray.mk #[]), .int .i64 0, .int .i64 0, .bool false, .bool false, .int .u32 0] 67)).setCells (w.heap.size + 1 + 1) 0 C.toList) = wf at hB hl ⊢
  clear HT hR
  refine bodyPost_ret (v := .agg C) ?_ rfl ⟨rfl, hB⟩
  simp [results, Try.results18, Act.put, asAddr, hl]
end Go.Proofs.Ytaeamogagaaodaa
