/- Signature, Awake; the walk of the statement ParamBack. -/
import Derived.Test.YtmleiemlfogffaaGreatPar3
import Derived.Test.YtmleiemlfogffaaGreatAgg5
namespace Go.Proofs.YtmleiemlfogffaaGreat
set_option maxRecDepth 100000
open Go.RowKit
set_option maxRecDepth 100000 in
set_option maxHeartbeats 1000000 in
theorem psig_bad (c : Nat) (o i t : Int) (n : Nat) (w : World) (hE : ¬ okP c o i t n) :
    Calls Tryz.prog 195 #[.agg #[.int .u32 c, .int .i64 o, .int .i64 i, .int .i64 t, .int .u32 n]] w fun e w' => e = .returned (.tuple #[.int .u32 0, .int .i64 90]) ∧ Below w.heap.size w w' := by
  have hb : Below w.heap.size w (w.alloc (.cells #[.int .u32 c, .int .i64 o, .int .i64 i, .int .i64 t, .int .u32 n] 24)) := (Below.refl _ _).alloc (Nat.le_refl _) _
  have hF := pencode_bad c o i t n (w.alloc (.cells #[.int .u32 c, .int .i64 o, .int .i64 i, .int .i64 t, .int .u32 n] 24)) hE
  clear hE
  go_enter Tryz.func195, Tryz.ntmps195
  go_wp2_with fail
  refine hF.mono ?_
  rintro e w1 ⟨rfl, hb1⟩
  have hb2 := below_all hb hb.size hb1
  clear hb hF hb1
  go_wp2_with fail
  go_ret2
  exact ⟨rfl, hb2⟩
set_option maxRecDepth 100000 in
set_option maxHeartbeats 1000000 in
theorem psig_good (c O I T n : Nat) (w : World) (hc : c < 4294967296) (hn : n < 4294967296) (hE : okP c O I T n) :
    Calls Tryz.prog 195 #[.agg #[.int .u32 c, .int .i64 O, .int .i64 I, .int .i64 T, .int .u32 n]] w fun e w' => e = .returned (.tuple #[.int .u32 (PM.K (pe c O I T n) 14 : Nat), .int .i64 0]) ∧ Below w.heap.size w w' := by
  have hb : Below w.heap.size w (w.alloc (.cells #[.int .u32 c, .int .i64 O, .int .i64 I, .int .i64 T, .int .u32 n] 24)) := (Below.refl _ _).alloc (Nat.le_refl _) _
  have hF := pencode_good c O I T n (w.alloc (.cells #[.int .u32 c, .int .i64 O, .int .i64 I, .int .i64 T, .int .u32 n] 24)) hc hn hE
  obtain ⟨_, hO, hI, _, _⟩ := hE
  have hby := pe_lt (c := c) (o := O) (i := I) (t := T) (n := n) (by omega) (by omega)
  clear hO hI
  go_enter Tryz.func195, Tryz.ntmps195
  go_wp2_with fail
  refine hF.mono ?_
  rintro e w1 ⟨g, rfl, H1⟩
  obtain ⟨_, O1, hb1⟩ := H1.out
  have hb2 := below_all hb hb.size hb1
  obtain ⟨a1, c1, e1, R1⟩ := own_row8 O1 (fun k _ => hby k)
  simp only [Value.slice.injEq, true_and] at e1
  obtain ⟨rfl, rfl⟩ := e1
  have hB := cbits_row _ 14 14 (pe c O I T n) w1 R1 (by omega)
  clear hb hF hb1 H1 O1 R1 hby
  go_wp2_with fail
  refine hB.mono ?_
  rintro e w2 ⟨rfl, rfl⟩
  go_wp2_with fail
  go_ret2
  exact ⟨rfl, hb2⟩

end Go.Proofs.YtmleiemlfogffaaGreat
