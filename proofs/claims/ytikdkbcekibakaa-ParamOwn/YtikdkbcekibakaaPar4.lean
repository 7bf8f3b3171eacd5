/- Signature, Awake; the walk of the statement ParamBack. -/
import Derived.Test.YtikdkbcekibakaaPar3
import Derived.Test.YtikdkbcekibakaaAgg5
namespace Go.Proofs.Ytikdkbcekibakaa
open Go.RowKit
set_option maxRecDepth 100000 in
set_option maxHeartbeats 1000000 in
theorem psig_bad (c : Nat) (o i t : Int) (n : Nat) (w : World) (hE : ¬ okP c o i t n) :
    Calls Try.prog 11 #[.agg #[.int .u32 c, .int .i64 o, .int .i64 i, .int .i64 t, .int .u32 n]] w fun e w' => e = .returned (.tuple #[.int .u32 0, .int .i64 90]) ∧ Below w.heap.size w w' := by
  have hb : Below w.heap.size w (w.alloc (.cells #[.int .u32 c, .int .i64 o, .int .i64 i, .int .i64 t, .int .u32 n] 24)) := (Below.refl _ _).alloc (Nat.le_refl _) _
  have hF := pencode_bad c o i t n (w.alloc (.cells #[.int .u32 c, .int .i64 o, .int .i64 i, .int .i64 t, .int .u32 n] 24)) hE
  clear hE
  go_enter Try.func11, Try.ntmps11
  go_wp2_with fail
  refine hF.mono ?_
  rintro e w1 ⟨rfl, hb1⟩
  have hb2 := below_all hb hb.size hb1
  clear hb hF hb1
  go_wp2_with fail
  go_ret2
  exact ⟨rfl, hb2⟩
set_option maxRecDepth 100000 in
set_option maxHeartbeats 1000000 in
theorem psig_good (c O I T n : Nat) (w : World) (hc : c < 4294967296) (hn : n < 4294967296) (hE : okP c O I T n) :
    Calls Try.prog 11 #[.agg #[.int .u32 c, .int .i64 O, .int .i64 I, .int .i64 T, .int .u32 n]] w fun e w' => e = .returned (.tuple #[.int .u32 (PM.K (pe c O I T n) 14 : Nat), .int .i64 0]) ∧ Below w.heap.size w w' := by
  have hb : Below w.heap.size w (w.alloc (.cells #[.int .u32 c, .int .i64 O, .int .i64 I, .int .i64 T, .int .u32 n] 24)) := (Below.refl _ _).alloc (Nat.le_refl _) _
  have hF := pencode_good c O I T n (w.alloc (.cells #[.int .u32 c, .int .i64 O, .int .i64 I, .int .i64 T, .int .u32 n] 24)) hc hn hE
  obtain ⟨_, hO, hI, _, _⟩ := hE
  have hby := pe_lt (c := c) (o := O) (i := I) (t := T) (n := n) (by omega) (by omega)
  clear hO hI
  go_enter Try.func11, Try.ntmps11
  go_wp2_with fail
  refine hF.mono ?_
  rintro e w1 ⟨g, rfl, H1⟩
  obtain ⟨_, O1, hb1⟩ := H1.out
  have hb2 := below_all hb hb.size hb1
  obtain ⟨a1, c1, e1, R1⟩ := own_row8 O1 (fun k _ => hby k)
  simp only [Value.slice.injEq, true_and] at e1
  obtain ⟨rfl, rfl⟩ := e1
  have hB := cbits_row _ 14 14 (pe c O I T n) w1 R1 (by omega)
  clear hb hF hb1 H1 O1 R1 hby
  go_wp2_with fail
  refine hB.mono ?_
  rintro e w2 ⟨rfl, rfl⟩
  go_wp2_with fail
  go_ret2
  exact ⟨rfl, hb2⟩
theorem K14 : PM.K (pe 7 2 1 10 100) 14 = 4172569424 := by
  rw [PM.K_Kr (pe 7 2 1 10 100) 14 (fun i _ => pe_lt (by omega) (by omega) i)]
  decide +kernel
set_option maxRecDepth 100000 in
set_option maxHeartbeats 1000000 in
theorem awake9 (w : World) :
    Calls Try.prog 7 #[] w fun e w' => e = .returned (.bool true) ∧ Below w.heap.size w w' := by
  have hS := psig_good 7 2 1 10 100 w (by omega) (by omega) (by decide)
  rw [K14] at hS
  have hC := fun wx => check_any 0 0 0 0 0 wx 90 (by decide)
  go_enter Try.func7, Try.ntmps7
  go_wp2_with fail
  refine hS.mono ?_
  rintro e w1 ⟨rfl, hb1⟩
  clear hS
  go_wp2_with fail
  refine (hC _).mono ?_
  rintro e w2 ⟨rfl, hb2⟩
  have hb3 := below_all hb1 hb1.size hb2
  clear hb1 hb2 hC
  go_wp2_with fail
  go_ret
  exact ⟨rfl, hb3⟩
theorem nat32P {x : Int} (h : (Lit.int .u32 x).wf = true) : ∃ n : Nat, x = n ∧ n < 4294967296 := by
  have := bounds_u32 h
  exact ⟨x.toNat, by omega, by omega⟩
set_option maxRecDepth 100000 in
set_option maxHeartbeats 1000000 in
theorem paramBack_bad (c : Nat) (o i t : Int) (n : Nat) (w : World) (hE : ¬ okP c o i t n) :
    Calls Try.prog 5 #[.agg #[.int .u32 c, .int .i64 o, .int .i64 i, .int .i64 t, .int .u32 n]] w fun e w' => e = .returned (.bool true) ∧ Below w.heap.size w w' := by
  have hA : Below w.heap.size w (w.alloc (.cells #[.int .u32 c, .int .i64 o, .int .i64 i, .int .i64 t, .int .u32 n] 24)) := (Below.refl _ _).alloc (Nat.le_refl _) _
  have hAs : w.heap.size < (w.alloc (.cells #[.int .u32 c, .int .i64 o, .int .i64 i, .int .i64 t, .int .u32 n] 24)).heap.size := by simp
  have hX := bx_new w c o i t n
  have hw := awake9 (w.alloc (.cells #[.int .u32 c, .int .i64 o, .int .i64 i, .int .i64 t, .int .u32 n] 24))
  have hF := fun wx => pencode_bad c o i t n wx hE
  clear hE
  go_enter Try.func5, Try.ntmps5
  go_wp2_with fail
  generalize w.alloc (.cells #[.int .u32 c, .int .i64 o, .int .i64 i, .int .i64 t, .int .u32 n] 24) = wa at *
  refine hw.mono ?_
  rintro e w1 ⟨rfl, hb1⟩
  obtain ⟨x0, x1, x2, x3, x4⟩ := hX w1 hb1
  clear hw hX
  go_wp2_with fail
  refine (hF _).mono ?_
  rintro e w2 ⟨rfl, hb2⟩
  have hb3 := below_all hb1 hb1.size hb2
  have HB : Hid (_) := hA.trans (hb3.mono (Nat.le_of_lt hAs))
  clear hF hA hAs hb1 hb2 hb3 x0 x1 x2 x3 x4
  go_wp2_with fail
  go_ret
  exact ⟨rfl, HB.out⟩
set_option maxRecDepth 100000 in
set_option maxHeartbeats 2000000 in
theorem paramBack_good (c O I T n : Nat) (w : World) (hc : c < 4294967296) (hn : n < 4294967296) (hE : okP c O I T n) :
    Calls Try.prog 5 #[.agg #[.int .u32 c, .int .i64 O, .int .i64 I, .int .i64 T, .int .u32 n]] w fun e w' => e = .returned (.bool true) ∧ Below w.heap.size w w' := by
  have hA : Below w.heap.size w (w.alloc (.cells #[.int .u32 c, .int .i64 O, .int .i64 I, .int .i64 T, .int .u32 n] 24)) := (Below.refl _ _).alloc (Nat.le_refl _) _
  have hAs : w.heap.size < (w.alloc (.cells #[.int .u32 c, .int .i64 O, .int .i64 I, .int .i64 T, .int .u32 n] 24)).heap.size := by simp
  have hX := bx_new w c O I T n
  have hw := awake9 (w.alloc (.cells #[.int .u32 c, .int .i64 O, .int .i64 I, .int .i64 T, .int .u32 n] 24))
  have hF := fun wx => pencode_good c O I T n wx hc hn hE
  obtain ⟨_, hO, hI, hT, _⟩ := id hE
  have hby := pe_lt (c := c) (o := O) (i := I) (t := T) (n := n) (by omega) (by omega)
  obtain ⟨p0, p6, p10⟩ := pe_words c O I T n hc (by omega) hn
  have hD := fun a wx hr => pdecode_good a 14 (pe c O I T n) wx hr (by rw [p0, p6, p10, pe_o, pe_i]; exact hE)
  rw [p0, p6, p10, pe_o, pe_i] at hD
  clear p0 p6 p10 hO hI hT hE
  go_enter Try.func5, Try.ntmps5
  go_wp2_with fail
  generalize w.alloc (.cells #[.int .u32 c, .int .i64 O, .int .i64 I, .int .i64 T, .int .u32 n] 24) = wa at *
  refine hw.mono ?_
  rintro e w1 ⟨rfl, hb1⟩
  obtain ⟨x0, x1, x2, x3, x4⟩ := hX w1 hb1
  clear hw
  go_wp2_with fail
  refine (hF _).mono ?_
  rintro e w2 ⟨g, rfl, H2⟩
  obtain ⟨_, O2, hb2⟩ := H2.out
  obtain ⟨a2, c2, e2, R2⟩ := own_row8 O2 (fun k _ => hby k)
  simp only [Value.slice.injEq, true_and] at e2
  obtain ⟨rfl, rfl⟩ := e2
  have hb3 := below_all hb1 hb1.size hb2
  have hD2 := hD _ w2 R2
  clear hF H2 O2 R2 hby hD x0 x1 x2 x3 x4 hb2 hb1
  go_wp2_with fail
  refine hD2.mono ?_
  rintro e w3 ⟨rfl, hb3'⟩
  have hb4 := below_all hb3 hb3.size hb3'
  have hb5 := hb4.alloc hb4.size (.cells #[.int .u32 c, .int .i64 O, .int .i64 I, .int .i64 T, .int .u32 n] 24)
  obtain ⟨y0, y1, y2, y3, y4⟩ := hX _ hb5
  have HB : Hid (_) := hA.trans (hb5.mono (Nat.le_of_lt hAs))
  clear hD2 hb3 hb3' hb4 hb5 hX hA hAs
  go_wp2_with fail
  go_ret
  exact ⟨rfl, HB.out⟩
theorem paramBack_walk (a0_0 : Int) (a0_1 : Int) (a0_2 : Int) (a0_3 : Int) (a0_4 : Int) (w : World) (w0_0 : (Lit.int .u32 a0_0).wf = true) (_ : (Lit.int .i64 a0_1).wf = true) (_ : (Lit.int .i64 a0_2).wf = true) (_ : (Lit.int .i64 a0_3).wf = true) (w0_4 : (Lit.int .u32 a0_4).wf = true) :
    Calls Try.prog 5 #[.agg #[.int .u32 a0_0, .int .i64 a0_1, .int .i64 a0_2, .int .i64 a0_3, .int .u32 a0_4]] w fun e w' => e = .returned (.bool true) ∧ Below w.heap.size w w' := by
  obtain ⟨c, rfl, hc⟩ := nat32P w0_0
  obtain ⟨n, rfl, hn⟩ := nat32P w0_4
  by_cases hE : okP c a0_1 a0_2 a0_3 n
  · obtain ⟨_, hO, hI, hT, _⟩ := id hE
    obtain ⟨O, rfl⟩ : ∃ K : Nat, a0_1 = K := ⟨a0_1.toNat, by omega⟩
    obtain ⟨I, rfl⟩ : ∃ K : Nat, a0_2 = K := ⟨a0_2.toNat, by omega⟩
    obtain ⟨T, rfl⟩ : ∃ K : Nat, a0_3 = K := ⟨a0_3.toNat, by omega⟩
    exact paramBack_good c O I T n w hc hn hE
  · exact paramBack_bad c a0_1 a0_2 a0_3 n w hE

end Go.Proofs.Ytikdkbcekibakaa
