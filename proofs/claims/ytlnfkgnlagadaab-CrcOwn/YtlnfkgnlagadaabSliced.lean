/- The engine that takes four bytes at a time. -/
import Derived.Test.YtlnfkgnlagadaabEngines
namespace Go.Proofs.Ytlnfkgnlagadaab
open Go.RowKit

def Zc68 : Array Value := #[.int .u32 0, .int .i32 0, .int .u32 0, .int .u32 0] ++ Array.replicate 1024 (.int .u32 0)
theorem zv61 (w : World) : (zeroValue 68).run Try.prog w = .ok (.agg Zc68) w := by kernel_rfl
theorem z61 : Zc68.size = 1028 ∧ Zc68[0]? = some (.int .u32 0) ∧ Zc68[1]? = some (.int .i32 0) ∧ Zc68[3]? = some (.int .u32 0) := by
  refine ⟨by kernel_rfl, by kernel_rfl, by kernel_rfl, by kernel_rfl⟩
set_option maxHeartbeats 1000000 in
theorem newSliced_any (w : World) : Calls Try.prog 15 #[] w fun e w' => e = .returned (.pointer (some ⟨w.heap.size, 0, none⟩)) ∧ w' = w.alloc (.cells Zc68 68) := by
  have hzv := zv61
  go_enter Try.func15, Try.ntmps15
  go_wp2
  go_ret
  exact ⟨rfl, rfl⟩
theorem newSliced_eng (w : World) : Eng (w.alloc (.cells Zc68 68)) w.heap.size 68 1028 0 0 0 0 Zc68 :=
  ⟨heap_alloc_new w _, z61.1, z61.2.1, z61.2.2.1, z61.2.2.2, fun k hk => by omega⟩
theorem four_num (x0 x1 x2 x3 : Nat) (h0 : x0 < 4294967296) (h1 : x1 < 4294967296) (h2 : x2 < 4294967296) (h3 : x3 < 4294967296) :
    bits .xor .u32 (bits .xor .u32 (bits .xor .u32 (x0 : Int) (x1 : Int)) (x2 : Int)) (x3 : Int) = ((x0 ^^^ x1 ^^^ x2 ^^^ x3 : Nat) : Int) := by
  have l1 := Nat.xor_lt_two_pow (n := 32) h0 h1
  have l2 := Nat.xor_lt_two_pow (n := 32) l1 h2
  rw [xor32 _ _ h0 h1, xor32 _ _ l1 h2, xor32 _ _ l2 h3]
set_option maxRecDepth 100000 in
set_option maxHeartbeats 2000000 in
theorem four_any (b x ty n d l u : Nat) (cur : Array Value) (w : World) (h : Eng w b ty n d l u 4 cur) (hx : x < 4294967296) :
    Calls Try.prog 28 #[.pointer (some ⟨b, 0, none⟩), .int .u32 x] w fun e w' => e = .returned (.int .u32 ((EK 3 (x / 16777216) ^^^ EK 2 (x / 65536 % 256) ^^^ EK 1 (x / 256 % 256) ^^^ EK 0 (x % 256) : Nat) : Int)) ∧ ∃ m, w' = w.drewN m := by
  have hn := four_num _ _ _ _ (EK_lt 3 (x / 16777216)) (EK_lt 2 (x / 65536 % 256)) (EK_lt 1 (x / 256 % 256)) (EK_lt 0 (x % 256))
  have c3 := (h.cell _).trans (h.words 3 (by omega) (x / 16777216) (by omega))
  have c2 := (h.cell _).trans (h.words 2 (by omega) (x / 65536 % 256) (by omega))
  have c1 := (h.cell _).trans (h.words 1 (by omega) (x / 256 % 256) (by omega))
  have c0 := (h.cell _).trans (h.words 0 (by omega) (x % 256) (by omega))
  have e3 : (x : Int) / 16777216 = ((x / 16777216 : Nat) : Int) := by omega
  have e2 : (x : Int) / 65536 % 256 = ((x / 65536 % 256 : Nat) : Int) := by omega
  have e1 : (x : Int) / 256 % 256 = ((x / 256 % 256 : Nat) : Int) := by omega
  have e0 : (x : Int) % 256 = ((x % 256 : Nat) : Int) := by omega
  have l3 : ((x / 16777216 : Nat) : Int) < 256 := by omega
  have l2 : ((x / 65536 % 256 : Nat) : Int) < 256 := by omega
  have l1 : ((x / 256 % 256 : Nat) : Int) < 256 := by omega
  have l0 : ((x % 256 : Nat) : Int) < 256 := by omega
  clear h
  generalize EK 3 (x / 16777216) = y3 at *
  generalize EK 2 (x / 65536 % 256) = y2 at *
  generalize EK 1 (x / 256 % 256) = y1 at *
  generalize EK 0 (x % 256) = y0 at *
  generalize x / 16777216 = x3 at *
  generalize x / 65536 % 256 = x2 at *
  generalize x / 256 % 256 = x1 at *
  generalize x % 256 = x0 at *
  generalize y3 ^^^ y2 ^^^ y1 ^^^ y0 = y at *
  go_enter Try.func28, Try.ntmps28
  go_wp2_with fail
  go_quiet (fail)
  go_wp2
  go_ret
  exact ⟨rfl, _, rfl⟩
/-- One table, as a value. -/
def CW (k : Nat) : Array Value := ((List.range 256).map fun i => Value.int .u32 (EK k i : Nat)).toArray
theorem CW_size (k : Nat) : (CW k).size = 256 := by simp [CW]
theorem CW_get (k i : Nat) (h : i < 256) : (CW k)[i]? = some (.int .u32 (EK k i : Nat)) := by simp [CW, h]
theorem wp_load_at {P : Program} {o : Oper} {a : Act} {w : World} {K : Act → World → Prop} {Q : Exit → Act → World → Prop} (ty : TypeId) (x : Operand) (ho : o.op = .load ty x)
    (g off : Nat) (hx : a.eval x = .pointer (some ⟨g, off, none⟩)) (cs : Array Value) (d : TypeDesc) (hg : ∀ j v, cs[j]? = some v → w.cell? ⟨g, off + j, none⟩ = some v)
    (hu : P.underlying ty = some d) (hd : (match d with | .struct _ | .array _ _ => true | _ => false) = true) (hi : (P.info? ty).map (·.size) = some cs.size)
    (h : K (a.put o.dst (.agg cs)) w) : o.wp P a w K Q := by
  have hl : (loadCells ⟨g, off, none⟩ cs.toList.length).run P w = .ok cs.toList.toArray w :=
    run_loadCells_list (P := P) w ⟨g, off, none⟩ cs.toList (fun j v hv => by
      rw [Go.WideShapes.add_plain]
      exact hg j v (by simpa using hv))
  have hlv : (loadVar ty ⟨g, off, none⟩).run P w = .ok (.agg cs) w := by
    cases hq : P.info? ty with
    | none => simp [hq] at hi
    | some i =>
      have hs : i.size = cs.size := by simpa [hq] using hi
      have hagg : (isAgg ty).run P w = .ok true w := by
        unfold isAgg
        rw [Sem.run_bind, run_underlying hu w]
        cases d <;> simp_all
      simp only [Array.length_toList, Array.toArray_toList] at hl
      simp [loadVar, Sem.run_bind, hagg, sizeOf, typeInfo, hq, hs, hl]
  unfold Oper.wp execOp
  simp only [ho, hx, Instr.loadAt, Instr.sureAddr, Sem.run_bind, Sem.run_pure, Result.andThen_ok, hlv]
  exact h
/-- The next table, its first i words. -/
def Part (cur : Array Value) (k i : Nat) : Prop := ∀ j, j < i → cur[4 + 256 * (k + 1) + j]? = some (.int .u32 (EK (k + 1) j : Nat))
theorem Eng.word {w : World} {b ty n d l u m p : Nat} {cur : Array Value} (h : Eng w b ty n d l u m cur) (hp : 4 + 256 * m ≤ p) (v : Value) : Eng (w.setCell ⟨b, p, none⟩ v) b ty n d l u m (cur.setIfInBounds p v) :=
  ⟨heap_setCell_same _ _ _ _ _ _ h.at_, by simpa using h.size, by rw [get_set_ne (by omega)]; exact h.c0, by rw [get_set_ne (by omega)]; exact h.c1, by rw [get_set_ne (by omega)]; exact h.c3, fun k hk i hi => by
    have : 256 * k + 256 ≤ 256 * m := by omega
    rw [get_set_ne (by omega)]; exact h.words k hk i hi⟩
theorem Eng.cast {w : World} {b ty n d l u m m' : Nat} {cur : Array Value} (h : Eng w b ty n d l u m cur) (e : m = m') : Eng w b ty n d l u m' cur := e ▸ h
theorem Eng.more {w : World} {b ty n d l u k : Nat} {cur : Array Value} (h : Eng w b ty n d l u (k + 1) cur) (hp : Part cur k 256) : Eng w b ty n d l u (k + 2) cur :=
  ⟨h.at_, h.size, h.c0, h.c1, h.c3, fun k' hk' i hi => by
    by_cases e : k' = k + 1
    · subst e; exact hp i hi
    · exact h.words k' (by omega) i hi⟩
theorem Part.more {cur : Array Value} {k i : Nat} (h : Part cur k i) (hs : 4 + 256 * (k + 1) + i < cur.size) : Part (cur.setIfInBounds (4 + 256 * (k + 1) + i) (.int .u32 (EK (k + 1) i : Nat))) k (i + 1) := by
  intro j hj
  by_cases e : j = i
  · subst e; exact get_set_eq hs
  · rw [get_set_ne (by omega)]; exact h j (by omega)
theorem info_u32 : (Try.prog.info? 23).map (fun i => (i.zero, i.size, i.bytes)) = some (some (.int .u32 0), 1, 4) := by kernel_rfl
theorem und_u32 : Try.prog.underlying 23 = some (.int .u32) := by kernel_rfl
theorem index256 (cs : Array Value) (i : Nat) (v : Value) (hi : i < 256) (h : cs[i]? = some v) (w : World) : (Instr.index 63 (.agg cs) (.int .i64 (i : Int))).run Try.prog w = .ok v w := by
  obtain ⟨i0, h0, _, hs, _⟩ := info_parts info_u32
  have h' : cs[i]? = some v := h
  simp [Instr.index, asIntOf, run_underlying und256, sizeOf, typeInfo, h0, hs, part, h', hi]
set_option maxRecDepth 100000 in
set_option maxHeartbeats 2000000 in
theorem sbuild_any (b : Nat) (cur : Array Value) (w : World) (h : Eng w b 68 1028 0 1 0 0 cur) :
    Calls Try.prog 27 #[.pointer (some ⟨b, 0, none⟩)] w fun e w' => e = .returned (.tuple #[]) ∧ Hid (Keep b w w' ∧ ∃ cur, Eng w' b 68 1028 0 1 1 4 cur) := by
  have hBW : ∀ k, Calls Try.prog 34 #[] (w.drewN k) fun e w2 => ∃ cs cur1, e = .returned (.agg cs) ∧ (storeCells ⟨b, 4, none⟩ cs.toList).run Try.prog w2 = .ok () (w2.setRow b cur1) ∧ cs.size = 256 ∧ Hid (Keep b w (w2.setRow b cur1) ∧ Eng (w2.setRow b cur1) b 68 1028 0 1 0 1 cur1) := by
    intro k
    refine (byteWords_any (w.drewN k)).mono ?_
    rintro e w2 ⟨cs, rfl, hcs, hbel⟩
    have hbel2 : Below w.heap.size w w2 := ⟨hbel.os, hbel.tape, hbel.output, hbel.size, hbel.block⟩
    have h2 := h.below hbel2
    have h3 := h2.first (by omega) hcs
    exact ⟨cs, _, rfl, store_agg w2 b 4 _ cur cs h2.at_ (by have := h2.size; have := hcs.size; omega) hcs.one, hcs.size, (Keep.of_below hbel2).trans (Keep.setRow b _ _), h3⟩
  clear h
  go_enter Try.func27, Try.ntmps27
  go_upto_region 0 with fail
  go_cut [7, 8, 9, 10] (fun _ _ _ _ wx => Hid (Keep b w wx ∧ ∃ cur, Eng wx b 68 1028 0 1 0 1 cur))
  case first =>
    go_region_with (go_at_call 34; refine (hBW 1).mono ?_; rintro e w2 ⟨cs, cur1, rfl, hst, hsz, H1⟩)
    go_wp2_with fail
    go_meet
    case rel => exact ⟨H1.out.1, _, H1.out.2⟩
  case rest =>
    clear hBW
    obtain ⟨hk1, cur1, h1⟩ := hcut
    have hlt1 := h1.lt
    have h2 := h1.below ((Below.refl wc.heap.size wc).alloc (Nat.le_refl _) (.cells #[.int .u8 0] 5))
    have hk2 : Keep b w (wc.alloc (.cells #[.int .u8 0] 5)) := hk1.trans (Keep.of_below ((Below.refl wc.heap.size wc).alloc (Nat.le_refl _) _))
    have hc2 : (wc.alloc (.cells #[.int .u8 0] 5)).cell? ⟨wc.heap.size, 0, none⟩ = some (.int .u8 0) := by simp
    have H2 : Hid (_) := And.intro hk2 (And.intro h2 hc2)
    clear hk1 h1 h2 hk2 hc2
    go_wp2_with fail
    go_loopw [3, 4, 5, 12, 20, 21] (fun _ _ _ c _ _ wr => ∃ k cur, k ≤ 3 ∧ c = .int .i64 ((k : Nat) : Int) ∧ Keep b w wr ∧ Eng wr b 68 1028 0 1 0 (k + 1) cur ∧ wr.cell? ⟨wc.heap.size, 0, none⟩ = some (.int .u8 0)) (fun _ _ _ c _ _ _ => 3 - (intOf c).toNat)
    case atStart => exact ⟨0, cur1, by omega, rfl, H2.out.1, H2.out.2.1, H2.out.2.2⟩
    case round =>
      clear H2
      obtain ⟨k, curk, hk3, rfl, hkeep, heng, hnot⟩ := hrel
      by_cases hlt : k < 3
      · have HE : Hid (_) := And.intro hkeep (And.intro heng hnot)
        clear hkeep heng hnot
        go_wp2_with fail
        refine wp_load_at 63 (.tmp 19) rfl b (4 + k * 256) rfl (CW k) _ ?hcw und256 rfl (by rw [info256, CW_size]) ?_
        case hcw =>
          intro j v hv
          have hj : j < 256 := by
            have := (Array.getElem?_eq_some_iff.1 hv).1
            rwa [CW_size] at this
          rw [CW_get k j hj] at hv
          cases hv
          rw [HE.out.2.1.cell, show 4 + k * 256 + j = 4 + 256 * k + j by omega]
          exact HE.out.2.1.words k (by omega) j hj
        have hix := fun (i : Nat) (hi : i < 256) (w : World) => index256 (CW k) i _ hi (CW_get k i hi) w
        generalize CW k = cwk at *
        go_wp2_with fail
        go_loopw [4, 5, 21] (fun _ _ c wr => ∃ i cur, i ≤ 256 ∧ c = .int .i64 ((i : Nat) : Int) ∧ Keep b w wr ∧ Eng wr b 68 1028 0 1 0 (k + 1) cur ∧ Part cur k i ∧ wr.cell? ⟨wc.heap.size, 0, none⟩ = some (.int .u8 0)) (fun _ _ c _ => 256 - (intOf c).toNat)
        case atStart => exact ⟨0, curk, by omega, rfl, HE.out.1, HE.out.2.1, (fun j hj => by omega), HE.out.2.2⟩
        case round =>
          clear HE
          obtain ⟨i, curi, hi, rfl, hkeep, heng, hpart, hnot⟩ := hrel
          by_cases hlt2 : i < 256
          · have hixi := hix i hlt2
            have hRN : Row8 wr.drew (some ⟨wc.heap.size, 0, none⟩) 1 1 (fun _ => 0) := ⟨fun _ _ => by omega, (fun hx => by cases hx), (fun x hx j hj => by
              cases hx
              obtain rfl : j = 0 := by omega
              exact hnot), Nat.le_refl _⟩
            have hS := sumBytes_row (EK k i) (some ⟨wc.heap.size, 0, none⟩) 1 1 b 4 (fun _ => 0) wr.drew (EK_lt k i) (by omega) hRN (heng.drew.tables (by omega))
            rw [EK_succ] at hS
            have hsz := heng.size
            obtain ⟨old, hold⟩ : ∃ old, curi[4 + (k + 1) * 256 + i]? = some old := ⟨_, Array.getElem?_eq_getElem (by omega)⟩
            have hcell := (heng.cell (4 + (k + 1) * 256 + i)).trans hold
            have hfro := heng.frozen (4 + (k + 1) * 256 + i)
            have hE2 := heng.drew.word (p := 4 + (k + 1) * 256 + i) (by omega) (.int .u32 (EK (k + 1) i : Nat))
            have hP2 := hpart.more (by omega)
            rw [show 4 + 256 * (k + 1) + i = 4 + (k + 1) * 256 + i by omega] at hP2
            have hK2 : Keep b w (wr.drew.setCell ⟨b, 4 + (k + 1) * 256 + i, none⟩ (.int .u32 (EK (k + 1) i : Nat))) := (hkeep.trans (Keep.drew b _)).trans (Keep.setCell b _ _ _)
            have hN2 : (wr.drew.setCell ⟨b, 4 + (k + 1) * 256 + i, none⟩ (.int .u32 (EK (k + 1) i : Nat))).cell? ⟨wc.heap.size, 0, none⟩ = some (.int .u8 0) := by
              rw [World.cell?_setCell_other _ _ _ _ (by intro e; have := congrArg Addr.block e; simp at this; omega)]; exact hnot
            have H2 : Hid (_) := And.intro hK2 (And.intro hE2 (And.intro hP2 hN2))
            obtain ⟨k1, hk1⟩ : ∃ k1, k1 = k + 1 := ⟨_, rfl⟩
            rw [← hk1] at hcell hfro H2 hS
            have hk1I : (k : Int) + 1 = (k1 : Int) := by omega
            have hk1W : wrap64 ((k : Int) + 1) = (k1 : Int) := by unfold wrap64; omega
            have hk1V : IntKind.i64.wrap ((k : Int) + 1) = (k1 : Int) := by rw [IntKind.wrap_i64]; omega
            have hk1U : wrap64 (k1 : Int) = (k1 : Int) := by unfold wrap64; omega
            have hk1T : IntKind.i64.wrap (k1 : Int) = (k1 : Int) := by rw [IntKind.wrap_i64]; omega
            have hk1L : (k1 : Int) < 4 := by omega
            have hk1N : k1 < 4 := by omega
            have HK1 : Hid (k1 = k + 1) := hk1
            clear hold hk1 hix hkeep heng hpart hE2 hP2 hK2 hN2 hRN hnot
            generalize EK k1 i = ek1 at *
            generalize EK k i = ek at *
            go_wp2_with fail
            go_region_with (go_at_call 26; refine hS.mono ?_; rintro e w2 ⟨rfl, rfl⟩)
            go_wp2_with fail
            go_roundw
            case rel => exact ⟨i + 1, _, by omega, by go_num, H2.out.1, H2.out.2.1.cast HK1.out, H2.out.2.2.1, H2.out.2.2.2⟩
            case measure => simp [intOf] <;> omega
          · obtain rfl : i = 256 := by omega
            have hE3 := heng.more hpart
            clear hix heng hpart
            go_wp2
            go_roundw
            case rel => exact ⟨k + 1, curi, by omega, by go_num, hkeep, hE3, hnot⟩
            case measure => simp [intOf] <;> omega
      · obtain rfl : k = 3 := by omega
        have hS := bstore ⟨b, 3, none⟩ _ _ ((heng.cell 3).trans heng.c3) (heng.frozen 3)
        have hE := heng.drew.built (u' := 1) (by omega)
        have hK : Keep b w (wr.drew.setCell ⟨b, 3, none⟩ (.int .u32 ((1 : Nat) : Int))) := (hkeep.trans (Keep.drew b _)).trans (Keep.setCell b 3 _ _)
        have H4 : Hid (_) := And.intro hK hE
        clear hkeep heng hE hK hnot
        go_wp2_with fail
        refine hS.mono ?_
        rintro e w' ⟨rfl, rfl⟩
        go_wp2_with fail
        go_end0
        exact ⟨rfl, H4.out.1, _, H4.out.2⟩
theorem EE (v : Nat) : PM.E (PM.E v) = PM.E (PM.C v (2 ^ 32)) := by
  unfold PM.E
  rw [PM.R_C_left PM.degG]
/-- Four bytes more, by the four tables. -/
theorem K_four (bs : Nat → Nat) (m : Nat) (h : ∀ i, i < m + 4 → bs i < 256) (x : Nat) (hx : x = PM.K bs m ^^^ (bs m * 16777216 + bs (m + 1) * 65536 + bs (m + 2) * 256 + bs (m + 3))) :
    EK 3 (x / 16777216) ^^^ EK 2 (x / 65536 % 256) ^^^ EK 1 (x / 256 % 256) ^^^ EK 0 (x % 256) = PM.K bs (m + 4) := by
  have hxl : x < 4294967296 := by
    rw [hx]
    refine Nat.xor_lt_two_pow (n := 32) (PM.K_lt bs m) ?_
    have := h m (by omega); have := h (m + 1) (by omega); have := h (m + 2) (by omega); have := h (m + 3) (by omega)
    omega
  have hw := PM.V_w4 x hxl
  have e32 : ∀ k i, EK k i = PM.E (PM.C i (2 ^ (8 * k))) := by
    intro k i
    unfold EK PM.E
    rw [PM.R_C_left PM.degG, PM.C_assoc, PM.C_assoc, PM.C_comm (2 ^ 32)]
  rw [e32, e32, e32, e32, ← PM.E_xor, ← PM.E_xor, ← PM.E_xor]
  have hv : PM.C (x / 16777216) (2 ^ (8 * 3)) ^^^ PM.C (x / 65536 % 256) (2 ^ (8 * 2)) ^^^ PM.C (x / 256 % 256) (2 ^ (8 * 1)) ^^^ PM.C (x % 256) (2 ^ (8 * 0)) = x := by
    have s0 := PM.V_succ8 (PM.w4 x) 0 (PM.w4_lt x 0)
    have s1 := PM.V_succ8 (PM.w4 x) 1 (PM.w4_lt x 1)
    have s2 := PM.V_succ8 (PM.w4 x) 2 (PM.w4_lt x 2)
    have s3 := PM.V_succ8 (PM.w4 x) 3 (PM.w4_lt x 3)
    rw [show PM.V (PM.fb (PM.w4 x)) (8 * 0) = 0 from rfl, PM.C_zero_left, Nat.zero_xor] at s0
    rw [s0] at s1
    rw [s1] at s2
    rw [s2] at s3
    rw [show 8 * (3 + 1) = 32 from rfl, hw] at s3
    rw [show PM.w4 x 0 = x / 16777216 % 256 from rfl, show PM.w4 x 1 = x / 65536 % 256 from rfl, show PM.w4 x 2 = x / 256 % 256 from rfl, show PM.w4 x 3 = x % 256 from rfl, Nat.mod_eq_of_lt (show x / 16777216 < 256 by omega)] at s3
    conv => rhs; rw [s3]
    rw [PM.C_xor_left, PM.C_xor_left, PM.C_xor_left, PM.C_assoc, PM.C_assoc, PM.C_assoc, PM.C_pow_pow, PM.C_pow_pow, show 8 * 3 = 8 + (8 + 8) from rfl, show 8 * 2 = 8 + 8 from rfl, show 8 * 1 = 8 from rfl, show 8 * 0 = 0 from rfl, Nat.pow_zero, PM.C_one_right]
  rw [hv, hx, PM.E_xor]
  have hV : PM.V (PM.fb fun i => bs (m + i)) 32 = bs m * 16777216 + bs (m + 1) * 65536 + bs (m + 2) * 256 + bs (m + 3) := PM.V4 _ (fun i hi => h _ (by omega))
  rw [← hV]
  unfold PM.K
  have e : PM.V (PM.fb bs) (8 * (m + 4)) = PM.C (PM.V (PM.fb bs) (8 * m)) (2 ^ 32) ^^^ PM.V (PM.fb fun i => bs (m + i)) 32 := by
    rw [show 8 * (m + 4) = 8 * m + 32 by omega, PM.V_add]
    congr 1
    apply PM.V_congr
    intro i _
    unfold PM.fb
    rw [show (8 * m + i) / 8 = m + i / 8 by omega, show (8 * m + i) % 8 = i % 8 by omega]
  rw [e, PM.E_xor, EE]
/-- A slice's length. -/
def lenOf : Value → Nat | .slice _ n _ => n | _ => 0
set_option maxRecDepth 100000 in
set_option maxHeartbeats 2000000 in
theorem ssum_first (w0 w : World) (a : Option Addr) (len cap : Nat) (bs : Nat → Nat) (b : Nat) (cur : Array Value) (hr : Row8 w0 a len cap bs) (hlen : len ≤ 9223372036854775807) (hbel : Below w0.heap.size w0 w) (hB : w0.heap.size ≤ b) (h : Eng w b 68 1028 0 0 0 0 cur) :
    Calls Try.prog 17 #[.pointer (some ⟨b, 0, none⟩), .slice a len cap] w fun e w' => e = .returned (.tuple #[.int .u32 (PM.K bs len : Nat), .int .i64 0]) ∧ Hid (Keep b w w' ∧ ∃ cur, Eng w' b 68 1028 1 0 1 4 cur) := by
  have hcf : ∀ w : World, (callFunc 27 #[.pointer (some ⟨b, 0, none⟩)]).run Try.prog w = .ok (.enter 27 #[.pointer (some ⟨b, 0, none⟩)]) w := fun w => by kernel_rfl
  have hD := do_first 27 b (.pointer (some ⟨b, 0, none⟩)) w (fun w2 => Keep b (w.setCell ⟨b, 1, none⟩ (.int .i32 1)) w2 ∧ ∃ cur, Eng w2 b 68 1028 0 1 1 4 cur) hcf
    ((h.cell 0).trans h.c0) ((h.cell 1).trans h.c1) (h.frozen 1) (sbuild_any b _ _ (h.lock (l' := 1) (by omega)))
    (fun w2 ⟨_, _, h2⟩ => ⟨(h2.cell 0).trans h2.c0, (h2.cell 1).trans h2.c1, h2.frozen 0, h2.frozen 1⟩)
  have hmf := mkFn
  have hsz := hbel.size
  go_enter Try.func17, Try.ntmps17
  go_wp2_with fail
  refine hD.mono ?_
  rintro e w3 ⟨rfl, w2, ⟨hk2, cur2, h2⟩, hw3⟩
  obtain ⟨hk3, cur3, h3⟩ := Eng.behind hk2 h2 (by omega)
  rw [← hw3] at hk3 h3
  have hbel3 := hk3.below hbel hB hsz
  clear hD hk2 h2 hw3 hmf hcf h hbel
  go_wp2_with fail
  go_loopw [1, 6] (fun va vs wr => ∃ m ax cx nq, 4 * m ≤ len ∧ va = .slice ax (len - 4 * m) cx ∧ vs = .int .u32 (PM.K bs (4 * m) : Nat) ∧ wr = w3.drewN nq ∧ Row8 w0 ax (len - 4 * m) cx (fun i => bs (4 * m + i))) (fun va _ _ => lenOf va)
  case atStart => exact ⟨0, a, cap, 0, by omega, rfl, by rw [Nat.mul_zero, PM.K_zero]; rfl, rfl, by simpa using hr⟩
  case round =>
    obtain ⟨m, ax, cx, nq, hm, rfl, rfl, rfl, hrx⟩ := hrel
    have hrw := (hrx.below hbel3).drewN nq
    have h3q : Eng (w3.drewN nq) b 68 1028 1 0 1 4 cur3 := h3.below (below_drewN (Below.refl _ _) nq)
    by_cases h4 : 4 ≤ len - 4 * m
    · obtain ⟨bx, offx, rfl, _, _⟩ := hrx.plain (by omega)
      have hcx := hrx.le
      have s := hrw.src _ rfl
      have q := hrx.byte
      have t0 := s 0 (by omega); have t1 := s 1 (by omega); have t2 := s 2 (by omega); have t3 := s 3 (by omega)
      rw [Go.WideShapes.add_plain] at t0 t1 t2 t3
      have hW := word_any bx offx (len - 4 * m) cx _ _ _ _ (w3.drewN nq) (by omega) (q 0 (by omega)) (q 1 (by omega)) (q 2 (by omega)) (q 3 (by omega)) t0 t1 t2 t3
      have hb4 : ∀ i, i < 4 * m + 4 → bs i < 256 := fun i hi => hr.byte i (by omega)
      have hK4 := K_four bs (4 * m) hb4 _ rfl
      have hwl : bs (4 * m) * 16777216 + bs (4 * m + 1) * 65536 + bs (4 * m + 2) * 256 + bs (4 * m + 3) < 4294967296 := by
        have := hb4 (4 * m) (by omega); have := hb4 (4 * m + 1) (by omega); have := hb4 (4 * m + 2) (by omega); have := hb4 (4 * m + 3) (by omega)
        omega
      have hX := xor32 _ _ (PM.K_lt bs (4 * m)) hwl
      have hxl := Nat.xor_lt_two_pow (n := 32) (PM.K_lt bs (4 * m)) hwl
      have hF := fun k => four_any b _ _ _ _ _ _ _ (w3.drewN (nq + k)) (h3.below (below_drewN (Below.refl _ _) (nq + k))) hxl
      rw [hK4] at hF
      simp only [Nat.add_zero] at hW
      have HR : Hid (Row8 w0 (if cx = 4 then some ⟨bx, offx, none⟩ else some ⟨bx, offx + 4, none⟩) (len - 4 * (m + 1)) (cx - 4) (fun i => bs (4 * (m + 1) + i))) := by
        show Row8 _ _ _ _ _
        by_cases e4 : cx = 4
        · rw [if_pos e4]
          exact ⟨fun i hi => by omega, (fun hx => by cases hx), fun x hx i hi => by omega, by omega⟩
        · rw [if_neg e4]
          have h := hrx.from_ 4 h4
          rw [show len - 4 * m - 4 = len - 4 * (m + 1) by omega] at h
          exact h.congr (fun i _ => by rw [show 4 * (m + 1) + i = 4 * m + (4 + i) by omega])
      obtain ⟨ln, hln⟩ : ∃ ln, ln = len - 4 * m := ⟨_, rfl⟩
      rw [← hln] at hW ⊢
      have hln4 : (4 : Int) ≤ (ln : Int) := by omega
      have hlnN : 4 ≤ ln := by omega
      have hlnc : ln ≤ cx := by omega
      have HL : Hid (ln - 4 = len - 4 * (m + 1)) := (show ln - 4 = len - 4 * (m + 1) by omega)
      have HL2 : Hid (4 * (m + 1) ≤ len) := (show 4 * (m + 1) ≤ len by omega)
      obtain ⟨kn, hkn⟩ : ∃ kn, kn = PM.K bs (4 * m + 4) := ⟨_, rfl⟩
      rw [← hkn] at hF
      have HK : Hid (kn = PM.K bs (4 * m + 4)) := hkn
      clear hkn
      have hdg : decide ((4 : Int) ≤ (ln : Int)) = true := by simp; omega
      clear hK4 s q t0 t1 t2 t3 hrw hrx hln hcx hm h4 hb4 hwl
      generalize PM.K bs (4 * m) = k0 at *
      generalize bs (4 * m) * 16777216 + bs (4 * m + 1) * 65536 + bs (4 * m + 2) * 256 + bs (4 * m + 3) = wd at *
      generalize k0 ^^^ wd = xx at *
      go_wp2_with fail
      refine hW.mono ?_
      rintro e w4 ⟨rfl, n4, rfl⟩
      go_wp2_with fail
      refine (hF n4).mono ?_
      rintro e w5 ⟨rfl, n5, rfl⟩
      go_wp2_with fail
      go_roundw
      case rel => exact ⟨m + 1, (if cx = 4 then some ⟨bx, offx, none⟩ else some ⟨bx, offx + 4, none⟩), cx - 4, nq + n4 + n5, HL2.out, by rw [HL.out], by rw [HK.out]; rfl, by simp, HR.out⟩
      case measure => simp [lenOf]; omega
    · have hS := sumBytes_row (PM.K bs (4 * m)) ax (len - 4 * m) cx b 4 _ _ (PM.K_lt _ _) (by omega) hrw (h3q.tables (by omega))
      rw [S_K bs (4 * m) (len - 4 * m) (fun i hi => hr.byte i (by omega)), show 4 * m + (len - 4 * m) = len by omega] at hS
      obtain ⟨ln, hln⟩ : ∃ ln, ln = len - 4 * m := ⟨_, rfl⟩
      rw [← hln] at hS ⊢
      have hdg : decide ((4 : Int) ≤ (ln : Int)) = false := by simp; omega
      have hlnN : ¬ 4 ≤ ln := by omega
      clear hrw hrx h3q hln h4
      go_wp2_with fail
      refine hS.mono ?_
      rintro e w' ⟨rfl, rfl⟩
      go_wp2_with fail
      go_ret2
      exact ⟨rfl, hk3.trans ⟨rfl, rfl, rfl, Nat.le_refl _, fun _ _ _ => rfl⟩, cur3, h3.below (below_drewN (Below.refl _ _) nq)⟩
set_option maxRecDepth 100000 in
set_option maxHeartbeats 2000000 in
theorem ssum_again (w0 w3 : World) (a : Option Addr) (len cap : Nat) (bs : Nat → Nat) (b : Nat) (cur3 : Array Value) (hr : Row8 w0 a len cap bs) (hlen : len ≤ 9223372036854775807) (hbel3 : Below w0.heap.size w0 w3) (h3 : Eng w3 b 68 1028 1 0 1 4 cur3) :
    Calls Try.prog 17 #[.pointer (some ⟨b, 0, none⟩), .slice a len cap] w3 fun e w' => e = .returned (.tuple #[.int .u32 (PM.K bs len : Nat), .int .i64 0]) ∧ ∃ m, w' = w3.drewN m := by
  have hD := fun fv => do_done b fv w3 ((h3.cell 0).trans h3.c0)
  have hmf := mkFn
  go_enter Try.func17, Try.ntmps17
  go_wp2_with fail
  refine (hD _).mono ?_
  rintro e w' ⟨rfl, hw'⟩
  subst hw'
  clear hD hmf
  go_wp2_with fail
  go_loopw [1, 6] (fun va vs wr => ∃ m ax cx nq, 4 * m ≤ len ∧ va = .slice ax (len - 4 * m) cx ∧ vs = .int .u32 (PM.K bs (4 * m) : Nat) ∧ wr = w'.drewN nq ∧ Row8 w0 ax (len - 4 * m) cx (fun i => bs (4 * m + i))) (fun va _ _ => lenOf va)
  case atStart => exact ⟨0, a, cap, 0, by omega, rfl, by rw [Nat.mul_zero, PM.K_zero]; rfl, rfl, by simpa using hr⟩
  case round =>
    obtain ⟨m, ax, cx, nq, hm, rfl, rfl, rfl, hrx⟩ := hrel
    have hrw := (hrx.below hbel3).drewN nq
    have h3q : Eng (w'.drewN nq) b 68 1028 1 0 1 4 cur3 := h3.below (below_drewN (Below.refl _ _) nq)
    by_cases h4 : 4 ≤ len - 4 * m
    · obtain ⟨bx, offx, rfl, _, _⟩ := hrx.plain (by omega)
      have hcx := hrx.le
      have s := hrw.src _ rfl
      have q := hrx.byte
      have t0 := s 0 (by omega); have t1 := s 1 (by omega); have t2 := s 2 (by omega); have t3 := s 3 (by omega)
      rw [Go.WideShapes.add_plain] at t0 t1 t2 t3
      have hW := word_any bx offx (len - 4 * m) cx _ _ _ _ (w'.drewN nq) (by omega) (q 0 (by omega)) (q 1 (by omega)) (q 2 (by omega)) (q 3 (by omega)) t0 t1 t2 t3
      have hb4 : ∀ i, i < 4 * m + 4 → bs i < 256 := fun i hi => hr.byte i (by omega)
      have hK4 := K_four bs (4 * m) hb4 _ rfl
      have hwl : bs (4 * m) * 16777216 + bs (4 * m + 1) * 65536 + bs (4 * m + 2) * 256 + bs (4 * m + 3) < 4294967296 := by
        have := hb4 (4 * m) (by omega); have := hb4 (4 * m + 1) (by omega); have := hb4 (4 * m + 2) (by omega); have := hb4 (4 * m + 3) (by omega)
        omega
      have hX := xor32 _ _ (PM.K_lt bs (4 * m)) hwl
      have hxl := Nat.xor_lt_two_pow (n := 32) (PM.K_lt bs (4 * m)) hwl
      have hF := fun k => four_any b _ _ _ _ _ _ _ (w'.drewN (nq + k)) (h3.below (below_drewN (Below.refl _ _) (nq + k))) hxl
      rw [hK4] at hF
      simp only [Nat.add_zero] at hW
      have HR : Hid (Row8 w0 (if cx = 4 then some ⟨bx, offx, none⟩ else some ⟨bx, offx + 4, none⟩) (len - 4 * (m + 1)) (cx - 4) (fun i => bs (4 * (m + 1) + i))) := by
        show Row8 _ _ _ _ _
        by_cases e4 : cx = 4
        · rw [if_pos e4]
          exact ⟨fun i hi => by omega, (fun hx => by cases hx), fun x hx i hi => by omega, by omega⟩
        · rw [if_neg e4]
          have h := hrx.from_ 4 h4
          rw [show len - 4 * m - 4 = len - 4 * (m + 1) by omega] at h
          exact h.congr (fun i _ => by rw [show 4 * (m + 1) + i = 4 * m + (4 + i) by omega])
      obtain ⟨ln, hln⟩ : ∃ ln, ln = len - 4 * m := ⟨_, rfl⟩
      rw [← hln] at hW ⊢
      have hln4 : (4 : Int) ≤ (ln : Int) := by omega
      have hlnN : 4 ≤ ln := by omega
      have hlnc : ln ≤ cx := by omega
      have HL : Hid (ln - 4 = len - 4 * (m + 1)) := (show ln - 4 = len - 4 * (m + 1) by omega)
      have HL2 : Hid (4 * (m + 1) ≤ len) := (show 4 * (m + 1) ≤ len by omega)
      obtain ⟨kn, hkn⟩ : ∃ kn, kn = PM.K bs (4 * m + 4) := ⟨_, rfl⟩
      rw [← hkn] at hF
      have HK : Hid (kn = PM.K bs (4 * m + 4)) := hkn
      clear hkn
      have hdg : decide ((4 : Int) ≤ (ln : Int)) = true := by simp; omega
      clear hK4 s q t0 t1 t2 t3 hrw hrx hln hcx hm h4 hb4 hwl
      generalize PM.K bs (4 * m) = k0 at *
      generalize bs (4 * m) * 16777216 + bs (4 * m + 1) * 65536 + bs (4 * m + 2) * 256 + bs (4 * m + 3) = wd at *
      generalize k0 ^^^ wd = xx at *
      go_wp2_with fail
      refine hW.mono ?_
      rintro e w4 ⟨rfl, n4, rfl⟩
      go_wp2_with fail
      refine (hF n4).mono ?_
      rintro e w5 ⟨rfl, n5, rfl⟩
      go_wp2_with fail
      go_roundw
      case rel => exact ⟨m + 1, (if cx = 4 then some ⟨bx, offx, none⟩ else some ⟨bx, offx + 4, none⟩), cx - 4, nq + n4 + n5, HL2.out, by rw [HL.out], by rw [HK.out]; rfl, by simp, HR.out⟩
      case measure => simp [lenOf]; omega
    · have hS := sumBytes_row (PM.K bs (4 * m)) ax (len - 4 * m) cx b 4 _ _ (PM.K_lt _ _) (by omega) hrw (h3q.tables (by omega))
      rw [S_K bs (4 * m) (len - 4 * m) (fun i hi => hr.byte i (by omega)), show 4 * m + (len - 4 * m) = len by omega] at hS
      obtain ⟨ln, hln⟩ : ∃ ln, ln = len - 4 * m := ⟨_, rfl⟩
      rw [← hln] at hS ⊢
      have hdg : decide ((4 : Int) ≤ (ln : Int)) = false := by simp; omega
      have hlnN : ¬ 4 ≤ ln := by omega
      clear hrw hrx h3q hln h4
      go_wp2_with fail
      refine hS.mono ?_
      rintro e w' ⟨rfl, rfl⟩
      go_wp2_with fail
      go_ret2
      exact ⟨rfl, nq, rfl⟩
theorem ssum_nil (a : Option Addr) (len cap : Nat) (w : World) : Calls Try.prog 17 #[.pointer none, .slice a len cap] w fun e w' => e = .returned (.tuple #[.int .u32 0, .int .i64 1]) ∧ w' = w := by
  go_enter Try.func17, Try.ntmps17
  go_wp2
  go_ret2
  exact ⟨rfl, rfl⟩
/-- An engine: new, or built. -/
def St (w : World) (b ty n m : Nat) : Prop := (∃ cur, Eng w b ty n 0 0 0 0 cur) ∨ (∃ cur, Eng w b ty n 1 0 1 m cur)
theorem St.below {w w' : World} {b ty n m : Nat} (h : St w b ty n m) (hb : Below w.heap.size w w') : St w' b ty n m := by
  rcases h with ⟨c, h⟩ | ⟨c, h⟩
  · exact .inl ⟨c, h.below hb⟩
  · exact .inr ⟨c, h.below hb⟩
theorem St.keep {w w' : World} {b c ty n m : Nat} (h : St w b ty n m) (hb : Keep c w w') (hne : b ≠ c) : St w' b ty n m := by
  rcases h with ⟨cu, h⟩ | ⟨cu, h⟩
  · exact .inl ⟨cu, h.keep hb hne⟩
  · exact .inr ⟨cu, h.keep hb hne⟩
theorem St.lt {w : World} {b ty n m : Nat} (h : St w b ty n m) : b < w.heap.size := by
  rcases h with ⟨cu, h⟩ | ⟨cu, h⟩ <;> exact h.lt
theorem Keep.cell {b : Nat} {w w' : World} (h : Keep b w w') {p : Addr} (hp : p.block < w.heap.size) (hb : p.block ≠ b) : w'.cell? p = w.cell? p := World.cell?_of_block (w := w) (h.block p.block hp hb)
theorem Keep.drewN (b : Nat) (w : World) (m : Nat) : Keep b w (w.drewN m) := ⟨rfl, rfl, rfl, Nat.le_refl _, fun _ _ _ => rfl⟩
theorem tsum_st (w0 w : World) (a : Option Addr) (len cap : Nat) (bs : Nat → Nat) (b : Nat) (hr : Row8 w0 a len cap bs) (hlen : len ≤ 9223372036854775807) (hbel : Below w0.heap.size w0 w) (hB : w0.heap.size ≤ b) (h : St w b 65 260 1) :
    Calls Try.prog 16 #[.pointer (some ⟨b, 0, none⟩), .slice a len cap] w fun e w' => e = .returned (.tuple #[.int .u32 (PM.K bs len : Nat), .int .i64 0]) ∧ Hid (Keep b w w' ∧ ∃ cur, Eng w' b 65 260 1 0 1 1 cur) := by
  rcases h with ⟨cur, h⟩ | ⟨cur, h⟩
  · exact tsum_first w0 w a len cap bs b cur hr hlen hbel hB h
  · refine (tsum_again w0 w a len cap bs b cur hr hlen hbel h).mono ?_
    rintro e w' ⟨rfl, rfl⟩
    exact ⟨rfl, Keep.refl _ _, cur, h⟩
theorem ssum_st (w0 w : World) (a : Option Addr) (len cap : Nat) (bs : Nat → Nat) (b : Nat) (hr : Row8 w0 a len cap bs) (hlen : len ≤ 9223372036854775807) (hbel : Below w0.heap.size w0 w) (hB : w0.heap.size ≤ b) (h : St w b 68 1028 4) :
    Calls Try.prog 17 #[.pointer (some ⟨b, 0, none⟩), .slice a len cap] w fun e w' => e = .returned (.tuple #[.int .u32 (PM.K bs len : Nat), .int .i64 0]) ∧ Hid (Keep b w w' ∧ ∃ cur, Eng w' b 68 1028 1 0 1 4 cur) := by
  rcases h with ⟨cur, h⟩ | ⟨cur, h⟩
  · exact ssum_first w0 w a len cap bs b cur hr hlen hbel hB h
  · refine (ssum_again w0 w a len cap bs b cur hr hlen hbel h).mono ?_
    rintro e w' ⟨rfl, m, rfl⟩
    exact ⟨rfl, Keep.drewN _ _ _, cur, h.below (below_drewN (Below.refl _ _) m)⟩

end Go.Proofs.Ytlnfkgnlagadaab
