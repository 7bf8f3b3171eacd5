/- Part 39 of the texts on which the proof rests: contracts of Go functions. -/
import Derived.Test.YtpbcgpdfjplidaaGreatPkN36
import Derived.Test.YtpbcgpdfjplidaaGreatPkN37
namespace Go.Proofs.YtpbcgpdfjplidaaGreat
set_option maxRecDepth 100000
open Go.RowKit Go.Maps
set_option maxRecDepth 100000
set_option linter.unusedVariables false
theorem cnL_len (n : Nat) (h d m : Nat → Nat) : (cnL n h d m).length = n * 3 := by
  induction n with
  | zero => rfl
  | succ n ih =>
    have e : cnL (n + 1) h d m = cnL n h d m ++ [.pointer (some ⟨h n, 0, none⟩), .pointer (some ⟨d n, 0, none⟩), .pointer (some ⟨m n, 0, none⟩)] := by
      unfold cnL
      rw [List.range_succ, List.flatMap_append]
      simp
    rw [e, List.length_append, ih, Nat.succ_mul]
    rfl
theorem cnL_get (n : Nat) (h d m : Nat → Nat) : ∀ k, k < n → (cnL n h d m)[k * 3]? = some (.pointer (some ⟨h k, 0, none⟩)) ∧ (cnL n h d m)[k * 3 + 1]? = some (.pointer (some ⟨d k, 0, none⟩)) ∧ (cnL n h d m)[k * 3 + 2]? = some (.pointer (some ⟨m k, 0, none⟩)) := by
  induction n with
  | zero => intro k hk; omega
  | succ n ih =>
    intro k hk
    have e : cnL (n + 1) h d m = cnL n h d m ++ [.pointer (some ⟨h n, 0, none⟩), .pointer (some ⟨d n, 0, none⟩), .pointer (some ⟨m n, 0, none⟩)] := by
      unfold cnL
      rw [List.range_succ, List.flatMap_append]
      simp
    have hl : (cnL n h d m).length = n * 3 := by
      exact cnL_len n h d m
    rw [e]
    by_cases q : k = n
    · subst q
      refine ⟨?_, ?_, ?_⟩
      · rw [List.getElem?_append_right (by omega), hl, Nat.sub_self]
        rfl
      · rw [List.getElem?_append_right (by omega), hl, show k * 3 + 1 - k * 3 = 1 by omega]
        rfl
      · rw [List.getElem?_append_right (by omega), hl, show k * 3 + 2 - k * 3 = 2 by omega]
        rfl
    · have := ih k (by omega)
      refine ⟨?_, ?_, ?_⟩
      · rw [List.getElem?_append_left (by omega)]
        exact this.1
      · rw [List.getElem?_append_left (by omega)]
        exact this.2.1
      · rw [List.getElem?_append_left (by omega)]
        exact this.2.2
def cgV : Value → Nat
  | .slice (some a) _ _ => a.block
  | _ => 0
def ccV : Value → Nat
  | .slice _ _ c => c
  | _ => 0
theorem WB.conn {C : Wc} {w : World} (h : WB C w) {k : Nat} (hk : k < C.n) : C.vc = .slice (some ⟨cgV C.vc, 0, none⟩) C.n (ccV C.vc) ∧ w.cell? ⟨cgV C.vc, k * 3, none⟩ = some (.pointer (some ⟨C.hd k, 0, none⟩)) ∧ w.cell? ⟨cgV C.vc, k * 3 + 1, none⟩ = some (.pointer (some ⟨C.dd k, 0, none⟩)) ∧ w.cell? ⟨cgV C.vc, k * 3 + 2, none⟩ = some (.pointer (some ⟨C.dm k, 0, none⟩)) := by
  obtain ⟨h1, h2 | ⟨g, cap, cur, e, _, hg, rest⟩⟩ := h.rc
  · have : C.n = 0 := h2.2
    omega
  · have hr := h.rc
    obtain ⟨c0, c1, c2⟩ := cnL_get C.n C.hd C.dd C.dm k hk
    have e1 : cgV C.vc = g := by rw [e]; rfl
    have e2 : ccV C.vc = cap := by rw [e]; rfl
    rw [e1, e2]
    rw [e] at hr
    have hc := fun j hj => hr.cellAt j hj
    refine ⟨e, ?_, ?_, ?_⟩
    · rw [hc _ (by omega)]
      exact c0
    · rw [hc _ (by omega)]
      exact c1
    · rw [hc _ (by omega)]
      exact c2
set_option maxHeartbeats 1000000 in
theorem pat (h d m : Nat) (s : Int) (w : World) : Calls Tryz.prog 28 #[.agg #[.pointer (some ⟨h, 0, none⟩), .pointer (some ⟨d, 0, none⟩), .pointer (some ⟨m, 0, none⟩)], .int .i64 s] w fun r w' => r = .returned (if s = 1 then .iface 65 (.pointer (some ⟨h, 0, none⟩)) else .iface 66 (.pointer (some ⟨d, 0, none⟩))) ∧ Below w.heap.size w w' := by
  have kA := heap_alloc_new w (.cells #[.pointer (some ⟨h, 0, none⟩), .pointer (some ⟨d, 0, none⟩), .pointer (some ⟨m, 0, none⟩)] 69)
  have bA := belY (Below.refl _ w) (.cells #[.pointer (some ⟨h, 0, none⟩), .pointer (some ⟨d, 0, none⟩), .pointer (some ⟨m, 0, none⟩)] 69)
  obtain ⟨wa, hwa⟩ : ∃ y, w.alloc (.cells #[.pointer (some ⟨h, 0, none⟩), .pointer (some ⟨d, 0, none⟩), .pointer (some ⟨m, 0, none⟩)] 69) = y := ⟨_, rfl⟩
  rw [hwa] at kA bA
  have p0 : wa.cell? ⟨w.heap.size, 0, none⟩ = some (.pointer (some ⟨h, 0, none⟩)) := cell_of_row wa w.heap.size 0 _ _ _ kA
  have p1 : wa.cell? ⟨w.heap.size, 1, none⟩ = some (.pointer (some ⟨d, 0, none⟩)) := cell_of_row wa w.heap.size 1 _ _ _ kA
  have HB : Hid (_) := bA
  have HE : Hid (_ = wa) := hwa
  clear kA bA hwa
  obtain ⟨R, hR⟩ : ∃ y, (if s = 1 then Value.iface 65 (.pointer (some ⟨h, 0, none⟩)) else .iface 66 (.pointer (some ⟨d, 0, none⟩))) = y := ⟨_, rfl⟩
  rw [hR]
  by_cases hs : s = 1
  · rw [if_pos hs] at hR
    subst hR
    have q : (s == 1) = true := by simpa using hs
    clear hs
    go_enter Tryz.func28, Tryz.ntmps28
    go_upto_region 1 with fail
    rw [HE.out]
    go_wp2_with fail
    go_ret
    exact ⟨rfl, HB.out⟩
  · rw [if_neg hs] at hR
    subst hR
    have q : (s == 1) = false := by simpa using hs
    clear hs
    go_enter Tryz.func28, Tryz.ntmps28
    go_upto_region 1 with fail
    rw [HE.out]
    go_wp2_with fail
    go_ret
    exact ⟨rfl, HB.out⟩
theorem patH (h d m : Nat) (w : World) : Calls Tryz.prog 28 #[.agg #[.pointer (some ⟨h, 0, none⟩), .pointer (some ⟨d, 0, none⟩), .pointer (some ⟨m, 0, none⟩)], .int .i64 1] w fun r w' => r = .returned (.iface 65 (.pointer (some ⟨h, 0, none⟩))) ∧ Below w.heap.size w w' := by
  have := pat h d m 1 w
  rwa [if_pos rfl] at this
theorem patD (h d m : Nat) (w : World) : Calls Tryz.prog 28 #[.agg #[.pointer (some ⟨h, 0, none⟩), .pointer (some ⟨d, 0, none⟩), .pointer (some ⟨m, 0, none⟩)], .int .i64 2] w fun r w' => r = .returned (.iface 66 (.pointer (some ⟨d, 0, none⟩))) ∧ Below w.heap.size w w' := by
  have := pat h d m 2 w
  rwa [if_neg (by decide)] at this
theorem Fr.newY {w : World} {M : Nat} {a : Option Addr} {n c : Nat} {bs : Nat → Nat} (h : Fr w M (.slice a n c) (n, bs)) : ∀ y, a = some y → 0 < n → M ≤ y.block := fun y hy hn => by
  subst hy
  obtain ⟨_, ⟨e, _⟩ | ⟨b, cap, cur, e, hb, _⟩⟩ := h
  · cases e
  · injection e with e1
    injection e1 with e1
    subst e1
    exact hb
set_option maxHeartbeats 2000000 in
theorem pnoteOut (e : Nat → Nat) (w0 w : World) (t : Nat → Thing) (L : Pw) (k : Nat) (h : PW e w0 w t L) (hk : k < L.S.n) (hF : L.S.fs.length ≤ 90000) : Calls Tryz.prog 22 #[.pointer (some ⟨L.x, 0, none⟩), .int .i64 (k : Nat)] w fun r w' => r = .returned (.tuple #[]) ∧ Hid (PWn e w0 t L w' (L.S.note [oH L.S k, oD L.S k])) := by
  have hA1 := patH (L.hd k) (L.dd k) (L.dm k)
  have hA2 := patD (L.hd k) (L.dd k) (L.dm k)
  have i0 : ∀ w, (Instr.index 96 (.agg #[.int .i64 1, .int .i64 2]) (.int .i64 0)).run Tryz.prog w = .ok (.int .i64 1) w := fun _ => by kernel_rfl
  have i1 : ∀ w, (Instr.index 96 (.agg #[.int .i64 1, .int .i64 2]) (.int .i64 1)).run Tryz.prog w = .ok (.int .i64 2) w := fun _ => by kernel_rfl
  have m1 : ∀ w, (method 409 65 (.pointer (some ⟨L.hd k, 0, none⟩)) "See").run Tryz.prog w = .ok (23, .pointer (some ⟨L.hd k, 0, none⟩)) w := fun _ => by kernel_rfl
  have m2 : ∀ w, (method 409 66 (.pointer (some ⟨L.dd k, 0, none⟩)) "See").run Tryz.prog w = .ok (24, .pointer (some ⟨L.dd k, 0, none⟩)) w := fun _ => by kernel_rfl
  have hlt : ((k : Nat) : Int) < ((L.S.n : Nat) : Int) := by omega
  obtain ⟨X, hX⟩ : ∃ y, L.x = y := ⟨_, rfl⟩
  obtain ⟨g, hg⟩ : ∃ y, cgV L.vc = y := ⟨_, rfl⟩
  obtain ⟨cc, hcc⟩ : ∃ y, ccV L.vc = y := ⟨_, rfl⟩
  obtain ⟨n, hn⟩ : ∃ y, L.S.n = y := ⟨_, rfl⟩
  rw [hn] at hlt
  rw [hX]
  have H0 : Hid (PWn e w0 t L w (L.S.note [])) := by
    have := h.n
    have e1 : L.S.note [] = L.S := by unfold Ws.note; rw [List.append_nil]
    show PWn e w0 t L w (L.S.note [])
    rw [e1]
    exact this
  go_enter Tryz.func22, Tryz.ntmps22
  go_wp2_with fail
  go_loopw [5, 6, 8, 9, 10, 11, 12, 13, 14, 15, 16, 17, 18, 19, 20, 21, 22, 23, 24, 25, 26, 27, 28, 29, 30, 31, 32] (fun _ _ c _ _ _ _ _ _ _ _ _ _ _ _ _ _ _ _ _ _ _ _ _ _ _ _ wr => (c = .int .i64 0 ∧ Hid (PWn e w0 t L wr (L.S.note []))) ∨ (c = .int .i64 1 ∧ Hid (PWn e w0 t L wr (L.S.note [oH L.S k]))) ∨ (c = .int .i64 2 ∧ Hid (PWn e w0 t L wr (L.S.note [oH L.S k, oD L.S k])))) (fun _ _ c _ _ _ _ _ _ _ _ _ _ _ _ _ _ _ _ _ _ _ _ _ _ _ _ _ => match c with | .int _ i => 2 - i.toNat | _ => 0)
  case atStart => exact Or.inl ⟨rfl, H0⟩
  case round =>
    rcases hrel with ⟨rfl, H⟩ | ⟨rfl, H⟩ | ⟨rfl, H⟩
    · obtain ⟨t1, L1, h1, hS1, hF1, hE1⟩ := H.out
      obtain ⟨e1, c0', c1', c2'⟩ := (h1.2.wb h1.1).conn (k := k) (by show k < L1.S.n; rw [hS1]; exact hk)
      have cv : wr.cell? ⟨X, 3, none⟩ = some (.slice (some ⟨g, 0, none⟩) n cc) := by
        have := (cell_of_row wr L1.x 3 _ _ _ (h1.2.wb h1.1).blk).trans (congrArg some e1)
        rw [← hX, ← hg, ← hcc, ← hn, ← hF1.x, ← hF1.vc]
        refine this.trans ?_
        show some (Value.slice (some ⟨cgV L1.vc, 0, none⟩) L1.S.n (ccV L1.vc)) = _
        rw [hS1]
        rfl
      have c0 : wr.cell? ⟨g, k * 3, none⟩ = some (.pointer (some ⟨L.hd k, 0, none⟩)) := by
        rw [← hg, ← hF1.vc, ← hF1.hd]
        exact c0'
      have c1 : wr.cell? ⟨g, k * 3 + 1, none⟩ = some (.pointer (some ⟨L.dd k, 0, none⟩)) := by
        rw [← hg, ← hF1.vc, ← hF1.dd]
        exact c1'
      have c2 : wr.cell? ⟨g, k * 3 + 2, none⟩ = some (.pointer (some ⟨L.dm k, 0, none⟩)) := by
        rw [← hg, ← hF1.vc, ← hF1.dm]
        exact c2'
      clear c0' c1' c2' e1
      go_wp2_with fail
      refine (hA1 _).mono ?_
      rintro r w1 ⟨rfl, b1⟩
      have gV : HV w1 (L.hd k) (L.S.PH k) (L1.hU k) (L.S.hs k) := by
        have := (h1.below b1).2.hv (h1.below b1).1 (k := k) (by rw [hS1]; exact hk)
        rw [hS1, hF1.hd] at this
        exact this
      go_wp2_with fail
      refine (hseeS_any (L.hd k) (L.S.PH k) (L1.hU k) (L.S.hs k) w1 gV).mono ?_
      rintro r w2 ⟨a, cap, rfl, HS⟩
      have kA := heap_alloc_new w2 (.cells #[.int .i64 ((L.S.hs k).st : Nat), .int .u32 ((L.S.hs k).ss : Nat), .int .u32 ((L.S.hs k).nm : Nat), .int .u32 ((L.S.hs k).sn : Nat), .int .i64 ((L.S.hs k).dc : Nat), .int .i64 (L.S.hs k).v.lat, .bool (vreq (L.S.hs k).v), .bool (von (L.S.hs k).v), .slice a (L.S.PH k).i cap] 33)
      have bA := belY (Below.refl _ w2) (.cells #[.int .i64 ((L.S.hs k).st : Nat), .int .u32 ((L.S.hs k).ss : Nat), .int .u32 ((L.S.hs k).nm : Nat), .int .u32 ((L.S.hs k).sn : Nat), .int .i64 ((L.S.hs k).dc : Nat), .int .i64 (L.S.hs k).v.lat, .bool (vreq (L.S.hs k).v), .bool (von (L.S.hs k).v), .slice a (L.S.PH k).i cap] 33)
      obtain ⟨wa, hwa⟩ : ∃ y, w2.alloc (.cells #[.int .i64 ((L.S.hs k).st : Nat), .int .u32 ((L.S.hs k).ss : Nat), .int .u32 ((L.S.hs k).nm : Nat), .int .u32 ((L.S.hs k).sn : Nat), .int .i64 ((L.S.hs k).dc : Nat), .int .i64 (L.S.hs k).v.lat, .bool (vreq (L.S.hs k).v), .bool (von (L.S.hs k).v), .slice a (L.S.PH k).i cap] 33) = y := ⟨_, rfl⟩
      rw [hwa] at kA bA
      have p5 : wa.cell? ⟨w2.heap.size, 5, none⟩ = some (.int .i64 (L.S.hs k).v.lat) := cell_of_row wa w2.heap.size 5 _ _ _ kA
      have p7 : wa.cell? ⟨w2.heap.size, 7, none⟩ = some (.bool (von (L.S.hs k).v)) := cell_of_row wa w2.heap.size 7 _ _ _ kA
      have p8 : wa.cell? ⟨w2.heap.size, 8, none⟩ = some (.slice a (L.S.PH k).i cap) := cell_of_row wa w2.heap.size 8 _ _ _ kA
      have hb : Below wr.heap.size wr wa := (b1.trans (HS.out.2.2.mono b1.size)).trans (bA.mono (Nat.le_trans b1.size HS.out.2.2.size))
      have hr : Row8 wa a (L.S.PH k).i cap (vout (L.S.hs k).v) := HS.out.2.1.below bA
      have hnw : ∀ y, a = some y → 0 < (L.S.PH k).i → wr.heap.size ≤ y.block := fun y hy hl => Nat.le_trans b1.size (HS.out.1.newY y hy hl)
      have hN := pnote e w0 wr wa t1 L1 (oH L.S k) (a, cap) h1 hb hr hnw (by rw [hS1]; show (L.S.fs ++ []).length ≤ 100000; simp; omega)
      have hM : Calls Tryz.prog 44 #[.pointer (some ⟨X, 0, none⟩), .agg #[.int .i64 8, .int .i64 (k : Nat), .int .i64 1, .int .u32 0, .int .u32 0, .bool (von (L.S.hs k).v), .int .i64 (L.S.hs k).v.lat, .slice a (L.S.PH k).i cap]] wa fun r w' => r = .returned (.tuple #[]) ∧ Hid (PWn e w0 t L w' (L.S.note [oH L.S k])) := by
        rw [← hX, ← hF1.x]
        refine hN.mono ?_
        rintro r w' ⟨rfl, HP⟩
        refine ⟨rfl, ?_⟩
        have := PWn.bind hF1 hE1 HP.out
        rw [hS1] at this
        have e9 : (L.S.note []).note [oH L.S k] = L.S.note [oH L.S k] := by
          unfold Ws.note
          simp
        rw [e9] at this
        exact this
      clear hN
      have HE : Hid (_ = wa) := hwa
      clear kA bA hwa hb hr hnw
      go_upto_region 4 with fail
      rw [HE.out]
      go_wp2_with fail
      refine hM.mono ?_
      rintro r w3 ⟨rfl, HP⟩
      go_wp2_with fail
      exact ⟨Or.inr (Or.inl ⟨rfl, HP⟩), by decide⟩
    · obtain ⟨t1, L1, h1, hS1, hF1, hE1⟩ := H.out
      obtain ⟨e1, c0', c1', c2'⟩ := (h1.2.wb h1.1).conn (k := k) (by show k < L1.S.n; rw [hS1]; exact hk)
      have cv : wr.cell? ⟨X, 3, none⟩ = some (.slice (some ⟨g, 0, none⟩) n cc) := by
        have := (cell_of_row wr L1.x 3 _ _ _ (h1.2.wb h1.1).blk).trans (congrArg some e1)
        rw [← hX, ← hg, ← hcc, ← hn, ← hF1.x, ← hF1.vc]
        refine this.trans ?_
        show some (Value.slice (some ⟨cgV L1.vc, 0, none⟩) L1.S.n (ccV L1.vc)) = _
        rw [hS1]
        rfl
      have c0 : wr.cell? ⟨g, k * 3, none⟩ = some (.pointer (some ⟨L.hd k, 0, none⟩)) := by
        rw [← hg, ← hF1.vc, ← hF1.hd]
        exact c0'
      have c1 : wr.cell? ⟨g, k * 3 + 1, none⟩ = some (.pointer (some ⟨L.dd k, 0, none⟩)) := by
        rw [← hg, ← hF1.vc, ← hF1.dd]
        exact c1'
      have c2 : wr.cell? ⟨g, k * 3 + 2, none⟩ = some (.pointer (some ⟨L.dm k, 0, none⟩)) := by
        rw [← hg, ← hF1.vc, ← hF1.dm]
        exact c2'
      clear c0' c1' c2' e1
      go_wp2_with fail
      refine (hA2 _).mono ?_
      rintro r w1 ⟨rfl, b1⟩
      have gV : DV w1 (L.dd k) (L.dm k) (L1.dg k) 16 L.S.mx (L.S.PD k) (L1.dU k) (L.S.ds k) := by
        have := (h1.below b1).2.dv (h1.below b1).1 (k := k) (by rw [hS1]; exact hk)
        rw [hS1, hF1.dd, hF1.dm] at this
        exact this
      go_wp2_with fail
      refine (seeS_any (L.dd k) (L.dm k) (L1.dg k) 16 L.S.mx (L.S.PD k) (L1.dU k) (L.S.ds k) w1 gV).mono ?_
      rintro r w2 ⟨a, cap, rfl, HS⟩
      have kA := heap_alloc_new w2 (.cells #[.int .i64 ((L.S.ds k).st : Nat), .int .u32 ((L.S.ds k).ss : Nat), .int .u32 ((L.S.ds k).nm : Nat), .int .u32 ((L.S.ds k).sn : Nat), .int .i64 ((L.S.ds k).dc : Nat), .int .i64 (L.S.ds k).v.lat, .bool (vreq (L.S.ds k).v), .bool (von (L.S.ds k).v), .slice a (L.S.PD k).o cap] 33)
      have bA := belY (Below.refl _ w2) (.cells #[.int .i64 ((L.S.ds k).st : Nat), .int .u32 ((L.S.ds k).ss : Nat), .int .u32 ((L.S.ds k).nm : Nat), .int .u32 ((L.S.ds k).sn : Nat), .int .i64 ((L.S.ds k).dc : Nat), .int .i64 (L.S.ds k).v.lat, .bool (vreq (L.S.ds k).v), .bool (von (L.S.ds k).v), .slice a (L.S.PD k).o cap] 33)
      obtain ⟨wa, hwa⟩ : ∃ y, w2.alloc (.cells #[.int .i64 ((L.S.ds k).st : Nat), .int .u32 ((L.S.ds k).ss : Nat), .int .u32 ((L.S.ds k).nm : Nat), .int .u32 ((L.S.ds k).sn : Nat), .int .i64 ((L.S.ds k).dc : Nat), .int .i64 (L.S.ds k).v.lat, .bool (vreq (L.S.ds k).v), .bool (von (L.S.ds k).v), .slice a (L.S.PD k).o cap] 33) = y := ⟨_, rfl⟩
      rw [hwa] at kA bA
      have p5 : wa.cell? ⟨w2.heap.size, 5, none⟩ = some (.int .i64 (L.S.ds k).v.lat) := cell_of_row wa w2.heap.size 5 _ _ _ kA
      have p7 : wa.cell? ⟨w2.heap.size, 7, none⟩ = some (.bool (von (L.S.ds k).v)) := cell_of_row wa w2.heap.size 7 _ _ _ kA
      have p8 : wa.cell? ⟨w2.heap.size, 8, none⟩ = some (.slice a (L.S.PD k).o cap) := cell_of_row wa w2.heap.size 8 _ _ _ kA
      have hb : Below wr.heap.size wr wa := (b1.trans (HS.out.2.2.mono b1.size)).trans (bA.mono (Nat.le_trans b1.size HS.out.2.2.size))
      have hr : Row8 wa a (L.S.PD k).o cap (vout (L.S.ds k).v) := HS.out.2.1.below bA
      have hnw : ∀ y, a = some y → 0 < (L.S.PD k).o → wr.heap.size ≤ y.block := fun y hy hl => Nat.le_trans b1.size (HS.out.1.newY y hy hl)
      have hN := pnote e w0 wr wa t1 L1 (oD L.S k) (a, cap) h1 hb hr hnw (by rw [hS1]; show (L.S.fs ++ [oH L.S k]).length ≤ 100000; simp; omega)
      have hM : Calls Tryz.prog 44 #[.pointer (some ⟨X, 0, none⟩), .agg #[.int .i64 8, .int .i64 (k : Nat), .int .i64 2, .int .u32 0, .int .u32 0, .bool (von (L.S.ds k).v), .int .i64 (L.S.ds k).v.lat, .slice a (L.S.PD k).o cap]] wa fun r w' => r = .returned (.tuple #[]) ∧ Hid (PWn e w0 t L w' (L.S.note [oH L.S k, oD L.S k])) := by
        rw [← hX, ← hF1.x]
        refine hN.mono ?_
        rintro r w' ⟨rfl, HP⟩
        refine ⟨rfl, ?_⟩
        have := PWn.bind hF1 hE1 HP.out
        rw [hS1] at this
        have e9 : (L.S.note [oH L.S k]).note [oD L.S k] = L.S.note [oH L.S k, oD L.S k] := by
          unfold Ws.note
          simp
        rw [e9] at this
        exact this
      clear hN
      have HE : Hid (_ = wa) := hwa
      clear kA bA hwa hb hr hnw
      go_upto_region 4 with fail
      rw [HE.out]
      go_wp2_with fail
      refine hM.mono ?_
      rintro r w3 ⟨rfl, HP⟩
      go_wp2_with fail
      exact ⟨Or.inr (Or.inr ⟨rfl, HP⟩), by decide⟩
    · go_wp2_with fail
      go_end0
      exact ⟨rfl, H⟩
end Go.Proofs.YtpbcgpdfjplidaaGreat
