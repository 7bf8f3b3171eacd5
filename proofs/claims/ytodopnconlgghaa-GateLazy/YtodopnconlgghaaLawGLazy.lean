/- Layer 6: made once, at the first Get. -/
import Derived.Test.YtodopnconlgghaaGLazy
namespace Go.Proofs.Ytodopnconlgghaa
open Go.RowKit

/-- Both values, and what their functions hold; q: has the first been made? -/
structure LzS (w : World) (pc pv pt l s : Nat) (v : Int) (tx : ByteArray) (q : Int) : Prop where
  vc : Vr w pc (.int .i64 q) 3
  vv : Vr w pv (.int .i64 v) 3
  vt : Vr w pt (.string tx) 9
  li : LR 59 w l (.func (.func 17) #[] #[.pointer (some ⟨pc, 0, none⟩), .pointer (some ⟨pv, 0, none⟩)]) q 0 (.int .i64 (if q = 0 then 0 else v)) q
  ls : LR 61 w s (.func (.func 19) #[] #[.pointer (some ⟨pt, 0, none⟩)]) 0 0 (.string ⟨#[]⟩) 0
theorem LzS.off {L : List Nat} {w w' : World} {pc pv pt l s : Nat} {v : Int} {tx : ByteArray} {q : Int} (h : LzS w pc pv pt l s v tx q) (o : Off L w w') (h1 : pc ∉ L) (h2 : pv ∉ L) (h3 : pt ∉ L) (h4 : l ∉ L) (h5 : s ∉ L) : LzS w' pc pv pt l s v tx q :=
  ⟨h.vc.off o h1, h.vv.off o h2, h.vt.off o h3, h.li.off o h4, h.ls.off o h5⟩
theorem LzS.nil {w w' : World} {pc pv pt l s : Nat} {v : Int} {tx : ByteArray} {q : Int} (h : LzS w pc pv pt l s v tx q) (o : Off [] w w') : LzS w' pc pv pt l s v tx q := h.off o (by simp) (by simp) (by simp) (by simp) (by simp)
theorem back_one (v : Int) (h : (Lit.int .i64 v).wf = true) : wrap64 (wrap64 (v + 1) - 1) = v := by
  have := bounds_i64 h
  simp only [wrap64]
  omega
/-- The first function. -/
theorem lz1 (pc pv : Nat) (v : Int) (hv : (Lit.int .i64 v).wf = true) (w : World) (c : Vr w pc (.int .i64 0) 3) (d : Vr w pv (.int .i64 v) 3) (hne : pc ≠ pv) :
    Calls Try.prog 17 #[.pointer (some ⟨pc, 0, none⟩), .pointer (some ⟨pv, 0, none⟩)] w fun e w' => e = .returned (.int .i64 v) ∧ (Off [pc] w w' ∧ Vr w' pc (.int .i64 1) 3) := by
  have hb := back_one v hv
  have c1 := c.c
  have z1 := c.fz
  have d1 := d.c
  have c2 := (c.set (.int .i64 1)).c
  have d2 := (d.off (Off.setCell pc 0 w (.int .i64 1)) (by simpa using hne.symm)).c
  go_enter Try.func17, Try.ntmps17
  go_wp2_with fail
  rw [hb]
  go_ret
  exact ⟨rfl, Off.setCell pc 0 w _, c.set _⟩
/-- The second. -/
theorem lz2 (pt : Nat) (tx : ByteArray) (w : World) (c : Vr w pt (.string tx) 9) :
    Calls Try.prog 19 #[.pointer (some ⟨pt, 0, none⟩)] w fun e w' => e = .returned (.string tx) ∧ (Off [] w w' ∧ Vr w' pt (.string tx) 9) := by
  have c1 := c.c
  go_enter Try.func19, Try.ntmps19
  go_wp2_with fail
  go_ret
  exact ⟨rfl, Off.refl _ _, c⟩
structure Ne5 (pc pv pt l s : Nat) : Prop where
  a1 : pc ≠ pv
  a2 : pc ≠ pt
  a3 : pc ≠ l
  a4 : pc ≠ s
  a5 : pv ≠ l
  a6 : pt ≠ l
  a7 : s ≠ l
  a8 : pv ≠ s
  a9 : pt ≠ s
/-- Get of the first, made or not. -/
theorem lz_get (pc pv pt l s : Nat) (v : Int) (tx : ByteArray) (q : Int) (w : World) (hv : (Lit.int .i64 v).wf = true) (n : Ne5 pc pv pt l s) (hq : q = 0 ∨ q = 1) (h : LzS w pc pv pt l s v tx q) :
    Calls Try.prog 22 #[.pointer (some ⟨l, 0, none⟩)] w fun e w' => e = .returned (.int .i64 v) ∧ (Off [l, pc] w w' ∧ LzS w' pc pv pt l s v tx 1) := by
  rcases hq with rfl | rfl
  · refine (getI_first _ _ l [pc] v (fun u => Vr u pc (.int .i64 1) 3) w (fun _ => by kernel_rfl) h.li (fun w1 o => lz1 pc pv v hv w1 (h.vc.off o (by simpa using n.a3)) (h.vv.off o (by simpa using n.a5)) n.a1) (by simpa using n.a3.symm) (by simpa using h.vc.lt) (fun u u' k o => k.off o (by simpa using n.a3))).mono ?_
    rintro e w' ⟨rfl, o, g, k⟩
    have h1 : pv ∉ [l, pc] := by simp; exact ⟨n.a5, n.a1.symm⟩
    have h2 : pt ∉ [l, pc] := by simp; exact ⟨n.a6, n.a2.symm⟩
    have h3 : s ∉ [l, pc] := by simp; exact ⟨n.a7, n.a4.symm⟩
    exact ⟨rfl, o, k, h.vv.off o h1, h.vt.off o h2, g, h.ls.off o h3⟩
  · refine (getI_done l _ _ v _ _ w h.li).mono ?_
    rintro e w' ⟨rfl, o⟩
    exact ⟨rfl, o.more (by simp), h.nil o⟩
set_option maxRecDepth 100000 in
set_option maxHeartbeats 4000000 in
theorem gateLazy_walk (a0 : Int) (a1 : ByteArray) (a2 : Int) (w0 : (Lit.int .i64 a0).wf = true) (_w1 : a1.size ≤ maxLen) (_w2 : (Lit.int .i64 a2).wf = true) (w : World) :
    Calls Try.prog 5 #[.int .i64 a0, .string a1, .int .i64 a2] w fun e w' => e = .returned (.bool true) ∧ Below w.heap.size w w' := by
  have hmf : ∀ (fn : Fn) (first cap : Array Value) (w : World), (Instr.makeFunc fn first cap).run Try.prog w = .ok (.func fn first cap) w := fun _ _ _ _ => rfl
  have hv : Hid ((Lit.int .i64 a0).wf = true) := w0
  clear w0
  go_enter Try.func5, Try.ntmps5
  go_wp2_with fail
  have v1 := (Vr.new w (.int .i64 a0) 3).off (Off.alloc [] _ (.cells #[.string a1] 9)) (by simp)
  have t1 := Vr.new (w.alloc (.cells #[.int .i64 a0] 3)) (.string a1) 9
  rw [World.size_alloc] at t1
  have o1 : Off [] w ((w.alloc (.cells #[.int .i64 a0] 3)).alloc (.cells #[.string a1] 9)) := (Off.alloc _ _ _).trans (Off.alloc _ _ _)
  generalize (w.alloc (.cells #[.int .i64 a0] 3)).alloc (.cells #[.string a1] 9) = u1 at *
  refine (awake6 u1).mono ?_
  rintro e u2 ⟨rfl, o2⟩
  go_wp2_with fail
  have c3 := Vr.new u2 (.int .i64 0) 3
  have o3 : Off [] u2 (u2.alloc (.cells #[.int .i64 0] 3)) := Off.alloc _ _ _
  have ls2 : w.heap.size + 1 < u2.heap.size := Nat.lt_of_lt_of_le t1.lt o2.size
  have v3 := (v1.off o2 (by simp)).off o3 (by simp)
  have t3 := (t1.off o2 (by simp)).off o3 (by simp)
  generalize u2.alloc (.cells #[.int .i64 0] 3) = u3 at *
  refine (makeI_any _ u3 (.inr ⟨_, _, rfl⟩)).mono ?_
  rintro e u4 ⟨rfl, o4, l4⟩
  have ls3 := c3.lt
  go_wp2_with fail
  refine (makeS_any _ u4 (.inr ⟨_, _, rfl⟩)).mono ?_
  rintro e u5 ⟨rfl, o5, s5⟩
  have ls4 := l4.lt
  have o45 := o4.trans o5
  have S : LzS u5 u2.heap.size w.heap.size (w.heap.size + 1) u3.heap.size u4.heap.size a0 a1 0 := ⟨c3.off o45 (by simp), v3.off o45 (by simp), t3.off o45 (by simp), l4.off o5 (by simp), s5⟩
  have B : Below w.heap.size w u5 := (o1.trans (o2.trans (o3.trans o45))).below (Below.refl _ _) (by simp) (Nat.le_refl _)
  have N : Ne5 u2.heap.size w.heap.size (w.heap.size + 1) u3.heap.size u4.heap.size := by constructor <;> omega
  have l2 : w.heap.size ≤ u2.heap.size := by omega
  have l3 : w.heap.size ≤ u3.heap.size := by omega
  have l5 : w.heap.size ≤ u4.heap.size := by omega
  clear o1 o2 o3 o4 o5 o45 c3 v1 t1 v3 t3 l4 s5 ls2 ls3 ls4
  generalize u2.heap.size = pc at *
  generalize u3.heap.size = l at *
  generalize u4.heap.size = s at *
  go_wp2_with fail
  refine (madeI_any _ _ _ _ _ _ _ S.li).mono ?_
  rintro e u6 ⟨rfl, hw⟩
  rw [hw]; clear hw
  go_wp2_with fail
  refine (madeS_any _ _ _ _ _ _ _ S.ls).mono ?_
  rintro e u6 ⟨rfl, hw⟩
  rw [hw]; clear hw
  have ck := S.vc.c
  go_wp2_with fail
  clear ck
  go_loopw [6, 10] (fun _ i wr => ∃ (k : Nat) (q : Int), k ≤ 50 ∧ i = .int .i64 ((k : Nat) : Int) ∧ (q = 0 ∨ q = 1) ∧ LzS wr pc w.heap.size (w.heap.size + 1) l s a0 a1 q ∧ Below w.heap.size w wr) (fun _ i _ => 50 - (intOf i).toNat)
  case atStart => exact ⟨0, 0, by omega, rfl, .inl rfl, S, B⟩
  case round =>
    clear S B
    obtain ⟨k, q, hk, rfl, hq, S, B⟩ := hrel
    have hD : Hid ((q = 0 ∨ q = 1) ∧ LzS wr pc w.heap.size (w.heap.size + 1) l s a0 a1 q ∧ Below w.heap.size w wr) := ⟨hq, S, B⟩
    clear hq S B
    have hm : a2.tmod 50 < 50 := Int.tmod_lt_of_pos a2 (by omega)
    by_cases h1 : (k : Int) < a2.tmod 50
    · go_wp2_with fail
      have hG := lz_get pc w.heap.size (w.heap.size + 1) l s a0 a1 q wr.drew hv.out N hD.out.1 (hD.out.2.1.nil (Off.drew _ _))
      have cv := hD.out.2.1.vv.c
      go_region_with (first | (go_at_call 22; refine hG.mono ?_; rintro e wn ⟨rfl, on, S1⟩; have cw := S1.vv.c; have cc := S1.vc.c) | (go_at_call 20; refine (madeI_any _ _ _ _ _ _ _ S1.li).mono ?_; rintro e wp ⟨rfl, hw⟩; rw [hw]; clear hw) | (go_at_call 21; refine (madeS_any _ _ _ _ _ _ _ S1.ls).mono ?_; rintro e wp ⟨rfl, hw⟩; rw [hw]; clear hw))
      all_goals
        have HE : Hid (_) := And.intro S1 (on.below ((Off.drew [] wr).below hD.out.2.2 (by simp) hD.out.2.2.size) (by simp; omega) hD.out.2.2.size)
        clear hG cv cw cc S1 on hD
        go_wp2_with fail
        go_roundw
        case rel => exact ⟨k + 1, 1, by omega, by go_num, .inr rfl, HE.out.1, HE.out.2⟩
        case measure => simp [intOf] <;> omega
    · have h1' : a2.tmod 50 ≤ (k : Int) := by omega
      by_cases h0 : k = 0
      · have h0' : ((k : Int) == 0) = true := by simp [h0]
        go_wp2_with fail
        have hG := lz_get pc w.heap.size (w.heap.size + 1) l s a0 a1 q wr.drew hv.out N hD.out.1 (hD.out.2.1.nil (Off.drew _ _))
        have cv := hD.out.2.1.vv.c
        go_region_with (first | (go_at_call 22; refine hG.mono ?_; rintro e wn ⟨rfl, on, S1⟩; have cw := S1.vv.c; have cc := S1.vc.c) | (go_at_call 20; refine (madeI_any _ _ _ _ _ _ _ S1.li).mono ?_; rintro e wp ⟨rfl, hw⟩; rw [hw]; clear hw) | (go_at_call 21; refine (madeS_any _ _ _ _ _ _ _ S1.ls).mono ?_; rintro e wp ⟨rfl, hw⟩; rw [hw]; clear hw))
        all_goals
          have HE : Hid (_) := And.intro S1 (on.below ((Off.drew [] wr).below hD.out.2.2 (by simp) hD.out.2.2.size) (by simp; omega) hD.out.2.2.size)
          clear hG cv cw cc S1 on hD
          go_wp2_with fail
          go_roundw
          case rel => exact ⟨k + 1, 1, by omega, by go_num, .inr rfl, HE.out.1, HE.out.2⟩
          case measure => simp [intOf] <;> omega
      · have h0' : ((k : Int) == 0) = false := by simp [h0]
        go_wp2_with fail
        have hS := getS_first 19 #[.pointer (some ⟨w.heap.size + 1, 0, none⟩)] s [] a1 (fun u => Vr u (w.heap.size + 1) (.string a1) 9) wr.drew (fun _ => by kernel_rfl) (hD.out.2.1.nil (Off.drew _ _)).ls (fun w1 o => lz2 _ a1 w1 ((hD.out.2.1.nil (Off.drew _ _)).vt.off o (by simpa using N.a9))) (by simp) (by simp) (fun u u' k o => k.off o (by simpa using N.a9))
        have ct := hD.out.2.1.vt.c
        go_region_with (first | (go_at_call 23; refine (getS_done _ _ _ _ _ _ _ L1).mono ?_; rintro e wm ⟨rfl, om⟩; have ct2 := (T1.off om (by simp)).c; have L2 := L1.off om (by simp)) | (go_at_call 23; refine hS.mono ?_; rintro e wn ⟨rfl, on, L1, T1⟩; have ct1 := T1.c) | (go_at_call 21; refine (madeS_any _ _ _ _ _ _ _ L2).mono ?_; rintro e wp ⟨rfl, hw⟩; rw [hw]; clear hw))
        all_goals
          have B1 := on.below ((Off.drew [] wr).below hD.out.2.2 (by simp) hD.out.2.2.size) (by simp; omega) hD.out.2.2.size
          have HE : Hid (_) := om.below B1 (by simp) B1.size
          clear hS ct ct1 ct2 L1 L2 T1 on om B1 hD
          go_wp2_with fail
          go_ret
          exact ⟨by first | rfl | simp, HE.out⟩

end Go.Proofs.Ytodopnconlgghaa
