/- Part 43 of the texts on which the proof rests: contracts of Go functions. -/
import Derived.Test.YtpbcgpdfjplidaaGreatPkN41
namespace Go.Proofs.YtpbcgpdfjplidaaGreat
set_option maxRecDepth 100000
open Go.RowKit Go.Maps
set_option maxRecDepth 100000
set_option linter.unusedVariables false
theorem bits8Y : ∀ b0 b1 b2 b3 b4 b5 b6 b7 : Bool, (2 * (2 * (2 * (2 * (2 * (2 * (2 * (2 * 0 + b0.toNat) + b1.toNat) + b2.toNat) + b3.toNat) + b4.toNat) + b5.toNat) + b6.toNat) + b7.toNat) < 256 ∧ ∀ j : Fin 8, (2 * (2 * (2 * (2 * (2 * (2 * (2 * (2 * 0 + b0.toNat) + b1.toNat) + b2.toNat) + b3.toNat) + b4.toNat) + b5.toNat) + b6.toNat) + b7.toNat).testBit (7 - j.val) = [b0, b1, b2, b3, b4, b5, b6, b7].getD j.val false := by decide
theorem gby_lt (at_ x i : Nat) : gby at_ x i < 256 := (bits8Y _ _ _ _ _ _ _ _).1
theorem gby_bit (at_ x i j : Nat) (hj : j < 8) : (gby at_ x i).testBit (7 - j) = PM.ly at_ (PM.bl x) x (PM.bl x) (8 * i + j) := by
  refine ((bits8Y _ _ _ _ _ _ _ _).2 ⟨j, hj⟩).trans ?_
  rcases j with _ | _ | _ | _ | _ | _ | _ | _ | j
  all_goals first | rfl | omega
theorem gby_fb (at_ x k : Nat) : PM.fb (gby at_ x) k = PM.ly at_ (PM.bl x) x (PM.bl x) k := by
  have h := PM.fb_at (gby at_ x) (k / 8) (k % 8) (by omega)
  rw [show 8 * (k / 8) + k % 8 = k by omega] at h
  rw [h, gby_bit _ _ _ _ (by omega), show 8 * (k / 8) + k % 8 = k by omega]
theorem Grb.fr {B : Nat} {w : World} {f : Fm} {at_ x : Nat} {v : Value} (h : Grb B w f.1 at_ x f.2 v) : Fr w B v (garb f at_ x) := by
  obtain ⟨g, ho, hb, hf⟩ := h
  have e : ∀ i, i < f.1 → g i = gby at_ x i := PM.byte_ext hb (fun i _ => gby_lt at_ x i) (fun k hk => (hf k hk).trans (gby_fb at_ x k).symm)
  have e2 : CB (xr f.2 g) f.1 = CB (xr f.2 (gby at_ x)) f.1 := CB_congr _ _ _ (fun i hi => by unfold xr; rw [e i hi])
  rw [e2] at ho
  exact ho
set_option maxHeartbeats 1000000 in
theorem wcarried (X b : Nat) (m : Mv) (d : Option Addr) (c : Nat) (f : Fm) (w : World) (Z : Option Addr → Nat → World → Prop)
    (cb : w.cell? ⟨X, 4, none⟩ = some (.pointer (some ⟨b, 0, none⟩)))
    (hG : ∀ wx, m.k = 4 → Below w.heap.size w wx → Calls Tryz.prog 78 #[.pointer (some ⟨b, 0, none⟩), .int .i64 m.f, .int .i64 m.a, .int .u32 (m.w : Nat)] wx fun r w' => ∃ a cap, r = .returned (.tuple #[.slice a f.1 cap, .int .i64 0]) ∧ Z a cap w' ∧ Below wx.heap.size wx w')
    (hT : ∀ wx, m.k ≠ 4 → Below w.heap.size w wx → Calls Tryz.prog 29 #[.pointer (some ⟨b, 0, none⟩), .int .i64 m.f] wx fun r w' => ∃ a cap, r = .returned (.tuple #[.slice a f.1 cap, .int .i64 0]) ∧ Z a cap w' ∧ Below wx.heap.size wx w') :
    Calls Tryz.prog 59 #[.pointer (some ⟨X, 0, none⟩), .agg #[.int .i64 m.k, .int .i64 m.c, .int .i64 m.s, .int .i64 m.f, .int .i64 m.a, .int .u32 (m.w : Nat), .int .i64 m.n, .bool m.h, .slice d m.l c]] w fun r w' => ∃ a cap, r = .returned (.tuple #[.slice a f.1 cap, .int .i64 0]) ∧ Hid (Z a cap w') := by
  have kA := heap_alloc_new w (.cells #[.int .i64 m.k, .int .i64 m.c, .int .i64 m.s, .int .i64 m.f, .int .i64 m.a, .int .u32 (m.w : Nat), .int .i64 m.n, .bool m.h, .slice d m.l c] 27)
  have bA := belY (Below.refl _ w) (.cells #[.int .i64 m.k, .int .i64 m.c, .int .i64 m.s, .int .i64 m.f, .int .i64 m.a, .int .u32 (m.w : Nat), .int .i64 m.n, .bool m.h, .slice d m.l c] 27)
  obtain ⟨wa, hwa⟩ : ∃ y, w.alloc (.cells #[.int .i64 m.k, .int .i64 m.c, .int .i64 m.s, .int .i64 m.f, .int .i64 m.a, .int .u32 (m.w : Nat), .int .i64 m.n, .bool m.h, .slice d m.l c] 27) = y := ⟨_, rfl⟩
  rw [hwa] at kA bA
  obtain ⟨x, hx⟩ : ∃ y, w.heap.size = y := ⟨_, rfl⟩
  have kB : wa.heap[x]? = some (.cells #[.int .i64 m.k, .int .i64 m.c, .int .i64 m.s, .int .i64 m.f, .int .i64 m.a, .int .u32 (m.w : Nat), .int .i64 m.n, .bool m.h, .slice d m.l c] 27 (0, 0)) := by
    rw [← hx]
    exact kA
  have bd : Below wa.heap.size wa wa.drew := Below.drew (Below.refl _ _)
  have q0 : wa.cell? ⟨x, 0, none⟩ = some (.int .i64 m.k) := cell_of_row wa x 0 _ _ _ kB
  have hs : ∀ wx, Below wa.heap.size wa wx → wx.cell? ⟨X, 4, none⟩ = some (Value.pointer (some ⟨b, 0, none⟩)) ∧ wx.cell? ⟨x, 3, none⟩ = some (Value.int .i64 m.f) ∧ wx.cell? ⟨x, 4, none⟩ = some (Value.int .i64 m.a) ∧ wx.cell? ⟨x, 5, none⟩ = some (Value.int .u32 (m.w : Nat)) := fun wx bx => ⟨cellY (cellY cb bA) bx, cellY (cell_of_row wa x 3 _ _ _ kB) bx, cellY (cell_of_row wa x 4 _ _ _ kB) bx, cellY (cell_of_row wa x 5 _ _ _ kB) bx⟩
  have HSx := hs wa.drew bd
  have hG : m.k = 4 → Calls Tryz.prog 78 #[.pointer (some ⟨b, 0, none⟩), .int .i64 m.f, .int .i64 m.a, .int .u32 (m.w : Nat)] wa.drew fun r w' => ∃ a cap, r = .returned (.tuple #[.slice a f.1 cap, .int .i64 0]) ∧ Hid (Hid (Z a cap w') ∧ w'.cell? ⟨X, 4, none⟩ = some (Value.pointer (some ⟨b, 0, none⟩)) ∧ w'.cell? ⟨x, 3, none⟩ = some (Value.int .i64 m.f) ∧ w'.cell? ⟨x, 4, none⟩ = some (Value.int .i64 m.a) ∧ w'.cell? ⟨x, 5, none⟩ = some (Value.int .u32 (m.w : Nat))) := fun hk => by
    refine (hG wa.drew hk (bA.trans (bd.mono bA.size))).mono ?_
    rintro r w' ⟨a, cap, rfl, hz, b2⟩
    exact ⟨a, cap, rfl, hz, hs w' (bd.trans (b2.mono bd.size))⟩
  have hT : m.k ≠ 4 → Calls Tryz.prog 29 #[.pointer (some ⟨b, 0, none⟩), .int .i64 m.f] wa.drew fun r w' => ∃ a cap, r = .returned (.tuple #[.slice a f.1 cap, .int .i64 0]) ∧ Hid (Hid (Z a cap w') ∧ w'.cell? ⟨X, 4, none⟩ = some (Value.pointer (some ⟨b, 0, none⟩)) ∧ w'.cell? ⟨x, 3, none⟩ = some (Value.int .i64 m.f) ∧ w'.cell? ⟨x, 4, none⟩ = some (Value.int .i64 m.a) ∧ w'.cell? ⟨x, 5, none⟩ = some (Value.int .u32 (m.w : Nat))) := fun hk => by
    refine (hT wa.drew hk (bA.trans (bd.mono bA.size))).mono ?_
    rintro r w' ⟨a, cap, rfl, hz, b2⟩
    exact ⟨a, cap, rfl, hz, hs w' (bd.trans (b2.mono bd.size))⟩
  have HE : Hid (_ = wa) := hwa
  have HS : Hid (_ = x) := hx
  clear kA kB bA bd hs hwa hx cb
  obtain ⟨fl, fb⟩ := f
  by_cases hk : m.k = 4
  · have hG := hG hk
    have q : (m.k == 4) = true := by simpa using hk
    clear hT hk
    go_enter Tryz.func59, Tryz.ntmps59
    go_upto_region 1 with fail
    rw [HE.out, HS.out]
    go_wp2_with fail
    refine wp_region_held_drew (S := fun w' => w'.cell? ⟨X, 4, none⟩ = some (Value.pointer (some ⟨b, 0, none⟩)) ∧ w'.cell? ⟨x, 3, none⟩ = some (Value.int .i64 m.f) ∧ w'.cell? ⟨x, 4, none⟩ = some (Value.int .i64 m.a) ∧ w'.cell? ⟨x, 5, none⟩ = some (Value.int .u32 (m.w : Nat))) (by kernel_rfl) HSx (fun _ => ?_)
    refine wpAnyH_take (i := 0) (v := Value.pointer (some ⟨X, 0, none⟩)) rfl (by kernel_rfl) (by kernel_rfl) (by kernel_rfl) (fun _ _ _ h => h) (Or.inl ⟨by kernel_rfl, fun w hSw => by go_simp⟩) (by assumption) ?_
    refine wpAnyH_take (i := 1) (v := Value.pointer (some ⟨X, 0, none⟩)) rfl (by kernel_rfl) (by kernel_rfl) (by kernel_rfl) (fun _ _ _ h => h) (Or.inl ⟨by kernel_rfl, fun w hSw => by go_simp⟩) (by assumption) ?_
    refine wpAnyH_take (i := 2) (v := Value.pointer (some ⟨X, 4, none⟩)) rfl (by kernel_rfl) (by kernel_rfl) (by kernel_rfl) (fun _ _ _ h => h) (Or.inl ⟨by kernel_rfl, fun w hSw => by go_simp⟩) (by assumption) ?_
    refine wpAnyH_take (i := 3) (v := Value.pointer (some ⟨b, 0, none⟩)) rfl (by kernel_rfl) (by kernel_rfl) (by kernel_rfl) (fun _ _ _ h => h) (Or.inl ⟨by kernel_rfl, fun w hSw => by go_simp⟩) (by assumption) ?_
    refine wpAnyH_take (i := 4) (v := Value.pointer (some ⟨x, 3, none⟩)) rfl (by kernel_rfl) (by kernel_rfl) (by kernel_rfl) (fun _ _ _ h => h) (Or.inl ⟨by kernel_rfl, fun w hSw => by go_simp⟩) (by assumption) ?_
    refine wpAnyH_take (i := 5) (v := Value.int .i64 m.f) rfl (by kernel_rfl) (by kernel_rfl) (by kernel_rfl) (fun _ _ _ h => h) (Or.inl ⟨by kernel_rfl, fun w hSw => by go_simp⟩) (by assumption) ?_
    refine wpAnyH_take (i := 6) (v := Value.pointer (some ⟨x, 4, none⟩)) rfl (by kernel_rfl) (by kernel_rfl) (by kernel_rfl) (fun _ _ _ h => h) (Or.inl ⟨by kernel_rfl, fun w hSw => by go_simp⟩) (by assumption) ?_
    refine wpAnyH_take (i := 7) (v := Value.int .i64 m.a) rfl (by kernel_rfl) (by kernel_rfl) (by kernel_rfl) (fun _ _ _ h => h) (Or.inl ⟨by kernel_rfl, fun w hSw => by go_simp⟩) (by assumption) ?_
    refine wpAnyH_take (i := 8) (v := Value.pointer (some ⟨x, 5, none⟩)) rfl (by kernel_rfl) (by kernel_rfl) (by kernel_rfl) (fun _ _ _ h => h) (Or.inl ⟨by kernel_rfl, fun w hSw => by go_simp⟩) (by assumption) ?_
    refine wpAnyH_take (i := 9) (v := Value.int .u32 (m.w : Nat)) rfl (by kernel_rfl) (by kernel_rfl) (by kernel_rfl) (fun _ _ _ h => h) (Or.inl ⟨by kernel_rfl, fun w hSw => by go_simp⟩) (by assumption) ?_
    refine held_call (i := 10) 78 #[Value.pointer (some ⟨b, 0, none⟩), Value.int .i64 m.f, Value.int .i64 m.a, Value.int .u32 (m.w : Nat)] (by kernel_rfl) rfl (by kernel_rfl) (by go_simp) ?_
    refine hG.mono ?_
    rintro r w3 ⟨a, cap, rfl, H3⟩
    have HSy : w3.cell? ⟨X, 4, none⟩ = some (Value.pointer (some ⟨b, 0, none⟩)) ∧ w3.cell? ⟨x, 3, none⟩ = some (Value.int .i64 m.f) ∧ w3.cell? ⟨x, 4, none⟩ = some (Value.int .i64 m.a) ∧ w3.cell? ⟨x, 5, none⟩ = some (Value.int .u32 (m.w : Nat)) := H3.out.2
    refine ⟨_, rfl, HSy, ?_⟩
    refine wpAnyH_take (i := 11) (v := Value.slice a fl cap) rfl (by kernel_rfl) (by kernel_rfl) (by kernel_rfl) (fun _ _ _ h => h) (Or.inl ⟨by kernel_rfl, fun w hSw => by go_simp⟩) (by assumption) ?_
    refine wpAnyH_take (i := 12) (v := Value.int .i64 0) rfl (by kernel_rfl) (by kernel_rfl) (by kernel_rfl) (fun _ _ _ h => h) (Or.inl ⟨by kernel_rfl, fun w hSw => by go_simp⟩) (by assumption) ?_
    refine wpAnyH_take (i := 13) (v := Value.slice a fl cap) rfl (by kernel_rfl) (by kernel_rfl) (by kernel_rfl) (fun _ _ _ h => h) (Or.inl ⟨by kernel_rfl, fun w hSw => by go_simp⟩) (by assumption) ?_
    refine wpAnyH_take (i := 14) (v := Value.int .i64 0) rfl (by kernel_rfl) (by kernel_rfl) (by kernel_rfl) (fun _ _ _ h => h) (Or.inl ⟨by kernel_rfl, fun w hSw => by go_simp⟩) (by assumption) ?_
    refine wpAnyH_done (by kernel_rfl) ?_ _
    clear HSx HSy
    go_wp2_with fail
    go_ret2
    exact ⟨a, cap, by kernel_rfl, H3.out.1⟩
  · have hT := hT hk
    have q : (m.k == 4) = false := by simpa using hk
    clear hG hk
    go_enter Tryz.func59, Tryz.ntmps59
    go_upto_region 1 with fail
    rw [HE.out, HS.out]
    go_wp2_with fail
    refine wp_region_held_drew (S := fun w' => w'.cell? ⟨X, 4, none⟩ = some (Value.pointer (some ⟨b, 0, none⟩)) ∧ w'.cell? ⟨x, 3, none⟩ = some (Value.int .i64 m.f) ∧ w'.cell? ⟨x, 4, none⟩ = some (Value.int .i64 m.a) ∧ w'.cell? ⟨x, 5, none⟩ = some (Value.int .u32 (m.w : Nat))) (by kernel_rfl) HSx (fun _ => ?_)
    refine wpAnyH_take (i := 0) (v := Value.pointer (some ⟨X, 0, none⟩)) rfl (by kernel_rfl) (by kernel_rfl) (by kernel_rfl) (fun _ _ _ h => h) (Or.inl ⟨by kernel_rfl, fun w hSw => by go_simp⟩) (by assumption) ?_
    refine wpAnyH_take (i := 1) (v := Value.pointer (some ⟨X, 0, none⟩)) rfl (by kernel_rfl) (by kernel_rfl) (by kernel_rfl) (fun _ _ _ h => h) (Or.inl ⟨by kernel_rfl, fun w hSw => by go_simp⟩) (by assumption) ?_
    refine wpAnyH_take (i := 2) (v := Value.pointer (some ⟨X, 4, none⟩)) rfl (by kernel_rfl) (by kernel_rfl) (by kernel_rfl) (fun _ _ _ h => h) (Or.inl ⟨by kernel_rfl, fun w hSw => by go_simp⟩) (by assumption) ?_
    refine wpAnyH_take (i := 3) (v := Value.pointer (some ⟨b, 0, none⟩)) rfl (by kernel_rfl) (by kernel_rfl) (by kernel_rfl) (fun _ _ _ h => h) (Or.inl ⟨by kernel_rfl, fun w hSw => by go_simp⟩) (by assumption) ?_
    refine wpAnyH_take (i := 4) (v := Value.pointer (some ⟨x, 3, none⟩)) rfl (by kernel_rfl) (by kernel_rfl) (by kernel_rfl) (fun _ _ _ h => h) (Or.inl ⟨by kernel_rfl, fun w hSw => by go_simp⟩) (by assumption) ?_
    refine wpAnyH_take (i := 5) (v := Value.int .i64 m.f) rfl (by kernel_rfl) (by kernel_rfl) (by kernel_rfl) (fun _ _ _ h => h) (Or.inl ⟨by kernel_rfl, fun w hSw => by go_simp⟩) (by assumption) ?_
    refine held_call (i := 6) 29 #[Value.pointer (some ⟨b, 0, none⟩), Value.int .i64 m.f] (by kernel_rfl) rfl (by kernel_rfl) (by go_simp) ?_
    refine hT.mono ?_
    rintro r w3 ⟨a, cap, rfl, H3⟩
    have HSy : w3.cell? ⟨X, 4, none⟩ = some (Value.pointer (some ⟨b, 0, none⟩)) ∧ w3.cell? ⟨x, 3, none⟩ = some (Value.int .i64 m.f) ∧ w3.cell? ⟨x, 4, none⟩ = some (Value.int .i64 m.a) ∧ w3.cell? ⟨x, 5, none⟩ = some (Value.int .u32 (m.w : Nat)) := H3.out.2
    refine ⟨_, rfl, HSy, ?_⟩
    refine wpAnyH_take (i := 7) (v := Value.slice a fl cap) rfl (by kernel_rfl) (by kernel_rfl) (by kernel_rfl) (fun _ _ _ h => h) (Or.inl ⟨by kernel_rfl, fun w hSw => by go_simp⟩) (by assumption) ?_
    refine wpAnyH_take (i := 8) (v := Value.int .i64 0) rfl (by kernel_rfl) (by kernel_rfl) (by kernel_rfl) (fun _ _ _ h => h) (Or.inl ⟨by kernel_rfl, fun w hSw => by go_simp⟩) (by assumption) ?_
    refine wpAnyH_take (i := 9) (v := Value.slice a fl cap) rfl (by kernel_rfl) (by kernel_rfl) (by kernel_rfl) (fun _ _ _ h => h) (Or.inl ⟨by kernel_rfl, fun w hSw => by go_simp⟩) (by assumption) ?_
    refine wpAnyH_take (i := 10) (v := Value.int .i64 0) rfl (by kernel_rfl) (by kernel_rfl) (by kernel_rfl) (fun _ _ _ h => h) (Or.inl ⟨by kernel_rfl, fun w hSw => by go_simp⟩) (by assumption) ?_
    refine wpAnyH_done (by kernel_rfl) ?_ _
    clear HSx HSy
    go_wp2_with fail
    go_ret2
    exact ⟨a, cap, by kernel_rfl, H3.out.1⟩
end Go.Proofs.YtpbcgpdfjplidaaGreat
namespace Go.Proofs.YtpbcgpdfjplidaaGreat
set_option maxRecDepth 100000
open Go.RowKit Go.Maps
set_option maxRecDepth 100000
set_option linter.unusedVariables false
theorem PW.layF {e : Nat → Nat} {w0 w w' : World} {t : Nat → Thing} {L : Pw} (h : PW e w0 w t L) {i : Nat} (F : Fre e t i) (b : Below w.heap.size w w') {f : Fm} {a : Option Addr} {cap : Nat} (fr : Fr w' w.heap.size (.slice a f.1 cap) f) (hb : ∀ j, j < f.1 → f.2 j < 256) : PW e w0 w' (putT t (2 * i + 1) (r8Y a f.1 cap f.2)) L := by
  obtain ⟨a', cap', e1, R⟩ := fr.row hb
  injection e1 with e1 _ e2
  subst e1 e2
  exact h.lay b (F i (Nat.le_refl _)).1 R (fun y hy hl => fr.newY y hy hl)
theorem pcarried (e : Nat → Nat) (w0 w : World) (t : Nat → Thing) (L : Pw) (i : Nat) (m : Mv) (d : Option Addr) (c : Nat) (h : PW e w0 w t L) (F : Fre e t i) (h0 : 0 ≤ m.f) (h1 : m.f < ((L.S.bg.length : Nat) : Int)) (hw : m.w < 4294967296) (h4 : m.k = 4 → mkErr (((L.S.bg.getD m.f.toNat fm0).1 : Nat) : Int) m.a m.w = 0) :
    Calls Tryz.prog 59 #[.pointer (some ⟨L.x, 0, none⟩), .agg #[.int .i64 m.k, .int .i64 m.c, .int .i64 m.s, .int .i64 m.f, .int .i64 m.a, .int .u32 (m.w : Nat), .int .i64 m.n, .bool m.h, .slice d m.l c]] w fun r w' => ∃ a cap, r = .returned (.tuple #[.slice a (L.S.fr m).1 cap, .int .i64 0]) ∧ Hid (PW e w0 w' (putT t (2 * i + 1) (r8Y a (L.S.fr m).1 cap (L.S.fr m).2)) L) := by
  have hlt : m.f.toNat < L.S.bg.length := by omega
  have hI : ((m.f.toNat : Nat) : Int) = m.f := by omega
  obtain ⟨f, hf⟩ : ∃ y, L.S.bg.getD m.f.toNat fm0 = y := ⟨_, rfl⟩
  have hg : L.S.bg[m.f.toNat]? = some f := by
    rw [← hf, List.getD_eq_getElem?_getD, List.getElem?_eq_getElem hlt]
    rfl
  rw [hf] at h4
  have hby : f.1 ≤ 27 ∧ ∀ j, j < f.1 → f.2 j < 256 := (h.2.bg h.1).1.fl.small f (List.mem_of_getElem? hg)
  refine wcarried L.x L.b m d c (L.S.fr m) w (fun a cap w' => PW e w0 w' (putT t (2 * i + 1) (r8Y a (L.S.fr m).1 cap (L.S.fr m).2)) L) (cell_of_row w L.x 4 _ _ _ (h.2.wb h.1).blk) (fun wx hk bx => ?_) (fun wx hk bx => ?_)
  · have hp := h.below bx
    have e1 : L.S.fr m = garb f m.a.toNat m.w := by
      unfold Ws.fr
      rw [if_pos hk, hf]
    have hm := h4 hk
    have hm2 : ¬ (m.w = 0 ∨ m.a < 0 ∨ 8 * ((f.1 : Nat) : Int) < m.a + ((PM.bl m.w : Nat) : Int)) := fun q => by
      unfold mkErr at hm
      rw [if_neg (by omega), if_pos q] at hm
      omega
    have hA : ((m.a.toNat : Nat) : Int) = m.a := by omega
    have := bgarb_good 0 L.b L.m L.bv L.bs L.bp L.S.bg m.f.toNat f m.a.toNat m.w wx (hp.2.bg hp.1).1 hg hw (fun q => hm2 (.inl q)) (by omega)
    rw [hI, hA] at this
    refine this.mono ?_
    rintro r w' ⟨g, cap, rfl, H⟩
    rw [e1]
    refine ⟨some ⟨g, 0, none⟩, cap, rfl, hp.layF F H.out.1 (Grb.fr H.out.2.1) (fun j hj => ?_), H.out.1⟩
    exact xr_lt (n := f.1) hby.2 (fun i _ => gby_lt _ _ i) j hj
  · have hp := h.below bx
    have e1 : L.S.fr m = f := by
      unfold Ws.fr
      rw [if_neg hk, hf]
    have := bget_any 0 L.b L.m L.bv L.bs L.bp L.S.bg m.f.toNat f wx (hp.2.bg hp.1).1 hg
    rw [hI] at this
    refine this.mono ?_
    rintro r w' ⟨a, cap, rfl, H⟩
    rw [e1]
    exact ⟨a, cap, rfl, hp.layF F H.out.1 H.out.2 hby.2, H.out.1⟩
end Go.Proofs.YtpbcgpdfjplidaaGreat
namespace Go.Proofs.YtpbcgpdfjplidaaGreat
set_option maxRecDepth 100000
open Go.RowKit Go.Maps
set_option maxRecDepth 100000
set_option linter.unusedVariables false
set_option maxHeartbeats 2000000 in
theorem wdeliver (X : Nat) (m : Mv) (d : Option Addr) (c fl : Nat) (E I : Int) (w : World) (Q1 : Nat → World → Prop) (Q2 : Nat → Option Addr → Nat → World → Prop) (Z : World → Prop)
    (hLay : ∀ wa, wa = w.alloc (.cells #[.int .i64 m.k, .int .i64 m.c, .int .i64 m.s, .int .i64 m.f, .int .i64 m.a, .int .u32 (m.w : Nat), .int .i64 m.n, .bool m.h, .slice d m.l c] 27) → Q1 w.heap.size wa)
    (hC : ∀ x wa, Q1 x wa → Calls Tryz.prog 59 #[.pointer (some ⟨X, 0, none⟩), .agg #[.int .i64 m.k, .int .i64 m.c, .int .i64 m.s, .int .i64 m.f, .int .i64 m.a, .int .u32 (m.w : Nat), .int .i64 m.n, .bool m.h, .slice d m.l c]] wa fun r w' => ∃ a cap, r = .returned (.tuple #[.slice a fl cap, .int .i64 0]) ∧ Hid (Q2 x a cap w'))
    (hX : ∀ x a cap w2, Hid (Q2 x a cap w2) → w2.heap[x]? = some (.cells #[.int .i64 m.k, .int .i64 m.c, .int .i64 m.s, .int .i64 m.f, .int .i64 m.a, .int .u32 (m.w : Nat), .int .i64 m.n, .bool m.h, .slice d m.l c] 27 (0, 0)))
    (hI : m.s = 1 → I = -1)
    (hH : m.s = 1 → ∀ x a cap w2, Hid (Q2 x a cap w2) → Calls Tryz.prog 63 #[.pointer (some ⟨X, 0, none⟩), .int .i64 m.c, .slice a fl cap] w2 fun r w' => r = .returned (.int .i64 E) ∧ Hid (Z w'))
    (hD : m.s ≠ 1 → ∀ x a cap w2, Hid (Q2 x a cap w2) → Calls Tryz.prog 64 #[.pointer (some ⟨X, 0, none⟩), .int .i64 m.c, .slice a fl cap] w2 fun r w' => r = .returned (.tuple #[.int .i64 E, .int .i64 I]) ∧ Hid (Z w')) :
    Calls Tryz.prog 42 #[.pointer (some ⟨X, 0, none⟩), .agg #[.int .i64 m.k, .int .i64 m.c, .int .i64 m.s, .int .i64 m.f, .int .i64 m.a, .int .u32 (m.w : Nat), .int .i64 m.n, .bool m.h, .slice d m.l c]] w fun r w' => r = .returned (.tuple #[.int .i64 E, .int .i64 I]) ∧ Hid (Z w') := by
  have kA := heap_alloc_new w (.cells #[.int .i64 m.k, .int .i64 m.c, .int .i64 m.s, .int .i64 m.f, .int .i64 m.a, .int .u32 (m.w : Nat), .int .i64 m.n, .bool m.h, .slice d m.l c] 27)
  have hq := hLay _ rfl
  obtain ⟨wa, hwa⟩ : ∃ y, w.alloc (.cells #[.int .i64 m.k, .int .i64 m.c, .int .i64 m.s, .int .i64 m.f, .int .i64 m.a, .int .u32 (m.w : Nat), .int .i64 m.n, .bool m.h, .slice d m.l c] 27) = y := ⟨_, rfl⟩
  rw [hwa] at kA hq
  obtain ⟨x, hx⟩ : ∃ y, w.heap.size = y := ⟨_, rfl⟩
  rw [hx] at hq
  have kB : wa.heap[x]? = some (.cells #[.int .i64 m.k, .int .i64 m.c, .int .i64 m.s, .int .i64 m.f, .int .i64 m.a, .int .u32 (m.w : Nat), .int .i64 m.n, .bool m.h, .slice d m.l c] 27 (0, 0)) := by
    rw [← hx]
    exact kA
  have hCc := hC x wa hq
  have q0 : wa.cell? ⟨x, 0, none⟩ = some (.int .i64 m.k) := cell_of_row wa x 0 _ _ _ kB
  have q1 : wa.cell? ⟨x, 1, none⟩ = some (.int .i64 m.c) := cell_of_row wa x 1 _ _ _ kB
  have q2 : wa.cell? ⟨x, 2, none⟩ = some (.int .i64 m.s) := cell_of_row wa x 2 _ _ _ kB
  have q3 : wa.cell? ⟨x, 3, none⟩ = some (.int .i64 m.f) := cell_of_row wa x 3 _ _ _ kB
  have q4 : wa.cell? ⟨x, 4, none⟩ = some (.int .i64 m.a) := cell_of_row wa x 4 _ _ _ kB
  have q5 : wa.cell? ⟨x, 5, none⟩ = some (.int .u32 (m.w : Nat)) := cell_of_row wa x 5 _ _ _ kB
  have q6 : wa.cell? ⟨x, 6, none⟩ = some (.int .i64 m.n) := cell_of_row wa x 6 _ _ _ kB
  have q7 : wa.cell? ⟨x, 7, none⟩ = some (.bool m.h) := cell_of_row wa x 7 _ _ _ kB
  have q8 : wa.cell? ⟨x, 8, none⟩ = some (.slice d m.l c) := cell_of_row wa x 8 _ _ _ kB
  have HX : Hid (_) := hX
  have HE : Hid (_ = wa) := hwa
  have HS : Hid (_ = x) := hx
  clear kA kB hwa hx hX hC hLay hq
  by_cases hs : m.s = 1
  · have hI := hI hs
    subst hI
    have hH := hH hs
    have HH : Hid (_) := hH
    have q : (m.s == 1) = true := by simpa using hs
    clear hD hs hH
    go_enter Tryz.func42, Tryz.ntmps42
    go_upto_region 1 with fail
    rw [HE.out, HS.out]
    go_wp2_with fail
    refine hCc.mono ?_
    rintro r w2 ⟨a, cap, rfl, H2⟩
    have kC := HX.out x a cap w2 H2
    have d1 : w2.cell? ⟨x, 1, none⟩ = some (.int .i64 m.c) := cell_of_row w2 x 1 _ _ _ kC
    have d2 : w2.cell? ⟨x, 2, none⟩ = some (.int .i64 m.s) := cell_of_row w2 x 2 _ _ _ kC
    have hZ := HH.out x a cap w2 H2
    clear kC hCc
    go_wp2_with fail
    refine hZ.mono ?_
    rintro r w3 ⟨rfl, H3⟩
    go_wp2_with fail
    go_ret2
    exact ⟨rfl, H3⟩
  · have hD := hD hs
    have HD : Hid (_) := hD
    have q : (m.s == 1) = false := by simpa using hs
    clear hH hs hD hI
    go_enter Tryz.func42, Tryz.ntmps42
    go_upto_region 1 with fail
    rw [HE.out, HS.out]
    go_wp2_with fail
    refine hCc.mono ?_
    rintro r w2 ⟨a, cap, rfl, H2⟩
    have kC := HX.out x a cap w2 H2
    have d1 : w2.cell? ⟨x, 1, none⟩ = some (.int .i64 m.c) := cell_of_row w2 x 1 _ _ _ kC
    have d2 : w2.cell? ⟨x, 2, none⟩ = some (.int .i64 m.s) := cell_of_row w2 x 2 _ _ _ kC
    have hZ := HD.out x a cap w2 H2
    clear kC hCc
    go_wp2_with fail
    refine hZ.mono ?_
    rintro r w3 ⟨rfl, H3⟩
    go_wp2_with fail
    go_ret2
    exact ⟨rfl, H3⟩
end Go.Proofs.YtpbcgpdfjplidaaGreat
namespace Go.Proofs.YtpbcgpdfjplidaaGreat
set_option maxRecDepth 100000
open Go.RowKit Go.Maps
set_option maxRecDepth 100000
set_option linter.unusedVariables false
def Ws.dlv (S : Ws) (m : Mv) (k : Nat) : Wr := if m.s = 1 then S.toH k (S.fr m) else S.toD k (S.fr m)
theorem pdeliver (e : Nat → Nat) (w0 w : World) (t : Nat → Thing) (L : Pw) (i k : Nat) (m : Mv) (d : Option Addr) (c : Nat) (h : PW e w0 w t L) (F : Fre e t i) (hc : m.c = ((k : Nat) : Int)) (hk : k < L.S.n) (hF : L.S.fs.length ≤ 80000) (hB : L.S.bg.length < 4096) (h0 : 0 ≤ m.f) (h1 : m.f < ((L.S.bg.length : Nat) : Int)) (hw : m.w < 4294967296) (h4 : m.k = 4 → mkErr (((L.S.bg.getD m.f.toNat fm0).1 : Nat) : Int) m.a m.w = 0)
    (hHL : (L.S.hs k).L.length < 800000) (hsn : (L.S.ds k).st = 4 → (L.S.ds k).sn + 1 < 4294967296) (ho : (L.S.ds k).od < 4) (hL : (L.S.ds k).L.length < 800000) (htm : (L.S.ds k).ms.t < 9223372036854774000) (hb : ∀ j, j < (drecv (L.S.PD k) L.S.mx 16 (L.S.ds k) (L.S.fr m).1 (L.S.fr m).2).f.1 → (drecv (L.S.PD k) L.S.mx 16 (L.S.ds k) (L.S.fr m).1 (L.S.fr m).2).f.2 j < 256) (hf : (drecv (L.S.PD k) L.S.mx 16 (L.S.ds k) (L.S.fr m).1 (L.S.fr m).2).f.1 ≤ 27) :
    Calls Tryz.prog 42 #[.pointer (some ⟨L.x, 0, none⟩), .agg #[.int .i64 m.k, .int .i64 m.c, .int .i64 m.s, .int .i64 m.f, .int .i64 m.a, .int .u32 (m.w : Nat), .int .i64 m.n, .bool m.h, .slice d m.l c]] w fun r w' => r = .returned (.tuple #[.int .i64 (L.S.dlv m k).e, .int .i64 (L.S.dlv m k).i]) ∧ Hid (PWn e w0 t L w' (L.S.dlv m k).S) := by
  have f0 := F i (Nat.le_refl _)
  have Fa : ∀ x, Fre e (putT t (2 * i + 1) (blT [(x, .cells #[.int .i64 m.k, .int .i64 m.c, .int .i64 m.s, .int .i64 m.f, .int .i64 m.a, .int .u32 (m.w : Nat), .int .i64 m.n, .bool m.h, .slice d m.l c] 27 (0, 0))])) (i + 1) := fun x => F.put _
  have Fb : ∀ x a cap, Fre e (putT (putT t (2 * i + 1) (blT [(x, .cells #[.int .i64 m.k, .int .i64 m.c, .int .i64 m.s, .int .i64 m.f, .int .i64 m.a, .int .u32 (m.w : Nat), .int .i64 m.n, .bool m.h, .slice d m.l c] 27 (0, 0))])) (2 * (i + 1) + 1) (r8Y a (L.S.fr m).1 cap (L.S.fr m).2)) (i + 1 + 1) := fun x a cap => (Fa x).put _
  have hdrop : ∀ x a cap w' S, PWn e w0 (putT (putT t (2 * i + 1) (blT [(x, .cells #[.int .i64 m.k, .int .i64 m.c, .int .i64 m.s, .int .i64 m.f, .int .i64 m.a, .int .u32 (m.w : Nat), .int .i64 m.n, .bool m.h, .slice d m.l c] 27 (0, 0))])) (2 * (i + 1) + 1) (r8Y a (L.S.fr m).1 cap (L.S.fr m).2)) L w' S → PWn e w0 t L w' S := fun x a cap w' S q => (q.drop (Fa x (i + 1) (Nat.le_refl _)).1 (Fa x (i + 1) (Nat.le_refl _)).2).drop f0.1 f0.2
  refine wdeliver L.x m d c (L.S.fr m).1 (L.S.dlv m k).e (L.S.dlv m k).i w (fun x wa => PW e w0 wa (putT t (2 * i + 1) (blT [(x, .cells #[.int .i64 m.k, .int .i64 m.c, .int .i64 m.s, .int .i64 m.f, .int .i64 m.a, .int .u32 (m.w : Nat), .int .i64 m.n, .bool m.h, .slice d m.l c] 27 (0, 0))])) L) (fun x a cap w2 => PW e w0 w2 (putT (putT t (2 * i + 1) (blT [(x, .cells #[.int .i64 m.k, .int .i64 m.c, .int .i64 m.s, .int .i64 m.f, .int .i64 m.a, .int .u32 (m.w : Nat), .int .i64 m.n, .bool m.h, .slice d m.l c] 27 (0, 0))])) (2 * (i + 1) + 1) (r8Y a (L.S.fr m).1 cap (L.S.fr m).2)) L) (fun w' => PWn e w0 t L w' (L.S.dlv m k).S) (fun wa ew => ?_) (fun x wa hq => ?_) (fun x a cap w2 H => ?_) (fun hs => ?_) (fun hs x a cap w2 H => ?_) (fun hs x a cap w2 H => ?_)
  · subst ew
    refine h.layL (belY (Below.refl _ w) _) f0.1 (fun p hp => ?_) (fun p hp => ?_)
    · simp only [List.mem_cons, List.not_mem_nil, or_false] at hp
      subst hp
      exact heap_alloc_new w _
    · simp only [List.mem_cons, List.not_mem_nil, or_false] at hp
      subst hp
      exact Nat.le_refl _
  · exact pcarried e w0 wa _ L (i + 1) m d c hq (Fa x) h0 h1 hw h4
  · have h9 := H.out
    refine h9.1.get (i := 2 * i + 1) (x := blT [(x, .cells #[.int .i64 m.k, .int .i64 m.c, .int .i64 m.s, .int .i64 m.f, .int .i64 m.a, .int .u32 (m.w : Nat), .int .i64 m.n, .bool m.h, .slice d m.l c] 27 (0, 0))]) ?_ (x, _) (by simp)
    rw [putT_ne _ _ (by omega), putT_same]
  · unfold Ws.dlv
    rw [if_pos hs]
    rfl
  · have e1 : L.S.dlv m k = L.S.toH k (L.S.fr m) := if_pos hs
    rw [e1, hc]
    refine (ptoHost e w0 w2 _ L k (L.S.fr m) a cap (2 * (i + 1) + 1) H.out hk (by omega) (Fa x (i + 1) (Nat.le_refl _)).1 (putT_same _ _ _) hHL).mono ?_
    rintro r w' ⟨rfl, H3⟩
    exact ⟨rfl, hdrop x a cap w' _ H3.out⟩
  · have e1 : L.S.dlv m k = L.S.toD k (L.S.fr m) := if_neg hs
    rw [e1, hc]
    refine (ptoDev e w0 w2 _ L k (L.S.fr m) a cap (i + 1 + 1) (2 * (i + 1) + 1) H.out (Fb x a cap) hk hF hB (Fa x (i + 1) (Nat.le_refl _)).1 (by omega) (putT_same _ _ _) hsn ho hL htm hb hf).mono ?_
    rintro r w' ⟨rfl, H3⟩
    exact ⟨rfl, hdrop x a cap w' _ H3.out⟩
end Go.Proofs.YtpbcgpdfjplidaaGreat
namespace Go.Proofs.YtpbcgpdfjplidaaGreat
set_option maxRecDepth 100000
open Go.RowKit Go.Maps
set_option maxRecDepth 100000
set_option linter.unusedVariables false
end Go.Proofs.YtpbcgpdfjplidaaGreat
namespace Go.Proofs.YtpbcgpdfjplidaaGreat
set_option maxRecDepth 100000
open Go.RowKit Go.Maps
set_option maxRecDepth 100000
set_option linter.unusedVariables false
theorem intEqF {a b : Int} (h : a ≠ b) : (a == b) = false := by simpa using h
theorem intEqT {a b : Int} (h : a = b) : (a == b) = true := by simpa using h
set_option maxHeartbeats 1000000 in
theorem pisSide (s : Int) (w : World) : Calls Tryz.prog 27 #[.int .i64 s] w fun r w' => r = .returned (.bool ((s == 1) || (s == 2))) ∧ w' = w := by
  by_cases h1 : s = 1
  · have q1 := intEqT h1
    rw [q1]
    clear h1
    go_enter Tryz.func27, Tryz.ntmps27
    go_wp2_with fail
    go_ret
    exact ⟨rfl, rfl⟩
  · have q1 := intEqF h1
    obtain ⟨B, q2⟩ : ∃ y, (s == 2) = y := ⟨_, rfl⟩
    rw [q1, q2]
    clear h1
    go_enter Tryz.func27, Tryz.ntmps27
    go_wp2_with fail
    go_ret
    exact ⟨rfl, rfl⟩
set_option maxHeartbeats 1000000 in
theorem pusesSide (k : Int) (w : World) : Calls Tryz.prog 39 #[.int .i64 k] w fun r w' => r = .returned (.bool (sidedM k)) ∧ w' = w := by
  unfold sidedM
  by_cases h1 : k = 2
  · have q1 : (k != 2) = false := congrArg not (intEqT h1)
    rw [q1]
    clear h1
    go_enter Tryz.func39, Tryz.ntmps39
    go_wp2_with fail
    go_ret
    exact ⟨rfl, rfl⟩
  · have q1 : (k != 2) = true := congrArg not (intEqF h1)
    obtain ⟨B, q2⟩ : ∃ y, (k != 8) = y := ⟨_, rfl⟩
    rw [q1, q2]
    clear h1
    go_enter Tryz.func39, Tryz.ntmps39
    go_wp2_with fail
    go_ret
    exact ⟨rfl, rfl⟩
set_option maxHeartbeats 1000000 in
theorem phas (X : Nat) (a : Option Addr) (n c : Nat) (k : Int) (w : World) (cv : w.cell? ⟨X, 3, none⟩ = some (.slice a n c)) : Calls Tryz.prog 26 #[.pointer (some ⟨X, 0, none⟩), .int .i64 k] w fun r w' => r = .returned (.bool (decide (0 ≤ k ∧ k < ((n : Nat) : Int)))) ∧ w' = w := by
  obtain ⟨R, hR⟩ : ∃ y, decide (0 ≤ k ∧ k < ((n : Nat) : Int)) = y := ⟨_, rfl⟩
  rw [hR]
  by_cases h1 : 0 ≤ k
  · by_cases h2 : k < ((n : Nat) : Int)
    · rw [decide_eq_true ⟨h1, h2⟩] at hR
      subst hR
      go_enter Tryz.func26, Tryz.ntmps26
      go_wp2_with fail
      go_ret
      exact ⟨rfl, rfl⟩
    · rw [decide_eq_false (fun q => h2 q.2)] at hR
      subst hR
      go_enter Tryz.func26, Tryz.ntmps26
      go_wp2_with fail
      go_ret
      exact ⟨rfl, rfl⟩
  · rw [decide_eq_false (fun q => h1 q.1)] at hR
    subst hR
    go_enter Tryz.func26, Tryz.ntmps26
    go_wp2_with fail
    go_ret
    exact ⟨rfl, rfl⟩
end Go.Proofs.YtpbcgpdfjplidaaGreat
namespace Go.Proofs.YtpbcgpdfjplidaaGreat
set_option maxRecDepth 100000
open Go.RowKit Go.Maps
set_option maxRecDepth 100000
set_option linter.unusedVariables false
end Go.Proofs.YtpbcgpdfjplidaaGreat
