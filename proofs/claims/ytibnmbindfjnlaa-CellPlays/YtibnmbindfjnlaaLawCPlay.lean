/- Layer 8: every Open and Next over any memory, as the document has it. (genplays8.py) -/
import Derived.Test.YtibnmbindfjnlaaCPl
import Derived.Test.YtibnmbindfjnlaaOp8
import Derived.Test.YtibnmbindfjnlaaHold
namespace Go.Proofs.Ytibnmbindfjnlaa
open Go.RowKit

/-- A memory and the document's, which hold the same; a cell over each, or none. -/
structure Pl (w : World) (b g b' g' n mx : Nat) (s : Ms) (B : Nat) (pc pd : Option Addr) : Prop where
  m : MR w b g n s
  r : RR w b' g' n s
  hb : B ≤ b ∧ B ≤ g ∧ B ≤ b' ∧ B ≤ g'
  d1 : b ≠ b' ∧ b ≠ g' ∧ g ≠ b' ∧ g ≠ g'
  cell : (pc = none ∧ pd = none) ∨ ∃ (c d : Nat) (z : Nat → Nat) (cut : Bool), pc = some ⟨c, 0, none⟩ ∧ pd = some ⟨d, 0, none⟩ ∧ CS w c b mx z cut ∧ RX w d b' mx (vz z) cut ∧ Bz z ∧ (cut = false → z = s.bs) ∧ 10 ≤ n ∧ (c ≠ b ∧ c ≠ g ∧ c ≠ b' ∧ c ≠ g' ∧ c ≠ d ∧ d ≠ b ∧ d ≠ g ∧ d ≠ b' ∧ d ≠ g' ∧ B ≤ c ∧ B ≤ d)
theorem byOff8 {l : List Nat} {w0 w w' : World} (hb : Below w0.heap.size w0 w) (h : Off l w w') (hB : ∀ k, k ∈ l → w0.heap.size ≤ k) : Below w0.heap.size w0 w' := h.below hb hB hb.size
theorem Pl.off {w w' : World} {b g b' g' n mx B : Nat} {s : Ms} {pc pd : Option Addr} (h : Pl w b g b' g' n mx s B pc pd) (q : Off [] w w') : Pl w' b g b' g' n mx s B pc pd := by
  refine ⟨h.m.off q (by simp) (by simp), h.r.off q (by simp) (by simp), h.hb, h.d1, ?_⟩
  rcases h.cell with hn | ⟨c, d, z, cut, h1, h2, h3, h4, h5⟩
  · exact .inl hn
  · exact .inr ⟨c, d, z, cut, h1, h2, h3.off q (by simp), h4.off q (by simp), h5⟩
theorem Pl.who {w : World} {b g b' g' n mx B : Nat} {s : Ms} {pc pd : Option Addr} (h : Pl w b g b' g' n mx s B pc pd) : (pc = none ∧ pd = none) ∨ ∃ c d : Nat, pc = some ⟨c, 0, none⟩ ∧ pd = some ⟨d, 0, none⟩ := by
  rcases h.cell with hn | ⟨c, d, z, cut, h1, h2, _⟩
  · exact .inl hn
  · exact .inr ⟨c, d, h1, h2⟩
theorem Pl.cell8 {w : World} {b g b' g' n mx B c d : Nat} {s : Ms} (h : Pl w b g b' g' n mx s B (some ⟨c, 0, none⟩) (some ⟨d, 0, none⟩)) :
    ∃ (z : Nat → Nat) (cut : Bool), CS w c b mx z cut ∧ RX w d b' mx (vz z) cut ∧ Bz z ∧ (cut = false → z = s.bs) ∧ 10 ≤ n ∧ (c ≠ b ∧ c ≠ g ∧ c ≠ b' ∧ c ≠ g' ∧ c ≠ d ∧ d ≠ b ∧ d ≠ g ∧ d ≠ b' ∧ d ≠ g' ∧ B ≤ c ∧ B ≤ d) := by
  rcases h.cell with ⟨h1, _⟩ | ⟨c2, d2, z, cut, h1, h2, h3⟩
  · simp at h1
  · simp only [Option.some.injEq, Addr.mk.injEq, and_true] at h1 h2
    subst h1 h2
    exact ⟨z, cut, h3⟩
theorem Pl.both {w w' : World} {b g b' g' n mx B : Nat} {s s2 : Ms} {pc pd : Option Addr} (h : Pl w b g b' g' n mx s B pc pd) (o : Off [b, b'] w w') (m : MR w' b g n s2) (r : RR w' b' g' n s2) (hs : s2.bs = s.bs) : Pl w' b g b' g' n mx s2 B pc pd := by
  refine ⟨m, r, h.hb, h.d1, ?_⟩
  rcases h.cell with hn | ⟨c, d, z, cut, h1, h2, h3, h4, h5, h6, h7, h8⟩
  · exact .inl hn
  · exact .inr ⟨c, d, z, cut, h1, h2, h3.off o (by simp; omega), h4.off o (by simp; omega), h5, fun hc => (h6 hc).trans hs.symm, h7, h8⟩
theorem Pl.opens {w w7 w8 : World} {b g b' g' n mx B : Nat} {s : Ms} {pc pd p p' : Option Addr} (h : Pl w b g b' g' n mx s B pc pd) (_hB : B ≤ w.heap.size) (o7 : Off [b, g] w w7) (m7 : MR w7 b g n (opS mx n s))
    (c7 : Hid ((opE mx n s = 0 → ∃ c, p = some ⟨c, 0, none⟩ ∧ w.heap.size ≤ c ∧ CS w7 c b mx (opS mx n s).bs false) ∧ (¬ opE mx n s = 0 → p = none))) (o8 : Off [b', g'] w7 w8) (r8 : RR w8 b' g' n (opS mx n s))
    (c8 : Hid ((opE mx n s = 0 → ∃ d, p' = some ⟨d, 0, none⟩ ∧ w7.heap.size ≤ d ∧ RX w8 d b' mx (vz s.bs) false) ∧ (¬ opE mx n s = 0 → p' = none))) : Pl w8 b g b' g' n mx (opS mx n s) B p p' := by
  have hd := h.d1
  have hb := h.hb
  have m8 := m7.off o8 (by simp; omega) (by simp; omega)
  refine ⟨m8, r8, hb, hd, ?_⟩
  by_cases he : opE mx n s = 0
  · obtain ⟨c, rfl, hc, C⟩ := c7.out.1 he
    obtain ⟨d, rfl, hdd, D⟩ := c8.out.1 he
    obtain ⟨e1, e2, e3⟩ := opened b g n mx s w h.m he
    have lc := C.lt
    have l1 := h.m.lt
    have l2 := h.m.lg
    have l3 := h.r.lt
    have l4 := h.r.lg
    have l5 := o7.size
    refine .inr ⟨c, d, (opS mx n s).bs, false, rfl, rfl, C.off o8 (by simp; omega), by rw [e3]; exact D, fun i hi => m8.byte i (by omega), fun _ => rfl, e2, ?_⟩
    omega
  · exact .inl ⟨c7.out.2 he, c8.out.2 he⟩
theorem nx_bz {mx n : Nat} {z : Nat → Nat} {cut : Bool} {s : Ms} (hz : Bz z) (h : ∀ i, i < 10 → (nx mx n z cut s).s.bs i < 256) : Bz (nx mx n z cut s).z := by
  unfold nx at h ⊢
  split at h
  · rw [if_pos (by assumption)]; exact hz
  · rw [if_neg (by assumption)]
    split at h
    · rw [if_pos (by assumption)]; exact hz
    · rw [if_neg (by assumption)]
      split at h
      · rw [if_pos (by assumption)]; exact h
      · rw [if_neg (by assumption)]; exact hz
/-- Inside a region that arms both: which of the two is armed already. -/
structure Pa (w0 : World) (b g b' g' n : Nat) (s s2 : Ms) (i j : Bool) (wx : World) : Prop where
  off : Off [b, b'] w0 wx
  m : MR wx b g n (if i then s2 else s)
  r : RR wx b' g' n (if j then s2 else s)
  d1 : b ≠ b' ∧ b ≠ g' ∧ g ≠ b' ∧ g ≠ g'
theorem Pa.drew {w0 wx : World} {b g b' g' n : Nat} {s s2 : Ms} {i j : Bool} (h : Pa w0 b g b' g' n s s2 i j wx) : Pa w0 b g b' g' n s s2 i j wx.drew :=
  ⟨h.off.trans (Off.drew _ _), h.m.off (Off.drew [] _) (by simp) (by simp), h.r.off (Off.drew [] _) (by simp) (by simp), h.d1⟩
theorem pa_arm {w0 wx : World} {b g b' g' n : Nat} {s : Ms} {p : Int} (j : Bool) (h : Pa w0 b g b' g' n s (arS s p) false j wx) (hp : p ≤ 9223372036854775807) :
    Calls Try.prog 19 #[.pointer (some ⟨b, 0, none⟩), .int .i64 p] wx fun e w' => e = .returned (.int .i64 (arE p)) ∧ Pa w0 b g b' g' n s (arS s p) true j w' := by
  have hd := h.d1
  refine (arm_any b g n s p wx h.m hp).mono ?_
  rintro e w' ⟨rfl, o, m⟩
  exact ⟨rfl, h.off.trans (o.more (by simp)), m, h.r.off o (by simp; omega) (by simp; omega), hd⟩
theorem pa_rarm {w0 wx : World} {b g b' g' n : Nat} {s : Ms} {p : Int} (i : Bool) (h : Pa w0 b g b' g' n s (arS s p) i false wx) (hp : p ≤ 9223372036854775807) :
    Calls Try.prog 20 #[.pointer (some ⟨b', 0, none⟩), .int .i64 p] wx fun e w' => e = .returned (.int .i64 (arE p)) ∧ Pa w0 b g b' g' n s (arS s p) i true w' := by
  have hd := h.d1
  refine (rarm_any b' g' n s p wx h.r hp).mono ?_
  rintro e w' ⟨rfl, o, m⟩
  exact ⟨rfl, h.off.trans (o.more (by simp)), h.m.off o (by simp; omega) (by simp; omega), m, hd⟩
set_option maxRecDepth 100000 in
set_option maxHeartbeats 8000000 in
theorem plays_no (a0 : Option Addr) (len0 cap0 : Nat) (bs : Nat → Nat) (mx : Nat) (v2 : Value) (w : World) (R : Row8 w a0 len0 cap0 bs) (s0 : len0 ≤ 140737488351232) (hL : 4096 < len0) :
    Calls Try.prog 3 #[.slice a0 len0 cap0, .int .u32 (mx : Nat), v2] w fun e w' => e = .returned (.bool true) ∧ Below w.heap.size w w' := by
  obtain ⟨i0, hi, hz0, hz1, hz2⟩ := info_parts info_u8
  have hby := R.byte
  go_enter Try.func3, Try.ntmps3
  go_wp2_with fail
  refine (awake8 w).mono ?_
  rintro e w1 ⟨rfl, b1⟩
  have k1 := b1.size
  have RA := (R.below b1).below ((Below.refl _ _).alloc (Nat.le_refl _) (.cells #[] 5))
  have hbelA : Below w1.heap.size w1 (w1.alloc (.cells #[] 5)) := (Below.refl _ _).alloc (Nat.le_refl _) _
  have O0 : (w1.alloc (.cells #[] 5)).ownsRow w1.heap.size 5 1 (.slice (some ⟨w1.heap.size, 0, none⟩) 0 0) 0 [] := World.ownsRow_made w1 #[] 0 (Nat.le_refl _) (Nat.zero_le _) rfl
  have hszA := hbelA.size
  go_wp2_with (at_builtin; refine wpList_append_row8 rfl (.tmp 21) (.tmp 22) 22 rfl w1.heap.size 5 i0 (.int .u8 0) Try.underlying22 hi hz0 hz1 hz2 rfl _ 0 _ rfl O0 a0 len0 cap0 bs rfl RA (by unfold maxLen; omega) (by omega) hszA ?_)
  intro v3 w2 hown2 hgrow2
  have hbel2 : Below w1.heap.size w1 w2 := hbelA.grown hgrow2 hszA (fun j hj => (O0.lt j hj).1)
  obtain ⟨a3, c3, rfl, R3⟩ := own_row8 hown2 hby
  have b2 : Below w.heap.size w w2 := b1.trans (hbel2.mono k1)
  clear hown2 hgrow2 O0 RA hbelA hbel2 hszA b1 k1
  have qa := load_no a3 len0 c3 w2 hL
  have qb := rload_no a0 len0 cap0 w2 hL
  go_wp2_with fail
  refine qa.mono ?_
  rintro e w' ⟨rfl, hw⟩
  rw [hw]
  clear hw qa
  go_wp2_with fail
  refine qb.mono ?_
  rintro e w' ⟨rfl, hw⟩
  rw [hw]
  clear hw qb
  go_wp2_with fail
  go_ret
  exact ⟨rfl, b2⟩
set_option maxRecDepth 100000 in
set_option maxHeartbeats 8000000 in
theorem plays_go (a0 : Option Addr) (len0 cap0 : Nat) (bs : Nat → Nat) (mx : Nat) (a2 : Option Addr) (len2 cap2 : Nat) (w : World) (R : Row8 w a0 len0 cap0 bs) (hL : len0 ≤ 4096) (hmx : mx < 4294967296) (hO : OpRow w a2 len2) :
    Calls Try.prog 3 #[.slice a0 len0 cap0, .int .u32 (mx : Nat), .slice a2 len2 cap2] w fun e w' => e = .returned (.bool true) ∧ Below w.heap.size w w' := by
  obtain ⟨i0, hi, hz0, hz1, hz2⟩ := info_parts info_u8
  have hby := R.byte
  go_enter Try.func3, Try.ntmps3
  go_wp2_with fail
  refine (awake8 w).mono ?_
  rintro e w1 ⟨rfl, b1⟩
  have k1 := b1.size
  have RA := (R.below b1).below ((Below.refl _ _).alloc (Nat.le_refl _) (.cells #[] 5))
  have hbelA : Below w1.heap.size w1 (w1.alloc (.cells #[] 5)) := (Below.refl _ _).alloc (Nat.le_refl _) _
  have O0 : (w1.alloc (.cells #[] 5)).ownsRow w1.heap.size 5 1 (.slice (some ⟨w1.heap.size, 0, none⟩) 0 0) 0 [] := World.ownsRow_made w1 #[] 0 (Nat.le_refl _) (Nat.zero_le _) rfl
  have hszA := hbelA.size
  go_wp2_with (at_builtin; refine wpList_append_row8 rfl (.tmp 21) (.tmp 22) 22 rfl w1.heap.size 5 i0 (.int .u8 0) Try.underlying22 hi hz0 hz1 hz2 rfl _ 0 _ rfl O0 a0 len0 cap0 bs rfl RA (by unfold maxLen; omega) (by omega) hszA ?_)
  intro v3 w2 hown2 hgrow2
  have hbel2 : Below w1.heap.size w1 w2 := hbelA.grown hgrow2 hszA (fun j hj => (O0.lt j hj).1)
  obtain ⟨a3, c3, rfl, R3⟩ := own_row8 hown2 hby
  have b2 : Below w.heap.size w w2 := b1.trans (hbel2.mono k1)
  have k2 := b2.size
  clear hown2 hgrow2 O0 RA hbelA hbel2 hszA b1 k1
  go_wp2_with fail
  refine (load_ok a3 len0 c3 bs w2 R3 hL).mono ?_
  rintro e w3 ⟨b, g, rfl, H3⟩
  obtain ⟨lb, lg, o3, m3⟩ := H3.out
  have b3 : Below w.heap.size w w3 := o3.below b2 (by simp) k2
  have k3 := b3.size
  have lb3 := m3.lt
  have lg3 := m3.lg
  have R4 := R.below b3
  clear H3 o3 R3 b2
  go_wp2_with fail
  refine (rload_ok a0 len0 cap0 bs w3 R4 hL).mono ?_
  rintro e w4 ⟨b', g', rfl, H4⟩
  obtain ⟨lb', lg', o4, m4⟩ := H4.out
  have b4 : Below w.heap.size w w4 := o4.below b3 (by simp) k3
  have m3' := m3.off o4 (by simp) (by simp)
  have hB : w.heap.size ≤ b ∧ w.heap.size ≤ g ∧ w.heap.size ≤ b' ∧ w.heap.size ≤ g' := by omega
  have hD : b ≠ b' ∧ b ≠ g' ∧ g ≠ b' ∧ g ≠ g' := by omega
  have lb4 := m4.lt
  have lg4 := m4.lg
  have HP : Hid (_) := And.intro (And.intro m3' m4) (And.intro b4 (And.intro hB hD))
  clear H4 o4 m3 m3' m4 b3 b4 R4 R hby hi hz0 hz1 hz2 k2 k3 lb lg lb' lg' lb3 lg3 lb4 lg4
  go_wp2_with fail
  refine (popen b g len0 mx _ w4 HP.out.1.1 (by show (0 : Int) < _; omega)).mono ?_
  rintro e w5 ⟨pc, rfl, H5⟩
  have P5 := HP.out
  clear HP
  obtain ⟨⟨m4, r4⟩, b4, hB, hD⟩ := P5
  have o5 := H5.out.1
  have m5 := H5.out.2.1
  have HC5 : Hid (_) := H5.out.2.2
  clear H5
  have r5 := r4.off o5 (by simp; omega) (by simp; omega)
  have b5 : Below w.heap.size w w5 := byOff8 b4 o5 (by simp; omega)
  have k4 := b4.size
  have lb4 := r4.lt
  have lg4 := r4.lg
  have lb5 := m4.lt
  have lg5 := m4.lg
  have P4 : Hid (Pl w4 b g b' g' len0 mx (S0 bs) w.heap.size none none) := show _ from ⟨m4, r4, hB, hD, .inl ⟨rfl, rfl⟩⟩
  have O5 : Hid (_) := o5
  have HP : Hid (_) := And.intro m5 (And.intro r5 b5)
  clear o5 m4 r4 m5 r5 b4 b5
  go_wp2_with fail
  refine (ropen b' g' len0 mx _ w5 HP.out.2.1 (by show (0 : Int) < _; omega)).mono ?_
  rintro e w6 ⟨pd, rfl, H6⟩
  obtain ⟨m5, r5, b5⟩ := HP.out
  clear HP
  have o6 := H6.out.1
  have r6 := H6.out.2.1
  have HC6 : Hid (_) := H6.out.2.2
  clear H6
  have b6 : Below w.heap.size w w6 := byOff8 b5 o6 (by simp; omega)
  have P6 := P4.out.opens k4 O5.out m5 HC5 o6 r6 HC6
  have T6 := opS_t mx len0 (S0 bs) (by show (0 : Int) ≤ 0; omega)
  have T7 : (opS mx len0 (S0 bs)).t ≤ 6 := by
    have : (S0 bs).t = 0 := rfl
    omega
  obtain ⟨E6, hE6⟩ : ∃ E6, opE mx len0 (S0 bs) = E6 := ⟨_, rfl⟩
  obtain ⟨s6, hs6⟩ : ∃ s6, opS mx len0 (S0 bs) = s6 := ⟨_, rfl⟩
  rw [hs6] at P6 T7
  rw [hE6]
  clear hE6 hs6 T6 m5 r5 b5 HC5 HC6 o6 r6 P4 O5 hB hD k4 lb4 lg4 lb5 lg5
  go_wp2_with fail
  go_loopw [6, 8, 10, 11, 12, 13, 14, 15, 16, 17] (fun _ ce cf cc cd ci _ _ _ _ wr => ∃ (i : Nat) (s : Ms) (E : Int) (pc pd : Option Addr), i ≤ 200 ∧ ci = .int .i64 ((i : Nat) : Int) ∧ ce = .int .i64 E ∧ cf = .int .i64 E ∧ cc = .pointer pc ∧ cd = .pointer pd ∧ s.t ≤ 6 * (i : Int) + 6 ∧ Pl wr b g b' g' len0 mx s w.heap.size pc pd ∧ Below w.heap.size w wr) (fun _ _ _ _ _ ci _ _ _ _ _ => 201 - (intOf ci).toNat)
  case atStart => exact ⟨0, s6, E6, pc, pd, by omega, rfl, rfl, rfl, rfl, rfl, by omega, P6, b6⟩
  case round =>
    clear P6 b6 T7
    obtain ⟨i, s, E, pc, pd, hi, rfl, rfl, rfl, rfl, rfl, hT, P, B⟩ := hrel
    rcases P.who with ⟨rfl, rfl⟩ | ⟨c, d, rfl, rfl⟩
    · have M1 := P.m.off (Off.drew [] wr) (by simp) (by simp)
      have R1 := P.r.off (Off.drew [] wr) (by simp) (by simp)
      have PH : Hid (_) := And.intro P B
      obtain ⟨aR, cR, c0, r0, _, c1, _, _, c4, _⟩ := R1.cells
      have k0 := conv_any aR len0 cR s.bs _ r0
      have q2 := bytes_any b g len0 s _ M1
      have HM : Hid (_) := And.intro M1 (And.intro R1 r0)
      have hby5 := M1.byte
      obtain ⟨X, hX⟩ : ∃ X, BA s.bs len0 = X := ⟨_, rfl⟩
      rw [hX] at k0
      have HS : wr.drew.cell? ⟨b', 0, none⟩ = some (.slice aR len0 cR) ∧ wr.drew.cell? ⟨b', 1, none⟩ = some (.bool s.off) ∧ wr.drew.cell? ⟨b', 4, none⟩ = some (.int .i64 s.t) ∧ (convert 22 9 (.slice aR len0 cR)).run Try.prog wr.drew = .ok (.string X) wr.drew := ⟨c0, c1, c4, k0⟩
      clear P B M1 R1 r0 c0 c1 c4 k0
      go_wp2_with fail
      refine wp_region_held_drew (S := fun w' => w'.cell? ⟨b', 0, none⟩ = some (.slice aR len0 cR) ∧ w'.cell? ⟨b', 1, none⟩ = some (.bool s.off) ∧ w'.cell? ⟨b', 4, none⟩ = some (.int .i64 s.t) ∧ (convert 22 9 (.slice aR len0 cR)).run Try.prog w' = .ok (.string X) w') (by kernel_rfl) HS (fun _ => ?_)
      refine held_at (a' := { tmps := #[Value.slice a0 len0 cap0, Value.int .u32 (mx : Nat), Value.slice a2 len2 cap2, undef, undef, undef, u6, Value.pointer (some ⟨b, 0, none⟩), Value.int .i64 E, Value.pointer (some ⟨b', 0, none⟩), Value.int .i64 E, Value.pointer none, Value.pointer none, Value.int .i64 (i : Nat), u14, u15, u16, u17, Value.bool true, Value.bool false, Value.tuple #[Value.pointer (some ⟨b, 0, none⟩), Value.int .i64 0], Value.slice (some ⟨w1.heap.size, 0, none⟩) 0 0, Value.slice a0 len0 cap0, Value.slice a3 len0 c3, Value.tuple #[Value.pointer (some ⟨b, 0, none⟩), Value.int .i64 0], Value.pointer (some ⟨b, 0, none⟩), Value.int .i64 0, Value.tuple #[Value.pointer (some ⟨b', 0, none⟩), Value.int .i64 0], Value.slice a0 len0 cap0, Value.tuple #[Value.pointer (some ⟨b', 0, none⟩), Value.int .i64 0], Value.pointer (some ⟨b', 0, none⟩), Value.int .i64 0, Value.int .i64 0, Value.int .i64 0, Value.bool false, Value.pointer (some ⟨b', 0, none⟩), Value.bool false, Value.tuple #[Value.pointer pc, Value.int .i64 E6], Value.pointer (some ⟨b, 0, none⟩), Value.int .u32 (mx : Nat), Value.tuple #[Value.pointer pc, Value.int .i64 E6], Value.pointer pc, Value.int .i64 E6, Value.tuple #[Value.pointer pd, Value.int .i64 E6], Value.pointer (some ⟨b', 0, none⟩), Value.int .u32 (mx : Nat), Value.tuple #[Value.pointer pd, Value.int .i64 E6], Value.pointer pd, Value.int .i64 E6, u49, u50, u51, u52, u53, u54, u55, u56, u57, u58, u59, u60, u61, u62, u63, u64, u65, u66, u67, u68, u69, u70, u71, u72, u73, u74, u75, u76, u77, u78, u79, u80, u81, u82, u83, u84, u85, u86, u87, u88, u89, u90, u91, u92, u93, u94, u95, u96, u97, u98, u99, u100, u101, u102, u103, u104, u105, u106, u107, u108, u109, u110, u111, u112, u113, u114, u115, u116, u117, u118, u119, u120, u121, u122, u123, u124, u125, u126, u127, u128, u129, u130, u131, u132, u133, u134, u135, u136, u137, u138, u139, u140, u141, u142, u143, u144, u145, u146, u147, u148, u149, u150, u151, u152, u153, u154, u155, u156, u157, u158, u159, u160, u161, u162, u163, u164, u165, u166, u167, u168, u169, u170, u171], defers := [] }) (l' := #[false, false, false, false, false, false, false, false, false, false, false, false, false, false, false, false, false, false, false, false, false, false, false, false, false, false, false, false, false, false, false, false, false, false, false, false, false, false, false]) (by kernel_rfl) (by kernel_rfl) ?_
      refine wpAnyH_take (i := 0) (v := Value.int .i64 E) rfl (by kernel_rfl) (by kernel_rfl) (by kernel_rfl) (fun _ _ _ h => h) (Or.inl ⟨by kernel_rfl, fun w hSw => by go_simp⟩) (by assumption) ?_
      refine wpAnyH_take (i := 1) (v := Value.int .i64 E) rfl (by kernel_rfl) (by kernel_rfl) (by kernel_rfl) (fun _ _ _ h => h) (Or.inl ⟨by kernel_rfl, fun w hSw => by go_simp⟩) (by assumption) ?_
      refine wpAnyH_take (i := 2) (v := Value.bool false) rfl (by kernel_rfl) (by kernel_rfl) (by kernel_rfl) (fun _ _ _ h => h) (Or.inl ⟨by kernel_rfl, fun w hSw => by go_simp⟩) (by assumption) ?_
      refine wpAnyH_take (i := 3) (v := Value.bool false) rfl (by kernel_rfl) (by kernel_rfl) (by kernel_rfl) (fun _ _ _ h => h) (Or.inl ⟨by kernel_rfl, fun w hSw => by go_simp⟩) (by assumption) ?_
      refine wpAnyH_take (i := 4) (v := Value.pointer none) rfl (by kernel_rfl) (by kernel_rfl) (by kernel_rfl) (fun _ _ _ h => h) (Or.inl ⟨by kernel_rfl, fun w hSw => by go_simp⟩) (by assumption) ?_
      refine wpAnyH_take (i := 5) (v := Value.bool true) rfl (by kernel_rfl) (by kernel_rfl) (by kernel_rfl) (fun _ _ _ h => h) (Or.inl ⟨by kernel_rfl, fun w hSw => by go_simp⟩) (by assumption) ?_
      refine wpAnyH_take (i := 6) (v := Value.pointer none) rfl (by kernel_rfl) (by kernel_rfl) (by kernel_rfl) (fun _ _ _ h => h) (Or.inl ⟨by kernel_rfl, fun w hSw => by go_simp⟩) (by assumption) ?_
      refine wpAnyH_take (i := 7) (v := Value.bool true) rfl (by kernel_rfl) (by kernel_rfl) (by kernel_rfl) (fun _ _ _ h => h) (Or.inl ⟨by kernel_rfl, fun w hSw => by go_simp⟩) (by assumption) ?_
      refine wpAnyH_take (i := 8) (v := Value.bool false) rfl (by kernel_rfl) (by kernel_rfl) (by kernel_rfl) (fun _ _ _ h => h) (Or.inl ⟨by kernel_rfl, fun w hSw => by go_simp⟩) (by assumption) ?_
      refine wpAnyH_take (i := 9) (v := Value.bool false) rfl (by kernel_rfl) (by kernel_rfl) (by kernel_rfl) (fun _ _ _ h => h) (Or.inl ⟨by kernel_rfl, fun w hSw => by go_simp⟩) (by assumption) ?_
      refine wpAnyH_take (i := 10) (v := Value.bool false) rfl (by kernel_rfl) (by kernel_rfl) (by kernel_rfl) (fun _ _ _ h => h) (Or.inl ⟨by kernel_rfl, fun w hSw => by go_simp⟩) (by assumption) ?_
      refine wpAnyH_take (i := 11) (v := Value.pointer (some ⟨b, 0, none⟩)) rfl (by kernel_rfl) (by kernel_rfl) (by kernel_rfl) (fun _ _ _ h => h) (Or.inl ⟨by kernel_rfl, fun w hSw => by go_simp⟩) (by assumption) ?_
      refine wpAnyH_take (i := 14) (v := Value.pointer (some ⟨b', 0, none⟩)) rfl (by kernel_rfl) (by kernel_rfl) (by kernel_rfl) (fun _ _ _ h => h) (Or.inl ⟨by kernel_rfl, fun w hSw => by go_simp⟩) (by assumption) ?_
      refine wpAnyH_take (i := 15) (v := Value.pointer (some ⟨b', 0, none⟩)) rfl (by kernel_rfl) (by kernel_rfl) (by kernel_rfl) (fun _ _ _ h => h) (Or.inl ⟨by kernel_rfl, fun w hSw => by go_simp⟩) (by assumption) ?_
      refine wpAnyH_take (i := 16) (v := Value.pointer (some ⟨b', 0, none⟩)) rfl (by kernel_rfl) (by kernel_rfl) (by kernel_rfl) (fun _ _ _ h => h) (Or.inl ⟨by kernel_rfl, fun w hSw => by go_simp⟩) (by assumption) ?_
      refine wpAnyH_take (i := 17) (v := Value.slice aR len0 cR) rfl (by kernel_rfl) (by kernel_rfl) (by kernel_rfl) (fun _ _ _ h => h) (Or.inl ⟨by kernel_rfl, fun w hSw => by go_simp⟩) (by assumption) ?_
      refine wpAnyH_take (i := 18) (v := Value.string X) rfl (by kernel_rfl) (by kernel_rfl) (by kernel_rfl) (fun _ _ _ h => h) (Or.inl ⟨by kernel_rfl, fun w hSw => by go_simp⟩) (by assumption) ?_
      refine held_at (a' := { tmps := #[Value.slice a0 len0 cap0, Value.int .u32 (mx : Nat), Value.slice a2 len2 cap2, undef, undef, undef, u6, Value.pointer (some ⟨b, 0, none⟩), Value.int .i64 E, Value.pointer (some ⟨b', 0, none⟩), Value.int .i64 E, Value.pointer none, Value.pointer none, Value.int .i64 (i : Nat), u14, u15, u16, u17, Value.bool true, Value.bool false, Value.tuple #[Value.pointer (some ⟨b, 0, none⟩), Value.int .i64 0], Value.slice (some ⟨w1.heap.size, 0, none⟩) 0 0, Value.slice a0 len0 cap0, Value.slice a3 len0 c3, Value.tuple #[Value.pointer (some ⟨b, 0, none⟩), Value.int .i64 0], Value.pointer (some ⟨b, 0, none⟩), Value.int .i64 0, Value.tuple #[Value.pointer (some ⟨b', 0, none⟩), Value.int .i64 0], Value.slice a0 len0 cap0, Value.tuple #[Value.pointer (some ⟨b', 0, none⟩), Value.int .i64 0], Value.pointer (some ⟨b', 0, none⟩), Value.int .i64 0, Value.int .i64 0, Value.int .i64 0, Value.bool false, Value.pointer (some ⟨b', 0, none⟩), Value.bool false, Value.tuple #[Value.pointer pc, Value.int .i64 E6], Value.pointer (some ⟨b, 0, none⟩), Value.int .u32 (mx : Nat), Value.tuple #[Value.pointer pc, Value.int .i64 E6], Value.pointer pc, Value.int .i64 E6, Value.tuple #[Value.pointer pd, Value.int .i64 E6], Value.pointer (some ⟨b', 0, none⟩), Value.int .u32 (mx : Nat), Value.tuple #[Value.pointer pd, Value.int .i64 E6], Value.pointer pd, Value.int .i64 E6, u49, u50, Value.int .i64 E, Value.int .i64 E, Value.bool false, Value.bool false, Value.pointer none, Value.bool true, Value.pointer none, Value.bool true, Value.bool false, Value.bool false, Value.bool false, Value.pointer (some ⟨b, 0, none⟩), u63, u64, Value.pointer (some ⟨b', 0, none⟩), Value.pointer (some ⟨b', 0, none⟩), Value.pointer (some ⟨b', 0, none⟩), Value.slice aR len0 cR, Value.string X, u70, u71, u72, u73, u74, u75, u76, u77, u78, u79, u80, u81, u82, u83, u84, u85, u86, u87, u88, u89, u90, u91, u92, u93, u94, u95, u96, u97, u98, u99, u100, u101, u102, u103, u104, u105, u106, u107, u108, u109, u110, u111, u112, u113, u114, u115, u116, u117, u118, u119, u120, u121, u122, u123, u124, u125, u126, u127, u128, u129, u130, u131, u132, u133, u134, u135, u136, u137, u138, u139, u140, u141, u142, u143, u144, u145, u146, u147, u148, u149, u150, u151, u152, u153, u154, u155, u156, u157, u158, u159, u160, u161, u162, u163, u164, u165, u166, u167, u168, u169, u170, u171], defers := [] }) (l' := #[true, true, true, true, true, true, true, true, true, true, true, true, false, false, true, true, true, true, true, false, false, false, false, false, false, false, false, false, false, false, false, false, false, false, false, false, false, false, false]) (by kernel_rfl) (by kernel_rfl) ?_
      refine held_call (i := 12) 13 #[.pointer (some ⟨b, 0, none⟩)] (by kernel_rfl) rfl (by kernel_rfl) (by go_simp) ?_
      refine (q2).mono ?_
      rintro e w5 ⟨v, rfl, H5⟩
      obtain ⟨xB, yB, rfl, R5⟩ := own_row8 H5.out.1 hby5
      have k5 := conv_any _ _ _ _ _ R5
      rw [hX] at k5
      have o5 : Off [] wr.drew w5 := Off.of_below H5.out.2
      have HS5 : w5.cell? ⟨b', 0, none⟩ = some (.slice aR len0 cR) ∧ w5.cell? ⟨b', 1, none⟩ = some (.bool s.off) ∧ w5.cell? ⟨b', 4, none⟩ = some (.int .i64 s.t) ∧ (convert 22 9 (.slice aR len0 cR)).run Try.prog w5 = .ok (.string X) w5 := ⟨(World.cell?_of_block (a := ⟨b', 0, none⟩) (o5.block b' HM.out.2.1.lt (by simp))).trans HS.1, (World.cell?_of_block (a := ⟨b', 1, none⟩) (o5.block b' HM.out.2.1.lt (by simp))).trans HS.2.1, (World.cell?_of_block (a := ⟨b', 4, none⟩) (o5.block b' HM.out.2.1.lt (by simp))).trans HS.2.2.1, by rw [← hX]; exact conv_any _ _ _ _ _ (HM.out.2.2.below H5.out.2)⟩
      have M5 := HM.out.1.off o5 (by simp) (by simp)
      have q3 := off_any _ _ _ _ _ M5
      have q4 := writes_any _ _ _ _ _ M5
      have B5 : Hid (_) := o5
      clear R5 M5 o5 H5 HS q2
      refine ⟨_, rfl, HS5, ?_⟩
      refine held_at (a' := { tmps := #[Value.slice a0 len0 cap0, Value.int .u32 (mx : Nat), Value.slice a2 len2 cap2, undef, undef, undef, u6, Value.pointer (some ⟨b, 0, none⟩), Value.int .i64 E, Value.pointer (some ⟨b', 0, none⟩), Value.int .i64 E, Value.pointer none, Value.pointer none, Value.int .i64 (i : Nat), u14, u15, u16, u17, Value.bool true, Value.bool false, Value.tuple #[Value.pointer (some ⟨b, 0, none⟩), Value.int .i64 0], Value.slice (some ⟨w1.heap.size, 0, none⟩) 0 0, Value.slice a0 len0 cap0, Value.slice a3 len0 c3, Value.tuple #[Value.pointer (some ⟨b, 0, none⟩), Value.int .i64 0], Value.pointer (some ⟨b, 0, none⟩), Value.int .i64 0, Value.tuple #[Value.pointer (some ⟨b', 0, none⟩), Value.int .i64 0], Value.slice a0 len0 cap0, Value.tuple #[Value.pointer (some ⟨b', 0, none⟩), Value.int .i64 0], Value.pointer (some ⟨b', 0, none⟩), Value.int .i64 0, Value.int .i64 0, Value.int .i64 0, Value.bool false, Value.pointer (some ⟨b', 0, none⟩), Value.bool false, Value.tuple #[Value.pointer pc, Value.int .i64 E6], Value.pointer (some ⟨b, 0, none⟩), Value.int .u32 (mx : Nat), Value.tuple #[Value.pointer pc, Value.int .i64 E6], Value.pointer pc, Value.int .i64 E6, Value.tuple #[Value.pointer pd, Value.int .i64 E6], Value.pointer (some ⟨b', 0, none⟩), Value.int .u32 (mx : Nat), Value.tuple #[Value.pointer pd, Value.int .i64 E6], Value.pointer pd, Value.int .i64 E6, u49, u50, Value.int .i64 E, Value.int .i64 E, Value.bool false, Value.bool false, Value.pointer none, Value.bool true, Value.pointer none, Value.bool true, Value.bool false, Value.bool false, Value.bool false, Value.pointer (some ⟨b, 0, none⟩), Value.slice xB len0 yB, u64, Value.pointer (some ⟨b', 0, none⟩), Value.pointer (some ⟨b', 0, none⟩), Value.pointer (some ⟨b', 0, none⟩), Value.slice aR len0 cR, Value.string X, u70, u71, u72, u73, u74, u75, u76, u77, u78, u79, u80, u81, u82, u83, u84, u85, u86, u87, u88, u89, u90, u91, u92, u93, u94, u95, u96, u97, u98, u99, u100, u101, u102, u103, u104, u105, u106, u107, u108, u109, u110, u111, u112, u113, u114, u115, u116, u117, u118, u119, u120, u121, u122, u123, u124, u125, u126, u127, u128, u129, u130, u131, u132, u133, u134, u135, u136, u137, u138, u139, u140, u141, u142, u143, u144, u145, u146, u147, u148, u149, u150, u151, u152, u153, u154, u155, u156, u157, u158, u159, u160, u161, u162, u163, u164, u165, u166, u167, u168, u169, u170, u171], defers := [] }) (l' := #[true, true, true, true, true, true, true, true, true, true, true, true, true, false, true, true, true, true, true, false, false, false, false, false, false, false, false, false, false, false, false, false, false, false, false, false, false, false, false]) (by kernel_rfl) (by kernel_rfl) ?_
      refine held_val (i := 13) (Value.string X) (by kernel_rfl) rfl (by kernel_rfl) (by go_simp) HS5 ?_
      refine held_at (a' := { tmps := #[Value.slice a0 len0 cap0, Value.int .u32 (mx : Nat), Value.slice a2 len2 cap2, undef, undef, undef, u6, Value.pointer (some ⟨b, 0, none⟩), Value.int .i64 E, Value.pointer (some ⟨b', 0, none⟩), Value.int .i64 E, Value.pointer none, Value.pointer none, Value.int .i64 (i : Nat), u14, u15, u16, u17, Value.bool true, Value.bool false, Value.tuple #[Value.pointer (some ⟨b, 0, none⟩), Value.int .i64 0], Value.slice (some ⟨w1.heap.size, 0, none⟩) 0 0, Value.slice a0 len0 cap0, Value.slice a3 len0 c3, Value.tuple #[Value.pointer (some ⟨b, 0, none⟩), Value.int .i64 0], Value.pointer (some ⟨b, 0, none⟩), Value.int .i64 0, Value.tuple #[Value.pointer (some ⟨b', 0, none⟩), Value.int .i64 0], Value.slice a0 len0 cap0, Value.tuple #[Value.pointer (some ⟨b', 0, none⟩), Value.int .i64 0], Value.pointer (some ⟨b', 0, none⟩), Value.int .i64 0, Value.int .i64 0, Value.int .i64 0, Value.bool false, Value.pointer (some ⟨b', 0, none⟩), Value.bool false, Value.tuple #[Value.pointer pc, Value.int .i64 E6], Value.pointer (some ⟨b, 0, none⟩), Value.int .u32 (mx : Nat), Value.tuple #[Value.pointer pc, Value.int .i64 E6], Value.pointer pc, Value.int .i64 E6, Value.tuple #[Value.pointer pd, Value.int .i64 E6], Value.pointer (some ⟨b', 0, none⟩), Value.int .u32 (mx : Nat), Value.tuple #[Value.pointer pd, Value.int .i64 E6], Value.pointer pd, Value.int .i64 E6, u49, u50, Value.int .i64 E, Value.int .i64 E, Value.bool false, Value.bool false, Value.pointer none, Value.bool true, Value.pointer none, Value.bool true, Value.bool false, Value.bool false, Value.bool false, Value.pointer (some ⟨b, 0, none⟩), Value.slice xB len0 yB, Value.string X, Value.pointer (some ⟨b', 0, none⟩), Value.pointer (some ⟨b', 0, none⟩), Value.pointer (some ⟨b', 0, none⟩), Value.slice aR len0 cR, Value.string X, u70, u71, u72, u73, u74, u75, u76, u77, u78, u79, u80, u81, u82, u83, u84, u85, u86, u87, u88, u89, u90, u91, u92, u93, u94, u95, u96, u97, u98, u99, u100, u101, u102, u103, u104, u105, u106, u107, u108, u109, u110, u111, u112, u113, u114, u115, u116, u117, u118, u119, u120, u121, u122, u123, u124, u125, u126, u127, u128, u129, u130, u131, u132, u133, u134, u135, u136, u137, u138, u139, u140, u141, u142, u143, u144, u145, u146, u147, u148, u149, u150, u151, u152, u153, u154, u155, u156, u157, u158, u159, u160, u161, u162, u163, u164, u165, u166, u167, u168, u169, u170, u171], defers := [] }) (l' := #[true, true, true, true, true, true, true, true, true, true, true, true, true, true, true, true, true, true, true, false, false, false, false, false, false, false, false, false, false, false, false, false, false, false, false, false, false, false, false]) (by kernel_rfl) (by kernel_rfl) ?_
      refine wpAnyH_take (i := 19) (v := Value.bool false) rfl (by kernel_rfl) (by kernel_rfl) (by kernel_rfl) (fun _ _ _ h => h) (Or.inl ⟨by kernel_rfl, fun w hSw => by go_simp⟩) (by assumption) ?_
      refine wpAnyH_take (i := 20) (v := Value.bool false) rfl (by kernel_rfl) (by kernel_rfl) (by kernel_rfl) (fun _ _ _ h => h) (Or.inl ⟨by kernel_rfl, fun w hSw => by go_simp⟩) (by assumption) ?_
      refine wpAnyH_take (i := 21) (v := Value.bool false) rfl (by kernel_rfl) (by kernel_rfl) (by kernel_rfl) (fun _ _ _ h => h) (Or.inl ⟨by kernel_rfl, fun w hSw => by go_simp⟩) (by assumption) ?_
      refine wpAnyH_take (i := 22) (v := Value.pointer (some ⟨b, 0, none⟩)) rfl (by kernel_rfl) (by kernel_rfl) (by kernel_rfl) (fun _ _ _ h => h) (Or.inl ⟨by kernel_rfl, fun w hSw => by go_simp⟩) (by assumption) ?_
      refine wpAnyH_take (i := 24) (v := Value.pointer (some ⟨b', 0, none⟩)) rfl (by kernel_rfl) (by kernel_rfl) (by kernel_rfl) (fun _ _ _ h => h) (Or.inl ⟨by kernel_rfl, fun w hSw => by go_simp⟩) (by assumption) ?_
      refine wpAnyH_take (i := 25) (v := Value.pointer (some ⟨b', 0, none⟩)) rfl (by kernel_rfl) (by kernel_rfl) (by kernel_rfl) (fun _ _ _ h => h) (Or.inl ⟨by kernel_rfl, fun w hSw => by go_simp⟩) (by assumption) ?_
      refine wpAnyH_take (i := 26) (v := Value.pointer (some ⟨b', 4, none⟩)) rfl (by kernel_rfl) (by kernel_rfl) (by kernel_rfl) (fun _ _ _ h => h) (Or.inl ⟨by kernel_rfl, fun w hSw => by go_simp⟩) (by assumption) ?_
      refine wpAnyH_take (i := 27) (v := Value.int .i64 s.t) rfl (by kernel_rfl) (by kernel_rfl) (by kernel_rfl) (fun _ _ _ h => h) (Or.inl ⟨by kernel_rfl, fun w hSw => by go_simp⟩) (by assumption) ?_
      refine held_at (a' := { tmps := #[Value.slice a0 len0 cap0, Value.int .u32 (mx : Nat), Value.slice a2 len2 cap2, undef, undef, undef, u6, Value.pointer (some ⟨b, 0, none⟩), Value.int .i64 E, Value.pointer (some ⟨b', 0, none⟩), Value.int .i64 E, Value.pointer none, Value.pointer none, Value.int .i64 (i : Nat), u14, u15, u16, u17, Value.bool true, Value.bool false, Value.tuple #[Value.pointer (some ⟨b, 0, none⟩), Value.int .i64 0], Value.slice (some ⟨w1.heap.size, 0, none⟩) 0 0, Value.slice a0 len0 cap0, Value.slice a3 len0 c3, Value.tuple #[Value.pointer (some ⟨b, 0, none⟩), Value.int .i64 0], Value.pointer (some ⟨b, 0, none⟩), Value.int .i64 0, Value.tuple #[Value.pointer (some ⟨b', 0, none⟩), Value.int .i64 0], Value.slice a0 len0 cap0, Value.tuple #[Value.pointer (some ⟨b', 0, none⟩), Value.int .i64 0], Value.pointer (some ⟨b', 0, none⟩), Value.int .i64 0, Value.int .i64 0, Value.int .i64 0, Value.bool false, Value.pointer (some ⟨b', 0, none⟩), Value.bool false, Value.tuple #[Value.pointer pc, Value.int .i64 E6], Value.pointer (some ⟨b, 0, none⟩), Value.int .u32 (mx : Nat), Value.tuple #[Value.pointer pc, Value.int .i64 E6], Value.pointer pc, Value.int .i64 E6, Value.tuple #[Value.pointer pd, Value.int .i64 E6], Value.pointer (some ⟨b', 0, none⟩), Value.int .u32 (mx : Nat), Value.tuple #[Value.pointer pd, Value.int .i64 E6], Value.pointer pd, Value.int .i64 E6, u49, u50, Value.int .i64 E, Value.int .i64 E, Value.bool false, Value.bool false, Value.pointer none, Value.bool true, Value.pointer none, Value.bool true, Value.bool false, Value.bool false, Value.bool false, Value.pointer (some ⟨b, 0, none⟩), Value.slice xB len0 yB, Value.string X, Value.pointer (some ⟨b', 0, none⟩), Value.pointer (some ⟨b', 0, none⟩), Value.pointer (some ⟨b', 0, none⟩), Value.slice aR len0 cR, Value.string X, Value.bool false, Value.bool false, Value.bool false, Value.pointer (some ⟨b, 0, none⟩), u74, Value.pointer (some ⟨b', 0, none⟩), Value.pointer (some ⟨b', 0, none⟩), Value.pointer (some ⟨b', 4, none⟩), Value.int .i64 s.t, u79, u80, u81, u82, u83, u84, u85, u86, u87, u88, u89, u90, u91, u92, u93, u94, u95, u96, u97, u98, u99, u100, u101, u102, u103, u104, u105, u106, u107, u108, u109, u110, u111, u112, u113, u114, u115, u116, u117, u118, u119, u120, u121, u122, u123, u124, u125, u126, u127, u128, u129, u130, u131, u132, u133, u134, u135, u136, u137, u138, u139, u140, u141, u142, u143, u144, u145, u146, u147, u148, u149, u150, u151, u152, u153, u154, u155, u156, u157, u158, u159, u160, u161, u162, u163, u164, u165, u166, u167, u168, u169, u170, u171], defers := [] }) (l' := #[true, true, true, true, true, true, true, true, true, true, true, true, true, true, true, true, true, true, true, true, true, true, true, false, true, true, true, true, false, false, false, false, false, false, false, false, false, false, false]) (by kernel_rfl) (by kernel_rfl) ?_
      refine held_call (i := 23) 14 #[.pointer (some ⟨b, 0, none⟩)] (by kernel_rfl) rfl (by kernel_rfl) (by go_simp) ?_
      refine (q4).mono ?_
      rintro e w7 ⟨rfl, hw⟩
      subst hw
      refine ⟨_, rfl, HS5, ?_⟩
      refine held_at (a' := { tmps := #[Value.slice a0 len0 cap0, Value.int .u32 (mx : Nat), Value.slice a2 len2 cap2, undef, undef, undef, u6, Value.pointer (some ⟨b, 0, none⟩), Value.int .i64 E, Value.pointer (some ⟨b', 0, none⟩), Value.int .i64 E, Value.pointer none, Value.pointer none, Value.int .i64 (i : Nat), u14, u15, u16, u17, Value.bool true, Value.bool false, Value.tuple #[Value.pointer (some ⟨b, 0, none⟩), Value.int .i64 0], Value.slice (some ⟨w1.heap.size, 0, none⟩) 0 0, Value.slice a0 len0 cap0, Value.slice a3 len0 c3, Value.tuple #[Value.pointer (some ⟨b, 0, none⟩), Value.int .i64 0], Value.pointer (some ⟨b, 0, none⟩), Value.int .i64 0, Value.tuple #[Value.pointer (some ⟨b', 0, none⟩), Value.int .i64 0], Value.slice a0 len0 cap0, Value.tuple #[Value.pointer (some ⟨b', 0, none⟩), Value.int .i64 0], Value.pointer (some ⟨b', 0, none⟩), Value.int .i64 0, Value.int .i64 0, Value.int .i64 0, Value.bool false, Value.pointer (some ⟨b', 0, none⟩), Value.bool false, Value.tuple #[Value.pointer pc, Value.int .i64 E6], Value.pointer (some ⟨b, 0, none⟩), Value.int .u32 (mx : Nat), Value.tuple #[Value.pointer pc, Value.int .i64 E6], Value.pointer pc, Value.int .i64 E6, Value.tuple #[Value.pointer pd, Value.int .i64 E6], Value.pointer (some ⟨b', 0, none⟩), Value.int .u32 (mx : Nat), Value.tuple #[Value.pointer pd, Value.int .i64 E6], Value.pointer pd, Value.int .i64 E6, u49, u50, Value.int .i64 E, Value.int .i64 E, Value.bool false, Value.bool false, Value.pointer none, Value.bool true, Value.pointer none, Value.bool true, Value.bool false, Value.bool false, Value.bool false, Value.pointer (some ⟨b, 0, none⟩), Value.slice xB len0 yB, Value.string X, Value.pointer (some ⟨b', 0, none⟩), Value.pointer (some ⟨b', 0, none⟩), Value.pointer (some ⟨b', 0, none⟩), Value.slice aR len0 cR, Value.string X, Value.bool false, Value.bool false, Value.bool false, Value.pointer (some ⟨b, 0, none⟩), Value.int .i64 s.t, Value.pointer (some ⟨b', 0, none⟩), Value.pointer (some ⟨b', 0, none⟩), Value.pointer (some ⟨b', 4, none⟩), Value.int .i64 s.t, u79, u80, u81, u82, u83, u84, u85, u86, u87, u88, u89, u90, u91, u92, u93, u94, u95, u96, u97, u98, u99, u100, u101, u102, u103, u104, u105, u106, u107, u108, u109, u110, u111, u112, u113, u114, u115, u116, u117, u118, u119, u120, u121, u122, u123, u124, u125, u126, u127, u128, u129, u130, u131, u132, u133, u134, u135, u136, u137, u138, u139, u140, u141, u142, u143, u144, u145, u146, u147, u148, u149, u150, u151, u152, u153, u154, u155, u156, u157, u158, u159, u160, u161, u162, u163, u164, u165, u166, u167, u168, u169, u170, u171], defers := [] }) (l' := #[true, true, true, true, true, true, true, true, true, true, true, true, true, true, true, true, true, true, true, true, true, true, true, true, true, true, true, true, false, false, false, false, false, false, false, false, false, false, false]) (by kernel_rfl) (by kernel_rfl) ?_
      refine wpAnyH_take (i := 28) (v := Value.bool false) rfl (by kernel_rfl) (by kernel_rfl) (by kernel_rfl) (fun _ _ _ h => h) (Or.inl ⟨by kernel_rfl, fun w hSw => by go_simp⟩) (by assumption) ?_
      refine wpAnyH_take (i := 29) (v := Value.bool false) rfl (by kernel_rfl) (by kernel_rfl) (by kernel_rfl) (fun _ _ _ h => h) (Or.inl ⟨by kernel_rfl, fun w hSw => by go_simp⟩) (by assumption) ?_
      refine wpAnyH_take (i := 30) (v := Value.bool false) rfl (by kernel_rfl) (by kernel_rfl) (by kernel_rfl) (fun _ _ _ h => h) (Or.inl ⟨by kernel_rfl, fun w hSw => by go_simp⟩) (by assumption) ?_
      refine wpAnyH_take (i := 31) (v := Value.pointer (some ⟨b, 0, none⟩)) rfl (by kernel_rfl) (by kernel_rfl) (by kernel_rfl) (fun _ _ _ h => h) (Or.inl ⟨by kernel_rfl, fun w hSw => by go_simp⟩) (by assumption) ?_
      refine wpAnyH_take (i := 33) (v := Value.pointer (some ⟨b', 0, none⟩)) rfl (by kernel_rfl) (by kernel_rfl) (by kernel_rfl) (fun _ _ _ h => h) (Or.inl ⟨by kernel_rfl, fun w hSw => by go_simp⟩) (by assumption) ?_
      refine wpAnyH_take (i := 34) (v := Value.pointer (some ⟨b', 0, none⟩)) rfl (by kernel_rfl) (by kernel_rfl) (by kernel_rfl) (fun _ _ _ h => h) (Or.inl ⟨by kernel_rfl, fun w hSw => by go_simp⟩) (by assumption) ?_
      refine wpAnyH_take (i := 35) (v := Value.pointer (some ⟨b', 1, none⟩)) rfl (by kernel_rfl) (by kernel_rfl) (by kernel_rfl) (fun _ _ _ h => h) (Or.inl ⟨by kernel_rfl, fun w hSw => by go_simp⟩) (by assumption) ?_
      refine wpAnyH_take (i := 36) (v := Value.bool s.off) rfl (by kernel_rfl) (by kernel_rfl) (by kernel_rfl) (fun _ _ _ h => h) (Or.inl ⟨by kernel_rfl, fun w hSw => by go_simp⟩) (by assumption) ?_
      refine held_at (a' := { tmps := #[Value.slice a0 len0 cap0, Value.int .u32 (mx : Nat), Value.slice a2 len2 cap2, undef, undef, undef, u6, Value.pointer (some ⟨b, 0, none⟩), Value.int .i64 E, Value.pointer (some ⟨b', 0, none⟩), Value.int .i64 E, Value.pointer none, Value.pointer none, Value.int .i64 (i : Nat), u14, u15, u16, u17, Value.bool true, Value.bool false, Value.tuple #[Value.pointer (some ⟨b, 0, none⟩), Value.int .i64 0], Value.slice (some ⟨w1.heap.size, 0, none⟩) 0 0, Value.slice a0 len0 cap0, Value.slice a3 len0 c3, Value.tuple #[Value.pointer (some ⟨b, 0, none⟩), Value.int .i64 0], Value.pointer (some ⟨b, 0, none⟩), Value.int .i64 0, Value.tuple #[Value.pointer (some ⟨b', 0, none⟩), Value.int .i64 0], Value.slice a0 len0 cap0, Value.tuple #[Value.pointer (some ⟨b', 0, none⟩), Value.int .i64 0], Value.pointer (some ⟨b', 0, none⟩), Value.int .i64 0, Value.int .i64 0, Value.int .i64 0, Value.bool false, Value.pointer (some ⟨b', 0, none⟩), Value.bool false, Value.tuple #[Value.pointer pc, Value.int .i64 E6], Value.pointer (some ⟨b, 0, none⟩), Value.int .u32 (mx : Nat), Value.tuple #[Value.pointer pc, Value.int .i64 E6], Value.pointer pc, Value.int .i64 E6, Value.tuple #[Value.pointer pd, Value.int .i64 E6], Value.pointer (some ⟨b', 0, none⟩), Value.int .u32 (mx : Nat), Value.tuple #[Value.pointer pd, Value.int .i64 E6], Value.pointer pd, Value.int .i64 E6, u49, u50, Value.int .i64 E, Value.int .i64 E, Value.bool false, Value.bool false, Value.pointer none, Value.bool true, Value.pointer none, Value.bool true, Value.bool false, Value.bool false, Value.bool false, Value.pointer (some ⟨b, 0, none⟩), Value.slice xB len0 yB, Value.string X, Value.pointer (some ⟨b', 0, none⟩), Value.pointer (some ⟨b', 0, none⟩), Value.pointer (some ⟨b', 0, none⟩), Value.slice aR len0 cR, Value.string X, Value.bool false, Value.bool false, Value.bool false, Value.pointer (some ⟨b, 0, none⟩), Value.int .i64 s.t, Value.pointer (some ⟨b', 0, none⟩), Value.pointer (some ⟨b', 0, none⟩), Value.pointer (some ⟨b', 4, none⟩), Value.int .i64 s.t, Value.bool false, Value.bool false, Value.bool false, Value.pointer (some ⟨b, 0, none⟩), u83, Value.pointer (some ⟨b', 0, none⟩), Value.pointer (some ⟨b', 0, none⟩), Value.pointer (some ⟨b', 1, none⟩), Value.bool s.off, u88, u89, u90, u91, u92, u93, u94, u95, u96, u97, u98, u99, u100, u101, u102, u103, u104, u105, u106, u107, u108, u109, u110, u111, u112, u113, u114, u115, u116, u117, u118, u119, u120, u121, u122, u123, u124, u125, u126, u127, u128, u129, u130, u131, u132, u133, u134, u135, u136, u137, u138, u139, u140, u141, u142, u143, u144, u145, u146, u147, u148, u149, u150, u151, u152, u153, u154, u155, u156, u157, u158, u159, u160, u161, u162, u163, u164, u165, u166, u167, u168, u169, u170, u171], defers := [] }) (l' := #[true, true, true, true, true, true, true, true, true, true, true, true, true, true, true, true, true, true, true, true, true, true, true, true, true, true, true, true, true, true, true, true, false, true, true, true, true, false, false]) (by kernel_rfl) (by kernel_rfl) ?_
      refine held_call (i := 32) 15 #[.pointer (some ⟨b, 0, none⟩)] (by kernel_rfl) rfl (by kernel_rfl) (by go_simp) ?_
      refine (q3).mono ?_
      rintro e w6 ⟨rfl, hw⟩
      subst hw
      refine ⟨_, rfl, HS5, ?_⟩
      refine held_at (a' := { tmps := #[Value.slice a0 len0 cap0, Value.int .u32 (mx : Nat), Value.slice a2 len2 cap2, undef, undef, undef, u6, Value.pointer (some ⟨b, 0, none⟩), Value.int .i64 E, Value.pointer (some ⟨b', 0, none⟩), Value.int .i64 E, Value.pointer none, Value.pointer none, Value.int .i64 (i : Nat), u14, u15, u16, u17, Value.bool true, Value.bool false, Value.tuple #[Value.pointer (some ⟨b, 0, none⟩), Value.int .i64 0], Value.slice (some ⟨w1.heap.size, 0, none⟩) 0 0, Value.slice a0 len0 cap0, Value.slice a3 len0 c3, Value.tuple #[Value.pointer (some ⟨b, 0, none⟩), Value.int .i64 0], Value.pointer (some ⟨b, 0, none⟩), Value.int .i64 0, Value.tuple #[Value.pointer (some ⟨b', 0, none⟩), Value.int .i64 0], Value.slice a0 len0 cap0, Value.tuple #[Value.pointer (some ⟨b', 0, none⟩), Value.int .i64 0], Value.pointer (some ⟨b', 0, none⟩), Value.int .i64 0, Value.int .i64 0, Value.int .i64 0, Value.bool false, Value.pointer (some ⟨b', 0, none⟩), Value.bool false, Value.tuple #[Value.pointer pc, Value.int .i64 E6], Value.pointer (some ⟨b, 0, none⟩), Value.int .u32 (mx : Nat), Value.tuple #[Value.pointer pc, Value.int .i64 E6], Value.pointer pc, Value.int .i64 E6, Value.tuple #[Value.pointer pd, Value.int .i64 E6], Value.pointer (some ⟨b', 0, none⟩), Value.int .u32 (mx : Nat), Value.tuple #[Value.pointer pd, Value.int .i64 E6], Value.pointer pd, Value.int .i64 E6, u49, u50, Value.int .i64 E, Value.int .i64 E, Value.bool false, Value.bool false, Value.pointer none, Value.bool true, Value.pointer none, Value.bool true, Value.bool false, Value.bool false, Value.bool false, Value.pointer (some ⟨b, 0, none⟩), Value.slice xB len0 yB, Value.string X, Value.pointer (some ⟨b', 0, none⟩), Value.pointer (some ⟨b', 0, none⟩), Value.pointer (some ⟨b', 0, none⟩), Value.slice aR len0 cR, Value.string X, Value.bool false, Value.bool false, Value.bool false, Value.pointer (some ⟨b, 0, none⟩), Value.int .i64 s.t, Value.pointer (some ⟨b', 0, none⟩), Value.pointer (some ⟨b', 0, none⟩), Value.pointer (some ⟨b', 4, none⟩), Value.int .i64 s.t, Value.bool false, Value.bool false, Value.bool false, Value.pointer (some ⟨b, 0, none⟩), Value.bool s.off, Value.pointer (some ⟨b', 0, none⟩), Value.pointer (some ⟨b', 0, none⟩), Value.pointer (some ⟨b', 1, none⟩), Value.bool s.off, u88, u89, u90, u91, u92, u93, u94, u95, u96, u97, u98, u99, u100, u101, u102, u103, u104, u105, u106, u107, u108, u109, u110, u111, u112, u113, u114, u115, u116, u117, u118, u119, u120, u121, u122, u123, u124, u125, u126, u127, u128, u129, u130, u131, u132, u133, u134, u135, u136, u137, u138, u139, u140, u141, u142, u143, u144, u145, u146, u147, u148, u149, u150, u151, u152, u153, u154, u155, u156, u157, u158, u159, u160, u161, u162, u163, u164, u165, u166, u167, u168, u169, u170, u171], defers := [] }) (l' := #[true, true, true, true, true, true, true, true, true, true, true, true, true, true, true, true, true, true, true, true, true, true, true, true, true, true, true, true, true, true, true, true, true, true, true, true, true, false, false]) (by kernel_rfl) (by kernel_rfl) ?_
      refine wpAnyH_take (i := 37) (v := Value.bool false) rfl (by kernel_rfl) (by kernel_rfl) (by kernel_rfl) (fun _ _ _ h => h) (Or.inl ⟨by kernel_rfl, fun w hSw => by go_simp⟩) (by assumption) ?_
      refine wpAnyH_take (i := 38) (v := Value.bool false) rfl (by kernel_rfl) (by kernel_rfl) (by kernel_rfl) (fun _ _ _ h => h) (Or.inl ⟨by kernel_rfl, fun w hSw => by go_simp⟩) (by assumption) ?_
      refine held_at (a' := { tmps := #[Value.slice a0 len0 cap0, Value.int .u32 (mx : Nat), Value.slice a2 len2 cap2, undef, undef, undef, u6, Value.pointer (some ⟨b, 0, none⟩), Value.int .i64 E, Value.pointer (some ⟨b', 0, none⟩), Value.int .i64 E, Value.pointer none, Value.pointer none, Value.int .i64 (i : Nat), u14, u15, u16, u17, Value.bool true, Value.bool false, Value.tuple #[Value.pointer (some ⟨b, 0, none⟩), Value.int .i64 0], Value.slice (some ⟨w1.heap.size, 0, none⟩) 0 0, Value.slice a0 len0 cap0, Value.slice a3 len0 c3, Value.tuple #[Value.pointer (some ⟨b, 0, none⟩), Value.int .i64 0], Value.pointer (some ⟨b, 0, none⟩), Value.int .i64 0, Value.tuple #[Value.pointer (some ⟨b', 0, none⟩), Value.int .i64 0], Value.slice a0 len0 cap0, Value.tuple #[Value.pointer (some ⟨b', 0, none⟩), Value.int .i64 0], Value.pointer (some ⟨b', 0, none⟩), Value.int .i64 0, Value.int .i64 0, Value.int .i64 0, Value.bool false, Value.pointer (some ⟨b', 0, none⟩), Value.bool false, Value.tuple #[Value.pointer pc, Value.int .i64 E6], Value.pointer (some ⟨b, 0, none⟩), Value.int .u32 (mx : Nat), Value.tuple #[Value.pointer pc, Value.int .i64 E6], Value.pointer pc, Value.int .i64 E6, Value.tuple #[Value.pointer pd, Value.int .i64 E6], Value.pointer (some ⟨b', 0, none⟩), Value.int .u32 (mx : Nat), Value.tuple #[Value.pointer pd, Value.int .i64 E6], Value.pointer pd, Value.int .i64 E6, u49, u50, Value.int .i64 E, Value.int .i64 E, Value.bool false, Value.bool false, Value.pointer none, Value.bool true, Value.pointer none, Value.bool true, Value.bool false, Value.bool false, Value.bool false, Value.pointer (some ⟨b, 0, none⟩), Value.slice xB len0 yB, Value.string X, Value.pointer (some ⟨b', 0, none⟩), Value.pointer (some ⟨b', 0, none⟩), Value.pointer (some ⟨b', 0, none⟩), Value.slice aR len0 cR, Value.string X, Value.bool false, Value.bool false, Value.bool false, Value.pointer (some ⟨b, 0, none⟩), Value.int .i64 s.t, Value.pointer (some ⟨b', 0, none⟩), Value.pointer (some ⟨b', 0, none⟩), Value.pointer (some ⟨b', 4, none⟩), Value.int .i64 s.t, Value.bool false, Value.bool false, Value.bool false, Value.pointer (some ⟨b, 0, none⟩), Value.bool s.off, Value.pointer (some ⟨b', 0, none⟩), Value.pointer (some ⟨b', 0, none⟩), Value.pointer (some ⟨b', 1, none⟩), Value.bool s.off, Value.bool false, Value.bool false, u90, u91, u92, u93, u94, u95, u96, u97, u98, u99, u100, u101, u102, u103, u104, u105, u106, u107, u108, u109, u110, u111, u112, u113, u114, u115, u116, u117, u118, u119, u120, u121, u122, u123, u124, u125, u126, u127, u128, u129, u130, u131, u132, u133, u134, u135, u136, u137, u138, u139, u140, u141, u142, u143, u144, u145, u146, u147, u148, u149, u150, u151, u152, u153, u154, u155, u156, u157, u158, u159, u160, u161, u162, u163, u164, u165, u166, u167, u168, u169, u170, u171], defers := [] }) (l' := #[true, true, true, true, true, true, true, true, true, true, true, true, true, true, true, true, true, true, true, true, true, true, true, true, true, true, true, true, true, true, true, true, true, true, true, true, true, true, true]) (by kernel_rfl) (by kernel_rfl) ?_
      refine wpAnyH_done (by kernel_rfl) ?_ _
      go_wp2_with fail
      have P5 := PH.out.1.off ((Off.drew [] wr).trans B5.out)
      have B6 := byOff8 PH.out.2 ((Off.drew [] wr).trans B5.out) (by simp)
      clear PH HS5 HM B5 q3 q4 k5 hX hby5
      go_quiet (fail)
      have PX := P5.off (Off.drewN [] w6 nq)
      have BX := byOff8 B6 (Off.drewN [] w6 nq) (by simp)
      clear P5 B6
      generalize w6.drewN nq = wx at *
      by_cases hl2 : i < len2
      · have g1 : decide ((len2 : Int) ≤ (i : Int)) = false := by simp; omega
        by_cases hl3 : i < 200
        · have g2 : decide ((200 : Int) ≤ (i : Int)) = false := by simp; omega
          obtain ⟨q, off, rfl, hq, hops⟩ := hO.2 (by omega)
          obtain ⟨kd, pN, hpN, cK, cN⟩ := hops i hl2
          have dK : wx.cell? ⟨q, off + i * 2, none⟩ = _ := (BX.cell (p := ⟨q, off + i * 2 + 0, none⟩) hq).trans cK
          have dN := (BX.cell (p := ⟨q, off + i * 2 + 1, none⟩) hq).trans cN
          have hbq := PX.hb
          have hdd := PX.d1
          clear hO hops cK cN
          by_cases k1 : kd = 1
          · subst k1
            clear dN
            go_wp2_with fail
            refine (popen b g len0 mx s wx PX.m (by omega)).mono ?_
            rintro e w7 ⟨p7, rfl, H7⟩
            have o7 := H7.out.1
            have m7 := H7.out.2.1
            have C7 : Hid (_) := H7.out.2.2
            clear H7
            have r7 := PX.r.off o7 (by simp; omega) (by simp; omega)
            have b7 := byOff8 BX o7 (by simp; omega)
            have H7 : Hid (_) := And.intro o7 (And.intro m7 b7)
            clear m7 o7 b7
            go_wp2_with fail
            refine (ropen b' g' len0 mx s w7 r7 (by omega)).mono ?_
            rintro e w8 ⟨p8, rfl, H8⟩
            have o8 := H8.out.1
            have r8 := H8.out.2.1
            have C8 : Hid (_) := H8.out.2.2
            clear H8
            obtain ⟨o7, m7, b7⟩ := H7.out
            have b8 := byOff8 b7 o8 (by simp; omega)
            have P8 := PX.opens BX.size o7 m7 C7 o8 r8 C8
            have t8 := opS_t mx len0 s PX.m.l0
            have H8 : Hid (_) := And.intro P8 b8
            clear o7 m7 b7 o8 r8 C8 C7 b8 P8 H7 PX BX r7 dK
            generalize opE mx len0 s = e8 at *
            generalize opS mx len0 s = s8 at *
            go_wp2_with fail
            go_roundw
            case rel => exact ⟨i + 1, s8, e8, p7, p8, by omega, by go_num, rfl, rfl, rfl, rfl, by omega, H8.out.1, H8.out.2⟩
            case measure => simp [intOf] <;> omega
          · by_cases k2 : kd = 2
            · subst k2
              clear dN
              go_wp2_with fail
              go_roundw
              case rel => exact ⟨i + 1, s, E, none, none, by omega, by go_num, rfl, rfl, rfl, rfl, by omega, PX, BX⟩
              case measure => simp [intOf] <;> omega
            · by_cases k3 : kd = 3
              · subst k3
                have A0 : Pa wx b g b' g' len0 s (arS s pN) false false wx := ⟨Off.refl _ _, PX.m, PX.r, by omega⟩
                have cA := fun j w' h => pa_arm (w0 := wx) (b := b) (g := g) (b' := b') (g' := g') (n := len0) (s := s) (p := pN) (wx := w') j h hpN
                have cB := fun i w' h => pa_rarm (w0 := wx) (b := b) (g := g) (b' := b') (g' := g') (n := len0) (s := s) (p := pN) (wx := w') i h hpN
                have P1 : Hid (_) := A0.drew
                have t8 : (arS s pN).t ≤ s.t := by unfold arS; split <;> exact Int.le_refl _
                have e8 : (arS s pN).bs = s.bs := by unfold arS; split <;> rfl
                have HX : Hid (_) := And.intro PX (And.intro BX e8)
                have HS : wx.drew.cell? ⟨q, off + i * 2 + 1, none⟩ = some (.int .i64 pN) := dN
                have HQ : ∀ w', Off [b, b'] wx w' → w'.cell? ⟨q, off + i * 2 + 1, none⟩ = some (.int .i64 pN) := fun w' o => (World.cell?_of_block (a := ⟨q, off + i * 2 + 1, none⟩) (o.block q (by have := BX.size; omega) (by simp; omega))).trans dN
                have HQ2 : Hid (_) := HQ
                clear A0 PX BX e8 HQ
                generalize arS s pN = s8 at *
                generalize arE pN = e8 at *
                go_wp2_with fail
                go_region_held3 (fun w' => w'.cell? ⟨q, off + i * 2 + 1, none⟩ = some (.int .i64 pN)) (assumption) (first
                  | (go_at_call 19; (first | refine (cA true _ h1.out).mono ?_ | refine (cA false _ P1.out).mono ?_); rintro e w9 ⟨rfl, h2⟩; have HT := HQ2.out _ h2.off; have h1 : Hid (_) := h2; clear h2)
                  | (go_at_call 20; (first | refine (cB true _ h1.out).mono ?_ | refine (cB false _ P1.out).mono ?_); rintro e w9 ⟨rfl, h2⟩; have HT := HQ2.out _ h2.off; have h1 : Hid (_) := h2; clear h2))
                all_goals
                  have P9 := HX.out.1.both h1.out.off h1.out.m h1.out.r HX.out.2.2
                  have b9 := byOff8 HX.out.2.1 h1.out.off (by simp; omega)
                  have H9 : Hid (_) := And.intro P9 b9
                  clear P9 b9 HT h1 P1 HS HX HQ2 cA cB dK dN
                  go_wp2_with fail
                  go_roundw
                  case rel => exact ⟨i + 1, s8, e8, none, none, by omega, by go_num, rfl, rfl, rfl, rfl, by omega, H9.out.1, H9.out.2⟩
                  case measure => simp [intOf] <;> omega
              · by_cases k4 : kd = 4
                · subst k4
                  clear dN
                  go_wp2_with fail
                  refine (on_any b g len0 s wx PX.m).mono ?_
                  rintro e w7 ⟨rfl, o7, m7⟩
                  have r7 := PX.r.off o7 (by simp; omega) (by simp; omega)
                  have b7 := byOff8 BX o7 (by simp; omega)
                  have H7 : Hid (_) := And.intro o7 (And.intro m7 b7)
                  clear m7 o7 b7
                  go_wp2_with fail
                  refine (ron_any b' g' len0 s w7 r7).mono ?_
                  rintro e w8 ⟨rfl, o8, r8⟩
                  obtain ⟨o7, m7, b7⟩ := H7.out
                  have b8 := byOff8 b7 o8 (by simp; omega)
                  have m8 := m7.off o8 (by simp; omega) (by simp; omega)
                  have P8 := PX.both ((o7.more (by simp)).trans (o8.more (by simp))) m8 r8 rfl
                  have H8 : Hid (_) := And.intro P8 b8
                  have hT8 : ({ s with off := false, ar := false } : Ms).t ≤ 6 * (i : Int) + 6 := hT
                  clear o7 m7 b7 o8 r8 m8 b8 P8 H7 PX BX r7 dK
                  generalize ({ s with off := false, ar := false } : Ms) = s8 at *
                  go_wp2_with fail
                  go_roundw
                  case rel => exact ⟨i + 1, s8, E, none, none, by omega, by go_num, rfl, rfl, rfl, rfl, by omega, H8.out.1, H8.out.2⟩
                  case measure => simp [intOf] <;> omega
                · go_wp2_with fail
                  go_roundw
                  case rel => exact ⟨i + 1, s, E, none, none, by omega, by go_num, rfl, rfl, rfl, rfl, by omega, PX, BX⟩
                  case measure => simp [intOf] <;> omega
        · have g2 : decide ((200 : Int) ≤ (i : Int)) = true := by simp; omega
          go_wp2_with fail
          go_ret
          exact ⟨rfl, BX⟩
      · have g1 : decide ((len2 : Int) ≤ (i : Int)) = true := by simp; omega
        go_wp2_with fail
        go_ret
        exact ⟨rfl, BX⟩
    · have M1 := P.m.off (Off.drew [] wr) (by simp) (by simp)
      have R1 := P.r.off (Off.drew [] wr) (by simp) (by simp)
      have PH : Hid (_) := And.intro P B
      obtain ⟨aR, cR, c0, r0, _, c1, _, _, c4, _⟩ := R1.cells
      have k0 := conv_any aR len0 cR s.bs _ r0
      have q2 := bytes_any b g len0 s _ M1
      have HM : Hid (_) := And.intro M1 (And.intro R1 r0)
      have hby5 := M1.byte
      obtain ⟨X, hX⟩ : ∃ X, BA s.bs len0 = X := ⟨_, rfl⟩
      rw [hX] at k0
      have HS : wr.drew.cell? ⟨b', 0, none⟩ = some (.slice aR len0 cR) ∧ wr.drew.cell? ⟨b', 1, none⟩ = some (.bool s.off) ∧ wr.drew.cell? ⟨b', 4, none⟩ = some (.int .i64 s.t) ∧ (convert 22 9 (.slice aR len0 cR)).run Try.prog wr.drew = .ok (.string X) wr.drew := ⟨c0, c1, c4, k0⟩
      clear P B M1 R1 r0 c0 c1 c4 k0
      go_wp2_with fail
      refine wp_region_held_drew (S := fun w' => w'.cell? ⟨b', 0, none⟩ = some (.slice aR len0 cR) ∧ w'.cell? ⟨b', 1, none⟩ = some (.bool s.off) ∧ w'.cell? ⟨b', 4, none⟩ = some (.int .i64 s.t) ∧ (convert 22 9 (.slice aR len0 cR)).run Try.prog w' = .ok (.string X) w') (by kernel_rfl) HS (fun _ => ?_)
      refine held_at (a' := { tmps := #[Value.slice a0 len0 cap0, Value.int .u32 (mx : Nat), Value.slice a2 len2 cap2, undef, undef, undef, u6, Value.pointer (some ⟨b, 0, none⟩), Value.int .i64 E, Value.pointer (some ⟨b', 0, none⟩), Value.int .i64 E, Value.pointer (some ⟨c, 0, none⟩), Value.pointer (some ⟨d, 0, none⟩), Value.int .i64 (i : Nat), u14, u15, u16, u17, Value.bool true, Value.bool false, Value.tuple #[Value.pointer (some ⟨b, 0, none⟩), Value.int .i64 0], Value.slice (some ⟨w1.heap.size, 0, none⟩) 0 0, Value.slice a0 len0 cap0, Value.slice a3 len0 c3, Value.tuple #[Value.pointer (some ⟨b, 0, none⟩), Value.int .i64 0], Value.pointer (some ⟨b, 0, none⟩), Value.int .i64 0, Value.tuple #[Value.pointer (some ⟨b', 0, none⟩), Value.int .i64 0], Value.slice a0 len0 cap0, Value.tuple #[Value.pointer (some ⟨b', 0, none⟩), Value.int .i64 0], Value.pointer (some ⟨b', 0, none⟩), Value.int .i64 0, Value.int .i64 0, Value.int .i64 0, Value.bool false, Value.pointer (some ⟨b', 0, none⟩), Value.bool false, Value.tuple #[Value.pointer pc, Value.int .i64 E6], Value.pointer (some ⟨b, 0, none⟩), Value.int .u32 (mx : Nat), Value.tuple #[Value.pointer pc, Value.int .i64 E6], Value.pointer pc, Value.int .i64 E6, Value.tuple #[Value.pointer pd, Value.int .i64 E6], Value.pointer (some ⟨b', 0, none⟩), Value.int .u32 (mx : Nat), Value.tuple #[Value.pointer pd, Value.int .i64 E6], Value.pointer pd, Value.int .i64 E6, u49, u50, u51, u52, u53, u54, u55, u56, u57, u58, u59, u60, u61, u62, u63, u64, u65, u66, u67, u68, u69, u70, u71, u72, u73, u74, u75, u76, u77, u78, u79, u80, u81, u82, u83, u84, u85, u86, u87, u88, u89, u90, u91, u92, u93, u94, u95, u96, u97, u98, u99, u100, u101, u102, u103, u104, u105, u106, u107, u108, u109, u110, u111, u112, u113, u114, u115, u116, u117, u118, u119, u120, u121, u122, u123, u124, u125, u126, u127, u128, u129, u130, u131, u132, u133, u134, u135, u136, u137, u138, u139, u140, u141, u142, u143, u144, u145, u146, u147, u148, u149, u150, u151, u152, u153, u154, u155, u156, u157, u158, u159, u160, u161, u162, u163, u164, u165, u166, u167, u168, u169, u170, u171], defers := [] }) (l' := #[false, false, false, false, false, false, false, false, false, false, false, false, false, false, false, false, false, false, false, false, false, false, false, false, false, false, false, false, false, false, false, false, false, false, false, false, false, false, false]) (by kernel_rfl) (by kernel_rfl) ?_
      refine wpAnyH_take (i := 0) (v := Value.int .i64 E) rfl (by kernel_rfl) (by kernel_rfl) (by kernel_rfl) (fun _ _ _ h => h) (Or.inl ⟨by kernel_rfl, fun w hSw => by go_simp⟩) (by assumption) ?_
      refine wpAnyH_take (i := 1) (v := Value.int .i64 E) rfl (by kernel_rfl) (by kernel_rfl) (by kernel_rfl) (fun _ _ _ h => h) (Or.inl ⟨by kernel_rfl, fun w hSw => by go_simp⟩) (by assumption) ?_
      refine wpAnyH_take (i := 2) (v := Value.bool false) rfl (by kernel_rfl) (by kernel_rfl) (by kernel_rfl) (fun _ _ _ h => h) (Or.inl ⟨by kernel_rfl, fun w hSw => by go_simp⟩) (by assumption) ?_
      refine wpAnyH_take (i := 3) (v := Value.bool false) rfl (by kernel_rfl) (by kernel_rfl) (by kernel_rfl) (fun _ _ _ h => h) (Or.inl ⟨by kernel_rfl, fun w hSw => by go_simp⟩) (by assumption) ?_
      refine wpAnyH_take (i := 4) (v := Value.pointer (some ⟨c, 0, none⟩)) rfl (by kernel_rfl) (by kernel_rfl) (by kernel_rfl) (fun _ _ _ h => h) (Or.inl ⟨by kernel_rfl, fun w hSw => by go_simp⟩) (by assumption) ?_
      refine wpAnyH_take (i := 5) (v := Value.bool false) rfl (by kernel_rfl) (by kernel_rfl) (by kernel_rfl) (fun _ _ _ h => h) (Or.inl ⟨by kernel_rfl, fun w hSw => by go_simp⟩) (by assumption) ?_
      refine wpAnyH_take (i := 6) (v := Value.pointer (some ⟨d, 0, none⟩)) rfl (by kernel_rfl) (by kernel_rfl) (by kernel_rfl) (fun _ _ _ h => h) (Or.inl ⟨by kernel_rfl, fun w hSw => by go_simp⟩) (by assumption) ?_
      refine wpAnyH_take (i := 7) (v := Value.bool false) rfl (by kernel_rfl) (by kernel_rfl) (by kernel_rfl) (fun _ _ _ h => h) (Or.inl ⟨by kernel_rfl, fun w hSw => by go_simp⟩) (by assumption) ?_
      refine wpAnyH_take (i := 8) (v := Value.bool false) rfl (by kernel_rfl) (by kernel_rfl) (by kernel_rfl) (fun _ _ _ h => h) (Or.inl ⟨by kernel_rfl, fun w hSw => by go_simp⟩) (by assumption) ?_
      refine wpAnyH_take (i := 9) (v := Value.bool false) rfl (by kernel_rfl) (by kernel_rfl) (by kernel_rfl) (fun _ _ _ h => h) (Or.inl ⟨by kernel_rfl, fun w hSw => by go_simp⟩) (by assumption) ?_
      refine wpAnyH_take (i := 10) (v := Value.bool false) rfl (by kernel_rfl) (by kernel_rfl) (by kernel_rfl) (fun _ _ _ h => h) (Or.inl ⟨by kernel_rfl, fun w hSw => by go_simp⟩) (by assumption) ?_
      refine wpAnyH_take (i := 11) (v := Value.pointer (some ⟨b, 0, none⟩)) rfl (by kernel_rfl) (by kernel_rfl) (by kernel_rfl) (fun _ _ _ h => h) (Or.inl ⟨by kernel_rfl, fun w hSw => by go_simp⟩) (by assumption) ?_
      refine wpAnyH_take (i := 14) (v := Value.pointer (some ⟨b', 0, none⟩)) rfl (by kernel_rfl) (by kernel_rfl) (by kernel_rfl) (fun _ _ _ h => h) (Or.inl ⟨by kernel_rfl, fun w hSw => by go_simp⟩) (by assumption) ?_
      refine wpAnyH_take (i := 15) (v := Value.pointer (some ⟨b', 0, none⟩)) rfl (by kernel_rfl) (by kernel_rfl) (by kernel_rfl) (fun _ _ _ h => h) (Or.inl ⟨by kernel_rfl, fun w hSw => by go_simp⟩) (by assumption) ?_
      refine wpAnyH_take (i := 16) (v := Value.pointer (some ⟨b', 0, none⟩)) rfl (by kernel_rfl) (by kernel_rfl) (by kernel_rfl) (fun _ _ _ h => h) (Or.inl ⟨by kernel_rfl, fun w hSw => by go_simp⟩) (by assumption) ?_
      refine wpAnyH_take (i := 17) (v := Value.slice aR len0 cR) rfl (by kernel_rfl) (by kernel_rfl) (by kernel_rfl) (fun _ _ _ h => h) (Or.inl ⟨by kernel_rfl, fun w hSw => by go_simp⟩) (by assumption) ?_
      refine wpAnyH_take (i := 18) (v := Value.string X) rfl (by kernel_rfl) (by kernel_rfl) (by kernel_rfl) (fun _ _ _ h => h) (Or.inl ⟨by kernel_rfl, fun w hSw => by go_simp⟩) (by assumption) ?_
      refine held_at (a' := { tmps := #[Value.slice a0 len0 cap0, Value.int .u32 (mx : Nat), Value.slice a2 len2 cap2, undef, undef, undef, u6, Value.pointer (some ⟨b, 0, none⟩), Value.int .i64 E, Value.pointer (some ⟨b', 0, none⟩), Value.int .i64 E, Value.pointer (some ⟨c, 0, none⟩), Value.pointer (some ⟨d, 0, none⟩), Value.int .i64 (i : Nat), u14, u15, u16, u17, Value.bool true, Value.bool false, Value.tuple #[Value.pointer (some ⟨b, 0, none⟩), Value.int .i64 0], Value.slice (some ⟨w1.heap.size, 0, none⟩) 0 0, Value.slice a0 len0 cap0, Value.slice a3 len0 c3, Value.tuple #[Value.pointer (some ⟨b, 0, none⟩), Value.int .i64 0], Value.pointer (some ⟨b, 0, none⟩), Value.int .i64 0, Value.tuple #[Value.pointer (some ⟨b', 0, none⟩), Value.int .i64 0], Value.slice a0 len0 cap0, Value.tuple #[Value.pointer (some ⟨b', 0, none⟩), Value.int .i64 0], Value.pointer (some ⟨b', 0, none⟩), Value.int .i64 0, Value.int .i64 0, Value.int .i64 0, Value.bool false, Value.pointer (some ⟨b', 0, none⟩), Value.bool false, Value.tuple #[Value.pointer pc, Value.int .i64 E6], Value.pointer (some ⟨b, 0, none⟩), Value.int .u32 (mx : Nat), Value.tuple #[Value.pointer pc, Value.int .i64 E6], Value.pointer pc, Value.int .i64 E6, Value.tuple #[Value.pointer pd, Value.int .i64 E6], Value.pointer (some ⟨b', 0, none⟩), Value.int .u32 (mx : Nat), Value.tuple #[Value.pointer pd, Value.int .i64 E6], Value.pointer pd, Value.int .i64 E6, u49, u50, Value.int .i64 E, Value.int .i64 E, Value.bool false, Value.bool false, Value.pointer (some ⟨c, 0, none⟩), Value.bool false, Value.pointer (some ⟨d, 0, none⟩), Value.bool false, Value.bool false, Value.bool false, Value.bool false, Value.pointer (some ⟨b, 0, none⟩), u63, u64, Value.pointer (some ⟨b', 0, none⟩), Value.pointer (some ⟨b', 0, none⟩), Value.pointer (some ⟨b', 0, none⟩), Value.slice aR len0 cR, Value.string X, u70, u71, u72, u73, u74, u75, u76, u77, u78, u79, u80, u81, u82, u83, u84, u85, u86, u87, u88, u89, u90, u91, u92, u93, u94, u95, u96, u97, u98, u99, u100, u101, u102, u103, u104, u105, u106, u107, u108, u109, u110, u111, u112, u113, u114, u115, u116, u117, u118, u119, u120, u121, u122, u123, u124, u125, u126, u127, u128, u129, u130, u131, u132, u133, u134, u135, u136, u137, u138, u139, u140, u141, u142, u143, u144, u145, u146, u147, u148, u149, u150, u151, u152, u153, u154, u155, u156, u157, u158, u159, u160, u161, u162, u163, u164, u165, u166, u167, u168, u169, u170, u171], defers := [] }) (l' := #[true, true, true, true, true, true, true, true, true, true, true, true, false, false, true, true, true, true, true, false, false, false, false, false, false, false, false, false, false, false, false, false, false, false, false, false, false, false, false]) (by kernel_rfl) (by kernel_rfl) ?_
      refine held_call (i := 12) 13 #[.pointer (some ⟨b, 0, none⟩)] (by kernel_rfl) rfl (by kernel_rfl) (by go_simp) ?_
      refine (q2).mono ?_
      rintro e w5 ⟨v, rfl, H5⟩
      obtain ⟨xB, yB, rfl, R5⟩ := own_row8 H5.out.1 hby5
      have k5 := conv_any _ _ _ _ _ R5
      rw [hX] at k5
      have o5 : Off [] wr.drew w5 := Off.of_below H5.out.2
      have HS5 : w5.cell? ⟨b', 0, none⟩ = some (.slice aR len0 cR) ∧ w5.cell? ⟨b', 1, none⟩ = some (.bool s.off) ∧ w5.cell? ⟨b', 4, none⟩ = some (.int .i64 s.t) ∧ (convert 22 9 (.slice aR len0 cR)).run Try.prog w5 = .ok (.string X) w5 := ⟨(World.cell?_of_block (a := ⟨b', 0, none⟩) (o5.block b' HM.out.2.1.lt (by simp))).trans HS.1, (World.cell?_of_block (a := ⟨b', 1, none⟩) (o5.block b' HM.out.2.1.lt (by simp))).trans HS.2.1, (World.cell?_of_block (a := ⟨b', 4, none⟩) (o5.block b' HM.out.2.1.lt (by simp))).trans HS.2.2.1, by rw [← hX]; exact conv_any _ _ _ _ _ (HM.out.2.2.below H5.out.2)⟩
      have M5 := HM.out.1.off o5 (by simp) (by simp)
      have q3 := off_any _ _ _ _ _ M5
      have q4 := writes_any _ _ _ _ _ M5
      have B5 : Hid (_) := o5
      clear R5 M5 o5 H5 HS q2
      refine ⟨_, rfl, HS5, ?_⟩
      refine held_at (a' := { tmps := #[Value.slice a0 len0 cap0, Value.int .u32 (mx : Nat), Value.slice a2 len2 cap2, undef, undef, undef, u6, Value.pointer (some ⟨b, 0, none⟩), Value.int .i64 E, Value.pointer (some ⟨b', 0, none⟩), Value.int .i64 E, Value.pointer (some ⟨c, 0, none⟩), Value.pointer (some ⟨d, 0, none⟩), Value.int .i64 (i : Nat), u14, u15, u16, u17, Value.bool true, Value.bool false, Value.tuple #[Value.pointer (some ⟨b, 0, none⟩), Value.int .i64 0], Value.slice (some ⟨w1.heap.size, 0, none⟩) 0 0, Value.slice a0 len0 cap0, Value.slice a3 len0 c3, Value.tuple #[Value.pointer (some ⟨b, 0, none⟩), Value.int .i64 0], Value.pointer (some ⟨b, 0, none⟩), Value.int .i64 0, Value.tuple #[Value.pointer (some ⟨b', 0, none⟩), Value.int .i64 0], Value.slice a0 len0 cap0, Value.tuple #[Value.pointer (some ⟨b', 0, none⟩), Value.int .i64 0], Value.pointer (some ⟨b', 0, none⟩), Value.int .i64 0, Value.int .i64 0, Value.int .i64 0, Value.bool false, Value.pointer (some ⟨b', 0, none⟩), Value.bool false, Value.tuple #[Value.pointer pc, Value.int .i64 E6], Value.pointer (some ⟨b, 0, none⟩), Value.int .u32 (mx : Nat), Value.tuple #[Value.pointer pc, Value.int .i64 E6], Value.pointer pc, Value.int .i64 E6, Value.tuple #[Value.pointer pd, Value.int .i64 E6], Value.pointer (some ⟨b', 0, none⟩), Value.int .u32 (mx : Nat), Value.tuple #[Value.pointer pd, Value.int .i64 E6], Value.pointer pd, Value.int .i64 E6, u49, u50, Value.int .i64 E, Value.int .i64 E, Value.bool false, Value.bool false, Value.pointer (some ⟨c, 0, none⟩), Value.bool false, Value.pointer (some ⟨d, 0, none⟩), Value.bool false, Value.bool false, Value.bool false, Value.bool false, Value.pointer (some ⟨b, 0, none⟩), Value.slice xB len0 yB, u64, Value.pointer (some ⟨b', 0, none⟩), Value.pointer (some ⟨b', 0, none⟩), Value.pointer (some ⟨b', 0, none⟩), Value.slice aR len0 cR, Value.string X, u70, u71, u72, u73, u74, u75, u76, u77, u78, u79, u80, u81, u82, u83, u84, u85, u86, u87, u88, u89, u90, u91, u92, u93, u94, u95, u96, u97, u98, u99, u100, u101, u102, u103, u104, u105, u106, u107, u108, u109, u110, u111, u112, u113, u114, u115, u116, u117, u118, u119, u120, u121, u122, u123, u124, u125, u126, u127, u128, u129, u130, u131, u132, u133, u134, u135, u136, u137, u138, u139, u140, u141, u142, u143, u144, u145, u146, u147, u148, u149, u150, u151, u152, u153, u154, u155, u156, u157, u158, u159, u160, u161, u162, u163, u164, u165, u166, u167, u168, u169, u170, u171], defers := [] }) (l' := #[true, true, true, true, true, true, true, true, true, true, true, true, true, false, true, true, true, true, true, false, false, false, false, false, false, false, false, false, false, false, false, false, false, false, false, false, false, false, false]) (by kernel_rfl) (by kernel_rfl) ?_
      refine held_val (i := 13) (Value.string X) (by kernel_rfl) rfl (by kernel_rfl) (by go_simp) HS5 ?_
      refine held_at (a' := { tmps := #[Value.slice a0 len0 cap0, Value.int .u32 (mx : Nat), Value.slice a2 len2 cap2, undef, undef, undef, u6, Value.pointer (some ⟨b, 0, none⟩), Value.int .i64 E, Value.pointer (some ⟨b', 0, none⟩), Value.int .i64 E, Value.pointer (some ⟨c, 0, none⟩), Value.pointer (some ⟨d, 0, none⟩), Value.int .i64 (i : Nat), u14, u15, u16, u17, Value.bool true, Value.bool false, Value.tuple #[Value.pointer (some ⟨b, 0, none⟩), Value.int .i64 0], Value.slice (some ⟨w1.heap.size, 0, none⟩) 0 0, Value.slice a0 len0 cap0, Value.slice a3 len0 c3, Value.tuple #[Value.pointer (some ⟨b, 0, none⟩), Value.int .i64 0], Value.pointer (some ⟨b, 0, none⟩), Value.int .i64 0, Value.tuple #[Value.pointer (some ⟨b', 0, none⟩), Value.int .i64 0], Value.slice a0 len0 cap0, Value.tuple #[Value.pointer (some ⟨b', 0, none⟩), Value.int .i64 0], Value.pointer (some ⟨b', 0, none⟩), Value.int .i64 0, Value.int .i64 0, Value.int .i64 0, Value.bool false, Value.pointer (some ⟨b', 0, none⟩), Value.bool false, Value.tuple #[Value.pointer pc, Value.int .i64 E6], Value.pointer (some ⟨b, 0, none⟩), Value.int .u32 (mx : Nat), Value.tuple #[Value.pointer pc, Value.int .i64 E6], Value.pointer pc, Value.int .i64 E6, Value.tuple #[Value.pointer pd, Value.int .i64 E6], Value.pointer (some ⟨b', 0, none⟩), Value.int .u32 (mx : Nat), Value.tuple #[Value.pointer pd, Value.int .i64 E6], Value.pointer pd, Value.int .i64 E6, u49, u50, Value.int .i64 E, Value.int .i64 E, Value.bool false, Value.bool false, Value.pointer (some ⟨c, 0, none⟩), Value.bool false, Value.pointer (some ⟨d, 0, none⟩), Value.bool false, Value.bool false, Value.bool false, Value.bool false, Value.pointer (some ⟨b, 0, none⟩), Value.slice xB len0 yB, Value.string X, Value.pointer (some ⟨b', 0, none⟩), Value.pointer (some ⟨b', 0, none⟩), Value.pointer (some ⟨b', 0, none⟩), Value.slice aR len0 cR, Value.string X, u70, u71, u72, u73, u74, u75, u76, u77, u78, u79, u80, u81, u82, u83, u84, u85, u86, u87, u88, u89, u90, u91, u92, u93, u94, u95, u96, u97, u98, u99, u100, u101, u102, u103, u104, u105, u106, u107, u108, u109, u110, u111, u112, u113, u114, u115, u116, u117, u118, u119, u120, u121, u122, u123, u124, u125, u126, u127, u128, u129, u130, u131, u132, u133, u134, u135, u136, u137, u138, u139, u140, u141, u142, u143, u144, u145, u146, u147, u148, u149, u150, u151, u152, u153, u154, u155, u156, u157, u158, u159, u160, u161, u162, u163, u164, u165, u166, u167, u168, u169, u170, u171], defers := [] }) (l' := #[true, true, true, true, true, true, true, true, true, true, true, true, true, true, true, true, true, true, true, false, false, false, false, false, false, false, false, false, false, false, false, false, false, false, false, false, false, false, false]) (by kernel_rfl) (by kernel_rfl) ?_
      refine wpAnyH_take (i := 19) (v := Value.bool false) rfl (by kernel_rfl) (by kernel_rfl) (by kernel_rfl) (fun _ _ _ h => h) (Or.inl ⟨by kernel_rfl, fun w hSw => by go_simp⟩) (by assumption) ?_
      refine wpAnyH_take (i := 20) (v := Value.bool false) rfl (by kernel_rfl) (by kernel_rfl) (by kernel_rfl) (fun _ _ _ h => h) (Or.inl ⟨by kernel_rfl, fun w hSw => by go_simp⟩) (by assumption) ?_
      refine wpAnyH_take (i := 21) (v := Value.bool false) rfl (by kernel_rfl) (by kernel_rfl) (by kernel_rfl) (fun _ _ _ h => h) (Or.inl ⟨by kernel_rfl, fun w hSw => by go_simp⟩) (by assumption) ?_
      refine wpAnyH_take (i := 22) (v := Value.pointer (some ⟨b, 0, none⟩)) rfl (by kernel_rfl) (by kernel_rfl) (by kernel_rfl) (fun _ _ _ h => h) (Or.inl ⟨by kernel_rfl, fun w hSw => by go_simp⟩) (by assumption) ?_
      refine wpAnyH_take (i := 24) (v := Value.pointer (some ⟨b', 0, none⟩)) rfl (by kernel_rfl) (by kernel_rfl) (by kernel_rfl) (fun _ _ _ h => h) (Or.inl ⟨by kernel_rfl, fun w hSw => by go_simp⟩) (by assumption) ?_
      refine wpAnyH_take (i := 25) (v := Value.pointer (some ⟨b', 0, none⟩)) rfl (by kernel_rfl) (by kernel_rfl) (by kernel_rfl) (fun _ _ _ h => h) (Or.inl ⟨by kernel_rfl, fun w hSw => by go_simp⟩) (by assumption) ?_
      refine wpAnyH_take (i := 26) (v := Value.pointer (some ⟨b', 4, none⟩)) rfl (by kernel_rfl) (by kernel_rfl) (by kernel_rfl) (fun _ _ _ h => h) (Or.inl ⟨by kernel_rfl, fun w hSw => by go_simp⟩) (by assumption) ?_
      refine wpAnyH_take (i := 27) (v := Value.int .i64 s.t) rfl (by kernel_rfl) (by kernel_rfl) (by kernel_rfl) (fun _ _ _ h => h) (Or.inl ⟨by kernel_rfl, fun w hSw => by go_simp⟩) (by assumption) ?_
      refine held_at (a' := { tmps := #[Value.slice a0 len0 cap0, Value.int .u32 (mx : Nat), Value.slice a2 len2 cap2, undef, undef, undef, u6, Value.pointer (some ⟨b, 0, none⟩), Value.int .i64 E, Value.pointer (some ⟨b', 0, none⟩), Value.int .i64 E, Value.pointer (some ⟨c, 0, none⟩), Value.pointer (some ⟨d, 0, none⟩), Value.int .i64 (i : Nat), u14, u15, u16, u17, Value.bool true, Value.bool false, Value.tuple #[Value.pointer (some ⟨b, 0, none⟩), Value.int .i64 0], Value.slice (some ⟨w1.heap.size, 0, none⟩) 0 0, Value.slice a0 len0 cap0, Value.slice a3 len0 c3, Value.tuple #[Value.pointer (some ⟨b, 0, none⟩), Value.int .i64 0], Value.pointer (some ⟨b, 0, none⟩), Value.int .i64 0, Value.tuple #[Value.pointer (some ⟨b', 0, none⟩), Value.int .i64 0], Value.slice a0 len0 cap0, Value.tuple #[Value.pointer (some ⟨b', 0, none⟩), Value.int .i64 0], Value.pointer (some ⟨b', 0, none⟩), Value.int .i64 0, Value.int .i64 0, Value.int .i64 0, Value.bool false, Value.pointer (some ⟨b', 0, none⟩), Value.bool false, Value.tuple #[Value.pointer pc, Value.int .i64 E6], Value.pointer (some ⟨b, 0, none⟩), Value.int .u32 (mx : Nat), Value.tuple #[Value.pointer pc, Value.int .i64 E6], Value.pointer pc, Value.int .i64 E6, Value.tuple #[Value.pointer pd, Value.int .i64 E6], Value.pointer (some ⟨b', 0, none⟩), Value.int .u32 (mx : Nat), Value.tuple #[Value.pointer pd, Value.int .i64 E6], Value.pointer pd, Value.int .i64 E6, u49, u50, Value.int .i64 E, Value.int .i64 E, Value.bool false, Value.bool false, Value.pointer (some ⟨c, 0, none⟩), Value.bool false, Value.pointer (some ⟨d, 0, none⟩), Value.bool false, Value.bool false, Value.bool false, Value.bool false, Value.pointer (some ⟨b, 0, none⟩), Value.slice xB len0 yB, Value.string X, Value.pointer (some ⟨b', 0, none⟩), Value.pointer (some ⟨b', 0, none⟩), Value.pointer (some ⟨b', 0, none⟩), Value.slice aR len0 cR, Value.string X, Value.bool false, Value.bool false, Value.bool false, Value.pointer (some ⟨b, 0, none⟩), u74, Value.pointer (some ⟨b', 0, none⟩), Value.pointer (some ⟨b', 0, none⟩), Value.pointer (some ⟨b', 4, none⟩), Value.int .i64 s.t, u79, u80, u81, u82, u83, u84, u85, u86, u87, u88, u89, u90, u91, u92, u93, u94, u95, u96, u97, u98, u99, u100, u101, u102, u103, u104, u105, u106, u107, u108, u109, u110, u111, u112, u113, u114, u115, u116, u117, u118, u119, u120, u121, u122, u123, u124, u125, u126, u127, u128, u129, u130, u131, u132, u133, u134, u135, u136, u137, u138, u139, u140, u141, u142, u143, u144, u145, u146, u147, u148, u149, u150, u151, u152, u153, u154, u155, u156, u157, u158, u159, u160, u161, u162, u163, u164, u165, u166, u167, u168, u169, u170, u171], defers := [] }) (l' := #[true, true, true, true, true, true, true, true, true, true, true, true, true, true, true, true, true, true, true, true, true, true, true, false, true, true, true, true, false, false, false, false, false, false, false, false, false, false, false]) (by kernel_rfl) (by kernel_rfl) ?_
      refine held_call (i := 23) 14 #[.pointer (some ⟨b, 0, none⟩)] (by kernel_rfl) rfl (by kernel_rfl) (by go_simp) ?_
      refine (q4).mono ?_
      rintro e w7 ⟨rfl, hw⟩
      subst hw
      refine ⟨_, rfl, HS5, ?_⟩
      refine held_at (a' := { tmps := #[Value.slice a0 len0 cap0, Value.int .u32 (mx : Nat), Value.slice a2 len2 cap2, undef, undef, undef, u6, Value.pointer (some ⟨b, 0, none⟩), Value.int .i64 E, Value.pointer (some ⟨b', 0, none⟩), Value.int .i64 E, Value.pointer (some ⟨c, 0, none⟩), Value.pointer (some ⟨d, 0, none⟩), Value.int .i64 (i : Nat), u14, u15, u16, u17, Value.bool true, Value.bool false, Value.tuple #[Value.pointer (some ⟨b, 0, none⟩), Value.int .i64 0], Value.slice (some ⟨w1.heap.size, 0, none⟩) 0 0, Value.slice a0 len0 cap0, Value.slice a3 len0 c3, Value.tuple #[Value.pointer (some ⟨b, 0, none⟩), Value.int .i64 0], Value.pointer (some ⟨b, 0, none⟩), Value.int .i64 0, Value.tuple #[Value.pointer (some ⟨b', 0, none⟩), Value.int .i64 0], Value.slice a0 len0 cap0, Value.tuple #[Value.pointer (some ⟨b', 0, none⟩), Value.int .i64 0], Value.pointer (some ⟨b', 0, none⟩), Value.int .i64 0, Value.int .i64 0, Value.int .i64 0, Value.bool false, Value.pointer (some ⟨b', 0, none⟩), Value.bool false, Value.tuple #[Value.pointer pc, Value.int .i64 E6], Value.pointer (some ⟨b, 0, none⟩), Value.int .u32 (mx : Nat), Value.tuple #[Value.pointer pc, Value.int .i64 E6], Value.pointer pc, Value.int .i64 E6, Value.tuple #[Value.pointer pd, Value.int .i64 E6], Value.pointer (some ⟨b', 0, none⟩), Value.int .u32 (mx : Nat), Value.tuple #[Value.pointer pd, Value.int .i64 E6], Value.pointer pd, Value.int .i64 E6, u49, u50, Value.int .i64 E, Value.int .i64 E, Value.bool false, Value.bool false, Value.pointer (some ⟨c, 0, none⟩), Value.bool false, Value.pointer (some ⟨d, 0, none⟩), Value.bool false, Value.bool false, Value.bool false, Value.bool false, Value.pointer (some ⟨b, 0, none⟩), Value.slice xB len0 yB, Value.string X, Value.pointer (some ⟨b', 0, none⟩), Value.pointer (some ⟨b', 0, none⟩), Value.pointer (some ⟨b', 0, none⟩), Value.slice aR len0 cR, Value.string X, Value.bool false, Value.bool false, Value.bool false, Value.pointer (some ⟨b, 0, none⟩), Value.int .i64 s.t, Value.pointer (some ⟨b', 0, none⟩), Value.pointer (some ⟨b', 0, none⟩), Value.pointer (some ⟨b', 4, none⟩), Value.int .i64 s.t, u79, u80, u81, u82, u83, u84, u85, u86, u87, u88, u89, u90, u91, u92, u93, u94, u95, u96, u97, u98, u99, u100, u101, u102, u103, u104, u105, u106, u107, u108, u109, u110, u111, u112, u113, u114, u115, u116, u117, u118, u119, u120, u121, u122, u123, u124, u125, u126, u127, u128, u129, u130, u131, u132, u133, u134, u135, u136, u137, u138, u139, u140, u141, u142, u143, u144, u145, u146, u147, u148, u149, u150, u151, u152, u153, u154, u155, u156, u157, u158, u159, u160, u161, u162, u163, u164, u165, u166, u167, u168, u169, u170, u171], defers := [] }) (l' := #[true, true, true, true, true, true, true, true, true, true, true, true, true, true, true, true, true, true, true, true, true, true, true, true, true, true, true, true, false, false, false, false, false, false, false, false, false, false, false]) (by kernel_rfl) (by kernel_rfl) ?_
      refine wpAnyH_take (i := 28) (v := Value.bool false) rfl (by kernel_rfl) (by kernel_rfl) (by kernel_rfl) (fun _ _ _ h => h) (Or.inl ⟨by kernel_rfl, fun w hSw => by go_simp⟩) (by assumption) ?_
      refine wpAnyH_take (i := 29) (v := Value.bool false) rfl (by kernel_rfl) (by kernel_rfl) (by kernel_rfl) (fun _ _ _ h => h) (Or.inl ⟨by kernel_rfl, fun w hSw => by go_simp⟩) (by assumption) ?_
      refine wpAnyH_take (i := 30) (v := Value.bool false) rfl (by kernel_rfl) (by kernel_rfl) (by kernel_rfl) (fun _ _ _ h => h) (Or.inl ⟨by kernel_rfl, fun w hSw => by go_simp⟩) (by assumption) ?_
      refine wpAnyH_take (i := 31) (v := Value.pointer (some ⟨b, 0, none⟩)) rfl (by kernel_rfl) (by kernel_rfl) (by kernel_rfl) (fun _ _ _ h => h) (Or.inl ⟨by kernel_rfl, fun w hSw => by go_simp⟩) (by assumption) ?_
      refine wpAnyH_take (i := 33) (v := Value.pointer (some ⟨b', 0, none⟩)) rfl (by kernel_rfl) (by kernel_rfl) (by kernel_rfl) (fun _ _ _ h => h) (Or.inl ⟨by kernel_rfl, fun w hSw => by go_simp⟩) (by assumption) ?_
      refine wpAnyH_take (i := 34) (v := Value.pointer (some ⟨b', 0, none⟩)) rfl (by kernel_rfl) (by kernel_rfl) (by kernel_rfl) (fun _ _ _ h => h) (Or.inl ⟨by kernel_rfl, fun w hSw => by go_simp⟩) (by assumption) ?_
      refine wpAnyH_take (i := 35) (v := Value.pointer (some ⟨b', 1, none⟩)) rfl (by kernel_rfl) (by kernel_rfl) (by kernel_rfl) (fun _ _ _ h => h) (Or.inl ⟨by kernel_rfl, fun w hSw => by go_simp⟩) (by assumption) ?_
      refine wpAnyH_take (i := 36) (v := Value.bool s.off) rfl (by kernel_rfl) (by kernel_rfl) (by kernel_rfl) (fun _ _ _ h => h) (Or.inl ⟨by kernel_rfl, fun w hSw => by go_simp⟩) (by assumption) ?_
      refine held_at (a' := { tmps := #[Value.slice a0 len0 cap0, Value.int .u32 (mx : Nat), Value.slice a2 len2 cap2, undef, undef, undef, u6, Value.pointer (some ⟨b, 0, none⟩), Value.int .i64 E, Value.pointer (some ⟨b', 0, none⟩), Value.int .i64 E, Value.pointer (some ⟨c, 0, none⟩), Value.pointer (some ⟨d, 0, none⟩), Value.int .i64 (i : Nat), u14, u15, u16, u17, Value.bool true, Value.bool false, Value.tuple #[Value.pointer (some ⟨b, 0, none⟩), Value.int .i64 0], Value.slice (some ⟨w1.heap.size, 0, none⟩) 0 0, Value.slice a0 len0 cap0, Value.slice a3 len0 c3, Value.tuple #[Value.pointer (some ⟨b, 0, none⟩), Value.int .i64 0], Value.pointer (some ⟨b, 0, none⟩), Value.int .i64 0, Value.tuple #[Value.pointer (some ⟨b', 0, none⟩), Value.int .i64 0], Value.slice a0 len0 cap0, Value.tuple #[Value.pointer (some ⟨b', 0, none⟩), Value.int .i64 0], Value.pointer (some ⟨b', 0, none⟩), Value.int .i64 0, Value.int .i64 0, Value.int .i64 0, Value.bool false, Value.pointer (some ⟨b', 0, none⟩), Value.bool false, Value.tuple #[Value.pointer pc, Value.int .i64 E6], Value.pointer (some ⟨b, 0, none⟩), Value.int .u32 (mx : Nat), Value.tuple #[Value.pointer pc, Value.int .i64 E6], Value.pointer pc, Value.int .i64 E6, Value.tuple #[Value.pointer pd, Value.int .i64 E6], Value.pointer (some ⟨b', 0, none⟩), Value.int .u32 (mx : Nat), Value.tuple #[Value.pointer pd, Value.int .i64 E6], Value.pointer pd, Value.int .i64 E6, u49, u50, Value.int .i64 E, Value.int .i64 E, Value.bool false, Value.bool false, Value.pointer (some ⟨c, 0, none⟩), Value.bool false, Value.pointer (some ⟨d, 0, none⟩), Value.bool false, Value.bool false, Value.bool false, Value.bool false, Value.pointer (some ⟨b, 0, none⟩), Value.slice xB len0 yB, Value.string X, Value.pointer (some ⟨b', 0, none⟩), Value.pointer (some ⟨b', 0, none⟩), Value.pointer (some ⟨b', 0, none⟩), Value.slice aR len0 cR, Value.string X, Value.bool false, Value.bool false, Value.bool false, Value.pointer (some ⟨b, 0, none⟩), Value.int .i64 s.t, Value.pointer (some ⟨b', 0, none⟩), Value.pointer (some ⟨b', 0, none⟩), Value.pointer (some ⟨b', 4, none⟩), Value.int .i64 s.t, Value.bool false, Value.bool false, Value.bool false, Value.pointer (some ⟨b, 0, none⟩), u83, Value.pointer (some ⟨b', 0, none⟩), Value.pointer (some ⟨b', 0, none⟩), Value.pointer (some ⟨b', 1, none⟩), Value.bool s.off, u88, u89, u90, u91, u92, u93, u94, u95, u96, u97, u98, u99, u100, u101, u102, u103, u104, u105, u106, u107, u108, u109, u110, u111, u112, u113, u114, u115, u116, u117, u118, u119, u120, u121, u122, u123, u124, u125, u126, u127, u128, u129, u130, u131, u132, u133, u134, u135, u136, u137, u138, u139, u140, u141, u142, u143, u144, u145, u146, u147, u148, u149, u150, u151, u152, u153, u154, u155, u156, u157, u158, u159, u160, u161, u162, u163, u164, u165, u166, u167, u168, u169, u170, u171], defers := [] }) (l' := #[true, true, true, true, true, true, true, true, true, true, true, true, true, true, true, true, true, true, true, true, true, true, true, true, true, true, true, true, true, true, true, true, false, true, true, true, true, false, false]) (by kernel_rfl) (by kernel_rfl) ?_
      refine held_call (i := 32) 15 #[.pointer (some ⟨b, 0, none⟩)] (by kernel_rfl) rfl (by kernel_rfl) (by go_simp) ?_
      refine (q3).mono ?_
      rintro e w6 ⟨rfl, hw⟩
      subst hw
      refine ⟨_, rfl, HS5, ?_⟩
      refine held_at (a' := { tmps := #[Value.slice a0 len0 cap0, Value.int .u32 (mx : Nat), Value.slice a2 len2 cap2, undef, undef, undef, u6, Value.pointer (some ⟨b, 0, none⟩), Value.int .i64 E, Value.pointer (some ⟨b', 0, none⟩), Value.int .i64 E, Value.pointer (some ⟨c, 0, none⟩), Value.pointer (some ⟨d, 0, none⟩), Value.int .i64 (i : Nat), u14, u15, u16, u17, Value.bool true, Value.bool false, Value.tuple #[Value.pointer (some ⟨b, 0, none⟩), Value.int .i64 0], Value.slice (some ⟨w1.heap.size, 0, none⟩) 0 0, Value.slice a0 len0 cap0, Value.slice a3 len0 c3, Value.tuple #[Value.pointer (some ⟨b, 0, none⟩), Value.int .i64 0], Value.pointer (some ⟨b, 0, none⟩), Value.int .i64 0, Value.tuple #[Value.pointer (some ⟨b', 0, none⟩), Value.int .i64 0], Value.slice a0 len0 cap0, Value.tuple #[Value.pointer (some ⟨b', 0, none⟩), Value.int .i64 0], Value.pointer (some ⟨b', 0, none⟩), Value.int .i64 0, Value.int .i64 0, Value.int .i64 0, Value.bool false, Value.pointer (some ⟨b', 0, none⟩), Value.bool false, Value.tuple #[Value.pointer pc, Value.int .i64 E6], Value.pointer (some ⟨b, 0, none⟩), Value.int .u32 (mx : Nat), Value.tuple #[Value.pointer pc, Value.int .i64 E6], Value.pointer pc, Value.int .i64 E6, Value.tuple #[Value.pointer pd, Value.int .i64 E6], Value.pointer (some ⟨b', 0, none⟩), Value.int .u32 (mx : Nat), Value.tuple #[Value.pointer pd, Value.int .i64 E6], Value.pointer pd, Value.int .i64 E6, u49, u50, Value.int .i64 E, Value.int .i64 E, Value.bool false, Value.bool false, Value.pointer (some ⟨c, 0, none⟩), Value.bool false, Value.pointer (some ⟨d, 0, none⟩), Value.bool false, Value.bool false, Value.bool false, Value.bool false, Value.pointer (some ⟨b, 0, none⟩), Value.slice xB len0 yB, Value.string X, Value.pointer (some ⟨b', 0, none⟩), Value.pointer (some ⟨b', 0, none⟩), Value.pointer (some ⟨b', 0, none⟩), Value.slice aR len0 cR, Value.string X, Value.bool false, Value.bool false, Value.bool false, Value.pointer (some ⟨b, 0, none⟩), Value.int .i64 s.t, Value.pointer (some ⟨b', 0, none⟩), Value.pointer (some ⟨b', 0, none⟩), Value.pointer (some ⟨b', 4, none⟩), Value.int .i64 s.t, Value.bool false, Value.bool false, Value.bool false, Value.pointer (some ⟨b, 0, none⟩), Value.bool s.off, Value.pointer (some ⟨b', 0, none⟩), Value.pointer (some ⟨b', 0, none⟩), Value.pointer (some ⟨b', 1, none⟩), Value.bool s.off, u88, u89, u90, u91, u92, u93, u94, u95, u96, u97, u98, u99, u100, u101, u102, u103, u104, u105, u106, u107, u108, u109, u110, u111, u112, u113, u114, u115, u116, u117, u118, u119, u120, u121, u122, u123, u124, u125, u126, u127, u128, u129, u130, u131, u132, u133, u134, u135, u136, u137, u138, u139, u140, u141, u142, u143, u144, u145, u146, u147, u148, u149, u150, u151, u152, u153, u154, u155, u156, u157, u158, u159, u160, u161, u162, u163, u164, u165, u166, u167, u168, u169, u170, u171], defers := [] }) (l' := #[true, true, true, true, true, true, true, true, true, true, true, true, true, true, true, true, true, true, true, true, true, true, true, true, true, true, true, true, true, true, true, true, true, true, true, true, true, false, false]) (by kernel_rfl) (by kernel_rfl) ?_
      refine wpAnyH_take (i := 37) (v := Value.bool false) rfl (by kernel_rfl) (by kernel_rfl) (by kernel_rfl) (fun _ _ _ h => h) (Or.inl ⟨by kernel_rfl, fun w hSw => by go_simp⟩) (by assumption) ?_
      refine wpAnyH_take (i := 38) (v := Value.bool false) rfl (by kernel_rfl) (by kernel_rfl) (by kernel_rfl) (fun _ _ _ h => h) (Or.inl ⟨by kernel_rfl, fun w hSw => by go_simp⟩) (by assumption) ?_
      refine held_at (a' := { tmps := #[Value.slice a0 len0 cap0, Value.int .u32 (mx : Nat), Value.slice a2 len2 cap2, undef, undef, undef, u6, Value.pointer (some ⟨b, 0, none⟩), Value.int .i64 E, Value.pointer (some ⟨b', 0, none⟩), Value.int .i64 E, Value.pointer (some ⟨c, 0, none⟩), Value.pointer (some ⟨d, 0, none⟩), Value.int .i64 (i : Nat), u14, u15, u16, u17, Value.bool true, Value.bool false, Value.tuple #[Value.pointer (some ⟨b, 0, none⟩), Value.int .i64 0], Value.slice (some ⟨w1.heap.size, 0, none⟩) 0 0, Value.slice a0 len0 cap0, Value.slice a3 len0 c3, Value.tuple #[Value.pointer (some ⟨b, 0, none⟩), Value.int .i64 0], Value.pointer (some ⟨b, 0, none⟩), Value.int .i64 0, Value.tuple #[Value.pointer (some ⟨b', 0, none⟩), Value.int .i64 0], Value.slice a0 len0 cap0, Value.tuple #[Value.pointer (some ⟨b', 0, none⟩), Value.int .i64 0], Value.pointer (some ⟨b', 0, none⟩), Value.int .i64 0, Value.int .i64 0, Value.int .i64 0, Value.bool false, Value.pointer (some ⟨b', 0, none⟩), Value.bool false, Value.tuple #[Value.pointer pc, Value.int .i64 E6], Value.pointer (some ⟨b, 0, none⟩), Value.int .u32 (mx : Nat), Value.tuple #[Value.pointer pc, Value.int .i64 E6], Value.pointer pc, Value.int .i64 E6, Value.tuple #[Value.pointer pd, Value.int .i64 E6], Value.pointer (some ⟨b', 0, none⟩), Value.int .u32 (mx : Nat), Value.tuple #[Value.pointer pd, Value.int .i64 E6], Value.pointer pd, Value.int .i64 E6, u49, u50, Value.int .i64 E, Value.int .i64 E, Value.bool false, Value.bool false, Value.pointer (some ⟨c, 0, none⟩), Value.bool false, Value.pointer (some ⟨d, 0, none⟩), Value.bool false, Value.bool false, Value.bool false, Value.bool false, Value.pointer (some ⟨b, 0, none⟩), Value.slice xB len0 yB, Value.string X, Value.pointer (some ⟨b', 0, none⟩), Value.pointer (some ⟨b', 0, none⟩), Value.pointer (some ⟨b', 0, none⟩), Value.slice aR len0 cR, Value.string X, Value.bool false, Value.bool false, Value.bool false, Value.pointer (some ⟨b, 0, none⟩), Value.int .i64 s.t, Value.pointer (some ⟨b', 0, none⟩), Value.pointer (some ⟨b', 0, none⟩), Value.pointer (some ⟨b', 4, none⟩), Value.int .i64 s.t, Value.bool false, Value.bool false, Value.bool false, Value.pointer (some ⟨b, 0, none⟩), Value.bool s.off, Value.pointer (some ⟨b', 0, none⟩), Value.pointer (some ⟨b', 0, none⟩), Value.pointer (some ⟨b', 1, none⟩), Value.bool s.off, Value.bool false, Value.bool false, u90, u91, u92, u93, u94, u95, u96, u97, u98, u99, u100, u101, u102, u103, u104, u105, u106, u107, u108, u109, u110, u111, u112, u113, u114, u115, u116, u117, u118, u119, u120, u121, u122, u123, u124, u125, u126, u127, u128, u129, u130, u131, u132, u133, u134, u135, u136, u137, u138, u139, u140, u141, u142, u143, u144, u145, u146, u147, u148, u149, u150, u151, u152, u153, u154, u155, u156, u157, u158, u159, u160, u161, u162, u163, u164, u165, u166, u167, u168, u169, u170, u171], defers := [] }) (l' := #[true, true, true, true, true, true, true, true, true, true, true, true, true, true, true, true, true, true, true, true, true, true, true, true, true, true, true, true, true, true, true, true, true, true, true, true, true, true, true]) (by kernel_rfl) (by kernel_rfl) ?_
      refine wpAnyH_done (by kernel_rfl) ?_ _
      go_wp2_with fail
      have P5 := PH.out.1.off ((Off.drew [] wr).trans B5.out)
      have B6 := byOff8 PH.out.2 ((Off.drew [] wr).trans B5.out) (by simp)
      clear PH HS5 HM B5 q3 q4 k5 hX hby5
      obtain ⟨z, cut, hC0, hD0, hz, hzs, hn, hd⟩ := P5.cell8
      have qv := fun j => value_z c b mx z cut (w6.drewN j) (hC0.drewN j) hz
      obtain ⟨_, _, d2, _, _⟩ := hD0.cells
      go_quiet ((go_at_call 16; exact Calls.quiet_of_same (qv _)))
      have PX := P5.off (Off.drewN [] w6 nq)
      have BX := byOff8 B6 (Off.drewN [] w6 nq) (by simp)
      have hC := hC0.drewN nq
      have hD := hD0.drewN nq
      clear P5 B6 hC0 hD0 qv d2
      generalize w6.drewN nq = wx at *
      by_cases hl2 : i < len2
      · have g1 : decide ((len2 : Int) ≤ (i : Int)) = false := by simp; omega
        by_cases hl3 : i < 200
        · have g2 : decide ((200 : Int) ≤ (i : Int)) = false := by simp; omega
          obtain ⟨q, off, rfl, hq, hops⟩ := hO.2 (by omega)
          obtain ⟨kd, pN, hpN, cK, cN⟩ := hops i hl2
          have dK : wx.cell? ⟨q, off + i * 2, none⟩ = _ := (BX.cell (p := ⟨q, off + i * 2 + 0, none⟩) hq).trans cK
          have dN := (BX.cell (p := ⟨q, off + i * 2 + 1, none⟩) hq).trans cN
          have hbq := PX.hb
          have hdd := PX.d1
          clear hO hops cK cN
          by_cases k1 : kd = 1
          · subst k1
            clear dN
            go_wp2_with fail
            refine (popen b g len0 mx s wx PX.m (by omega)).mono ?_
            rintro e w7 ⟨p7, rfl, H7⟩
            have o7 := H7.out.1
            have m7 := H7.out.2.1
            have C7 : Hid (_) := H7.out.2.2
            clear H7
            have r7 := PX.r.off o7 (by simp; omega) (by simp; omega)
            have b7 := byOff8 BX o7 (by simp; omega)
            have H7 : Hid (_) := And.intro o7 (And.intro m7 b7)
            clear m7 o7 b7
            go_wp2_with fail
            refine (ropen b' g' len0 mx s w7 r7 (by omega)).mono ?_
            rintro e w8 ⟨p8, rfl, H8⟩
            have o8 := H8.out.1
            have r8 := H8.out.2.1
            have C8 : Hid (_) := H8.out.2.2
            clear H8
            obtain ⟨o7, m7, b7⟩ := H7.out
            have b8 := byOff8 b7 o8 (by simp; omega)
            have P8 := PX.opens BX.size o7 m7 C7 o8 r8 C8
            have t8 := opS_t mx len0 s PX.m.l0
            have H8 : Hid (_) := And.intro P8 b8
            clear o7 m7 b7 o8 r8 C8 C7 b8 P8 H7 PX BX r7 dK
            generalize opE mx len0 s = e8 at *
            generalize opS mx len0 s = s8 at *
            go_wp2_with fail
            go_roundw
            case rel => exact ⟨i + 1, s8, e8, p7, p8, by omega, by go_num, rfl, rfl, rfl, rfl, by omega, H8.out.1, H8.out.2⟩
            case measure => simp [intOf] <;> omega
          · by_cases k2 : kd = 2
            · subst k2
              clear dN
              have q7 := pnext c b g len0 mx z cut s wx PX.m hC hz hzs (by omega) (by omega) hn hmx (by omega)
              have tN := nx_t mx len0 z cut s hn PX.m.l0
              have kN := nx_keep mx len0 z cut s hzs
              obtain ⟨N, hN⟩ : ∃ N, nx mx len0 z cut s = N := ⟨_, rfl⟩
              rw [hN] at q7 tN kN
              have HN : Hid (_) := And.intro hN (And.intro hzs kN)
              clear hN hzs kN
              go_wp2_with fail
              refine q7.mono ?_
              rintro e w7 ⟨rfl, o7, m7, c7⟩
              have r7 := PX.r.off o7 (by simp; omega) (by simp; omega)
              have d7 := hD.off o7 (by simp; omega)
              have b7 := byOff8 BX o7 (by simp; omega)
              have q8 := rnext d b' g' len0 mx z cut s w7 r7 d7 HN.out.2.1 (by omega) (by omega) hn hmx (by omega)
              rw [HN.out.1] at q8
              have H7 : Hid (_) := And.intro m7 (And.intro c7 b7)
              clear q7 m7 c7 b7 o7 hC hD
              go_wp2_with fail
              refine q8.mono ?_
              rintro e w8 ⟨rfl, o8, r8, d8⟩
              obtain ⟨m7, c7, b7⟩ := H7.out
              have b8 := byOff8 b7 o8 (by simp; omega)
              have m8 := m7.off o8 (by simp; omega) (by simp; omega)
              have c8 := c7.off o8 (by simp; omega)
              have P8 : Pl w8 b g b' g' len0 mx N.s w.heap.size (some ⟨c, 0, none⟩) (some ⟨d, 0, none⟩) := by
                have hz8 : Bz N.z := by
                  rw [← HN.out.1]
                  exact nx_bz (s := s) hz (fun i hi => by have := m8.byte i (by omega); rw [← HN.out.1] at this; exact this)
                exact ⟨m8, r8, PX.hb, PX.d1, .inr ⟨c, d, N.z, N.c, rfl, rfl, c8, d8, hz8, HN.out.2.2, hn, by omega⟩⟩
              have H8 : Hid (_) := And.intro P8 b8
              clear q8 r8 d8 o8 m7 c7 b7 b8 m8 c8 P8 H7 HN PX BX r7 d7
              generalize N.v = nv at *
              generalize N.e = ne at *
              go_wp2_with fail
              go_roundw
              case rel => exact ⟨i + 1, N.s, E, some ⟨c, 0, none⟩, some ⟨d, 0, none⟩, by omega, by go_num, rfl, rfl, rfl, rfl, by omega, H8.out.1, H8.out.2⟩
              case measure => simp [intOf] <;> omega
            · by_cases k3 : kd = 3
              · subst k3
                have A0 : Pa wx b g b' g' len0 s (arS s pN) false false wx := ⟨Off.refl _ _, PX.m, PX.r, by omega⟩
                have cA := fun j w' h => pa_arm (w0 := wx) (b := b) (g := g) (b' := b') (g' := g') (n := len0) (s := s) (p := pN) (wx := w') j h hpN
                have cB := fun i w' h => pa_rarm (w0 := wx) (b := b) (g := g) (b' := b') (g' := g') (n := len0) (s := s) (p := pN) (wx := w') i h hpN
                have P1 : Hid (_) := A0.drew
                have t8 : (arS s pN).t ≤ s.t := by unfold arS; split <;> exact Int.le_refl _
                have e8 : (arS s pN).bs = s.bs := by unfold arS; split <;> rfl
                have HX : Hid (_) := And.intro PX (And.intro BX e8)
                have HS : wx.drew.cell? ⟨q, off + i * 2 + 1, none⟩ = some (.int .i64 pN) := dN
                have HQ : ∀ w', Off [b, b'] wx w' → w'.cell? ⟨q, off + i * 2 + 1, none⟩ = some (.int .i64 pN) := fun w' o => (World.cell?_of_block (a := ⟨q, off + i * 2 + 1, none⟩) (o.block q (by have := BX.size; omega) (by simp; omega))).trans dN
                have HQ2 : Hid (_) := HQ
                clear A0 PX BX e8 HQ
                generalize arS s pN = s8 at *
                generalize arE pN = e8 at *
                go_wp2_with fail
                go_region_held3 (fun w' => w'.cell? ⟨q, off + i * 2 + 1, none⟩ = some (.int .i64 pN)) (assumption) (first
                  | (go_at_call 19; (first | refine (cA true _ h1.out).mono ?_ | refine (cA false _ P1.out).mono ?_); rintro e w9 ⟨rfl, h2⟩; have HT := HQ2.out _ h2.off; have h1 : Hid (_) := h2; clear h2)
                  | (go_at_call 20; (first | refine (cB true _ h1.out).mono ?_ | refine (cB false _ P1.out).mono ?_); rintro e w9 ⟨rfl, h2⟩; have HT := HQ2.out _ h2.off; have h1 : Hid (_) := h2; clear h2))
                all_goals
                  have P9 := HX.out.1.both h1.out.off h1.out.m h1.out.r HX.out.2.2
                  have b9 := byOff8 HX.out.2.1 h1.out.off (by simp; omega)
                  have H9 : Hid (_) := And.intro P9 b9
                  clear P9 b9 HT h1 P1 HS HX HQ2 cA cB dK dN
                  go_wp2_with fail
                  go_roundw
                  case rel => exact ⟨i + 1, s8, e8, some ⟨c, 0, none⟩, some ⟨d, 0, none⟩, by omega, by go_num, rfl, rfl, rfl, rfl, by omega, H9.out.1, H9.out.2⟩
                  case measure => simp [intOf] <;> omega
              · by_cases k4 : kd = 4
                · subst k4
                  clear dN
                  go_wp2_with fail
                  refine (on_any b g len0 s wx PX.m).mono ?_
                  rintro e w7 ⟨rfl, o7, m7⟩
                  have r7 := PX.r.off o7 (by simp; omega) (by simp; omega)
                  have b7 := byOff8 BX o7 (by simp; omega)
                  have H7 : Hid (_) := And.intro o7 (And.intro m7 b7)
                  clear m7 o7 b7
                  go_wp2_with fail
                  refine (ron_any b' g' len0 s w7 r7).mono ?_
                  rintro e w8 ⟨rfl, o8, r8⟩
                  obtain ⟨o7, m7, b7⟩ := H7.out
                  have b8 := byOff8 b7 o8 (by simp; omega)
                  have m8 := m7.off o8 (by simp; omega) (by simp; omega)
                  have P8 := PX.both ((o7.more (by simp)).trans (o8.more (by simp))) m8 r8 rfl
                  have H8 : Hid (_) := And.intro P8 b8
                  have hT8 : ({ s with off := false, ar := false } : Ms).t ≤ 6 * (i : Int) + 6 := hT
                  clear o7 m7 b7 o8 r8 m8 b8 P8 H7 PX BX r7 dK
                  generalize ({ s with off := false, ar := false } : Ms) = s8 at *
                  go_wp2_with fail
                  go_roundw
                  case rel => exact ⟨i + 1, s8, E, some ⟨c, 0, none⟩, some ⟨d, 0, none⟩, by omega, by go_num, rfl, rfl, rfl, rfl, by omega, H8.out.1, H8.out.2⟩
                  case measure => simp [intOf] <;> omega
                · go_wp2_with fail
                  go_roundw
                  case rel => exact ⟨i + 1, s, E, some ⟨c, 0, none⟩, some ⟨d, 0, none⟩, by omega, by go_num, rfl, rfl, rfl, rfl, by omega, PX, BX⟩
                  case measure => simp [intOf] <;> omega
        · have g2 : decide ((200 : Int) ≤ (i : Int)) = true := by simp; omega
          go_wp2_with fail
          go_ret
          exact ⟨rfl, BX⟩
      · have g1 : decide ((len2 : Int) ≤ (i : Int)) = true := by simp; omega
        go_wp2_with fail
        go_ret
        exact ⟨rfl, BX⟩
theorem cellPlays_walk (a0 : Option Addr) (len0 cap0 : Nat) (z0 : List Int) (a1 : Int) (a2 : Option Addr) (len2 cap2 : Nat) (w : World) (w0 : BRow .u8 w a0 len0 cap0 z0) (w1 : (Lit.int .u32 a1).wf = true) (w2 : OpRow w a2 len2) (s0 : len0 ≤ 140737488351232) :
    Calls Try.prog 3 #[.slice a0 len0 cap0, .int .u32 a1, .slice a2 len2 cap2] w fun e w' => e = .returned (.bool true) ∧ Below w.heap.size w w' := by
  have hr := bounds_u32 w1
  obtain ⟨mx, rfl⟩ := Int.eq_ofNat_of_zero_le hr.1
  by_cases hL : len0 ≤ 4096
  · exact plays_go a0 len0 cap0 _ mx a2 len2 cap2 w w0.row8 hL (by omega) w2
  · exact plays_no a0 len0 cap0 _ mx _ w w0.row8 s0 (by omega)

end Go.Proofs.Ytibnmbindfjnlaa
