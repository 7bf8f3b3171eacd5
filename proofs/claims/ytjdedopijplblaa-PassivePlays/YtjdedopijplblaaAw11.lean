/- Layer 11: the fixed fact; 'call' (one call on the program alone). -/
import Derived.Test.YtjdedopijplblaaPr
import Derived.Test.YtjdedopijplblaaStrs
namespace Go.Proofs.Ytjdedopijplblaa
open Go.RowKit

/-- An operation whose guard lets it: as one without. -/
theorem wpList_let {P : Program} {ops : Array Oper} {Q : Exit → Act → World → Prop} {a : Act} {w : World} {rest : List Oper} {o : Oper} (hw : Region.wanted o (yielded ops a.tmps) = true) (h : wpList P ops Q ({ o with guard := none } :: rest) a w) : wpList P ops Q (o :: rest) a w := by
  obtain ⟨op, ty, dst, pos, after, guard⟩ := o
  unfold wpList at h ⊢
  rw [if_pos hw]
  rw [if_pos (by simp [Region.wanted])] at h
  exact h
def two : Nat → Nat := fun i => if i = 0 then 1 else 2
theorem row2V (w : World) : Row8 (w.alloc (.cells #[.int .u8 1, .int .u8 2] 5)) (some ⟨w.heap.size, 0, none⟩) 2 2 two := by
  refine row8_new w _ _ _ 2 (fun i _ => ?_) (fun i hi => ?_)
  · unfold two; split <;> omega
  · rcases Nat.lt_or_ge i 1 with h | h
    · obtain rfl : i = 0 := by omega
      rfl
    · obtain rfl : i = 1 := by omega
      rfl
set_option maxRecDepth 100000 in
set_option maxHeartbeats 2000000 in
theorem awake11 (w : World) :
    Calls Try.prog 8 #[] w fun e w' => e = .returned (.bool true) ∧ Below w.heap.size w w' := by
  go_enter Try.func8, Try.ntmps8
  go_wp2_with fail
  refine (vnew_ok 2 w (by omega) (by omega)).mono ?_
  rintro e w1 ⟨b, g, rfl, H1⟩
  obtain ⟨hb, hg, o1, m1⟩ := H1.out
  have b1 : Below w.heap.size w w1 := o1.below (Below.refl _ _) (by simp) (Nat.le_refl _)
  have HB0 : ∀ k, k ∈ [b, g] → w.heap.size ≤ k := by simpa using And.intro hb hg
  have HB : Hid (_) := HB0
  generalize w1.heap.size = M at m1
  clear H1 o1 hb hg HB0
  go_wp2_with fail
  refine (vrun_any b g M 2 _ true w1 m1).mono ?_
  rintro e w2 ⟨rfl, H2⟩
  obtain ⟨o2, m2⟩ := H2.out
  have b2 : Below w.heap.size w w2 := o2.below b1 HB.out b1.size
  rw [show vrun vnew true = ⟨true, false, false, 0, false, fun _ => 0⟩ from rfl] at m2
  clear H2 o2 m1 b1
  go_wp2_with fail
  have m3 := m2.new_ (Off.alloc [] w2 (.cells #[.int .u8 1, .int .u8 2] 5))
  have b3 : Below w.heap.size w (w2.alloc (.cells #[.int .u8 1, .int .u8 2] 5)) := b2.alloc b2.size _
  refine (vtake_any b g M 2 _ _ 2 2 two _ m3 (row2V w2)).mono ?_
  rintro e w4 ⟨rfl, H4⟩
  obtain ⟨o4, m4⟩ := H4.out
  have b4 : Below w.heap.size w w4 := o4.below b3 HB.out b3.size
  rw [show vtakeE 2 2 = 0 from rfl]
  rw [show (if 2 = 2 then vtake ⟨true, false, false, 0, false, fun _ => 0⟩ two else ⟨true, false, false, 0, false, fun _ => 0⟩) = ⟨true, false, false, 0, true, two⟩ from rfl] at m4
  clear H4 o4 m3 m2 b3 b2
  go_wp2_with fail
  refine (vout_any b g M 2 _ w4 m4).mono ?_
  rintro e w5 ⟨v, rfl, H5⟩
  obtain ⟨a, cap, rfl, R⟩ := own_row8 H5.out.1 (fun i _ => by show two i < 256; unfold two; split <;> omega)
  have hc := conv_any a 2 cap _ w5 R
  have hB : BA (vout ⟨true, false, false, 0, true, two⟩) 2 = { data := #[1, 2] } := by decide
  rw [hB] at hc
  rw [show von ⟨true, false, false, 0, true, two⟩ = true from rfl]
  have b5 : Below w.heap.size w w5 := b4.trans (H5.out.2.mono b4.size)
  have m5 := m4.new_ (Off.of_below H5.out.2)
  clear R H5 b4 m4 hB
  go_wp2_with fail
  refine (vtrip_any b g M 2 _ 100 w5 m5).mono ?_
  rintro e w6 ⟨rfl, H6⟩
  obtain ⟨o6, m6⟩ := H6.out
  have b6 : Below w.heap.size w w6 := o6.below b5 HB.out b5.size
  rw [show vtripB ⟨true, false, false, 0, true, two⟩ 100 = true from rfl]
  rw [show vtrip ⟨true, false, false, 0, true, two⟩ 100 = ⟨true, false, false, 100, false, two⟩ from rfl] at m6
  clear H6 o6 m5 b5 hc
  go_wp2_with fail
  refine (vtrip_any b g M 2 _ 131 w6 m6).mono ?_
  rintro e w7 ⟨rfl, H7⟩
  obtain ⟨o7, m7⟩ := H7.out
  have b7 : Below w.heap.size w w7 := o7.below b6 HB.out b6.size
  rw [show vtripB ⟨true, false, false, 100, false, two⟩ 131 = false from rfl]
  rw [show vtrip ⟨true, false, false, 100, false, two⟩ 131 = ⟨true, false, false, 100, false, two⟩ from rfl] at m7
  clear H7 o7 m6 b6
  go_wp2_with fail
  refine (vlat_any b g M 2 _ w7 m7).mono ?_
  rintro e w8 ⟨rfl, hw⟩
  have b8 : Below w.heap.size w w8 := hw ▸ b7
  clear hw m7 b7
  go_wp2_with fail
  go_ret
  exact ⟨rfl, b8⟩
/-- One call, by its kind. -/
def vcall (s : Vs) (n : Nat) (k p : Int) (o : Bool) (len : Nat) (bs : Nat → Nat) : Vs :=
  if k = 1 then vtrip s p else if k = 2 then vrun s o else if k = 3 then vfresh s else if k = 4 then vhold s o else if k = 5 then (if len = n then vtake s bs else s) else if k = 6 then vack s else s
def vcallE (s : Vs) (n : Nat) (k : Int) (len : Nat) : Int := if k = 5 then vtakeE n len else if k = 6 then vackE s else 0
theorem Vok.call {s : Vs} (h : Vok s) (n : Nat) (k p : Int) (o : Bool) (len : Nat) (bs : Nat → Nat) : Vok (vcall s n k p o len bs) := by
  unfold vcall
  split
  · exact h.trip p
  split
  · exact h.run o
  split
  · exact h.fresh
  split
  · exact h.hold o
  split
  · split
    · exact h.take bs
    · exact h
  split
  · exact h.ack
  · exact h
set_option maxRecDepth 100000 in
set_option maxHeartbeats 2000000 in
theorem call_trip (b g M n : Nat) (s : Vs)  (p : Int) (o : Bool) (a : Option Addr) (len cap : Nat) (bs : Nat → Nat) (w : World) (h : VR w b g M n s) (R : Row8 w a len cap bs) (_hl : len ≤ 140737488351232) :
    Calls Try.prog 12 #[.pointer (some ⟨b, 0, none⟩), .agg #[.int .i64 1, .int .i64 p, .bool o, .slice a len cap]] w fun e w' => e = .returned (.int .i64 0) ∧ Hid (Off [b, g] w w' ∧ VR w' b g M n (vtrip s p)) := by
  have oA : Off [] w (w.alloc (.cells #[.int .i64 1, .int .i64 p, .bool o, .slice a len cap] 35)) := Off.alloc _ _ _
  have hA := h.new_ oA
  have HR : Hid (_) := R
  have fin : ∀ (w' : World) (s' : Vs), Hid (Off [b, g] (w.alloc (.cells #[.int .i64 1, .int .i64 p, .bool o, .slice a len cap] 35)) w' ∧ VR w' b g M n s') → Hid (Off [b, g] w w' ∧ VR w' b g M n s') := fun _ _ H => ⟨(oA.more (by simp)).trans H.out.1, H.out.2⟩
  have FI : Hid (_) := fin
  have q := vtrip_any b g M n s p _ hA
  clear h R hA oA fin
  go_enter Try.func12, Try.ntmps12
  go_wp2_with fail
  refine q.mono ?_
  rintro e w2 ⟨rfl, H⟩
  clear q
  go_wp2_with fail
  go_ret
  exact ⟨rfl, FI.out _ _ H⟩
set_option maxRecDepth 100000 in
set_option maxHeartbeats 2000000 in
theorem call_run (b g M n : Nat) (s : Vs)  (p : Int) (o : Bool) (a : Option Addr) (len cap : Nat) (bs : Nat → Nat) (w : World) (h : VR w b g M n s) (R : Row8 w a len cap bs) (_hl : len ≤ 140737488351232) :
    Calls Try.prog 12 #[.pointer (some ⟨b, 0, none⟩), .agg #[.int .i64 2, .int .i64 p, .bool o, .slice a len cap]] w fun e w' => e = .returned (.int .i64 0) ∧ Hid (Off [b, g] w w' ∧ VR w' b g M n (vrun s o)) := by
  have oA : Off [] w (w.alloc (.cells #[.int .i64 2, .int .i64 p, .bool o, .slice a len cap] 35)) := Off.alloc _ _ _
  have hA := h.new_ oA
  have HR : Hid (_) := R
  have fin : ∀ (w' : World) (s' : Vs), Hid (Off [b, g] (w.alloc (.cells #[.int .i64 2, .int .i64 p, .bool o, .slice a len cap] 35)) w' ∧ VR w' b g M n s') → Hid (Off [b, g] w w' ∧ VR w' b g M n s') := fun _ _ H => ⟨(oA.more (by simp)).trans H.out.1, H.out.2⟩
  have FI : Hid (_) := fin
  have q := vrun_any b g M n s o _ hA
  clear h R hA oA fin
  go_enter Try.func12, Try.ntmps12
  go_wp2_with fail
  refine q.mono ?_
  rintro e w2 ⟨rfl, H⟩
  clear q
  go_wp2_with fail
  go_ret
  exact ⟨rfl, FI.out _ _ H⟩
set_option maxRecDepth 100000 in
set_option maxHeartbeats 2000000 in
theorem call_fresh (b g M n : Nat) (s : Vs)  (p : Int) (o : Bool) (a : Option Addr) (len cap : Nat) (bs : Nat → Nat) (w : World) (h : VR w b g M n s) (R : Row8 w a len cap bs) (_hl : len ≤ 140737488351232) :
    Calls Try.prog 12 #[.pointer (some ⟨b, 0, none⟩), .agg #[.int .i64 3, .int .i64 p, .bool o, .slice a len cap]] w fun e w' => e = .returned (.int .i64 0) ∧ Hid (Off [b, g] w w' ∧ VR w' b g M n (vfresh s)) := by
  have oA : Off [] w (w.alloc (.cells #[.int .i64 3, .int .i64 p, .bool o, .slice a len cap] 35)) := Off.alloc _ _ _
  have hA := h.new_ oA
  have HR : Hid (_) := R
  have fin : ∀ (w' : World) (s' : Vs), Hid (Off [b, g] (w.alloc (.cells #[.int .i64 3, .int .i64 p, .bool o, .slice a len cap] 35)) w' ∧ VR w' b g M n s') → Hid (Off [b, g] w w' ∧ VR w' b g M n s') := fun _ _ H => ⟨(oA.more (by simp)).trans H.out.1, H.out.2⟩
  have FI : Hid (_) := fin
  have q := vfresh_any b g M n s _ hA
  clear h R hA oA fin
  go_enter Try.func12, Try.ntmps12
  go_wp2_with fail
  refine q.mono ?_
  rintro e w2 ⟨rfl, H⟩
  clear q
  go_wp2_with fail
  go_ret
  exact ⟨rfl, FI.out _ _ H⟩
set_option maxRecDepth 100000 in
set_option maxHeartbeats 2000000 in
theorem call_hold (b g M n : Nat) (s : Vs)  (p : Int) (o : Bool) (a : Option Addr) (len cap : Nat) (bs : Nat → Nat) (w : World) (h : VR w b g M n s) (R : Row8 w a len cap bs) (_hl : len ≤ 140737488351232) :
    Calls Try.prog 12 #[.pointer (some ⟨b, 0, none⟩), .agg #[.int .i64 4, .int .i64 p, .bool o, .slice a len cap]] w fun e w' => e = .returned (.int .i64 0) ∧ Hid (Off [b, g] w w' ∧ VR w' b g M n (vhold s o)) := by
  have oA : Off [] w (w.alloc (.cells #[.int .i64 4, .int .i64 p, .bool o, .slice a len cap] 35)) := Off.alloc _ _ _
  have hA := h.new_ oA
  have HR : Hid (_) := R
  have fin : ∀ (w' : World) (s' : Vs), Hid (Off [b, g] (w.alloc (.cells #[.int .i64 4, .int .i64 p, .bool o, .slice a len cap] 35)) w' ∧ VR w' b g M n s') → Hid (Off [b, g] w w' ∧ VR w' b g M n s') := fun _ _ H => ⟨(oA.more (by simp)).trans H.out.1, H.out.2⟩
  have FI : Hid (_) := fin
  have q := vhold_any b g M n s o _ hA
  clear h R hA oA fin
  go_enter Try.func12, Try.ntmps12
  go_wp2_with fail
  refine q.mono ?_
  rintro e w2 ⟨rfl, H⟩
  clear q
  go_wp2_with fail
  go_ret
  exact ⟨rfl, FI.out _ _ H⟩
set_option maxRecDepth 100000 in
set_option maxHeartbeats 2000000 in
theorem call_ack (b g M n : Nat) (s : Vs)  (p : Int) (o : Bool) (a : Option Addr) (len cap : Nat) (bs : Nat → Nat) (w : World) (h : VR w b g M n s) (R : Row8 w a len cap bs) (_hl : len ≤ 140737488351232) :
    Calls Try.prog 12 #[.pointer (some ⟨b, 0, none⟩), .agg #[.int .i64 6, .int .i64 p, .bool o, .slice a len cap]] w fun e w' => e = .returned (.int .i64 (vackE s)) ∧ Hid (Off [b, g] w w' ∧ VR w' b g M n (vack s)) := by
  have oA : Off [] w (w.alloc (.cells #[.int .i64 6, .int .i64 p, .bool o, .slice a len cap] 35)) := Off.alloc _ _ _
  have hA := h.new_ oA
  have HR : Hid (_) := R
  have fin : ∀ (w' : World) (s' : Vs), Hid (Off [b, g] (w.alloc (.cells #[.int .i64 6, .int .i64 p, .bool o, .slice a len cap] 35)) w' ∧ VR w' b g M n s') → Hid (Off [b, g] w w' ∧ VR w' b g M n s') := fun _ _ H => ⟨(oA.more (by simp)).trans H.out.1, H.out.2⟩
  have FI : Hid (_) := fin
  have q := vack_any b g M n s _ hA
  clear h R hA oA fin
  go_enter Try.func12, Try.ntmps12
  go_wp2_with fail
  refine q.mono ?_
  rintro e w2 ⟨rfl, H⟩
  clear q
  go_wp2_with fail
  go_ret
  exact ⟨rfl, FI.out _ _ H⟩
set_option maxRecDepth 100000 in
set_option maxHeartbeats 2000000 in
theorem call_other (b g M n : Nat) (s : Vs) (k : Int) (p : Int) (o : Bool) (a : Option Addr) (len cap : Nat) (bs : Nat → Nat) (w : World) (h : VR w b g M n s) (R : Row8 w a len cap bs) (_hl : len ≤ 140737488351232) (h1 : ¬ k = 1) (h2 : ¬ k = 2) (h3 : ¬ k = 3) (h4 : ¬ k = 4) (h5 : ¬ k = 5) (h6 : ¬ k = 6) :
    Calls Try.prog 12 #[.pointer (some ⟨b, 0, none⟩), .agg #[.int .i64 k, .int .i64 p, .bool o, .slice a len cap]] w fun e w' => e = .returned (.int .i64 0) ∧ Hid (Off [b, g] w w' ∧ VR w' b g M n (s)) := by
  have oA : Off [] w (w.alloc (.cells #[.int .i64 k, .int .i64 p, .bool o, .slice a len cap] 35)) := Off.alloc _ _ _
  have hA := h.new_ oA
  have HR : Hid (_) := R
  have fin : ∀ (w' : World) (s' : Vs), Hid (Off [b, g] (w.alloc (.cells #[.int .i64 k, .int .i64 p, .bool o, .slice a len cap] 35)) w' ∧ VR w' b g M n s') → Hid (Off [b, g] w w' ∧ VR w' b g M n s') := fun _ _ H => ⟨(oA.more (by simp)).trans H.out.1, H.out.2⟩
  have FI : Hid (_) := fin
  have HH : Hid (_) := And.intro oA hA
  clear h R hA oA fin
  go_enter Try.func12, Try.ntmps12
  go_wp2_with fail
  go_ret
  exact ⟨rfl, FI.out _ _ ⟨Off.refl _ _, HH.out.2⟩⟩
set_option maxRecDepth 100000 in
set_option maxHeartbeats 2000000 in
theorem call_take (b g M n : Nat) (s : Vs)  (p : Int) (o : Bool) (a : Option Addr) (len cap : Nat) (bs : Nat → Nat) (w : World) (h : VR w b g M n s) (R : Row8 w a len cap bs) (hl : len ≤ 140737488351232) :
    Calls Try.prog 12 #[.pointer (some ⟨b, 0, none⟩), .agg #[.int .i64 5, .int .i64 p, .bool o, .slice a len cap]] w fun e w' => e = .returned (.int .i64 (vtakeE n len)) ∧ Hid (Off [b, g] w w' ∧ VR w' b g M n (if len = n then vtake s bs else s)) := by
  have oA : Off [] w (w.alloc (.cells #[.int .i64 5, .int .i64 p, .bool o, .slice a len cap] 35)) := Off.alloc _ _ _
  have hA := h.new_ oA
  have HR : Hid (_) := R
  have fin : ∀ (w' : World) (s' : Vs), Hid (Off [b, g] (w.alloc (.cells #[.int .i64 5, .int .i64 p, .bool o, .slice a len cap] 35)) w' ∧ VR w' b g M n s') → Hid (Off [b, g] w w' ∧ VR w' b g M n s') := fun _ _ H => ⟨(oA.more (by simp)).trans H.out.1, H.out.2⟩
  have FI : Hid (_) := fin
  obtain ⟨i0, hi, hz0, hz1, hz2⟩ := info_parts info_u8
  generalize hs : (if len = n then vtake s bs else s) = s'
  have HS : Hid (_) := hs
  clear hs
  have hbd := build0V
  have RA : Row8 (w.alloc (.cells #[.int .i64 5, .int .i64 p, .bool o, .slice a len cap] 35)) a len cap bs := R.off oA (by simp)
  obtain ⟨W, hW⟩ : ∃ W, W = (w.alloc (.cells #[.int .i64 5, .int .i64 p, .bool o, .slice a len cap] 35)) := ⟨_, rfl⟩
  have c3 : W.cell? ⟨w.heap.size, 3, none⟩ = some (.slice a len cap) := by rw [hW]; exact cell_of_row _ _ 3 _ _ _ (heap_alloc_new w _)
  have lt3 : w.heap.size < W.heap.size := by rw [hW, World.size_alloc]; omega
  rw [← hW] at RA hA
  have hbelA : Below W.heap.size W (W.alloc (.cells #[] 5)) := (Below.refl _ _).alloc (Nat.le_refl _) _
  have R0 := RA.below hbelA
  have O0 := own0V W.heap.size bs W (Nat.le_refl _)
  have d3 : (W.alloc (.cells #[] 5)).cell? ⟨w.heap.size, 3, none⟩ = some (.slice a len cap) := (hbelA.cell lt3).trans c3
  have hszA := hbelA.size
  have HA : Hid (_) := hA
  have HW : Hid (_) := hW
  clear h R hA oA fin
  go_enter Try.func12, Try.ntmps12
  go_upto_region 11 with fail
  rw [← hW]
  clear hW
  go_wp2_with (at_builtin; refine wpList_append_row8 rfl (.tmp 32) (.tmp 34) 29 rfl W.heap.size 5 i0 (.int .u8 0) Try.underlying29 hi hz0 hz1 hz2 rfl _ 0 _ rfl O0 a len cap bs rfl R0 (by unfold maxLen; omega) (by omega) hszA ?_)
  intro v2 w2 hown2 hgrow2
  have hbel2 : Below W.heap.size W w2 := hbelA.grown hgrow2 hszA (fun k hk => (O0.lt k hk).1)
  rw [show CB bs 0 = [] from rfl, List.nil_append] at hown2
  obtain ⟨a2, k2, rfl, R2⟩ := own_row8 (by simpa using hown2) RA.byte
  have o2 : Off [] W w2 := Off.of_below hbel2
  have q := vtake_any b g M n s a2 len k2 bs w2 (HA.out.new_ o2) R2
  rw [HS.out] at q
  have O2 : Hid (_) := o2
  clear hown2 hgrow2 hbel2 O0 R0 R2 RA hbelA d3 c3 o2
  go_wp2_with fail
  refine q.mono ?_
  rintro e w3 ⟨rfl, H⟩
  clear q
  go_wp2_with fail
  go_ret
  exact ⟨rfl, FI.out _ _ ⟨HW.out ▸ (O2.out.more (by simp)).trans H.out.1, H.out.2⟩⟩
theorem call_any (b g M n : Nat) (s : Vs) (k : Int) (p : Int) (o : Bool) (a : Option Addr) (len cap : Nat) (bs : Nat → Nat) (w : World) (h : VR w b g M n s) (R : Row8 w a len cap bs) (hl : len ≤ 140737488351232) :
    Calls Try.prog 12 #[.pointer (some ⟨b, 0, none⟩), .agg #[.int .i64 k, .int .i64 p, .bool o, .slice a len cap]] w fun e w' => e = .returned (.int .i64 (vcallE s n k len)) ∧ Hid (Off [b, g] w w' ∧ VR w' b g M n (vcall s n k p o len bs)) := by
  by_cases h1 : k = 1
  · subst h1; exact call_trip b g M n s p o a len cap bs w h R hl
  by_cases h2 : k = 2
  · subst h2; exact call_run b g M n s p o a len cap bs w h R hl
  by_cases h3 : k = 3
  · subst h3; exact call_fresh b g M n s p o a len cap bs w h R hl
  by_cases h4 : k = 4
  · subst h4; exact call_hold b g M n s p o a len cap bs w h R hl
  by_cases h5 : k = 5
  · subst h5; exact call_take b g M n s p o a len cap bs w h R hl
  by_cases h6 : k = 6
  · subst h6; exact call_ack b g M n s p o a len cap bs w h R hl
  unfold vcall vcallE
  rw [if_neg h1, if_neg h2, if_neg h3, if_neg h4, if_neg h5, if_neg h6, if_neg h5, if_neg h6]
  exact call_other b g M n s k p o a len cap bs w h R hl h1 h2 h3 h4 h5 h6

end Go.Proofs.Ytjdedopijplblaa
