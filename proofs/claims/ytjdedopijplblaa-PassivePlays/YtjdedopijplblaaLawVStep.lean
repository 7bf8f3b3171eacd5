/- Layer 11: one call on both valves. (genvstep.py) -/
import Derived.Test.YtjdedopijplblaaAw11
namespace Go.Proofs.Ytjdedopijplblaa
open Go.RowKit

/-- Inside a step: which of the two has been tripped already. -/
structure Phv (wa : World) (b g b' M n z : Nat) (s : Vs) (p : Int) (i j : Bool) (wx : World) : Prop where
  off : Off [b, g, b'] wa wx
  vr : VR wx b g M n (if i then vtrip s p else s)
  rv : RVR wx b' M n (if j then vtrip s p else s)
  op : wx.cell? ⟨z, 1, none⟩ = some (.int .i64 p)
  nz : z ∉ [b, g, b']
  nb : b' ∉ [b, g]
theorem Phv.drew {wa wx : World} {b g b' M n z : Nat} {s : Vs} {p : Int} {i j : Bool} (h : Phv wa b g b' M n z s p i j wx) : Phv wa b g b' M n z s p i j wx.drew :=
  ⟨h.off.trans (Off.drew _ _), h.vr.new_ (Off.drew [] _), h.rv.new_ (Off.drew [] _), h.op, h.nz, h.nb⟩
theorem ph_v {wa : World} {b g b' M n z : Nat} {s : Vs} {p : Int} (j : Bool) (wx : World) (h : Phv wa b g b' M n z s p false j wx) :
    Calls Try.prog 17 #[.pointer (some ⟨b, 0, none⟩), .int .i64 p] wx fun e w' => e = .returned (.bool (vtripB s p)) ∧ Phv wa b g b' M n z s p true j w' := by
  refine (vtrip_any b g M n s p wx h.vr).mono ?_
  rintro e w' ⟨rfl, H⟩
  obtain ⟨o, v⟩ := H.out
  have hb := h.vr.bM
  have hg := h.vr.gM
  refine ⟨rfl, h.off.trans (o.more (by simp)), v, h.rv.off o h.nb (by simp; omega), ?_, h.nz, h.nb⟩
  rw [World.cell?_of_block (w := wx) (o.block z (World.block_lt_of_cell? wx _ h.op) (fun hm => h.nz (by simp at hm ⊢; omega)))]
  exact h.op
theorem ph_r {wa : World} {b g b' M n z : Nat} {s : Vs} {p : Int} (i : Bool) (wx : World) (h : Phv wa b g b' M n z s p i false wx) :
    Calls Try.prog 28 #[.pointer (some ⟨b', 0, none⟩), .int .i64 p] wx fun e w' => e = .returned (.bool (vtripB s p)) ∧ Phv wa b g b' M n z s p i true w' := by
  refine (rtrip_any b' M n s p wx h.rv).mono ?_
  rintro e w' ⟨rfl, H⟩
  obtain ⟨o, v⟩ := H.out
  have hb := h.rv.bM
  have hn := h.nb
  refine ⟨rfl, h.off.trans (o.more (by simp)), h.vr.off o (by simp at hn ⊢; omega) (by simp at hn ⊢; omega) (by simpa using hb), v, ?_, h.nz, h.nb⟩
  rw [World.cell?_of_block (w := wx) (o.block z (World.block_lt_of_cell? wx _ h.op) (fun hm => h.nz (by simp at hm ⊢; omega)))]
  exact h.op
set_option maxRecDepth 100000 in
set_option maxHeartbeats 4000000 in
theorem step_trip (b g b' M n : Nat) (s : Vs)  (p : Int) (o : Bool) (a : Option Addr) (len cap : Nat) (bs : Nat → Nat) (w : World) (V : VR w b g M n s) (R : RVR w b' M n s) (_hV : Vok s) (_D : Row8 w a len cap bs) (_hl : len ≤ 140737488351232) (hn : b' ∉ [b, g]) :
    Calls Try.prog 11 #[.pointer (some ⟨b, 0, none⟩), .pointer (some ⟨b', 0, none⟩), .agg #[.int .i64 1, .int .i64 p, .bool o, .slice a len cap]] w fun e w' => e = .returned (.bool true) ∧ Hid (Off [b, g, b'] w w' ∧ VR w' b g M n (vtrip s p) ∧ RVR w' b' M n (vtrip s p)) := by
  have oA : Off [] w (w.alloc (.cells #[.int .i64 1, .int .i64 p, .bool o, .slice a len cap] 35)) := Off.alloc _ _ _
  have V1 := V.new_ oA
  have R1 := R.new_ oA
  have eA := heap_alloc_new w (.cells #[.int .i64 1, .int .i64 p, .bool o, .slice a len cap] 35)
  have hz : w.heap.size ∉ [b, g, b'] := by
    have h1 := V.bM; have h2 := V.gM; have h3 := R.bM; have h4 := V.sz
    simp only [List.mem_cons, List.not_mem_nil, or_false, not_or]
    omega
  have hM : ∀ k, k ∈ [b, g, b'] → k < M := by
    have h1 := V.bM; have h2 := V.gM; have h3 := R.bM
    intro k hk
    simp only [List.mem_cons, List.not_mem_nil, or_false] at hk
    omega
  have FI : Hid (∀ (w' : World) (s' : Vs), Off [b, g, b'] (w.alloc (.cells #[.int .i64 1, .int .i64 p, .bool o, .slice a len cap] 35)) w' → VR w' b g M n s' → RVR w' b' M n s' → Hid (Off [b, g, b'] w w' ∧ VR w' b g M n s' ∧ RVR w' b' M n s')) := fun w' s' h1 h2 h3 => ⟨(oA.more (by simp)).trans h1, h2, h3⟩
  have c1 : (w.alloc (.cells #[.int .i64 1, .int .i64 p, .bool o, .slice a len cap] 35)).cell? ⟨w.heap.size, 1, none⟩ = some (.int .i64 p) := cell_of_row _ _ 1 _ _ _ eA
  have P0 : Phv (w.alloc (.cells #[.int .i64 1, .int .i64 p, .bool o, .slice a len cap] 35)) b g b' M n w.heap.size s p false false (w.alloc (.cells #[.int .i64 1, .int .i64 p, .bool o, .slice a len cap] 35)) := ⟨Off.refl _ _, V1, R1, c1, hz, hn⟩
  have hend : ∀ w', Phv (w.alloc (.cells #[.int .i64 1, .int .i64 p, .bool o, .slice a len cap] 35)) b g b' M n w.heap.size s p true true w' → Hid (Off [b, g, b'] w w' ∧ VR w' b g M n (vtrip s p) ∧ RVR w' b' M n (vtrip s p)) := fun w' q => FI.out w' _ q.off q.vr q.rv
  have P1 := P0.drew
  have d1 := P1.op
  clear V1 R1 V R oA eA P0 FI hM c1
  go_enter Try.func11, Try.ntmps11
  go_wp2_with fail
  go_region_with (first | (go_at_call 17; refine (ph_v false _ P1).mono ?_; rintro e w1 ⟨rfl, h1⟩; have d2 := h1.op) | (go_at_call 28; refine (ph_r true _ h1).mono ?_; rintro e w1 ⟨rfl, h1⟩; have d2 := h1.op))
  all_goals
    go_wp2_with fail
    go_ret
    exact ⟨by simp [Act.put], hend _ h1⟩
set_option maxRecDepth 100000 in
set_option maxHeartbeats 4000000 in
theorem step_run (b g b' M n : Nat) (s : Vs)  (p : Int) (o : Bool) (a : Option Addr) (len cap : Nat) (bs : Nat → Nat) (w : World) (V : VR w b g M n s) (R : RVR w b' M n s) (_hV : Vok s) (_D : Row8 w a len cap bs) (_hl : len ≤ 140737488351232) (hn : b' ∉ [b, g]) :
    Calls Try.prog 11 #[.pointer (some ⟨b, 0, none⟩), .pointer (some ⟨b', 0, none⟩), .agg #[.int .i64 2, .int .i64 p, .bool o, .slice a len cap]] w fun e w' => e = .returned (.bool true) ∧ Hid (Off [b, g, b'] w w' ∧ VR w' b g M n (vrun s o) ∧ RVR w' b' M n (vrun s o)) := by
  have oA : Off [] w (w.alloc (.cells #[.int .i64 2, .int .i64 p, .bool o, .slice a len cap] 35)) := Off.alloc _ _ _
  have V1 := V.new_ oA
  have R1 := R.new_ oA
  have eA := heap_alloc_new w (.cells #[.int .i64 2, .int .i64 p, .bool o, .slice a len cap] 35)
  have hz : w.heap.size ∉ [b, g, b'] := by
    have h1 := V.bM; have h2 := V.gM; have h3 := R.bM; have h4 := V.sz
    simp only [List.mem_cons, List.not_mem_nil, or_false, not_or]
    omega
  have hM : ∀ k, k ∈ [b, g, b'] → k < M := by
    have h1 := V.bM; have h2 := V.gM; have h3 := R.bM
    intro k hk
    simp only [List.mem_cons, List.not_mem_nil, or_false] at hk
    omega
  have FI : Hid (∀ (w' : World) (s' : Vs), Off [b, g, b'] (w.alloc (.cells #[.int .i64 2, .int .i64 p, .bool o, .slice a len cap] 35)) w' → VR w' b g M n s' → RVR w' b' M n s' → Hid (Off [b, g, b'] w w' ∧ VR w' b g M n s' ∧ RVR w' b' M n s')) := fun w' s' h1 h2 h3 => ⟨(oA.more (by simp)).trans h1, h2, h3⟩
  have q1 := vrun_any b g M n s o _ V1
  clear V oA
  go_enter Try.func11, Try.ntmps11
  go_wp2_with fail
  refine q1.mono ?_
  rintro e w2 ⟨rfl, H2⟩
  obtain ⟨o2, V2⟩ := H2.out
  have R2 := R1.off o2 hn (fun j hj => hM j (by simp at hj ⊢; omega))
  have e2 : w2.heap[w.heap.size]? = _ := (o2.block _ (by rw [World.size_alloc]; omega) (fun hm => hz (by simp at hm ⊢; omega))).trans eA
  have d2 : w2.cell? ⟨w.heap.size, 2, none⟩ = some (.bool o) := cell_of_row w2 _ 2 _ _ _ e2
  clear e2
  have q2 := rrun_any b' M n s o w2 R2
  have K2 : Hid (_) := And.intro o2 V2
  clear q1 V1 R1 o2 V2 R2 H2 eA
  go_wp2_with fail
  refine q2.mono ?_
  rintro e w3 ⟨rfl, H3⟩
  obtain ⟨o3, R3⟩ := H3.out
  obtain ⟨o2, V2⟩ := K2.out
  have V3 := V2.off o3 (by simp at hn ⊢; omega) (by simp at hn ⊢; omega) (fun j hj => hM j (by simp at hj ⊢; omega))
  have E3 := FI.out w3 _ ((o2.more (by simp)).trans (o3.more (by simp))) V3 R3
  clear q2 o2 V2 o3 R3 V3 H3 K2 FI
  go_wp2_with fail
  go_ret
  exact ⟨rfl, E3⟩
set_option maxRecDepth 100000 in
set_option maxHeartbeats 4000000 in
theorem step_fresh (b g b' M n : Nat) (s : Vs)  (p : Int) (o : Bool) (a : Option Addr) (len cap : Nat) (bs : Nat → Nat) (w : World) (V : VR w b g M n s) (R : RVR w b' M n s) (hV : Vok s) (_D : Row8 w a len cap bs) (_hl : len ≤ 140737488351232) (hn : b' ∉ [b, g]) :
    Calls Try.prog 11 #[.pointer (some ⟨b, 0, none⟩), .pointer (some ⟨b', 0, none⟩), .agg #[.int .i64 3, .int .i64 p, .bool o, .slice a len cap]] w fun e w' => e = .returned (.bool true) ∧ Hid (Off [b, g, b'] w w' ∧ VR w' b g M n (vfresh s) ∧ RVR w' b' M n (vfresh s)) := by
  have oA : Off [] w (w.alloc (.cells #[.int .i64 3, .int .i64 p, .bool o, .slice a len cap] 35)) := Off.alloc _ _ _
  have V1 := V.new_ oA
  have R1 := R.new_ oA
  have eA := heap_alloc_new w (.cells #[.int .i64 3, .int .i64 p, .bool o, .slice a len cap] 35)
  have hz : w.heap.size ∉ [b, g, b'] := by
    have h1 := V.bM; have h2 := V.gM; have h3 := R.bM; have h4 := V.sz
    simp only [List.mem_cons, List.not_mem_nil, or_false, not_or]
    omega
  have hM : ∀ k, k ∈ [b, g, b'] → k < M := by
    have h1 := V.bM; have h2 := V.gM; have h3 := R.bM
    intro k hk
    simp only [List.mem_cons, List.not_mem_nil, or_false] at hk
    omega
  have FI : Hid (∀ (w' : World) (s' : Vs), Off [b, g, b'] (w.alloc (.cells #[.int .i64 3, .int .i64 p, .bool o, .slice a len cap] 35)) w' → VR w' b g M n s' → RVR w' b' M n s' → Hid (Off [b, g, b'] w w' ∧ VR w' b g M n s' ∧ RVR w' b' M n s')) := fun w' s' h1 h2 h3 => ⟨(oA.more (by simp)).trans h1, h2, h3⟩
  have q1 := vfresh_any b g M n s _ V1
  clear V oA
  go_enter Try.func11, Try.ntmps11
  go_wp2_with fail
  refine q1.mono ?_
  rintro e w2 ⟨rfl, H2⟩
  obtain ⟨o2, V2⟩ := H2.out
  have R2 := R1.off o2 hn (fun j hj => hM j (by simp at hj ⊢; omega))
  have q2 := rcome_any b' M n s w2 R2 hV
  have K2 : Hid (_) := And.intro o2 V2
  clear q1 V1 R1 o2 V2 R2 H2 eA
  go_wp2_with fail
  refine q2.mono ?_
  rintro e w3 ⟨rfl, H3⟩
  obtain ⟨o3, R3⟩ := H3.out
  obtain ⟨o2, V2⟩ := K2.out
  have V3 := V2.off o3 (by simp at hn ⊢; omega) (by simp at hn ⊢; omega) (fun j hj => hM j (by simp at hj ⊢; omega))
  have E3 := FI.out w3 _ ((o2.more (by simp)).trans (o3.more (by simp))) V3 R3
  clear q2 o2 V2 o3 R3 V3 H3 K2 FI
  go_wp2_with fail
  go_ret
  exact ⟨rfl, E3⟩
set_option maxRecDepth 100000 in
set_option maxHeartbeats 4000000 in
theorem step_hold (b g b' M n : Nat) (s : Vs)  (p : Int) (o : Bool) (a : Option Addr) (len cap : Nat) (bs : Nat → Nat) (w : World) (V : VR w b g M n s) (R : RVR w b' M n s) (_hV : Vok s) (_D : Row8 w a len cap bs) (_hl : len ≤ 140737488351232) (hn : b' ∉ [b, g]) :
    Calls Try.prog 11 #[.pointer (some ⟨b, 0, none⟩), .pointer (some ⟨b', 0, none⟩), .agg #[.int .i64 4, .int .i64 p, .bool o, .slice a len cap]] w fun e w' => e = .returned (.bool true) ∧ Hid (Off [b, g, b'] w w' ∧ VR w' b g M n (vhold s o) ∧ RVR w' b' M n (vhold s o)) := by
  have oA : Off [] w (w.alloc (.cells #[.int .i64 4, .int .i64 p, .bool o, .slice a len cap] 35)) := Off.alloc _ _ _
  have V1 := V.new_ oA
  have R1 := R.new_ oA
  have eA := heap_alloc_new w (.cells #[.int .i64 4, .int .i64 p, .bool o, .slice a len cap] 35)
  have hz : w.heap.size ∉ [b, g, b'] := by
    have h1 := V.bM; have h2 := V.gM; have h3 := R.bM; have h4 := V.sz
    simp only [List.mem_cons, List.not_mem_nil, or_false, not_or]
    omega
  have hM : ∀ k, k ∈ [b, g, b'] → k < M := by
    have h1 := V.bM; have h2 := V.gM; have h3 := R.bM
    intro k hk
    simp only [List.mem_cons, List.not_mem_nil, or_false] at hk
    omega
  have FI : Hid (∀ (w' : World) (s' : Vs), Off [b, g, b'] (w.alloc (.cells #[.int .i64 4, .int .i64 p, .bool o, .slice a len cap] 35)) w' → VR w' b g M n s' → RVR w' b' M n s' → Hid (Off [b, g, b'] w w' ∧ VR w' b g M n s' ∧ RVR w' b' M n s')) := fun w' s' h1 h2 h3 => ⟨(oA.more (by simp)).trans h1, h2, h3⟩
  have q1 := vhold_any b g M n s o _ V1
  clear V oA
  go_enter Try.func11, Try.ntmps11
  go_wp2_with fail
  refine q1.mono ?_
  rintro e w2 ⟨rfl, H2⟩
  obtain ⟨o2, V2⟩ := H2.out
  have R2 := R1.off o2 hn (fun j hj => hM j (by simp at hj ⊢; omega))
  have e2 : w2.heap[w.heap.size]? = _ := (o2.block _ (by rw [World.size_alloc]; omega) (fun hm => hz (by simp at hm ⊢; omega))).trans eA
  have d2 : w2.cell? ⟨w.heap.size, 2, none⟩ = some (.bool o) := cell_of_row w2 _ 2 _ _ _ e2
  clear e2
  have q2 := rhold_any b' M n s o w2 R2
  have K2 : Hid (_) := And.intro o2 V2
  clear q1 V1 R1 o2 V2 R2 H2 eA
  go_wp2_with fail
  refine q2.mono ?_
  rintro e w3 ⟨rfl, H3⟩
  obtain ⟨o3, R3⟩ := H3.out
  obtain ⟨o2, V2⟩ := K2.out
  have V3 := V2.off o3 (by simp at hn ⊢; omega) (by simp at hn ⊢; omega) (fun j hj => hM j (by simp at hj ⊢; omega))
  have E3 := FI.out w3 _ ((o2.more (by simp)).trans (o3.more (by simp))) V3 R3
  clear q2 o2 V2 o3 R3 V3 H3 K2 FI
  go_wp2_with fail
  go_ret
  exact ⟨rfl, E3⟩
set_option maxRecDepth 100000 in
set_option maxHeartbeats 4000000 in
theorem step_other (b g b' M n : Nat) (s : Vs) (k : Int) (p : Int) (o : Bool) (a : Option Addr) (len cap : Nat) (bs : Nat → Nat) (w : World) (V : VR w b g M n s) (R : RVR w b' M n s) (_hV : Vok s) (_D : Row8 w a len cap bs) (_hl : len ≤ 140737488351232) (_hn : b' ∉ [b, g]) (h1 : ¬ k = 1) (h2 : ¬ k = 2) (h3 : ¬ k = 3) (h4 : ¬ k = 4) (h5 : ¬ k = 5) (h6 : ¬ k = 6) :
    Calls Try.prog 11 #[.pointer (some ⟨b, 0, none⟩), .pointer (some ⟨b', 0, none⟩), .agg #[.int .i64 k, .int .i64 p, .bool o, .slice a len cap]] w fun e w' => e = .returned (.bool true) ∧ Hid (Off [b, g, b'] w w' ∧ VR w' b g M n (s) ∧ RVR w' b' M n (s)) := by
  have oA : Off [] w (w.alloc (.cells #[.int .i64 k, .int .i64 p, .bool o, .slice a len cap] 35)) := Off.alloc _ _ _
  have V1 := V.new_ oA
  have R1 := R.new_ oA
  have eA := heap_alloc_new w (.cells #[.int .i64 k, .int .i64 p, .bool o, .slice a len cap] 35)
  have hz : w.heap.size ∉ [b, g, b'] := by
    have h1 := V.bM; have h2 := V.gM; have h3 := R.bM; have h4 := V.sz
    simp only [List.mem_cons, List.not_mem_nil, or_false, not_or]
    omega
  have hM : ∀ k, k ∈ [b, g, b'] → k < M := by
    have h1 := V.bM; have h2 := V.gM; have h3 := R.bM
    intro k hk
    simp only [List.mem_cons, List.not_mem_nil, or_false] at hk
    omega
  have FI : Hid (∀ (w' : World) (s' : Vs), Off [b, g, b'] (w.alloc (.cells #[.int .i64 k, .int .i64 p, .bool o, .slice a len cap] 35)) w' → VR w' b g M n s' → RVR w' b' M n s' → Hid (Off [b, g, b'] w w' ∧ VR w' b g M n s' ∧ RVR w' b' M n s')) := fun w' s' h1 h2 h3 => ⟨(oA.more (by simp)).trans h1, h2, h3⟩
  have E3 := FI.out _ _ (Off.refl _ _) V1 R1
  clear V1 R1 V R oA eA FI
  go_enter Try.func11, Try.ntmps11
  go_wp2_with fail
  go_ret
  exact ⟨rfl, E3⟩
set_option maxRecDepth 100000 in
set_option maxHeartbeats 4000000 in
theorem step_ack (b g b' M n : Nat) (s : Vs)  (p : Int) (o : Bool) (a : Option Addr) (len cap : Nat) (bs : Nat → Nat) (w : World) (V : VR w b g M n s) (R : RVR w b' M n s) (_hV : Vok s) (_D : Row8 w a len cap bs) (_hl : len ≤ 140737488351232) (hn : b' ∉ [b, g]) :
    Calls Try.prog 11 #[.pointer (some ⟨b, 0, none⟩), .pointer (some ⟨b', 0, none⟩), .agg #[.int .i64 6, .int .i64 p, .bool o, .slice a len cap]] w fun e w' => e = .returned (.bool true) ∧ Hid (Off [b, g, b'] w w' ∧ VR w' b g M n (vack s) ∧ RVR w' b' M n (vack s)) := by
  have oA : Off [] w (w.alloc (.cells #[.int .i64 6, .int .i64 p, .bool o, .slice a len cap] 35)) := Off.alloc _ _ _
  have V1 := V.new_ oA
  have R1 := R.new_ oA
  have eA := heap_alloc_new w (.cells #[.int .i64 6, .int .i64 p, .bool o, .slice a len cap] 35)
  have hz : w.heap.size ∉ [b, g, b'] := by
    have h1 := V.bM; have h2 := V.gM; have h3 := R.bM; have h4 := V.sz
    simp only [List.mem_cons, List.not_mem_nil, or_false, not_or]
    omega
  have hM : ∀ k, k ∈ [b, g, b'] → k < M := by
    have h1 := V.bM; have h2 := V.gM; have h3 := R.bM
    intro k hk
    simp only [List.mem_cons, List.not_mem_nil, or_false] at hk
    omega
  have FI : Hid (∀ (w' : World) (s' : Vs), Off [b, g, b'] (w.alloc (.cells #[.int .i64 6, .int .i64 p, .bool o, .slice a len cap] 35)) w' → VR w' b g M n s' → RVR w' b' M n s' → Hid (Off [b, g, b'] w w' ∧ VR w' b g M n s' ∧ RVR w' b' M n s')) := fun w' s' h1 h2 h3 => ⟨(oA.more (by simp)).trans h1, h2, h3⟩
  have q1 := rack_any b' M n s _ R1
  have hE : vackE s = if vreq s = true then 0 else 110 := rfl
  clear R oA
  go_enter Try.func11, Try.ntmps11
  go_wp2_with fail
  refine q1.mono ?_
  rintro e w2 ⟨rfl, H2⟩
  obtain ⟨o2, R2⟩ := H2.out
  have V2 := V1.off o2 (by simp at hn ⊢; omega) (by simp at hn ⊢; omega) (fun j hj => hM j (by simp at hj ⊢; omega))
  have q2 := vack_any b g M n s w2 V2
  have K2 : Hid (_) := And.intro o2 R2
  clear q1 V1 R1 o2 V2 R2 H2 eA
  cases hr : vreq s
  all_goals
    rw [hE, hr] at q2
    first | rw [if_pos rfl] at q2 | rw [if_neg (by simp)] at q2
    go_wp2_with fail
    refine q2.mono ?_
    rintro e w3 ⟨rfl, H3⟩
    obtain ⟨o3, V3⟩ := H3.out
    obtain ⟨o2, R2⟩ := K2.out
    have R3 := R2.off o3 hn (fun j hj => hM j (by simp at hj ⊢; omega))
    have E3 := FI.out w3 _ ((o2.more (by simp)).trans (o3.more (by simp))) V3 R3
    clear q2 o2 R2 o3 R3 V3 H3 K2 FI
    go_wp2_with fail
    go_ret
    exact ⟨rfl, E3⟩
set_option maxRecDepth 100000 in
set_option maxHeartbeats 4000000 in
theorem step_take (b g b' M n : Nat) (s : Vs)  (p : Int) (o : Bool) (a : Option Addr) (len cap : Nat) (bs : Nat → Nat) (w : World) (V : VR w b g M n s) (R : RVR w b' M n s) (_hV : Vok s) (D : Row8 w a len cap bs) (hl : len ≤ 140737488351232) (hn : b' ∉ [b, g]) (hd : ∀ x, a = some x → 0 < len → x.block ∉ [b, g, b']) :
    Calls Try.prog 11 #[.pointer (some ⟨b, 0, none⟩), .pointer (some ⟨b', 0, none⟩), .agg #[.int .i64 5, .int .i64 p, .bool o, .slice a len cap]] w fun e w' => e = .returned (.bool true) ∧ Hid (Off [b, g, b'] w w' ∧ VR w' b g M n (if len = n then vtake s bs else s) ∧ RVR w' b' M n (if len = n then vtake s bs else s)) := by
  have oA : Off [] w (w.alloc (.cells #[.int .i64 5, .int .i64 p, .bool o, .slice a len cap] 35)) := Off.alloc _ _ _
  have V1 := V.new_ oA
  have R1 := R.new_ oA
  have eA := heap_alloc_new w (.cells #[.int .i64 5, .int .i64 p, .bool o, .slice a len cap] 35)
  have hz : w.heap.size ∉ [b, g, b'] := by
    have h1 := V.bM; have h2 := V.gM; have h3 := R.bM; have h4 := V.sz
    simp only [List.mem_cons, List.not_mem_nil, or_false, not_or]
    omega
  have hM : ∀ k, k ∈ [b, g, b'] → k < M := by
    have h1 := V.bM; have h2 := V.gM; have h3 := R.bM
    intro k hk
    simp only [List.mem_cons, List.not_mem_nil, or_false] at hk
    omega
  have FI : Hid (∀ (w' : World) (s' : Vs), Off [b, g, b'] (w.alloc (.cells #[.int .i64 5, .int .i64 p, .bool o, .slice a len cap] 35)) w' → VR w' b g M n s' → RVR w' b' M n s' → Hid (Off [b, g, b'] w w' ∧ VR w' b g M n s' ∧ RVR w' b' M n s')) := fun w' s' h1 h2 h3 => ⟨(oA.more (by simp)).trans h1, h2, h3⟩
  obtain ⟨i0, hi, hz0, hz1, hz2⟩ := info_parts info_u8
  have hbd := build0V
  have D1 := D.off oA (by simp)
  obtain ⟨W, hW⟩ : ∃ W, W = (w.alloc (.cells #[.int .i64 5, .int .i64 p, .bool o, .slice a len cap] 35)) := ⟨_, rfl⟩
  rw [← hW] at V1 R1 eA D1 FI
  have c3 : W.cell? ⟨w.heap.size, 3, none⟩ = some (.slice a len cap) := cell_of_row _ _ 3 _ _ _ eA
  have lt3 : w.heap.size < W.heap.size := by rw [hW, World.size_alloc]; omega
  have hbelA : Below W.heap.size W (W.alloc (.cells #[] 5)) := (Below.refl _ _).alloc (Nat.le_refl _) _
  have R0 := D1.below hbelA
  have O0 := own0V W.heap.size bs W (Nat.le_refl _)
  have d3 : (W.alloc (.cells #[] 5)).cell? ⟨w.heap.size, 3, none⟩ = some (.slice a len cap) := (hbelA.cell lt3).trans c3
  have hszA := hbelA.size
  have KA : Hid (_) := And.intro V1 (And.intro R1 (And.intro D1 eA))
  have hby := D1.byte
  have n1 := R.n1
  clear V R V1 R1 eA oA D D1
  generalize hs : (if len = n then vtake s bs else s) = s'
  have HS : Hid (_) := hs
  clear hs
  go_enter Try.func11, Try.ntmps11
  go_upto_region 14 with fail
  rw [← hW]
  clear hW
  go_upto_region 15 with (at_builtin; refine wpList_append_row8 rfl (.tmp 51) (.tmp 53) 29 rfl W.heap.size 5 i0 (.int .u8 0) Try.underlying29 hi hz0 hz1 hz2 rfl _ 0 _ rfl O0 a len cap bs rfl R0 (by unfold maxLen; omega) (by omega) hszA ?_)
  intro v2 w2 hown2 hgrow2
  have hbel2 : Below W.heap.size W w2 := hbelA.grown hgrow2 hszA (fun k hk => (O0.lt k hk).1)
  rw [show CB bs 0 = [] from rfl, List.nil_append] at hown2
  obtain ⟨a2, k2, rfl, R2⟩ := own_row8 (by simpa using hown2) hby
  have o2 : Off [] W w2 := Off.of_below hbel2
  have q := vtake_any b g M n s a2 len k2 bs w2 (KA.out.1.new_ o2) R2
  rw [HS.out] at q
  have O2 : Hid (_) := o2
  clear hown2 hgrow2 hbel2 O0 R0 R2 hbelA d3 c3 o2
  go_upto_region 15 with fail
  refine q.mono ?_
  rintro e w3 ⟨rfl, H3⟩
  obtain ⟨o3, V3⟩ := H3.out
  have oW : Off [b, g] W w3 := (O2.out.more (by simp)).trans o3
  have R3 := KA.out.2.1.off oW hn (fun j hj => hM j (by simp at hj ⊢; omega))
  have e3 : w3.heap[w.heap.size]? = _ := (oW.block _ lt3 (fun hm => hz (by simp at hm ⊢; omega))).trans KA.out.2.2.2
  have d3 : w3.drew.cell? ⟨w.heap.size, 3, none⟩ = some (.slice a len cap) := cell_of_row _ _ 3 _ _ _ e3
  have x3 : w3.cell? ⟨w.heap.size, 3, none⟩ = some (.slice a len cap) := cell_of_row _ _ 3 _ _ _ e3
  have R4 : RVR w3.drew b' M n s := R3.new_ (Off.drew [] _)
  have V4 : VR w3.drew b g M n s' := V3.new_ (Off.drew [] _)
  obtain ⟨_, d0, _⟩ := R4.cells
  obtain ⟨_, x0, _⟩ := R3.cells
  have oX : Off [b, g] W w3.drew := oW.trans (Off.drew _ _)
  have K4 : Hid (_) := And.intro V4 (And.intro R4 oX)
  clear q H3 o3 V3 oW R3 e3 V4 R4 oX
  unfold vtakeE
  by_cases hln : len = n
  · have hc : ∀ x, a = some x → x.block ∉ [b, g, b'] := fun x hx => hd x hx (by omega)
    have D4 : Row8 w3.drew a len cap bs := KA.out.2.2.1.off K4.out.2.2 (fun x hx hm => hc x hx (by simp at hm ⊢; omega))
    subst hln
    rw [if_pos rfl]
    have q5 := rtake_any b' M len s a cap bs _ K4.out.2.1 D4 (fun x hx e => hc x hx (by simp [e]))
    rw [if_pos rfl] at HS
    rw [HS.out] at q5
    clear KA hd hc D4
    go_upto_region 15 with fail
    go_region
    all_goals
      go_wp2_with fail
      refine q5.mono ?_
      rintro e w5 ⟨rfl, H5⟩
      have V5 := K4.out.1.off H5.out.1 (by simp at hn ⊢; omega) (by simp at hn ⊢; omega) (fun j hj => hM j (by simp at hj ⊢; omega))
      have E5 := FI.out w5 _ ((K4.out.2.2.more (by simp)).trans (H5.out.1.more (by simp))) V5 H5.out.2
      clear q5 K4 V5 H5 FI
      go_wp2_with fail
      go_ret
      exact ⟨rfl, E5⟩
  · rw [if_neg hln]
    have hI : ¬ (len : Int) = (n : Int) := by omega
    rw [if_neg hln] at HS
    have E4 := FI.out _ _ (K4.out.2.2.more (by simp)) (HS.out ▸ K4.out.1) K4.out.2.1
    rw [HS.out] at E4
    clear KA hd K4 FI
    go_upto_region 15 with fail
    go_region
    all_goals
      go_wp2_with fail
      go_ret
      exact ⟨rfl, E4⟩
theorem step_any (b g b' M n : Nat) (s : Vs) (k : Int) (p : Int) (o : Bool) (a : Option Addr) (len cap : Nat) (bs : Nat → Nat) (w : World) (V : VR w b g M n s) (R : RVR w b' M n s) (hV : Vok s) (D : Row8 w a len cap bs) (hl : len ≤ 140737488351232) (hn : b' ∉ [b, g]) (hd : ∀ x, a = some x → 0 < len → x.block ∉ [b, g, b']) :
    Calls Try.prog 11 #[.pointer (some ⟨b, 0, none⟩), .pointer (some ⟨b', 0, none⟩), .agg #[.int .i64 k, .int .i64 p, .bool o, .slice a len cap]] w fun e w' => e = .returned (.bool true) ∧ Hid (Off [b, g, b'] w w' ∧ VR w' b g M n (vcall s n k p o len bs) ∧ RVR w' b' M n (vcall s n k p o len bs)) := by
  by_cases h1 : k = 1
  · subst h1; exact step_trip b g b' M n s p o a len cap bs w V R hV D hl hn
  by_cases h2 : k = 2
  · subst h2; exact step_run b g b' M n s p o a len cap bs w V R hV D hl hn
  by_cases h3 : k = 3
  · subst h3; exact step_fresh b g b' M n s p o a len cap bs w V R hV D hl hn
  by_cases h4 : k = 4
  · subst h4; exact step_hold b g b' M n s p o a len cap bs w V R hV D hl hn
  by_cases h5 : k = 5
  · subst h5; exact step_take b g b' M n s p o a len cap bs w V R hV D hl hn hd
  by_cases h6 : k = 6
  · subst h6; exact step_ack b g b' M n s p o a len cap bs w V R hV D hl hn
  unfold vcall
  rw [if_neg h1, if_neg h2, if_neg h3, if_neg h4, if_neg h5, if_neg h6]
  exact step_other b g b' M n s k p o a len cap bs w V R hV D hl hn h1 h2 h3 h4 h5 h6

end Go.Proofs.Ytjdedopijplblaa
