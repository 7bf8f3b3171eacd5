/- PassivePlays: every call, in any order. -/
import Derived.Test.YtjdedopijplblaaLawVSh
import Derived.Test.YtjdedopijplblaaLawVStep
import Derived.Test.YtjdedopijplblaaOp11
namespace Go.Proofs.Ytjdedopijplblaa
open Go.RowKit

set_option maxRecDepth 100000 in
set_option maxHeartbeats 4000000 in
theorem vplays_in (n : Nat) (a : Option Addr) (len cap : Nat) (w : World) (h1 : 1 ≤ n) (h8 : n ≤ 8) (h : OpRow w a len) :
    Calls Try.prog 3 #[.int .i64 (n : Nat), .slice a len cap] w fun e w' => e = .returned (.bool true) ∧ Below w.heap.size w w' := by
  obtain ⟨hlen, h0⟩ := h
  have HC : Hid (_) := h0
  have hI : ¬ (n : Int) < 1 := by omega
  have hJ : ¬ (8 : Int) < (n : Int) := by omega
  clear h0
  go_enter Try.func3, Try.ntmps3
  go_wp2_with fail
  refine (awake11 w).mono ?_
  rintro e w1 ⟨rfl, b1⟩
  have B1 : Hid (_) := b1
  clear b1
  go_wp2_with fail
  refine (vnew_ok n w1 h1 h8).mono ?_
  rintro e w2 ⟨b, g, rfl, H2⟩
  obtain ⟨hb, hg, o2, m2⟩ := H2.out
  have b1 := B1.out
  have s1 := b1.size
  have b2 : Below w.heap.size w w2 := o2.below b1 (by simp) b1.size
  have s2 := b2.size
  have o3 : Off [] w2 (w2.alloc (.cells (RVC n vnew (.slice none 0 0)) 31)) := Off.alloc _ _ _
  have b3 := o3.below b2 (by simp) b2.size
  have lb := m2.bM
  have lg := m2.gM
  have HN : Hid (w2.heap.size ∉ [b, g] ∧ ∀ k, k ∈ [b, g, w2.heap.size] → w.heap.size ≤ k) := by
    refine ⟨?_, ?_⟩
    · simp only [List.mem_cons, List.not_mem_nil, or_false, not_or]; omega
    · intro k hk
      simp only [List.mem_cons, List.not_mem_nil, or_false] at hk
      omega
  have s3 : (w2.alloc (.cells (RVC n vnew (.slice none 0 0)) 31)).heap.size = w2.heap.size + 1 := by rw [World.size_alloc]
  have m3 := (m2.new_ o3).raise (M' := w2.heap.size + 1) rfl (by omega) (by omega)
  have r3 : RVR (w2.alloc (.cells (RVC n vnew (.slice none 0 0)) 31)) w2.heap.size (w2.heap.size + 1) n vnew := ⟨⟨_, heap_alloc_new w2 _, .inl ⟨rfl, rfl⟩⟩, by omega, by omega, h1, h8⟩
  have H0 : Hid (_) := And.intro m3 (And.intro r3 b3)
  clear H2 B1 b1 hb hg o2 m2 b2 o3 b3 lb lg s3 m3 r3 s1 s2
  unfold RVC vnew at H0
  generalize hM : w2.heap.size + 1 = M at H0
  clear hM
  generalize hb' : w2.heap.size = b' at H0 HN
  have HB' : Hid (_) := hb'
  go_wp2_with fail
  clear hb'
  go_loopw [4, 8] (fun _ i wr => ∃ (k : Nat) (s : Vs), k ≤ len ∧ i = .int .i64 ((k : Nat) : Int) ∧ VR wr b g M n s ∧ RVR wr b' M n s ∧ Vok s ∧ Below w.heap.size w wr) (fun _ i _ => len - (intOf i).toNat)
  case atStart => exact ⟨0, _, by omega, rfl, H0.out.1, H0.out.2.1, Vok.new, H0.out.2.2⟩
  case round =>
    clear H0 HB'
    obtain ⟨k, s, hk, rfl, V, R, ok, bb⟩ := hrel
    by_cases hlt : k < len
    · obtain ⟨bs', off, rfl, hbb, hcc⟩ := HC.out (by omega)
      obtain ⟨K, p, o, y, l, c, ds, q0, q1, q2, q3, Rd, hl⟩ := hcc k hlt
      have qs := vshows_any b g b' M n s wr V R
      have HD : Hid (∀ w', Below w.heap.size w w' → w'.cell? ⟨bs', off + k * 4, none⟩ = some (.int .i64 K) ∧ w'.cell? ⟨bs', off + k * 4 + 1, none⟩ = some (.int .i64 p) ∧ w'.cell? ⟨bs', off + k * 4 + 2, none⟩ = some (.bool o) ∧ w'.cell? ⟨bs', off + k * 4 + 3, none⟩ = some (.slice y l c)) :=
        fun w' hw => ⟨(hw.cell (p := ⟨bs', off + k * 4, none⟩) hbb).trans q0, (hw.cell (p := ⟨bs', off + k * 4 + 1, none⟩) hbb).trans q1, (hw.cell (p := ⟨bs', off + k * 4 + 2, none⟩) hbb).trans q2, (hw.cell (p := ⟨bs', off + k * 4 + 3, none⟩) hbb).trans q3⟩
      have hd : ∀ x, y = some x → 0 < l → x.block ∉ [b, g, b'] := fun x hx h0 hm => by
        obtain ⟨yb, yo, hy, hyl, _⟩ := Rd.plain h0
        rw [hy] at hx
        cases hx
        have := HN.out.2 yb hm
        omega
      have KR : Hid (_) := And.intro V (And.intro R (And.intro ok (And.intro bb (And.intro Rd hd))))
      clear HC hcc q0 q1 q2 q3 V R ok bb Rd hd
      go_wp2_with fail
      refine qs.mono ?_
      rintro e w3 ⟨rfl, o3⟩
      obtain ⟨V, R, ok, bb, Rd, hd⟩ := KR.out
      have b3 := o3.below bb (by simp) bb.size
      obtain ⟨c0, c1, c2, c3⟩ := HD.out w3 b3
      have q := step_any b g b' M n s K p o y l c ds w3 (V.new_ o3) (R.new_ o3) ok (Rd.below b3) hl HN.out.1 hd
      have B3 : Hid (_) := And.intro b3 (ok.call n K p o l ds)
      clear V R ok bb Rd hd KR HD o3 b3 qs
      go_wp2_with fail
      refine q.mono ?_
      rintro e w4 ⟨rfl, H4⟩
      clear q c0 c1 c2 c3
      go_wp2_with fail
      go_roundw
      case rel => exact ⟨k + 1, _, by omega, by go_num, H4.out.2.1, H4.out.2.2, B3.out.2, H4.out.1.below B3.out.1 HN.out.2 B3.out.1.size⟩
      case measure => simp [intOf] <;> omega
    · clear HC
      have qs := vshows_any b g b' M n s wr V R
      have Hb : Hid (_) := bb
      clear bb V R
      go_wp2_with fail
      refine qs.mono ?_
      rintro e w3 ⟨rfl, o3⟩
      have Hc : Hid (_) := o3.below Hb.out (by simp) Hb.out.size
      clear o3 qs
      go_wp2_with fail
      go_ret
      exact ⟨rfl, Hc.out⟩
set_option maxRecDepth 100000 in
set_option maxHeartbeats 2000000 in
theorem vplays_out (a0 : Int) (a : Option Addr) (len cap : Nat) (w : World) (h : a0 < 1 ∨ 8 < a0) :
    Calls Try.prog 3 #[.int .i64 a0, .slice a len cap] w fun e w' => e = .returned (.bool true) ∧ Below w.heap.size w w' := by
  have hh : Hid (a0 < 1 ∨ 8 < a0) := h
  clear h
  go_enter Try.func3, Try.ntmps3
  go_wp2_with fail
  refine (awake11 w).mono ?_
  rintro e w1 ⟨rfl, b1⟩
  have B1 : Hid (_) := b1
  clear b1
  go_wp2_with fail
  refine (vnew_no a0 w1 hh.out).mono ?_
  rintro e w2 ⟨rfl, hw⟩
  rw [hw]; clear hw
  by_cases c1 : a0 < 1
  · go_wp2_with fail
    go_ret
    exact ⟨rfl, B1.out⟩
  · have c2 : 8 < a0 := by have := hh.out; omega
    go_wp2_with fail
    go_ret
    exact ⟨rfl, B1.out⟩
theorem passivePlays_walk (a0 : Int) (a1 : Option Addr) (len1 cap1 : Nat) (w : World) (_w0 : (Lit.int .i64 a0).wf = true) (w1 : OpRow w a1 len1) :
    Calls Try.prog 3 #[.int .i64 a0, .slice a1 len1 cap1] w fun e w' => e = .returned (.bool true) ∧ Below w.heap.size w w' := by
  by_cases h : a0 < 1 ∨ 8 < a0
  · exact vplays_out a0 a1 len1 cap1 w h
  · have e0 : a0 = ((a0.toNat : Nat) : Int) := by omega
    rw [e0]
    exact vplays_in _ a1 len1 cap1 w (by omega) (by omega) w1

end Go.Proofs.Ytjdedopijplblaa
