/- Layer 5: every call over two meters, in any order. -/
import Derived.Test.YtejjhenkhleibaaMstep5
import Derived.Test.YtejjhenkhleibaaOpArg
namespace Go.Proofs.Ytejjhenkhleibaa
open Go.RowKit

theorem step_any (M b v : Nat) (k wh : Int) (a b' : Nat) (i j s n : Int) (w : World) (h : SyE M w b v) (ha : a < 18446744073709551616) (hb : b' < 18446744073709551616) :
    Calls Try.prog 11 #[.pointer (some ⟨b, 0, none⟩), .pointer (some ⟨v, 0, none⟩), .agg (opV k wh a b' i j s n)] w fun e w' => e = .returned (.bool true) ∧ Stepped M w b v w' := by
  by_cases h1 : k = 1
  · subst h1; exact step_add M b v wh b' i j s n a w h ha
  by_cases h2 : k = 2
  · subst h2; exact step_swap M b v wh b' i j s n a w h ha
  by_cases h3 : k = 3
  · subst h3; exact step_move M b v wh i j s n a b' w h hb
  by_cases h4 : k = 4
  · subst h4; exact step_raise M b v wh b' i j s n a w h
  by_cases h5 : k = 5
  · subst h5; exact step_set M b v wh b' i j s n a w h
  by_cases h6 : k = 6
  · subst h6; exact step_clear M b v wh b' i j s n a w h
  by_cases h7 : k = 7
  · subst h7; exact step_turn M b v wh b' i j s n a w h
  by_cases h8 : k = 8
  · subst h8; exact step_note M b v wh a b' i j s n w h
  exact step_none M b v k wh a b' i j s n w h h1 h2 h3 h4 h5 h6 h7 h8
theorem shows_E (M b v : Nat) (w : World) (h : SyE M w b v) :
    Calls Try.prog 10 #[.pointer (some ⟨b, 0, none⟩), .pointer (some ⟨v, 0, none⟩)] w fun e w' => e = .returned (.bool true) ∧ Below w.heap.size w w' := by
  obtain ⟨t, p, r, q, f, o, c, h⟩ := h
  exact shows_any M b v t p r q f o c w h
theorem SyE.below {M : Nat} {w w' : World} {b v : Nat} (h : SyE M w b v) (k : Below w.heap.size w w') : SyE M w' b v := h.off (Off.of_below (l := []) k) (by simp) (by simp) (by simp)
abbrev RZ : Obj := .cells #[.int .u64 0, .int .i64 0, .bool false, .int .u32 0, .bool false, .int .i64 0, .int .i64 0, .int .u32 0, .int .u32 0, .bool false] 33
abbrev MZ : Obj := .cells (MC 0 none 0 0 none) 76
theorem start_two (w : World) : SyE (w.heap.size + 4) ((((w.alloc MZ).alloc MZ).alloc RZ).alloc RZ) w.heap.size (w.heap.size + 2) ∧ SyE (w.heap.size + 4) ((((w.alloc MZ).alloc MZ).alloc RZ).alloc RZ) (w.heap.size + 1) (w.heap.size + 3) := by
  have s1 : (w.alloc MZ).heap.size = w.heap.size + 1 := by simp
  have s2 : ((w.alloc MZ).alloc MZ).heap.size = w.heap.size + 2 := by simp
  have s3 : (((w.alloc MZ).alloc MZ).alloc RZ).heap.size = w.heap.size + 3 := by simp
  have s4 : ((((w.alloc MZ).alloc MZ).alloc RZ).alloc RZ).heap.size = w.heap.size + 4 := by simp
  have h0 : ((((w.alloc MZ).alloc MZ).alloc RZ).alloc RZ).heap[w.heap.size]? = some MZ := by
    rw [heap_alloc_old _ _ (by omega), heap_alloc_old _ _ (by omega), heap_alloc_old _ _ (by omega), heap_alloc_new]
  have h1 : ((((w.alloc MZ).alloc MZ).alloc RZ).alloc RZ).heap[w.heap.size + 1]? = some MZ := by
    rw [heap_alloc_old _ _ (by omega), heap_alloc_old _ _ (by omega), ← s1, heap_alloc_new]
  have h2 : ((((w.alloc MZ).alloc MZ).alloc RZ).alloc RZ).heap[w.heap.size + 2]? = some RZ := by
    rw [heap_alloc_old _ _ (by omega), ← s2, heap_alloc_new]
  have h3 : ((((w.alloc MZ).alloc MZ).alloc RZ).alloc RZ).heap[w.heap.size + 3]? = some RZ := by
    rw [← s3, heap_alloc_new]
  exact ⟨⟨0, none, none, none, 0, 0, none, ⟨h0⟩, .none, .none, ⟨h2⟩, by omega, by omega, by omega, by omega, by omega⟩, ⟨0, none, none, none, 0, 0, none, ⟨h1⟩, .none, .none, ⟨h3⟩, by omega, by omega, by omega, by omega, by omega⟩⟩
set_option maxHeartbeats 2000000 in
theorem plays_any (a : Option Addr) (len cap : Nat) (w : World) (hr : OpRow w a len) :
    Calls Try.prog 3 #[.slice a len cap] w fun e w' => e = .returned (.bool true) ∧ Below w.heap.size w w' := by
  have haw := awake5 w
  have hlen := hr.1
  go_enter Try.func3, Try.ntmps3
  go_wp2_with fail
  refine haw.mono ?_
  rintro e w1 ⟨rfl, hb1⟩
  clear haw
  have hg := hb1.size
  obtain ⟨S1, S2⟩ := start_two w1
  have hb5 : Below w.heap.size w ((((w1.alloc MZ).alloc MZ).alloc RZ).alloc RZ) := (((hb1.alloc hg _).alloc (by simp; omega) _).alloc (by simp; omega) _).alloc (by simp; omega) _
  have n1 := new_any w1
  have n2 := new_any (w1.alloc MZ)
  have hsA : (w1.alloc MZ).heap.size = w1.heap.size + 1 := by simp
  rw [hsA] at n2
  go_wp2_with fail
  refine n1.mono ?_
  rintro e wA ⟨rfl, hwA⟩
  rw [← hwA] at n2 S1 S2 hb5 hsA
  clear hwA n1
  go_wp2_with fail
  refine n2.mono ?_
  rintro e wB ⟨rfl, hwB⟩
  rw [← hwB] at S1 S2 hb5
  have hsB : wB.heap.size = w1.heap.size + 2 := by rw [hwB]; simpa using hsA
  clear hwB n2
  generalize w1.heap.size = g at *
  go_wp2_with fail
  generalize (wB.alloc RZ).alloc RZ = w5 at *
  refine (shows_E (g + 4) g (g + 2) w5 S1).mono ?_
  rintro e w6 ⟨rfl, hb6⟩
  have R1 := S1.below hb6
  have R2 := S2.below hb6
  have hb7 := hb5.trans (hb6.mono hb5.size)
  clear S1 S2 hb6 hb5 hb1 hsA hsB
  go_wp2_with fail
  go_loopw [2, 7, 8] (fun _ c _ wr => ∃ k, k ≤ len ∧ c = .int .i64 ((k : Nat) : Int) ∧ SyE (g + 4) wr g (g + 2) ∧ SyE (g + 4) wr (g + 1) (g + 3) ∧ Below w.heap.size w wr) (fun _ c _ _ => len - (intOf c).toNat)
  case atStart => exact ⟨0, by omega, rfl, R1, R2, hb7⟩
  case round =>
    clear R1 R2 hb7
    obtain ⟨k, hk, rfl, B1, B2, B⟩ := hrel
    by_cases hlt : k < len
    · obtain ⟨b, off, rfl, hbw, hcells⟩ := hr.2 (by omega)
      obtain ⟨kk, wh, x, z, p, q, s, n, hxz, e0, e1, e2, e3, e4, e5, e6, e7⟩ := hcells k hlt
      have e0 := (B.cell (p := ⟨b, off + k * 8 + 0, none⟩) hbw).trans e0
      have e1 := (B.cell (p := ⟨b, off + k * 8 + 1, none⟩) hbw).trans e1
      have e2 := (B.cell (p := ⟨b, off + k * 8 + 2, none⟩) hbw).trans e2
      have e3 := (B.cell (p := ⟨b, off + k * 8 + 3, none⟩) hbw).trans e3
      have e4 := (B.cell (p := ⟨b, off + k * 8 + 4, none⟩) hbw).trans e4
      have e5 := (B.cell (p := ⟨b, off + k * 8 + 5, none⟩) hbw).trans e5
      have e6 := (B.cell (p := ⟨b, off + k * 8 + 6, none⟩) hbw).trans e6
      have e7 := (B.cell (p := ⟨b, off + k * 8 + 7, none⟩) hbw).trans e7
      simp only [Nat.add_zero] at e0
      clear hcells hr
      by_cases hpar : wh.tmod 2 = 0
      · go_wp2_with fail
        refine (step_any (g + 4) g (g + 2) kk wh x z p q s n wr B1 hxz.1 hxz.2).mono ?_
        rintro e w2 ⟨rfl, hst⟩
        have T1 := hst.2
        have T2 := B2.off hst.1 (by simp) (by simp) (by simp)
        have hb2 := hst.1.below B (by simp; omega) B.size
        clear hst B1 B2 B e0 e1 e2 e3 e4 e5 e6 e7
        go_wp2_with fail
        refine (shows_E (g + 4) g (g + 2) w2 T1).mono ?_
        rintro e w3 ⟨rfl, hb3⟩
        have U1 := T1.below hb3
        have U2 := T2.below hb3
        have hb4 := hb2.trans (hb3.mono hb2.size)
        clear T1 T2 hb3 hb2
        go_wp2_with fail
        refine (shows_E (g + 4) (g + 1) (g + 3) w3 U2).mono ?_
        rintro e w4 ⟨rfl, hb5⟩
        have V1 := U1.below hb5
        have V2 := U2.below hb5
        have hb6 := hb4.trans (hb5.mono hb4.size)
        clear U1 U2 hb5 hb4
        go_wp2_with fail
        go_roundw
        case rel => exact ⟨k + 1, by omega, by go_num, V1, V2, hb6⟩
        case measure => simp [intOf] <;> omega
      · go_wp2_with fail
        refine (step_any (g + 4) (g + 1) (g + 3) kk wh x z p q s n wr B2 hxz.1 hxz.2).mono ?_
        rintro e w2 ⟨rfl, hst⟩
        have T2 := hst.2
        have T1 := B1.off hst.1 (by simp) (by simp) (by simp)
        have hb2 := hst.1.below B (by simp; omega) B.size
        clear hst B1 B2 B e0 e1 e2 e3 e4 e5 e6 e7
        go_wp2_with fail
        refine (shows_E (g + 4) g (g + 2) w2 T1).mono ?_
        rintro e w3 ⟨rfl, hb3⟩
        have U1 := T1.below hb3
        have U2 := T2.below hb3
        have hb4 := hb2.trans (hb3.mono hb2.size)
        clear T1 T2 hb3 hb2
        go_wp2_with fail
        refine (shows_E (g + 4) (g + 1) (g + 3) w3 U2).mono ?_
        rintro e w4 ⟨rfl, hb5⟩
        have V1 := U1.below hb5
        have V2 := U2.below hb5
        have hb6 := hb4.trans (hb5.mono hb4.size)
        clear U1 U2 hb5 hb4
        go_wp2_with fail
        go_roundw
        case rel => exact ⟨k + 1, by omega, by go_num, V1, V2, hb6⟩
        case measure => simp [intOf] <;> omega
    · go_wp2_with fail
      go_ret
      exact ⟨rfl, B⟩
theorem meterPlays_walk (a0 : Option Addr) (len0 cap0 : Nat) (w : World) (w0 : OpRow w a0 len0) :
    Calls Try.prog 3 #[.slice a0 len0 cap0] w fun e w' => e = .returned (.bool true) ∧ Below w.heap.size w w' := plays_any a0 len0 cap0 w w0

end Go.Proofs.Ytejjhenkhleibaa
