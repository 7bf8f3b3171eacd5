/- Part 20 of the texts on which the proof rests: contracts of Go functions. -/
import Derived.Test.YthlgahkoignnkaaPkG16
import Derived.Test.YthlgahkoignnkaaPkG18
namespace Go.Proofs.Ythlgahkoignnkaa
open Go.RowKit Go.Maps Go.Sort
set_option maxRecDepth 100000
def kpF (F : Nat → Fa) (fc : Int) (fss : Nat) (j : Nat) : Bool := !(decide ((F j).c = fc) && decide ((F j).s = 1) && decide ((F j).ss = fss))
def kps (F : Nat → Fa) (fc : Int) (fss : Nat) (m : Nat) : List Nat := (List.range m).filter (kpF F fc fss)
theorem kps_in {F : Nat → Fa} {fc : Int} {fss j : Nat} (h : kpF F fc fss j = true) : kps F fc fss (j + 1) = kps F fc fss j ++ [j] := by
  unfold kps
  rw [List.range_succ, List.filter_append]
  simp [h]
theorem kps_out {F : Nat → Fa} {fc : Int} {fss j : Nat} (h : kpF F fc fss j = false) : kps F fc fss (j + 1) = kps F fc fss j := by
  unfold kps
  rw [List.range_succ, List.filter_append]
  simp [h]
theorem kps_len (F : Nat → Fa) (fc : Int) (fss : Nat) (m : Nat) : (kps F fc fss m).length ≤ m := by
  unfold kps
  have := List.length_filter_le (kpF F fc fss) (List.range m)
  simpa using this
theorem frz_below {w w' : World} {g k : Nat} (h : w.frozen? ⟨g, k, none⟩ = false) (hg : g < w.heap.size) (b : Below w.heap.size w w') : w'.frozen? ⟨g, k, none⟩ = false := by
  have hb := b.block g hg
  unfold World.frozen? at h ⊢
  rw [hb]
  exact h
theorem own_baseR {w : World} {B B' e sz n : Nat} {v : Value} {xs : List Value} (h : w.ownsRow B e sz v n xs) (hB : B' ≤ B) : w.ownsRow B' e sz v n xs := by
  refine ⟨h.1, ?_⟩
  rcases h.2 with hn | ⟨g, cap, cur, rfl, hg, rest⟩
  · exact .inl hn
  · exact .inr ⟨g, cap, cur, rfl, Nat.le_trans hB hg, rest⟩
set_option maxHeartbeats 2000000 in
theorem rbegin (p gs sc k i : Nat) (sa : Option Addr) (m sx : Nat) (F : Nat → Fa) (A : Nat → Option Addr) (C : Nat → Nat) (fk : Int) (fs : Int) (fss fnn : Nat) (fon : Bool) (fcd : Int) (fn : Nat) (a : Option Addr) (cap : Nat) (w : World) (ses : Nat) (j1 : w.cell? ⟨p, 1, none⟩ = some (.slice (some ⟨gs, 0, none⟩) k sc)) (s0 : w.cell? ⟨gs, i, none⟩ = some (.int .u32 (ses : Nat))) (hi : i < k) (j2 : w.cell? ⟨p, 2, none⟩ = some (.slice sa m sx)) (fz2 : w.frozen? ⟨p, 2, none⟩ = false) (fzg : w.frozen? ⟨gs, i, none⟩ = false) (hpg : p ≠ gs) (hA : ∀ j, j < m → ∃ q off, sa = some ⟨q, off, none⟩ ∧ ∀ t u, (faL (F j) (A j) (C j))[t]? = some u → w.cell? ⟨q, off + j * 8 + t, none⟩ = some u) (hm : m ≤ 100000) :
    Calls Try.prog 36 #[.pointer (some ⟨p, 0, none⟩), .agg #[.int .i64 fk, .int .i64 ((i : Nat) : Int), .int .i64 fs, .int .u32 (fss : Nat), .int .u32 (fnn : Nat), .bool fon, .int .i64 fcd, .slice a fn cap]] w fun r w' => r = .returned (.tuple #[]) ∧ Hid (∃ w2 sa' sx', Below w.heap.size w w2 ∧ w2.ownsRow w.heap.size 43 8 (.slice sa' (kps F ((i : Nat) : Int) fss m).length sx') (kps F ((i : Nat) : Int) fss m).length (flL (kps F ((i : Nat) : Int) fss m) F A C) ∧ w' = ((w2.setCell ⟨p, 2, none⟩ (.slice sa' (kps F ((i : Nat) : Int) fss m).length sx')).setCell ⟨gs, i, none⟩ (.int .u32 (fss : Nat))).drew) := by
  have b1 : Below w.heap.size w (w.alloc (.cells #[.int .i64 fk, .int .i64 ((i : Nat) : Int), .int .i64 fs, .int .u32 (fss : Nat), .int .u32 (fnn : Nat), .bool fon, .int .i64 fcd, .slice a fn cap] 43)) := belowG (Below.refl _ _) _
  have e0 := heap_alloc_new w (.cells #[.int .i64 fk, .int .i64 ((i : Nat) : Int), .int .i64 fs, .int .u32 (fss : Nat), .int .u32 (fnn : Nat), .bool fon, .int .i64 fcd, .slice a fn cap] 43)
  obtain ⟨w1, hw1⟩ : ∃ x : World, w.alloc (.cells #[.int .i64 fk, .int .i64 ((i : Nat) : Int), .int .i64 fs, .int .u32 (fss : Nat), .int .u32 (fnn : Nat), .bool fon, .int .i64 fcd, .slice a fn cap] 43) = x := ⟨_, rfl⟩
  obtain ⟨B, hB⟩ : ∃ x, w.heap.size = x := ⟨_, rfl⟩
  rw [hw1] at b1 e0
  rw [hB] at e0
  go_enter Try.func36, Try.ntmps36
  go_wp2_with fail
  clear hw1
  have hz : ∀ wx, Below w1.heap.size w1 wx → wx.cell? ⟨B, 1, none⟩ = some (.int .i64 ((i : Nat) : Int)) ∧ wx.cell? ⟨B, 3, none⟩ = some (.int .u32 (fss : Nat)) := fun wx bx => ⟨cell_belowJ (cell_of_row w1 _ 1 _ _ _ e0) bx, cell_belowJ (cell_of_row w1 _ 3 _ _ _ e0) bx⟩
  have HB : Hid (Below w.heap.size w w1) := b1
  have HH : Hid (_) := And.intro j1 (And.intro s0 (And.intro j2 (And.intro fz2 (And.intro fzg hA))))
  have HS1 : Hid (w.heap.size = B) := hB
  clear b1 e0 j1 s0 j2 fz2 fzg hA hB
  go_loopw [4, 5, 6, 7, 8, 9, 10, 11, 12, 13, 14, 15, 16, 17, 18, 19, 20, 21, 22, 23, 24, 25, 26, 27, 28, 29, 30, 31, 32, 33, 34, 35, 36, 37, 38, 39, 40, 41, 42, 43] (fun v c _ _ _ _ _ _ _ _ _ _ _ _ _ _ _ _ _ _ _ _ _ _ _ _ _ _ _ _ _ _ _ _ _ _ _ _ _ _ wr => ∃ (j : Nat) (y : Option Addr) (yc : Nat), j ≤ m ∧ c = .int .i64 ((j : Nat) : Int) ∧ v = .slice y (kps F ((i : Nat) : Int) fss j).length yc ∧ Hid (Below w1.heap.size w1 wr ∧ wr.ownsRow w1.heap.size 43 8 (.slice y (kps F ((i : Nat) : Int) fss j).length yc) (kps F ((i : Nat) : Int) fss j).length (flL (kps F ((i : Nat) : Int) fss j) F A C))) (fun _ c _ _ _ _ _ _ _ _ _ _ _ _ _ _ _ _ _ _ _ _ _ _ _ _ _ _ _ _ _ _ _ _ _ _ _ _ _ _ _ => m - natG c)
  case atStart => exact ⟨0, none, 0, by omega, rfl, rfl, Below.refl _ _, ⟨rfl, .inl ⟨rfl, rfl⟩⟩⟩
  case round =>
    obtain ⟨j, y, yc, hj, rfl, rfl, HI⟩ := hrel
    have bw := HB.out.trans (HI.out.1.mono HB.out.size)
    have p2 := cell_belowJ HH.out.2.2.1 bw
    by_cases hlt : j < m
    · have hlt' : ((j : Nat) : Int) < ((m : Nat) : Int) := by omega
      obtain ⟨q, off, rfl, hc⟩ := HH.out.2.2.2.2.2 j hlt
      have t0 : wr.cell? ⟨q, off + j * 8, none⟩ = some (.int .i64 (F j).k) := cell_belowJ (hc 0 _ rfl) bw
      have t1 := cell_belowJ (hc 1 _ rfl) bw
      have t2 := cell_belowJ (hc 2 _ rfl) bw
      have t3 := cell_belowJ (hc 3 _ rfl) bw
      have t4 := cell_belowJ (hc 4 _ rfl) bw
      have t5 := cell_belowJ (hc 5 _ rfl) bw
      have t6 := cell_belowJ (hc 6 _ rfl) bw
      have t7 := cell_belowJ (hc 7 _ rfl) bw
      have y1 : ∀ ob, (wr.alloc ob).cell? ⟨B, 1, none⟩ = some (.int .i64 ((i : Nat) : Int)) := fun ob => (hz _ (belowG HI.out.1 ob)).1
      have y3 : ∀ ob, (wr.alloc ob).cell? ⟨B, 3, none⟩ = some (.int .u32 (fss : Nat)) := fun ob => (hz _ (belowG HI.out.1 ob)).2
      have hlen := kps_len F ((i : Nat) : Int) fss j
      have hsm : j ≤ 100000 := by omega
      clear hc bw HH HB hz HS1
      by_cases hc1 : (F j).c = ((i : Nat) : Int)
      · skip
        have gc : ((F j).c == ((i : Nat) : Int)) = true := by simp only [beq_iff_eq]; omega
        have gcn : ((F j).c != ((i : Nat) : Int)) = false := by simp only [bne_eq_false_iff_eq]; omega
        by_cases hc2 : (F j).s = 1
        · skip
          have gsd : ((F j).s == 1) = true := by simp only [beq_iff_eq]; omega
          have gsdn : ((F j).s != 1) = false := by simp only [bne_eq_false_iff_eq]; omega
          by_cases hc3 : (F j).ss = fss
          · have HK : kpF F ((i : Nat) : Int) fss j = false := by unfold kpF; simp [hc1, hc2, hc3]
            have gu : ((((F j).ss : Nat) : Int) == ((fss : Nat) : Int)) = true := by simp only [beq_iff_eq]; omega
            have gun : ((((F j).ss : Nat) : Int) != ((fss : Nat) : Int)) = false := by simp only [bne_eq_false_iff_eq]; omega
            have gun : ((F j).ss == fss) = true := by simp only [beq_iff_eq]; omega
            have gunn : ((F j).ss != fss) = false := by simp only [bne_eq_false_iff_eq]; omega
            clear hc1 hc2 hc3
            have hk := kps_out HK
            have HN : Hid (_) := HI.out
            rw [← hk] at HN
            have HK2 : Hid (kps F ((i : Nat) : Int) fss (j + 1) = kps F ((i : Nat) : Int) fss j) := hk
            clear hk HK HI
            go_wp2_with fail
            go_roundw
            case rel => exact ⟨j + 1, _, _, by omega, by go_num, by rw [HK2.out], belowG HN.out.1 _, own_belowP HN.out.2 (belowG (Below.refl _ _) _)⟩
            case measure => simp [natG] <;> omega
          · have HK : kpF F ((i : Nat) : Int) fss j = true := by unfold kpF; simp [hc3]
            have gu : ((((F j).ss : Nat) : Int) == ((fss : Nat) : Int)) = false := by simp only [beq_eq_false_iff_ne, ne_eq]; omega
            have gun : ((((F j).ss : Nat) : Int) != ((fss : Nat) : Int)) = true := by simp only [bne_iff_ne, ne_eq]; omega
            have gun : ((F j).ss == fss) = false := by simp only [beq_eq_false_iff_ne, ne_eq]; omega
            have gunn : ((F j).ss != fss) = true := by simp only [bne_iff_ne, ne_eq]; omega
            clear hc1 hc2 hc3
            have hk : Hid (kps F ((i : Nat) : Int) fss (j + 1) = kps F ((i : Nat) : Int) fss j ++ [j]) := kps_in HK
            clear HK
            obtain ⟨i0, hI, hz0, hz1, hz2⟩ := info_parts info_fact
            obtain ⟨KL, hKL⟩ : ∃ n, (kps F ((i : Nat) : Int) fss j).length = n := ⟨_, rfl⟩
            have HKL : Hid ((kps F ((i : Nat) : Int) fss j).length = KL) := hKL
            have HI2 : Hid (Below w1.heap.size w1 wr ∧ wr.ownsRow w1.heap.size 43 8 (.slice y KL yc) KL (flL (kps F ((i : Nat) : Int) fss j) F A C)) := by rw [← hKL]; exact HI.out
            rw [hKL] at hlen ⊢
            clear HI hKL
            have b2 : Below wr.heap.size wr ((wr.alloc (.cells #[.int .i64 (F j).k, .int .i64 (F j).c, .int .i64 (F j).s, .int .u32 ((F j).ss : Nat), .int .u32 ((F j).nn : Nat), .bool (F j).on, .int .i64 (F j).cd, .slice (A j) (F j).n (C j)] 43)).alloc (.cells #[.int .i64 (F j).k, .int .i64 (F j).c, .int .i64 (F j).s, .int .u32 ((F j).ss : Nat), .int .u32 ((F j).nn : Nat), .bool (F j).on, .int .i64 (F j).cd, .slice (A j) (F j).n (C j)] 43)) := belowG (belowG (Below.refl _ _) _) _
            have ow := own_belowP HI2.out.2 b2
            have e2 := heap_alloc_new (wr.alloc (.cells #[.int .i64 (F j).k, .int .i64 (F j).c, .int .i64 (F j).s, .int .u32 ((F j).ss : Nat), .int .u32 ((F j).nn : Nat), .bool (F j).on, .int .i64 (F j).cd, .slice (A j) (F j).n (C j)] 43)) (.cells #[.int .i64 (F j).k, .int .i64 (F j).c, .int .i64 (F j).s, .int .u32 ((F j).ss : Nat), .int .u32 ((F j).nn : Nat), .bool (F j).on, .int .i64 (F j).cd, .slice (A j) (F j).n (C j)] 43)
            rw [World.size_alloc] at e2
            have hcl : ∀ t u, (faL (F j) (A j) (C j))[t]? = some u → ((wr.alloc (.cells #[.int .i64 (F j).k, .int .i64 (F j).c, .int .i64 (F j).s, .int .u32 ((F j).ss : Nat), .int .u32 ((F j).nn : Nat), .bool (F j).on, .int .i64 (F j).cd, .slice (A j) (F j).n (C j)] 43)).alloc (.cells #[.int .i64 (F j).k, .int .i64 (F j).c, .int .i64 (F j).s, .int .u32 ((F j).ss : Nat), .int .u32 ((F j).nn : Nat), .bool (F j).on, .int .i64 (F j).cd, .slice (A j) (F j).n (C j)] 43)).cell? ((⟨wr.heap.size + 1, 0, none⟩ : Addr).add t) = some u := fun t u hu => by
              have e : (Addr.add ⟨wr.heap.size + 1, 0, none⟩ t) = ⟨wr.heap.size + 1, t, none⟩ := by unfold Addr.add; simp; omega
              rw [e, cell_of_row _ _ t _ _ _ e2]
              simpa [faL] using hu
            have hbs : w1.heap.size ≤ ((wr.alloc (.cells #[.int .i64 (F j).k, .int .i64 (F j).c, .int .i64 (F j).s, .int .u32 ((F j).ss : Nat), .int .u32 ((F j).nn : Nat), .bool (F j).on, .int .i64 (F j).cd, .slice (A j) (F j).n (C j)] 43)).alloc (.cells #[.int .i64 (F j).k, .int .i64 (F j).c, .int .i64 (F j).s, .int .u32 ((F j).ss : Nat), .int .u32 ((F j).nn : Nat), .bool (F j).on, .int .i64 (F j).cd, .slice (A j) (F j).n (C j)] 43)).heap.size := by have := HI2.out.1.size; simp; omega
            clear e2 b2
            go_wp2_with (at_builtin; refine wpList_append_own_at _ rfl (.tmp 40) (.tmp 42) 26 rfl w1.heap.size 43 i0 (.agg #[.int .i64 0, .int .i64 0, .int .i64 0, .int .u32 0, .int .u32 0, .bool false, .int .i64 0, .slice none 0 0]) 8 72 Try.underlying26 hI hz0 hz1 hz2 rfl (by decide) (.slice y KL yc) KL (flL (kps F ((i : Nat) : Int) fss j) F A C) rfl ow ⟨wr.heap.size + 1, 0, none⟩ 1 1 (faL (F j) (A j) (C j)) rfl rfl hcl (faL_one _ _ _) (by unfold maxLen; omega) (by omega) hbs ?_)
            intro v2 w2 O2 G2 _ _
            obtain ⟨x6, c6, rfl, _⟩ := own_slcP O2
            rw [← flL_snoc, ← hk.out] at O2
            have BN : Hid (Below w1.heap.size w1 w2) := (belowG (belowG HI2.out.1 _) _).grown G2 hbs (fun q hq => (ow.lt q hq).1)
            have hl : (kps F ((i : Nat) : Int) fss (j + 1)).length = KL + 1 := by rw [hk.out, List.length_append, HKL.out]; rfl
            have HN : Hid (Below w1.heap.size w1 w2 ∧ w2.ownsRow w1.heap.size 43 8 (.slice (some ⟨x6, 0, none⟩) (kps F ((i : Nat) : Int) fss (j + 1)).length c6) (kps F ((i : Nat) : Int) fss (j + 1)).length (flL (kps F ((i : Nat) : Int) fss (j + 1)) F A C)) := by rw [hl]; exact ⟨BN.out, O2⟩
            have HLN : Hid ((kps F ((i : Nat) : Int) fss (j + 1)).length = KL + 1) := hl
            clear hl O2 G2 ow hcl hbs hI hz0 hz1 hz2 HI2 BN
            go_wp2_with fail
            go_roundw
            case rel => exact ⟨j + 1, _, _, by omega, by go_num, by rw [HLN.out], HN⟩
            case measure => simp [natG] <;> omega
        · have HK : kpF F ((i : Nat) : Int) fss j = true := by unfold kpF; simp [hc2]
          have gsd : ((F j).s == 1) = false := by simp only [beq_eq_false_iff_ne, ne_eq]; omega
          have gsdn : ((F j).s != 1) = true := by simp only [bne_iff_ne, ne_eq]; omega
          clear hc1 hc2
          have hk : Hid (kps F ((i : Nat) : Int) fss (j + 1) = kps F ((i : Nat) : Int) fss j ++ [j]) := kps_in HK
          clear HK
          obtain ⟨i0, hI, hz0, hz1, hz2⟩ := info_parts info_fact
          obtain ⟨KL, hKL⟩ : ∃ n, (kps F ((i : Nat) : Int) fss j).length = n := ⟨_, rfl⟩
          have HKL : Hid ((kps F ((i : Nat) : Int) fss j).length = KL) := hKL
          have HI2 : Hid (Below w1.heap.size w1 wr ∧ wr.ownsRow w1.heap.size 43 8 (.slice y KL yc) KL (flL (kps F ((i : Nat) : Int) fss j) F A C)) := by rw [← hKL]; exact HI.out
          rw [hKL] at hlen ⊢
          clear HI hKL
          have b2 : Below wr.heap.size wr ((wr.alloc (.cells #[.int .i64 (F j).k, .int .i64 (F j).c, .int .i64 (F j).s, .int .u32 ((F j).ss : Nat), .int .u32 ((F j).nn : Nat), .bool (F j).on, .int .i64 (F j).cd, .slice (A j) (F j).n (C j)] 43)).alloc (.cells #[.int .i64 (F j).k, .int .i64 (F j).c, .int .i64 (F j).s, .int .u32 ((F j).ss : Nat), .int .u32 ((F j).nn : Nat), .bool (F j).on, .int .i64 (F j).cd, .slice (A j) (F j).n (C j)] 43)) := belowG (belowG (Below.refl _ _) _) _
          have ow := own_belowP HI2.out.2 b2
          have e2 := heap_alloc_new (wr.alloc (.cells #[.int .i64 (F j).k, .int .i64 (F j).c, .int .i64 (F j).s, .int .u32 ((F j).ss : Nat), .int .u32 ((F j).nn : Nat), .bool (F j).on, .int .i64 (F j).cd, .slice (A j) (F j).n (C j)] 43)) (.cells #[.int .i64 (F j).k, .int .i64 (F j).c, .int .i64 (F j).s, .int .u32 ((F j).ss : Nat), .int .u32 ((F j).nn : Nat), .bool (F j).on, .int .i64 (F j).cd, .slice (A j) (F j).n (C j)] 43)
          rw [World.size_alloc] at e2
          have hcl : ∀ t u, (faL (F j) (A j) (C j))[t]? = some u → ((wr.alloc (.cells #[.int .i64 (F j).k, .int .i64 (F j).c, .int .i64 (F j).s, .int .u32 ((F j).ss : Nat), .int .u32 ((F j).nn : Nat), .bool (F j).on, .int .i64 (F j).cd, .slice (A j) (F j).n (C j)] 43)).alloc (.cells #[.int .i64 (F j).k, .int .i64 (F j).c, .int .i64 (F j).s, .int .u32 ((F j).ss : Nat), .int .u32 ((F j).nn : Nat), .bool (F j).on, .int .i64 (F j).cd, .slice (A j) (F j).n (C j)] 43)).cell? ((⟨wr.heap.size + 1, 0, none⟩ : Addr).add t) = some u := fun t u hu => by
            have e : (Addr.add ⟨wr.heap.size + 1, 0, none⟩ t) = ⟨wr.heap.size + 1, t, none⟩ := by unfold Addr.add; simp; omega
            rw [e, cell_of_row _ _ t _ _ _ e2]
            simpa [faL] using hu
          have hbs : w1.heap.size ≤ ((wr.alloc (.cells #[.int .i64 (F j).k, .int .i64 (F j).c, .int .i64 (F j).s, .int .u32 ((F j).ss : Nat), .int .u32 ((F j).nn : Nat), .bool (F j).on, .int .i64 (F j).cd, .slice (A j) (F j).n (C j)] 43)).alloc (.cells #[.int .i64 (F j).k, .int .i64 (F j).c, .int .i64 (F j).s, .int .u32 ((F j).ss : Nat), .int .u32 ((F j).nn : Nat), .bool (F j).on, .int .i64 (F j).cd, .slice (A j) (F j).n (C j)] 43)).heap.size := by have := HI2.out.1.size; simp; omega
          clear e2 b2
          go_wp2_with (at_builtin; refine wpList_append_own_at _ rfl (.tmp 40) (.tmp 42) 26 rfl w1.heap.size 43 i0 (.agg #[.int .i64 0, .int .i64 0, .int .i64 0, .int .u32 0, .int .u32 0, .bool false, .int .i64 0, .slice none 0 0]) 8 72 Try.underlying26 hI hz0 hz1 hz2 rfl (by decide) (.slice y KL yc) KL (flL (kps F ((i : Nat) : Int) fss j) F A C) rfl ow ⟨wr.heap.size + 1, 0, none⟩ 1 1 (faL (F j) (A j) (C j)) rfl rfl hcl (faL_one _ _ _) (by unfold maxLen; omega) (by omega) hbs ?_)
          intro v2 w2 O2 G2 _ _
          obtain ⟨x6, c6, rfl, _⟩ := own_slcP O2
          rw [← flL_snoc, ← hk.out] at O2
          have BN : Hid (Below w1.heap.size w1 w2) := (belowG (belowG HI2.out.1 _) _).grown G2 hbs (fun q hq => (ow.lt q hq).1)
          have hl : (kps F ((i : Nat) : Int) fss (j + 1)).length = KL + 1 := by rw [hk.out, List.length_append, HKL.out]; rfl
          have HN : Hid (Below w1.heap.size w1 w2 ∧ w2.ownsRow w1.heap.size 43 8 (.slice (some ⟨x6, 0, none⟩) (kps F ((i : Nat) : Int) fss (j + 1)).length c6) (kps F ((i : Nat) : Int) fss (j + 1)).length (flL (kps F ((i : Nat) : Int) fss (j + 1)) F A C)) := by rw [hl]; exact ⟨BN.out, O2⟩
          have HLN : Hid ((kps F ((i : Nat) : Int) fss (j + 1)).length = KL + 1) := hl
          clear hl O2 G2 ow hcl hbs hI hz0 hz1 hz2 HI2 BN
          go_wp2_with fail
          go_roundw
          case rel => exact ⟨j + 1, _, _, by omega, by go_num, by rw [HLN.out], HN⟩
          case measure => simp [natG] <;> omega
      · have HK : kpF F ((i : Nat) : Int) fss j = true := by unfold kpF; simp [hc1]
        have gc : ((F j).c == ((i : Nat) : Int)) = false := by simp only [beq_eq_false_iff_ne, ne_eq]; omega
        have gcn : ((F j).c != ((i : Nat) : Int)) = true := by simp only [bne_iff_ne, ne_eq]; omega
        clear hc1
        have hk : Hid (kps F ((i : Nat) : Int) fss (j + 1) = kps F ((i : Nat) : Int) fss j ++ [j]) := kps_in HK
        clear HK
        obtain ⟨i0, hI, hz0, hz1, hz2⟩ := info_parts info_fact
        obtain ⟨KL, hKL⟩ : ∃ n, (kps F ((i : Nat) : Int) fss j).length = n := ⟨_, rfl⟩
        have HKL : Hid ((kps F ((i : Nat) : Int) fss j).length = KL) := hKL
        have HI2 : Hid (Below w1.heap.size w1 wr ∧ wr.ownsRow w1.heap.size 43 8 (.slice y KL yc) KL (flL (kps F ((i : Nat) : Int) fss j) F A C)) := by rw [← hKL]; exact HI.out
        rw [hKL] at hlen ⊢
        clear HI hKL
        have b2 : Below wr.heap.size wr ((wr.alloc (.cells #[.int .i64 (F j).k, .int .i64 (F j).c, .int .i64 (F j).s, .int .u32 ((F j).ss : Nat), .int .u32 ((F j).nn : Nat), .bool (F j).on, .int .i64 (F j).cd, .slice (A j) (F j).n (C j)] 43)).alloc (.cells #[.int .i64 (F j).k, .int .i64 (F j).c, .int .i64 (F j).s, .int .u32 ((F j).ss : Nat), .int .u32 ((F j).nn : Nat), .bool (F j).on, .int .i64 (F j).cd, .slice (A j) (F j).n (C j)] 43)) := belowG (belowG (Below.refl _ _) _) _
        have ow := own_belowP HI2.out.2 b2
        have e2 := heap_alloc_new (wr.alloc (.cells #[.int .i64 (F j).k, .int .i64 (F j).c, .int .i64 (F j).s, .int .u32 ((F j).ss : Nat), .int .u32 ((F j).nn : Nat), .bool (F j).on, .int .i64 (F j).cd, .slice (A j) (F j).n (C j)] 43)) (.cells #[.int .i64 (F j).k, .int .i64 (F j).c, .int .i64 (F j).s, .int .u32 ((F j).ss : Nat), .int .u32 ((F j).nn : Nat), .bool (F j).on, .int .i64 (F j).cd, .slice (A j) (F j).n (C j)] 43)
        rw [World.size_alloc] at e2
        have hcl : ∀ t u, (faL (F j) (A j) (C j))[t]? = some u → ((wr.alloc (.cells #[.int .i64 (F j).k, .int .i64 (F j).c, .int .i64 (F j).s, .int .u32 ((F j).ss : Nat), .int .u32 ((F j).nn : Nat), .bool (F j).on, .int .i64 (F j).cd, .slice (A j) (F j).n (C j)] 43)).alloc (.cells #[.int .i64 (F j).k, .int .i64 (F j).c, .int .i64 (F j).s, .int .u32 ((F j).ss : Nat), .int .u32 ((F j).nn : Nat), .bool (F j).on, .int .i64 (F j).cd, .slice (A j) (F j).n (C j)] 43)).cell? ((⟨wr.heap.size + 1, 0, none⟩ : Addr).add t) = some u := fun t u hu => by
          have e : (Addr.add ⟨wr.heap.size + 1, 0, none⟩ t) = ⟨wr.heap.size + 1, t, none⟩ := by unfold Addr.add; simp; omega
          rw [e, cell_of_row _ _ t _ _ _ e2]
          simpa [faL] using hu
        have hbs : w1.heap.size ≤ ((wr.alloc (.cells #[.int .i64 (F j).k, .int .i64 (F j).c, .int .i64 (F j).s, .int .u32 ((F j).ss : Nat), .int .u32 ((F j).nn : Nat), .bool (F j).on, .int .i64 (F j).cd, .slice (A j) (F j).n (C j)] 43)).alloc (.cells #[.int .i64 (F j).k, .int .i64 (F j).c, .int .i64 (F j).s, .int .u32 ((F j).ss : Nat), .int .u32 ((F j).nn : Nat), .bool (F j).on, .int .i64 (F j).cd, .slice (A j) (F j).n (C j)] 43)).heap.size := by have := HI2.out.1.size; simp; omega
        clear e2 b2
        go_wp2_with (at_builtin; refine wpList_append_own_at _ rfl (.tmp 40) (.tmp 42) 26 rfl w1.heap.size 43 i0 (.agg #[.int .i64 0, .int .i64 0, .int .i64 0, .int .u32 0, .int .u32 0, .bool false, .int .i64 0, .slice none 0 0]) 8 72 Try.underlying26 hI hz0 hz1 hz2 rfl (by decide) (.slice y KL yc) KL (flL (kps F ((i : Nat) : Int) fss j) F A C) rfl ow ⟨wr.heap.size + 1, 0, none⟩ 1 1 (faL (F j) (A j) (C j)) rfl rfl hcl (faL_one _ _ _) (by unfold maxLen; omega) (by omega) hbs ?_)
        intro v2 w2 O2 G2 _ _
        obtain ⟨x6, c6, rfl, _⟩ := own_slcP O2
        rw [← flL_snoc, ← hk.out] at O2
        have BN : Hid (Below w1.heap.size w1 w2) := (belowG (belowG HI2.out.1 _) _).grown G2 hbs (fun q hq => (ow.lt q hq).1)
        have hl : (kps F ((i : Nat) : Int) fss (j + 1)).length = KL + 1 := by rw [hk.out, List.length_append, HKL.out]; rfl
        have HN : Hid (Below w1.heap.size w1 w2 ∧ w2.ownsRow w1.heap.size 43 8 (.slice (some ⟨x6, 0, none⟩) (kps F ((i : Nat) : Int) fss (j + 1)).length c6) (kps F ((i : Nat) : Int) fss (j + 1)).length (flL (kps F ((i : Nat) : Int) fss (j + 1)) F A C)) := by rw [hl]; exact ⟨BN.out, O2⟩
        have HLN : Hid ((kps F ((i : Nat) : Int) fss (j + 1)).length = KL + 1) := hl
        clear hl O2 G2 ow hcl hbs hI hz0 hz1 hz2 HI2 BN
        go_wp2_with fail
        go_roundw
        case rel => exact ⟨j + 1, _, _, by omega, by go_num, by rw [HLN.out], HN⟩
        case measure => simp [natG] <;> omega
    · obtain rfl : j = m := by omega
      have hlt' : ¬ ((j : Nat) : Int) < ((j : Nat) : Int) := by omega
      have p1 := cell_belowJ HH.out.1 bw
      have ps := cell_belowJ HH.out.2.1 bw
      obtain ⟨y1, y3⟩ := hz _ HI.out.1
      have f2 : wr.frozen? ⟨p, 2, none⟩ = false := frz_below HH.out.2.2.2.1 (World.block_lt_of_cell? w _ HH.out.2.2.1) bw
      have fg : wr.frozen? ⟨gs, i, none⟩ = false := frz_below HH.out.2.2.2.2.1 (World.block_lt_of_cell? w _ HH.out.2.1) bw
      have hi1 : ((i : Nat) : Int) < ((k : Nat) : Int) := by omega
      have hne1 : ¬ gs = p := fun e => hpg e.symm
      have hne2 : ¬ p = B := by have h : p < w.heap.size := World.block_lt_of_cell? w _ HH.out.1; have := HS1.out; omega
      have hne3 : ¬ gs = B := by have h : gs < w.heap.size := World.block_lt_of_cell? w _ HH.out.2.1; have := HS1.out; omega
      have ho : Hid (wr.ownsRow w.heap.size 43 8 (.slice y (kps F ((i : Nat) : Int) fss j).length yc) (kps F ((i : Nat) : Int) fss j).length (flL (kps F ((i : Nat) : Int) fss j) F A C)) := own_baseR HI.out.2 HB.out.size
      have HBW : Hid (_) := bw
      clear HH hz HS1 HB HI bw
      go_wp2_with fail
      go_region
      all_goals
        go_wp2_with fail
        go_end0
        exact ⟨rfl, wr, y, yc, HBW.out, ho.out, rfl⟩
end Go.Proofs.Ythlgahkoignnkaa
