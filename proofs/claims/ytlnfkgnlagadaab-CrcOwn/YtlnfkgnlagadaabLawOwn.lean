/- The walk of the statement CrcOwn. -/
import Derived.Test.YtlnfkgnlagadaabSliced
import Derived.Test.YtlnfkgnlagadaabLaw02
import Derived.Test.YtlnfkgnlagadaabApart3
namespace Go.Proofs.Ytlnfkgnlagadaab
open Go.RowKit
set_option maxHeartbeats 1000000 in
theorem crcOwn_long (a0 : Option Addr) (len0 cap0 : Nat) (w : World) (hl0 : len0 ≤ 9223372036854775807) (h : 4000 < len0) :
    Calls Try.prog 5 #[.slice a0 len0 cap0] w fun e w' => e = .returned (.bool true) ∧ Below w.heap.size w w' := by
  go_enter Try.func5, Try.ntmps5
  go_wp2_with (go_at_call 7; refine (awake2 _).mono ?_; rintro e w' ⟨rfl, hb⟩)
  go_ret
  exact ⟨rfl, hb⟩
theorem three {p : Nat → Prop} (h0 : p 0) (h1 : p 1) (h2 : p 2) : ∀ i, i < 3 → p i := fun i hi => by
  match i, hi with
  | 0, _ => exact h0
  | 1, _ => exact h1
  | 2, _ => exact h2
def tri (x y z i : Nat) : Nat := if i = 0 then x else if i = 1 then y else z
/-- Apart of three lists, the list of them made for it. -/
theorem apart_three (B : Nat) (w0 w : World) (gx gy gz nx ny nz cx cy cz : Nat) (curx cury curz : Array Value)
    (hx : w.heap[gx]? = some (.cells curx 5 (0, 0))) (hy : w.heap[gy]? = some (.cells cury 5 (0, 0))) (hz : w.heap[gz]? = some (.cells curz 5 (0, 0)))
    (sx : curx.size = cx) (sy : cury.size = cy) (sz : curz.size = cz) (lx : nx ≤ cx) (ly : ny ≤ cy) (lz : nz ≤ cz) (mx : nx ≤ 1000000) (my : ny ≤ 1000000) (mz : nz ≤ 1000000) (tx : cx ≤ maxLen) (ty : cy ≤ maxLen) (tz : cz ≤ maxLen)
    (dxy : gx ≠ gy) (dxz : gx ≠ gz) (dyz : gy ≠ gz) (bx : B ≤ gx) (hby : B ≤ gy) (bz : B ≤ gz) (hbel : Below B w0 w) (hB0 : B ≤ w0.heap.size) :
    Calls Try.prog 21 #[.slice (some ⟨w.heap.size, 0, none⟩) 3 3] (w.alloc (.cells #[.slice (some ⟨gx, 0, none⟩) nx cx, .slice (some ⟨gy, 0, none⟩) ny cy, .slice (some ⟨gz, 0, none⟩) nz cz] 22)) fun e w' => e = .returned (.bool true) ∧ Below B w0 w' := by
  have kx : gx < w.heap.size := (Array.getElem?_eq_some_iff.mp hx).1
  have ky : gy < w.heap.size := (Array.getElem?_eq_some_iff.mp hy).1
  have kz : gz < w.heap.size := (Array.getElem?_eq_some_iff.mp hz).1
  have hs := hbel.size
  have hrow := heap_alloc_new w (.cells #[.slice (some ⟨gx, 0, none⟩) nx cx, .slice (some ⟨gy, 0, none⟩) ny cy, .slice (some ⟨gz, 0, none⟩) nz cz] 22)
  refine apart_any B 3 w.heap.size (tri gx gy gz) (tri nx ny nz) (tri cx cy cz) w0 _ ⟨three lx ly lz, three mx my mz, three tx ty tz, ?_, three (Nat.ne_of_lt kx) (Nat.ne_of_lt ky) (Nat.ne_of_lt kz), three bx hby bz⟩ ⟨?_, ?_⟩ (by omega) (by omega) (hbel.alloc (by omega) _) hB0
  · have h := three (p := fun i => ∀ j, j < 3 → i ≠ j → tri gx gy gz i ≠ tri gx gy gz j) (three (fun h => absurd rfl h) (fun _ => dxy) (fun _ => dxz)) (three (fun _ => dxy.symm) (fun h => absurd rfl h) (fun _ => dyz)) (three (fun _ => dxz.symm) (fun _ => dyz.symm) (fun h => absurd rfl h))
    exact fun i j hi hj => h i hi j hj
  · exact three (by rw [cell_of_row _ _ _ _ _ _ hrow]; rfl) (by rw [cell_of_row _ _ _ _ _ _ hrow]; rfl) (by rw [cell_of_row _ _ _ _ _ _ hrow]; rfl)
  · exact three ⟨curx, (heap_alloc_old w _ kx).trans hx, sx, fun k hk => absurd hk (Nat.not_lt_zero k)⟩ ⟨cury, (heap_alloc_old w _ ky).trans hy, sy, fun k hk => absurd hk (Nat.not_lt_zero k)⟩ ⟨curz, (heap_alloc_old w _ kz).trans hz, sz, fun k hk => absurd hk (Nat.not_lt_zero k)⟩
theorem own_form {w : World} {B e n : Nat} {v : Value} {xs : List Value} (h : w.ownsRow B e 1 v n xs) (hn : 0 < n) :
    ∃ g cap cur, v = .slice (some ⟨g, 0, none⟩) n cap ∧ Hid (B ≤ g ∧ w.heap[g]? = some (.cells cur e (0, 0)) ∧ n ≤ cap ∧ cap ≤ maxLen ∧ cur.size = cap ∧ g < w.heap.size) := by
  rcases h.2 with ⟨_, hz⟩ | ⟨g, cap, cur, rfl, h1, h2, h3, h4, h5, _⟩
  · omega
  · exact ⟨g, cap, cur, rfl, h1, h2, h3, h4, by omega, (Array.getElem?_eq_some_iff.mp h2).1⟩
set_option maxRecDepth 100000 in
set_option maxHeartbeats 4000000 in
theorem crcOwn_any (a0 : Option Addr) (len0 cap0 : Nat) (b0 : Nat → Nat) (w : World) (r0 : Row8 w a0 len0 cap0 b0) (hl0 : len0 ≤ 4000) :
    Calls Try.prog 5 #[.slice a0 len0 cap0] w fun e w' => e = .returned (.bool true) ∧ Below w.heap.size w w' := by
  go_enter Try.func5, Try.ntmps5
  go_wp2_with fail
  refine (awake2 _).mono ?_
  rintro e w1 ⟨rfl, hbel1⟩
  have hsz1 := hbel1.size
  have r1 := r0.below hbel1
  go_wp2_with fail
  refine (spare_row a0 len0 cap0 b0 w1 r1 (by omega)).mono ?_
  rintro e w2 ⟨rfl, H2⟩
  have hsz2 : w1.heap.size < w2.heap.size := (own_lt H2.out.1).1
  go_wp2_with fail
  refine (newTable_any w2).mono ?_
  rintro e w3 ⟨rfl, hw3⟩
  have e1 := newTable_eng w2
  rw [← hw3] at e1
  have hb3 : Below w2.heap.size w2 w3 := by rw [hw3]; exact (Below.refl _ _).alloc (Nat.le_refl _) _
  have hsz3 : w2.heap.size < w3.heap.size := by rw [hw3]; simp
  clear hw3
  go_wp2_with fail
  refine (newSliced_any w3).mono ?_
  rintro e w4 ⟨rfl, hw4⟩
  have e2 := newSliced_eng w3
  rw [← hw4] at e2
  have hb4 : Below w3.heap.size w3 w4 := by rw [hw4]; exact (Below.refl _ _).alloc (Nat.le_refl _) _
  have hsz4 : w3.heap.size < w4.heap.size := by rw [hw4]; simp
  clear hw4
  have hby : ∀ i, i < len0 + 9 → sp b0 len0 i < 256 := fun i hi => by
    unfold sp
    split
    · exact r0.byte i (by assumption)
    · first | omega | decide
  have r2w : Row8 w2 (some ⟨w1.heap.size, 0, none⟩) (len0 + 9) (len0 + 9) (sp b0 len0) := by
    obtain ⟨a, cap, he, hr⟩ := own_row8 H2.out.1 hby
    simp only [Value.slice.injEq, true_and] at he
    obtain ⟨rfl, rfl⟩ := he
    exact hr
  have r2 : Row8 w2 (some ⟨w1.heap.size, 0, none⟩) len0 (len0 + 9) b0 := (r2w.upto len0 (by omega)).congr (fun i hi => by unfold sp; rw [if_pos hi])
  have hb24 : Below w2.heap.size w2 w4 := below_all hb3 hb3.size hb4
  have r4 := r2.below hb24
  have hS := H2.out.1
  have hb02 : Below w.heap.size w w2 := below_all hbel1 hsz1 H2.out.2
  have HS : Hid (_) := And.intro hb02 (And.intro hS (And.intro r2 (And.intro hb24 (And.intro (e1.below hb4) (And.intro e2 (And.intro r1 r2w))))))
  have HE : Hid (_) := And.intro H2.out.2 hbel1
  clear H2 r2 r2w e1 e2 hb3 hb4 hb24 hbel1 hby hb02 hS
  have hc1 : w1.heap.size < w2.heap.size := hsz2
  obtain ⟨g1, hg1⟩ : ∃ g, g = w1.heap.size := ⟨_, rfl⟩
  obtain ⟨g2, hg2⟩ : ∃ g, g = w2.heap.size := ⟨_, rfl⟩
  obtain ⟨g3, hg3⟩ : ∃ g, g = w3.heap.size := ⟨_, rfl⟩
  rw [← hg1, ← hg2, ← hg3] at HS
  rw [← hg1] at r4 hsz2 hsz1 hc1 ⊢
  rw [← hg2] at hsz2 hsz3 hc1 ⊢
  rw [← hg3] at hsz3 hsz4 ⊢
  have HQ : Hid (_) := And.intro hg1 (And.intro hg2 hg3)
  clear hg1 hg2 hg3 r1
  go_wp2_with fail
  refine (seal_row _ len0 (len0 + 9) b0 w4 r4 (by omega)).mono ?_
  rintro e w5 ⟨v5, rfl, o5, hb5⟩
  have r5 := r4.below hb5
  have hs5 := hb5.size
  go_wp2_with fail
  refine (seal_row _ len0 (len0 + 9) b0 w5 r5 (by omega)).mono ?_
  rintro e w6 ⟨v6, rfl, o6, hb6⟩
  have hs6 := hb6.size
  have o56 := own_below o5 hb6
  have hb46 : Below w4.heap.size w4 w6 := below_all hb5 hs5 hb6
  have hgxl : ∀ k, v5.ownBlock = some k → k < w5.heap.size := fun k hk => (o5.lt k hk).2
  obtain ⟨gx, cx, curx, rfl, QX⟩ := own_form o56 (by omega)
  obtain ⟨gy, cy, cury, rfl, QY⟩ := own_form o6 (by omega)
  have hgx5 : gx < w5.heap.size := hgxl gx rfl
  have HO : Hid (_) := And.intro hgx5 (And.intro hgx5 hb46)
  clear o5 o6 o56 hb5 hb6 r4 r5 hb46 hgxl hgx5
  have hb26 : Below g2 w2 w6 := below_all HS.out.2.2.2.1 (by omega) HO.out.2.2
  have E1 := HS.out.2.2.2.2.1.below HO.out.2.2
  have E2 := HS.out.2.2.2.2.2.1.below HO.out.2.2
  have T := tsum_first w2 w6 _ len0 (len0 + 9) b0 g2 _ HS.out.2.2.1 (by omega) (by rw [← HQ.out.2.1]; exact hb26) (by rw [← HQ.out.2.1]; exact Nat.le_refl _) E1
  clear E1
  go_wp2_with fail
  refine T.mono ?_
  rintro e w7 ⟨rfl, HT⟩
  clear T
  have hs7 := HT.out.1.size
  have hb27 : Below g2 w2 w7 := HT.out.1.below hb26 (Nat.le_refl _) (by omega)
  have S := ssum_first w2 w7 _ len0 (len0 + 9) b0 g3 _ HS.out.2.2.1 (by omega) (by rw [← HQ.out.2.1]; exact hb27) (by rw [← HQ.out.2.1]; omega) (E2.keep HT.out.1 (by omega))
  clear E2
  go_wp2_with fail
  refine S.mono ?_
  rintro e w8 ⟨rfl, HV⟩
  clear S
  have hs8 := HV.out.1.size
  have hb28 : Below g2 w2 w8 := HV.out.1.below hb27 (by omega) (by omega)
  have r8 : Row8 w8 (some ⟨g1, 0, none⟩) len0 (len0 + 9) b0 := HS.out.2.2.1.below (by rw [← HQ.out.2.1]; exact hb28)
  go_wp2_with fail
  refine (valid_row _ len0 (len0 + 9) b0 w8 r8 (by omega)).mono ?_
  rintro e w9 ⟨rfl, md, rfl⟩
  have hb29 : Below g2 w2 (w8.drewN md) := below_drewN hb28 md
  have hb09 : Below w.heap.size w (w8.drewN md) := below_all HS.out.1 (by rw [← HQ.out.2.1]; omega) (by rw [← HQ.out.2.1]; exact hb29)
  have s9 : w8.heap.size ≤ (w8.drewN md).heap.size := (below_drewN (Below.refl w8.heap.size w8) md).size
  have hk89 : Below w8.heap.size w8 (w8.drewN md) := below_drewN (Below.refl _ _) md
  go_wp2_with fail
  refine (cbits_row _ len0 (len0 + 9) b0 _ (r8.drewN md) (by omega)).mono ?_
  rintro e w10 ⟨rfl, rfl⟩
  generalize w8.drewN md = w9 at *
  go_wp2_with fail
  refine (refSum_row a0 len0 cap0 b0 w9 (r0.below hb09) (by omega)).mono ?_
  rintro e w10 ⟨rfl, hb10⟩
  have s10 := hb10.size
  have hb0a := below_all hb09 (by omega) hb10
  have hb2a : Below g2 w2 w10 := below_all hb29 (by omega) hb10
  have rW : Row8 w10 (some ⟨g1, 0, none⟩) (len0 + 9) (len0 + 9) (sp b0 len0) := HS.out.2.2.2.2.2.2.2.below (by rw [← HQ.out.2.1]; exact hb2a)
  go_wp2_with fail
  refine (kept_row g1 a0 len0 cap0 b0 w10 (r0.below hb0a) (by omega) rW).mono ?_
  rintro e w11 ⟨rfl, mk, rfl⟩
  have hb0b : Below w.heap.size w (w10.drewN mk) := below_drewN hb0a mk
  have hk1011 : Below w10.heap.size w10 (w10.drewN mk) := below_drewN (Below.refl _ _) mk
  have hBd : Below g2 w2 (w10.drewN mk) := below_drewN hb2a mk
  have hh : ∀ k, k < w6.heap.size → k ≠ g2 → k ≠ g3 → (w10.drewN mk).heap[k]? = w6.heap[k]? := fun k hk n2 n3 =>
    (hk1011.block k (by omega)).trans ((hb10.block k (by omega)).trans ((hk89.block k (by omega)).trans ((HV.out.1.block k (by omega) n3).trans (HT.out.1.block k hk n2))))
  obtain ⟨_, _, curz, hez, QZ⟩ := own_form HS.out.2.1 (by omega)
  simp only [Value.slice.injEq, Option.some.injEq, Addr.mk.injEq, and_true, true_and] at hez
  obtain ⟨rfl, rfl⟩ := hez
  have hgx5 := HO.out.1
  obtain ⟨x1, x2, x3, x4, x5, x6⟩ := QX.out
  obtain ⟨y1, y2, y3, y4, y5, y6⟩ := QY.out
  obtain ⟨z1, z2, z3, z4, z5, z6⟩ := QZ.out
  have hA := apart_three w.heap.size w (w10.drewN mk) gx gy g1 (len0 + 4) (len0 + 4) len0 cx cy (len0 + 9) curx cury curz ((hh gx x6 (by omega) (by omega)).trans x2) ((hh gy y6 (by omega) (by omega)).trans y2) ((hBd.block g1 (by omega)).trans z2)
    x5 y5 z5 x3 y3 (by omega) (by omega) (by omega) (by omega) x4 y4 z4 (by omega) (by omega) (by omega) (by omega) (by omega) (by omega) hb0b (Nat.le_refl _)
  have hdn : (w10.drewN mk).heap.size = w10.heap.size := by simp
  rw [hdn] at hA
  clear hh x1 x2 x3 x4 x5 x6 y1 y2 y3 y4 y5 y6 z1 z2 z3 z4 z5 z6 QX QY QZ HS HT HV HO HE HQ hBd hb2a hb0a rW hb10 hk1011 hk89 hb29 hb09 hb28 hb27 hb26 r8 hgx5 hdn
  go_wp2_with fail
  refine hA.mono ?_
  rintro e w12 ⟨rfl, hfin⟩
  go_wp2_with fail
  go_ret
  exact ⟨rfl, hfin⟩
theorem crcOwn_walk (a0 : Option Addr) (len0 cap0 : Nat) (z0 : List Int) (w : World) (w0 : BRow .u8 w a0 len0 cap0 z0) :
    Calls Try.prog 5 #[.slice a0 len0 cap0] w fun e w' => e = .returned (.bool true) ∧ Below w.heap.size w w' := by
  by_cases h : len0 ≤ 4000
  · exact crcOwn_any a0 len0 cap0 _ w w0.row8 h
  · exact crcOwn_long a0 len0 cap0 w w0.len_le (by omega)

end Go.Proofs.Ytlnfkgnlagadaab
