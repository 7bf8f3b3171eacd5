/- Part 47 of the texts on which the proof rests: contracts of Go functions. -/
import Derived.Deep.RegionHeld3
import Derived.Test.YthlgahkoignnkaaPkG45
namespace Go.Proofs.Ythlgahkoignnkaa
open Go.RowKit Go.Maps Go.Sort
set_option maxRecDepth 100000
theorem hsmallJ (i : Nat) (h : i < 1000) : IntKind.i64.wrap (((i : Nat) : Int) + 1) = ((i + 1 : Nat) : Int) := by
  rw [IntKind.wrap_i64]
  omega
set_option maxHeartbeats 3000000 in
theorem ghostJudges_walk (a0 : Option Addr) (l0 c0 : Nat) (P0 : Nat → Pg) (a1 : Option Addr) (l1 c1 : Nat) (P1 : Nat → Pg) (ms : Nat) (a2 : Option Addr) (len2 cap2 : Nat) (w : World) (h0 : PRow w a0 l0 P0) (h1 : PRow w a1 l1 P1) (n0 : a0 = none → l0 = 0 ∧ c0 = 0) (n1 : a1 = none → l1 = 0 ∧ c1 = 0) (w2 : OpRow w a2 len2) (hl2 : len2 * 72 ≤ 140737488351232) :
    Calls Try.prog 3 #[.agg #[.slice a0 l0 c0, .slice a1 l1 c1, .int .u32 (ms : Nat)], .slice a2 len2 cap2] w fun e w' => e = .returned (.bool true) ∧ Below w.heap.size w w' := by
  obtain ⟨F, f0, o0⟩ := w2.facts
  have HW : Hid (_) := And.intro f0 (And.intro o0 (And.intro h0 (And.intro h1 (And.intro n0 (And.intro n1 hl2)))))
  clear f0 o0 w2 h0 h1 n0 n1 hl2
  obtain ⟨W0, hW0⟩ : ∃ W : World, w.alloc (.cells #[.slice a0 l0 c0, .slice a1 l1 c1, .int .u32 (ms : Nat)] 25) = W := ⟨_, rfl⟩
  have b0 : Below w.heap.size w W0 := by rw [← hW0]; exact belowG (Below.refl _ _) _
  have e0 : W0.heap[w.heap.size]? = some (.cells #[.slice a0 l0 c0, .slice a1 l1 c1, .int .u32 (ms : Nat)] 25 (0, 0)) := by rw [← hW0]; exact heap_alloc_new _ _
  have HB0 : Hid (_) := And.intro b0 e0
  clear b0 e0
  have hAw := fun wx => awake18 wx
  go_enter Try.func3, Try.ntmps3
  go_wp2_with fail
  try rw [hW0]
  clear hW0
  refine (hAw _).mono ?_
  rintro e wa ⟨rfl, ba⟩
  clear hAw
  obtain ⟨b0, e0⟩ := HB0.out
  have ea := (ba.block _ (Array.getElem?_eq_some_iff.1 e0).1).trans e0
  have bwa : Below w.heap.size w wa := b0.trans (ba.mono b0.size)
  have x0 := cell_of_row wa _ 0 _ _ _ ea
  have x1 := cell_of_row wa _ 1 _ _ _ ea
  have x2 := cell_of_row wa _ 2 _ _ _ ea
  have HA : Hid (_) := And.intro bwa ea
  clear b0 e0 ba bwa ea HB0
  by_cases hl0 : (40 : Int) < ((l0 : Nat) : Int)
  · go_wp2_with fail
    go_ret
    exact ⟨rfl, HA.out.1⟩
  by_cases hl1 : (40 : Int) < ((l1 : Nat) : Int)
  · go_wp2_with fail
    go_ret
    exact ⟨rfl, HA.out.1⟩
  have HL : Hid (l0 ≤ 40 ∧ l1 ≤ 40) := by constructor <;> omega
  go_wp2_with fail
  refine (ncopied a0 l0 c0 P0 a1 l1 c1 P1 ms wa (HW.out.2.2.1.below HA.out.1) (HW.out.2.2.2.1.below HA.out.1) ⟨by have := HL.out; omega, HW.out.2.2.2.2.1⟩ ⟨by have := HL.out; omega, HW.out.2.2.2.2.2.1⟩).mono ?_
  rintro e wb ⟨y0, k0, y1, k1, rfl, r0, r1, bb⟩
  obtain ⟨k, hk⟩ : ∃ k, min l0 l1 = k := ⟨_, rfl⟩
  have hk1 : k ≤ 40 := by have := HL.out; omega
  have hN := gnew y0 l0 k0 P0 y1 l1 k1 P1 ms wb r0 r1 k hk (by omega)
  have HBb : Hid (_) := bb
  clear r0 r1 bb x0 x1 x2
  go_wp2_with fail
  refine hN.mono ?_
  clear hN
  rintro e wc ⟨jb, rfl, h1⟩
  obtain ⟨g1, cap1, ob1, m1, m2, m3, b1, hJ1⟩ := h1.out
  obtain ⟨bwa, ea⟩ := HA.out
  have bac : Below wa.heap.size wa wc := HBb.out.trans (b1.mono HBb.out.size)
  have ec := (bac.block _ (Array.getElem?_eq_some_iff.1 ea).1).trans ea
  have x0 := cell_of_row wc _ 0 _ _ _ ec
  have x1 := cell_of_row wc _ 1 _ _ _ ec
  have x2 := cell_of_row wc _ 2 _ _ _ ec
  have bwc : Below w.heap.size w wc := bwa.trans (bac.mono bwa.size)
  have hN := rnew a0 l0 c0 P0 a1 l1 c1 P1 ms wc (HW.out.2.2.1.below bwc) (HW.out.2.2.2.1.below bwc) k hk (by omega)
  obtain ⟨J0, hJ0⟩ : ∃ x, ju0 k (fun i => (P0 i).t) (fun i => (P1 i).t) = x := ⟨_, rfl⟩
  have HG : Hid (Below wb.heap.size wb wc ∧ ∃ L, GS wc wb.heap.size L jb 0 J0) := by
    refine ⟨b1, ?_⟩
    rw [← hJ0]
    exact GS.made m1 m2 m3 hJ1
  have Hsz : Hid (w.heap.size + 1 ≤ wb.heap.size) := by
    have h1 := (Array.getElem?_eq_some_iff.1 ea).1
    have h2 := HBb.out.size
    show w.heap.size + 1 ≤ wb.heap.size
    omega
  have Hwc : Hid (_) := And.intro bwc ec
  clear b1 bwa ea bac ec bwc h1 m1 m2 m3 hJ1 HBb
  go_wp2_with fail
  refine hN.mono ?_
  clear hN
  rintro e wd ⟨rfl, h2⟩
  obtain ⟨p, hp⟩ : ∃ n, wc.heap.size + 1 = n := ⟨_, rfl⟩
  have HJ : Hid (JJ wd wb.heap.size jb p 0 J0 0 J0 ∧ Below wc.heap.size wc wd) := by
    obtain ⟨vE, vS, b, hs⟩ := h2.out
    obtain ⟨b1, LG, hG⟩ := HG.out
    obtain ⟨LR, hR⟩ := RSS.made hs (by omega)
    rw [hJ0, hp] at hR
    exact ⟨JJ.made hG hs.bel hR b1.size, hs.bel⟩
  have HJ0 : Hid (ju0 k (fun i => (P0 i).t) (fun i => (P1 i).t) = J0) := hJ0
  have hz0 : J0.r = 0 ∧ J0.a = 0 := by rw [← hJ0]; exact ⟨rfl, rfl⟩
  rw [hp]
  clear hp h2 HG hJ0 x0 x1 x2
  have hV : Calls Try.prog 11 #[.pointer (some ⟨jb, 0, none⟩)] wd fun r w' => r = .returned (.agg #[.int .i64 0, .int .i64 0]) ∧ Below wd.heap.size wd w' := by
    refine (HJ.out.1.verdict).mono ?_
    rintro r w' ⟨rfl, b⟩
    exact ⟨by rw [hz0.1, hz0.2], b⟩
  have hve := fun wx => ver_same 0 0 wx
  clear hz0
  go_wp2_with fail
  refine hV.mono ?_
  rintro e we ⟨rfl, be⟩
  clear hV
  have HE : Hid (JJ we wb.heap.size jb p 0 J0 0 J0 ∧ Below w.heap.size w we ∧ we.heap[w.heap.size]? = some (.cells #[.slice a0 l0 c0, .slice a1 l1 c1, .int .u32 (ms : Nat)] 25 (0, 0))) := by
    obtain ⟨bwc, ec⟩ := Hwc.out
    have bce : Below wc.heap.size wc we := HJ.out.2.trans (be.mono HJ.out.2.size)
    exact ⟨HJ.out.1.below be, bwc.trans (bce.mono bwc.size), (bce.block _ (Array.getElem?_eq_some_iff.1 ec).1).trans ec⟩
  clear HJ be Hwc HA
  have hCp := gcopyO a2 cap2 len2 F we w HE.out.2.1 HW.out.2.2.2.2.2.2 HW.out.1 HW.out.2.1
  go_wp2_with fail
  refine hCp.mono ?_
  clear hCp
  rintro e W4 ⟨a', c', rfl, h4⟩
  have HI0 : Hid (JK W4 (Kq wb.heap.size we.heap.size W4.heap.size) jb p 0 (sees J0 F 0) 0 (sees J0 F 0) ∧ KK (Kq wb.heap.size we.heap.size W4.heap.size) W4 W4 ∧ Below w.heap.size w W4) := by
    obtain ⟨j, b, _⟩ := HE.out
    refine ⟨(j.jk).more h4.out.2 (fun q hq => hq), KK.refl _ _, b.trans (h4.out.2.mono b.size)⟩
  have H4 : Hid (OF W4 w.heap.size we.heap.size a' len2 c' F ∧ w.heap.size + 1 ≤ wb.heap.size ∧ wb.heap.size ≤ we.heap.size ∧ we.heap.size ≤ W4.heap.size ∧ W4.heap[w.heap.size]? = some (.cells #[.slice a0 l0 c0, .slice a1 l1 c1, .int .u32 (ms : Nat)] 25 (0, 0))) := by
    have h1 := (Array.getElem?_eq_some_iff.1 HE.out.2.2).1
    exact ⟨h4.out.1, Hsz.out, HE.out.1.size, h4.out.2.size, (h4.out.2.block _ h1).trans HE.out.2.2⟩
  clear h4 HE Hsz hve
  go_wp2_with fail
  go_loopw [4, 8, 9, 37, 38, 39, 40, 41, 42, 43, 44, 45, 46, 47, 48, 49, 50, 51, 52, 53, 54, 55, 56, 57, 58, 59, 60, 61, 62, 63, 64, 65, 66] (fun _ c _ _ _ _ _ _ _ _ _ _ _ _ _ _ _ _ _ _ _ _ _ _ _ _ _ _ _ _ _ _ _ wr => ∃ i : Nat, i ≤ len2 ∧ i ≤ 1000 ∧ c = .int .i64 ((i : Nat) : Int) ∧ Hid (JK wr (Kq wb.heap.size we.heap.size W4.heap.size) jb p i (sees J0 F i) i (sees J0 F i) ∧ KK (Kq wb.heap.size we.heap.size W4.heap.size) W4 wr ∧ Below w.heap.size w wr)) (fun _ c _ _ _ _ _ _ _ _ _ _ _ _ _ _ _ _ _ _ _ _ _ _ _ _ _ _ _ _ _ _ _ _ => 1000 - natG c)
  case atStart => exact ⟨0, by omega, by omega, rfl, HI0⟩
  case round =>
    obtain ⟨i, hi, hi2, rfl, HI⟩ := hrel
    clear HI0
    by_cases hlt : i < len2
    · have hlt' : ((i : Nat) : Int) < ((len2 : Nat) : Int) := by omega
      by_cases hlm : i < 1000
      · have hlm' : ((i : Nat) : Int) < 1000 := by omega
        obtain ⟨g, A, C, ea, gg, ggl, hR⟩ := H4.out.1.at_ (by omega)
        subst ea
        obtain ⟨r1, r2, r3⟩ := hR i hlt
        obtain ⟨q, off, da, dc, ea, d0, d1, d2, d3, d4, d5, d6, d7, rr⟩ := HW.out.1 i hlt
        subst ea
        have hok := HW.out.2.1 i hlt
        obtain ⟨s1, s2, s3, s4⟩ := H4.out.2
        have hdt : Row8 wr (A i) (F i).n (C i) (F i).b := row8_kk r2 HI.out.2.1 (fun y hy hp => by
          rcases r3 y hy hp with e | e
          · exact .inl (by omega)
          · exact .inr e)
        have cg := fun j u hu => HI.out.2.1.cell (.inr ⟨gg, ggl⟩) (r1 j u hu)
        have z0 : wr.cell? ⟨g, i * 8, none⟩ = some (.int .i64 (F i).k) := cg 0 _ rfl
        have z1 : wr.cell? ⟨g, i * 8 + 1, none⟩ = some (.int .i64 (F i).c) := cg 1 _ rfl
        have z2 : wr.cell? ⟨g, i * 8 + 2, none⟩ = some (.int .i64 (F i).s) := cg 2 _ rfl
        have z3 : wr.cell? ⟨g, i * 8 + 3, none⟩ = some (.int .u32 ((F i).ss : Nat)) := cg 3 _ rfl
        have z4 : wr.cell? ⟨g, i * 8 + 4, none⟩ = some (.int .u32 ((F i).nn : Nat)) := cg 4 _ rfl
        have z5 : wr.cell? ⟨g, i * 8 + 5, none⟩ = some (.bool (F i).on) := cg 5 _ rfl
        have z6 : wr.cell? ⟨g, i * 8 + 6, none⟩ = some (.int .i64 (F i).cd) := cg 6 _ rfl
        have z7 : wr.cell? ⟨g, i * 8 + 7, none⟩ = some (.slice (A i) (F i).n (C i)) := cg 7 _ rfl
        obtain ⟨J, hJ⟩ : ∃ x, sees J0 F i = x := ⟨_, rfl⟩
        obtain ⟨J', hJ'⟩ : ∃ x, J.see (F i) = x := ⟨_, rfl⟩
        obtain ⟨R, hRR⟩ : ∃ x, J'.r = x := ⟨_, rfl⟩
        obtain ⟨V, hVV⟩ : ∃ x, J'.a = x := ⟨_, rfl⟩
        have HJs : Hid (sees J0 F (i + 1) = J') := by rw [← hJ', ← hJ]; rfl
        have hG : Calls Try.prog 13 #[.pointer (some ⟨jb, 0, none⟩), .agg #[.int .i64 (F i).k, .int .i64 (F i).c, .int .i64 (F i).s, .int .u32 ((F i).ss : Nat), .int .u32 ((F i).nn : Nat), .bool (F i).on, .int .i64 (F i).cd, .slice (A i) (F i).n (C i)]] wr fun r w' => r = .returned (.agg #[.int .i64 R, .int .i64 V]) ∧ Hid (JK w' (Kq wb.heap.size we.heap.size W4.heap.size) jb p (i + 1) J' i J ∧ KK (Kq wb.heap.size we.heap.size W4.heap.size) wr w') := by
          have h1 := HI.out.1
          rw [hJ] at h1
          refine (ksee_g h1 (by omega) (F i) hok (A i) (C i) hdt).mono ?_
          rintro r w' ⟨rfl, h⟩
          have h2 := h.out
          rw [hJ'] at h2 ⊢
          exact ⟨by rw [hRR, hVV], h2⟩
        have hd : ∀ y, da = some y → 0 < (F i).n → y.block < w.heap.size := fun y hy hn => by
          have h1 := rr.src y hy 0 hn
          have hlt := World.block_lt_of_cell? w _ h1
          have hb : (y.add 0).block = y.block := by unfold Addr.add; split <;> rfl
          omega
        have HD : Hid (_) := And.intro rr (And.intro hd (And.intro hok (And.intro d0 (And.intro d1 (And.intro d2 (And.intro d3 (And.intro d4 (And.intro d5 (And.intro d6 d7)))))))))
        have HV : Hid (J'.r = R ∧ J'.a = V) := ⟨hRR, hVV⟩
        have HJ' : Hid (J.see (F i) = J') := hJ'
        clear hR r1 r2 r3 rr hok hdt cg hd hJ hJ' hRR hVV d0 d1 d2 d3 d4 d5 d6 d7 s1 s2 s3 s4 gg ggl
        go_wp2_with fail
        refine hG.mono ?_
        rintro e w3 ⟨rfl, h3⟩
        clear hG z0 z1 z2 z3 z4 z5 z6 z7
        obtain ⟨vb, hvb⟩ : ∃ n, w3.heap.size = n := ⟨_, rfl⟩
        obtain ⟨w4, hw4⟩ : ∃ x, w3.alloc (.cells #[.int .i64 R, .int .i64 V] 34) = x := ⟨_, rfl⟩
        have b4 : Below w3.heap.size w3 w4 := by rw [← hw4]; exact belowG (Below.refl _ _) _
        have e4 : w4.heap[vb]? = some (.cells #[.int .i64 R, .int .i64 V] 34 (0, 0)) := by rw [← hw4, ← hvb]; exact heap_alloc_new _ _
        have H5 : Hid (JK w4 (fun q => Kq wb.heap.size we.heap.size W4.heap.size q ∨ q = vb) jb p (i + 1) J' i J ∧ Below w.heap.size w w4) := by
          have s := H4.out.2
          refine ⟨h3.out.1.more b4 (fun q hq => ?_), ?_⟩
          · rcases hq with e | e
            · exact .inl e
            · refine .inr ⟨by omega, ?_⟩
              subst e
              exact (Array.getElem?_eq_some_iff.1 e4).1
          · have b3 := h3.out.2.below HI.out.2.2 (fun q hq => .inl (by omega))
            exact b3.trans (b4.mono b3.size)
        have HK4 : Hid (KK (Kq wb.heap.size we.heap.size W4.heap.size) W4 w4) := HI.out.2.1.trans (h3.out.2.trans (KK.of_below b4 h3.out.1.lt))
        have hS : ∀ wx, KK (fun q => Kq wb.heap.size we.heap.size W4.heap.size q ∨ q = vb) w4 wx → wx.cell? ⟨vb, 0, none⟩ = some (.int .i64 R) ∧ wx.cell? ⟨vb, 1, none⟩ = some (.int .i64 V) ∧ wx.cell? ⟨q, off + i * 8, none⟩ = some (.int .i64 (F i).k) ∧ wx.cell? ⟨q, off + i * 8 + 1, none⟩ = some (.int .i64 (F i).c) ∧ wx.cell? ⟨q, off + i * 8 + 2, none⟩ = some (.int .i64 (F i).s) ∧ wx.cell? ⟨q, off + i * 8 + 3, none⟩ = some (.int .u32 ((F i).ss : Nat)) ∧ wx.cell? ⟨q, off + i * 8 + 4, none⟩ = some (.int .u32 ((F i).nn : Nat)) ∧ wx.cell? ⟨q, off + i * 8 + 5, none⟩ = some (.bool (F i).on) ∧ wx.cell? ⟨q, off + i * 8 + 6, none⟩ = some (.int .i64 (F i).cd) ∧ wx.cell? ⟨q, off + i * 8 + 7, none⟩ = some (.slice da (F i).n dc) := fun wx kx => by
          obtain ⟨rr, hd, hok, d0, d1, d2, d3, d4, d5, d6, d7⟩ := HD.out
          have s := H4.out.2
          have cq : ∀ j u, w.cell? ⟨q, j, none⟩ = some u → wx.cell? ⟨q, j, none⟩ = some u := fun j u hu => by
            have hl : q < w.heap.size := World.block_lt_of_cell? w _ hu
            exact kx.cell (.inl (.inl (by omega))) ((World.cell?_of_block (a := ⟨q, j, none⟩) (H5.out.2.block q hl)).trans hu)
          exact ⟨kx.cell (.inr rfl) (cell_of_row w4 vb 0 _ _ _ e4), kx.cell (.inr rfl) (cell_of_row w4 vb 1 _ _ _ e4), cq _ _ d0, cq _ _ d1, cq _ _ d2, cq _ _ d3, cq _ _ d4, cq _ _ d5, cq _ _ d6, cq _ _ d7⟩
        have hRr : ∀ wx, Below w4.heap.size w4 wx → Calls Try.prog 14 #[.pointer (some ⟨p, 0, none⟩), .agg #[.int .i64 (F i).k, .int .i64 (F i).c, .int .i64 (F i).s, .int .u32 ((F i).ss : Nat), .int .u32 ((F i).nn : Nat), .bool (F i).on, .int .i64 (F i).cd, .slice da (F i).n dc]] wx fun r w' => ∃ x, r = .returned x ∧ (x = .agg #[.int .i64 R, .int .i64 V] ∧ Hid (JK w' (fun q => Kq wb.heap.size we.heap.size W4.heap.size q ∨ q = vb) jb p (i + 1) J' (i + 1) J') ∧ KK (fun q => Kq wb.heap.size we.heap.size W4.heap.size q ∨ q = vb) w4 w') := fun wx bx => by
          obtain ⟨rr, hd, hok, _⟩ := HD.out
          have s := H4.out.2
          have bwx : Below w.heap.size w wx := H5.out.2.trans (bx.mono H5.out.2.size)
          refine (ksee_r (H5.out.1.below bx) (by omega) (F i) hok da dc (rr.below bwx) (fun y hy hn => .inl (.inl (by have := hd y hy hn; omega)))).mono ?_
          rintro r w' ⟨rfl, h⟩
          have h2 := h.out
          rw [HJ'.out] at h2 ⊢
          exact ⟨_, rfl, by rw [HV.out.1, HV.out.2], h2.1, (KK.of_below bx H5.out.1.lt).trans h2.2⟩
        have hVj : ∀ wx, Hid (JK wx (fun q => Kq wb.heap.size we.heap.size W4.heap.size q ∨ q = vb) jb p (i + 1) J' (i + 1) J') → KK (fun q => Kq wb.heap.size we.heap.size W4.heap.size q ∨ q = vb) w4 wx → Calls Try.prog 11 #[.pointer (some ⟨jb, 0, none⟩)] wx fun r w' => ∃ x, r = .returned x ∧ (x = .agg #[.int .i64 R, .int .i64 V] ∧ Hid (JK w' (fun q => Kq wb.heap.size we.heap.size W4.heap.size q ∨ q = vb) jb p (i + 1) J' (i + 1) J') ∧ KK (fun q => Kq wb.heap.size we.heap.size W4.heap.size q ∨ q = vb) w4 w') := fun wx h1 kx => by
          refine (h1.out.verdict).mono ?_
          rintro r w' ⟨rfl, b⟩
          exact ⟨_, rfl, by rw [HV.out.1, HV.out.2], h1.out.below b, kx.trans (KK.of_below b h1.out.lt)⟩
        obtain ⟨v0, v1, t0, t1, t2, t3, t4, t5, t6, t7⟩ := hS w4 (KK.refl _ _)
        have hve := fun wx => ver_same R V wx
        have hzw := hsmallJ i hlm
        clear h3 b4 e4 HI
        go_wp2_with fail
        try rw [hw4]
        try rw [hvb]
        clear hw4 hvb
        go_region_held3 (fun wx => wx.cell? ⟨vb, 0, none⟩ = some (.int .i64 R) ∧ wx.cell? ⟨vb, 1, none⟩ = some (.int .i64 V) ∧ wx.cell? ⟨q, off + i * 8, none⟩ = some (.int .i64 (F i).k) ∧ wx.cell? ⟨q, off + i * 8 + 1, none⟩ = some (.int .i64 (F i).c) ∧ wx.cell? ⟨q, off + i * 8 + 2, none⟩ = some (.int .i64 (F i).s) ∧ wx.cell? ⟨q, off + i * 8 + 3, none⟩ = some (.int .u32 ((F i).ss : Nat)) ∧ wx.cell? ⟨q, off + i * 8 + 4, none⟩ = some (.int .u32 ((F i).nn : Nat)) ∧ wx.cell? ⟨q, off + i * 8 + 5, none⟩ = some (.bool (F i).on) ∧ wx.cell? ⟨q, off + i * 8 + 6, none⟩ = some (.int .i64 (F i).cd) ∧ wx.cell? ⟨q, off + i * 8 + 7, none⟩ = some (.slice da (F i).n dc)) (first | assumption | exact hS _ (by assumption) | exact hS _ (KK.of_below (Below.drew (Below.refl _ _)) H5.out.1.lt)) (first
          | (refine step_callN 14 #[.tmp 54, .tmp 58] #[31, 43] rfl (by kernel_rfl) #[.pointer (some ⟨p, 0, none⟩), .agg #[.int .i64 (F i).k, .int .i64 (F i).c, .int .i64 (F i).s, .int .u32 ((F i).ss : Nat), .int .u32 ((F i).nn : Nat), .bool (F i).on, .int .i64 (F i).cd, .slice da (F i).n dc]] (by kernel_rfl) (hRr _ (by repeat (first | with_reducible assumption | with_reducible exact Below.refl _ _ | with_reducible refine belowN ?_ _ | with_reducible refine Below.drew ?_ | with_reducible refine belowG ?_ _))) ?_; rintro x w5 ⟨rfl, h5, k5⟩)
          | (refine step_callN 11 #[.tmp 62] #[28] rfl (by kernel_rfl) #[.pointer (some ⟨jb, 0, none⟩)] (by kernel_rfl) (hVj _ h5 k5) ?_; rintro x w6 ⟨rfl, h6, k6⟩)
          | fail)
        have HN : Hid (JK w6 (Kq wb.heap.size we.heap.size W4.heap.size) jb p (i + 1) (sees J0 F (i + 1)) (i + 1) (sees J0 F (i + 1)) ∧ KK (Kq wb.heap.size we.heap.size W4.heap.size) W4 w6 ∧ Below w.heap.size w w6) := by
          have s := H4.out.2
          rw [HJs.out]
          exact ⟨h6.out.less (fun q hq => .inl hq), HK4.out.trans (k6.less (fun q hq => .inl hq)), k6.below H5.out.2 (fun q hq => .inl (.inl (by omega)))⟩
        clear hRr hVj hS h5 k5 h6 k6 H5 HK4 v0 v1 t0 t1 t2 t3 t4 t5 t6 t7 HD
        go_wp2_with fail
        go_roundw
        case rel => exact ⟨i + 1, by omega, by omega, by first | rfl | go_num, HN⟩
        case measure => simp [natG] <;> omega
      · have hlm' : ¬ ((i : Nat) : Int) < 1000 := by omega
        have hgt : (1000 : Int) < ((len2 : Nat) : Int) := by omega
        go_wp2_with fail
        go_ret
        exact ⟨rfl, HI.out.2.2⟩
    · obtain rfl : i = len2 := by omega
      have hlt' : ¬ ((i : Nat) : Int) < ((i : Nat) : Int) := by omega
      have hgt : ¬ (1000 : Int) < ((i : Nat) : Int) := by omega
      have hgt2 : ¬ 1000 < i := by omega
      obtain ⟨J, hJ⟩ : ∃ x, sees J0 F i = x := ⟨_, rfl⟩
      obtain ⟨R, hR⟩ : ∃ x, J.r = x := ⟨_, rfl⟩
      obtain ⟨V, hV⟩ : ∃ x, J.a = x := ⟨_, rfl⟩
      obtain ⟨s1, s2, s3, s4⟩ := HI.out.1.said
      rw [hJ, hR] at s3
      rw [hJ, hV] at s4
      have hve := fun wx => ver_same R V wx
      obtain ⟨hof, q1, q2, q3, en⟩ := H4.out
      have er := (HI.out.2.1.block w.heap.size (.inl (by omega))).trans en
      have hS : ∀ wx, Below wr.heap.size wr wx → wx.cell? ⟨w.heap.size, 0, none⟩ = some (.slice a0 l0 c0) ∧ wx.cell? ⟨w.heap.size, 1, none⟩ = some (.slice a1 l1 c1) ∧ wx.cell? ⟨w.heap.size, 2, none⟩ = some (.int .u32 (ms : Nat)) ∧ wx.cell? ⟨p, 4, none⟩ = some (.int .i64 R) ∧ wx.cell? ⟨p, 5, none⟩ = some (.int .i64 V) := fun wx bx => ⟨cell_belowJ (cell_of_row wr _ 0 _ _ _ er) bx, cell_belowJ (cell_of_row wr _ 1 _ _ _ er) bx, cell_belowJ (cell_of_row wr _ 2 _ _ _ er) bx, cell_belowJ s3 bx, cell_belowJ s4 bx⟩
      have hF := hof.frow_kk (by omega) HI.out.2.1
      have hCh : ∀ wx, Below wr.heap.size wr wx → Calls Try.prog 15 #[.agg #[.slice a0 l0 c0, .slice a1 l1 c1, .int .u32 (ms : Nat)], .slice a' i c'] wx fun r w' => ∃ x, r = .returned x ∧ (x = .agg #[.int .i64 R, .int .i64 V] ∧ Below wr.heap.size wr w') := fun wx bx => by
        have bwx : Below w.heap.size w wx := HI.out.2.2.trans (bx.mono HI.out.2.2.size)
        refine (gcheck a0 l0 c0 P0 a1 l1 c1 P1 ms a' i c' F wx (HW.out.2.2.1.below bwx) (HW.out.2.2.2.1.below bwx) k hk (by omega) (hF.below bx) HW.out.2.1 (by omega)).mono ?_
        rintro r w' ⟨e, b⟩
        rw [HJ0.out, hJ, hR, hV] at e
        exact ⟨_, e, rfl, bx.trans (b.mono bx.size)⟩
      have HSd := hS wr.drew (Below.drew (Below.refl _ _))
      obtain ⟨x0, x1, x2, x3, x4⟩ := hS wr (Below.refl _ _)
      have HB : Hid (_) := HI.out.2.2
      clear hJ hR hV s1 s2 s3 s4 hof q1 q2 q3 en er hF HI H4 HW
      go_wp2_with fail
      go_region_held3 (fun wx => wx.cell? ⟨w.heap.size, 0, none⟩ = some (.slice a0 l0 c0) ∧ wx.cell? ⟨w.heap.size, 1, none⟩ = some (.slice a1 l1 c1) ∧ wx.cell? ⟨w.heap.size, 2, none⟩ = some (.int .u32 (ms : Nat)) ∧ wx.cell? ⟨p, 4, none⟩ = some (.int .i64 R) ∧ wx.cell? ⟨p, 5, none⟩ = some (.int .i64 V)) (first | assumption | exact hS _ (by assumption)) (first
        | (refine step_callN 15 #[.tmp 70, .tmp 71] #[25, 26] rfl (by kernel_rfl) #[.agg #[.slice a0 l0 c0, .slice a1 l1 c1, .int .u32 (ms : Nat)], .slice a' i c'] (by kernel_rfl) (hCh _ (by repeat (first | with_reducible assumption | with_reducible exact Below.refl _ _ | with_reducible refine belowN ?_ _ | with_reducible refine Below.drew ?_ | with_reducible refine belowG ?_ _))) ?_; rintro x w3 ⟨rfl, b3⟩)
        | fail)
      have HB3 : Hid (Below w.heap.size w w3) := HB.out.trans (b3.mono HB.out.size)
      clear hCh hS HSd b3 x0 x1 x2 x3 x4
      go_wp2_with fail
      go_ret
      exact ⟨rfl, HB3.out⟩
end Go.Proofs.Ythlgahkoignnkaa
