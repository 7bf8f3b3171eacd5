/- Part 34 of the texts on which the proofs of layer 13 rest: contracts of Go functions. -/
import Derived.Deep.RegionHeld3
import Derived.Test.YtndjepeolamedaaGreatPkB17
import Derived.Test.YtndjepeolamedaaGreatPkB20
import Derived.Test.YtndjepeolamedaaGreatPkB28
import Derived.Test.YtndjepeolamedaaGreatPkB29
import Derived.Test.YtndjepeolamedaaGreatPkB30
import Derived.Test.YtndjepeolamedaaGreatPkB31
import Derived.Test.YtndjepeolamedaaGreatPkB32
namespace Go.Proofs.YtndjepeolamedaaGreat
set_option maxRecDepth 100000
open Go.RowKit
set_option maxHeartbeats 6400000 in
theorem frame7_any (d m g n mx : Nat) (P : Pm) (U : List Nat) (s : Sd) (N fl : Int) (odd : Bool) (a : Option Addr) (len cap : Nat) (bs : Nat → Nat) (p : Int) (x : Nat) (w : World) (h : RW w d m g n mx P U s) (hr : Row8 w a len cap bs) (ha : ∀ y, a = some y → 0 < len → y.block < w.heap.size) (hss : s.ss < 4294967296) (hx : x < 4294967296) :
    Calls Tryz.prog 23 #[.pointer (some ⟨d, 0, none⟩), .agg #[.int .i64 7, .int .i64 N, .int .i64 fl, .bool odd, .slice a len cap, .int .i64 p, .int .u32 (x : Nat)]] w fun e w' => ∃ v, e = .returned (.tuple #[v, .bool true]) ∧ Hid (Below w.heap.size w w' ∧ ∃ f, Fr w' w.heap.size v f ∧ (∀ i, i < f.1 → f.2 i < 256) ∧ f.1 ≤ 140737488351232 ∧ Fo P s 7 N fl odd len bs x f) := by
  obtain ⟨B, y⟩ := h
  have hP := y.pok
  have b0 : Below w.heap.size w (w.alloc (.cells #[.int .i64 7, .int .i64 N, .int .i64 fl, .bool odd, .slice a len cap, .int .i64 p, .int .u32 (x : Nat)] 50)) := (Below.refl _ _).alloc (Nat.le_refl _) _
  have hbx : (w.alloc (.cells #[.int .i64 7, .int .i64 N, .int .i64 fl, .bool odd, .slice a len cap, .int .i64 p, .int .u32 (x : Nat)] 50)).heap[w.heap.size]? = some (.cells #[.int .i64 7, .int .i64 N, .int .i64 fl, .bool odd, .slice a len cap, .int .i64 p, .int .u32 (x : Nat)] 50 (0, 0)) := heap_alloc_new w _
  have hlt : w.heap.size < (w.alloc (.cells #[.int .i64 7, .int .i64 N, .int .i64 fl, .bool odd, .slice a len cap, .int .i64 p, .int .u32 (x : Nat)] 50)).heap.size := by rw [World.size_alloc]; omega
  have hS := rsign_own P hP (w.alloc (.cells #[.int .i64 7, .int .i64 N, .int .i64 fl, .bool odd, .slice a len cap, .int .i64 p, .int .u32 (x : Nat)] 50))
  have hdl := y.dlt
  have hdn : ¬ d = w.heap.size := by omega
  have hdn' : ¬ w.heap.size = d := fun e => hdn e.symm
  have c0 : w.cell? ⟨d, 0, none⟩ = some (.int .u32 (P.c : Nat)) := cell_of_row w d 0 _ _ _ y.dev
  have c1 : w.cell? ⟨d, 1, none⟩ = some (.int .i64 (P.o : Nat)) := cell_of_row w d 1 _ _ _ y.dev
  have c2 : w.cell? ⟨d, 2, none⟩ = some (.int .i64 (P.i : Nat)) := cell_of_row w d 2 _ _ _ y.dev
  have c3 : w.cell? ⟨d, 3, none⟩ = some (.int .i64 (P.t : Nat)) := cell_of_row w d 3 _ _ _ y.dev
  have c4 : w.cell? ⟨d, 4, none⟩ = some (.int .u32 (P.n : Nat)) := cell_of_row w d 4 _ _ _ y.dev
  have HY : Hid (_) := And.intro y (And.intro b0 (And.intro hbx (And.intro hlt (And.intro hr (And.intro ha hP)))))
  have HSS : Hid (_) := hss
  have HX : Hid (_) := hx
  clear y b0 hbx hlt hr ha hP hss hx
  go_enter Tryz.func23, Tryz.ntmps23
  go_upto_region 2 with (go_at_call 48; refine hS.mono ?_; rintro e w2 ⟨gs, rfl, h2⟩; have bb := HY.out.2.1.trans (h2.out.2.2.mono HY.out.2.1.size); have y2 := HY.out.1.newd (Off.of_below bb); have d0 : w2.cell? ⟨d, 0, none⟩ = some (.int .u32 (P.c : Nat)) := cell_of_row w2 d 0 _ _ _ y2.dev; have d19 : w2.cell? ⟨d, 19, none⟩ = some (.int .u32 (s.ss : Nat)) := cell_of_row w2 d 19 _ _ _ y2.dev; have e2 := (h2.out.2.2.block w.heap.size HY.out.2.2.2.1).trans HY.out.2.2.1; have hdl2 := y2.dlt; have hdn2 : ¬ d = w2.heap.size := (by omega); have hdn2' : ¬ w2.heap.size = d := (by omega); have HB : Hid (_) := And.intro bb (And.intro y2 (And.intro e2 (And.intro h2.out.1 h2.out.2.1))); clear hS bb y2 e2 h2 c0 c1 c2 c3 c4)
  go_cut [7] (fun x7 wx => ∃ b, x7 = .pointer (some ⟨b, 0, none⟩) ∧ Hid (Below w2.heap.size w2 wx ∧ w2.heap.size ≤ b ∧ wx.heap[b]? = some (.cells #[.int .i64 0, .int .u32 (P.c : Nat), .int .u32 (s.ss : Nat), .int .u32 0, .int .i64 0, .slice none 0 0] 67 (0, 0))))
  case first =>
    go_region_with (fail)
    all_goals
      go_wp2_with fail
      go_meet
      exact ⟨w2.heap.size, rfl, by repeat (first | exact Below.refl _ _ | refine Below.drew ?_ | refine Below.alloc ?_ (Nat.le_refl _) _), Nat.le_refl _, heap_alloc_new _ _⟩
  case rest =>
    obtain ⟨b, rfl, H⟩ := hcut
    obtain ⟨wd, rfl⟩ : ∃ x, x = wc := ⟨_, rfl⟩
    have bbd := HB.out.1.trans (H.out.1.mono HB.out.1.size)
    have yd := HY.out.1.newd (Off.of_below bbd)
    have lbx : w.heap.size < w2.heap.size := (Array.getElem?_eq_some_iff.1 HB.out.2.2.1).1
    have lgs : gs < w2.heap.size := (Array.getElem?_eq_some_iff.1 HB.out.2.2.2.1).1
    have ged : w.heap.size + 1 ≤ gs := by have := HB.out.2.2.2.2; rwa [World.size_alloc] at this
    have ed := (H.out.1.block w.heap.size lbx).trans HB.out.2.2.1
    have gd := (H.out.1.block gs lgs).trans HB.out.2.2.2.1
    have hbd : b < wd.heap.size := (Array.getElem?_eq_some_iff.1 H.out.2.2).1
    have hgd : gs < wd.heap.size := Nat.lt_of_lt_of_le lgs H.out.1.size
    have o3 : wd.cell? ⟨w.heap.size, 3, none⟩ = some (.bool odd) := cell_of_row wd _ 3 _ _ _ ed
    have u2 : wd.cell? ⟨b, 2, none⟩ = some (.int .u32 (s.ss : Nat)) := cell_of_row wd _ 2 _ _ _ H.out.2.2
    have q0 : wd.cell? ⟨gs, 0, none⟩ = some (.int .u8 (dsg P 0 : Nat)) := cell_of_row wd _ 0 _ _ _ gd
    have zu2 := frozen_of_row wd b 2 _ _ H.out.2.2
    have zq0 := frozen_of_row wd gs 0 _ _ gd
    have hb2 := H.out.2.1
    have n1 : ¬ b = gs := by omega
    have n1' : ¬ gs = b := by omega
    have n2 : ¬ b = w.heap.size := by omega
    have n2' : ¬ w.heap.size = b := by omega
    have n3 : ¬ gs = w.heap.size := by omega
    have n3' : ¬ w.heap.size = gs := by omega
    have n4 : ¬ b = d := by omega
    have n4' : ¬ d = b := by omega
    have n5 : ¬ gs = d := by omega
    have n5' : ¬ d = gs := by omega
    have HW : Hid (_) := And.intro bbd (And.intro yd (And.intro ed (And.intro gd (And.intro H.out.2.2 (And.intro hbd (And.intro hgd (And.intro ged (by omega : w.heap.size < b))))))))
    obtain ⟨so, hso, hw1, hw2⟩ := so_facts s.ss
    obtain ⟨x0, hx0, hw3⟩ := x0_facts P
    have HE : Hid (_) := And.intro hso hx0
    clear bbd yd ed gd H hbd hgd hb2 lbx lgs ged hso hx0 d0 d19 hdn2 hdn2' hdl2 hdn hdn' hdl
    go_upto_if 27 with fail
    go_cut [28] (fun _ wx => Hid (Off [b, gs] wd wx ∧ wx.heap[b]? = some (.cells #[.int .i64 0, .int .u32 (P.c : Nat), .int .u32 (oses s odd : Nat), .int .u32 0, .int .i64 0, .slice none 0 0] 67 (0, 0)) ∧ Row8 wx (some ⟨gs, 0, none⟩) 4 4 (osig P odd)))
    case first =>
      cases odd
      · go_wp2_with fail
        go_meet
        exact ⟨Off.refl _ _, by rw [oses_false]; exact HW.out.2.2.2.2.1, row8_of4 (osig_byte P false) (osig_false P 0) (osig_false P 1) (osig_false P 2) (osig_false P 3) (cell_of_row wd _ 0 _ _ _ HW.out.2.2.2.1) (cell_of_row wd _ 1 _ _ _ HW.out.2.2.2.1) (cell_of_row wd _ 2 _ _ _ HW.out.2.2.2.1) (cell_of_row wd _ 3 _ _ _ HW.out.2.2.2.1)⟩
      · go_wp2_with fail
        go_meet
        obtain ⟨bbd, yd, ed, gd, ud, hbd, hgd, _, _⟩ := HW.out
        have eb1 : (wd.setCell ⟨b, 2, none⟩ (.int .u32 (so : Nat))).heap[b]? = some (.cells #[.int .i64 0, .int .u32 (P.c : Nat), .int .u32 (so : Nat), .int .u32 0, .int .i64 0, .slice none 0 0] 67 (0, 0)) := heap_setCell_same _ _ _ _ _ _ ud
        have eg1 : (wd.setCell ⟨b, 2, none⟩ (.int .u32 (so : Nat))).heap[gs]? = _ := ((Off.setCell b 2 wd _).block gs hgd (by simp; exact n1')).trans gd
        have eg2 : ((wd.setCell ⟨b, 2, none⟩ (.int .u32 (so : Nat))).setCell ⟨gs, 0, none⟩ (.int .u8 (x0 : Nat))).heap[gs]? = some (.cells #[.int .u8 (x0 : Nat), .int .u8 (dsg P 1 : Nat), .int .u8 (dsg P 2 : Nat), .int .u8 (dsg P 3 : Nat)] 5 (0, 0)) := heap_setCell_same _ _ _ _ _ _ eg1
        have eb2 : ((wd.setCell ⟨b, 2, none⟩ (.int .u32 (so : Nat))).setCell ⟨gs, 0, none⟩ (.int .u8 (x0 : Nat))).heap[b]? = _ := ((Off.setCell gs 0 _ _).block b (Nat.lt_of_lt_of_le hbd (Off.setCell b 2 wd _).size) (by simp; exact n1)).trans eb1
        refine ⟨(Off.refl _ _ |>.set (by simp)).set (by simp), ?_, row8_of4 (osig_byte P true) (osig_zero P HE.out.2) (osig_succ P 1 (by omega)) (osig_succ P 2 (by omega)) (osig_succ P 3 (by omega)) (cell_of_row _ _ 0 _ _ _ eg2) (cell_of_row _ _ 1 _ _ _ eg2) (cell_of_row _ _ 2 _ _ _ eg2) (cell_of_row _ _ 3 _ _ _ eg2)⟩
        rw [show oses s true = so from (if_pos rfl).trans HE.out.1]
        exact eb2
    case rest =>
      obtain ⟨bbd, yd, ed, gd, ud, hbd, hgd, ged, hb2⟩ := HW.out
      have O := hcut.out.1
      have ec := (O.block w.heap.size (Array.getElem?_eq_some_iff.1 ed).1 (by simp; exact ⟨n2', n3'⟩)).trans ed
      have bbc : Below w.heap.size w wc := O.below bbd (by simp; omega) bbd.size
      have yc := HY.out.1.newd (Off.of_below bbc)
      have e4 : wc.cell? ⟨d, 4, none⟩ = some (.int .u32 (P.n : Nat)) := cell_of_row wc d 4 _ _ _ yc.dev
      have e19 : wc.cell? ⟨d, 19, none⟩ = some (.int .u32 (s.ss : Nat)) := cell_of_row wc d 19 _ _ _ yc.dev
      have e20 : wc.cell? ⟨d, 20, none⟩ = some (.int .u32 (s.nm : Nat)) := cell_of_row wc d 20 _ _ _ yc.dev
      have o0 : wc.cell? ⟨w.heap.size, 0, none⟩ = some (.int .i64 7) := cell_of_row wc _ 0 _ _ _ ec
      have o1 : wc.cell? ⟨w.heap.size, 1, none⟩ = some (.int .i64 N) := cell_of_row wc _ 1 _ _ _ ec
      have o2 : wc.cell? ⟨w.heap.size, 2, none⟩ = some (.int .i64 fl) := cell_of_row wc _ 2 _ _ _ ec
      have o3 : wc.cell? ⟨w.heap.size, 3, none⟩ = some (.bool odd) := cell_of_row wc _ 3 _ _ _ ec
      have o4 : wc.cell? ⟨w.heap.size, 4, none⟩ = some (.slice a len cap) := cell_of_row wc _ 4 _ _ _ ec
      have u0 : wc.cell? ⟨b, 0, none⟩ = some (.int .i64 0) := cell_of_row wc _ 0 _ _ _ hcut.out.2.1
      have u1 : wc.cell? ⟨b, 1, none⟩ = some (.int .u32 (P.c : Nat)) := cell_of_row wc _ 1 _ _ _ hcut.out.2.1
      have u2 : wc.cell? ⟨b, 2, none⟩ = some (.int .u32 (oses s odd : Nat)) := cell_of_row wc _ 2 _ _ _ hcut.out.2.1
      have u3 : wc.cell? ⟨b, 3, none⟩ = some (.int .u32 0) := cell_of_row wc _ 3 _ _ _ hcut.out.2.1
      have u4 : wc.cell? ⟨b, 4, none⟩ = some (.int .i64 0) := cell_of_row wc _ 4 _ _ _ hcut.out.2.1
      have u5 : wc.cell? ⟨b, 5, none⟩ = some (.slice none 0 0) := cell_of_row wc _ 5 _ _ _ hcut.out.2.1
      have fzb := fun j => frozen_of_row wc b j _ _ hcut.out.2.1
      have z0 := fzb 0
      have z2 := fzb 2
      have z3 := fzb 3
      have z4 := fzb 4
      have z5 := fzb 5
      have hr := HY.out.2.2.2.2.1.below bbc
      have ha := HY.out.2.2.2.2.2.1
      have lwc : w.heap.size < wc.heap.size := (Array.getElem?_eq_some_iff.1 ec).1
      have n6 : ¬ w.heap.size = wc.heap.size := by omega
      have hF : ∀ (k c ss nn : Nat) (f : Int) (a' : Option Addr) (len' cap' : Nat) (bs' : Nat → Nat) (wx : World), Off [b] wc wx → Row8 wx a' len' cap' bs' → c < 4294967296 → ss < 4294967296 → nn < 4294967296 → Calls Tryz.prog 47 #[.agg #[.int .i64 (k : Nat), .int .u32 (c : Nat), .int .u32 (ss : Nat), .int .u32 (nn : Nat), .int .i64 f, .slice a' len' cap']] wx fun e w' => ∃ v, e = .returned v ∧ Hid (w'.heap[w.heap.size]? = some (.cells #[.int .i64 7, .int .i64 N, .int .i64 fl, .bool odd, .slice a len cap, .int .i64 p, .int .u32 (x : Nat)] 50 (0, 0)) ∧ Below w.heap.size w w' ∧ Fr w' w.heap.size v (encI k c ss nn f len' bs')) := by
        intro k c ss nn f a' len' cap' bs' wx ox rx hc hs hn
        refine (frame_any k c ss nn f a' len' cap' bs' wx rx hc hs hn).mono ?_
        rintro e w' ⟨v, rfl, h5⟩
        have bx : Below w.heap.size w wx := ox.below bbc (by simp; omega) bbc.size
        have sx := ox.size
        exact ⟨v, rfl, (h5.out.2.block w.heap.size (by omega)).trans ((ox.block w.heap.size lwc (by simp; exact n2')).trans ec), bx.trans (h5.out.2.mono bx.size), own_base h5.out.1 bx.size⟩
      have hRS : ∀ wx, Off [b] wc wx → Row8 wx (some ⟨gs, 0, none⟩) 4 4 (osig P odd) := fun wx ox => hcut.out.2.2.off ox (fun y hy => by cases hy; simp; exact n1')
      have hRD : ∀ wx, Off [b] wc wx → Row8 wx a len cap bs := fun wx ox => hr.off0 ox (fun y hy h0 => by have := ha y hy h0; simp; omega)
      have HF : Hid (_) := And.intro hF (And.intro hRS (And.intro hRD (And.intro HY.out.2.2.2.2.2.2 (And.intro HSS.out (And.intro hr.byte (And.intro (oses_lt HSS.out odd) bbc))))))
      have HLW : Hid (_) := lwc
      clear hF hRS hRD hr ha O ec bbc yc hcut bbd yd ed gd ud hbd hgd ged hb2 fzb HW HY HB lwc HSS HE q0 zq0 zu2
      obtain ⟨nN, nu, hnu, hlu, hN1, hN2, hA1, hA2⟩ := nu_facts s N
      have HN : Hid (_) := And.intro hnu hlu
      clear hnu hlu
      go_wp2_with fail
      have keepS : ∀ (wx : World) (i : Nat) (v : Value), (wx.cell? ⟨d, 20, none⟩ = some (.int .u32 (s.nm : Nat)) ∧ wx.cell? ⟨w.heap.size, 1, none⟩ = some (.int .i64 N) ∧ wx.cell? ⟨w.heap.size, 2, none⟩ = some (.int .i64 fl) ∧ wx.cell? ⟨w.heap.size, 4, none⟩ = some (.slice a len cap)) → ((wx.setCell ⟨b, i, none⟩ v).cell? ⟨d, 20, none⟩ = some (.int .u32 (s.nm : Nat)) ∧ (wx.setCell ⟨b, i, none⟩ v).cell? ⟨w.heap.size, 1, none⟩ = some (.int .i64 N) ∧ (wx.setCell ⟨b, i, none⟩ v).cell? ⟨w.heap.size, 2, none⟩ = some (.int .i64 fl) ∧ (wx.setCell ⟨b, i, none⟩ v).cell? ⟨w.heap.size, 4, none⟩ = some (.slice a len cap)) := fun wx i v h => ⟨(World.cell?_setCell_far _ _ _ _ n4).trans h.1, (World.cell?_setCell_far _ _ _ _ n2).trans h.2.1, (World.cell?_setCell_far _ _ _ _ n2).trans h.2.2.1, (World.cell?_setCell_far _ _ _ _ n2).trans h.2.2.2⟩
      have keepD : ∀ (wx : World), (wx.cell? ⟨d, 20, none⟩ = some (.int .u32 (s.nm : Nat)) ∧ wx.cell? ⟨w.heap.size, 1, none⟩ = some (.int .i64 N) ∧ wx.cell? ⟨w.heap.size, 2, none⟩ = some (.int .i64 fl) ∧ wx.cell? ⟨w.heap.size, 4, none⟩ = some (.slice a len cap)) → (wx.drew.cell? ⟨d, 20, none⟩ = some (.int .u32 (s.nm : Nat)) ∧ wx.drew.cell? ⟨w.heap.size, 1, none⟩ = some (.int .i64 N) ∧ wx.drew.cell? ⟨w.heap.size, 2, none⟩ = some (.int .i64 fl) ∧ wx.drew.cell? ⟨w.heap.size, 4, none⟩ = some (.slice a len cap)) := fun wx h => h
      have HS0 : wc.cell? ⟨d, 20, none⟩ = some (.int .u32 (s.nm : Nat)) ∧ wc.cell? ⟨w.heap.size, 1, none⟩ = some (.int .i64 N) ∧ wc.cell? ⟨w.heap.size, 2, none⟩ = some (.int .i64 fl) ∧ wc.cell? ⟨w.heap.size, 4, none⟩ = some (.slice a len cap) := ⟨e20, o1, o2, o4⟩
      have HS : wc.drew.cell? ⟨d, 20, none⟩ = some (.int .u32 (s.nm : Nat)) ∧ wc.drew.cell? ⟨w.heap.size, 1, none⟩ = some (.int .i64 N) ∧ wc.drew.cell? ⟨w.heap.size, 2, none⟩ = some (.int .i64 fl) ∧ wc.drew.cell? ⟨w.heap.size, 4, none⟩ = some (.slice a len cap) := ⟨e20, o1, o2, o4⟩
      clear e20 o1 o2 o4
      go_region_held3 (fun w' => w'.cell? ⟨d, 20, none⟩ = some (.int .u32 (s.nm : Nat)) ∧ w'.cell? ⟨w.heap.size, 1, none⟩ = some (.int .i64 N) ∧ w'.cell? ⟨w.heap.size, 2, none⟩ = some (.int .i64 fl) ∧ w'.cell? ⟨w.heap.size, 4, none⟩ = some (.slice a len cap)) (repeat (first | with_reducible assumption | with_reducible refine keepD _ ?_ | with_reducible refine keepS _ _ _ ?_)) (fail)
      all_goals
        go_wp2_with fail
        refine (HF.out.1 4 P.c (oses s odd) nu fl a len cap bs _ (by repeat (first | exact Off.refl _ _ | refine Off.set ?_ (by simp) | refine Off.trans ?_ (Off.drew _ _))) (HF.out.2.2.1 _ (by repeat (first | exact Off.refl _ _ | refine Off.set ?_ (by simp) | refine Off.trans ?_ (Off.drew _ _)))) HF.out.2.2.2.1.c HF.out.2.2.2.2.2.2.1 HN.out.2).mono ?_
        rintro e w5 ⟨v, rfl, h5⟩
        have r0 : w5.cell? ⟨w.heap.size, 0, none⟩ = some (.int .i64 7) := cell_of_row w5 _ 0 _ _ _ h5.out.1
        have H5 : Hid (_) := h5.out
        clear h5
        obtain ⟨a6, c6, rfl, r6⟩ := H5.out.2.2.row (encI_byte _ _ _ _ _ _ _ HF.out.2.2.2.2.2.1)
        have hlen := encI_len 4 P.c (oses s odd) nu fl len bs
        have hbyt := encI_byte 4 P.c (oses s odd) nu fl len bs HF.out.2.2.2.2.2.1
        have p5 : w5.cell? ⟨w.heap.size, 5, none⟩ = some (.int .i64 p) := cell_of_row w5 _ 5 _ _ _ H5.out.1
        have p6 : w5.cell? ⟨w.heap.size, 6, none⟩ = some (.int .u32 (x : Nat)) := cell_of_row w5 _ 6 _ _ _ H5.out.1
        generalize he6 : encI 4 P.c (oses s odd) nu fl len bs = f6 at *
        have H8 : Hid (_) := he6
        clear he6
        have HL7 : Hid (f6.1 ≤ 140737488351232) := Nat.le_trans hlen (by omega)
        by_cases hroom : x ≠ 0 ∧ PM.bl x ≤ 8 * f6.1
        · have hU := burst_yes a6 f6.1 c6 p x f6.2 w5 r6 (by omega) HX.out hroom.1 hroom.2
          have H6 : Hid (_) := H5.out.2.1
          have HR : Hid (_) := hroom
          clear H5 r6 hlen hroom
          go_wp2_with (go_at_call 40; refine hU.mono ?_; rintro e w7 ⟨v7, rfl, b7, h7⟩; have H7 : Hid (_) := And.intro b7 h7; clear b7 h7)
          go_ret2
          obtain ⟨b7, f7, d7, o7, y7, V7⟩ := H7.out
          exact ⟨v7, rfl, H6.out.trans (b7.mono H6.out.size), (f6.1, f7), own_base o7 H6.out.size, y7, HL7.out, ⟨fun e => by omega, fun e => by omega, fun e => by omega, fun e => by omega, fun e => by omega, fun e => by omega, fun e => by omega, (fun _ _ => (spoilt_f H8.out HX.out HR.out.1 HR.out.2 V7 : DE f7 f6.1 = 42)), (fun _ hC => by rw [HN.out.1, H8.out] at hC; exact absurd HR.out hC)⟩⟩
        · have hU := burst_no a6 f6.1 c6 p x w5 (by omega) HX.out (by omega)
          have H6 : Hid (_) := And.intro H5.out.2.1 (And.intro H5.out.2.2 hbyt)
          have HR : Hid (_) := hroom
          clear H5 r6 hlen hroom
          go_wp2_with (go_at_call 40; refine hU.mono ?_; rintro e w' ⟨rfl, hw⟩; have hw := hw.symm; subst hw)
          go_ret2
          exact ⟨_, rfl, H6.out.1, f6, H6.out.2.1, H6.out.2.2, HL7.out, ⟨fun e => by omega, fun e => by omega, fun e => by omega, fun e => by omega, fun e => by omega, fun e => by omega, fun e => by omega, (fun _ hC => by rw [HN.out.1, H8.out] at hC; exact absurd hC HR.out), (fun _ _ => by rw [HN.out.1, H8.out])⟩⟩
end Go.Proofs.YtndjepeolamedaaGreat
namespace Go.Proofs.YtndjepeolamedaaGreat
set_option maxRecDepth 100000
open Go.RowKit
theorem frame_op (d m g n mx : Nat) (P : Pm) (U : List Nat) (s : Sd) (K N fl : Int) (odd : Bool) (a : Option Addr) (len cap : Nat) (bs : Nat → Nat) (p : Int) (x : Nat) (w : World) (h : RW w d m g n mx P U s) (hr : Row8 w a len cap bs) (ha : ∀ y, a = some y → 0 < len → y.block < w.heap.size) (hss : s.ss < 4294967296) (hx : x < 4294967296) (hlen : len ≤ 140737488351232) (hk : 1 ≤ K ∧ K ≤ 7) :
    Calls Tryz.prog 23 #[.pointer (some ⟨d, 0, none⟩), .agg #[.int .i64 K, .int .i64 N, .int .i64 fl, .bool odd, .slice a len cap, .int .i64 p, .int .u32 (x : Nat)]] w fun e w' => ∃ v, e = .returned (.tuple #[v, .bool true]) ∧ Hid (Below w.heap.size w w' ∧ ∃ f, Fr w' w.heap.size v f ∧ (∀ i, i < f.1 → f.2 i < 256) ∧ f.1 ≤ 140737488351232 ∧ Fo P s K N fl odd len bs x f) := by
  have : K = 1 ∨ K = 2 ∨ K = 3 ∨ K = 4 ∨ K = 5 ∨ K = 6 ∨ K = 7 := by omega
  rcases this with rfl | rfl | rfl | rfl | rfl | rfl | rfl
  · exact frame1_any d m g n mx P U s N fl odd a len cap bs p x w h hr ha hss
  · exact frame2_any d m g n mx P U s N fl odd a len cap bs p x w h hr ha hss
  · exact frame3_any d m g n mx P U s N fl odd a len cap bs p x w h hr ha hss
  · exact frame4_any d m g n mx P U s N fl odd a len cap bs p x w h hr ha hss
  · exact frame5_any d m g n mx P U s N fl odd a len cap bs p x w h hr ha hss
  · exact frame6_any d m g n mx P U s N fl odd a len cap bs p x w h hr ha hss hlen
  · exact frame7_any d m g n mx P U s N fl odd a len cap bs p x w h hr ha hss hx
end Go.Proofs.YtndjepeolamedaaGreat
namespace Go.Proofs.YtndjepeolamedaaGreat
set_option maxRecDepth 100000
open Go.RowKit
theorem dsay_byte (P : Pm) (s : Sd) (k num fl len : Nat) (bs : Nat → Nat) (hb : ∀ i, i < len → bs i < 256) : ∀ i, i < (dsay P s k num fl len bs).1 → (dsay P s k num fl len bs).2 i < 256 := encF_byte _ _ _ _ _ _ _ hb
theorem no_byte {bs : Nat → Nat} : ∀ i, i < 0 → bs i < 256 := fun i hi => absurd hi (Nat.not_lt_zero i)
theorem fm0_byte : ∀ i, i < fm0.1 → fm0.2 i < 256 := fun i hi => absurd hi (Nat.not_lt_zero i)
theorem dbegin_byte (P : Pm) (mx n : Nat) (s : Sd) : ∀ i, i < (dbegin P mx n s).f.1 → (dbegin P mx n s).f.2 i < 256 := by
  unfold dbegin
  split
  · exact dsay_byte _ _ _ _ _ _ _ no_byte
  · split
    · exact fm0_byte
    · exact dsay_byte _ _ _ _ _ _ _ (dsg_byte P)
theorem dwish_byte (P : Pm) (mx n : Nat) (s : Sd) : ∀ i, i < (dwish P mx n s).f.1 → (dwish P mx n s).f.2 i < 256 := by
  unfold dwish
  split
  · exact dsay_byte _ _ _ _ _ _ _ (dsg_byte P)
  · split
    · exact dsay_byte _ _ _ _ _ _ _ no_byte
    · exact dbegin_byte P mx n _
theorem drefuse_byte (P : Pm) (s : Sd) (e : Int) : ∀ i, i < (drefuse P s e).f.1 → (drefuse P s e).f.2 i < 256 := dsay_byte _ _ _ _ _ _ _ no_byte
theorem dtake_byte (P : Pm) (mx n : Nat) (s : Sd) (hap : ∀ i, i < P.i → s.ap i < 256) (k ss num fl len : Nat) (bs : Nat → Nat) : ∀ i, i < (dtake P mx n s k ss num fl len bs).f.1 → (dtake P mx n s k ss num fl len bs).f.2 i < 256 := by
  unfold dtake
  split
  · split
    · exact dwish_byte P mx n s
    · exact drefuse_byte P s _
  · split
    · split
      · exact dsay_byte _ _ _ _ _ _ _ no_byte
      · exact drefuse_byte P s _
    · split
      · exact dsay_byte _ _ _ _ _ _ _ no_byte
      · split
        · exact dsay_byte _ _ _ _ _ _ _ hap
        · split
          · exact dsay_byte _ _ _ _ _ _ _ no_byte
          · exact drefuse_byte P s _
theorem drecv_byte (P : Pm) (mx n : Nat) (s : Sd) (hap : ∀ i, i < P.i → s.ap i < 256) (len : Nat) (bs : Nat → Nat) : ∀ i, i < (drecv P mx n s len bs).f.1 → (drecv P mx n s len bs).f.2 i < 256 := by
  have hh : ∀ i, i < (dhear P mx n s len bs).f.1 → (dhear P mx n s len bs).f.2 i < 256 := by
    unfold dhear
    split
    · exact fm0_byte
    · split
      · exact fm0_byte
      · split
        · exact fm0_byte
        · exact dtake_byte P mx n s hap _ _ _ _ _ _
  unfold drecv
  split
  · exact fm0_byte
  · split
    · exact hh
    · exact hh
set_option maxHeartbeats 6400000 in
theorem step_recv (w0 w : World) (L : Pl) (s : Sd) (K N fl : Int) (odd : Bool) (a : Option Addr) (len cap : Nat) (bs : Nat → Nat) (p : Int) (x : Nat) (h : Two w0 w L s) (hr : Row8 w a len cap bs) (hl : ∀ y, a = some y → 0 < len → y.block < w0.heap.size) (hk : 1 ≤ K ∧ K ≤ 7) (hx : x < 4294967296) (hlen : len ≤ 140737488351232) (hv : Iv L.P s) (hL : s.L.length < 800000) (ht : s.ms.t < 9223372036854774000) :
    Calls Tryz.prog 29 #[.pointer (some ⟨L.d, 0, none⟩), .pointer (some ⟨L.m, 0, none⟩), .pointer (some ⟨L.e, 0, none⟩), .agg #[.int .i64 K, .int .i64 N, .int .i64 fl, .bool odd, .slice a len cap, .int .i64 p, .int .u32 (x : Nat)]] w fun e w' => e = .returned (.bool true) ∧ Hid (∃ f, (∀ i, i < f.1 → f.2 i < 256) ∧ Fo L.P s K N fl odd len bs x f ∧ Two w0 w' L (drecv L.P L.mx L.n s f.1 f.2).s) := by
  obtain ⟨i0, hi, hz0, hz1, hz2⟩ := info_parts info_u8
  have hbd := build0D
  obtain ⟨U, V, T⟩ := h
  have b0 : Below w.heap.size w (w.alloc (.cells #[.int .i64 K, .int .i64 N, .int .i64 fl, .bool odd, .slice a len cap, .int .i64 p, .int .u32 (x : Nat)] 50)) := (Below.refl _ _).alloc (Nat.le_refl _) _
  have T1 := T.below b0
  have hFr := frame_op L.e L.r L.q L.n L.mx L.P V s K N fl odd a len cap bs p x _ T1.rw (hr.below b0) (fun y hy h0 => by have := hl y hy h0; have := T1.bel.size; omega) hv.ss hx hlen hk
  have hP : Pok L.P := by obtain ⟨B, y⟩ := T.dv; exact y.pok
  have hap : ∀ i, i < L.P.i → s.ap i < 256 := by obtain ⟨B, y⟩ := T.dv; exact y.apb
  have H0 : Hid (_) := And.intro T1 (And.intro hv (And.intro hL (And.intro ht (And.intro hP hap))))
  clear T b0 T1 hr hl hk hx hlen hv hL ht hP hap
  go_enter Tryz.func29, Tryz.ntmps29
  go_wp2_with fail
  refine hFr.mono ?_
  rintro e w2 ⟨v, rfl, h2⟩
  generalize w.alloc (.cells #[.int .i64 K, .int .i64 N, .int .i64 fl, .bool odd, .slice a len cap, .int .i64 p, .int .u32 (x : Nat)] 50) = w1 at *
  obtain ⟨b2, f, F2, y2, l2, fo2⟩ := h2.out
  obtain ⟨av, cv, rfl, rv⟩ := F2.row y2
  have T2 := H0.out.1.below b2
  have hfar : ∀ y, av = some y → w1.heap.size ≤ y.block := fun y hy => (own_far F2 y hy).1
  have hbelA : Below w2.heap.size w2 (w2.alloc (.cells #[] 5)) := (Below.refl _ _).alloc (Nat.le_refl _) _
  have R0 := rv.below hbelA
  have O0 := own0D w2.heap.size f.2 w2 (Nat.le_refl _)
  have hszA := hbelA.size
  have H2 : Hid (_) := And.intro T2 (And.intro rv (And.intro y2 (And.intro fo2 hfar)))
  clear hFr h2 b2 F2 T2 rv y2 fo2 hfar
  go_wp2_with (at_builtin; refine wpList_append_row8 rfl (.tmp 24) (.tmp 25) 22 rfl w2.heap.size 5 i0 (.int .u8 0) Tryz.underlying22 hi hz0 hz1 hz2 rfl _ 0 _ rfl O0 av f.1 cv f.2 rfl R0 (by unfold maxLen; omega) (by omega) hszA ?_)
  intro v3 w3 hown3 hgrow3
  have b3 : Below w2.heap.size w2 w3 := hbelA.grown hgrow3 hszA (fun k hk => (O0.lt k hk).1)
  rw [show CB f.2 0 = [] from rfl, List.nil_append] at hown3
  have own3 : w3.ownsRow w2.heap.size 5 1 v3 f.1 (CB f.2 f.1) := by simpa using hown3
  obtain ⟨T2, rv, y2, fo2, hfar⟩ := H2.out
  obtain ⟨T1, hv, hL, ht, hP, hap⟩ := H0.out
  obtain ⟨a3, c3, rfl, r3⟩ := own_row8 own3 y2
  have T3 := T2.below b3
  have rv3 := rv.below b3
  have hRc := receive4_any L.d L.m L.g L.n L.mx L.P U s a3 f.1 c3 f.2 w3 T3.dv r3 (hv.sent hP) hv.od hL ht
  have hby := drecv_byte L.P L.mx L.n s hap f.1 f.2
  have hRF : ∀ w4 U4, Gr U w3 U4 w4 → DV w4 L.d L.m L.g L.n L.mx L.P U4 (drecv L.P L.mx L.n s f.1 f.2).s → Bt w0 w4 L (drecv L.P L.mx L.n s f.1 f.2).s s [] U4 V ∧ Calls Tryz.prog 25 #[.pointer (some ⟨L.e, 0, none⟩), .slice av f.1 cv] w4 fun e w' => ∃ v, e = .returned (.tuple #[v, .int .i64 (drecv L.P L.mx L.n s f.1 f.2).e]) ∧ Hid (OutR V w4 w' L.e L.r L.q L.n L.mx L.P (drecv L.P L.mx L.n s f.1 f.2).s (drecv L.P L.mx L.n s f.1 f.2).f v) := by
    intro w4 U4 g4 x4
    have T4 := T3.dev g4 x4
    refine ⟨T4, rreceive_any L.e L.r L.q L.n L.mx L.P V s av f.1 cv f.2 w4 T4.rw (rv3.off g4.off (fun y hy hm => ?_)) (hv.sent hP) hv.od hL ht hv.ss⟩
    have := hfar y hy
    have := T1.dv.ult _ hm
    omega
  have HR : Hid (_) := hRF
  clear hRF
  have H3 : Hid (_) := And.intro T3 (And.intro hby (And.intro y2 fo2))
  generalize hRR : drecv L.P L.mx L.n s f.1 f.2 = R at *
  have HRR : Hid (_) := hRR
  clear hRR
  clear hown3 hgrow3 b3 own3 T2 rv y2 fo2 hfar T1 hv hL ht hP hap r3 T3 rv3 O0 R0 hbelA hszA H0 H2 hby l2 hbd
  go_wp2_with fail
  refine hRc.mono ?_
  rintro e w4 ⟨vx, rfl, h4⟩
  obtain ⟨U4, g4, x4, fx, kx⟩ := h4.out
  obtain ⟨T4, hR2⟩ := HR.out w4 U4 g4 x4
  obtain ⟨ax, cx, rfl, _⟩ := fx.row H3.out.2.1
  have H4 : Hid (_) := And.intro T4 (And.intro fx (And.intro H3.out g4.off.size))
  clear hRc h4 g4 x4 fx kx HR T4 H3
  go_wp2_with fail
  refine hR2.mono ?_
  rintro e w5 ⟨vy, rfl, h5⟩
  obtain ⟨T4, fx, ⟨T3, hby, y2, fo2⟩, hs4⟩ := H4.out
  obtain ⟨V5, g5, x5, fy, ky⟩ := h5.out
  have T5 := T4.ref g5 x5
  have fx5 : Fr w5 w3.heap.size (.slice ax R.f.1 cx) R.f := own_offk fx g5.off (fun k hk hm => by
    have := fx.ge k hk
    have := T3.rw.ult k hm
    omega)
  obtain ⟨ax', cx', ex, rx⟩ := fx5.row hby
  simp only [Value.slice.injEq, true_and] at ex
  obtain ⟨rfl, rfl⟩ := ex
  obtain ⟨ay, cy, rfl, ry⟩ := fy.row hby
  have q1 := conv_any ax R.f.1 cx R.f.2 w5 rx
  have q2 := conv_any ay R.f.1 cy R.f.2 w5 ry
  obtain ⟨X, hX⟩ : ∃ X, BA R.f.2 R.f.1 = X := ⟨_, rfl⟩
  rw [hX] at q1 q2
  have H5 : Hid (_) := And.intro y2 (And.intro fo2 T5)
  clear hR2 h5 T4 fx T3 hby y2 fo2 hs4 g5 x5 fy ky T5 fx5 rx ry hX H4
  go_wp2_with fail
  go_ret
  exact ⟨by simp, f, H5.out.1, H5.out.2.1, U4, V5, by rw [HRR.out]; exact H5.out.2.2⟩
end Go.Proofs.YtndjepeolamedaaGreat
namespace Go.Proofs.YtndjepeolamedaaGreat
set_option maxRecDepth 100000
open Go.RowKit
theorem dresetAll (d m g n mx : Nat) (P : Pm) (U : List Nat) (s : Sd) (k : Int) (w : World) (h : DV w d m g n mx P U s) (hk : k ≤ 9223372036854775807) (ht : s.ms.t < 9223372036854774000) :
    Calls Tryz.prog 71 #[.pointer (some ⟨d, 0, none⟩), .int .i64 k] w fun e w' => e = .returned (.int .i64 (dresetE mx n s k)) ∧ Hid (∃ U', Gr U w U' w' ∧ DV w' d m g n mx P U' (dresetS mx n s k)) := by
  by_cases h0 : k < 0
  · refine (reset_neg d k w h0).mono ?_
    rintro e w' ⟨rfl, rfl⟩
    rw [show dresetE mx n s k = 2 from if_pos h0, show dresetS mx n s k = s from if_pos h0]
    exact ⟨rfl, U, Gr.refl _ _, h⟩
  · exact dvreset_any d m g n mx P U s k w h (by omega) hk ht
theorem rresetAll (d m g n mx : Nat) (P : Pm) (U : List Nat) (s : Sd) (k : Int) (w : World) (h : RW w d m g n mx P U s) (hk : k ≤ 9223372036854775807) (ht : s.ms.t < 9223372036854774000) :
    Calls Tryz.prog 72 #[.pointer (some ⟨d, 0, none⟩), .int .i64 k] w fun e w' => e = .returned (.int .i64 (dresetE mx n s k)) ∧ Hid (∃ U', Gr U w U' w' ∧ RW w' d m g n mx P U' (dresetS mx n s k)) := by
  by_cases h0 : k < 0
  · refine (rreset_neg d k w h0).mono ?_
    rintro e w' ⟨rfl, rfl⟩
    rw [show dresetE mx n s k = 2 from if_pos h0, show dresetS mx n s k = s from if_pos h0]
    exact ⟨rfl, U, Gr.refl _ _, h⟩
  · exact rvreset_any d m g n mx P U s k w h (by omega) hk ht
set_option maxHeartbeats 6400000 in
theorem step8_any (w0 w : World) (L : Pl) (s : Sd) (N fl : Int) (odd : Bool) (a : Option Addr) (len cap : Nat) (bs : Nat → Nat) (p : Int) (x : Nat) (h : Two w0 w L s) (hr : Row8 w a len cap bs) (hl : ∀ y, a = some y → 0 < len → y.block < w0.heap.size) (hss : s.ss < 4294967296) (hN : N ≤ 9223372036854775807) (hL : s.L.length < 800000) :
    Calls Tryz.prog 29 #[.pointer (some ⟨L.d, 0, none⟩), .pointer (some ⟨L.m, 0, none⟩), .pointer (some ⟨L.e, 0, none⟩), .agg #[.int .i64 8, .int .i64 N, .int .i64 fl, .bool odd, .slice a len cap, .int .i64 p, .int .u32 (x : Nat)]] w fun e w' => e = .returned (.bool true) ∧ Hid (Two w0 w' L (dtickS L.P s N)) := by
  have P0 := h.ph #[.int .i64 8, .int .i64 N, .int .i64 fl, .bool odd, .slice a len cap, .int .i64 p, .int .u32 (x : Nat)] hr hl
  obtain ⟨V, rv, _⟩ := P0.ref
  have hFr := frameN_any L.e L.r L.q L.n L.mx L.P V s 8 N fl odd a len cap bs p x (w.alloc (.cells #[.int .i64 8, .int .i64 N, .int .i64 fl, .bool odd, .slice a len cap, .int .i64 p, .int .u32 (x : Nat)] 50)) rv P0.row (fun y hy h0 => by
    obtain ⟨U', V', T⟩ := P0.bt
    have := hl y hy h0; have := T.bel.size; omega) hss (by omega)
  have HP : Hid (_) := P0
  have HB : Hid (_) := And.intro hN hL
  clear hN hL
  clear h hr hl hss P0 rv
  go_enter Tryz.func29, Tryz.ntmps29
  go_wp2_with (go_at_call 23; refine hFr.mono ?_; rintro e w2 ⟨rfl, b2⟩; have P2 := HP.out.below b2; have c0 : w2.cell? ⟨w.heap.size, 0, none⟩ = some (.int .i64 8) := cell_of_row w2 _ 0 _ _ _ P2.bx; have c1 : w2.cell? ⟨w.heap.size, 1, none⟩ = some (.int .i64 N) := cell_of_row w2 _ 1 _ _ _ P2.bx; have H2 : Hid (_) := P2; clear P2 b2 hFr HP)
  clear c0
  have cA := fun t wx (hx : Ph w0 wx L s t w.heap.size #[.int .i64 8, .int .i64 N, .int .i64 fl, .bool odd, .slice a len cap, .int .i64 p, .int .u32 (x : Nat)] a len cap bs) => (by
    obtain ⟨U, hd, hk⟩ := hx.dev
    refine (dvtick_any L.d L.m L.g L.n L.mx L.P U s N wx hd HB.out.1 HB.out.2).mono ?_
    rintro e w' ⟨rfl, h5⟩
    obtain ⟨U', g5, x5⟩ := h5.out
    exact ⟨rfl, hk U' w' _ g5 x5⟩ : Calls Tryz.prog 67 #[.pointer (some ⟨L.d, 0, none⟩), .int .i64 N] wx fun e w' => e = .returned (.int .i64 (dtickE s N)) ∧ Ph w0 w' L (dtickS L.P s N) t w.heap.size #[.int .i64 8, .int .i64 N, .int .i64 fl, .bool odd, .slice a len cap, .int .i64 p, .int .u32 (x : Nat)] a len cap bs)
  have cB := fun t wx (hx : Ph w0 wx L t s w.heap.size #[.int .i64 8, .int .i64 N, .int .i64 fl, .bool odd, .slice a len cap, .int .i64 p, .int .u32 (x : Nat)] a len cap bs) => (by
    obtain ⟨U, hd, hk⟩ := hx.ref
    refine (rvtick_any L.e L.r L.q L.n L.mx L.P U s N wx hd HB.out.1 HB.out.2).mono ?_
    rintro e w' ⟨rfl, h5⟩
    obtain ⟨U', g5, x5⟩ := h5.out
    exact ⟨rfl, hk U' w' _ g5 x5⟩ : Calls Tryz.prog 68 #[.pointer (some ⟨L.e, 0, none⟩), .int .i64 N] wx fun e w' => e = .returned (.int .i64 (dtickE s N)) ∧ Ph w0 w' L t (dtickS L.P s N) w.heap.size #[.int .i64 8, .int .i64 N, .int .i64 fl, .bool odd, .slice a len cap, .int .i64 p, .int .u32 (x : Nat)] a len cap bs)
  have P1 : Hid (_) := H2.out.drew
  have HS : w2.drew.cell? ⟨w.heap.size, 1, none⟩ = some (.int .i64 N) := cell_of_row w2.drew _ 1 _ _ _ P1.out.bx
  clear c1 H2
  obtain ⟨s2, hs2⟩ : ∃ S, (dtickS L.P s N) = S := ⟨_, rfl⟩
  obtain ⟨r, hr2⟩ : ∃ S, (dtickE s N) = S := ⟨_, rfl⟩
  rw [hs2, hr2] at cA cB
  have HE : Hid (_) := hs2
  clear hs2 hr2
  go_region_held3 (fun w' => w'.cell? ⟨w.heap.size, 1, none⟩ = some (.int .i64 N)) (assumption) (first
    | (go_at_call 67; (first | refine (cA _ _ h1.out).mono ?_ | refine (cA _ _ P1.out).mono ?_); rintro e w1 ⟨rfl, h2⟩; have HT : w1.cell? ⟨w.heap.size, 1, none⟩ = some (.int .i64 N) := cell_of_row w1 _ 1 _ _ _ h2.bx; have h1 : Hid (_) := h2; clear h2)
    | (go_at_call 68; (first | refine (cB _ _ h1.out).mono ?_ | refine (cB _ _ P1.out).mono ?_); rintro e w1 ⟨rfl, h2⟩; have HT : w1.cell? ⟨w.heap.size, 1, none⟩ = some (.int .i64 N) := cell_of_row w1 _ 1 _ _ _ h2.bx; have h1 : Hid (_) := h2; clear h2))
  all_goals
    go_wp2_with fail
    go_ret
    rw [HE.out]
    exact ⟨by simp, h1.out.two⟩
set_option maxHeartbeats 6400000 in
theorem step11_any (w0 w : World) (L : Pl) (s : Sd) (N fl : Int) (odd : Bool) (a : Option Addr) (len cap : Nat) (bs : Nat → Nat) (p : Int) (x : Nat) (h : Two w0 w L s) (hr : Row8 w a len cap bs) (hl : ∀ y, a = some y → 0 < len → y.block < w0.heap.size) (hss : s.ss < 4294967296) (hN : N ≤ 9223372036854775807) (ht : s.ms.t < 9223372036854774000) :
    Calls Tryz.prog 29 #[.pointer (some ⟨L.d, 0, none⟩), .pointer (some ⟨L.m, 0, none⟩), .pointer (some ⟨L.e, 0, none⟩), .agg #[.int .i64 11, .int .i64 N, .int .i64 fl, .bool odd, .slice a len cap, .int .i64 p, .int .u32 (x : Nat)]] w fun e w' => e = .returned (.bool true) ∧ Hid (Two w0 w' L (dresetS L.mx L.n s N)) := by
  have P0 := h.ph #[.int .i64 11, .int .i64 N, .int .i64 fl, .bool odd, .slice a len cap, .int .i64 p, .int .u32 (x : Nat)] hr hl
  obtain ⟨V, rv, _⟩ := P0.ref
  have hFr := frameN_any L.e L.r L.q L.n L.mx L.P V s 11 N fl odd a len cap bs p x (w.alloc (.cells #[.int .i64 11, .int .i64 N, .int .i64 fl, .bool odd, .slice a len cap, .int .i64 p, .int .u32 (x : Nat)] 50)) rv P0.row (fun y hy h0 => by
    obtain ⟨U', V', T⟩ := P0.bt
    have := hl y hy h0; have := T.bel.size; omega) hss (by omega)
  have HP : Hid (_) := P0
  have HB : Hid (_) := And.intro hN ht
  clear hN ht
  clear h hr hl hss P0 rv
  go_enter Tryz.func29, Tryz.ntmps29
  go_wp2_with (go_at_call 23; refine hFr.mono ?_; rintro e w2 ⟨rfl, b2⟩; have P2 := HP.out.below b2; have c0 : w2.cell? ⟨w.heap.size, 0, none⟩ = some (.int .i64 11) := cell_of_row w2 _ 0 _ _ _ P2.bx; have c1 : w2.cell? ⟨w.heap.size, 1, none⟩ = some (.int .i64 N) := cell_of_row w2 _ 1 _ _ _ P2.bx; have H2 : Hid (_) := P2; clear P2 b2 hFr HP)
  clear c0
  have cA := fun t wx (hx : Ph w0 wx L s t w.heap.size #[.int .i64 11, .int .i64 N, .int .i64 fl, .bool odd, .slice a len cap, .int .i64 p, .int .u32 (x : Nat)] a len cap bs) => (by
    obtain ⟨U, hd, hk⟩ := hx.dev
    refine (dresetAll L.d L.m L.g L.n L.mx L.P U s N wx hd HB.out.1 HB.out.2).mono ?_
    rintro e w' ⟨rfl, h5⟩
    obtain ⟨U', g5, x5⟩ := h5.out
    exact ⟨rfl, hk U' w' _ g5 x5⟩ : Calls Tryz.prog 71 #[.pointer (some ⟨L.d, 0, none⟩), .int .i64 N] wx fun e w' => e = .returned (.int .i64 (dresetE L.mx L.n s N)) ∧ Ph w0 w' L (dresetS L.mx L.n s N) t w.heap.size #[.int .i64 11, .int .i64 N, .int .i64 fl, .bool odd, .slice a len cap, .int .i64 p, .int .u32 (x : Nat)] a len cap bs)
  have cB := fun t wx (hx : Ph w0 wx L t s w.heap.size #[.int .i64 11, .int .i64 N, .int .i64 fl, .bool odd, .slice a len cap, .int .i64 p, .int .u32 (x : Nat)] a len cap bs) => (by
    obtain ⟨U, hd, hk⟩ := hx.ref
    refine (rresetAll L.e L.r L.q L.n L.mx L.P U s N wx hd HB.out.1 HB.out.2).mono ?_
    rintro e w' ⟨rfl, h5⟩
    obtain ⟨U', g5, x5⟩ := h5.out
    exact ⟨rfl, hk U' w' _ g5 x5⟩ : Calls Tryz.prog 72 #[.pointer (some ⟨L.e, 0, none⟩), .int .i64 N] wx fun e w' => e = .returned (.int .i64 (dresetE L.mx L.n s N)) ∧ Ph w0 w' L t (dresetS L.mx L.n s N) w.heap.size #[.int .i64 11, .int .i64 N, .int .i64 fl, .bool odd, .slice a len cap, .int .i64 p, .int .u32 (x : Nat)] a len cap bs)
  have P1 : Hid (_) := H2.out.drew
  have HS : w2.drew.cell? ⟨w.heap.size, 1, none⟩ = some (.int .i64 N) := cell_of_row w2.drew _ 1 _ _ _ P1.out.bx
  clear c1 H2
  obtain ⟨s2, hs2⟩ : ∃ S, (dresetS L.mx L.n s N) = S := ⟨_, rfl⟩
  obtain ⟨r, hr2⟩ : ∃ S, (dresetE L.mx L.n s N) = S := ⟨_, rfl⟩
  rw [hs2, hr2] at cA cB
  have HE : Hid (_) := hs2
  clear hs2 hr2
  go_region_held3 (fun w' => w'.cell? ⟨w.heap.size, 1, none⟩ = some (.int .i64 N)) (assumption) (first
    | (go_at_call 71; (first | refine (cA _ _ h1.out).mono ?_ | refine (cA _ _ P1.out).mono ?_); rintro e w1 ⟨rfl, h2⟩; have HT : w1.cell? ⟨w.heap.size, 1, none⟩ = some (.int .i64 N) := cell_of_row w1 _ 1 _ _ _ h2.bx; have h1 : Hid (_) := h2; clear h2)
    | (go_at_call 72; (first | refine (cB _ _ h1.out).mono ?_ | refine (cB _ _ P1.out).mono ?_); rintro e w1 ⟨rfl, h2⟩; have HT : w1.cell? ⟨w.heap.size, 1, none⟩ = some (.int .i64 N) := cell_of_row w1 _ 1 _ _ _ h2.bx; have h1 : Hid (_) := h2; clear h2))
  all_goals
    go_wp2_with fail
    go_ret
    rw [HE.out]
    exact ⟨by simp, h1.out.two⟩
set_option maxHeartbeats 6400000 in
theorem stepN_any (w0 w : World) (L : Pl) (s : Sd) (K N fl : Int) (odd : Bool) (a : Option Addr) (len cap : Nat) (bs : Nat → Nat) (p : Int) (x : Nat) (h : Two w0 w L s) (hr : Row8 w a len cap bs) (hl : ∀ y, a = some y → 0 < len → y.block < w0.heap.size) (hss : s.ss < 4294967296) (hK : ¬ (1 ≤ K ∧ K ≤ 12)) :
    Calls Tryz.prog 29 #[.pointer (some ⟨L.d, 0, none⟩), .pointer (some ⟨L.m, 0, none⟩), .pointer (some ⟨L.e, 0, none⟩), .agg #[.int .i64 K, .int .i64 N, .int .i64 fl, .bool odd, .slice a len cap, .int .i64 p, .int .u32 (x : Nat)]] w fun e w' => e = .returned (.bool true) ∧ Hid (Two w0 w' L s) := by
  have P0 := h.ph #[.int .i64 K, .int .i64 N, .int .i64 fl, .bool odd, .slice a len cap, .int .i64 p, .int .u32 (x : Nat)] hr hl
  obtain ⟨V, rv, _⟩ := P0.ref
  have hFr := frameN_any L.e L.r L.q L.n L.mx L.P V s K N fl odd a len cap bs p x (w.alloc (.cells #[.int .i64 K, .int .i64 N, .int .i64 fl, .bool odd, .slice a len cap, .int .i64 p, .int .u32 (x : Nat)] 50)) rv P0.row (fun y hy h0 => by
    obtain ⟨U', V', T⟩ := P0.bt
    have := hl y hy h0; have := T.bel.size; omega) hss (by omega)
  have HP : Hid (_) := P0
  have HK : Hid (_) := hK
  have k8 : (K == 8) = false := by simp; omega
  have k8' : (K = 8) = False := by simp; omega
  have k9 : (K == 9) = false := by simp; omega
  have k9' : (K = 9) = False := by simp; omega
  have k10 : (K == 10) = false := by simp; omega
  have k10' : (K = 10) = False := by simp; omega
  have k11 : (K == 11) = false := by simp; omega
  have k11' : (K = 11) = False := by simp; omega
  have k12 : (K == 12) = false := by simp; omega
  have k12' : (K = 12) = False := by simp; omega
  clear hK
  clear h hr hl hss P0 rv
  go_enter Tryz.func29, Tryz.ntmps29
  go_wp2_with (go_at_call 23; refine hFr.mono ?_; rintro e w2 ⟨rfl, b2⟩; have P2 := HP.out.below b2; have c0 : w2.cell? ⟨w.heap.size, 0, none⟩ = some (.int .i64 K) := cell_of_row w2 _ 0 _ _ _ P2.bx; have H2 : Hid (_) := P2; clear P2 b2 hFr HP)
  go_ret
  exact ⟨rfl, H2.out.two⟩
end Go.Proofs.YtndjepeolamedaaGreat
namespace Go.Proofs.YtndjepeolamedaaGreat
set_option maxRecDepth 100000
open Go.RowKit
theorem Ph.mem5 {w0 w : World} {L : Pl} {s t : Sd} {b : Nat} {O : Array Value} {a : Option Addr} {len cap : Nat} {bs : Nat → Nat} (h : Ph w0 w L s t b O a len cap bs) : w.cell? ⟨L.e, 5, none⟩ = some (.pointer (some ⟨L.r, 0, none⟩)) := by
  obtain ⟨V, ⟨B, x⟩, _⟩ := h.ref
  exact cell_of_row w L.e 5 _ _ _ x.dev
theorem rvarm_any (d m g n mx : Nat) (P : Pm) (U : List Nat) (s : Sd) (p : Int) (w : World) (h : RW w d m g n mx P U s) (hp : p ≤ 9223372036854775807) :
    Calls Tryz.prog 74 #[.pointer (some ⟨m, 0, none⟩), .int .i64 p] w fun e w' => e = .returned (.int .i64 (arE p)) ∧ Hid (∃ U', Gr U w U' w' ∧ RW w' d m g n mx P U' { s with ms := arS s.ms p }) := by
  obtain ⟨B, x⟩ := h
  refine (rarm_any m g n s.ms p w x.mem hp).mono ?_
  rintro e w' ⟨rfl, o, m'⟩
  refine ⟨rfl, U, Gr.same (o.more (m := [m, g, B.c]) (by simp)) x.memU, B, x.memd (o.more (by simp)) m' (A' := s.st ≠ 6) (fun hs => ?_)⟩
  obtain ⟨c1, c2, c3⟩ := x.cel hs
  have hne : B.c ∉ [m] := fun hm => by simp at hm; have := x.kc.1; rw [hm, x.km.1] at this; omega
  have e1 : (arS s.ms p).bs = s.ms.bs := by unfold arS; split <;> rfl
  have e2 : (arS s.ms p).off = s.ms.off := by unfold arS; split <;> rfl
  rw [e1, e2]
  exact ⟨c1, c2.off o hne, c3⟩
set_option maxHeartbeats 6400000 in
theorem step10_any (w0 w : World) (L : Pl) (s : Sd) (N fl : Int) (odd : Bool) (a : Option Addr) (len cap : Nat) (bs : Nat → Nat) (p : Int) (x : Nat) (h : Two w0 w L s) (hr : Row8 w a len cap bs) (hl : ∀ y, a = some y → 0 < len → y.block < w0.heap.size) (hss : s.ss < 4294967296) :
    Calls Tryz.prog 29 #[.pointer (some ⟨L.d, 0, none⟩), .pointer (some ⟨L.m, 0, none⟩), .pointer (some ⟨L.e, 0, none⟩), .agg #[.int .i64 10, .int .i64 N, .int .i64 fl, .bool odd, .slice a len cap, .int .i64 p, .int .u32 (x : Nat)]] w fun e w' => e = .returned (.bool true) ∧ Hid (Two w0 w' L (dackS s)) := by
  have P0 := h.ph #[.int .i64 10, .int .i64 N, .int .i64 fl, .bool odd, .slice a len cap, .int .i64 p, .int .u32 (x : Nat)] hr hl
  obtain ⟨V, rv, _⟩ := P0.ref
  have hFr := frameN_any L.e L.r L.q L.n L.mx L.P V s 10 N fl odd a len cap bs p x (w.alloc (.cells #[.int .i64 10, .int .i64 N, .int .i64 fl, .bool odd, .slice a len cap, .int .i64 p, .int .u32 (x : Nat)] 50)) rv P0.row (fun y hy h0 => by
    obtain ⟨U', V', T⟩ := P0.bt
    have := hl y hy h0; have := T.bel.size; omega) hss (by omega)
  have HP : Hid (_) := P0
  clear h hr hl hss P0 rv
  go_enter Tryz.func29, Tryz.ntmps29
  go_wp2_with (go_at_call 23; refine hFr.mono ?_; rintro e w2 ⟨rfl, b2⟩; have P2 := HP.out.below b2; have c0 : w2.cell? ⟨w.heap.size, 0, none⟩ = some (.int .i64 10) := cell_of_row w2 _ 0 _ _ _ P2.bx; have H2 : Hid (_) := P2; clear P2 b2 hFr HP)
  have cA := fun t wx (hx : Ph w0 wx L s t w.heap.size #[.int .i64 10, .int .i64 N, .int .i64 fl, .bool odd, .slice a len cap, .int .i64 p, .int .u32 (x : Nat)] a len cap bs) => (by
    obtain ⟨U, hd, hk⟩ := hx.dev
    refine (dvack_any L.d L.m L.g L.n L.mx L.P U s wx hd).mono ?_
    rintro e w' ⟨rfl, h5⟩
    obtain ⟨U', g5, x5⟩ := h5.out
    exact ⟨rfl, hk U' w' _ g5 x5⟩ : Calls Tryz.prog 69 #[.pointer (some ⟨L.d, 0, none⟩)] wx fun e w' => e = .returned (.int .i64 (dackE s)) ∧ Ph w0 w' L (dackS s) t w.heap.size #[.int .i64 10, .int .i64 N, .int .i64 fl, .bool odd, .slice a len cap, .int .i64 p, .int .u32 (x : Nat)] a len cap bs)
  have cB := fun t wx (hx : Ph w0 wx L t s w.heap.size #[.int .i64 10, .int .i64 N, .int .i64 fl, .bool odd, .slice a len cap, .int .i64 p, .int .u32 (x : Nat)] a len cap bs) => (by
    obtain ⟨U, hd, hk⟩ := hx.ref
    refine (rvack_any L.e L.r L.q L.n L.mx L.P U s wx hd).mono ?_
    rintro e w' ⟨rfl, h5⟩
    obtain ⟨U', g5, x5⟩ := h5.out
    exact ⟨rfl, hk U' w' _ g5 x5⟩ : Calls Tryz.prog 70 #[.pointer (some ⟨L.e, 0, none⟩)] wx fun e w' => e = .returned (.int .i64 (dackE s)) ∧ Ph w0 w' L t (dackS s) w.heap.size #[.int .i64 10, .int .i64 N, .int .i64 fl, .bool odd, .slice a len cap, .int .i64 p, .int .u32 (x : Nat)] a len cap bs)
  refine (cA _ _ H2.out).mono ?_
  rintro e w3 ⟨rfl, h3⟩
  have H3 : Hid (_) := h3
  have cC := cB _ _ h3
  clear cA cB H2 c0 h3
  go_wp2_with fail
  refine cC.mono ?_
  rintro e w4 ⟨rfl, h4⟩
  clear cC H3
  have H4 : Hid (_) := h4
  clear h4
  go_wp2_with fail
  go_ret
  exact ⟨by simp, H4.out.two⟩
set_option maxHeartbeats 6400000 in
theorem step12_any (w0 w : World) (L : Pl) (s : Sd) (N fl : Int) (odd : Bool) (a : Option Addr) (len cap : Nat) (bs : Nat → Nat) (p : Int) (x : Nat) (h : Two w0 w L s) (hr : Row8 w a len cap bs) (hl : ∀ y, a = some y → 0 < len → y.block < w0.heap.size) (hss : s.ss < 4294967296) (hN : N ≤ 9223372036854775807) :
    Calls Tryz.prog 29 #[.pointer (some ⟨L.d, 0, none⟩), .pointer (some ⟨L.m, 0, none⟩), .pointer (some ⟨L.e, 0, none⟩), .agg #[.int .i64 12, .int .i64 N, .int .i64 fl, .bool odd, .slice a len cap, .int .i64 p, .int .u32 (x : Nat)]] w fun e w' => e = .returned (.bool true) ∧ Hid (Two w0 w' L { s with ms := arS s.ms N }) := by
  have P0 := h.ph #[.int .i64 12, .int .i64 N, .int .i64 fl, .bool odd, .slice a len cap, .int .i64 p, .int .u32 (x : Nat)] hr hl
  obtain ⟨V, rv, _⟩ := P0.ref
  have hFr := frameN_any L.e L.r L.q L.n L.mx L.P V s 12 N fl odd a len cap bs p x (w.alloc (.cells #[.int .i64 12, .int .i64 N, .int .i64 fl, .bool odd, .slice a len cap, .int .i64 p, .int .u32 (x : Nat)] 50)) rv P0.row (fun y hy h0 => by
    obtain ⟨U', V', T⟩ := P0.bt
    have := hl y hy h0; have := T.bel.size; omega) hss (by omega)
  have HP : Hid (_) := P0
  have HB : Hid (_) := hN
  clear hN
  clear h hr hl hss P0 rv
  go_enter Tryz.func29, Tryz.ntmps29
  go_wp2_with (go_at_call 23; refine hFr.mono ?_; rintro e w2 ⟨rfl, b2⟩; have P2 := HP.out.below b2; have c0 : w2.cell? ⟨w.heap.size, 0, none⟩ = some (.int .i64 12) := cell_of_row w2 _ 0 _ _ _ P2.bx; have c1 : w2.cell? ⟨w.heap.size, 1, none⟩ = some (.int .i64 N) := cell_of_row w2 _ 1 _ _ _ P2.bx; have H2 : Hid (_) := P2; clear P2 b2 hFr HP)
  clear c0
  have cA := fun t wx (hx : Ph w0 wx L s t w.heap.size #[.int .i64 12, .int .i64 N, .int .i64 fl, .bool odd, .slice a len cap, .int .i64 p, .int .u32 (x : Nat)] a len cap bs) => (by
    obtain ⟨U, hd, hk⟩ := hx.dev
    refine (dvarm_any L.d L.m L.g L.n L.mx L.P U s N wx hd HB.out).mono ?_
    rintro e w' ⟨rfl, h5⟩
    obtain ⟨U', g5, x5⟩ := h5.out
    exact ⟨rfl, hk U' w' _ g5 x5⟩ : Calls Tryz.prog 73 #[.pointer (some ⟨L.m, 0, none⟩), .int .i64 N] wx fun e w' => e = .returned (.int .i64 (arE N)) ∧ Ph w0 w' L { s with ms := arS s.ms N } t w.heap.size #[.int .i64 12, .int .i64 N, .int .i64 fl, .bool odd, .slice a len cap, .int .i64 p, .int .u32 (x : Nat)] a len cap bs)
  have cB := fun t wx (hx : Ph w0 wx L t s w.heap.size #[.int .i64 12, .int .i64 N, .int .i64 fl, .bool odd, .slice a len cap, .int .i64 p, .int .u32 (x : Nat)] a len cap bs) => (by
    obtain ⟨U, hd, hk⟩ := hx.ref
    refine (rvarm_any L.e L.r L.q L.n L.mx L.P U s N wx hd HB.out).mono ?_
    rintro e w' ⟨rfl, h5⟩
    obtain ⟨U', g5, x5⟩ := h5.out
    exact ⟨rfl, hk U' w' _ g5 x5⟩ : Calls Tryz.prog 74 #[.pointer (some ⟨L.r, 0, none⟩), .int .i64 N] wx fun e w' => e = .returned (.int .i64 (arE N)) ∧ Ph w0 w' L t { s with ms := arS s.ms N } w.heap.size #[.int .i64 12, .int .i64 N, .int .i64 fl, .bool odd, .slice a len cap, .int .i64 p, .int .u32 (x : Nat)] a len cap bs)
  have P1 : Hid (_) := H2.out.drew
  have HS : w2.drew.cell? ⟨w.heap.size, 1, none⟩ = some (.int .i64 N) ∧ w2.drew.cell? ⟨L.e, 5, none⟩ = some (.pointer (some ⟨L.r, 0, none⟩)) := ⟨cell_of_row w2.drew _ 1 _ _ _ P1.out.bx, P1.out.mem5⟩
  clear c1 H2
  obtain ⟨s2, hs2⟩ : ∃ S, { s with ms := arS s.ms N } = S := ⟨_, rfl⟩
  obtain ⟨r, hr2⟩ : ∃ S, (arE N) = S := ⟨_, rfl⟩
  rw [hs2, hr2] at cA cB
  have HE : Hid (_) := hs2
  clear hs2 hr2
  go_region_held3 (fun w' => w'.cell? ⟨w.heap.size, 1, none⟩ = some (.int .i64 N) ∧ w'.cell? ⟨L.e, 5, none⟩ = some (.pointer (some ⟨L.r, 0, none⟩))) (assumption) (first
    | (go_at_call 73; (first | refine (cA _ _ h1.out).mono ?_ | refine (cA _ _ P1.out).mono ?_); rintro e w1 ⟨rfl, h2⟩; have HT : w1.cell? ⟨w.heap.size, 1, none⟩ = some (.int .i64 N) ∧ w1.cell? ⟨L.e, 5, none⟩ = some (.pointer (some ⟨L.r, 0, none⟩)) := ⟨cell_of_row w1 _ 1 _ _ _ h2.bx, h2.mem5⟩; have h1 : Hid (_) := h2; clear h2)
    | (go_at_call 74; (first | refine (cB _ _ h1.out).mono ?_ | refine (cB _ _ P1.out).mono ?_); rintro e w1 ⟨rfl, h2⟩; have HT : w1.cell? ⟨w.heap.size, 1, none⟩ = some (.int .i64 N) ∧ w1.cell? ⟨L.e, 5, none⟩ = some (.pointer (some ⟨L.r, 0, none⟩)) := ⟨cell_of_row w1 _ 1 _ _ _ h2.bx, h2.mem5⟩; have h1 : Hid (_) := h2; clear h2))
  all_goals
    go_wp2_with fail
    go_ret
    rw [HE.out]
    exact ⟨by simp, h1.out.two⟩
end Go.Proofs.YtndjepeolamedaaGreat
namespace Go.Proofs.YtndjepeolamedaaGreat
set_option maxRecDepth 100000
open Go.RowKit
theorem step_append8L {ops : Array Oper} {o : Oper} {a : Act} {w : World} {K : Act → World → Prop} {Q : Exit → Act → World → Prop} {E : Prop}
    (hg : o.guard = none) (s x : Operand) (hop : o.op = Op.call { callee := Callee.builtin Builtin.append, args := #[s, x], argTypes := #[22, 22] })
    (B : Nat) (v : Value) (hs : a.eval s = v) (hown : w.ownsRow B 5 1 v 0 [])
    (ao : Option Addr) (m c : Nat) (bs : Nat → Nat) (hx : a.eval x = .slice ao m c) (hrow : Row8 w ao m c bs) (hm : m ≤ 140737488351232)
    (w0 : World) (hb : Below B w0 w) (hB0 : B ≤ w0.heap.size)
    (hK : ∀ a' c' w', Hid (w'.ownsRow B 5 1 (.slice a' m c') m (CB bs m)) → Below B w0 w' → K (a.put o.dst (.slice a' m c')) w') :
    if Region.wanted o (yielded ops a.tmps) = true then Oper.wp Tryz.prog o a w K Q else E := by
  obtain ⟨i0, hi, hz0, hz1, hz2⟩ := info_parts info_u8
  have hw : Region.wanted o (yielded ops a.tmps) = true := by simp [Region.wanted, hg]
  rw [if_pos hw]
  have hBw : B ≤ w.heap.size := Nat.le_trans hB0 hb.size
  have fin : ∀ v' w', w'.ownsRow B 5 1 v' m (CB bs m) → w.grownBy w' v.ownBlock → K (a.put o.dst v') w' := by
    intro v' w' h1 h2
    have h3 := hb.grown h2 hBw (fun j hj => (hown.lt j hj).1)
    obtain ⟨a', c', rfl, _⟩ := own_row8 h1 hrow.byte
    exact hK a' c' w' h1 h3
  cases ao with
  | none =>
    obtain ⟨rfl, rfl⟩ := hrow.nil rfl
    have hrun := run_append_owned_none (P := Tryz.prog) (w := w) B 22 o.type 5 i0 1 Tryz.underlying22 hi v 0 [] hown
    have hk := fin v w hown ⟨rfl, rfl, rfl, Nat.le_refl _, fun _ _ _ => rfl⟩
    unfold Oper.wp
    simp [execOp, hop, resolve, invoke, builtin, hs, hx, hrun, Result.andThen]
    exact hk
  | some ad =>
    refine wp_append_own w s x _ hop B 5 i0 (.int .u8 0) 1 1 Tryz.underlying22 hi hz0 hz1 hz2 rfl (by decide) v 0 [] hs hown ad m c (CB bs m) hx (by rw [CB_length, Nat.mul_one]) ?_ (CB_one bs m) (by unfold maxLen; omega) (by omega) hBw (fun v' w' h1 h2 _ => fin v' w' (by simpa using h1) h2)
    intro j u hj
    by_cases hlt : j < m
    · rw [CB_get bs m j hlt] at hj
      cases hj
      exact hrow.src ad rfl j hlt
    · rw [CB_none bs m j (by omega)] at hj; cases hj
theorem own0L (B : Nat) (w : World) (h : B ≤ w.heap.size) : (w.alloc (.cells #[] 5)).ownsRow B 5 1 (.slice (some ⟨w.heap.size, 0, none⟩) 0 0) 0 [] := World.ownsRow_made w #[] 0 h (Nat.zero_le _) rfl
theorem own0Ld (B : Nat) (w : World) (h : B ≤ w.heap.size) : (w.alloc (.cells #[] 5)).drew.ownsRow B 5 1 (.slice (some ⟨w.heap.size, 0, none⟩) 0 0) 0 [] := own0L B w h
end Go.Proofs.YtndjepeolamedaaGreat
