/- Part 22 of the texts on which the proofs of layer 13 rest: contracts of Go functions. -/
import Derived.Test.YtndjepeolamedaaGreatPkA20
namespace Go.Proofs.YtndjepeolamedaaGreat
set_option maxRecDepth 100000
open Go.RowKit
set_option maxRecDepth 100000 in
set_option maxHeartbeats 1600000 in
theorem hunitI_any (d : Nat) (P : Pm) (U : List Nat) (s : Sh) (k c ss num fl : Nat) (a : Option Addr) (len cap : Nat) (bs : Nat → Nat) (w : World) (h : RVh w d P U s) (hr : Row8 w a len cap bs) (h1 : s.st = 1) :
    Calls Tryz.prog 104 #[.pointer (some ⟨d, 0, none⟩), .agg #[.int .i64 (k : Nat), .int .u32 (c : Nat), .int .u32 (ss : Nat), .int .u32 (num : Nat), .int .i64 (fl : Nat), .slice a len cap]] w fun e w' => e = .returned (.int .i64 (hoffE P s k ss len bs)) ∧ Hid (∃ U', Gr U w U' w' ∧ RVh w' d P U' (if hoffE P s k ss len bs = 0 then htake s k ss num fl bs else s)) := by
  obtain ⟨B, x⟩ := id h
  have b0 : Below w.heap.size w (w.alloc (.cells #[.int .i64 (k : Nat), .int .u32 (c : Nat), .int .u32 (ss : Nat), .int .u32 (num : Nat), .int .i64 (fl : Nat), .slice a len cap] 67)) := (Below.refl _ _).alloc (Nat.le_refl _) _
  have hdl := x.dlt
  have hdn : ¬ d = w.heap.size := by omega
  have hdn' : ¬ w.heap.size = d := fun e => hdn e.symm
  have c15 : w.cell? ⟨d, 15, none⟩ = some (.int .i64 (s.st : Nat)) := cell_of_row w d 15 _ _ _ x.dev
  have c16 : w.cell? ⟨d, 16, none⟩ = some (.int .u32 (s.ss : Nat)) := cell_of_row w d 16 _ _ _ x.dev
  rw [h1] at c15
  have HX : Hid (_) := And.intro h (And.intro x (And.intro b0 hr))
  by_cases hk : k ≠ 17
  · have hE : hoffE P s k ss len bs = 130 := by unfold hoffE; rw [if_pos (.inl hk)]
    rw [hE, if_neg (by omega)]
    have ek : ((k : Int) != 17) = true := by simp; omega
    clear h x b0 hr hE hk
    go_enter Tryz.func104, Tryz.ntmps104
    go_wp2_with fail
    repeat (go_quiet (fail); go_wp2_with fail)
    go_ret
    refine ⟨rfl, U, Gr.below ?_, RVh.below HX.out.1 ?_⟩
    all_goals repeat (first | exact HX.out.2.2.1 | refine below_drewN ?_ _ | refine Below.drew ?_)
  · obtain rfl : k = 17 := by omega
    by_cases hs : ss ≤ s.ss
    · have hE : hoffE P s 17 ss len bs = 130 := by unfold hoffE; rw [if_pos (.inr hs)]
      rw [hE, if_neg (by omega)]
      have es : (ss : Int) ≤ (s.ss : Int) := by omega
      clear h x b0 hr hE hk hs
      go_enter Tryz.func104, Tryz.ntmps104
      go_wp2_with fail
      repeat (go_quiet (fail); go_wp2_with fail)
      go_ret
      refine ⟨rfl, U, Gr.below ?_, RVh.below HX.out.1 ?_⟩
      all_goals repeat (first | exact HX.out.2.2.1 | refine below_drewN ?_ _ | refine Below.drew ?_)
    · have es : ¬ (ss : Int) ≤ (s.ss : Int) := by omega
      have hE : hoffE P s 17 ss len bs = if dsigned P len bs = true then 0 else 91 := by unfold hoffE; rw [if_neg (by omega)]
      rw [hE]
      have hpok := x.pok
      obtain ⟨X, hX⟩ : ∃ X, BA bs len = X := ⟨_, rfl⟩
      obtain ⟨Y, hY⟩ : ∃ Y, BA (dsg P) 4 = Y := ⟨_, rfl⟩
      have hsg : dsigned P len bs = decide (X = Y) := by unfold dsigned; rw [hX, hY]
      have HXX : Hid (_) := And.intro hX hY
      obtain ⟨sg, hg⟩ : ∃ b, dsigned P len bs = b := ⟨_, rfl⟩
      have HG : Hid (decide (X = Y) = sg) := hsg.symm.trans hg
      rw [hg]
      clear h x b0 hr hE hk hX hY hsg hg
      go_enter Tryz.func104, Tryz.ntmps104
      go_wp2_with fail
      go_quiet (fail)
      go_wp2_with fail
      generalize hW : World.drewN _ _ = W
      have bW : Below w.heap.size w W := by rw [← hW]; exact below_drewN HX.out.2.2.1 _
      have qW : W.heap[w.heap.size]? = some (.cells #[.int .i64 17, .int .u32 (c : Nat), .int .u32 (ss : Nat), .int .u32 (num : Nat), .int .i64 (fl : Nat), .slice a len cap] 67 (0, 0)) := by rw [← hW]; exact heap_alloc_new w _
      have lW : w.heap.size < W.heap.size := (Array.getElem?_eq_some_iff.1 qW).1
      have xW := HX.out.2.1.newd (Off.of_below bW)
      have RW_ := HX.out.2.2.2.below bW
      clear hW c15 c16
      have u5 : W.cell? ⟨w.heap.size, 5, none⟩ = some (.slice a len cap) := cell_of_row W _ 5 _ _ _ qW
      have c0 : W.cell? ⟨d, 0, none⟩ = some (.int .u32 (P.c : Nat)) := cell_of_row W d 0 _ _ _ xW.dev
      have c1 : W.cell? ⟨d, 1, none⟩ = some (.int .i64 (P.o : Nat)) := cell_of_row W d 1 _ _ _ xW.dev
      have c2 : W.cell? ⟨d, 2, none⟩ = some (.int .i64 (P.i : Nat)) := cell_of_row W d 2 _ _ _ xW.dev
      have c3 : W.cell? ⟨d, 3, none⟩ = some (.int .i64 (P.t : Nat)) := cell_of_row W d 3 _ _ _ xW.dev
      have c4 : W.cell? ⟨d, 4, none⟩ = some (.int .u32 (P.n : Nat)) := cell_of_row W d 4 _ _ _ xW.dev
      have hS := rsign_good P.c P.o P.i P.t P.n W.drew hpok.c hpok.n hpok.ok
      have q1 := conv_any a len cap bs _ (RW_.below (Below.drew (Below.refl _ _)))
      rw [HXX.out.1] at q1
      have HW : Hid (_) := And.intro bW (And.intro qW (And.intro lW (And.intro xW RW_)))
      clear bW qW xW RW_ hpok
      go_cut [34] (fun x34 wx => x34 = .bool (!sg) ∧ Hid (Below w.heap.size w wx ∧ wx.heap[w.heap.size]? = some (.cells #[.int .i64 17, .int .u32 (c : Nat), .int .u32 (ss : Nat), .int .u32 (num : Nat), .int .i64 (fl : Nat), .slice a len cap] 67 (0, 0))))
      case first =>
        go_region_with (go_at_call 48; refine hS.mono ?_; rintro e w8 ⟨g8, rfl, H8⟩; have k8 := conv_any (some ⟨g8, 0, none⟩) 4 4 _ _ H8.out.1; have k9 := conv_any a len cap bs _ ((HW.out.2.2.2.2.below (Below.drew (Below.refl _ _))).below H8.out.2); rw [show BA (PM.w4 (PM.K (pe P.c P.o P.i P.t P.n) 14)) 4 = Y from HXX.out.2] at k8; rw [HXX.out.1] at k9; have k5 : w8.cell? ⟨w.heap.size, 5, none⟩ = some (.slice a len cap) := (World.cell?_of_block (H8.out.2.block w.heap.size HW.out.2.2.1)).trans (cell_of_row W _ 5 _ _ _ HW.out.2.1); have H9 : Hid (_) := H8.out.2; clear H8)
        all_goals
          clear hS q1 k8 k9 k5 u5 c0 c1 c2 c3 c4
          go_wp2_with fail
          go_meet
          have b9 : Below W.heap.size W w8 := (Below.drew (Below.refl _ _)).trans H9.out
          exact ⟨by rw [← HG.out, bytes_beq], HW.out.1.trans (b9.mono HW.out.1.size), (b9.block w.heap.size HW.out.2.2.1).trans HW.out.2.1⟩
      case rest =>
        obtain ⟨rfl, H⟩ := hcut
        clear hS q1 c0 c1 c2 c3 c4 u5 HW lW HG HXX
        have x := HX.out.2.1.newd (Off.of_below H.out.1)
        cases sg
        · clear x
          go_wp2_with fail
          go_ret
          exact ⟨rfl, U, Gr.below H.out.1, RVh.below HX.out.1 H.out.1⟩
        · have c15 : wc.cell? ⟨d, 15, none⟩ = some (.int .i64 (s.st : Nat)) := cell_of_row wc d 15 _ _ _ x.dev
          have c16 : wc.cell? ⟨d, 16, none⟩ = some (.int .u32 (s.ss : Nat)) := cell_of_row wc d 16 _ _ _ x.dev
          have u2 : wc.cell? ⟨w.heap.size, 2, none⟩ = some (.int .u32 (ss : Nat)) := cell_of_row wc _ 2 _ _ _ H.out.2
          have z15 := x.fz 15
          have z16 := x.fz 16
          have hO : Calls Tryz.prog 167 #[.pointer (some ⟨d, 0, none⟩)] ((wc.setCell ⟨d, 16, none⟩ (.int .u32 (ss : Nat))).setCell ⟨d, 15, none⟩ (.int .i64 2)) fun e w' => e = .returned (.tuple #[]) ∧ Hid (∃ U', Gr U w U' w' ∧ RVh w' d P U' (hon { s with st := 2, ss := ss })) := by
            have o1 := (Off.setCell d 16 wc (.int .u32 (ss : Nat))).trans (Off.setCell d 15 _ (.int .i64 2))
            have x1 := x.own (s' := { s with st := 2, ss := ss }) o1 (heap_setCell_same _ _ _ _ _ _ (heap_setCell_same _ _ _ _ _ _ x.dev)) ⟨rfl, rfl⟩ rfl rfl x.vok x.dcl
            refine (hron_any d P U _ _ ⟨B, x1⟩).mono ?_
            rintro e w' ⟨rfl, h5⟩
            obtain ⟨U5, g5, x5⟩ := h5.out
            exact ⟨rfl, U5, ((Gr.below H.out.1).trans (Gr.same o1 (by simp [x.kd.2]))).trans g5, x5⟩
          clear x
          go_wp2_with (go_at_call 167; refine hO.mono ?_; rintro e w6 ⟨rfl, h6⟩)
          go_ret
          exact ⟨rfl, h6⟩
end Go.Proofs.YtndjepeolamedaaGreat
