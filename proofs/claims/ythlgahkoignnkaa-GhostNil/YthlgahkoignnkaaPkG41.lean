/- Part 42 of the texts on which the proof rests: contracts of Go functions. -/
import Derived.Test.YthlgahkoignnkaaPkG17
namespace Go.Proofs.Ythlgahkoignnkaa
open Go.RowKit Go.Maps
set_option maxRecDepth 100000
theorem fold_con (x y : Int) : Array.foldl (fun (cs : Array Value) (x : Value × Nat) => cs.setIfInBounds x.snd x.fst) #[.int .i64 0, .bool false, .int .u32 0, .int .u32 0, .string (ByteArray.mk #[]), .int .i64 0, .int .i64 0, .bool false, .bool false, .int .i64 0, .bool false, .int .u32 0, .int .u32 0, .string (ByteArray.mk #[]), .int .i64 0, .int .i64 0, .bool false, .bool false, .int .u32 0] (coL x y).toArray.zipIdx 0 19 = (coL x y).toArray := by kernel_rfl
theorem mk_out (w : World) : (Instr.makeMap 56 none).run Try.prog w = .ok (.map (some w.heap.size)) (w.alloc (.map #[] 0)) := rfl
set_option maxHeartbeats 8000000 in
theorem gnew (a0 : Option Addr) (l0 c0 : Nat) (P0 : Nat → Pg) (a1 : Option Addr) (l1 c1 : Nat) (P1 : Nat → Pg) (ms : Nat) (w : World) (h0 : PRow w a0 l0 P0) (h1 : PRow w a1 l1 P1) (k : Nat) (hk : min l0 l1 = k) (hk1 : k ≤ 1000) :
    Calls Try.prog 8 #[.agg #[.slice a0 l0 c0, .slice a1 l1 c1, .int .u32 (ms : Nat)]] w fun r w' => ∃ jb, r = .returned (.pointer (some ⟨jb, 0, none⟩)) ∧ Hid (∃ g cap ob, w.heap.size ≤ jb ∧ w.heap.size ≤ ob ∧ w.heap.size ≤ g ∧ Below w.heap.size w w' ∧ GJ w' jb g cap ob 0 (fun _ => none) (ju0 k (fun i => (P0 i).t) (fun i => (P1 i).t))) := by
  have hmk := mk_out
  have s3 : St w (((w.alloc (.cells #[.slice a0 l0 c0, .slice a1 l1 c1, .int .u32 (ms : Nat)] 25)).alloc (.map #[] 0)).alloc (.cells #[.slice none 0 0, .map (some (w.heap.size + 1)), .int .i64 0, .int .i64 0, .int .i64 0] 59)) a0 l0 c0 a1 l1 c1 ms P0 P1 0 (.slice none 0 0) := by
    have a1' := heap_alloc_new w (.cells #[.slice a0 l0 c0, .slice a1 l1 c1, .int .u32 (ms : Nat)] 25)
    have a2' := heap_alloc_new (w.alloc (.cells #[.slice a0 l0 c0, .slice a1 l1 c1, .int .u32 (ms : Nat)] 25)) (.map #[] 0)
    have a3' := heap_alloc_new ((w.alloc (.cells #[.slice a0 l0 c0, .slice a1 l1 c1, .int .u32 (ms : Nat)] 25)).alloc (.map #[] 0)) (.cells #[.slice none 0 0, .map (some (w.heap.size + 1)), .int .i64 0, .int .i64 0, .int .i64 0] 59)
    simp only [World.size_alloc] at a1' a2' a3'
    refine ⟨belowG (belowG (belowG (Below.refl _ _) _) _) _, ?_, ?_, a3', ⟨?_, .inl ⟨rfl, rfl⟩⟩, fun _ => rfl⟩
    · exact ((belowG (belowG (Below.refl _ _) _) _).block _ (by simp)).trans a1'
    · exact ((belowG (Below.refl _ _) _).block _ (by simp)).trans a2'
    · simp [flC]
  have HS : Hid (_) := s3
  have hkI : (min (l0 : Int) (l1 : Int)) = ((k : Nat) : Int) := by omega
  go_enter Try.func8, Try.ntmps8
  go_wp2_with fail
  clear s3
  go_loopw [4, 15, 16, 17, 18, 19, 20, 21, 22, 23, 24, 25, 26, 27, 28, 29, 30, 31, 32, 33, 34, 35, 36, 37, 38] (fun _ c _ _ _ _ _ _ _ _ _ _ _ _ _ _ _ _ _ _ _ _ _ _ _ wr => ∃ (i : Nat) (v : Value), i ≤ k ∧ c = .int .i64 ((i : Nat) : Int) ∧ Hid (St w wr a0 l0 c0 a1 l1 c1 ms P0 P1 i v)) (fun _ c _ _ _ _ _ _ _ _ _ _ _ _ _ _ _ _ _ _ _ _ _ _ _ _ => k - natG c)
  case atStart => exact ⟨0, .slice none 0 0, by omega, rfl, HS⟩
  case round =>
    obtain ⟨i, v, hi, rfl, HI⟩ := hrel
    clear HS
    by_cases hlt : i < k
    · have hlt' : ((i : Nat) : Int) < ((k : Nat) : Int) := by omega
      obtain ⟨q0, o0, e0, d0, d1, d2, d3, d4⟩ := (h0.below HI.out.bel) i (by omega)
      obtain ⟨q1, o1, e1, f0, f1, f2, f3, f4⟩ := (h1.below HI.out.bel) i (by omega)
      subst e0 e1
      have hi0 : ((i : Nat) : Int) < ((l0 : Nat) : Int) := by omega
      have hi1 : ((i : Nat) : Int) < ((l1 : Nat) : Int) := by omega
      have n0 := cell_of_row wr _ 0 _ _ _ HI.out.bx
      have n1 := cell_of_row wr _ 1 _ _ _ HI.out.bx
      have g0 := cell_of_row wr _ 0 _ _ _ HI.out.ju
      have hx : ∀ wx, Below wr.heap.size wr wx → wx.cell? ⟨w.heap.size + 1 + 1, 0, none⟩ = some v := fun wx bx => cell_belowJ g0 bx
      obtain ⟨C, hC⟩ : ∃ C : Array Value, (coL (P0 i).t (P1 i).t).toArray = C := ⟨_, rfl⟩
      have HC : Hid (_) := hC
      have hsz : C.size = 19 := by rw [← hC]; rfl
      have hfo := fold_con (P0 i).t (P1 i).t
      rw [hC] at hfo
      have hN : ∀ wx, Below wr.heap.size wr wx → Calls Try.prog 18 #[.agg #[.int .u32 ((P0 i).c : Nat), .int .i64 (P0 i).o, .int .i64 (P0 i).i, .int .i64 (P0 i).t, .int .u32 ((P0 i).n : Nat)], .agg #[.int .u32 ((P1 i).c : Nat), .int .i64 (P1 i).o, .int .i64 (P1 i).i, .int .i64 (P1 i).t, .int .u32 ((P1 i).n : Nat)]] wx fun r w' => ∃ x, r = .returned x ∧ (x = .agg C ∧ Below wr.heap.size wr w') := fun wx bx =>
        (gnewconn (P0 i) (P1 i) wx).mono fun _ _ ⟨e, b⟩ => ⟨_, e, (by rw [← HC.out]; rfl), bx.trans (b.mono bx.size)⟩
      have ho : Hid (∀ wx, Below wr.heap.size wr wx → wx.ownsRow (w.heap.size + 3) 67 19 v i (flC i (fun j => (P0 j).t) (fun j => (P1 j).t))) := fun wx bx => own_belowG HI.out.own bx
      have hgb : Hid (∀ wx wy, Below wr.heap.size wr wx → wx.grownBy wy v.ownBlock → wy.heap[w.heap.size + 1 + 1]? = some (.cells #[v, .map (some (w.heap.size + 1)), .int .i64 0, .int .i64 0, .int .i64 0] 59 (0, 0))) := by
        intro wx wy bx hg
        have hlt2 := (Array.getElem?_eq_some_iff.1 HI.out.ju).1
        refine (hg.block _ (Nat.lt_of_lt_of_le hlt2 bx.size) (fun e => ?_)).trans ((bx.block _ hlt2).trans HI.out.ju)
        have := (HI.out.own.lt _ e.symm).1
        omega
      have hBs : w.heap.size + 3 ≤ wr.heap.size := by
        have := (Array.getElem?_eq_some_iff.1 HI.out.ju).1
        omega
      have HP : Hid (_) := And.intro h0 h1
      clear h0 h1 hC
      go_wp2_with fail
      go_region_law (first
        | (refine step_callN 18 #[.tmp 27, .tmp 32] #[70, 70] rfl (by kernel_rfl) #[.agg #[.int .u32 ((P0 i).c : Nat), .int .i64 (P0 i).o, .int .i64 (P0 i).i, .int .i64 (P0 i).t, .int .u32 ((P0 i).n : Nat)], .agg #[.int .u32 ((P1 i).c : Nat), .int .i64 (P1 i).o, .int .i64 (P1 i).i, .int .i64 (P1 i).t, .int .u32 ((P1 i).n : Nat)]] (by kernel_rfl) (hN _ (by repeat (first | with_reducible assumption | with_reducible exact Below.refl _ _ | with_reducible refine belowN ?_ _ | with_reducible refine Below.drew ?_ | with_reducible refine belowG ?_ _))) ?_; rintro x w4 ⟨rfl, b4⟩; have c4 := hx _ b4; have c4a := hx _ (belowG b4 (.cells C 67)))
        | (refine step_appC rfl (.tmp 22) (.tmp 34) rfl rfl (w.heap.size + 3) i w4.heap.size (fun j => (P0 j).t) (fun j => (P1 j).t) v rfl (ho.out _ (by repeat (first | with_reducible assumption | with_reducible exact Below.refl _ _ | with_reducible refine belowN ?_ _ | with_reducible refine Below.drew ?_ | with_reducible refine belowG ?_ _))) rfl (by rw [HC.out]; exact heap_alloc_new w4 _) (by omega) wr hBs ((by exact (by repeat (first | with_reducible assumption | with_reducible exact Below.refl _ _ | with_reducible refine belowN ?_ _ | with_reducible refine Below.drew ?_ | with_reducible refine belowG ?_ _)) : Below wr.heap.size wr _).mono hBs) ?_; intro v6 w6 H6 b6; obtain ⟨x6, y6, rfl, hx6⟩ := own_slc H6.out.1; have j6 := hgb.out _ _ (by repeat (first | with_reducible assumption | with_reducible exact Below.refl _ _ | with_reducible refine belowN ?_ _ | with_reducible refine Below.drew ?_ | with_reducible refine belowG ?_ _)) H6.out.2; have p6 := cell_of_row w6 _ 0 _ _ _ j6; have z6 := fun k => frozen_of_row w6 _ k _ _ j6))
      all_goals
        have HS : Hid (St w (w6.setCell ⟨w.heap.size + 1 + 1, 0, none⟩ (.slice (some ⟨x6, 0, none⟩) (i + 1) y6)) (some ⟨q0, o0, none⟩) l0 c0 (some ⟨q1, o1, none⟩) l1 c1 ms P0 P1 (i + 1) (.slice (some ⟨x6, 0, none⟩) (i + 1) y6)) := by
          exact HI.out.next H6.out.1 b6 j6
        clear HI hN ho hgb hx H6 j6 p6 z6 c4 c4a
        go_wp2_with fail
        go_roundw
        case rel => exact ⟨i + 1, _, by omega, by go_num, HS⟩
        case measure => simp [natG] <;> omega
    · obtain rfl : i = k := by omega
      have hlt' : ¬ ((i : Nat) : Int) < ((i : Nat) : Int) := by omega
      go_wp2_with fail
      go_ret
      obtain ⟨g, cap, ob, e1, e2, e3, e4, e5⟩ := HI.out.done hk1
      exact ⟨_, rfl, ⟨e1, g, cap, ob, e2, e3, e4, e5⟩⟩
end Go.Proofs.Ythlgahkoignnkaa
