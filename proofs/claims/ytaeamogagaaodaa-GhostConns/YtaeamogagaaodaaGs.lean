/- Layers 13, 17: Small; the list of sets that Pair makes (Sp: Pair behind i rounds). -/
import Derived.Test.YtaeamogagaaodaaGh14
namespace Go.Proofs.Ytaeamogagaaodaa
open Go.RowKit Go.Maps Go.Sort
set_option maxRecDepth 100000

def pgS : Pg := ⟨7, 2, 1, 10, 9⟩
/-- The sets of Pair. -/
def pgP (i : Nat) : Pg := ⟨7 + i, 2, 1, 10 + (i : Nat), 9⟩
def pgL (p : Pg) : List Value := [.int .u32 (p.c : Nat), .int .i64 p.o, .int .i64 p.i, .int .i64 p.t, .int .u32 (p.n : Nat)]
theorem pgL_one (p : Pg) : ∀ u ∈ pgL p, u.oneCell' = true := by
  intro u hu
  simp [pgL] at hu
  rcases hu with rfl | rfl | rfl | rfl | rfl <;> rfl
def flP (k : Nat) (P : Nat → Pg) : List Value := (List.range k).flatMap fun i => pgL (P i)
theorem flP_succ (k : Nat) (P : Nat → Pg) : flP (k + 1) P = flP k P ++ pgL (P k) := by
  unfold flP
  rw [List.range_succ, List.flatMap_append]
  simp
theorem flP_len (k : Nat) (P : Nat → Pg) : (flP k P).length = k * 5 := by
  induction k with
  | zero => rfl
  | succ k ih =>
    rw [flP_succ, List.length_append, ih]
    simp [pgL]
    omega
theorem flP_get (k : Nat) (P : Nat → Pg) (i j : Nat) (hi : i < k) (hj : j < 5) : (flP k P)[i * 5 + j]? = (pgL (P i))[j]? := by
  induction k with
  | zero => omega
  | succ k ih =>
    rw [flP_succ]
    by_cases e : i < k
    · rw [List.getElem?_append_left (by rw [flP_len]; omega), ih e]
    · obtain rfl : i = k := by omega
      rw [List.getElem?_append_right (by rw [flP_len]; omega), flP_len]
      congr 1
      omega
/-- Out of a list of sets of our own. -/
theorem PRow.of_own {w : World} {B k : Nat} {a : Option Addr} {cap : Nat} {P : Nat → Pg} (o : w.ownsRow B 70 5 (.slice a k cap) k (flP k P)) : PRow w a k P := fun i hi => by
  rcases o.2 with ⟨_, hn⟩ | ⟨g, cap', cur, e, hg, hgg, h1, h2, h3, h4⟩
  · omega
  · simp only [Value.slice.injEq] at e
    obtain ⟨rfl, _, rfl⟩ := e
    have cl : ∀ j, j < 5 → w.cell? ⟨g, 0 + i * 5 + j, none⟩ = (pgL (P i))[j]? := fun j hj => by
      rw [Nat.zero_add, cell_of_row w g (i * 5 + j) _ _ _ hgg, ← flP_get k P i j hi hj, ← h4, List.getElem?_take_of_lt (by omega), Array.getElem?_toList]
    exact ⟨g, 0, rfl, cl 0 (by omega), cl 1 (by omega), cl 2 (by omega), cl 3 (by omega), cl 4 (by omega)⟩
theorem gsmall (w : World) : Calls Try.prog 22 #[] w fun r w' => r = .returned (.agg #[.int .u32 7, .int .i64 2, .int .i64 1, .int .i64 10, .int .u32 9]) ∧ Below w.heap.size w w' := by
  go_enter Try.func22, Try.ntmps22
  go_wp2_with fail
  refine bodyPost_ret (v := .agg #[.int .u32 7, .int .i64 2, .int .i64 1, .int .i64 10, .int .u32 9]) (by simp [results, Try.results22, go_sem]) rfl ⟨rfl, ?_⟩
  exact belowG (Below.refl _ _) _
theorem own_slcP {w : World} {B e size n : Nat} {v : Value} {xs : List Value} (h : w.ownsRow B e size v (n + 1) xs) : ∃ g cap, v = .slice (some ⟨g, 0, none⟩) (n + 1) cap ∧ B ≤ g := by
  rcases h.2 with ⟨_, hn⟩ | ⟨g, cap, cur, rfl, hg, hgg, rest⟩
  · omega
  · exact ⟨g, cap, rfl, hg⟩
theorem own_belowP {w w' : World} {B e sz n : Nat} {v : Value} {xs : List Value} (h : w.ownsRow B e sz v n xs) (b : Below w.heap.size w w') : w'.ownsRow B e sz v n xs := by
  refine ⟨h.1, ?_⟩
  rcases h.2 with hn | ⟨g, cap, cur, rfl, hg, hgg, rest⟩
  · exact .inl hn
  · exact .inr ⟨g, cap, cur, rfl, hg, (b.block g (Array.getElem?_eq_some_iff.1 hgg).1).trans hgg, rest⟩
theorem own_keepP {w w' : World} {B e s n : Nat} {v : Value} {xs : List Value} (h : w.ownsRow B e s v n xs) (hk : ∀ g, v.ownBlock = some g → w'.heap[g]? = w.heap[g]?) : w'.ownsRow B e s v n xs := by
  obtain ⟨h0, h1 | ⟨g, cap, cur, rfl, hg, hgg, rest⟩⟩ := h
  · exact ⟨h0, .inl h1⟩
  · exact ⟨h0, .inr ⟨g, cap, cur, rfl, hg, (hk g rfl).trans hgg, rest⟩⟩
theorem pg_cells {W : World} {g : Nat} {p : Pg} (h : W.heap[g]? = some (.cells (pgL p).toArray 70 (0, 0))) : ∀ j u, (pgL p)[j]? = some u → W.cell? ((⟨g, 0, none⟩ : Addr).add j) = some u := fun j u hu => by
  have e : (Addr.add ⟨g, 0, none⟩ j) = ⟨g, j, none⟩ := by unfold Addr.add; simp; omega
  rw [e, cell_of_row W g j _ _ _ h]
  simpa using hu
/-- Pair behind i rounds. -/
structure Sp (w wr : World) (i : Nat) (va : Option Addr) (vc : Nat) (ua : Option Addr) (uc : Nat) : Prop where
  bel : Below w.heap.size w wr
  rb : wr.heap[w.heap.size]? = some (.cells #[.slice none 0 0, .slice none 0 0, .int .u32 0] 25 (0, 0))
  xb : wr.heap[w.heap.size + 1]? = some (.cells #[.slice va i vc, .slice ua i uc, .int .u32 50] 25 (0, 0))
  ov : wr.ownsRow (w.heap.size + 2) 70 5 (.slice va i vc) i (flP i pgP)
  ou : wr.ownsRow (w.heap.size + 2) 70 5 (.slice ua i uc) i (flP i pgP)
  dis : ∀ g, (Value.slice va i vc).ownBlock = some g → (Value.slice ua i uc).ownBlock ≠ some g
theorem info_par : (Try.prog.info? 70).map (fun i => (i.zero, i.size, i.bytes)) = some (some (.agg #[.int .u32 0, .int .i64 0, .int .i64 0, .int .i64 0, .int .u32 0]), 5, 40) := by kernel_rfl
set_option maxHeartbeats 4000000 in
theorem gpair (w : World) : Calls Try.prog 16 #[.int .i64 1] w fun r w' => ∃ a0 c0 a1 c1, r = .returned (.agg #[.slice a0 2 c0, .slice a1 2 c1, .int .u32 50]) ∧ Hid (PRow w' a0 2 pgP ∧ PRow w' a1 2 pgP ∧ Below w.heap.size w w') := by
  have hS := fun wx => gsmall wx
  go_enter Try.func16, Try.ntmps16
  go_wp2_with fail
  have HS : Hid (Sp w ((w.alloc (.cells #[.slice none 0 0, .slice none 0 0, .int .u32 0] 25)).alloc (.cells #[.slice none 0 0, .slice none 0 0, .int .u32 50] 25)) 0 none 0 none 0) := by
    have a1' := heap_alloc_new w (.cells #[.slice none 0 0, .slice none 0 0, .int .u32 0] 25)
    have a2' := heap_alloc_new (w.alloc (.cells #[.slice none 0 0, .slice none 0 0, .int .u32 0] 25)) (.cells #[.slice none 0 0, .slice none 0 0, .int .u32 50] 25)
    simp only [World.size_alloc] at a1' a2'
    refine ⟨belowG (belowG (Below.refl _ _) _) _, ?_, a2', ⟨by simp [flP], .inl ⟨rfl, rfl⟩⟩, ⟨by simp [flP], .inl ⟨rfl, rfl⟩⟩, fun g hg => by cases hg⟩
    exact ((belowG (Below.refl _ _) _).block _ (by simp)).trans a1'
  go_loopw [4, 5, 7, 8, 9, 10, 11, 12, 13, 14, 15, 16, 17, 18, 19, 20, 21, 22, 23, 24, 25, 26, 27, 28, 29, 30, 31, 32, 33, 34] (fun c _ _ _ _ _ _ _ _ _ _ _ _ _ _ _ _ _ _ _ _ _ _ _ _ _ _ _ _ _ wr => ∃ (i : Nat) (va : Option Addr) (vc : Nat) (ua : Option Addr) (uc : Nat), i ≤ 2 ∧ c = .int .i64 ((i : Nat) : Int) ∧ Hid (Sp w wr i va vc ua uc)) (fun c _ _ _ _ _ _ _ _ _ _ _ _ _ _ _ _ _ _ _ _ _ _ _ _ _ _ _ _ _ _ => 2 - natG c)
  case atStart => exact ⟨0, none, 0, none, 0, by omega, rfl, HS⟩
  case round =>
    obtain ⟨i, va, vc, ua, uc, hi, rfl, HI⟩ := hrel
    clear HS
    have hi3 : i = 0 ∨ i = 1 ∨ i = 2 := by omega
    rcases hi3 with rfl | rfl | rfl
    · obtain ⟨i0, hI, hz0, hz1, hz2⟩ := info_parts info_par
      go_wp2_with fail
      refine (hS _).mono ?_
      rintro r w3 ⟨rfl, b3⟩
      have q0 := cell_belowJ (cell_of_row wr _ 0 _ _ _ HI.out.xb) (belowG b3 (.cells #[.int .u32 7, .int .i64 2, .int .i64 1, .int .i64 10, .int .u32 9] 70))
      have q1 := cell_belowJ (cell_of_row wr _ 1 _ _ _ HI.out.xb) (belowG b3 (.cells #[.int .u32 7, .int .i64 2, .int .i64 1, .int .i64 10, .int .u32 9] 70))
      have b4 := belowG (belowG b3 (.cells #[.int .u32 7, .int .i64 2, .int .i64 1, .int .i64 10, .int .u32 9] 70)) (.cells #[.int .u32 7, .int .i64 2, .int .i64 1, .int .i64 10, .int .u32 9] 70)
      have hrow := own_belowP HI.out.ov b4
      have lx := (Array.getElem?_eq_some_iff.1 HI.out.xb).1
      have s3 := b3.size
      have nk := heap_alloc_new (w3.alloc (.cells #[.int .u32 7, .int .i64 2, .int .i64 1, .int .i64 10, .int .u32 9] 70)) (.cells #[.int .u32 7, .int .i64 2, .int .i64 1, .int .i64 10, .int .u32 9] 70)
      simp only [World.size_alloc] at nk
      have hcl : ∀ j u, (pgL (pgP 0))[j]? = some u → ((w3.alloc (.cells #[.int .u32 7, .int .i64 2, .int .i64 1, .int .i64 10, .int .u32 9] 70)).alloc (.cells #[.int .u32 7, .int .i64 2, .int .i64 1, .int .i64 10, .int .u32 9] 70)).cell? ((⟨w3.heap.size + 1, 0, none⟩ : Addr).add j) = some u := pg_cells nk
      have hbs : w.heap.size + 2 ≤ ((w3.alloc (.cells #[.int .u32 7, .int .i64 2, .int .i64 1, .int .i64 10, .int .u32 9] 70)).alloc (.cells #[.int .u32 7, .int .i64 2, .int .i64 1, .int .i64 10, .int .u32 9] 70)).heap.size := by simp; omega
      go_wp2_with (at_builtin; refine wpList_append_own_at _ rfl (.tmp 24) (.tmp 26) 22 rfl (w.heap.size + 2) 70 i0 (.agg #[.int .u32 0, .int .i64 0, .int .i64 0, .int .i64 0, .int .u32 0]) 5 40 Try.underlying22 hI hz0 hz1 hz2 rfl (by decide) (.slice va 0 vc) 0 (flP 0 pgP) rfl hrow ⟨w3.heap.size + 1, 0, none⟩ 1 1 (pgL (pgP 0)) rfl rfl hcl (pgL_one _) (by unfold maxLen; omega) (by omega) hbs ?_)
      intro v5 w5 o5 g5 _ s5
      obtain ⟨x5, y5, rfl, hx5⟩ := own_slcP (n := 0) o5
      have nb := fun g (hg : (Value.slice va 0 vc).ownBlock = some g) => HI.out.ov.lt g hg
      have nu := fun g (hg : (Value.slice ua 0 uc).ownBlock = some g) => HI.out.ou.lt g hg
      have k5 : w5.heap[w.heap.size + 1]? = some (.cells #[.slice va 0 vc, .slice ua 0 uc, .int .u32 50] 25 (0, 0)) := (g5.block _ (by simp; omega) (fun e => by have := (nb _ e.symm).1; omega)).trans ((b4.block _ lx).trans HI.out.xb)
      have p5 : w5.heap[w3.heap.size]? = some (.cells #[.int .u32 7, .int .i64 2, .int .i64 1, .int .i64 10, .int .u32 9] 70 (0, 0)) := (g5.block _ (by simp; omega) (fun e => by have := (nb _ e.symm).2; omega)).trans (((belowG (Below.refl _ _) _).block w3.heap.size (by simp)).trans (heap_alloc_new w3 (.cells #[.int .u32 7, .int .i64 2, .int .i64 1, .int .i64 10, .int .u32 9] 70)))
      have u5 : w5.ownsRow (w.heap.size + 2) 70 5 (.slice ua 0 uc) 0 (flP 0 pgP) := own_keepP (own_belowP HI.out.ou b4) (fun g hg => g5.block g (by have := (nu g hg).2; simp; omega) (fun e => HI.out.dis g e.symm hg))
      have r0 := cell_of_row w5 _ 0 _ _ _ k5
      have r1 := cell_of_row w5 _ 1 _ _ _ k5
      have rz := fun k => frozen_of_row w5 _ k _ _ k5
      have t0 := cell_of_row w5 _ 0 _ _ _ p5
      have t1 := cell_of_row w5 _ 1 _ _ _ p5
      have t2 := cell_of_row w5 _ 2 _ _ _ p5
      have t3 := cell_of_row w5 _ 3 _ _ _ p5
      have t4 := cell_of_row w5 _ 4 _ _ _ p5
      have s5s := g5.size
      simp only [World.size_alloc] at s5s
      have o6 : Off [w.heap.size + 1] w5 (w5.setCell ⟨w.heap.size + 1, 0, none⟩ (.slice (some ⟨x5, 0, none⟩) 1 y5)) := Off.setCell _ _ _ _
      have u7 : ((w5.setCell ⟨w.heap.size + 1, 0, none⟩ (.slice (some ⟨x5, 0, none⟩) 1 y5)).alloc (.cells #[.int .u32 7, .int .i64 2, .int .i64 1, .int .i64 10, .int .u32 9] 70)).ownsRow (w.heap.size + 2) 70 5 (.slice ua 0 uc) 0 (flP 0 pgP) := own_belowP (own_keepP u5 (fun g hg => o6.block g (by have := (u5.lt g hg).2; omega) (by have := (u5.lt g hg).1; simp; omega))) (belowG (Below.refl _ _) _)
      have nk7 := heap_alloc_new (w5.setCell ⟨w.heap.size + 1, 0, none⟩ (.slice (some ⟨x5, 0, none⟩) 1 y5)) (.cells #[.int .u32 7, .int .i64 2, .int .i64 1, .int .i64 10, .int .u32 9] 70)
      have hs6 : (w5.setCell ⟨w.heap.size + 1, 0, none⟩ (.slice (some ⟨x5, 0, none⟩) 1 y5)).heap.size = w5.heap.size := by simp [World.setCell]
      rw [hs6] at nk7
      have hcl7 : ∀ j u, (pgL (pgP 0))[j]? = some u → ((w5.setCell ⟨w.heap.size + 1, 0, none⟩ (.slice (some ⟨x5, 0, none⟩) 1 y5)).alloc (.cells #[.int .u32 7, .int .i64 2, .int .i64 1, .int .i64 10, .int .u32 9] 70)).cell? ((⟨w5.heap.size, 0, none⟩ : Addr).add j) = some u := pg_cells nk7
      have hbs7 : w.heap.size + 2 ≤ ((w5.setCell ⟨w.heap.size + 1, 0, none⟩ (.slice (some ⟨x5, 0, none⟩) 1 y5)).alloc (.cells #[.int .u32 7, .int .i64 2, .int .i64 1, .int .i64 10, .int .u32 9] 70)).heap.size := by rw [World.size_alloc, hs6]; omega
      have HH : Hid (_) := And.intro o5 (And.intro g5 (And.intro s5 (And.intro k5 (And.intro p5 (And.intro u5 (And.intro nb (And.intro nu b4)))))))
      clear o5 g5 s5 k5 p5 u5 hrow hcl hbs nk q0 q1 nk7 o6 nb nu
      go_wp2_with (at_builtin; refine wpList_append_own_at _ rfl (.tmp 30) (.tmp 32) 22 rfl (w.heap.size + 2) 70 i0 (.agg #[.int .u32 0, .int .i64 0, .int .i64 0, .int .i64 0, .int .u32 0]) 5 40 Try.underlying22 hI hz0 hz1 hz2 rfl (by decide) (.slice ua 0 uc) 0 (flP 0 pgP) rfl u7 ⟨w5.heap.size, 0, none⟩ 1 1 (pgL (pgP 0)) rfl rfl hcl7 (pgL_one _) (by unfold maxLen; omega) (by omega) hbs7 ?_)
      intro v8 w8 o8 g8 _ s8
      obtain ⟨x8, y8, rfl, hx8⟩ := own_slcP (n := 0) o8
      have key : Hid (Sp w (w8.setCell ⟨w.heap.size + 1, 1, none⟩ (.slice (some ⟨x8, 0, none⟩) 1 y8)) 1 (some ⟨x5, 0, none⟩) y5 (some ⟨x8, 0, none⟩) y8 ∧ w8.heap[w.heap.size + 1]? = some (.cells #[.slice (some ⟨x5, 0, none⟩) 1 y5, .slice ua 0 uc, .int .u32 50] 25 (0, 0))) := by
        obtain ⟨o5, g5, s5, k5, p5, u5, nb, nu, b4⟩ := HH.out
        have hI' := HI.out
        have o6 : Off [w.heap.size + 1] w5 (w5.setCell ⟨w.heap.size + 1, 0, none⟩ (.slice (some ⟨x5, 0, none⟩) 1 y5)) := Off.setCell _ _ _ _
        have o9 : Off [w.heap.size + 1] w8 (w8.setCell ⟨w.heap.size + 1, 1, none⟩ (.slice (some ⟨x8, 0, none⟩) 1 y8)) := Off.setCell _ _ _ _
        have g8s := g8.size
        rw [World.size_alloc, hs6] at g8s
        have wr2 : w.heap.size + 2 ≤ wr.heap.size := by omega
        have thr : ∀ k, k < w5.heap.size → k ≠ w.heap.size + 1 → (∀ g, (Value.slice ua 0 uc).ownBlock = some g → k ≠ g) → (w8.setCell ⟨w.heap.size + 1, 1, none⟩ (.slice (some ⟨x8, 0, none⟩) 1 y8)).heap[k]? = w5.heap[k]? := fun k hk h1 h2 =>
          (o9.block k (by omega) (by simpa using h1)).trans ((g8.block k (by rw [World.size_alloc, hs6]; omega) (fun e => h2 k e.symm rfl)).trans (((belowG (Below.refl _ _) _).block k (by rw [hs6]; exact hk)).trans (o6.block k hk (by simpa using h1))))
        have kk6 : (w5.setCell ⟨w.heap.size + 1, 0, none⟩ (.slice (some ⟨x5, 0, none⟩) 1 y5)).heap[w.heap.size + 1]? = some (.cells #[.slice (some ⟨x5, 0, none⟩) 1 y5, .slice ua 0 uc, .int .u32 50] 25 (0, 0)) := heap_setCell_same _ _ _ _ _ _ k5
        have kk8 : w8.heap[w.heap.size + 1]? = some (.cells #[.slice (some ⟨x5, 0, none⟩) 1 y5, .slice ua 0 uc, .int .u32 50] 25 (0, 0)) := (g8.block _ (by rw [World.size_alloc, hs6]; omega) (fun e => by have := (nu _ e.symm).1; omega)).trans (((belowG (Below.refl _ _) _).block _ (by rw [hs6]; omega)).trans kk6)
        have b5 : Below w.heap.size w w5 := (hI'.bel.trans (b4.mono (by omega))).grown g5 (by simp; omega) (fun j hj => by have := (nb j hj).1; omega)
        have l5 := (o5.lt x5 rfl).2
        have xu : ∀ g, (Value.slice ua 0 uc).ownBlock = some g → x5 ≠ g := fun g hg e => by
          subst e
          rcases s5 with h | h
          · exact hI'.dis x5 (h.symm.trans rfl) hg
          · have h2 : some x5 = some _ := h
            simp only [Option.some.injEq] at h2
            have := (nu _ hg).2
            omega
        refine ⟨⟨?_, ?_, heap_setCell_same _ _ _ _ _ _ kk8, ?_, ?_, ?_⟩, kk8⟩
        · have b6 := o6.below b5 (fun k hk => by simp at hk; omega) b5.size
          have b7 := (b6.alloc (by rw [hs6]; exact b5.size) (.cells #[.int .u32 7, .int .i64 2, .int .i64 1, .int .i64 10, .int .u32 9] 70)).grown g8 (by rw [World.size_alloc, hs6]; have := b5.size; omega) (fun j hj => by have := (nu j hj).1; omega)
          exact o9.below b7 (fun k hk => by simp at hk; omega) b7.size
        · rw [thr _ (by omega) (by omega) (fun g hg => by have := (nu g hg).1; omega)]
          exact (g5.block _ (by simp; omega) (fun e => by have := (nb _ e.symm).1; omega)).trans ((b4.block _ (by omega)).trans hI'.rb)
        · rw [flP_succ]
          exact own_keepP o5 (fun g hg => by
            have e : g = x5 := by simpa [Value.ownBlock] using hg.symm
            subst e
            exact thr g l5 (by omega) xu)
        · rw [flP_succ]
          exact own_keepP o8 (fun g hg => by
            have e : g = x8 := by simpa [Value.ownBlock] using hg.symm
            subst e
            exact o9.block g (o8.lt g rfl).2 (by simp; omega))
        · intro g hg hg'
          cases hg
          have e8 : x8 = x5 := by simpa [Value.ownBlock] using hg'
          rcases s8 with h | h
          · have h2 : some x8 = _ := h
            exact xu x8 h2.symm e8.symm
          · have h2 : some x8 = some _ := h
            simp only [Option.some.injEq] at h2
            omega
      have HS : Hid (_) := key.out.1
      have f0 := cell_of_row w8 _ 0 _ _ _ key.out.2
      have f1 := cell_of_row w8 _ 1 _ _ _ key.out.2
      have fz := fun k => frozen_of_row w8 _ k _ _ key.out.2
      clear key o8 g8 s8 HH u7 hcl7 hbs7 HI
      go_wp2_with fail
      go_roundw
      case rel => exact ⟨1, _, _, _, _, by omega, by go_num, HS⟩
      case measure => simp [natG]
    · obtain ⟨i0, hI, hz0, hz1, hz2⟩ := info_parts info_par
      go_wp2_with fail
      refine (hS _).mono ?_
      rintro r w3 ⟨rfl, b3⟩
      have q0 := cell_belowJ (cell_of_row wr _ 0 _ _ _ HI.out.xb) (belowG b3 (.cells #[.int .u32 8, .int .i64 2, .int .i64 1, .int .i64 11, .int .u32 9] 70))
      have q1 := cell_belowJ (cell_of_row wr _ 1 _ _ _ HI.out.xb) (belowG b3 (.cells #[.int .u32 8, .int .i64 2, .int .i64 1, .int .i64 11, .int .u32 9] 70))
      have b4 := belowG (belowG b3 (.cells #[.int .u32 8, .int .i64 2, .int .i64 1, .int .i64 11, .int .u32 9] 70)) (.cells #[.int .u32 8, .int .i64 2, .int .i64 1, .int .i64 11, .int .u32 9] 70)
      have hrow := own_belowP HI.out.ov b4
      have lx := (Array.getElem?_eq_some_iff.1 HI.out.xb).1
      have s3 := b3.size
      have nk := heap_alloc_new (w3.alloc (.cells #[.int .u32 8, .int .i64 2, .int .i64 1, .int .i64 11, .int .u32 9] 70)) (.cells #[.int .u32 8, .int .i64 2, .int .i64 1, .int .i64 11, .int .u32 9] 70)
      simp only [World.size_alloc] at nk
      have hcl : ∀ j u, (pgL (pgP 1))[j]? = some u → ((w3.alloc (.cells #[.int .u32 8, .int .i64 2, .int .i64 1, .int .i64 11, .int .u32 9] 70)).alloc (.cells #[.int .u32 8, .int .i64 2, .int .i64 1, .int .i64 11, .int .u32 9] 70)).cell? ((⟨w3.heap.size + 1, 0, none⟩ : Addr).add j) = some u := pg_cells nk
      have hbs : w.heap.size + 2 ≤ ((w3.alloc (.cells #[.int .u32 8, .int .i64 2, .int .i64 1, .int .i64 11, .int .u32 9] 70)).alloc (.cells #[.int .u32 8, .int .i64 2, .int .i64 1, .int .i64 11, .int .u32 9] 70)).heap.size := by simp; omega
      go_wp2_with (at_builtin; refine wpList_append_own_at _ rfl (.tmp 24) (.tmp 26) 22 rfl (w.heap.size + 2) 70 i0 (.agg #[.int .u32 0, .int .i64 0, .int .i64 0, .int .i64 0, .int .u32 0]) 5 40 Try.underlying22 hI hz0 hz1 hz2 rfl (by decide) (.slice va 1 vc) 1 (flP 1 pgP) rfl hrow ⟨w3.heap.size + 1, 0, none⟩ 1 1 (pgL (pgP 1)) rfl rfl hcl (pgL_one _) (by unfold maxLen; omega) (by omega) hbs ?_)
      intro v5 w5 o5 g5 _ s5
      obtain ⟨x5, y5, rfl, hx5⟩ := own_slcP (n := 1) o5
      have nb := fun g (hg : (Value.slice va 1 vc).ownBlock = some g) => HI.out.ov.lt g hg
      have nu := fun g (hg : (Value.slice ua 1 uc).ownBlock = some g) => HI.out.ou.lt g hg
      have k5 : w5.heap[w.heap.size + 1]? = some (.cells #[.slice va 1 vc, .slice ua 1 uc, .int .u32 50] 25 (0, 0)) := (g5.block _ (by simp; omega) (fun e => by have := (nb _ e.symm).1; omega)).trans ((b4.block _ lx).trans HI.out.xb)
      have p5 : w5.heap[w3.heap.size]? = some (.cells #[.int .u32 8, .int .i64 2, .int .i64 1, .int .i64 11, .int .u32 9] 70 (0, 0)) := (g5.block _ (by simp; omega) (fun e => by have := (nb _ e.symm).2; omega)).trans (((belowG (Below.refl _ _) _).block w3.heap.size (by simp)).trans (heap_alloc_new w3 (.cells #[.int .u32 8, .int .i64 2, .int .i64 1, .int .i64 11, .int .u32 9] 70)))
      have u5 : w5.ownsRow (w.heap.size + 2) 70 5 (.slice ua 1 uc) 1 (flP 1 pgP) := own_keepP (own_belowP HI.out.ou b4) (fun g hg => g5.block g (by have := (nu g hg).2; simp; omega) (fun e => HI.out.dis g e.symm hg))
      have r0 := cell_of_row w5 _ 0 _ _ _ k5
      have r1 := cell_of_row w5 _ 1 _ _ _ k5
      have rz := fun k => frozen_of_row w5 _ k _ _ k5
      have t0 := cell_of_row w5 _ 0 _ _ _ p5
      have t1 := cell_of_row w5 _ 1 _ _ _ p5
      have t2 := cell_of_row w5 _ 2 _ _ _ p5
      have t3 := cell_of_row w5 _ 3 _ _ _ p5
      have t4 := cell_of_row w5 _ 4 _ _ _ p5
      have s5s := g5.size
      simp only [World.size_alloc] at s5s
      have o6 : Off [w.heap.size + 1] w5 (w5.setCell ⟨w.heap.size + 1, 0, none⟩ (.slice (some ⟨x5, 0, none⟩) 2 y5)) := Off.setCell _ _ _ _
      have u7 : ((w5.setCell ⟨w.heap.size + 1, 0, none⟩ (.slice (some ⟨x5, 0, none⟩) 2 y5)).alloc (.cells #[.int .u32 8, .int .i64 2, .int .i64 1, .int .i64 11, .int .u32 9] 70)).ownsRow (w.heap.size + 2) 70 5 (.slice ua 1 uc) 1 (flP 1 pgP) := own_belowP (own_keepP u5 (fun g hg => o6.block g (by have := (u5.lt g hg).2; omega) (by have := (u5.lt g hg).1; simp; omega))) (belowG (Below.refl _ _) _)
      have nk7 := heap_alloc_new (w5.setCell ⟨w.heap.size + 1, 0, none⟩ (.slice (some ⟨x5, 0, none⟩) 2 y5)) (.cells #[.int .u32 8, .int .i64 2, .int .i64 1, .int .i64 11, .int .u32 9] 70)
      have hs6 : (w5.setCell ⟨w.heap.size + 1, 0, none⟩ (.slice (some ⟨x5, 0, none⟩) 2 y5)).heap.size = w5.heap.size := by simp [World.setCell]
      rw [hs6] at nk7
      have hcl7 : ∀ j u, (pgL (pgP 1))[j]? = some u → ((w5.setCell ⟨w.heap.size + 1, 0, none⟩ (.slice (some ⟨x5, 0, none⟩) 2 y5)).alloc (.cells #[.int .u32 8, .int .i64 2, .int .i64 1, .int .i64 11, .int .u32 9] 70)).cell? ((⟨w5.heap.size, 0, none⟩ : Addr).add j) = some u := pg_cells nk7
      have hbs7 : w.heap.size + 2 ≤ ((w5.setCell ⟨w.heap.size + 1, 0, none⟩ (.slice (some ⟨x5, 0, none⟩) 2 y5)).alloc (.cells #[.int .u32 8, .int .i64 2, .int .i64 1, .int .i64 11, .int .u32 9] 70)).heap.size := by rw [World.size_alloc, hs6]; omega
      have HH : Hid (_) := And.intro o5 (And.intro g5 (And.intro s5 (And.intro k5 (And.intro p5 (And.intro u5 (And.intro nb (And.intro nu b4)))))))
      clear o5 g5 s5 k5 p5 u5 hrow hcl hbs nk q0 q1 nk7 o6 nb nu
      go_wp2_with (at_builtin; refine wpList_append_own_at _ rfl (.tmp 30) (.tmp 32) 22 rfl (w.heap.size + 2) 70 i0 (.agg #[.int .u32 0, .int .i64 0, .int .i64 0, .int .i64 0, .int .u32 0]) 5 40 Try.underlying22 hI hz0 hz1 hz2 rfl (by decide) (.slice ua 1 uc) 1 (flP 1 pgP) rfl u7 ⟨w5.heap.size, 0, none⟩ 1 1 (pgL (pgP 1)) rfl rfl hcl7 (pgL_one _) (by unfold maxLen; omega) (by omega) hbs7 ?_)
      intro v8 w8 o8 g8 _ s8
      obtain ⟨x8, y8, rfl, hx8⟩ := own_slcP (n := 1) o8
      have key : Hid (Sp w (w8.setCell ⟨w.heap.size + 1, 1, none⟩ (.slice (some ⟨x8, 0, none⟩) 2 y8)) 2 (some ⟨x5, 0, none⟩) y5 (some ⟨x8, 0, none⟩) y8 ∧ w8.heap[w.heap.size + 1]? = some (.cells #[.slice (some ⟨x5, 0, none⟩) 2 y5, .slice ua 1 uc, .int .u32 50] 25 (0, 0))) := by
        obtain ⟨o5, g5, s5, k5, p5, u5, nb, nu, b4⟩ := HH.out
        have hI' := HI.out
        have o6 : Off [w.heap.size + 1] w5 (w5.setCell ⟨w.heap.size + 1, 0, none⟩ (.slice (some ⟨x5, 0, none⟩) 2 y5)) := Off.setCell _ _ _ _
        have o9 : Off [w.heap.size + 1] w8 (w8.setCell ⟨w.heap.size + 1, 1, none⟩ (.slice (some ⟨x8, 0, none⟩) 2 y8)) := Off.setCell _ _ _ _
        have g8s := g8.size
        rw [World.size_alloc, hs6] at g8s
        have wr2 : w.heap.size + 2 ≤ wr.heap.size := by omega
        have thr : ∀ k, k < w5.heap.size → k ≠ w.heap.size + 1 → (∀ g, (Value.slice ua 1 uc).ownBlock = some g → k ≠ g) → (w8.setCell ⟨w.heap.size + 1, 1, none⟩ (.slice (some ⟨x8, 0, none⟩) 2 y8)).heap[k]? = w5.heap[k]? := fun k hk h1 h2 =>
          (o9.block k (by omega) (by simpa using h1)).trans ((g8.block k (by rw [World.size_alloc, hs6]; omega) (fun e => h2 k e.symm rfl)).trans (((belowG (Below.refl _ _) _).block k (by rw [hs6]; exact hk)).trans (o6.block k hk (by simpa using h1))))
        have kk6 : (w5.setCell ⟨w.heap.size + 1, 0, none⟩ (.slice (some ⟨x5, 0, none⟩) 2 y5)).heap[w.heap.size + 1]? = some (.cells #[.slice (some ⟨x5, 0, none⟩) 2 y5, .slice ua 1 uc, .int .u32 50] 25 (0, 0)) := heap_setCell_same _ _ _ _ _ _ k5
        have kk8 : w8.heap[w.heap.size + 1]? = some (.cells #[.slice (some ⟨x5, 0, none⟩) 2 y5, .slice ua 1 uc, .int .u32 50] 25 (0, 0)) := (g8.block _ (by rw [World.size_alloc, hs6]; omega) (fun e => by have := (nu _ e.symm).1; omega)).trans (((belowG (Below.refl _ _) _).block _ (by rw [hs6]; omega)).trans kk6)
        have b5 : Below w.heap.size w w5 := (hI'.bel.trans (b4.mono (by omega))).grown g5 (by simp; omega) (fun j hj => by have := (nb j hj).1; omega)
        have l5 := (o5.lt x5 rfl).2
        have xu : ∀ g, (Value.slice ua 1 uc).ownBlock = some g → x5 ≠ g := fun g hg e => by
          subst e
          rcases s5 with h | h
          · exact hI'.dis x5 (h.symm.trans rfl) hg
          · have h2 : some x5 = some _ := h
            simp only [Option.some.injEq] at h2
            have := (nu _ hg).2
            omega
        refine ⟨⟨?_, ?_, heap_setCell_same _ _ _ _ _ _ kk8, ?_, ?_, ?_⟩, kk8⟩
        · have b6 := o6.below b5 (fun k hk => by simp at hk; omega) b5.size
          have b7 := (b6.alloc (by rw [hs6]; exact b5.size) (.cells #[.int .u32 8, .int .i64 2, .int .i64 1, .int .i64 11, .int .u32 9] 70)).grown g8 (by rw [World.size_alloc, hs6]; have := b5.size; omega) (fun j hj => by have := (nu j hj).1; omega)
          exact o9.below b7 (fun k hk => by simp at hk; omega) b7.size
        · rw [thr _ (by omega) (by omega) (fun g hg => by have := (nu g hg).1; omega)]
          exact (g5.block _ (by simp; omega) (fun e => by have := (nb _ e.symm).1; omega)).trans ((b4.block _ (by omega)).trans hI'.rb)
        · rw [flP_succ]
          exact own_keepP o5 (fun g hg => by
            have e : g = x5 := by simpa [Value.ownBlock] using hg.symm
            subst e
            exact thr g l5 (by omega) xu)
        · rw [flP_succ]
          exact own_keepP o8 (fun g hg => by
            have e : g = x8 := by simpa [Value.ownBlock] using hg.symm
            subst e
            exact o9.block g (o8.lt g rfl).2 (by simp; omega))
        · intro g hg hg'
          cases hg
          have e8 : x8 = x5 := by simpa [Value.ownBlock] using hg'
          rcases s8 with h | h
          · have h2 : some x8 = _ := h
            exact xu x8 h2.symm e8.symm
          · have h2 : some x8 = some _ := h
            simp only [Option.some.injEq] at h2
            omega
      have HS : Hid (_) := key.out.1
      have f0 := cell_of_row w8 _ 0 _ _ _ key.out.2
      have f1 := cell_of_row w8 _ 1 _ _ _ key.out.2
      have fz := fun k => frozen_of_row w8 _ k _ _ key.out.2
      clear key o8 g8 s8 HH u7 hcl7 hbs7 HI
      go_wp2_with fail
      go_roundw
      case rel => exact ⟨2, _, _, _, _, by omega, by go_num, HS⟩
      case measure => simp [natG]
    · have x0 := cell_of_row wr _ 0 _ _ _ HI.out.xb
      have x1 := cell_of_row wr _ 1 _ _ _ HI.out.xb
      have x2 := cell_of_row wr _ 2 _ _ _ HI.out.xb
      have y0 := cell_of_row wr _ 0 _ _ _ HI.out.rb
      have y1 := cell_of_row wr _ 1 _ _ _ HI.out.rb
      have y2 := cell_of_row wr _ 2 _ _ _ HI.out.rb
      have yz := fun k => frozen_of_row wr _ k _ _ HI.out.rb
      go_wp2_with fail
      refine bodyPost_ret (v := .agg #[.slice va 2 vc, .slice ua 2 uc, .int .u32 50]) (by simp [results, Try.results16, go_sem, y0, y1, y2]) rfl ?_
      have o : Off [w.heap.size] wr (((wr.setCell ⟨w.heap.size, 0, none⟩ (.slice va 2 vc)).setCell ⟨w.heap.size, 1, none⟩ (.slice ua 2 uc)).setCell ⟨w.heap.size, 2, none⟩ (.int .u32 50)) := ((Off.setCell _ _ _ _).trans (Off.setCell _ _ _ _)).trans (Off.setCell _ _ _ _)
      have hI := HI.out
      exact ⟨va, vc, ua, uc, rfl, PRow.of_own (own_keepP hI.ov (fun g hg => o.block g (hI.ov.lt g hg).2 (by have := (hI.ov.lt g hg).1; simp; omega))), PRow.of_own (own_keepP hI.ou (fun g hg => o.block g (hI.ou.lt g hg).2 (by have := (hI.ou.lt g hg).1; simp; omega))), o.below hI.bel (fun k hk => by simp at hk; omega) hI.bel.size⟩
end Go.Proofs.Ytaeamogagaaodaa
