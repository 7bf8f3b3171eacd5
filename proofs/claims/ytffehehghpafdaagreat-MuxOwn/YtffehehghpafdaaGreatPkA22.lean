/- Part 23 of the texts on which the proofs of layer 13 rest: contracts of Go functions. -/
import Derived.Test.YtffehehghpafdaaGreatPkA00
import Derived.Test.YtffehehghpafdaaGreatPkA06
import Derived.Test.YtffehehghpafdaaGreatPkA12
import Derived.Test.YtffehehghpafdaaGreatPkA18
import Derived.Test.YtffehehghpafdaaGreatPkA21
namespace Go.Proofs.YtffehehghpafdaaGreat
set_option maxRecDepth 100000
open Go.RowKit Go.Maps Go.Sort Go.Shelf
def ptV (d : Nat) : Value := .pointer (some ⟨d, 0, none⟩)
def inV (n : Nat) : Value := .int .i64 (n : Nat)
theorem tdiffM {w : World} {a b : Nat} {c c' : Array Value} {e e' : TypeId} {f f' : Nat × Nat} (h : w.heap[a]? = some (.cells c e f)) (h' : w.heap[b]? = some (.cells c' e' f')) (he : e ≠ e') : a ≠ b := fun k => by
  subst k
  rw [h] at h'
  cases h'
  exact he rfl
theorem own_blkM {w : World} {B : Nat} {e : TypeId} {size n : Nat} {v : Value} {xs : List Value} (h : w.ownsRow B e size v n xs) {k : Nat} (hk : v.ownBlock = some k) : ∃ c, w.heap[k]? = some (.cells c e (0, 0)) := by
  rcases h.2 with ⟨rfl, _⟩ | ⟨g, cap, cur, rfl, _, hg, _⟩
  · cases hk
  · cases hk
    exact ⟨cur, hg⟩
structure RMx (w : World) (b : Nat) (v1 v2 : Value) (ds ns : List Nat) (lost : Nat) : Prop where
  blk : w.heap[b]? = some (.cells #[v1, v2, .int .i64 (lost : Nat)] 102 (0, 0))
  r1 : w.ownsRow 0 45 1 v1 ds.length (ds.map ptV)
  r2 : w.ownsRow 0 3 1 v2 ns.length (ns.map inV)
def RMU (b : Nat) (v1 v2 : Value) : List Nat := b :: (v1.ownBlock.toList ++ v2.ownBlock.toList)
section
variable {w w' : World} {b lost : Nat} {v1 v2 : Value} {ds ns : List Nat}
theorem RMx.lt (h : RMx w b v1 v2 ds ns lost) : ∀ k, k ∈ RMU b v1 v2 → k < w.heap.size := by
  intro k hk
  simp [RMU] at hk
  rcases hk with rfl | hk | hk
  · exact (Array.getElem?_eq_some_iff.1 h.blk).1
  · obtain ⟨c, hc⟩ := own_blkM h.r1 hk
    exact (Array.getElem?_eq_some_iff.1 hc).1
  · obtain ⟨c, hc⟩ := own_blkM h.r2 hk
    exact (Array.getElem?_eq_some_iff.1 hc).1
theorem own_offM {l : List Nat} {w w' : World} {B e size n : Nat} {v : Value} {xs : List Value} (h : w.ownsRow B e size v n xs) (q : Off l w w') (hl : ∀ k, v.ownBlock = some k → k ∉ l) : w'.ownsRow B e size v n xs := by
  refine ⟨h.1, ?_⟩
  rcases h.2 with hn | ⟨g, cap, cur, rfl, hg, hgg, rest⟩
  · exact .inl hn
  · exact .inr ⟨g, cap, cur, rfl, hg, by rw [q.block g (Array.getElem?_eq_some_iff.1 hgg).1 (hl g rfl)]; exact hgg, rest⟩
theorem RMx.off {l : List Nat} (h : RMx w b v1 v2 ds ns lost) (o : Off l w w') (hl : ∀ k, k ∈ RMU b v1 v2 → k ∉ l) : RMx w' b v1 v2 ds ns lost :=
  ⟨(o.block b (h.lt b (by simp [RMU])) (hl b (by simp [RMU]))).trans h.blk, own_offM h.r1 o (fun k hk => hl k (by simp [RMU, hk])), own_offM h.r2 o (fun k hk => hl k (by simp [RMU, hk]))⟩
end
def rmT (b : Nat) (v1 v2 : Value) (ds ns : List Nat) (lost : Nat) : Thing := ⟨RMU b v1 v2, fun w => RMx w b v1 v2 ds ns lost, fun _ _ _ h o hl => h.off o hl⟩
def Fnd (n : Nat) (cs : Nat → Nat) (c : Nat) (r : Int) : Prop := (r = -1 ∧ ∀ i, i < n → cs i ≠ c) ∨ ∃ j : Nat, j < n ∧ r = (j : Int) ∧ cs j = c ∧ ∀ i, i < j → cs i ≠ c
theorem own_ptr {w : World} {B : Nat} {e : TypeId} {v : Value} {ds : List Nat} (h : w.ownsRow B e 1 v ds.length (ds.map ptV)) : ∃ a cap, v = .slice a ds.length cap ∧ ∀ i (hi : i < ds.length), ∃ g, a = some ⟨g, 0, none⟩ ∧ g < w.heap.size ∧ w.cell? ⟨g, i, none⟩ = some (ptV ds[i]) := by
  rcases h.2 with ⟨rfl, hn⟩ | ⟨g, cap, cur, rfl, hB, hg, h1, h2, h3, h4⟩
  · exact ⟨none, 0, by rw [hn], fun i hi => by omega⟩
  · refine ⟨some ⟨g, 0, none⟩, cap, rfl, fun i hi => ⟨g, rfl, (Array.getElem?_eq_some_iff.1 hg).1, ?_⟩⟩
    have h5 : cur[i]? = some (ptV ds[i]) := by
      have e : (cur.toList.take (ds.length * 1))[i]? = (ds.map ptV)[i]? := by rw [h4]
      rw [List.getElem?_take_of_lt (by omega)] at e
      simp [hi] at e
      simpa using e
    exact (cell_of_row w g i cur _ _ hg).trans h5
set_option maxHeartbeats 1000000 in
theorem rfind_any (b : Nat) (v1 v2 : Value) (ds ns : List Nat) (lost : Nat) (cs : Nat → Nat) (c : Nat) (w : World) (h : RMx w b v1 v2 ds ns lost) (hc : ∀ i (hi : i < ds.length), w.cell? ⟨ds[i], 0, none⟩ = some (.int .u32 (cs i : Nat))) (hn : ds.length < 100000) :
    Calls Tryz.prog 90 #[.pointer (some ⟨b, 0, none⟩), .int .u32 (c : Nat)] w fun e w' => ∃ r, e = .returned (.int .i64 r) ∧ Hid (Fnd ds.length cs c r) ∧ w' = w := by
  obtain ⟨a, cap, rfl, hcs⟩ := own_ptr h.r1
  have c0 : w.cell? ⟨b, 0, none⟩ = some (.slice a ds.length cap) := cell_of_row w b 0 _ _ _ h.blk
  have HC : Hid (_) := And.intro hcs hc
  obtain ⟨n, en⟩ : ∃ n, n = ds.length := ⟨_, rfl⟩
  have HN : Hid (n = ds.length) := en
  rw [← en] at c0 hn ⊢
  clear en hcs h hc
  go_enter Tryz.func90, Tryz.ntmps90
  go_wp2_with fail
  go_loopw [5] (fun x wr => ∃ i : Nat, i ≤ n ∧ x = .int .i64 ((i : Nat) : Int) ∧ wr = w ∧ ∀ j, j < i → cs j ≠ c) (fun x _ => n - natU x)
  case atStart => exact ⟨0, by omega, rfl, rfl, fun j hj => by omega⟩
  case round =>
    obtain ⟨i, hi, rfl, rfl, hj⟩ := hrel
    by_cases hlt : i < n
    · have hil : i < ds.length := by rw [← HN.out]; exact hlt
      obtain ⟨g, rfl, _, d1⟩ := HC.out.1 i hil
      have d2 := HC.out.2 i hil
      unfold ptV at d1
      generalize ds[i] = d at *
      have HJ : Hid (_) := hj
      clear hj
      by_cases he : cs i = c
      · have he' : ((cs i : Nat) : Int) = (c : Int) := by omega
        go_wp2_with fail
        go_ret
        exact ⟨_, rfl, .inr ⟨i, hlt, rfl, he, HJ.out⟩, rfl⟩
      · have he' : ¬ ((cs i : Nat) : Int) = (c : Int) := by omega
        go_wp2_with fail
        go_roundw
        case rel => exact ⟨i + 1, by omega, by go_num, by trivial, fun j hj => by by_cases e : j = i; (subst e; exact he); exact HJ.out j (by omega)⟩
        case measure => simp [natU] <;> omega
    · obtain rfl : i = n := by omega
      have HJ : Hid (_) := hj
      clear hj
      go_wp2_with fail
      go_ret
      exact ⟨_, rfl, .inl ⟨rfl, HJ.out⟩, rfl⟩
theorem step_one {ops : Array Oper} {rest : List Oper} {o : Oper} {a : Act} {w : World} {Q : Exit → Act → World → Prop} (hgd : o.guard = none) (s x : Operand)
    (ho : o.op = .call { callee := .builtin .append, args := #[s, x], argTypes := #[22, 22] }) (w0 : World) (v : Value) (l : List Int) (c : Int) (g : Nat) (hs : a.eval s = v) (hx : a.eval x = .slice (some ⟨g, 0, none⟩) 1 1)
    (hown : w.ownsRow w0.heap.size 30 1 v l.length (l.map encU)) (hg : w.heap[g]? = some (.cells #[.int .u32 c] 30 (0, 0))) (hl : l.length < 100000) (hb : Below w0.heap.size w0 w)
    (h : ∀ v' w', Hid (w'.ownsRow w0.heap.size 30 1 v' (l ++ [c]).length ((l ++ [c]).map encU) ∧ Below w0.heap.size w0 w') → wpList Tryz.prog ops Q rest (a.put o.dst v') w') : wpList Tryz.prog ops Q (o :: rest) a w := by
  obtain ⟨i0, hi, hz0, hz1, hz2⟩ := info_parts info_u32
  refine wpList_append_own w hgd s x 22 ho w0.heap.size 30 i0 (.int .u32 0) 1 4 Tryz.underlying22 hi hz0 hz1 hz2 rfl (by decide) v l.length (l.map encU) hs hown ⟨g, 0, none⟩ 1 1 ([c].map encU) hx rfl (fun j u hu => one_cellU hg _ rfl j u hu) (by intro u hu; simp at hu; subst hu; rfl) (by unfold maxLen; omega) (by omega) hb.size ?_
  intro v' w' h1 h2 h3
  refine h v' w' ⟨?_, hb.grown h2 hb.size (fun k hk => (hown.lt k hk).1)⟩
  rw [List.map_append, List.length_append]
  exact h1
end Go.Proofs.YtffehehghpafdaaGreat
namespace Go.Proofs.YtffehehghpafdaaGreat
set_option maxRecDepth 100000
open Go.RowKit Go.Maps Go.Sort Go.Shelf
theorem info_ptM : (Tryz.prog.info? 45).map (fun i => (i.zero, i.size, i.bytes)) = some (some (.pointer none), 1, 8) := by kernel_rfl
theorem info_inM : (Tryz.prog.info? 3).map (fun i => (i.zero, i.size, i.bytes)) = some (some (.int .i64 0), 1, 8) := by kernel_rfl
theorem grown_blk {w w' : World} {row : Option Nat} {k : Nat} {o : Obj} (h : w.grownBy w' row) (hk : w.heap[k]? = some o) (hr : row ≠ some k) : w'.heap[k]? = some o := (h.block k (Array.getElem?_eq_some_iff.1 hk).1 (fun e => hr e.symm)).trans hk
theorem Off.grownO {w w' : World} {row : Option Nat} (h : w.grownBy w' row) : Off row.toList w w' := ⟨h.os, h.tape, h.output, h.size, fun k hk hb => h.block k hk (by intro e; apply hb; rw [← e]; simp)⟩
theorem one_cellG {W : World} {g : Nat} {e : TypeId} {y : Value} (h : W.heap[g]? = some (.cells #[y] e (0, 0))) : ∀ j u, [y][j]? = some u → W.cell? ((⟨g, 0, none⟩ : Addr).add j) = some u := by
  intro j u hu
  have hj : j = 0 := by
    have := (List.getElem?_eq_some_iff.1 hu).1
    simp at this; exact this
  subst hj
  simp at hu
  subst hu
  rw [Go.WideShapes.add_plain]
  exact (cell_of_row W g 0 _ _ _ h).trans rfl
theorem own_sl {w : World} {B e size n : Nat} {v : Value} {xs : List Value} (h : w.ownsRow B e size v n xs) : ∃ a cap m, v = .slice a m cap := by
  rcases h.2 with ⟨rfl, _⟩ | ⟨g, cap, cur, rfl, _⟩
  · exact ⟨none, 0, 0, rfl⟩
  · exact ⟨_, cap, n, rfl⟩
theorem own_some1M {w : World} {B e size n : Nat} {v : Value} {xs : List Value} (h : w.ownsRow B e size v (n + 1) xs) : ∃ g cap, v = .slice (some ⟨g, 0, none⟩) (n + 1) cap ∧ B ≤ g ∧ g < w.heap.size := by
  rcases h.2 with ⟨_, hn⟩ | ⟨g, cap, cur, rfl, hB, hg, _⟩
  · omega
  · exact ⟨g, cap, rfl, hB, (Array.getElem?_eq_some_iff.1 hg).1⟩
section
variable {w w1 : World} {b lost : Nat} {v1 v2 v' : Value} {ds ns : List Nat} {ob : Obj}
theorem RMx.app1 (h : RMx w b v1 v2 ds ns lost) (d : Nat) (o1 : w1.ownsRow 0 45 1 v' (ds.length + 1) (ds.map ptV ++ [ptV d])) (g1 : (w.alloc ob).grownBy w1 v1.ownBlock) (hb : v'.ownBlock = v1.ownBlock ∨ v'.ownBlock = some (w.heap.size + 1)) :
    w1.heap[b]? = some (.cells #[v1, v2, .int .i64 (lost : Nat)] 102 (0, 0)) ∧ RMx (w1.setCell ⟨b, 0, none⟩ v') b v' v2 (ds ++ [d]) ns lost ∧ Gr (RMU b v1 v2) w (RMU b v' v2) (w1.setCell ⟨b, 0, none⟩ v') := by
  have hbl := h.lt b (by simp [RMU])
  have nb1 : v1.ownBlock ≠ some b := fun e => by
    obtain ⟨c, hc⟩ := own_blkM h.r1 e
    exact tdiffM h.blk hc (by decide) rfl
  have nb2 : v2.ownBlock ≠ some b := fun e => by
    obtain ⟨c, hc⟩ := own_blkM h.r2 e
    exact tdiffM h.blk hc (by decide) rfl
  have n12 : ∀ k, v2.ownBlock = some k → v1.ownBlock ≠ some k := fun k hk e => by
    obtain ⟨c, hc⟩ := own_blkM h.r1 e
    obtain ⟨c', hc'⟩ := own_blkM h.r2 hk
    exact tdiffM hc hc' (by decide) rfl
  have e1 : w1.heap[b]? = some (.cells #[v1, v2, .int .i64 (lost : Nat)] 102 (0, 0)) := grown_blk g1 ((heap_alloc_old w ob hbl).trans h.blk) nb1
  have oA : Off (RMU b v1 v2) w w1 := ((Off.alloc _ w ob).trans ((Off.grownO g1).more (fun k hk => by simp at hk; simp [RMU, hk])))
  have oB : Off (RMU b v1 v2) w (w1.setCell ⟨b, 0, none⟩ v') := oA.trans ((Off.setCell b 0 w1 v').more (fun k hk => by simp at hk; simp [RMU, hk]))
  have s1 : (w.alloc ob).heap.size = w.heap.size + 1 := by simp
  refine ⟨e1, ⟨?_, ?_, ?_⟩, oB, fun k hk => ?_⟩
  · exact heap_setCell_same _ _ _ _ _ _ e1
  · rw [List.length_append, List.map_append]
    refine own_offM o1 (Off.setCell b 0 w1 v') (fun k hk hm => ?_)
    simp at hm
    subst hm
    rcases hb with hb | hb
    · exact nb1 (hb ▸ hk)
    · rw [hb] at hk
      simp at hk
      omega
  · refine own_offM (own_offM (own_offM h.r2 (Off.alloc [] w ob) (by simp)) (Off.grownO g1) (fun k hk hm => ?_)) (Off.setCell b 0 w1 v') (fun k hk hm => ?_)
    · simp at hm
      exact n12 k hk hm
    · simp at hm
      subst hm
      exact nb2 hk
  · simp [RMU] at hk
    rcases hk with rfl | hk | hk
    · exact .inl (by simp [RMU])
    · rcases hb with hb | hb
      · exact .inl (by simp [RMU, ← hb, hk])
      · rw [hb] at hk
        simp at hk
        exact .inr (by omega)
    · exact .inl (by simp [RMU, hk])
theorem RMx.app2 (h : RMx w b v1 v2 ds ns lost) (o1 : w1.ownsRow 0 3 1 v' (ns.length + 1) (ns.map inV ++ [inV 0])) (g1 : (w.alloc ob).grownBy w1 v2.ownBlock) (hb : v'.ownBlock = v2.ownBlock ∨ v'.ownBlock = some (w.heap.size + 1)) :
    w1.heap[b]? = some (.cells #[v1, v2, .int .i64 (lost : Nat)] 102 (0, 0)) ∧ RMx (w1.setCell ⟨b, 1, none⟩ v') b v1 v' ds (ns ++ [0]) lost ∧ Gr (RMU b v1 v2) w (RMU b v1 v') (w1.setCell ⟨b, 1, none⟩ v') := by
  have hbl := h.lt b (by simp [RMU])
  have nb1 : v1.ownBlock ≠ some b := fun e => by
    obtain ⟨c, hc⟩ := own_blkM h.r1 e
    exact tdiffM h.blk hc (by decide) rfl
  have nb2 : v2.ownBlock ≠ some b := fun e => by
    obtain ⟨c, hc⟩ := own_blkM h.r2 e
    exact tdiffM h.blk hc (by decide) rfl
  have n12 : ∀ k, v1.ownBlock = some k → v2.ownBlock ≠ some k := fun k hk e => by
    obtain ⟨c, hc⟩ := own_blkM h.r1 hk
    obtain ⟨c', hc'⟩ := own_blkM h.r2 e
    exact tdiffM hc hc' (by decide) rfl
  have e1 : w1.heap[b]? = some (.cells #[v1, v2, .int .i64 (lost : Nat)] 102 (0, 0)) := grown_blk g1 ((heap_alloc_old w ob hbl).trans h.blk) nb2
  have oA : Off (RMU b v1 v2) w w1 := ((Off.alloc _ w ob).trans ((Off.grownO g1).more (fun k hk => by simp at hk; simp [RMU, hk])))
  have oB : Off (RMU b v1 v2) w (w1.setCell ⟨b, 1, none⟩ v') := oA.trans ((Off.setCell b 1 w1 v').more (fun k hk => by simp at hk; simp [RMU, hk]))
  have s1 : (w.alloc ob).heap.size = w.heap.size + 1 := by simp
  refine ⟨e1, ⟨?_, ?_, ?_⟩, oB, fun k hk => ?_⟩
  · exact heap_setCell_same _ _ _ _ _ _ e1
  · refine own_offM (own_offM (own_offM h.r1 (Off.alloc [] w ob) (by simp)) (Off.grownO g1) (fun k hk hm => ?_)) (Off.setCell b 1 w1 v') (fun k hk hm => ?_)
    · simp at hm
      exact n12 k hk hm
    · simp at hm
      subst hm
      exact nb1 hk
  · rw [List.length_append, List.map_append]
    refine own_offM o1 (Off.setCell b 1 w1 v') (fun k hk hm => ?_)
    simp at hm
    subst hm
    rcases hb with hb | hb
    · exact nb2 (hb ▸ hk)
    · rw [hb] at hk
      simp at hk
      omega
  · simp [RMU] at hk
    rcases hk with rfl | hk | hk
    · exact .inl (by simp [RMU])
    · exact .inl (by simp [RMU, hk])
    · rcases hb with hb | hb
      · exact .inl (by simp [RMU, ← hb, hk])
      · rw [hb] at hk
        simp at hk
        exact .inr (by omega)
end
set_option maxHeartbeats 2000000 in
theorem radd_ok (b : Nat) (v1 v2 : Value) (ds ns : List Nat) (lost : Nat) (cs : Nat → Nat) (d c : Nat) (w : World) (h : RMx w b v1 v2 ds ns lost) (hc : ∀ i (hi : i < ds.length), w.cell? ⟨ds[i], 0, none⟩ = some (.int .u32 (cs i : Nat))) (cd : w.cell? ⟨d, 0, none⟩ = some (.int .u32 (c : Nat))) (hf : ∀ i, i < ds.length → cs i ≠ c) (h8 : ds.length < 8) (hn8 : ns.length < 1000) :
    Calls Tryz.prog 39 #[.pointer (some ⟨b, 0, none⟩), .pointer (some ⟨d, 0, none⟩)] w fun e w' => e = .returned (.int .i64 0) ∧ Hid (∃ v1' v2', Gr (RMU b v1 v2) w (RMU b v1' v2') w' ∧ RMx w' b v1' v2' (ds ++ [d]) (ns ++ [0]) lost) := by
  have hF := rfind_any b v1 v2 ds ns lost cs c w h hc (by omega)
  obtain ⟨i0, hi, hz0, hz1, hz2⟩ := info_parts info_ptM
  obtain ⟨j0, hj, hy0, hy1, hy2⟩ := info_parts info_inM
  obtain ⟨a1, cap1, rfl, _⟩ := own_ptr h.r1
  obtain ⟨a2, cap2, m, rfl⟩ := own_sl h.r2
  have c0 : w.cell? ⟨b, 0, none⟩ = some (.slice a1 ds.length cap1) := cell_of_row w b 0 _ _ _ h.blk
  have r1 := h.r1.alloc (.cells #[.pointer (some ⟨d, 0, none⟩)] 45)
  have HH : Hid (_) := h
  have HF : Hid (_) := hf
  have hbl := h.lt b (by simp [RMU])
  obtain ⟨n, en⟩ : ∃ n, n = ds.length := ⟨_, rfl⟩
  have HN : Hid (n = ds.length) := en
  have h8' : ¬ (8 : Int) ≤ (n : Int) := by omega
  rw [← en] at c0 r1
  clear h hf hc en
  go_enter Tryz.func39, Tryz.ntmps39
  go_wp2_with (first
    | (go_at_call 90; refine hF.mono ?_; rintro e w' ⟨r, rfl, hr, hw⟩; have hw := hw.symm; subst hw; have hr' : r = -1 := (by rcases hr.out with ⟨e, _⟩ | ⟨j, hj, _, e, _⟩; exact e; exact absurd e (HF.out j hj)); subst hr')
    | (at_builtin; refine wpList_append_own_at _ rfl (.tmp 23) (.tmp 25) 40 rfl 0 45 i0 (.pointer none) 1 8 Tryz.underlying40 hi hz0 hz1 hz2 rfl (by decide) (.slice a1 n cap1) n (ds.map ptV) rfl r1 ⟨w.heap.size, 0, none⟩ 1 1 [ptV d] rfl rfl (one_cellG (heap_alloc_new w _)) (by intro u hu; simp at hu; subst hu; rfl) (by unfold maxLen; omega) (by omega) (Nat.zero_le _) ?_))
  intro v1' w1 o1 g1 _ b1
  obtain ⟨x1, y1, rfl, _, _⟩ := own_some1M o1
  have hA := HH.out.app1 d (by rw [← HN.out]; exact o1) (by rw [← HN.out]; exact g1) (by rw [← HN.out]; exact b1)
  have k0 : w1.cell? ⟨b, 0, none⟩ = some (.slice a1 ds.length cap1) := cell_of_row w1 b 0 _ _ _ hA.1
  have z0 : w1.frozen? ⟨b, 0, none⟩ = false := frozen_of_row w1 b 0 _ _ hA.1
  have z1 : (w1.setCell ⟨b, 0, none⟩ (.slice (some ⟨x1, 0, none⟩) (n + 1) y1)).cell? ⟨b, 1, none⟩ = some (.slice a2 m cap2) := cell_of_row _ b 1 _ _ _ hA.2.1.blk
  have r2 := hA.2.1.r2.alloc (.cells #[.int .i64 0] 3)
  have HA : Hid (_) := hA
  clear hA o1 g1 b1 r1 hF
  generalize hw2 : w1.setCell ⟨b, 0, none⟩ (.slice (some ⟨x1, 0, none⟩) (n + 1) y1) = w2 at *
  go_wp2_with (at_builtin; refine wpList_append_own_at _ rfl (.tmp 33) (.tmp 34) 87 rfl 0 3 j0 (.int .i64 0) 1 8 Tryz.underlying87 hj hy0 hy1 hy2 rfl (by decide) (.slice a2 m cap2) ns.length (ns.map inV) rfl r2 ⟨w2.heap.size, 0, none⟩ 1 1 [inV 0] rfl rfl (one_cellG (heap_alloc_new w2 _)) (by intro u hu; simp at hu; subst hu; rfl) (by unfold maxLen; omega) (by omega) (Nat.zero_le _) ?_)
  intro v2' w3 o3 g3 _ b3
  obtain ⟨x3, y3, rfl, _, _⟩ := own_some1M o3
  have hB := HA.out.2.1.app2 o3 g3 b3
  have k1 : w3.cell? ⟨b, 1, none⟩ = some (.slice a2 m cap2) := cell_of_row w3 b 1 _ _ _ hB.1
  have z3 : w3.frozen? ⟨b, 1, none⟩ = false := frozen_of_row w3 b 1 _ _ hB.1
  have HB : Hid (_) := hB
  clear hB o3 g3 b3 r2
  go_wp2_with fail
  go_ret
  exact ⟨rfl, _, _, HA.out.2.2.trans HB.out.2.2, HB.out.2.1⟩
theorem radd_no (b : Nat) (v1 v2 : Value) (ds ns : List Nat) (lost : Nat) (cs : Nat → Nat) (d c : Nat) (w : World) (h : RMx w b v1 v2 ds ns lost) (hc : ∀ i (hi : i < ds.length), w.cell? ⟨ds[i], 0, none⟩ = some (.int .u32 (cs i : Nat))) (cd : w.cell? ⟨d, 0, none⟩ = some (.int .u32 (c : Nat))) (hn : ds.length < 1000) (E : Int) (hE : ((∃ i, i < ds.length ∧ cs i = c) ∧ E = 160) ∨ ((∀ i, i < ds.length → cs i ≠ c) ∧ 8 ≤ ds.length ∧ E = 150)) :
    Calls Tryz.prog 39 #[.pointer (some ⟨b, 0, none⟩), .pointer (some ⟨d, 0, none⟩)] w fun e w' => e = .returned (.int .i64 E) ∧ w' = w := by
  have hF := rfind_any b v1 v2 ds ns lost cs c w h hc (by omega)
  obtain ⟨a1, cap1, rfl, _⟩ := own_ptr h.r1
  have c0 : w.cell? ⟨b, 0, none⟩ = some (.slice a1 ds.length cap1) := cell_of_row w b 0 _ _ _ h.blk
  obtain ⟨n, en⟩ : ∃ n, n = ds.length := ⟨_, rfl⟩
  rw [← en] at c0 hF hn hE
  clear h hc en
  rcases hE with ⟨⟨i, hi, hic⟩, rfl⟩ | ⟨hf, h8, rfl⟩
  · go_enter Tryz.func39, Tryz.ntmps39
    go_wp2_with (go_at_call 90; refine hF.mono ?_; rintro e w' ⟨r, rfl, hr, hw⟩; have hw := hw.symm; subst hw; have hr' : 0 ≤ r := (by rcases hr.out with ⟨_, e⟩ | ⟨j, _, e, _⟩; exact absurd hic (e i hi); omega))
    go_ret
    exact ⟨rfl, rfl⟩
  · have h8' : (8 : Int) ≤ (n : Int) := by omega
    go_enter Tryz.func39, Tryz.ntmps39
    go_wp2_with (go_at_call 90; refine hF.mono ?_; rintro e w' ⟨r, rfl, hr, hw⟩; have hw := hw.symm; subst hw; have hr' : r = -1 := (by rcases hr.out with ⟨e, _⟩ | ⟨j, hj, _, e, _⟩; exact e; exact absurd e (hf j hj)); subst hr')
    go_ret
    exact ⟨rfl, rfl⟩
end Go.Proofs.YtffehehghpafdaaGreat
namespace Go.Proofs.YtffehehghpafdaaGreat
set_option maxRecDepth 100000
open Go.RowKit Go.Maps Go.Sort Go.Shelf
def cdsC (n : Nat) (cs : Nat → Nat) : List Int := (List.range n).map fun j => (cs j : Int)
theorem cdsC_succ (i : Nat) (cs : Nat → Nat) : cdsC (i + 1) cs = cdsC i cs ++ [(cs i : Int)] := by simp [cdsC, List.range_succ]
theorem cdsC_len (i : Nat) (cs : Nat → Nat) : (cdsC i cs).length = i := by simp [cdsC]
theorem RW.code {w : World} {d m g n mx : Nat} {P : Pm} {U : List Nat} {s : Sd} (h : RW w d m g n mx P U s) : w.cell? ⟨d, 0, none⟩ = some (.int .u32 (P.c : Nat)) := by
  obtain ⟨B, x⟩ := h
  exact cell_of_row w d 0 _ _ _ x.dev
set_option maxHeartbeats 1000000 in
theorem rcodesM_any (b : Nat) (v1 v2 : Value) (ds ns : List Nat) (lost : Nat) (cs : Nat → Nat) (w : World) (h : RMx w b v1 v2 ds ns lost) (hc : ∀ i (hi : i < ds.length), w.cell? ⟨ds[i], 0, none⟩ = some (.int .u32 (cs i : Nat))) (hn : ds.length < 10000) :
    Calls Tryz.prog 47 #[.pointer (some ⟨b, 0, none⟩)] w fun e w' => ∃ v, e = .returned v ∧ Hid (w'.ownsRow w.heap.size 30 1 v (riseU (cdsC ds.length cs)).length ((riseU (cdsC ds.length cs)).map encU) ∧ Below w.heap.size w w') := by
  obtain ⟨a1, cap1, rfl, hcs⟩ := own_ptr h.r1
  have c0 : w.cell? ⟨b, 0, none⟩ = some (.slice a1 ds.length cap1) := cell_of_row w b 0 _ _ _ h.blk
  have hbl := h.lt b (by simp [RMU])
  have HC : Hid (_) := And.intro hcs hc
  obtain ⟨n, en⟩ : ∃ n, n = ds.length := ⟨_, rfl⟩
  have HN : Hid (n = ds.length) := en
  rw [← en] at c0 hn ⊢
  clear en hcs h hc
  go_enter Tryz.func47, Tryz.ntmps47
  go_wp2_with fail
  go_loopw [3, 4] (fun v x wr => ∃ i : Nat, i ≤ n ∧ x = .int .i64 ((i : Nat) : Int) ∧ Hid (wr.ownsRow w.heap.size 30 1 v (cdsC i cs).length ((cdsC i cs).map encU) ∧ Below w.heap.size w wr)) (fun _ x _ => n - natU x)
  case atStart => exact ⟨0, by omega, rfl, World.ownsRow_nil _ _ _ _, Below.refl _ _⟩
  case round =>
    obtain ⟨i, hi, rfl, HR⟩ := hrel
    have c1 : wr.cell? ⟨b, 0, none⟩ = some (.slice a1 n cap1) := (World.cell?_of_block (HR.out.2.block b hbl)).trans c0
    by_cases hlt : i < n
    · have hil : i < ds.length := by rw [← HN.out]; exact hlt
      obtain ⟨g, rfl, hg, x1⟩ := HC.out.1 i hil
      have x2 := HC.out.2 i hil
      unfold ptV at x1
      have d1 : wr.cell? ⟨g, i, none⟩ = some (.pointer (some ⟨ds[i], 0, none⟩)) := (World.cell?_of_block (HR.out.2.block g hg)).trans x1
      have d2 : wr.cell? ⟨ds[i], 0, none⟩ = some (.int .u32 (cs i : Nat)) := (World.cell?_of_block (HR.out.2.block _ (World.block_lt_of_cell? w _ x2))).trans x2
      generalize ds[i] = d at *
      clear x1 x2
      go_wp2_with (at_builtin; refine step_one rfl (.tmp 14) (.tmp 26) rfl w _ (cdsC i cs) (cs i : Nat) wr.heap.size rfl rfl (own_below HR.out.1 ((Below.refl _ _).alloc (Nat.le_refl _) _)) (heap_alloc_new wr _) (by rw [cdsC_len]; omega) (HR.out.2.alloc HR.out.2.size _) ?_; intro v' w4 H4)
      go_roundw
      case rel => exact ⟨i + 1, by omega, by go_num, by rw [cdsC_succ]; exact H4⟩
      case measure => simp [natU] <;> omega
    · obtain rfl : i = n := by omega
      obtain ⟨a, cap, rfl, hcs⟩ := own_cellsU HR.out.1
      rw [cdsC_len]
      have hRi := rrising_any a cap (cdsC i cs) wr hcs (by rw [cdsC_len]; omega)
      rw [cdsC_len] at hRi
      clear hcs
      go_wp2_with (go_at_call 98; refine hRi.mono ?_; rintro e w5 ⟨v5, rfl, h5⟩)
      go_ret
      exact ⟨_, rfl, own_baseU h5.out.1 HR.out.2.size, HR.out.2.trans (h5.out.2.mono HR.out.2.size)⟩
end Go.Proofs.YtffehehghpafdaaGreat
namespace Go.Proofs.YtffehehghpafdaaGreat
set_option maxRecDepth 100000
open Go.RowKit Go.Maps Go.Sort Go.Shelf
structure WD (w : World) (x b r : Nat) (va vm vr : Value) (ds ms rs : List Nat) : Prop where
  blk : w.heap[x]? = some (.cells #[ptV b, ptV r, va, vm, vr] 42 (0, 0))
  ra : w.ownsRow 0 43 1 va ds.length (ds.map ptV)
  rm : w.ownsRow 0 44 1 vm ms.length (ms.map ptV)
  rr : w.ownsRow 0 45 1 vr rs.length (rs.map ptV)
def WDU (x : Nat) (va vm vr : Value) : List Nat := x :: (va.ownBlock.toList ++ (vm.ownBlock.toList ++ vr.ownBlock.toList))
section
variable {w w' : World} {x b r : Nat} {va vm vr : Value} {ds ms rs : List Nat}
theorem WD.lt (h : WD w x b r va vm vr ds ms rs) : ∀ k, k ∈ WDU x va vm vr → k < w.heap.size := by
  intro k hk
  simp [WDU] at hk
  rcases hk with rfl | hk | hk | hk
  · exact (Array.getElem?_eq_some_iff.1 h.blk).1
  · obtain ⟨c, hc⟩ := own_blkM h.ra hk
    exact (Array.getElem?_eq_some_iff.1 hc).1
  · obtain ⟨c, hc⟩ := own_blkM h.rm hk
    exact (Array.getElem?_eq_some_iff.1 hc).1
  · obtain ⟨c, hc⟩ := own_blkM h.rr hk
    exact (Array.getElem?_eq_some_iff.1 hc).1
theorem WD.off {l : List Nat} (h : WD w x b r va vm vr ds ms rs) (o : Off l w w') (hl : ∀ k, k ∈ WDU x va vm vr → k ∉ l) : WD w' x b r va vm vr ds ms rs :=
  ⟨(o.block x (h.lt x (by simp [WDU])) (hl x (by simp [WDU]))).trans h.blk, own_offM h.ra o (fun k hk => hl k (by simp [WDU, hk])), own_offM h.rm o (fun k hk => hl k (by simp [WDU, hk])), own_offM h.rr o (fun k hk => hl k (by simp [WDU, hk]))⟩
end
def wdT (x b r : Nat) (va vm vr : Value) (ds ms rs : List Nat) : Thing := ⟨WDU x va vm vr, fun w => WD w x b r va vm vr ds ms rs, fun _ _ _ h o hl => h.off o hl⟩
theorem own_keepM {w w1 : World} {ob : Obj} {row : Option Nat} {B e size n x i : Nat} {v y : Value} {xs : List Value} (h : w.ownsRow B e size v n xs) (g : (w.alloc ob).grownBy w1 row) (h1 : ∀ k, v.ownBlock = some k → row ≠ some k) (h2 : v.ownBlock ≠ some x) : (w1.setCell ⟨x, i, none⟩ y).ownsRow B e size v n xs := by
  refine own_offM (own_offM (own_offM h (Off.alloc [] w ob) (by simp)) (Off.grownO g) (fun k hk hm => ?_)) (Off.setCell x i w1 y) (fun k hk hm => ?_)
  · simp at hm
    exact h1 k hk hm
  · simp at hm
    subst hm
    exact h2 hk
section
variable {w w1 : World} {x b r : Nat} {va vm vr v' : Value} {ds ms rs : List Nat} {ob : Obj}
theorem WD.app_a (h : WD w x b r va vm vr ds ms rs) (d : Nat) (o1 : w1.ownsRow 0 43 1 v' (ds.length + 1) (ds.map ptV ++ [ptV d])) (g1 : (w.alloc ob).grownBy w1 va.ownBlock) (hb : v'.ownBlock = va.ownBlock ∨ v'.ownBlock = some (w.heap.size + 1)) :
    w1.heap[x]? = some (.cells #[ptV b, ptV r, va, vm, vr] 42 (0, 0)) ∧ WD (w1.setCell ⟨x, 2, none⟩ v') x b r v' vm vr (ds ++ [d]) ms rs ∧ Gr (WDU x va vm vr) w (WDU x v' vm vr) (w1.setCell ⟨x, 2, none⟩ v') := by
  have hxl := h.lt x (by simp [WDU])
  have nx : va.ownBlock ≠ some x := fun e => by
    obtain ⟨c, hc⟩ := own_blkM h.ra e
    exact tdiffM h.blk hc (by decide) rfl
  have e1 : w1.heap[x]? = some (.cells #[ptV b, ptV r, va, vm, vr] 42 (0, 0)) := grown_blk g1 ((heap_alloc_old w ob hxl).trans h.blk) nx
  have oA : Off (WDU x va vm vr) w w1 := ((Off.alloc _ w ob).trans ((Off.grownO g1).more (fun k hk => by simp at hk; simp [WDU, hk])))
  have oB : Off (WDU x va vm vr) w (w1.setCell ⟨x, 2, none⟩ v') := oA.trans ((Off.setCell x 2 w1 v').more (fun k hk => by simp at hk; simp [WDU, hk]))
  refine ⟨e1, ⟨?_, ?_, ?_, ?_⟩, oB, fun k hk => ?_⟩
  · exact heap_setCell_same _ _ _ _ _ _ e1
  · rw [List.length_append, List.map_append]
    refine own_offM o1 (Off.setCell x 2 w1 v') (fun k hk hm => ?_)
    simp at hm
    subst hm
    rcases hb with hb | hb
    · exact nx (hb ▸ hk)
    · rw [hb] at hk
      simp at hk
      omega
  · exact own_keepM h.rm g1 (fun k hk e => by
      obtain ⟨c, hc⟩ := own_blkM h.ra e
      obtain ⟨c', hc'⟩ := own_blkM h.rm hk
      exact tdiffM hc hc' (by decide) rfl) (fun e => by
      obtain ⟨c, hc⟩ := own_blkM h.rm e
      exact tdiffM h.blk hc (by decide) rfl)
  · exact own_keepM h.rr g1 (fun k hk e => by
      obtain ⟨c, hc⟩ := own_blkM h.ra e
      obtain ⟨c', hc'⟩ := own_blkM h.rr hk
      exact tdiffM hc hc' (by decide) rfl) (fun e => by
      obtain ⟨c, hc⟩ := own_blkM h.rr e
      exact tdiffM h.blk hc (by decide) rfl)
  · simp [WDU] at hk
    rcases hk with rfl | hk | hk | hk
    · exact .inl (by simp [WDU])
    · rcases hb with hb | hb
      · exact .inl (by simp [WDU, ← hb, hk])
      · rw [hb] at hk
        simp at hk
        exact .inr (by omega)
    · exact .inl (by simp [WDU, hk])
    · exact .inl (by simp [WDU, hk])
theorem WD.app_m (h : WD w x b r va vm vr ds ms rs) (d : Nat) (o1 : w1.ownsRow 0 44 1 v' (ms.length + 1) (ms.map ptV ++ [ptV d])) (g1 : (w.alloc ob).grownBy w1 vm.ownBlock) (hb : v'.ownBlock = vm.ownBlock ∨ v'.ownBlock = some (w.heap.size + 1)) :
    w1.heap[x]? = some (.cells #[ptV b, ptV r, va, vm, vr] 42 (0, 0)) ∧ WD (w1.setCell ⟨x, 3, none⟩ v') x b r va v' vr ds (ms ++ [d]) rs ∧ Gr (WDU x va vm vr) w (WDU x va v' vr) (w1.setCell ⟨x, 3, none⟩ v') := by
  have hxl := h.lt x (by simp [WDU])
  have nx : vm.ownBlock ≠ some x := fun e => by
    obtain ⟨c, hc⟩ := own_blkM h.rm e
    exact tdiffM h.blk hc (by decide) rfl
  have e1 : w1.heap[x]? = some (.cells #[ptV b, ptV r, va, vm, vr] 42 (0, 0)) := grown_blk g1 ((heap_alloc_old w ob hxl).trans h.blk) nx
  have oA : Off (WDU x va vm vr) w w1 := ((Off.alloc _ w ob).trans ((Off.grownO g1).more (fun k hk => by simp at hk; simp [WDU, hk])))
  have oB : Off (WDU x va vm vr) w (w1.setCell ⟨x, 3, none⟩ v') := oA.trans ((Off.setCell x 3 w1 v').more (fun k hk => by simp at hk; simp [WDU, hk]))
  refine ⟨e1, ⟨?_, ?_, ?_, ?_⟩, oB, fun k hk => ?_⟩
  · exact heap_setCell_same _ _ _ _ _ _ e1
  · exact own_keepM h.ra g1 (fun k hk e => by
      obtain ⟨c, hc⟩ := own_blkM h.rm e
      obtain ⟨c', hc'⟩ := own_blkM h.ra hk
      exact tdiffM hc hc' (by decide) rfl) (fun e => by
      obtain ⟨c, hc⟩ := own_blkM h.ra e
      exact tdiffM h.blk hc (by decide) rfl)
  · rw [List.length_append, List.map_append]
    refine own_offM o1 (Off.setCell x 3 w1 v') (fun k hk hm => ?_)
    simp at hm
    subst hm
    rcases hb with hb | hb
    · exact nx (hb ▸ hk)
    · rw [hb] at hk
      simp at hk
      omega
  · exact own_keepM h.rr g1 (fun k hk e => by
      obtain ⟨c, hc⟩ := own_blkM h.rm e
      obtain ⟨c', hc'⟩ := own_blkM h.rr hk
      exact tdiffM hc hc' (by decide) rfl) (fun e => by
      obtain ⟨c, hc⟩ := own_blkM h.rr e
      exact tdiffM h.blk hc (by decide) rfl)
  · simp [WDU] at hk
    rcases hk with rfl | hk | hk | hk
    · exact .inl (by simp [WDU])
    · exact .inl (by simp [WDU, hk])
    · rcases hb with hb | hb
      · exact .inl (by simp [WDU, ← hb, hk])
      · rw [hb] at hk
        simp at hk
        exact .inr (by omega)
    · exact .inl (by simp [WDU, hk])
theorem WD.app_r (h : WD w x b r va vm vr ds ms rs) (d : Nat) (o1 : w1.ownsRow 0 45 1 v' (rs.length + 1) (rs.map ptV ++ [ptV d])) (g1 : (w.alloc ob).grownBy w1 vr.ownBlock) (hb : v'.ownBlock = vr.ownBlock ∨ v'.ownBlock = some (w.heap.size + 1)) :
    w1.heap[x]? = some (.cells #[ptV b, ptV r, va, vm, vr] 42 (0, 0)) ∧ WD (w1.setCell ⟨x, 4, none⟩ v') x b r va vm v' ds ms (rs ++ [d]) ∧ Gr (WDU x va vm vr) w (WDU x va vm v') (w1.setCell ⟨x, 4, none⟩ v') := by
  have hxl := h.lt x (by simp [WDU])
  have nx : vr.ownBlock ≠ some x := fun e => by
    obtain ⟨c, hc⟩ := own_blkM h.rr e
    exact tdiffM h.blk hc (by decide) rfl
  have e1 : w1.heap[x]? = some (.cells #[ptV b, ptV r, va, vm, vr] 42 (0, 0)) := grown_blk g1 ((heap_alloc_old w ob hxl).trans h.blk) nx
  have oA : Off (WDU x va vm vr) w w1 := ((Off.alloc _ w ob).trans ((Off.grownO g1).more (fun k hk => by simp at hk; simp [WDU, hk])))
  have oB : Off (WDU x va vm vr) w (w1.setCell ⟨x, 4, none⟩ v') := oA.trans ((Off.setCell x 4 w1 v').more (fun k hk => by simp at hk; simp [WDU, hk]))
  refine ⟨e1, ⟨?_, ?_, ?_, ?_⟩, oB, fun k hk => ?_⟩
  · exact heap_setCell_same _ _ _ _ _ _ e1
  · exact own_keepM h.ra g1 (fun k hk e => by
      obtain ⟨c, hc⟩ := own_blkM h.rr e
      obtain ⟨c', hc'⟩ := own_blkM h.ra hk
      exact tdiffM hc hc' (by decide) rfl) (fun e => by
      obtain ⟨c, hc⟩ := own_blkM h.ra e
      exact tdiffM h.blk hc (by decide) rfl)
  · exact own_keepM h.rm g1 (fun k hk e => by
      obtain ⟨c, hc⟩ := own_blkM h.rr e
      obtain ⟨c', hc'⟩ := own_blkM h.rm hk
      exact tdiffM hc hc' (by decide) rfl) (fun e => by
      obtain ⟨c, hc⟩ := own_blkM h.rm e
      exact tdiffM h.blk hc (by decide) rfl)
  · rw [List.length_append, List.map_append]
    refine own_offM o1 (Off.setCell x 4 w1 v') (fun k hk hm => ?_)
    simp at hm
    subst hm
    rcases hb with hb | hb
    · exact nx (hb ▸ hk)
    · rw [hb] at hk
      simp at hk
      omega
  · simp [WDU] at hk
    rcases hk with rfl | hk | hk | hk
    · exact .inl (by simp [WDU])
    · exact .inl (by simp [WDU, hk])
    · exact .inl (by simp [WDU, hk])
    · rcases hb with hb | hb
      · exact .inl (by simp [WDU, ← hb, hk])
      · rw [hb] at hk
        simp at hk
        exact .inr (by omega)
end
structure Ent where
  L : Pl
  s : Sd
  n : Nat
  k : Nat
def prts (E : List Ent) : List Prt := E.map fun e => ⟨e.L.P.c, e.L.d, e.k, e.n⟩
structure Wo (w0 w : World) (x b r : Nat) (E : List Ent) (lost : Nat) (t : Nat → Thing) : Prop where
  al : Al w0 w t
  mx : ∃ V, t 0 = mxT b (prts E) lost V
  rm : ∃ v1 v2, t 1 = rmT r v1 v2 (E.map (·.L.e)) (E.map (·.n)) lost
  wd : ∃ va vm vr, t 2 = wdT x b r va vm vr (E.map (·.L.d)) (E.map (·.L.m)) (E.map (·.L.e))
  dv : ∀ j (hj : j < E.length), ∃ U, t (10 + 2 * j) = dvT ((E[j]).L.dr (E[j]).s) U
  rw : ∀ j (hj : j < E.length), ∃ U, t (11 + 2 * j) = rwT ((E[j]).L.rr (E[j]).s) U
  le : E.length ≤ 8
  pc : ∀ e, e ∈ E → e.L.n = 16 ∧ e.L.mx = 99 ∧ e.L.P.c ≠ 0 ∧ e.L.P.c < 4294967296 ∧ e.L.P = Pc e.L.P.c
section
variable {w0 w w' : World} {x b r lost : Nat} {E : List Ent} {t : Nat → Thing}
theorem prts_len (E : List Ent) : (prts E).length = E.length := by simp [prts]
theorem prts_get (E : List Ent) (j : Nat) (hj : j < (prts E).length) : (prts E)[j] = ⟨(E[j]'(by simpa [prts] using hj)).L.P.c, (E[j]'(by simpa [prts] using hj)).L.d, (E[j]'(by simpa [prts] using hj)).k, (E[j]'(by simpa [prts] using hj)).n⟩ := by simp [prts]
theorem Wo.below (h : Wo w0 w x b r E lost t) (q : Below w.heap.size w w') : Wo w0 w' x b r E lost t := ⟨h.al.below q, h.mx, h.rm, h.wd, h.dv, h.rw, h.le, h.pc⟩
def cdE (E : List Ent) (i : Nat) : Nat := match E[i]? with | some e => e.L.P.c | none => 0
theorem cdE_get (E : List Ent) (i : Nat) (hi : i < E.length) : cdE E i = (E[i]).L.P.c := by unfold cdE; rw [List.getElem?_eq_getElem hi]
theorem Wo.codes (h : Wo w0 w x b r E lost t) : ∀ i (hi : i < (E.map (·.L.e)).length), w.cell? ⟨(E.map (·.L.e))[i], 0, none⟩ = some (.int .u32 (cdE E i : Nat)) := by
  intro i hi
  have hi' : i < E.length := by simpa using hi
  obtain ⟨U, e⟩ := h.rw i hi'
  have := (h.al.rw e).code
  rw [cdE_get E i hi']
  simpa [Pl.rr] using this
theorem Wo.cells (h : Wo w0 w x b r E lost t) : ∃ va vm vr, w.heap[x]? = some (.cells #[ptV b, ptV r, va, vm, vr] 42 (0, 0)) ∧ WD w x b r va vm vr (E.map (·.L.d)) (E.map (·.L.m)) (E.map (·.L.e)) := by
  obtain ⟨va, vm, vr, e⟩ := h.wd
  exact ⟨va, vm, vr, (h.al.get e).blk, h.al.get e⟩
end
end Go.Proofs.YtffehehghpafdaaGreat
namespace Go.Proofs.YtffehehghpafdaaGreat
set_option maxRecDepth 100000
open Go.RowKit
theorem BRow.nums {k : IntKind} {w : World} {a : Option Addr} {len cap : Nat} {zs : List Int} (h : BRow k w a len cap zs) (hp : 0 < len) :
    ∃ b off, a = some ⟨b, off, none⟩ ∧ b < w.heap.size ∧ ∀ i, i < len → w.cell? ⟨b, off + i, none⟩ = some (.int k (zs.getD i 0)) ∧ (Lit.int k (zs.getD i 0)).wf = true := by
  rcases h with ⟨_, rfl, _, _⟩ | ⟨x, rfl, hl, _, hz, hc, hw⟩
  · omega
  · obtain ⟨b, off, spot⟩ := x
    have h0 := hc 0 (by omega)
    have hspot : spot = none := by simpa [Addr.add] using World.cell?_spot h0
    subst hspot
    rw [Go.WideShapes.add_plain] at h0
    refine ⟨b, off, rfl, World.block_lt_of_cell? w _ h0, fun i hi => ⟨?_, hw _ ?_⟩⟩
    · have h1 := hc i (by omega)
      rw [Go.WideShapes.add_plain] at h1
      exact h1
    · have : i < zs.length := by omega
      rw [List.getD_eq_getElem?_getD, List.getElem?_eq_getElem this]
      exact List.getElem_mem this
end Go.Proofs.YtffehehghpafdaaGreat
namespace Go.Proofs.YtffehehghpafdaaGreat
set_option maxRecDepth 100000
open Go.RowKit Go.Maps Go.Sort Go.Shelf
def Es (t : Nat → Thing) (E : List Ent) : Prop := ∀ j (hj : j < E.length), (∃ U, t (10 + 2 * j) = dvT ((E[j]).L.dr (E[j]).s) U) ∧ ∃ U, t (11 + 2 * j) = rwT ((E[j]).L.rr (E[j]).s) U
section
variable {w0 w w' : World} {x b r lost : Nat} {E : List Ent} {t : Nat → Thing}
theorem Wo.es (h : Wo w0 w x b r E lost t) : Es t E := fun j hj => ⟨h.dv j hj, h.rw j hj⟩
theorem Es.put (h : Es t E) (i : Nat) (y : Thing) (hi : i < 10 ∨ 10 + 2 * E.length ≤ i) : Es (putT t i y) E := fun j hj => by
  rw [putT_ne t y (by omega), putT_ne t y (by omega)]
  exact h j hj
theorem Al.codesE (A : Al w0 w t) (h : Es t E) : ∀ i (hi : i < (E.map (·.L.e)).length), w.cell? ⟨(E.map (·.L.e))[i], 0, none⟩ = some (.int .u32 (cdE E i : Nat)) := by
  intro i hi
  have hi' : i < E.length := by simpa using hi
  obtain ⟨U, e⟩ := (h i hi').2
  have := (A.rw e).code
  rw [cdE_get E i hi']
  simpa [Pl.rr] using this
theorem fnd_prts (E : List Ent) (c : Nat) : (fnd (prts E) c).isSome = true ↔ ∃ i, i < E.length ∧ cdE E i = c := by
  constructor
  · intro h
    cases hq : fnd (prts E) c with
    | none => rw [hq] at h; cases h
    | some p =>
      obtain ⟨hm, hc⟩ := fnd_mem hq
      obtain ⟨i, hi, rfl⟩ := List.getElem_of_mem hm
      have hi' : i < E.length := by simpa [prts] using hi
      refine ⟨i, hi', ?_⟩
      rw [cdE_get E i hi', ← hc, prts_get]
  · rintro ⟨i, hi, hc⟩
    cases hq : fnd (prts E) c with
    | some p => rfl
    | none =>
      have := fnd_none hq ((prts E)[i]'(by simpa [prts] using hi)) (List.getElem_mem _)
      rw [prts_get, ← cdE_get E i hi] at this
      exact absurd hc this
theorem Wo.grow (h : Wo w0 w x b r E lost t) {t' : Nat → Thing} {L : Pl} {s : Sd} {k : Nat} (A : Al w0 w' t') (h0 : ∃ V, t' 0 = mxT b (prts (E ++ [⟨L, s, 0, k⟩])) lost V) (h1 : ∃ v1 v2, t' 1 = rmT r v1 v2 (E.map (·.L.e) ++ [L.e]) (E.map (·.n) ++ [0]) lost) (h2 : ∃ va vm vr, t' 2 = wdT x b r va vm vr (E.map (·.L.d) ++ [L.d]) (E.map (·.L.m) ++ [L.m]) (E.map (·.L.e) ++ [L.e]))
    (he : Es t' E) (hd : ∃ U, t' (10 + 2 * E.length) = dvT (L.dr s) U) (hr : ∃ U, t' (11 + 2 * E.length) = rwT (L.rr s) U) (hle : E.length < 8) (hp : L.n = 16 ∧ L.mx = 99 ∧ L.P.c ≠ 0 ∧ L.P.c < 4294967296 ∧ L.P = Pc L.P.c) : Wo w0 w' x b r (E ++ [⟨L, s, 0, k⟩]) lost t' := by
  have hg : ∀ j (hj : j < (E ++ [(⟨L, s, 0, k⟩ : Ent)]).length), (j < E.length ∧ ∃ hj' : j < E.length, (E ++ [(⟨L, s, 0, k⟩ : Ent)])[j] = E[j]) ∨ (j = E.length ∧ (E ++ [(⟨L, s, 0, k⟩ : Ent)])[j] = ⟨L, s, 0, k⟩) := by
    intro j hj
    by_cases e : j < E.length
    · exact .inl ⟨e, e, List.getElem_append_left e⟩
    · have : j = E.length := by simp at hj; omega
      subst this
      exact .inr ⟨rfl, by simp⟩
  refine ⟨A, h0, ?_, ?_, fun j hj => ?_, fun j hj => ?_, by simp; omega, fun e he' => ?_⟩
  · obtain ⟨v1, v2, e⟩ := h1
    exact ⟨v1, v2, by rw [e, List.map_append, List.map_append]; rfl⟩
  · obtain ⟨va, vm, vr, e⟩ := h2
    exact ⟨va, vm, vr, by rw [e, List.map_append, List.map_append, List.map_append]; rfl⟩
  · rcases hg j hj with ⟨_, hj', e⟩ | ⟨rfl, e⟩
    · rw [e]; exact (he j hj').1
    · rw [e]; exact hd
  · rcases hg j hj with ⟨_, hj', e⟩ | ⟨rfl, e⟩
    · rw [e]; exact (he j hj').2
    · rw [e]; exact hr
  · rcases List.mem_append.1 he' with he' | he'
    · exact h.pc e he'
    · simp at he'
      subst he'
      exact hp
end
set_option maxHeartbeats 2000000 in
theorem made16_no (w : World) :
    Calls Tryz.prog 12 #[.int .u32 0] w fun e w' => ∃ m, e = .returned (.tuple #[.pointer none, .pointer (some ⟨m, 0, none⟩), .pointer none]) ∧ Below w.heap.size w w' := by
  have hS : Calls Tryz.prog 30 #[] w fun e w' => e = .returned (.agg #[.int .u32 7, .int .i64 2, .int .i64 1, .int .i64 10, .int .u32 9]) ∧ Below w.heap.size w w' := small_any w
  have hbad : ¬ okP 0 2 1 10 9 := by unfold okP; omega
  go_enter Tryz.func12, Tryz.ntmps12
  go_wp2_with (go_at_call 30; refine hS.mono ?_; rintro e w1 ⟨rfl, b1⟩)
  obtain ⟨W, hW, bW, pW⟩ := pset w1 0
  rw [hW]
  have hM := new_ok 16 W (by omega)
  refine hM.mono ?_
  rintro e w3 ⟨m, g, rfl, h3⟩
  have hR := rnew_ok 16 w3 (by omega)
  clear hM hS hW
  go_wp2_with fail
  refine hR.mono ?_
  rintro e w4 ⟨r, q, rfl, h4⟩
  obtain ⟨m1, g1, o3, x3⟩ := h3.out
  obtain ⟨r1, q1, o4, x4⟩ := h4.out
  have lp : w1.heap.size < W.heap.size := (Array.getElem?_eq_some_iff.1 pW).1
  have s3 := o3.size
  have s4 := o4.size
  have p4 : w4.heap[w1.heap.size]? = _ := (o4.block _ (by omega) (by simp)).trans ((o3.block _ lp (by simp)).trans pW)
  have hN := newD_bad 0 2 1 10 9 (some ⟨m, 0, none⟩) 99 w4 hbad
  have k0 := cell_of_row w4 w1.heap.size 0 _ _ _ p4
  have k1 := cell_of_row w4 w1.heap.size 1 _ _ _ p4
  have k2 := cell_of_row w4 w1.heap.size 2 _ _ _ p4
  have k3 := cell_of_row w4 w1.heap.size 3 _ _ _ p4
  have k4 := cell_of_row w4 w1.heap.size 4 _ _ _ p4
  have bel : Below w.heap.size w w4 := o4.below (o3.below (b1.trans (bW.mono b1.size)) (by simp) (Nat.le_trans b1.size bW.size)) (by simp) (Nat.le_trans (Nat.le_trans b1.size bW.size) s3)
  have HA : Hid (_) := And.intro bel (And.intro p4 (by omega : w1.heap.size < w4.heap.size))
  clear hR h3 h4 m1 g1 r1 q1 o3 o4 x3 x4 b1 bW pW bel p4
  go_wp2_with fail
  refine hN.mono ?_
  rintro e w5 ⟨rfl, b5⟩
  obtain ⟨bel, p4, lp'⟩ := HA.out
  have p5 : w5.heap[w1.heap.size]? = _ := (b5.block _ lp').trans p4
  have k0 := cell_of_row w5 w1.heap.size 0 _ _ _ p5
  have k1 := cell_of_row w5 w1.heap.size 1 _ _ _ p5
  have k2 := cell_of_row w5 w1.heap.size 2 _ _ _ p5
  have k3 := cell_of_row w5 w1.heap.size 3 _ _ _ p5
  have k4 := cell_of_row w5 w1.heap.size 4 _ _ _ p5
  have hQ := rnew_bad 0 2 1 10 9 (some ⟨r, 0, none⟩) 99 w5 hbad
  have HB : Hid (_) := bel.trans (b5.mono bel.size)
  clear hN b5 bel p4 p5 HA
  go_wp2_with fail
  refine hQ.mono ?_
  rintro e w6 ⟨rfl, b6⟩
  have HC : Hid (_) := HB.out.trans (b6.mono HB.out.size)
  clear hQ b6 HB
  go_wp2_with fail
  refine bodyPost_ret (v := .tuple #[.pointer none, .pointer (some ⟨m, 0, none⟩), .pointer none]) (by simp [results, Tryz.results12, go_sem]) rfl ?_
  exact ⟨m, rfl, HC.out⟩
end Go.Proofs.YtffehehghpafdaaGreat
namespace Go.Proofs.YtffehehghpafdaaGreat
set_option maxRecDepth 100000
open Go.RowKit Go.Maps Go.Sort Go.Shelf
theorem info_pA : (Tryz.prog.info? 43).map (fun i => (i.zero, i.size, i.bytes)) = some (some (.pointer none), 1, 8) := by kernel_rfl
theorem info_pM : (Tryz.prog.info? 44).map (fun i => (i.zero, i.size, i.bytes)) = some (some (.pointer none), 1, 8) := by kernel_rfl
section
variable {w0 w w' : World} {x b r lost : Nat} {E : List Ent} {t : Nat → Thing}
theorem Wo.two (h : Wo w0 w x b r E lost t) {L : Pl} {s : Sd} (T : Two w w' L s) : ∃ t2, Al w0 w' t2 ∧ t2 0 = t 0 ∧ t2 1 = t 1 ∧ t2 2 = t 2 ∧ Es t2 E ∧ (∃ U, t2 (10 + 2 * E.length) = dvT (L.dr s) U) ∧ ∃ U, t2 (11 + 2 * E.length) = rwT (L.rr s) U := by
  obtain ⟨U, V, A⟩ := h.al.two T (10 + 2 * E.length) (11 + 2 * E.length)
  refine ⟨_, A, ?_, ?_, ?_, ?_, ⟨U, ?_⟩, ⟨V, ?_⟩⟩
  · rw [putT_ne _ _ (by omega), putT_ne _ _ (by omega)]
  · rw [putT_ne _ _ (by omega), putT_ne _ _ (by omega)]
  · rw [putT_ne _ _ (by omega), putT_ne _ _ (by omega)]
  · exact (h.es.put _ _ (by omega)).put _ _ (by omega)
  · rw [putT_ne _ _ (by omega), putT_same]
  · rw [putT_same]
theorem Wo.refused (h : Wo w0 w x b r E lost t) {V V' : List Nat} (e0 : t 0 = mxT b (prts E) lost V) (o : Off V w w') (hm : Mxx w' b (prts E) lost V') (hV : ∀ k, k ∈ V' → k ∈ V ∨ k = w.heap.size) : Wo w0 w' x b r E lost (putT t 0 (mxT b (prts E) lost V')) := by
  have es := h.es.put 0 (mxT b (prts E) lost V') (by omega)
  refine ⟨h.al.put0 e0 o hm (fun k hk => (hV k hk).imp id (fun e => by omega)), ⟨V', putT_same _ _ _⟩, ?_, ?_, fun j hj => (es j hj).1, fun j hj => (es j hj).2, h.le, h.pc⟩
  · rw [putT_ne _ _ (by omega)]; exact h.rm
  · rw [putT_ne _ _ (by omega)]; exact h.wd
end
def Wb (w0 w : World) (x b r : Nat) : Prop := ∃ E t, Wo w0 w x b r E 0 t ∧ ∀ e, e ∈ E → e.n = 0 ∧ e.s = dnew M0
theorem addE_refuse {E : List Ent} {c : Nat} (h : addE (prts E) c ≠ 0) : ((∃ i, i < (E.map (·.L.e)).length ∧ cdE E i = c) ∧ addE (prts E) c = 160) ∨ ((∀ i, i < (E.map (·.L.e)).length → cdE E i ≠ c) ∧ 8 ≤ (E.map (·.L.e)).length ∧ addE (prts E) c = 150) := by
  unfold addE at *
  rw [prts_len] at *
  by_cases hf : (fnd (prts E) c).isSome = true
  · rw [if_pos hf]
    left
    have := (fnd_prts E c).1 hf
    simpa using this
  · rw [if_neg hf] at h ⊢
    by_cases h8 : 8 ≤ E.length
    · rw [if_pos h8]
      refine .inr ⟨fun i hi e => hf ((fnd_prts E c).2 ⟨i, by simpa using hi, e⟩), by simpa using h8, rfl⟩
    · rw [if_neg h8] at h
      exact absurd rfl h
theorem addE_ok {E : List Ent} {c d k : Nat} (h : addE (prts E) c = 0) : (∀ i, i < (E.map (·.L.e)).length → cdE E i ≠ c) ∧ E.length < 8 ∧ addL (prts E) c d k = prts E ++ [⟨c, d, k, 0⟩] := by
  unfold addE at h
  unfold addL
  rw [prts_len] at *
  by_cases hf : (fnd (prts E) c).isSome = true
  · rw [if_pos hf] at h; omega
  · rw [if_neg hf] at h ⊢
    by_cases h8 : 8 ≤ E.length
    · rw [if_pos h8] at h; omega
    · rw [if_neg h8]
      exact ⟨fun i hi e => hf ((fnd_prts E c).2 ⟨i, by simpa using hi, e⟩), by omega, rfl⟩
theorem addL_refuse {E : List Ent} {c d k : Nat} (h : addE (prts E) c ≠ 0) : addL (prts E) c d k = prts E := by
  unfold addE at h
  unfold addL
  rw [prts_len] at *
  by_cases hf : (fnd (prts E) c).isSome = true
  · rw [if_pos hf]
  · rw [if_neg hf] at h ⊢
    by_cases h8 : 8 ≤ E.length
    · rw [if_pos h8]
    · rw [if_neg h8] at h
      exact absurd rfl h
theorem Wb.start {w w1 w2 w3 : World} {b : Nat} (b1 : Below w.heap.size w w1) (hb : Mxx w1 b [] 0 [b, b - 1, b - 2]) (h2 : 2 ≤ b) (hbw : w.heap.size + 2 = b) (e2 : w2 = w1.alloc (.cells #[.slice none 0 0, .slice none 0 0, .int .i64 0] 102)) (e3 : w3 = w2.alloc (.cells #[.pointer (some ⟨b, 0, none⟩), .pointer (some ⟨w1.heap.size, 0, none⟩), .slice none 0 0, .slice none 0 0, .slice none 0 0] 42)) : Wb w w3 w2.heap.size b w1.heap.size := by
  have s2 : w2.heap.size = w1.heap.size + 1 := by rw [e2]; simp
  have bb2 : Below w1.heap.size w1 w2 := by rw [e2]; exact (Below.refl _ _).alloc (Nat.le_refl _) _
  have bb3 : Below w2.heap.size w2 w3 := by rw [e3]; exact (Below.refl _ _).alloc (Nat.le_refl _) _
  have A1 : Al w w1 (putT (fun _ => noT) 0 (mxT b [] 0 [b, b - 1, b - 2])) := (Al.start w).step 0 _ rfl ⟨Off.of_below b1, fun k hk => .inr (by simp [mxT] at hk; omega)⟩ hb (fun k hk => hb.lt k hk)
  have r2 : RMx w2 w1.heap.size (.slice none 0 0) (.slice none 0 0) [] [] 0 := ⟨by rw [e2]; exact heap_alloc_new w1 _, World.ownsRow_nil _ _ _ _, World.ownsRow_nil _ _ _ _⟩
  have A2 := A1.step 1 (rmT w1.heap.size (.slice none 0 0) (.slice none 0 0) [] [] 0) (U := []) rfl ⟨Off.of_below bb2, fun k hk => .inr (by simp [rmT, RMU, Value.ownBlock] at hk; omega)⟩ r2 (fun k hk => r2.lt k hk)
  have r3 : WD w3 w2.heap.size b w1.heap.size (.slice none 0 0) (.slice none 0 0) (.slice none 0 0) [] [] [] := ⟨by rw [e3]; exact heap_alloc_new w2 _, World.ownsRow_nil _ _ _ _, World.ownsRow_nil _ _ _ _, World.ownsRow_nil _ _ _ _⟩
  have A3 := A2.step 2 (wdT w2.heap.size b w1.heap.size (.slice none 0 0) (.slice none 0 0) (.slice none 0 0) [] [] []) (U := []) rfl ⟨Off.of_below bb3, fun k hk => .inr (by simp [wdT, WDU, Value.ownBlock] at hk; omega)⟩ r3 (fun k hk => r3.lt k hk)
  exact ⟨[], _, ⟨A3, ⟨_, rfl⟩, ⟨_, _, rfl⟩, ⟨_, _, _, rfl⟩, fun j hj => by simp at hj, fun j hj => by simp at hj, by simp, fun e he => by simp at he⟩, fun e he => by simp at he⟩
end Go.Proofs.YtffehehghpafdaaGreat
namespace Go.Proofs.YtffehehghpafdaaGreat
set_option maxRecDepth 100000
open Go.RowKit Go.Maps Go.Sort Go.Shelf
set_option maxHeartbeats 8000000 in
theorem build_any (a : Option Addr) (len cap : Nat) (zs : List Int) (w : World) (hr : BRow .u32 w a len cap zs) :
    Calls Tryz.prog 9 #[.slice a len cap] w fun e w' => ∃ x, e = .returned (.tuple #[.pointer (some ⟨x, 0, none⟩), .bool true]) ∧ Hid (∃ b r, Wb w w' x b r) := by
  have hN := mnew_any w
  have HR : Hid (_) := hr
  clear hr
  obtain ⟨i0, hi, hz0, hz1, hz2⟩ := info_parts info_pA
  obtain ⟨j0, hj, hy0, hy1, hy2⟩ := info_parts info_pM
  obtain ⟨k0, hk, hx0, hx1, hx2⟩ := info_parts info_ptM
  go_enter Tryz.func9, Tryz.ntmps9
  go_wp2_with (go_at_call 23; refine hN.mono ?_; rintro e w1 ⟨rfl, h1⟩)
  have HB : Hid (Wb w ((w1.alloc (.cells #[.slice none 0 0, .slice none 0 0, .int .i64 0] 102)).alloc (.cells #[.pointer (some ⟨w.heap.size + 2, 0, none⟩), .pointer (some ⟨w1.heap.size, 0, none⟩), .slice none 0 0, .slice none 0 0, .slice none 0 0] 42)) (w1.heap.size + 1) (w.heap.size + 2) w1.heap.size) := by
    obtain ⟨b1, s1, m1⟩ := h1.out
    have := Wb.start (b := w.heap.size + 2) b1 m1 (by omega) rfl rfl rfl
    rw [show (w1.alloc (.cells #[.slice none 0 0, .slice none 0 0, .int .i64 0] 102)).heap.size = w1.heap.size + 1 by simp] at this
    exact this
  clear hN h1
  generalize w1.heap.size + 1 = x at *
  generalize w1.heap.size = r at *
  generalize w.heap.size + 2 = b at *
  generalize (w1.alloc (.cells #[.slice none 0 0, .slice none 0 0, .int .i64 0] 102)).alloc (.cells #[.pointer (some ⟨b, 0, none⟩), .pointer (some ⟨r, 0, none⟩), .slice none 0 0, .slice none 0 0, .slice none 0 0] 42) = W at *
  go_loopw [5, 6, 7, 8, 9, 10] (fun c _ _ _ _ _ wr => ∃ i : Nat, i ≤ len ∧ i ≤ 12 ∧ c = .int .i64 ((i : Nat) : Int) ∧ Hid (Wb w wr x b r)) (fun c _ _ _ _ _ _ => 12 - natU c)
  case atStart => exact ⟨0, by omega, by omega, rfl, HB⟩
  case round =>
    obtain ⟨i, hil, hi12, rfl, HW⟩ := hrel
    clear HB
    by_cases hlt : i < len ∧ i < 12
    · obtain ⟨hlt, hlt2⟩ := hlt
      have hlt' : (i : Int) < (len : Int) := by omega
      have hlt2' : (i : Int) < 12 := by omega
      obtain ⟨g, off, rfl, hg, hcs⟩ := BRow.nums HR.out (by omega)
      obtain ⟨d1, wf⟩ := hcs i hlt
      have hb := bounds_u32 wf
      obtain ⟨c, hc⟩ : ∃ c : Nat, zs.getD i 0 = (c : Int) := ⟨(zs.getD i 0).toNat, by omega⟩
      rw [hc] at d1 hb
      have hcl : c < 4294967296 := by omega
      clear hc wf hb hcs
      obtain ⟨E, t, hWo, hall⟩ := HW.out
      have d2 : wr.cell? ⟨g, off + i, none⟩ = some (.int .u32 (c : Nat)) := (World.cell?_of_block (hWo.al.bel.block g hg)).trans d1
      have H : Hid (_) := And.intro hWo hall
      clear hWo hall d1
      by_cases hc0 : c = 0
      · subst hc0
        have hM := made16_no wr
        go_wp2_with (go_at_call 12; refine hM.mono ?_; rintro e w2 ⟨m, rfl, b2⟩)
        go_roundw
        case rel => exact ⟨i + 1, by omega, by omega, by go_num, E, t, H.out.1.below b2, H.out.2⟩
        case measure => simp [natU] <;> omega
      · have hM := made16 c hc0 hcl wr
        go_wp2_with fail
        refine hM.mono ?_
        rintro e w2 ⟨L, rfl, h2⟩
        obtain ⟨ln, lx, lp, T⟩ := h2.out
        obtain ⟨t2, A2, z0, z1, z2, es2, ⟨U, zd⟩, ⟨V, zr⟩⟩ := H.out.1.two T
        obtain ⟨Vm, em⟩ := H.out.1.mx
        obtain ⟨v1, v2, er⟩ := H.out.1.rm
        obtain ⟨va, vm, vr, ew⟩ := H.out.1.wd
        have cd := (A2.dv zd).code
        rw [show (L.dr (dnew M0)).P.c = c by show L.P.c = c; rw [lp]; rfl] at cd
        have Q1 := madd_any b L.d c (prts E) 0 Vm w2 (A2.mx (z0.trans em)) hcl cd.1 cd.2.1 (by rw [prts_len]; have := H.out.1.le; omega)
        have x0 : w2.cell? ⟨x, 0, none⟩ = some (.pointer (some ⟨b, 0, none⟩)) := cell_of_row w2 x 0 _ _ _ (A2.get (z2.trans ew)).blk
        by_cases hE : addE (prts E) c = 0
        · obtain ⟨hnf, h8, hL⟩ := addE_ok (d := L.d) (k := w2.heap.size) hE
          rw [hE, hL] at Q1
          have HA2 : Hid (_) := And.intro A2 (And.intro z1 (And.intro z2 (And.intro es2 (And.intro zd (And.intro zr (And.intro z0 (And.intro em (And.intro er ew))))))))
          have HP : Hid (L.n = 16 ∧ L.mx = 99 ∧ L.P = Pc c ∧ c ≠ 0 ∧ c < 4294967296) := ⟨ln, lx, lp, hc0, hcl⟩
          have HF : Hid (_) := And.intro hnf h8
          clear hM h2 T A2 z0 z1 z2 es2 zd zr em er ew cd hE hL ln lx lp hnf
          go_wp2_with fail
          refine Q1.mono ?_
          rintro e w3 ⟨rfl, h3⟩
          obtain ⟨V3, o3, m3, hV3⟩ := h3.out
          obtain ⟨A2, z1, z2, es2, zd, zr, z0, em, er, ew⟩ := HA2.out
          have A3 := A2.put0 (z0.trans em) o3 m3 (fun k hk => (hV3 k hk).imp id (fun e => by omega))
          have f1 : putT t2 0 (mxT b (prts E ++ [⟨c, L.d, w2.heap.size, 0⟩]) 0 V3) 1 = rmT r v1 v2 (E.map (·.L.e)) (E.map (·.n)) 0 := by rw [putT_ne _ _ (by omega)]; exact z1.trans er
          have f2 : putT t2 0 (mxT b (prts E ++ [⟨c, L.d, w2.heap.size, 0⟩]) 0 V3) 2 = wdT x b r va vm vr (E.map (·.L.d)) (E.map (·.L.m)) (E.map (·.L.e)) := by rw [putT_ne _ _ (by omega)]; exact z2.trans ew
          have f4 : putT t2 0 (mxT b (prts E ++ [⟨c, L.d, w2.heap.size, 0⟩]) 0 V3) (11 + 2 * E.length) = rwT (L.rr (dnew M0)) V := by rw [putT_ne _ _ (by omega)]; exact zr
          have f3 : putT t2 0 (mxT b (prts E ++ [⟨c, L.d, w2.heap.size, 0⟩]) 0 V3) (10 + 2 * E.length) = dvT (L.dr (dnew M0)) U := by rw [putT_ne _ _ (by omega)]; exact zd
          have es3 := es2.put 0 (mxT b (prts E ++ [⟨c, L.d, w2.heap.size, 0⟩]) 0 V3) (by omega)
          have ce := (A3.rw f4).code
          rw [show (L.rr (dnew M0)).P.c = c by show L.P.c = c; rw [HP.out.2.2.1]; rfl] at ce
          have Q2 := radd_ok r v1 v2 _ _ 0 (cdE E) L.e c w3 (A3.get f1) (A3.codesE es3) ce HF.out.1 (by simpa using HF.out.2) (by have := HF.out.2; simp; omega)
          have x1 : w3.cell? ⟨x, 1, none⟩ = some (.pointer (some ⟨r, 0, none⟩)) := cell_of_row w3 x 1 _ _ _ (A3.get f2).blk
          have g0 : putT t2 0 (mxT b (prts E ++ [⟨c, L.d, w2.heap.size, 0⟩]) 0 V3) 0 = mxT b (prts E ++ [⟨c, L.d, w2.heap.size, 0⟩]) 0 V3 := putT_same _ _ _
          generalize putT t2 0 (mxT b (prts E ++ [⟨c, L.d, w2.heap.size, 0⟩]) 0 V3) = t3 at *
          generalize hk2 : w2.heap.size = kk at *
          have HA3 : Hid (_) := And.intro A3 (And.intro f1 (And.intro f2 (And.intro f3 (And.intro f4 (And.intro es3 g0)))))
          clear Q1 h3 o3 m3 hV3 A2 z1 z2 es2 zd zr z0 em er ew HA2 A3 f1 f2 f3 f4 es3 ce g0 x0 hk2
          go_wp2_with fail
          refine Q2.mono ?_
          rintro e w4 ⟨rfl, h4⟩
          obtain ⟨v1', v2', g4, m4⟩ := h4.out
          obtain ⟨A3, f1, f2, f3, f4, es3, g0⟩ := HA3.out
          have A4 := A3.step 1 (rmT r v1' v2' (E.map (·.L.e) ++ [L.e]) (E.map (·.n) ++ [0]) 0) (U := RMU r v1 v2) (by rw [f1]; rfl) g4 m4 (fun k hk => m4.lt k hk)
          have q2 : putT t3 1 (rmT r v1' v2' (E.map (·.L.e) ++ [L.e]) (E.map (·.n) ++ [0]) 0) 2 = wdT x b r va vm vr (E.map (·.L.d)) (E.map (·.L.m)) (E.map (·.L.e)) := by rw [putT_ne _ _ (by omega)]; exact f2
          have D4 : WD w4 x b r va vm vr (E.map (·.L.d)) (E.map (·.L.m)) (E.map (·.L.e)) := A4.get q2
          obtain ⟨n1, en1⟩ : ∃ n, n = (E.map (·.L.d)).length := ⟨_, rfl⟩
          obtain ⟨n2, en2⟩ : ∃ n, n = (E.map (·.L.m)).length := ⟨_, rfl⟩
          obtain ⟨n3, en3⟩ : ∃ n, n = (E.map (·.L.e)).length := ⟨_, rfl⟩
          have l1 : n1 < 8 := by rw [en1]; simpa using HF.out.2
          have l2 : n2 < 8 := by rw [en2]; simpa using HF.out.2
          have l3 : n3 < 8 := by rw [en3]; simpa using HF.out.2
          obtain ⟨aa, ca, rfl, _⟩ := own_ptr D4.ra
          obtain ⟨am, cm, rfl, _⟩ := own_ptr D4.rm
          obtain ⟨ar, cr, rfl, _⟩ := own_ptr D4.rr
          rw [← en1, ← en2, ← en3] at D4
          have r4 := D4.ra.alloc (.cells #[.pointer (some ⟨L.d, 0, none⟩)] 43)
          rw [← en1] at r4
          have x2 : w4.cell? ⟨x, 2, none⟩ = some (.slice aa n1 ca) := cell_of_row w4 x 2 _ _ _ D4.blk
          have HD4 : Hid (_) := D4
          have HN : Hid (n1 = (E.map (·.L.d)).length ∧ n2 = (E.map (·.L.m)).length ∧ n3 = (E.map (·.L.e)).length) := ⟨en1, en2, en3⟩
          have HA4 : Hid (_) := And.intro A4 (And.intro f3 (And.intro f4 (And.intro es3 (And.intro g0 q2))))
          clear Q2 h4 g4 m4 A3 f1 f2 f3 f4 es3 g0 A4 q2 D4 HA3 en1 en2 en3 x1
          go_wp2_with (at_builtin; refine wpList_append_own_at _ rfl (.tmp 63) (.tmp 65) 38 rfl 0 43 i0 (.pointer none) 1 8 Tryz.underlying38 hi hz0 hz1 hz2 rfl (by decide) (.slice aa n1 ca) n1 ((E.map (·.L.d)).map ptV) rfl r4 ⟨w4.heap.size, 0, none⟩ 1 1 [ptV L.d] rfl rfl (one_cellG (heap_alloc_new w4 _)) (by intro u hu; simp at hu; subst hu; rfl) (by unfold maxLen; omega) (by omega) (Nat.zero_le _) ?_)
          intro v5 w5 o5 g5 _ b5
          obtain ⟨x5, y5, rfl, _, _⟩ := own_some1M o5
          have D5 := HD4.out.app_a L.d (by rw [← HN.out.1, List.map_map]; exact o5) g5 b5
          have k1 : w5.cell? ⟨x, 2, none⟩ = some (.slice aa n1 ca) := cell_of_row w5 x 2 _ _ _ D5.1
          have k2 : w5.frozen? ⟨x, 2, none⟩ = false := frozen_of_row w5 x 2 _ _ D5.1
          have r5 := D5.2.1.rm.alloc (.cells #[.pointer (some ⟨L.m, 0, none⟩)] 44)
          rw [← HN.out.2.1] at r5
          have x3 : (w5.setCell ⟨x, 2, none⟩ (.slice (some ⟨x5, 0, none⟩) (n1 + 1) y5)).cell? ⟨x, 3, none⟩ = some (.slice am n2 cm) := cell_of_row _ x 3 _ _ _ D5.2.1.blk
          have HD5 : Hid (_) := D5.2
          clear D5 o5 g5 b5 r4
          generalize hw5 : w5.setCell ⟨x, 2, none⟩ (.slice (some ⟨x5, 0, none⟩) (n1 + 1) y5) = W5 at *
          go_wp2_with (at_builtin; refine wpList_append_own_at _ rfl (.tmp 73) (.tmp 75) 39 rfl 0 44 j0 (.pointer none) 1 8 Tryz.underlying39 hj hy0 hy1 hy2 rfl (by decide) (.slice am n2 cm) n2 ((E.map (·.L.m)).map ptV) rfl r5 ⟨W5.heap.size, 0, none⟩ 1 1 [ptV L.m] rfl rfl (one_cellG (heap_alloc_new W5 _)) (by intro u hu; simp at hu; subst hu; rfl) (by unfold maxLen; omega) (by omega) (Nat.zero_le _) ?_)
          intro v6 w6 o6 g6 _ b6
          obtain ⟨x6, y6, rfl, _, _⟩ := own_some1M o6
          have D6 := HD5.out.1.app_m L.m (by rw [← HN.out.2.1, List.map_map]; exact o6) g6 b6
          have k3 : w6.cell? ⟨x, 3, none⟩ = some (.slice am n2 cm) := cell_of_row w6 x 3 _ _ _ D6.1
          have k4 : w6.frozen? ⟨x, 3, none⟩ = false := frozen_of_row w6 x 3 _ _ D6.1
          have r6 := D6.2.1.rr.alloc (.cells #[.pointer (some ⟨L.e, 0, none⟩)] 45)
          rw [← HN.out.2.2] at r6
          have x4 : (w6.setCell ⟨x, 3, none⟩ (.slice (some ⟨x6, 0, none⟩) (n2 + 1) y6)).cell? ⟨x, 4, none⟩ = some (.slice ar n3 cr) := cell_of_row _ x 4 _ _ _ D6.2.1.blk
          have HD6 : Hid (_) := D6.2
          clear D6 o6 g6 b6 r5
          generalize hw6 : w6.setCell ⟨x, 3, none⟩ (.slice (some ⟨x6, 0, none⟩) (n2 + 1) y6) = W6 at *
          go_wp2_with (at_builtin; refine wpList_append_own_at _ rfl (.tmp 83) (.tmp 85) 40 rfl 0 45 k0 (.pointer none) 1 8 Tryz.underlying40 hk hx0 hx1 hx2 rfl (by decide) (.slice ar n3 cr) n3 ((E.map (·.L.e)).map ptV) rfl r6 ⟨W6.heap.size, 0, none⟩ 1 1 [ptV L.e] rfl rfl (one_cellG (heap_alloc_new W6 _)) (by intro u hu; simp at hu; subst hu; rfl) (by unfold maxLen; omega) (by omega) (Nat.zero_le _) ?_)
          intro v7 w7 o7 g7 _ b7
          obtain ⟨x7, y7, rfl, _, _⟩ := own_some1M o7
          have D7 := HD6.out.1.app_r L.e (by rw [← HN.out.2.2, List.map_map]; exact o7) g7 b7
          have k5 : w7.cell? ⟨x, 4, none⟩ = some (.slice ar n3 cr) := cell_of_row w7 x 4 _ _ _ D7.1
          have k6 : w7.frozen? ⟨x, 4, none⟩ = false := frozen_of_row w7 x 4 _ _ D7.1
          have HD7 : Hid (_) := D7.2
          clear D7 o7 g7 b7 r6
          go_wp2_with fail
          go_roundw
          case rel =>
            refine ⟨i + 1, by omega, by omega, by go_num, ?_⟩
            obtain ⟨A4, f3, f4, es3, g0, q2⟩ := HA4.out
            have G := (HD5.out.2.trans HD6.out.2).trans HD7.out.2
            have A7 := A4.step 2 (wdT x b r _ _ _ _ _ _) (U := WDU x (.slice aa n1 ca) (.slice am n2 cm) (.slice ar n3 cr)) (by rw [q2]; simp only [HN.out.1, HN.out.2.1, HN.out.2.2]; rfl) G HD7.out.1 (fun k hk => HD7.out.1.lt k hk)
            have hep : prts (E ++ [(⟨L, dnew M0, 0, kk⟩ : Ent)]) = prts E ++ [⟨c, L.d, kk, 0⟩] := by simp [prts, HP.out.2.2.1, Pc]
            have hW := H.out.1.grow (L := L) (s := dnew M0) (k := kk) A7 ⟨V3, by rw [putT_ne _ _ (by omega), putT_ne _ _ (by omega), g0, hep]⟩ ⟨_, _, by rw [putT_ne _ _ (by omega), putT_same]⟩ ⟨_, _, _, by rw [putT_same]⟩ ((es3.put _ _ (by omega)).put _ _ (by omega)) ⟨U, by rw [putT_ne _ _ (by omega), putT_ne _ _ (by omega)]; exact f3⟩ ⟨V, by rw [putT_ne _ _ (by omega), putT_ne _ _ (by omega)]; exact f4⟩ HF.out.2 ⟨HP.out.1, HP.out.2.1, by rw [HP.out.2.2.1]; exact HP.out.2.2.2.1, by rw [HP.out.2.2.1]; exact HP.out.2.2.2.2, by rw [HP.out.2.2.1]; rfl⟩
            refine ⟨_, _, hW, fun e he => ?_⟩
            rcases List.mem_append.1 he with he | he
            · exact H.out.2 e he
            · simp at he
              subst he
              exact ⟨rfl, rfl⟩
          case measure => simp [natU] <;> omega
        · -- it is refused
          have hT2 := hE
          have bw := H.out.1.below (w' := w2) (by obtain ⟨_, _, T⟩ := T; exact T.bel)
          have hA3 : ∀ w3, (∃ V', Off Vm w2 w3 ∧ Mxx w3 b (addL (prts E) c L.d w2.heap.size) 0 V' ∧ ∀ k, k ∈ V' → k ∈ Vm ∨ k = w2.heap.size) → ∃ t', Wo w w3 x b r E 0 t' ∧ w3.cell? ⟨L.e, 0, none⟩ = some (.int .u32 (c : Nat)) := by
            rintro w3 ⟨V', o3, m3, hV⟩
            rw [addL_refuse hE] at m3
            refine ⟨_, bw.refused em o3 m3 hV, ?_⟩
            have A3 := A2.put0 (z0.trans em) o3 m3 (fun k hk => (hV k hk).imp id (fun e => by omega))
            have := (A3.rw (i := 11 + 2 * E.length) (x := L.rr (dnew M0)) (U := V) (by rw [putT_ne _ _ (by omega)]; exact zr)).code
            rw [show (L.rr (dnew M0)).P.c = c by show L.P.c = c; rw [lp]; rfl] at this
            exact this
          have HA3 : Hid (_) := hA3
          have hN := addE_refuse hE
          have HN : Hid (_) := hN
          generalize addE (prts E) c = EE at *
          have hEE : (EE == 0) = false := by simp [hE]
          clear hM h2 T A2 z0 z1 z2 es2 zd zr em er ew cd bw hA3 hN
          go_wp2_with (first
            | (go_at_call 22; refine Q1.mono ?_; rintro e w3 ⟨rfl, h3⟩; obtain ⟨t3, W3, ce⟩ := HA3.out w3 h3.out; obtain ⟨v1, v2, er⟩ := W3.rm; obtain ⟨va, vm, vr, ew⟩ := W3.wd; have x1 : w3.cell? ⟨x, 1, none⟩ = some (.pointer (some ⟨r, 0, none⟩)) := cell_of_row w3 x 1 _ _ _ (W3.al.get ew).blk; have Q2 := radd_no r v1 v2 _ _ 0 (cdE E) L.e c w3 (W3.al.get er) W3.codes ce (by have := W3.le; simp; omega) EE HN.out)
            | (go_at_call 39; refine Q2.mono ?_; rintro e w4 ⟨rfl, hw⟩; have hw := hw.symm; subst hw))
          go_roundw
          case rel => exact ⟨i + 1, by omega, by omega, by go_num, E, t3, W3, H.out.2⟩
          case measure => simp [natU] <;> omega
    · have hno : ((i : Int) < (len : Int)) = False ∨ ((i : Int) < (len : Int)) = True ∧ ((i : Int) < 12) = False := by
        by_cases h1 : i < len
        · exact .inr ⟨by simp; omega, by simp; omega⟩
        · exact .inl (by simp; omega)
      rcases hno with h1 | ⟨h1, h2⟩
      all_goals
        go_wp2_with fail
        go_ret2
        exact ⟨x, rfl, b, r, HW.out⟩
end Go.Proofs.YtffehehghpafdaaGreat
