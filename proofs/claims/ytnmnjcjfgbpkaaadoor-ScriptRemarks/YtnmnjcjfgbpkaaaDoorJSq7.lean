/- Layer 20: a scene where the loop's own blocks turn. (gensq7.py) -/
import Derived.Test.YtnmnjcjfgbpkaaaDoorJSq4
import Derived.Test.YtnmnjcjfgbpkaaaDoorJSq6
namespace Go.Proofs.YtnmnjcjfgbpkaaaDoor
set_option maxRecDepth 100000
open Go.RowKit Go.Maps Go.Shelf
set_option maxRecDepth 100000
set_option linter.unusedVariables false
theorem KO.others {w w' : World} (h : KO w w') (hs : w.heap.size ≤ w'.heap.size) : KeepsOthers w w' := ⟨hs, fun k o hk ho => h k o hk (fun x y z e => by subst e; simp [Obj.isCells] at ho)⟩
/-- A block of cells is none that the loop turns. -/
theorem bk_row {w w' : World} {row : Option Nat} {k : Nat} {cs : Array Value} {T : TypeId} {p : Nat × Nat} (g : w.grownBy w' row) (hr : ∀ r, row = some r → ∃ o : Obj, w.heap[r]? = some o ∧ o.isCells = false) (h : w.heap[k]? = some (.cells cs T p)) : w'.heap[k]? = w.heap[k]? := by
  refine g.block k (Array.getElem?_eq_some_iff.1 h).1 (fun e => ?_)
  obtain ⟨o, ho, hc⟩ := hr k e.symm
  rw [h] at ho
  cases ho
  simp [Obj.isCells] at hc
theorem own_row {w w' : World} {row : Option Nat} {B T K n : Nat} {v : Value} {xs : List Value} (g : w.grownBy w' row) (hr : ∀ r, row = some r → ∃ o : Obj, w.heap[r]? = some o ∧ o.isCells = false) (o : w.ownsRow B T K v n xs) : w'.ownsRow B T K v n xs := by
  refine own_keepA o (fun k hk => ?_)
  rcases o.2 with ⟨e, _⟩ | ⟨g2, cap, cur, e, _, hg, _⟩
  · rw [e] at hk
    simp [Value.ownBlock] at hk
  · rw [e] at hk
    simp only [Value.ownBlock, Option.some.injEq] at hk
    subst hk
    exact bk_row g hr hg
theorem Sc.row {w wx w' : World} {b : Nat} {S : Sn} {row : Option Nat} (h : Sc w wx b S) (g : wx.grownBy w' row) (hr : ∀ r, row = some r → w.heap.size ≤ r ∧ ∃ o : Obj, wx.heap[r]? = some o ∧ o.isCells = false) : Sc w w' b S := by
  have hr2 := fun r e => (hr r e).2
  obtain ⟨cs, v, D, h1, h2, h3, h4, h5⟩ := h.ex
  obtain ⟨a0, c0, a1, c1, e0, e1, e2, o0, o1, d⟩ := h1.v
  have b' : Below w.heap.size w w' := h.bel.grown g h.bel.size (fun k e => (hr k e).1)
  refine ⟨⟨cs, v, D, ⟨(bk_row g hr2 h1.bk).trans h1.bk, a0, c0, a1, c1, e0, e1, e2, own_row g hr2 o0, own_row g hr2 o1, d⟩, h2, h3, ⟨own_row g hr2 (OL.own h4), b', OL.len h4, fun i hi r hm => ⟨(OL.row h4 i hi r hm).1.grow g (fun y hy hn e => ?_), (OL.row h4 i hi r hm).2⟩⟩, h5⟩, b'⟩
  obtain ⟨o, ho, hc⟩ := hr2 y.block e.symm
  have c := (OL.row h4 i hi r hm).1.src y hy 0 hn
  have hb : (y.add 0).block = y.block := by unfold Addr.add; split <;> rfl
  obtain ⟨o2, ho2, _⟩ := not_walk_of_cell c
  unfold World.cell? at c
  rw [hb, ho] at c
  cases o <;> simp_all [Obj.isCells]
end Go.Proofs.YtnmnjcjfgbpkaaaDoor

namespace Go.Proofs.YtnmnjcjfgbpkaaaDoor
set_option maxRecDepth 100000
open Go.RowKit Go.Maps Go.Shelf
attribute [local go_sem] Oper.semAt_some
set_option maxRecDepth 100000
set_option linter.unusedVariables false
theorem numd_get : ∀ (k : Nat) (ls : List (List UInt8)) (i : Nat), (numd k ls)[i]? = (ls[i]?).map (fun x => (k + i, x))
  | _, [], i => by simp [numd]
  | k, x :: r, 0 => by simp [numd]
  | k, x :: r, i + 1 => by
    simp only [numd, List.getElem?_cons_succ, numd_get (k + 1) r i]
    rw [show k + 1 + i = k + (i + 1) by omega]
theorem numd_snd : ∀ (k : Nat) (ls : List (List UInt8)), (numd k ls).map (·.2) = ls
  | _, [] => rfl
  | k, x :: r => by simp [numd, numd_snd (k + 1) r]
/-- The lines that have come. -/
def lnsT (pre : List LnT) : List (List UInt8) := pre.map (fun x => x.1.2)
theorem lnsT_all {pre : List LnT} {ls : List (List UInt8)} (h : pre.map (·.1) = numd 1 ls) : lnsT pre = ls := by
  have := congrArg (List.map (·.2)) h
  rw [numd_snd, List.map_map] at this
  exact this
theorem lnsT_at {ini : List LnT} {x : LnT} {t : List (Nat × List UInt8)} {ls : List (List UInt8)} (h : (ini ++ [x]).map (·.1) ++ t = numd 1 ls) : ini.length < ls.length ∧ lnsT ini = ls.take ini.length ∧ x.1.2 = wsL ls ini.length ∧ x.1.1 = ini.length + 1 := by
  have hlen := congrArg List.length h
  rw [numd_len] at hlen
  simp at hlen
  have hlt : ini.length < ls.length := by omega
  have hx : ((ini ++ [x]).map (·.1) ++ t)[ini.length]? = (numd 1 ls)[ini.length]? := by rw [h]
  rw [numd_get, List.map_append, List.append_assoc, List.getElem?_append_right (by simp)] at hx
  simp only [List.length_map, Nat.sub_self, List.map_cons, List.map_nil, List.singleton_append, List.getElem?_cons_zero] at hx
  rw [List.getElem?_eq_getElem hlt] at hx
  simp only [Option.map_some, Option.some.injEq] at hx
  refine ⟨hlt, ?_, ?_, ?_⟩
  · have h2 : (((ini ++ [x]).map (·.1) ++ t).map (·.2)).take ini.length = ((numd 1 ls).map (·.2)).take ini.length := by rw [h]
    rw [numd_snd, List.map_append, List.map_append, List.map_append, List.append_assoc, List.take_append_of_le_length (by simp)] at h2
    rw [← h2, List.take_of_length_le (by simp), List.map_map]
    rfl
  · rw [hx]
    unfold wsL
    rw [List.getD_eq_getElem?_getD, List.getElem?_eq_getElem hlt]
    rfl
  · rw [hx]
    show 1 + ini.length = ini.length + 1
    omega
set_option maxHeartbeats 1000000 in
theorem plines (X : ByteArray) (w : World) : Calls Tryd.prog 21 #[.string X] w fun r w' => r = .returned (.func (.func 43) #[] #[.pointer (some ⟨w.heap.size, 0, none⟩)]) ∧ w' = w.alloc (.cells #[.string X] 9) := by
  go_enter Tryd.func21, Tryd.ntmps21
  go_wp2_with fail
  go_ret
  exact ⟨rfl, rfl⟩
/-- The answer's four blocks. -/
def RS (w : World) (n0 n1 n2 n3 : Nat) (at_ e : Int) : Prop := Bk w n0 #[.slice none 0 0, .slice none 0 0, .int .u32 0] 26 ∧ Bk w n1 #[.slice none 0 0] 27 ∧ Bk w n2 #[.int .i64 at_] 3 ∧ Bk w n3 #[.int .i64 e] 28
theorem RS.row {w w' : World} {n0 n1 n2 n3 : Nat} {a e : Int} {row : Option Nat} (h : RS w n0 n1 n2 n3 a e) (g : w.grownBy w' row) (hr : ∀ r, row = some r → ∃ o : Obj, w.heap[r]? = some o ∧ o.isCells = false) : RS w' n0 n1 n2 n3 a e := ⟨(bk_row g hr h.1).trans h.1, (bk_row g hr h.2.1).trans h.2.1, (bk_row g hr h.2.2.1).trans h.2.2.1, (bk_row g hr h.2.2.2).trans h.2.2.2⟩
theorem RS.kept {w w' : World} {n0 n1 n2 n3 b : Nat} {a e : Int} (h : RS w n0 n1 n2 n3 a e) (hb : n0 ≠ b ∧ n1 ≠ b ∧ n2 ≠ b ∧ n3 ≠ b) (k : ∀ k ks T, k ≠ b → T ≠ 50 → T ≠ 45 → Bk w k ks T → Bk w' k ks T) : RS w' n0 n1 n2 n3 a e := ⟨k _ _ _ hb.1 (by decide) (by decide) h.1, k _ _ _ hb.2.1 (by decide) (by decide) h.2.1, k _ _ _ hb.2.2.1 (by decide) (by decide) h.2.2.1, k _ _ _ hb.2.2.2 (by decide) (by decide) h.2.2.2⟩
/-- The answer is stored. -/
def rsW (w : World) (n0 n1 n2 n3 : Nat) (v0 v1 v2 v3 v4 v5 : Value) : World := (((((w.setCell ⟨n0, 0, none⟩ v0).setCell ⟨n0, 1, none⟩ v1).setCell ⟨n0, 2, none⟩ v2).setCell ⟨n1, 0, none⟩ v3).setCell ⟨n2, 0, none⟩ v4).setCell ⟨n3, 0, none⟩ v5
theorem rsW_off (w : World) (n0 n1 n2 n3 : Nat) (v0 v1 v2 v3 v4 v5 : Value) : Off [n0, n1, n2, n3] w (rsW w n0 n1 n2 n3 v0 v1 v2 v3 v4 v5) := by
  unfold rsW
  have m : ∀ {x : World} {k i : Nat} {v : Value}, k ∈ [n0, n1, n2, n3] → Off [n0, n1, n2, n3] x (x.setCell ⟨k, i, none⟩ v) := fun {x k i v} hk => by
    have q := Off.setCell k i x v
    exact ⟨q.os, q.tape, q.output, q.size, fun j hj hn => q.block j hj (fun e => hn (by simp at e; rw [e]; exact hk))⟩
  exact ((((m (by simp)).trans (m (by simp))).trans (m (by simp))).trans (m (by simp))).trans (m (by simp)) |>.trans (m (by simp))
theorem RS.set {w : World} {n0 n1 n2 n3 : Nat} {a e : Int} (h : RS w n0 n1 n2 n3 a e) (hn : n0 < n1 ∧ n1 < n2 ∧ n2 < n3) (v0 v1 v2 v3 v4 v5 : Value) : Bk (rsW w n0 n1 n2 n3 v0 v1 v2 v3 v4 v5) n0 #[v0, v1, v2] 26 ∧ Bk (rsW w n0 n1 n2 n3 v0 v1 v2 v3 v4 v5) n1 #[v3] 27 ∧ Bk (rsW w n0 n1 n2 n3 v0 v1 v2 v3 v4 v5) n2 #[v4] 3 ∧ Bk (rsW w n0 n1 n2 n3 v0 v1 v2 v3 v4 v5) n3 #[v5] 28 := by
  obtain ⟨h0, h1, h2, h3⟩ := h
  unfold rsW
  have o : ∀ {x : World} {k i j : Nat} {cs : Array Value} {T : TypeId} {v : Value}, Bk x j cs T → j ≠ k → Bk (x.setCell ⟨k, i, none⟩ v) j cs T := fun {x k i j cs T v} hb hne => hb.off (Off.setCell k i x v) (by simpa using hne)
  refine ⟨?_, ?_, ?_, ?_⟩
  · exact o (o (o (((h0.set 0 v0).set 1 v1).set 2 v2) (by omega)) (by omega)) (by omega)
  · exact o (o ((o (o (o h1 (by omega)) (by omega)) (by omega)).set 0 v3) (by omega)) (by omega)
  · exact o ((o (o (o (o h2 (by omega)) (by omega)) (by omega)) (by omega)).set 0 v4) (by omega)
  · exact (o (o (o (o (o h3 (by omega)) (by omega)) (by omega)) (by omega)) (by omega)).set 0 v5
theorem RS.ko {w : World} {n0 n1 n2 n3 : Nat} {a e : Int} (h : RS w n0 n1 n2 n3 a e) (v0 v1 v2 v3 v4 v5 : Value) : KO w (rsW w n0 n1 n2 n3 v0 v1 v2 v3 v4 v5) := fun k ob hk hn => by
  refine ((rsW_off w n0 n1 n2 n3 v0 v1 v2 v3 v4 v5).block k (Array.getElem?_eq_some_iff.1 hk).1 (fun hm => ?_)).trans hk
  have key : ∀ {j : Nat} {cs : Array Value} {T : TypeId}, Bk w j cs T → k = j → False := fun {j cs T} hb e => by
    subst e
    have h2 : w.heap[k]? = some (.cells cs T (0, 0)) := hb
    rw [hk] at h2
    cases h2
    exact hn _ _ _ rfl
  simp only [List.mem_cons, List.not_mem_nil, or_false] at hm
  rcases hm with e | e | e | e
  · exact key h.1 e
  · exact key h.2.1 e
  · exact key h.2.2.1 e
  · exact key h.2.2.2 e
end Go.Proofs.YtnmnjcjfgbpkaaaDoor

namespace Go.Proofs.YtnmnjcjfgbpkaaaDoor
set_option maxRecDepth 100000
open Go.RowKit Go.Maps Go.Shelf
attribute [local go_sem] Oper.semAt_some
set_option maxRecDepth 100000
set_option linter.unusedVariables false
theorem six_new (w : World) (X : ByteArray) : Bk ((((((w.alloc (.cells #[.slice none 0 0, .slice none 0 0, .int .u32 0] 26)).alloc (.cells #[.slice none 0 0] 27)).alloc (.cells #[.int .i64 0] 3)).alloc (.cells #[.int .i64 0] 28)).alloc (.cells #[.slice none 0 0, .slice none 0 0, .int .u32 0, .slice none 0 0] 58)).alloc (.cells #[.string X] 9)) w.heap.size #[.slice none 0 0, .slice none 0 0, .int .u32 0] 26 ∧ Bk ((((((w.alloc (.cells #[.slice none 0 0, .slice none 0 0, .int .u32 0] 26)).alloc (.cells #[.slice none 0 0] 27)).alloc (.cells #[.int .i64 0] 3)).alloc (.cells #[.int .i64 0] 28)).alloc (.cells #[.slice none 0 0, .slice none 0 0, .int .u32 0, .slice none 0 0] 58)).alloc (.cells #[.string X] 9)) (w.heap.size + 1) #[.slice none 0 0] 27 ∧ Bk ((((((w.alloc (.cells #[.slice none 0 0, .slice none 0 0, .int .u32 0] 26)).alloc (.cells #[.slice none 0 0] 27)).alloc (.cells #[.int .i64 0] 3)).alloc (.cells #[.int .i64 0] 28)).alloc (.cells #[.slice none 0 0, .slice none 0 0, .int .u32 0, .slice none 0 0] 58)).alloc (.cells #[.string X] 9)) (w.heap.size + 1 + 1) #[.int .i64 0] 3 ∧ Bk ((((((w.alloc (.cells #[.slice none 0 0, .slice none 0 0, .int .u32 0] 26)).alloc (.cells #[.slice none 0 0] 27)).alloc (.cells #[.int .i64 0] 3)).alloc (.cells #[.int .i64 0] 28)).alloc (.cells #[.slice none 0 0, .slice none 0 0, .int .u32 0, .slice none 0 0] 58)).alloc (.cells #[.string X] 9)) (w.heap.size + 1 + 1 + 1) #[.int .i64 0] 28 ∧ Bk ((((((w.alloc (.cells #[.slice none 0 0, .slice none 0 0, .int .u32 0] 26)).alloc (.cells #[.slice none 0 0] 27)).alloc (.cells #[.int .i64 0] 3)).alloc (.cells #[.int .i64 0] 28)).alloc (.cells #[.slice none 0 0, .slice none 0 0, .int .u32 0, .slice none 0 0] 58)).alloc (.cells #[.string X] 9)) (w.heap.size + 1 + 1 + 1 + 1) #[.slice none 0 0, .slice none 0 0, .int .u32 0, .slice none 0 0] 58 ∧ Bk ((((((w.alloc (.cells #[.slice none 0 0, .slice none 0 0, .int .u32 0] 26)).alloc (.cells #[.slice none 0 0] 27)).alloc (.cells #[.int .i64 0] 3)).alloc (.cells #[.int .i64 0] 28)).alloc (.cells #[.slice none 0 0, .slice none 0 0, .int .u32 0, .slice none 0 0] 58)).alloc (.cells #[.string X] 9)) (w.heap.size + 1 + 1 + 1 + 1 + 1) #[.string X] 9 ∧ Below w.heap.size w ((((((w.alloc (.cells #[.slice none 0 0, .slice none 0 0, .int .u32 0] 26)).alloc (.cells #[.slice none 0 0] 27)).alloc (.cells #[.int .i64 0] 3)).alloc (.cells #[.int .i64 0] 28)).alloc (.cells #[.slice none 0 0, .slice none 0 0, .int .u32 0, .slice none 0 0] 58)).alloc (.cells #[.string X] 9)) := by
  have up : ∀ {V : World} {k : Nat} {cs : Array Value} {T : TypeId} (o : Obj), Bk V k cs T → Bk (V.alloc o) k cs T := fun o h => h.off (l := []) (Off.alloc _ _ _) (by simp)
  have k0 := Bk.new (w) #[.slice none 0 0, .slice none 0 0, .int .u32 0] 26
  have k1 := Bk.new ((w).alloc (.cells #[.slice none 0 0, .slice none 0 0, .int .u32 0] 26)) #[.slice none 0 0] 27
  simp only [World.size_alloc] at k1
  have k2 := Bk.new (((w).alloc (.cells #[.slice none 0 0, .slice none 0 0, .int .u32 0] 26)).alloc (.cells #[.slice none 0 0] 27)) #[.int .i64 0] 3
  simp only [World.size_alloc] at k2
  have k3 := Bk.new ((((w).alloc (.cells #[.slice none 0 0, .slice none 0 0, .int .u32 0] 26)).alloc (.cells #[.slice none 0 0] 27)).alloc (.cells #[.int .i64 0] 3)) #[.int .i64 0] 28
  simp only [World.size_alloc] at k3
  have k4 := Bk.new (((((w).alloc (.cells #[.slice none 0 0, .slice none 0 0, .int .u32 0] 26)).alloc (.cells #[.slice none 0 0] 27)).alloc (.cells #[.int .i64 0] 3)).alloc (.cells #[.int .i64 0] 28)) #[.slice none 0 0, .slice none 0 0, .int .u32 0, .slice none 0 0] 58
  simp only [World.size_alloc] at k4
  have k5 := Bk.new ((((((w).alloc (.cells #[.slice none 0 0, .slice none 0 0, .int .u32 0] 26)).alloc (.cells #[.slice none 0 0] 27)).alloc (.cells #[.int .i64 0] 3)).alloc (.cells #[.int .i64 0] 28)).alloc (.cells #[.slice none 0 0, .slice none 0 0, .int .u32 0, .slice none 0 0] 58)) #[.string X] 9
  simp only [World.size_alloc] at k5
  exact ⟨up _ (up _ (up _ (up _ (up _ k0)))), up _ (up _ (up _ (up _ k1))), up _ (up _ (up _ k2)), up _ (up _ k3), up _ k4, k5, belA (belA (belA (belA (belA (belA (Below.refl _ w) _) _) _) _) _) _⟩
theorem sc_fin {w W W' W2 : World} {S : Sn} {D : Nat → Md} {a0 a1 av : Option Addr} {c0 c1 cv : Nat} {L : List Nat} {row : Option Nat} (o0 : W.ownsRow w.heap.size 50 5 (.slice a0 S.Z.l0 c0) S.Z.l0 (flP S.Z.l0 S.Z.P0)) (o1 : W.ownsRow w.heap.size 50 5 (.slice a1 S.Z.l1 c1) S.Z.l1 (flP S.Z.l1 S.Z.P1)) (hM : Mc w W 45 (.slice av S.M.length cv) S.M.length (mvL S.M) D) (q : Off L W W') (hL : ∀ k ∈ L, ∃ cs T, Bk W k cs T ∧ T ≠ 50 ∧ T ≠ 45 ∧ ∀ v ∈ cs.toList, ∀ n, v ≠ .int .u8 n) (g : W'.grownBy W2 row) (hr : ∀ r, row = some r → ∃ o : Obj, W'.heap[r]? = some o ∧ o.isCells = false) (b2 : Below w.heap.size w W2) : PRow W2 a0 S.Z.l0 S.Z.P0 ∧ PRow W2 a1 S.Z.l1 S.Z.P1 ∧ MvRow W2 av S.M.length (mvL S.M) D := by
  have kp : ∀ {v : Value} {n : Nat} {xs : List Value}, W.ownsRow w.heap.size 50 5 v n xs → W'.ownsRow w.heap.size 50 5 v n xs := fun {v n xs} o => own_keepA o (fun k hk => q.block k (o.lt k hk).2 (fun hm => by
    obtain ⟨cs, T, h1, h2, _⟩ := hL k hm
    exact own_ty h2 h1 o hk))
  have om := OL.own hM
  have om' : W'.ownsRow w.heap.size 45 9 (.slice av S.M.length cv) S.M.length _ := own_keepA om (fun k hk => q.block k (om.lt k hk).2 (fun hm => by
    obtain ⟨cs, T, h1, _, h3, _⟩ := hL k hm
    exact own_tyM h3 h1 om hk))
  refine ⟨PRow.of_own (own_row g hr (kp o0)), PRow.of_own (own_row g hr (kp o1)), ?_⟩
  have m2 : Mc w W2 45 (.slice av S.M.length cv) S.M.length (mvL S.M) D := by
    refine ⟨own_row g hr om', b2, OL.len hM, fun i hi r hm => ?_⟩
    have R := (OL.row hM i hi r hm).1
    have R' := R.offS q (fun x hx hn hk => by
      obtain ⟨cs, T, h1, _, _, h4⟩ := hL _ hk
      exact row8_ne R h1 h4 x hx hn rfl)
    refine ⟨R'.grow g (fun y hy hn e => ?_), (OL.row hM i hi r hm).2⟩
    obtain ⟨o, ho, hc⟩ := hr y.block e.symm
    have c := R'.src y hy 0 hn
    have hb : (y.add 0).block = y.block := by unfold Addr.add; split <;> rfl
    unfold World.cell? at c
    rw [hb, ho] at c
    cases o <;> simp_all [Obj.isCells]
  obtain ⟨a, c, e, h⟩ := Mc.rows m2
  cases e
  exact h
def RS4 (w : World) (n0 n1 n2 n3 : Nat) (v0 v1 v2 v3 : Value) : Prop := Bk w n0 #[v0, v1, v2] 26 ∧ Bk w n1 #[v3] 27 ∧ Bk w n2 #[.int .i64 0] 3 ∧ Bk w n3 #[.int .i64 0] 28
def PIv (w W : World) (n1 n2 n3 n4 : Nat) (pre : List LnT) : Prop := Sn.zero.okA (lnsT pre) = true ∧ Sc w W n4 (Sn.zero.all (lnsT pre)) ∧ RS W w.heap.size n1 n2 n3 0 0
def PIx (w W : World) (n1 n2 n3 : Nat) (c : Code) (pre : List LnT) : Prop := c = .ret ∧ ∃ ini x, pre = ini ++ [x] ∧ Sn.zero.okA (lnsT ini) = true ∧ (Sn.zero.all (lnsT ini)).err x.1.2 ≠ 0 ∧ RS W w.heap.size n1 n2 n3 ((x.1.1 : Nat) : Int) ((Sn.zero.all (lnsT ini)).err x.1.2) ∧ Below w.heap.size w W
set_option maxHeartbeats 8000000 in
theorem pparse (l : List UInt8) (hl : l.length ≤ 262144) (w : World) (Lv : Lw w) (mx : Int) (hG : 1 < w.heap.size) (hmx : w.cell? ⟨1, 0, none⟩ = some (.int .i64 mx)) : Calls Tryd.prog 8 #[.string (tx l)] w (PaP (psSn l) (psBad l).1 (psBad l).2 w) := by
  have hXs : (tx l).size = l.length := tx_size l
  obtain ⟨X, hX⟩ : ∃ x, tx l = x := ⟨_, rfl⟩
  rw [hX] at hXs ⊢
  have q0 : ¬ (262144 : Int) < ((X.size : Nat) : Int) := by omega
  have s6 := six_new w X
  have HX : Hid (tx l = X) := hX
  clear hXs hX
  refine (callsIn_wide (n := 3)).1 ?_
  refine callsIn_of_wp_marks Tryd.func8 rfl trivial ?_ rfl
  simp only [Tryd.ntmps8, List.size_toArray, List.length_cons, List.length_nil, Nat.reduceAdd, Nat.reduceSub, Array.replicate_succ, Array.replicate_zero, List.push_toArray, List.append_toArray, List.nil_append, List.cons_append]
  gi_wp2_with (refine ⟨trivial, ?_⟩; gi_at_call 21; refine (callsIn_wide.2 (plines X _)).mono ?_; rintro e w' ⟨rfl, rfl⟩)
  obtain ⟨W0, hW0⟩ : ∃ y, ((((((w.alloc (.cells #[.slice none 0 0, .slice none 0 0, .int .u32 0] 26)).alloc (.cells #[.slice none 0 0] 27)).alloc (.cells #[.int .i64 0] 3)).alloc (.cells #[.int .i64 0] 28)).alloc (.cells #[.slice none 0 0, .slice none 0 0, .int .u32 0, .slice none 0 0] 58)).alloc (.cells #[.string X] 9)) = y := ⟨_, rfl⟩
  rw [hW0] at s6 ⊢
  obtain ⟨n1, hn1⟩ : ∃ y, w.heap.size + 1 = y := ⟨_, rfl⟩
  rw [hn1] at s6 ⊢
  obtain ⟨n2, hn2⟩ : ∃ y, n1 + 1 = y := ⟨_, rfl⟩
  rw [hn2] at s6 ⊢
  obtain ⟨n3, hn3⟩ : ∃ y, n2 + 1 = y := ⟨_, rfl⟩
  rw [hn3] at s6 ⊢
  obtain ⟨n4, hn4⟩ : ∃ y, n3 + 1 = y := ⟨_, rfl⟩
  rw [hn4] at s6 ⊢
  obtain ⟨n5, hn5⟩ : ∃ y, n4 + 1 = y := ⟨_, rfl⟩
  rw [hn5] at s6 ⊢
  obtain ⟨k0, k1, k2, k3, k4, k5, bW⟩ := s6
  have h5 : n5 < W0.heap.size := k5.lt
  have hsz := (lnOf_size l).2
  refine wpIn_rangeFunc_ownF rfl (by omega) (gf := 43) (lb := #[.pointer (some ⟨n5, 0, none⟩)]) rfl trivial (enters_of Tryd.func43 (by kernel_rfl) rfl)
    (lines_stops (3 - 1) (by omega) n5 w.heap.size l hl W0 h5 bW.size mx hG ((bW.cell (p := ⟨1, 0, none⟩) hG).trans hmx) (by rw [HX.out]; exact k5.cell 0)) belowK_t (belowK_b bW.size) (Below.refl _ _) (fun _ => rfl)
    (fun pre W => PIv w W n1 n2 n3 n4 pre) (fun c pre W => PIx w W n1 n2 n3 c pre)
    (fun s A B row hs hg hr => ⟨hs.1, hs.2.1.row hg (fun r e => ⟨Nat.le_trans bW.size (hr r e).1, (hr r e).2⟩), hs.2.2.row hg (fun r e => (hr r e).2)⟩)
    (fun c s A B row hs hg hr => by
      obtain ⟨q1, ini, x, q2, q3, q4, q5, q6⟩ := hs
      exact ⟨q1, ini, x, q2, q3, q4, q5.row hg (fun r e => (hr r e).2), q6.grown hg q6.size (fun k e => Nat.le_trans bW.size (hr k e).1)⟩)
    ⟨rfl, ⟨⟨_, .slice none 0 0, fun _ => ⟨none, 0⟩, ⟨k4, none, 0, none, 0, rfl, rfl, rfl, ⟨rfl, .inl ⟨rfl, rfl⟩⟩, ⟨rfl, .inl ⟨rfl, rfl⟩⟩, (fun k hk => by simp [Value.ownBlock] at hk)⟩, rfl, rfl, mc_none bW, fun _ => rfl⟩, bW⟩, k0, k1, k2, k3⟩
    (fun x => { tmps := #[.string X, undef, .pointer (some ⟨w.heap.size, 0, none⟩), .pointer (some ⟨n1, 0, none⟩), .pointer (some ⟨n2, 0, none⟩), .pointer (some ⟨n3, 0, none⟩), .pointer (some ⟨n4, 0, none⟩), .int .i64 ((x.1.1 : Nat) : Int), .string (tx x.1.2), undef, .string X, .int .i64 ((X.size : Nat) : Int), .bool false, undef, .string X, .func (.func 43) #[] #[.pointer (some ⟨n5, 0, none⟩)], .int .i64 ((x.1.1 : Nat) : Int), .string (tx x.1.2), undef, undef, undef, undef, undef, undef, undef, undef, undef, undef, undef], defers := [] }) ?assign ?body ?done ?stop
  case assign =>
    intro lp x W K hK
    gi_wp2
    exact hK
  case body =>
    rintro lp pre x W ⟨ok, hsc, hrs⟩ hlen
    have hb := Sn.all_le Sn.zero (lnsT pre)
    have hlp : (lnsT pre).length = pre.length := by simp [lnsT]
    have y0 : Sn.zero.Z.l0 = 0 := rfl
    have y1 : Sn.zero.Z.l1 = 0 := rfl
    have y2 : Sn.zero.M.length = 0 := rfl
    have hT := ptake w n4 (by omega) (Sn.zero.all (lnsT pre)) (by omega) (by omega) (by omega) x.1.2 (by have := x.2.2; omega) Lv mx hmx W hsc
    have sn : lnsT (pre ++ [x]) = lnsT pre ++ [x.1.2] := by simp [lnsT]
    by_cases he : (Sn.zero.all (lnsT pre)).err x.1.2 = 0
    · have hT2 : Calls Tryd.prog 22 #[.pointer (some ⟨n4, 0, none⟩), .string (tx x.1.2)] W fun r w' => r = .returned (.int .i64 0) ∧ Hid (KeepsOthers W w' ∧ Below w.heap.size W w' ∧ PIv w w' n1 n2 n3 n4 (pre ++ [x])) := by
        refine hT.mono ?_
        rintro r w' ⟨rfl, H⟩
        obtain ⟨t1, t2, t3, t4⟩ := H.out
        refine ⟨by rw [he], t4.others t2.size, t2, ?_, ?_, hrs.kept ⟨by omega, by omega, by omega, by omega⟩ t3⟩
        · rw [sn, Sn.okA_app, ok]
          simp [Sn.okA, he]
        · rw [sn, Sn.all_app]
          exact t1 he
      clear hT he sn y0 y1 y2 hlp hb ok hsc hrs hlen
      gi_wp2_with (refine ⟨trivial, ?_⟩; gi_at_call 22; refine (CallsIn.inRound lp (callsIn_wide.2 hT2)).mono ?_; rintro r w5 ⟨rfl, H5⟩)
      exact H5.out
    · obtain ⟨e, hee⟩ : ∃ y, (Sn.zero.all (lnsT pre)).err x.1.2 = y := ⟨_, rfl⟩
      have hT2 : Calls Tryd.prog 22 #[.pointer (some ⟨n4, 0, none⟩), .string (tx x.1.2)] W fun r w' => r = .returned (.int .i64 e) ∧ Hid (RS w' w.heap.size n1 n2 n3 0 0 ∧ KO W w' ∧ Below w.heap.size W w') := by
        refine hT.mono ?_
        rintro r w' ⟨rfl, H⟩
        obtain ⟨t1, t2, t3, t4⟩ := H.out
        exact ⟨by rw [hee], hrs.kept ⟨by omega, by omega, by omega, by omega⟩ t3, t4, t2⟩
      have qe : (e != 0) = true := by rw [bne_iff_ne, ← hee]; exact he
      have HFin : Hid (∀ w5, RS w5 w.heap.size n1 n2 n3 0 0 → KO W w5 → Below w.heap.size W w5 → KeepsOthers W (rsW w5 w.heap.size n1 n2 n3 (.slice none 0 0) (.slice none 0 0) (.int .u32 0) (.slice none 0 0) (.int .i64 ((x.1.1 : Nat) : Int)) (.int .i64 e)) ∧ PIx w (rsW w5 w.heap.size n1 n2 n3 (.slice none 0 0) (.slice none 0 0) (.int .u32 0) (.slice none 0 0) (.int .i64 ((x.1.1 : Nat) : Int)) (.int .i64 e)) n1 n2 n3 .ret (pre ++ [x])) := fun w5 r5 k5' b5 => by
        have of := rsW_off w5 w.heap.size n1 n2 n3 (.slice none 0 0) (.slice none 0 0) (.int .u32 0) (.slice none 0 0) (.int .i64 ((x.1.1 : Nat) : Int)) (.int .i64 e)
        have bw5 : Below w.heap.size w w5 := hsc.bel.trans b5
        refine ⟨(k5'.trans (r5.ko _ _ _ _ _ _)).others (Nat.le_trans b5.size of.size), rfl, pre, x, rfl, ok, he, ?_, of.below bw5 (by intro k hk; simp at hk; omega) bw5.size⟩
        rw [hee]
        exact r5.set ⟨by omega, by omega, by omega⟩ _ _ _ _ _ _
      clear hT he sn y0 y1 y2 hlp hb ok hsc hrs hlen hee
      gi_wp2_with (refine ⟨trivial, ?_⟩; gi_at_call 22; refine (CallsIn.inRound lp (callsIn_wide.2 hT2)).mono ?_; rintro r w5 ⟨rfl, H5⟩; have z0 : w5.cell? ⟨w.heap.size, 0, none⟩ = some (.slice none 0 0) := H5.out.1.1.cell 0; have z1 : w5.cell? ⟨w.heap.size, 1, none⟩ = some (.slice none 0 0) := H5.out.1.1.cell 1; have z2 : w5.cell? ⟨w.heap.size, 2, none⟩ = some (.int .u32 0) := H5.out.1.1.cell 2; have f0 := H5.out.1.1.fz; have z3 : w5.cell? ⟨n1, 0, none⟩ = some (.slice none 0 0) := H5.out.1.2.1.cell 0; have f1 := H5.out.1.2.1.fz; have z4 : w5.cell? ⟨n2, 0, none⟩ = some (.int .i64 0) := H5.out.1.2.2.1.cell 0; have f2 := H5.out.1.2.2.1.fz; have z5 : w5.cell? ⟨n3, 0, none⟩ = some (.int .i64 0) := H5.out.1.2.2.2.cell 0; have f3 := H5.out.1.2.2.2.fz; have HF2 : Hid (_) := HFin.out w5 H5.out.1 H5.out.2.1 H5.out.2.2)
      exact HF2.out
  case done =>
    rintro D ys W hD hS ⟨ok, hsc, hrs⟩ hK
    rw [lnsT_all hS] at ok hsc
    obtain ⟨p1, p2⟩ := good_end hl ok
    obtain ⟨SA, hSA⟩ : ∃ y, Sn.zero.all (lnOf l) = y := ⟨_, rfl⟩
    rw [hSA] at hsc p2
    obtain ⟨cs, v, Dd, hN, hs4, h3, hMc, _⟩ := hsc.ex
    obtain ⟨a0, c0, a1, c1, e0, e1, e2, o0, o1, _⟩ := hN.v
    obtain ⟨av, cv, ev, _⟩ := Mc.rows hMc
    subst ev
    obtain ⟨ML, hML⟩ : ∃ y, SA.M.length = y := ⟨_, rfl⟩
    have y0 : W.cell? ⟨n4, 0, none⟩ = some (.slice a0 SA.Z.l0 c0) := (hN.bk.cell 0).trans e0
    have y1 : W.cell? ⟨n4, 1, none⟩ = some (.slice a1 SA.Z.l1 c1) := (hN.bk.cell 1).trans e1
    have y2 : W.cell? ⟨n4, 2, none⟩ = some (.int .u32 (SA.Z.ms : Nat)) := (hN.bk.cell 2).trans e2
    have y3 : W.cell? ⟨n4, 3, none⟩ = some (.slice av SA.M.length cv) := (hN.bk.cell 3).trans h3
    have z0 : W.cell? ⟨w.heap.size, 0, none⟩ = some (.slice none 0 0) := hrs.1.cell 0; have z1 : W.cell? ⟨w.heap.size, 1, none⟩ = some (.slice none 0 0) := hrs.1.cell 1; have z2 : W.cell? ⟨w.heap.size, 2, none⟩ = some (.int .u32 0) := hrs.1.cell 2; have f0 := hrs.1.fz; have z3 : W.cell? ⟨n1, 0, none⟩ = some (.slice none 0 0) := hrs.2.1.cell 0; have f1 := hrs.2.1.fz; have z4 : W.cell? ⟨n2, 0, none⟩ = some (.int .i64 0) := hrs.2.2.1.cell 0; have f2 := hrs.2.2.1.fz; have z5 : W.cell? ⟨n3, 0, none⟩ = some (.int .i64 0) := hrs.2.2.2.cell 0; have f3 := hrs.2.2.2.fz
    have HFin : Hid (((rsW W w.heap.size n1 n2 n3 (.slice a0 SA.Z.l0 c0) (.slice a1 SA.Z.l1 c1) (.int .u32 (SA.Z.ms : Nat)) (.slice av SA.M.length cv) (.int .i64 0) (.int .i64 0)).drew).heap[D]? = some (.deferred (some [])) ∧ RS4 (((rsW W w.heap.size n1 n2 n3 (.slice a0 SA.Z.l0 c0) (.slice a1 SA.Z.l1 c1) (.int .u32 (SA.Z.ms : Nat)) (.slice av SA.M.length cv) (.int .i64 0) (.int .i64 0)).drew).putObj D (.deferred none)) w.heap.size n1 n2 n3 (.slice a0 SA.Z.l0 c0) (.slice a1 SA.Z.l1 c1) (.int .u32 (SA.Z.ms : Nat)) (.slice av SA.M.length cv) ∧ PaP (psSn l) (psBad l).1 (psBad l).2 w (.returned (.tuple #[.agg #[.slice a0 SA.Z.l0 c0, .slice a1 SA.Z.l1 c1, .int .u32 (SA.Z.ms : Nat)], .slice av SA.M.length cv, .int .i64 0, .int .i64 0])) (((rsW W w.heap.size n1 n2 n3 (.slice a0 SA.Z.l0 c0) (.slice a1 SA.Z.l1 c1) (.int .u32 (SA.Z.ms : Nat)) (.slice av SA.M.length cv) (.int .i64 0) (.int .i64 0)).drew).putObj D (.deferred none))) := by
      obtain ⟨W', hW'⟩ : ∃ y, rsW W w.heap.size n1 n2 n3 (.slice a0 SA.Z.l0 c0) (.slice a1 SA.Z.l1 c1) (.int .u32 (SA.Z.ms : Nat)) (.slice av SA.M.length cv) (.int .i64 0) (.int .i64 0) = y := ⟨_, rfl⟩
      have of := rsW_off W w.heap.size n1 n2 n3 (.slice a0 SA.Z.l0 c0) (.slice a1 SA.Z.l1 c1) (.int .u32 (SA.Z.ms : Nat)) (.slice av SA.M.length cv) (.int .i64 0) (.int .i64 0)
      have ko := hrs.ko (.slice a0 SA.Z.l0 c0) (.slice a1 SA.Z.l1 c1) (.int .u32 (SA.Z.ms : Nat)) (.slice av SA.M.length cv) (.int .i64 0) (.int .i64 0)
      have st := hrs.set ⟨by omega, by omega, by omega⟩ (.slice a0 SA.Z.l0 c0) (.slice a1 SA.Z.l1 c1) (.int .u32 (SA.Z.ms : Nat)) (.slice av SA.M.length cv) (.int .i64 0) (.int .i64 0)
      rw [hW'] at of ko st ⊢
      have k1 : (W'.drew).heap[D]? = some (.deferred (some [])) := ko D _ hK (fun x y z e => by cases e)
      have gp := grownBy_putObj' (W'.drew) D (.deferred none)
      have hr : ∀ r, some D = some r → ∃ o : Obj, (W'.drew).heap[r]? = some o ∧ o.isCells = false := fun r e => by cases e; exact ⟨_, k1, rfl⟩
      have bw : Below w.heap.size w W' := of.below hsc.bel (by intro k hk; simp at hk; omega) hsc.bel.size
      have b2 : Below w.heap.size w ((W'.drew).putObj D (.deferred none)) := (Below.drew bw).trans (belowK_b (w := w) (Nat.le_refl _) (W'.drew) D _ (.deferred none) (Nat.le_trans bW.size hD) k1 rfl rfl)
      have ofd : Off [w.heap.size, n1, n2, n3] W (W'.drew) := ⟨of.os, of.tape, of.output, of.size, of.block⟩
      refine ⟨k1, ⟨(bk_row gp hr st.1).trans st.1, (bk_row gp hr st.2.1).trans st.2.1, (bk_row gp hr st.2.2.1).trans st.2.2.1, (bk_row gp hr st.2.2.2).trans st.2.2.2⟩, ?_⟩
      rw [p1, p2]
      obtain ⟨f1, f2, f3⟩ := sc_fin o0 o1 hMc ofd (fun k hk => by
        simp only [List.mem_cons, List.not_mem_nil, or_false] at hk
        rcases hk with e | e | e | e <;> subst e
        · exact ⟨_, _, hrs.1, by decide, by decide, by intro v hv n e; subst e; simp at hv⟩
        · exact ⟨_, _, hrs.2.1, by decide, by decide, by intro v hv n e; subst e; simp at hv⟩
        · exact ⟨_, _, hrs.2.2.1, by decide, by decide, by intro v hv n e; subst e; simp at hv⟩
        · exact ⟨_, _, hrs.2.2.2, by decide, by decide, by intro v hv n e; subst e; simp at hv⟩) gp hr b2
      exact ⟨a0, c0, a1, c1, av, cv, Dd, rfl, f1, f2, f3, b2⟩
    clear ok hsc p1 p2 hSA hN hs4 h3 hMc e0 e1 e2 o0 o1 hrs hK hS hML
    gi_wp2
    gi_region
    all_goals gi_wp2
    all_goals
      obtain ⟨hK5, h5, hP⟩ := HFin.out
      have d0 := h5.1.cell 0
      have d1 := h5.1.cell 1
      have d2 := h5.1.cell 2
      have d3 := h5.2.1.cell 0
      have d4 := h5.2.2.1.cell 0
      have d5 := h5.2.2.2.cell 0
      unfold rsW at hK5 hP d0 d1 d2 d3 d4 d5
      refine ⟨by simp, .inl ⟨_, _, rfl, run_takeDeferred hK5, ?_⟩⟩
      refine ⟨_, ?_, hP⟩
      simp [results, Tryd.results8, go_sem, d0, d1, d2, d3, d4, d5]
  case stop =>
    rintro D c pre W hD ⟨t, ht⟩ ⟨rfl, ini, x, rfl, ok, he, hrs, hB⟩ hK
    gi_wp2
    refine ⟨by simp, .inl ⟨_, _, rfl, run_takeDeferred hK, ?_⟩⟩
    have hr5 := hrs.row (grownBy_putObj' W D (.deferred none)) (fun r e => by cases e; exact ⟨_, hK, rfl⟩)
    obtain ⟨h1, h2, h3, h4⟩ := lnsT_at ht
    rw [h2] at ok he hr5
    rw [h3] at he hr5
    rw [h4] at hr5
    obtain ⟨p1, p2⟩ := bad_at hl h1 ok he
    have hB5 := hB.trans (belowK_b (w := w) (Nat.le_refl _) W D _ (.deferred none) (Nat.le_trans bW.size hD) hK rfl rfl)
    rw [p1, p2]
    have c0 := hr5.1.cell 0
    have c1 := hr5.1.cell 1
    have c2 := hr5.1.cell 2
    have c3 := hr5.2.1.cell 0
    have c4 := hr5.2.2.1.cell 0
    have c5 := hr5.2.2.2.cell 0
    refine ⟨.tuple #[.agg #[.slice none 0 0, .slice none 0 0, .int .u32 0], .slice none 0 0, .int .i64 ((ini.length + 1 : Nat) : Int), .int .i64 ((Sn.zero.all ((lnOf l).take ini.length)).err (wsL (lnOf l) ini.length))], ?_, PaP.none hB5⟩
    simp [results, Tryd.results8, go_sem, c0, c1, c2, c3, c4, c5]
end Go.Proofs.YtnmnjcjfgbpkaaaDoor

