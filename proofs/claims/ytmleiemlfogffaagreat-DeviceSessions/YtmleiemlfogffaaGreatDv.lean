/- A device in memory: its block and the blocks of all that it holds; what stays of it where one of them turns. -/
import Derived.Test.YtmleiemlfogffaaGreatDm
import Derived.Test.YtmleiemlfogffaaGreatDn2
namespace Go.Proofs.YtmleiemlfogffaaGreat
set_option maxRecDepth 100000
open Go.RowKit

/-- From a world to a later one: of what was there only blocks of U have turned, and U' names none of the others. -/
structure Gr (U : List Nat) (w : World) (U' : List Nat) (w' : World) : Prop where
  off : Off U w w'
  new : ∀ k, k ∈ U' → k ∈ U ∨ w.heap.size ≤ k
theorem Gr.refl (U : List Nat) (w : World) : Gr U w U w := ⟨Off.refl _ _, fun _ h => .inl h⟩
theorem Gr.out {U U' : List Nat} {w w' : World} (h : Gr U w U' w') {k : Nat} (hk : k < w.heap.size) (hn : k ∉ U) : k ∉ U' := fun hm => by
  rcases h.new k hm with h1 | h1
  · exact hn h1
  · omega
theorem Gr.trans {U U1 U2 : List Nat} {w w1 w2 : World} (h : Gr U w U1 w1) (k : Gr U1 w1 U2 w2) : Gr U w U2 w2 := by
  refine ⟨⟨k.off.os.trans h.off.os, k.off.tape.trans h.off.tape, k.off.output.trans h.off.output, Nat.le_trans h.off.size k.off.size, fun i hi hb => ?_⟩, fun i hi => ?_⟩
  · exact (k.off.block i (Nat.lt_of_lt_of_le hi h.off.size) (h.out hi hb)).trans (h.off.block i hi hb)
  · rcases k.new i hi with h1 | h1
    · exact h.new i h1
    · exact .inr (Nat.le_trans h.off.size h1)
theorem Gr.same {U : List Nat} {l : List Nat} {w w' : World} (h : Off l w w') (hl : ∀ k, k ∈ l → k ∈ U) : Gr U w U w' := ⟨h.more hl, fun _ h => .inl h⟩
theorem Gr.below {U : List Nat} {w w' : World} (h : Below w.heap.size w w') : Gr U w U w' := Gr.same (l := []) (Off.of_below h) (by simp)

/-- The cells of a device. -/
def DVC (P : Pm) (m mx : Nat) (cp : Value) (lb db vb : Nat) (s : Sd) (av : Value) : Array Value :=
  #[.int .u32 (P.c : Nat), .int .i64 (P.o : Nat), .int .i64 (P.i : Nat), .int .i64 (P.t : Nat), .int .u32 (P.n : Nat), .pointer (some ⟨m, 0, none⟩), .int .u32 (mx : Nat), cp, .pointer (some ⟨lb, 0, none⟩),
    .pointer (some ⟨db, 0, none⟩), .pointer (some ⟨vb, 0, none⟩), .int .i64 (s.st : Nat), .int .u32 (s.ss : Nat), .int .u32 (s.nm : Nat), .int .u32 (s.sn : Nat), .int .i64 (s.od : Nat), av, .bool s.hd]
/-- Which blocks are whose. -/
structure Bk where
  c : Nat
  lb : Nat
  db : Nat
  vb : Nat
  vg : Nat
  M : List Nat
  Ul : List Nat
  cp : Value
  av : Value
  col : Nat → Nat
structure DX (w : World) (d m g n mx : Nat) (P : Pm) (U : List Nat) (s : Sd) (B : Bk) (A : Prop) : Prop where
  dev : w.heap[d]? = some (.cells (DVC P m mx B.cp B.lb B.db B.vb s B.av) 101 (0, 0))
  mem : MR w m g n s.ms
  cel : A → B.cp = .pointer (some ⟨B.c, 0, none⟩) ∧ CS w B.c m mx s.ms.bs false ∧ s.ms.off = false
  dog : DR w B.db P.t s.dc
  val : VR w B.vb B.vg B.M P.o s.v
  log : DG w B.lb B.Ul s.L
  app : w.ownsRow 0 5 1 B.av P.i (CB s.ap P.i)
  apb : ∀ i, i < P.i → s.ap i < 256
  ltU : ∀ k, k ∈ U → k < w.heap.size
  kd : B.col d = 0 ∧ d ∈ U
  km : B.col m = 1 ∧ m ∈ U
  kg : B.col g = 1 ∧ g ∈ U
  kc : B.col B.c = 2 ∧ B.c ∈ U
  kb : B.col B.db = 3 ∧ B.db ∈ U
  kv : B.col B.vb = 4 ∧ B.vb ∈ U
  kw : B.col B.vg = 4 ∧ B.vg ∈ U
  kM : ∀ k, k ∈ B.M → B.col k = 4 ∧ k ∈ U
  kl : ∀ k, k ∈ B.Ul → B.col k = 5 ∧ k ∈ U
  ka : ∀ k, B.av.ownBlock = some k → B.col k = 6 ∧ k ∈ U
  pok : Pok P
  n10 : 10 ≤ n
  mx0 : mx ≠ 0
  mxl : mx < 4294967296
def DV (w : World) (d m g n mx : Nat) (P : Pm) (U : List Nat) (s : Sd) : Prop := ∃ B, DX w d m g n mx P U s B (s.st ≠ 6)
section
variable {w w' : World} {d m g n mx : Nat} {P : Pm} {U : List Nat} {s s' : Sd} {B : Bk} {A A' : Prop}
theorem DX.dlt (h : DX w d m g n mx P U s B A) : d < w.heap.size := h.ltU d h.kd.2
/-- Blocks of one colour turn: what bears another one stays. -/
theorem DX.ne {a b : Nat} {B : Bk} (h : B.col a ≠ B.col b) : a ≠ b := fun e => h (by rw [e])
/-- Only the device's own block is written, and only what lies in it. -/
theorem DX.own (h : DX w d m g n mx P U s B A) (q : Off [d] w w') (e : w'.heap[d]? = some (.cells (DVC P m mx B.cp B.lb B.db B.vb s' B.av) 101 (0, 0)))
    (h1 : s'.ms = s.ms) (h2 : s'.dc = s.dc) (h3 : s'.v = s.v) (h4 : s'.L = s.L) (h5 : s'.ap = s.ap) (h6 : A' → A) : DX w' d m g n mx P U s' B A' := by
  have hn : ∀ k, B.col k ≠ 0 → k ∉ [d] := fun k hk hm => by simp at hm; rw [hm, h.kd.1] at hk; exact hk rfl
  refine ⟨e, ?_, ?_, ?_, ?_, ?_, ?_, h5 ▸ h.apb, fun k hk => Nat.lt_of_lt_of_le (h.ltU k hk) q.size, h.kd, h.km, h.kg, h.kc, h.kb, h.kv, h.kw, h.kM, h.kl, h.ka, h.pok, h.n10, h.mx0, h.mxl⟩
  · rw [h1]; exact h.mem.off q (hn _ (by rw [h.km.1]; omega)) (hn _ (by rw [h.kg.1]; omega))
  · intro hs
    obtain ⟨c1, c2, c3⟩ := h.cel (h6 hs)
    rw [h1]
    exact ⟨c1, c2.off q (hn _ (by rw [h.kc.1]; omega)), c3⟩
  · rw [h2]; exact h.dog.off q (hn _ (by rw [h.kb.1]; omega))
  · rw [h3]; exact h.val.off q (hn _ (by rw [h.kv.1]; omega)) (hn _ (by rw [h.kw.1]; omega)) (fun k hk hM => by simp at hk; subst hk; have := (h.kM _ hM).1; rw [h.kd.1] at this; omega)
  · rw [h4]; exact h.log.off q (fun k hk => hn _ (by rw [(h.kl k hk).1]; omega))
  · rw [h5]; exact own_offk h.app q (fun k hk => hn _ (by rw [(h.ka k hk).1]; omega))
/-- The watchdog turns. -/
theorem DX.dogd (h : DX w d m g n mx P U s B A) (q : Off [B.db] w w') {c : Nat} (e : DR w' B.db P.t c) : DX w' d m g n mx P U { s with dc := c } B A := by
  have hn : ∀ k, B.col k ≠ 3 → k ∉ [B.db] := fun k hk hm => by simp at hm; rw [hm, h.kb.1] at hk; exact hk rfl
  refine ⟨(q.block d h.dlt (hn _ (by rw [h.kd.1]; omega))).trans h.dev, ?_, ?_, e, ?_, ?_, ?_, h.apb, fun k hk => Nat.lt_of_lt_of_le (h.ltU k hk) q.size, h.kd, h.km, h.kg, h.kc, h.kb, h.kv, h.kw, h.kM, h.kl, h.ka, h.pok, h.n10, h.mx0, h.mxl⟩
  · exact h.mem.off q (hn _ (by rw [h.km.1]; omega)) (hn _ (by rw [h.kg.1]; omega))
  · intro hs
    obtain ⟨c1, c2, c3⟩ := h.cel hs
    exact ⟨c1, c2.off q (hn _ (by rw [h.kc.1]; omega)), c3⟩
  · exact h.val.off q (hn _ (by rw [h.kv.1]; omega)) (hn _ (by rw [h.kw.1]; omega)) (fun k hk hM => by simp at hk; subst hk; have := (h.kM _ hM).1; rw [h.kb.1] at this; omega)
  · exact h.log.off q (fun k hk => hn _ (by rw [(h.kl k hk).1]; omega))
  · exact own_offk h.app q (fun k hk => hn _ (by rw [(h.ka k hk).1]; omega))
/-- The valve turns, and its value may lie in a new block. -/
theorem DX.vald (h : DX w d m g n mx P U s B A) (q : Off [B.vb, B.vg] w w') {M : List Nat} {v : Vs} (e : VR w' B.vb B.vg M P.o v) (hM : ∀ k, k ∈ M → k ∈ B.M ∨ w.heap.size ≤ k) (hl : ∀ k, k ∈ M → k < w'.heap.size) :
    ∃ U' B', Gr U w U' w' ∧ DX w' d m g n mx P U' { s with v := v } B' A := by
  have hn : ∀ k, B.col k ≠ 4 → k ∉ [B.vb, B.vg] := fun k hk hm => by simp at hm; rcases hm with hm | hm <;> rw [hm] at hk <;> first | exact hk h.kv.1 | exact hk h.kw.1
  let col' : Nat → Nat := fun k => if k < w.heap.size then B.col k else 4
  have hc : ∀ k x, B.col k = x ∧ k ∈ U → col' k = x ∧ k ∈ M ++ U := fun k x hk => ⟨by show (if k < w.heap.size then B.col k else 4) = x; rw [if_pos (h.ltU k hk.2)]; exact hk.1, by simp [hk.2]⟩
  refine ⟨M ++ U, { B with M := M, col := col' }, ⟨q.more (fun k hk => by simp at hk; rcases hk with rfl | rfl <;> first | exact h.kv.2 | exact h.kw.2), fun k hk => ?_⟩, ?_⟩
  · rcases List.mem_append.1 hk with hk | hk
    · rcases hM k hk with hk | hk
      · exact .inl (h.kM k hk).2
      · exact .inr hk
    · exact .inl hk
  refine ⟨(q.block d h.dlt (hn _ (by rw [h.kd.1]; omega))).trans h.dev, ?_, ?_, ?_, e, ?_, ?_, h.apb, ?_, hc _ _ h.kd, hc _ _ h.km, hc _ _ h.kg, hc _ _ h.kc, hc _ _ h.kb, hc _ _ h.kv, hc _ _ h.kw, ?_, fun k hk => hc _ _ (h.kl k hk), fun k hk => hc _ _ (h.ka k hk), h.pok, h.n10, h.mx0, h.mxl⟩
  · exact h.mem.off q (hn _ (by rw [h.km.1]; omega)) (hn _ (by rw [h.kg.1]; omega))
  · intro hs
    obtain ⟨c1, c2, c3⟩ := h.cel hs
    exact ⟨c1, c2.off q (hn _ (by rw [h.kc.1]; omega)), c3⟩
  · exact h.dog.off q (hn _ (by rw [h.kb.1]; omega))
  · exact h.log.off q (fun k hk => hn _ (by rw [(h.kl k hk).1]; omega))
  · exact own_offk h.app q (fun k hk => hn _ (by rw [(h.ka k hk).1]; omega))
  · intro k hk
    rcases List.mem_append.1 hk with hk | hk
    · exact hl k hk
    · exact Nat.lt_of_lt_of_le (h.ltU k hk) q.size
  · intro k hk
    rcases hM k hk with hk' | hk'
    · exact ⟨(hc k 4 (h.kM k hk')).1, List.mem_append.2 (.inl hk)⟩
    · exact ⟨by show (if k < w.heap.size then B.col k else 4) = 4; rw [if_neg (by omega)], List.mem_append.2 (.inl hk)⟩
theorem DX.vals (h : DX w d m g n mx P U s B A) (q : Off [B.vb, B.vg] w w') {v : Vs} (e : VR w' B.vb B.vg B.M P.o v) : ∃ U' B', Gr U w U' w' ∧ DX w' d m g n mx P U' { s with v := v } B' A :=
  h.vald q e (fun _ hk => .inl hk) (fun k hk => Nat.lt_of_lt_of_le (h.ltU k (h.kM k hk).2) q.size)
/-- The records turn. -/
theorem DG.ult {w : World} {b : Nat} {U : List Nat} {L : List R4} (h : DG w b U L) (k : Nat) (hk : k ∈ U) : k < w.heap.size := by
  obtain ⟨mA, mb, nn, D, mt, h⟩ := h
  exact h.ult k hk
theorem DX.logd (h : DX w d m g n mx P U s B A) {V : List Nat} {L : List R4} (q : Off B.Ul w w') (e : DG w' B.lb V L) (hV : ∀ k, k ∈ V → k ∈ B.Ul ∨ w.heap.size ≤ k) :
    ∃ U' B', Gr U w U' w' ∧ DX w' d m g n mx P U' { s with L := L } B' A := by
  have hV : ∀ k, k ∈ V → (k ∈ B.Ul ∨ w.heap.size ≤ k) ∧ k < w'.heap.size := fun k hk => ⟨hV k hk, e.ult k hk⟩
  have hn : ∀ k, B.col k ≠ 5 → k ∉ B.Ul := fun k hk hm => hk (h.kl k hm).1
  let col' : Nat → Nat := fun k => if k < w.heap.size then B.col k else 5
  have hc : ∀ k x, B.col k = x ∧ k ∈ U → col' k = x ∧ k ∈ V ++ U := fun k x hk => ⟨by show (if k < w.heap.size then B.col k else 5) = x; rw [if_pos (h.ltU k hk.2)]; exact hk.1, by simp [hk.2]⟩
  refine ⟨V ++ U, { B with Ul := V, col := col' }, ⟨q.more (fun k hk => (h.kl k hk).2), fun k hk => ?_⟩, ?_⟩
  · rcases List.mem_append.1 hk with hk | hk
    · rcases (hV k hk).1 with hk | hk
      · exact .inl (h.kl k hk).2
      · exact .inr hk
    · exact .inl hk
  refine ⟨(q.block d h.dlt (hn _ (by rw [h.kd.1]; omega))).trans h.dev, ?_, ?_, ?_, ?_, e, ?_, h.apb, ?_, hc _ _ h.kd, hc _ _ h.km, hc _ _ h.kg, hc _ _ h.kc, hc _ _ h.kb, hc _ _ h.kv, hc _ _ h.kw, fun k hk => hc _ _ (h.kM k hk), ?_, fun k hk => hc _ _ (h.ka k hk), h.pok, h.n10, h.mx0, h.mxl⟩
  · exact h.mem.off q (hn _ (by rw [h.km.1]; omega)) (hn _ (by rw [h.kg.1]; omega))
  · intro hs
    obtain ⟨c1, c2, c3⟩ := h.cel hs
    exact ⟨c1, c2.off q (hn _ (by rw [h.kc.1]; omega)), c3⟩
  · exact h.dog.off q (hn _ (by rw [h.kb.1]; omega))
  · exact h.val.off q (hn _ (by rw [h.kv.1]; omega)) (hn _ (by rw [h.kw.1]; omega)) (fun k hk hM => by have := (h.kM _ hM).1; rw [(h.kl k hk).1] at this; omega)
  · exact own_offk h.app q (fun k hk => hn _ (by rw [(h.ka k hk).1]; omega))
  · intro k hk
    rcases List.mem_append.1 hk with hk | hk
    · exact (hV k hk).2
    · exact Nat.lt_of_lt_of_le (h.ltU k hk) q.size
  · intro k hk
    rcases (hV k hk).1 with hk' | hk'
    · exact ⟨(hc k 5 (h.kl k hk')).1, List.mem_append.2 (.inl hk)⟩
    · exact ⟨by show (if k < w.heap.size then B.col k else 5) = 5; rw [if_neg (by omega)], List.mem_append.2 (.inl hk)⟩
/-- Memory that is new alone. -/
theorem DX.newd (h : DX w d m g n mx P U s B A) (q : Off [] w w') : DX w' d m g n mx P U s B A :=
  ⟨(q.block d h.dlt (by simp)).trans h.dev, h.mem.off q (by simp) (by simp), fun hs => ⟨(h.cel hs).1, (h.cel hs).2.1.off q (by simp), (h.cel hs).2.2⟩, h.dog.off q (by simp), h.val.off q (by simp) (by simp) (by simp), h.log.off q (by simp), own_offk h.app q (by simp), h.apb, fun k hk => Nat.lt_of_lt_of_le (h.ltU k hk) q.size, h.kd, h.km, h.kg, h.kc, h.kb, h.kv, h.kw, h.kM, h.kl, h.ka, h.pok, h.n10, h.mx0, h.mxl⟩
/-- What is read of its block. -/
theorem DX.cells (h : DX w d m g n mx P U s B A) : w.cell? ⟨d, 0, none⟩ = some (.int .u32 (P.c : Nat)) ∧ w.cell? ⟨d, 1, none⟩ = some (.int .i64 (P.o : Nat)) ∧ w.cell? ⟨d, 2, none⟩ = some (.int .i64 (P.i : Nat)) ∧ w.cell? ⟨d, 3, none⟩ = some (.int .i64 (P.t : Nat)) ∧
    w.cell? ⟨d, 4, none⟩ = some (.int .u32 (P.n : Nat)) ∧ w.cell? ⟨d, 5, none⟩ = some (.pointer (some ⟨m, 0, none⟩)) ∧ w.cell? ⟨d, 6, none⟩ = some (.int .u32 (mx : Nat)) ∧ w.cell? ⟨d, 7, none⟩ = some B.cp ∧ w.cell? ⟨d, 8, none⟩ = some (.pointer (some ⟨B.lb, 0, none⟩)) ∧
    w.cell? ⟨d, 9, none⟩ = some (.pointer (some ⟨B.db, 0, none⟩)) ∧ w.cell? ⟨d, 10, none⟩ = some (.pointer (some ⟨B.vb, 0, none⟩)) ∧ w.cell? ⟨d, 11, none⟩ = some (.int .i64 (s.st : Nat)) ∧ w.cell? ⟨d, 12, none⟩ = some (.int .u32 (s.ss : Nat)) ∧
    w.cell? ⟨d, 13, none⟩ = some (.int .u32 (s.nm : Nat)) ∧ w.cell? ⟨d, 14, none⟩ = some (.int .u32 (s.sn : Nat)) ∧ w.cell? ⟨d, 15, none⟩ = some (.int .i64 (s.od : Nat)) ∧ w.cell? ⟨d, 16, none⟩ = some B.av ∧ w.cell? ⟨d, 17, none⟩ = some (.bool s.hd) :=
  ⟨cell_of_row w d 0 _ _ _ h.dev, cell_of_row w d 1 _ _ _ h.dev, cell_of_row w d 2 _ _ _ h.dev, cell_of_row w d 3 _ _ _ h.dev, cell_of_row w d 4 _ _ _ h.dev, cell_of_row w d 5 _ _ _ h.dev, cell_of_row w d 6 _ _ _ h.dev, cell_of_row w d 7 _ _ _ h.dev, cell_of_row w d 8 _ _ _ h.dev, cell_of_row w d 9 _ _ _ h.dev, cell_of_row w d 10 _ _ _ h.dev, cell_of_row w d 11 _ _ _ h.dev, cell_of_row w d 12 _ _ _ h.dev, cell_of_row w d 13 _ _ _ h.dev, cell_of_row w d 14 _ _ _ h.dev, cell_of_row w d 15 _ _ _ h.dev, cell_of_row w d 16 _ _ _ h.dev, cell_of_row w d 17 _ _ _ h.dev⟩
theorem DX.fz (h : DX w d m g n mx P U s B A) (j : Nat) : w.frozen? ⟨d, j, none⟩ = false := frozen_of_row w d j _ _ h.dev
end

end Go.Proofs.YtmleiemlfogffaaGreat
