/- Part 36 of the texts on which the proofs of layer 13 rest: contracts of Go functions. -/
import Derived.Test.YtndjepeolamedaaGreatPkA06
import Derived.Test.YtndjepeolamedaaGreatPkA10
import Derived.Test.YtndjepeolamedaaGreatPkA12
import Derived.Test.YtndjepeolamedaaGreatPkA30
import Derived.Test.YtndjepeolamedaaGreatPkA31
import Derived.Test.YtndjepeolamedaaGreatPkA32
import Derived.Test.YtndjepeolamedaaGreatPkA33
import Derived.Test.YtndjepeolamedaaGreatPkA34
namespace Go.Proofs.YtndjepeolamedaaGreat
set_option maxRecDepth 100000
open Go.RowKit
theorem hframe_op (d : Nat) (P : Pm) (U : List Nat) (s : Sh) (K N fl : Int) (odd : Bool) (a : Option Addr) (len cap : Nat) (bs : Nat → Nat) (p : Int) (x : Nat) (w : World) (h : RVh w d P U s) (hr : Row8 w a len cap bs) (ha : ∀ y, a = some y → 0 < len → y.block < w.heap.size) (hss : s.ss < 4294967296) (hx : x < 4294967296) (hlen : len ≤ 140737488351232) (hk : 1 ≤ K ∧ K ≤ 7) :
    Calls Tryz.prog 37 #[.pointer (some ⟨d, 0, none⟩), .agg #[.int .i64 K, .int .i64 N, .int .i64 fl, .bool odd, .slice a len cap, .int .i64 p, .int .u32 (x : Nat)]] w fun e w' => ∃ v, e = .returned (.tuple #[v, .bool true]) ∧ Hid (Below w.heap.size w w' ∧ ∃ f, Fr w' w.heap.size v f ∧ (∀ i, i < f.1 → f.2 i < 256) ∧ f.1 ≤ 140737488351232 ∧ Fh P s K N fl odd len bs x f) := by
  have : K = 1 ∨ K = 2 ∨ K = 3 ∨ K = 4 ∨ K = 5 ∨ K = 6 ∨ K = 7 := by omega
  rcases this with rfl | rfl | rfl | rfl | rfl | rfl | rfl
  · exact hframe1_any d P U s N fl odd a len cap bs p x w h hr ha hss
  · exact hframe2_any d P U s N fl odd a len cap bs p x w h hr ha hss
  · exact hframe3_any d P U s N fl odd a len cap bs p x w h hr ha hss
  · exact hframe4_any d P U s N fl odd a len cap bs p x w h hr ha hss
  · exact hframe5_any d P U s N fl odd a len cap bs p x w h hr ha hss
  · exact hframe6_any d P U s N fl odd a len cap bs p x w h hr ha hss hlen
  · exact hframe7_any d P U s N fl odd a len cap bs p x w h hr ha hss hx
end Go.Proofs.YtndjepeolamedaaGreat
namespace Go.Proofs.YtndjepeolamedaaGreat
set_option maxRecDepth 100000
open Go.RowKit
def HVC (P : Pm) (lb db vb : Nat) (s : Sh) (av : Value) : Array Value :=
  #[.int .u32 (P.c : Nat), .int .i64 (P.o : Nat), .int .i64 (P.i : Nat), .int .i64 (P.t : Nat), .int .u32 (P.n : Nat), .pointer (some ⟨lb, 0, none⟩),
    .pointer (some ⟨db, 0, none⟩), .pointer (some ⟨vb, 0, none⟩), .int .i64 (s.st : Nat), .int .u32 (s.ss : Nat), .int .u32 (s.nm : Nat), .int .u32 (s.sn : Nat), .bool s.wt, .int .i64 (s.ms : Nat), av, .bool s.hd]
structure Bh where
  lb : Nat
  db : Nat
  vb : Nat
  vg : Nat
  M : List Nat
  Ul : List Nat
  av : Value
  col : Nat → Nat
structure HX (w : World) (d : Nat) (P : Pm) (U : List Nat) (s : Sh) (B : Bh) : Prop where
  dev : w.heap[d]? = some (.cells (HVC P B.lb B.db B.vb s B.av) 147 (0, 0))
  dog : DR w B.db P.t s.dc
  val : VR w B.vb B.vg B.M P.i s.v
  log : DG w B.lb B.Ul s.L
  app : w.ownsRow 0 5 1 B.av P.o (CB s.ap P.o)
  apb : ∀ i, i < P.o → s.ap i < 256
  ltU : ∀ k, k ∈ U → k < w.heap.size
  kd : B.col d = 0 ∧ d ∈ U
  kb : B.col B.db = 3 ∧ B.db ∈ U
  kv : B.col B.vb = 4 ∧ B.vb ∈ U
  kw : B.col B.vg = 4 ∧ B.vg ∈ U
  kM : ∀ k, k ∈ B.M → B.col k = 4 ∧ k ∈ U
  kl : ∀ k, k ∈ B.Ul → B.col k = 5 ∧ k ∈ U
  ka : ∀ k, B.av.ownBlock = some k → B.col k = 6 ∧ k ∈ U
  pok : Pok P
def HV (w : World) (d : Nat) (P : Pm) (U : List Nat) (s : Sh) : Prop := ∃ B, HX w d P U s B
section
variable {w w' : World} {d : Nat} {P : Pm} {U : List Nat} {s s' : Sh} {B : Bh}
theorem HX.dlt (h : HX w d P U s B) : d < w.heap.size := h.ltU d h.kd.2
theorem HX.ne {a b : Nat} {B : Bh} (h : B.col a ≠ B.col b) : a ≠ b := fun e => h (by rw [e])
theorem HX.own (h : HX w d P U s B) (q : Off [d] w w') (e : w'.heap[d]? = some (.cells (HVC P B.lb B.db B.vb s' B.av) 147 (0, 0)))
    (h2 : s'.dc = s.dc) (h3 : s'.v = s.v) (h4 : s'.L = s.L) (h5 : s'.ap = s.ap) : HX w' d P U s' B := by
  have hn : ∀ k, B.col k ≠ 0 → k ∉ [d] := fun k hk hm => by simp at hm; rw [hm, h.kd.1] at hk; exact hk rfl
  refine ⟨e, ?_, ?_, ?_, ?_, h5 ▸ h.apb, fun k hk => Nat.lt_of_lt_of_le (h.ltU k hk) q.size, h.kd, h.kb, h.kv, h.kw, h.kM, h.kl, h.ka, h.pok⟩
  · rw [h2]; exact h.dog.off q (hn _ (by rw [h.kb.1]; omega))
  · rw [h3]; exact h.val.off q (hn _ (by rw [h.kv.1]; omega)) (hn _ (by rw [h.kw.1]; omega)) (fun k hk hM => by simp at hk; subst hk; have := (h.kM _ hM).1; rw [h.kd.1] at this; omega)
  · rw [h4]; exact h.log.off q (fun k hk => hn _ (by rw [(h.kl k hk).1]; omega))
  · rw [h5]; exact own_offk h.app q (fun k hk => hn _ (by rw [(h.ka k hk).1]; omega))
theorem HX.dogd (h : HX w d P U s B) (q : Off [B.db] w w') {c : Nat} (e : DR w' B.db P.t c) : HX w' d P U { s with dc := c } B := by
  have hn : ∀ k, B.col k ≠ 3 → k ∉ [B.db] := fun k hk hm => by simp at hm; rw [hm, h.kb.1] at hk; exact hk rfl
  refine ⟨(q.block d h.dlt (hn _ (by rw [h.kd.1]; omega))).trans h.dev, e, ?_, ?_, ?_, h.apb, fun k hk => Nat.lt_of_lt_of_le (h.ltU k hk) q.size, h.kd, h.kb, h.kv, h.kw, h.kM, h.kl, h.ka, h.pok⟩
  · exact h.val.off q (hn _ (by rw [h.kv.1]; omega)) (hn _ (by rw [h.kw.1]; omega)) (fun k hk hM => by simp at hk; subst hk; have := (h.kM _ hM).1; rw [h.kb.1] at this; omega)
  · exact h.log.off q (fun k hk => hn _ (by rw [(h.kl k hk).1]; omega))
  · exact own_offk h.app q (fun k hk => hn _ (by rw [(h.ka k hk).1]; omega))
theorem HX.vald (h : HX w d P U s B) (q : Off [B.vb, B.vg] w w') {M : List Nat} {v : Vs} (e : VR w' B.vb B.vg M P.i v) (hM : ∀ k, k ∈ M → k ∈ B.M ∨ w.heap.size ≤ k) (hl : ∀ k, k ∈ M → k < w'.heap.size) :
    ∃ U' B', Gr U w U' w' ∧ HX w' d P U' { s with v := v } B' := by
  have hn : ∀ k, B.col k ≠ 4 → k ∉ [B.vb, B.vg] := fun k hk hm => by simp at hm; rcases hm with hm | hm <;> rw [hm] at hk <;> first | exact hk h.kv.1 | exact hk h.kw.1
  let col' : Nat → Nat := fun k => if k < w.heap.size then B.col k else 4
  have hc : ∀ k x, B.col k = x ∧ k ∈ U → col' k = x ∧ k ∈ M ++ U := fun k x hk => ⟨by show (if k < w.heap.size then B.col k else 4) = x; rw [if_pos (h.ltU k hk.2)]; exact hk.1, by simp [hk.2]⟩
  refine ⟨M ++ U, { B with M := M, col := col' }, ⟨q.more (fun k hk => by simp at hk; rcases hk with rfl | rfl <;> first | exact h.kv.2 | exact h.kw.2), fun k hk => ?_⟩, ?_⟩
  · rcases List.mem_append.1 hk with hk | hk
    · rcases hM k hk with hk | hk
      · exact .inl (h.kM k hk).2
      · exact .inr hk
    · exact .inl hk
  refine ⟨(q.block d h.dlt (hn _ (by rw [h.kd.1]; omega))).trans h.dev, ?_, e, ?_, ?_, h.apb, ?_, hc _ _ h.kd, hc _ _ h.kb, hc _ _ h.kv, hc _ _ h.kw, ?_, fun k hk => hc _ _ (h.kl k hk), fun k hk => hc _ _ (h.ka k hk), h.pok⟩
  · exact h.dog.off q (hn _ (by rw [h.kb.1]; omega))
  · exact h.log.off q (fun k hk => hn _ (by rw [(h.kl k hk).1]; omega))
  · exact own_offk h.app q (fun k hk => hn _ (by rw [(h.ka k hk).1]; omega))
  · intro k hk
    rcases List.mem_append.1 hk with hk | hk
    · exact hl k hk
    · exact Nat.lt_of_lt_of_le (h.ltU k hk) q.size
  · intro k hk
    rcases hM k hk with hk' | hk'
    · exact ⟨(hc k 4 (h.kM k hk')).1, List.mem_append.2 (.inl hk)⟩
    · exact ⟨by show (if k < w.heap.size then B.col k else 4) = 4; rw [if_neg (by omega)], List.mem_append.2 (.inl hk)⟩
theorem HX.vals (h : HX w d P U s B) (q : Off [B.vb, B.vg] w w') {v : Vs} (e : VR w' B.vb B.vg B.M P.i v) : ∃ U' B', Gr U w U' w' ∧ HX w' d P U' { s with v := v } B' :=
  h.vald q e (fun _ hk => .inl hk) (fun k hk => Nat.lt_of_lt_of_le (h.ltU k (h.kM k hk).2) q.size)
theorem HX.logd (h : HX w d P U s B) {V : List Nat} {L : List R4} (q : Off B.Ul w w') (e : DG w' B.lb V L) (hV : ∀ k, k ∈ V → k ∈ B.Ul ∨ w.heap.size ≤ k) :
    ∃ U' B', Gr U w U' w' ∧ HX w' d P U' { s with L := L } B' := by
  have hV : ∀ k, k ∈ V → (k ∈ B.Ul ∨ w.heap.size ≤ k) ∧ k < w'.heap.size := fun k hk => ⟨hV k hk, e.ult k hk⟩
  have hn : ∀ k, B.col k ≠ 5 → k ∉ B.Ul := fun k hk hm => hk (h.kl k hm).1
  let col' : Nat → Nat := fun k => if k < w.heap.size then B.col k else 5
  have hc : ∀ k x, B.col k = x ∧ k ∈ U → col' k = x ∧ k ∈ V ++ U := fun k x hk => ⟨by show (if k < w.heap.size then B.col k else 5) = x; rw [if_pos (h.ltU k hk.2)]; exact hk.1, by simp [hk.2]⟩
  refine ⟨V ++ U, { B with Ul := V, col := col' }, ⟨q.more (fun k hk => (h.kl k hk).2), fun k hk => ?_⟩, ?_⟩
  · rcases List.mem_append.1 hk with hk | hk
    · rcases (hV k hk).1 with hk | hk
      · exact .inl (h.kl k hk).2
      · exact .inr hk
    · exact .inl hk
  refine ⟨(q.block d h.dlt (hn _ (by rw [h.kd.1]; omega))).trans h.dev, ?_, ?_, e, ?_, h.apb, ?_, hc _ _ h.kd, hc _ _ h.kb, hc _ _ h.kv, hc _ _ h.kw, fun k hk => hc _ _ (h.kM k hk), ?_, fun k hk => hc _ _ (h.ka k hk), h.pok⟩
  · exact h.dog.off q (hn _ (by rw [h.kb.1]; omega))
  · exact h.val.off q (hn _ (by rw [h.kv.1]; omega)) (hn _ (by rw [h.kw.1]; omega)) (fun k hk hM => by have := (h.kM _ hM).1; rw [(h.kl k hk).1] at this; omega)
  · exact own_offk h.app q (fun k hk => hn _ (by rw [(h.ka k hk).1]; omega))
  · intro k hk
    rcases List.mem_append.1 hk with hk | hk
    · exact (hV k hk).2
    · exact Nat.lt_of_lt_of_le (h.ltU k hk) q.size
  · intro k hk
    rcases (hV k hk).1 with hk' | hk'
    · exact ⟨(hc k 5 (h.kl k hk')).1, List.mem_append.2 (.inl hk)⟩
    · exact ⟨by show (if k < w.heap.size then B.col k else 5) = 5; rw [if_neg (by omega)], List.mem_append.2 (.inl hk)⟩
theorem HX.newd (h : HX w d P U s B) (q : Off [] w w') : HX w' d P U s B :=
  ⟨(q.block d h.dlt (by simp)).trans h.dev, h.dog.off q (by simp), h.val.off q (by simp) (by simp) (by simp), h.log.off q (by simp), own_offk h.app q (by simp), h.apb, fun k hk => Nat.lt_of_lt_of_le (h.ltU k hk) q.size, h.kd, h.kb, h.kv, h.kw, h.kM, h.kl, h.ka, h.pok⟩
theorem HX.c0 (h : HX w d P U s B) : w.cell? ⟨d, 0, none⟩ = some (.int .u32 (P.c : Nat)) := cell_of_row w d 0 _ _ _ h.dev
theorem HX.c1 (h : HX w d P U s B) : w.cell? ⟨d, 1, none⟩ = some (.int .i64 (P.o : Nat)) := cell_of_row w d 1 _ _ _ h.dev
theorem HX.c2 (h : HX w d P U s B) : w.cell? ⟨d, 2, none⟩ = some (.int .i64 (P.i : Nat)) := cell_of_row w d 2 _ _ _ h.dev
theorem HX.c3 (h : HX w d P U s B) : w.cell? ⟨d, 3, none⟩ = some (.int .i64 (P.t : Nat)) := cell_of_row w d 3 _ _ _ h.dev
theorem HX.c4 (h : HX w d P U s B) : w.cell? ⟨d, 4, none⟩ = some (.int .u32 (P.n : Nat)) := cell_of_row w d 4 _ _ _ h.dev
theorem HX.c5 (h : HX w d P U s B) : w.cell? ⟨d, 5, none⟩ = some (.pointer (some ⟨B.lb, 0, none⟩)) := cell_of_row w d 5 _ _ _ h.dev
theorem HX.c6 (h : HX w d P U s B) : w.cell? ⟨d, 6, none⟩ = some (.pointer (some ⟨B.db, 0, none⟩)) := cell_of_row w d 6 _ _ _ h.dev
theorem HX.c7 (h : HX w d P U s B) : w.cell? ⟨d, 7, none⟩ = some (.pointer (some ⟨B.vb, 0, none⟩)) := cell_of_row w d 7 _ _ _ h.dev
theorem HX.c8 (h : HX w d P U s B) : w.cell? ⟨d, 8, none⟩ = some (.int .i64 (s.st : Nat)) := cell_of_row w d 8 _ _ _ h.dev
theorem HX.c9 (h : HX w d P U s B) : w.cell? ⟨d, 9, none⟩ = some (.int .u32 (s.ss : Nat)) := cell_of_row w d 9 _ _ _ h.dev
theorem HX.c10 (h : HX w d P U s B) : w.cell? ⟨d, 10, none⟩ = some (.int .u32 (s.nm : Nat)) := cell_of_row w d 10 _ _ _ h.dev
theorem HX.c11 (h : HX w d P U s B) : w.cell? ⟨d, 11, none⟩ = some (.int .u32 (s.sn : Nat)) := cell_of_row w d 11 _ _ _ h.dev
theorem HX.c12 (h : HX w d P U s B) : w.cell? ⟨d, 12, none⟩ = some (.bool s.wt) := cell_of_row w d 12 _ _ _ h.dev
theorem HX.c13 (h : HX w d P U s B) : w.cell? ⟨d, 13, none⟩ = some (.int .i64 (s.ms : Nat)) := cell_of_row w d 13 _ _ _ h.dev
theorem HX.c14 (h : HX w d P U s B) : w.cell? ⟨d, 14, none⟩ = some B.av := cell_of_row w d 14 _ _ _ h.dev
theorem HX.c15 (h : HX w d P U s B) : w.cell? ⟨d, 15, none⟩ = some (.bool s.hd) := cell_of_row w d 15 _ _ _ h.dev
theorem HX.fz (h : HX w d P U s B) (j : Nat) : w.frozen? ⟨d, j, none⟩ = false := frozen_of_row w d j _ _ h.dev
end
end Go.Proofs.YtndjepeolamedaaGreat
namespace Go.Proofs.YtndjepeolamedaaGreat
set_option maxRecDepth 100000
open Go.RowKit
theorem HV.below {w w' : World} {d : Nat} {P : Pm} {U : List Nat} {s : Sh} (h : HV w d P U s) (hb : Below w.heap.size w w') : HV w' d P U s := by
  obtain ⟨B, h⟩ := h
  exact ⟨B, h.newd (Off.of_below hb)⟩
theorem HV.ult {w : World} {d : Nat} {P : Pm} {U : List Nat} {s : Sh} (h : HV w d P U s) (k : Nat) (hk : k ∈ U) : k < w.heap.size := by
  obtain ⟨B, h⟩ := h
  exact h.ltU k hk
set_option maxHeartbeats 1600000 in
theorem hbringOn_any (d : Nat) (P : Pm) (U : List Nat) (s : Sh) (w : World) (h : HV w d P U s) :
    Calls Tryz.prog 163 #[.pointer (some ⟨d, 6, none⟩)] w fun e w' => e = .returned (.tuple #[]) ∧ Hid (∃ U', Gr U w U' w' ∧ HV w' d P U' (hon s)) := by
  obtain ⟨B, h⟩ := h
  have e1 : (w.setCell ⟨d, 12, none⟩ (.bool false)).heap[d]? = some (.cells (HVC P B.lb B.db B.vb { s with wt := false } B.av) 147 (0, 0)) := heap_setCell_same _ _ _ _ _ _ h.dev
  have e2 : ((w.setCell ⟨d, 12, none⟩ (.bool false)).setCell ⟨d, 13, none⟩ (.int .i64 0)).heap[d]? = some (.cells (HVC P B.lb B.db B.vb { s with wt := false, ms := 0 } B.av) 147 (0, 0)) := heap_setCell_same _ _ _ _ _ _ e1
  have o1 := (Off.setCell d 12 w (.bool false)).trans (Off.setCell d 13 _ (.int .i64 0))
  have h1 := h.own o1 (s' := { s with wt := false, ms := 0 }) e2 rfl rfl rfl rfl
  have c6 := h.c6
  have c12 := h.c12
  have c13 := h.c13
  have z12 := h.fz 12
  have z13 := h.fz 13
  have H : Hid (_) := And.intro h.kd.2 (And.intro o1 h1)
  clear h h1 o1 e1 e2
  go_enter Tryz.func163, Tryz.ntmps163
  go_wp2_with fail
  refine (wfeed_any _ _ _ _ H.out.2.2.dog).mono ?_
  rintro e w2 ⟨rfl, o2, d2⟩
  have h2 := H.out.2.2.dogd o2 d2
  have c7 := h2.c7
  have H2 : Hid (_) := And.intro (H.out.2.1.more (m := U) (by simp [H.out.1])) (And.intro (o2.more (m := U) (by simp [H.out.2.2.kb.2])) h2)
  clear h2 o2 d2 H c6 c12 c13 z12 z13
  go_wp2_with fail
  refine (vfresh_any _ _ _ _ _ _ H2.out.2.2.val).mono ?_
  rintro e w3 ⟨rfl, h3⟩
  obtain ⟨U', B', g3, x3⟩ := H2.out.2.2.vals h3.out.1 h3.out.2
  have H3 : Hid (∃ U', Gr U w U' w3 ∧ HV w3 d P U' (hon s)) := ⟨U', (Gr.trans (Gr.trans ⟨H2.out.1, fun _ h => .inl h⟩ ⟨H2.out.2.1, fun _ h => .inl h⟩) g3), B', x3⟩
  clear H2 h3 g3 x3 c7
  go_wp2_with fail
  go_end0
  exact ⟨rfl, H3⟩
set_option maxHeartbeats 1600000 in
theorem hleave_any (d : Nat) (P : Pm) (U : List Nat) (s : Sh) (k : Nat) (w : World) (h : HV w d P U s) :
    Calls Tryz.prog 195 #[.pointer (some ⟨d, 6, none⟩), .int .i64 (k : Nat)] w fun e w' => e = .returned (.tuple #[]) ∧ Hid (∃ U', Gr U w U' w' ∧ HV w' d P U' (hleave s k)) := by
  obtain ⟨B, h⟩ := h
  have c7 := h.c7
  have H : Hid (_) := h
  clear h
  go_enter Tryz.func195, Tryz.ntmps195
  go_wp2_with fail
  refine (vrun_any _ _ _ _ _ _ _ H.out.val).mono ?_
  rintro e w2 ⟨rfl, h2⟩
  obtain ⟨U', B', g2, x2⟩ := H.out.vals h2.out.1 h2.out.2
  have o7 := Off.setCell d 8 w2 (.int .i64 (k : Nat))
  have x7 := x2.own o7 (s' := hleave s k) (heap_setCell_same _ _ _ _ _ _ x2.dev) rfl rfl rfl rfl
  have H7 : Hid (_) := And.intro (Gr.trans g2 (Gr.same o7 (by simp [x2.kd.2]))) x7
  have c8 := x2.c8
  have z8 := x2.fz 8
  clear H h2 g2 x2 o7 x7 c7
  go_wp2_with fail
  go_end0
  exact ⟨rfl, _, H7.out.1, _, H7.out.2⟩
set_option maxHeartbeats 1600000 in
theorem hgive_any (d : Nat) (P : Pm) (U : List Nat) (s : Sh) (w : World) (h : HV w d P U s) :
    Calls Tryz.prog 146 #[.pointer (some ⟨d, 6, none⟩)] w fun e w' => e = .returned (.tuple #[]) ∧ Hid (∃ U', Gr U w U' w' ∧ HV w' d P U' (hgive s)) := by
  have q := hleave_any d P U s 1 w h
  clear h
  go_enter Tryz.func146, Tryz.ntmps146
  go_wp2_with fail
  refine q.mono ?_
  rintro e w2 ⟨rfl, h2⟩
  obtain ⟨U2, g2, B2, x2⟩ := h2.out
  have e1 : (w2.setCell ⟨d, 10, none⟩ (.int .u32 0)).heap[d]? = some (.cells (HVC P B2.lb B2.db B2.vb { hleave s 1 with nm := 0 } B2.av) 147 (0, 0)) := heap_setCell_same _ _ _ _ _ _ x2.dev
  have e2 : ((w2.setCell ⟨d, 10, none⟩ (.int .u32 0)).setCell ⟨d, 11, none⟩ (.int .u32 0)).heap[d]? = some (.cells (HVC P B2.lb B2.db B2.vb { hleave s 1 with nm := 0, sn := 0 } B2.av) 147 (0, 0)) := heap_setCell_same _ _ _ _ _ _ e1
  have e3 : (((w2.setCell ⟨d, 10, none⟩ (.int .u32 0)).setCell ⟨d, 11, none⟩ (.int .u32 0)).setCell ⟨d, 12, none⟩ (.bool false)).heap[d]? = some (.cells (HVC P B2.lb B2.db B2.vb { hleave s 1 with nm := 0, sn := 0, wt := false } B2.av) 147 (0, 0)) := heap_setCell_same _ _ _ _ _ _ e2
  have e4 : ((((w2.setCell ⟨d, 10, none⟩ (.int .u32 0)).setCell ⟨d, 11, none⟩ (.int .u32 0)).setCell ⟨d, 12, none⟩ (.bool false)).setCell ⟨d, 13, none⟩ (.int .i64 0)).heap[d]? = some (.cells (HVC P B2.lb B2.db B2.vb (hgive s) B2.av) 147 (0, 0)) := heap_setCell_same _ _ _ _ _ _ e3
  have o4 := (((Off.setCell d 10 w2 (.int .u32 0)).trans (Off.setCell d 11 _ (.int .u32 0))).trans (Off.setCell d 12 _ (.bool false))).trans (Off.setCell d 13 _ (.int .i64 0))
  have x4 := x2.own o4 (s' := hgive s) e4 rfl rfl rfl rfl
  have H4 : Hid (_) := And.intro (Gr.trans g2 (Gr.same o4 (by simp [x2.kd.2]))) x4
  have c10 := x2.c10
  have c11 := x2.c11
  have c12 := x2.c12
  have c13 := x2.c13
  have z10 := x2.fz 10
  have z11 := x2.fz 11
  have z12 := x2.fz 12
  have z13 := x2.fz 13
  clear q h2 g2 x2 o4 x4 e1 e2 e3 e4
  go_wp2_with fail
  go_end0
  exact ⟨rfl, _, H4.out.1, _, H4.out.2⟩
set_option maxHeartbeats 1600000 in
theorem hnote_any (d : Nat) (P : Pm) (U : List Nat) (s : Sh) (x : Int) (w : World) (h : HV w d P U s) (hx : x ≠ 0) (hw : (Lit.int .i64 x).wf = true) (hL : s.L.length < 900000) :
    Calls Tryz.prog 101 #[.pointer (some ⟨d, 0, none⟩), .int .i64 x] w fun e w' => e = .returned (.tuple #[]) ∧ Hid (∃ U', Gr U w U' w' ∧ HV w' d P U' (hnote s x)) := by
  obtain ⟨B, h⟩ := h
  have hd := h.newd (Off.drew [] w)
  have hC := dnote_any B.lb B.Ul s.L x (s.ss : Nat) (s.nm : Nat) w.drew hd.log (by omega) hw hx
  have c5 := h.c5
  have c9 := h.c9
  have c10 := h.c10
  have H : Hid (_) := hd
  clear h hd
  go_enter Tryz.func101, Tryz.ntmps101
  go_wp2_with fail
  go_region_with (go_at_call 122; refine hC.mono ?_; rintro e w2 ⟨rfl, h2⟩)
  all_goals
    obtain ⟨V, o2, L2, hV⟩ := h2.out
    obtain ⟨U', B', g3, x3⟩ := H.out.logd o2 L2 hV
    have H3 : Hid (∃ U', Gr U w U' w2 ∧ HV w2 d P U' (hnote s x)) := ⟨U', Gr.trans (Gr.same (Off.drew [] w) (by simp)) g3, B', x3⟩
    clear hC H h2 o2 L2 hV g3 x3
    go_wp2_with fail
    go_end0
    exact ⟨rfl, H3⟩
set_option maxHeartbeats 1600000 in
theorem hlatch_any (d : Nat) (P : Pm) (U : List Nat) (s : Sh) (x : Int) (w : World) (h : HV w d P U s) (hx : x ≠ 0) (hw : (Lit.int .i64 x).wf = true) (hL : s.L.length < 900000) :
    Calls Tryz.prog 145 #[.pointer (some ⟨d, 0, none⟩), .int .i64 x] w fun e w' => e = .returned (.tuple #[]) ∧ Hid (∃ U', Gr U w U' w' ∧ HV w' d P U' (hlatch s x)) := by
  obtain ⟨B, h⟩ := h
  have c7 := h.c7
  have H : Hid (_) := h
  clear h
  unfold hlatch
  by_cases ht : vtripB s.v x = true
  · rw [if_pos ht]
    go_enter Tryz.func145, Tryz.ntmps145
    go_wp2_with fail
    refine (vtrip_any _ _ _ _ _ _ _ H.out.val).mono ?_
    rintro e w2 ⟨rfl, h2⟩
    rw [ht]
    obtain ⟨U', B', g2, x2⟩ := H.out.vals h2.out.1 h2.out.2
    have hN := hnote_any d P U' { s with v := vtrip s.v x } x w2 ⟨B', x2⟩ hx hw hL
    have H2 : Hid (_) := g2
    clear H h2 g2 x2 c7
    go_wp2_with (go_at_call 101; refine hN.mono ?_; rintro e w3 ⟨rfl, h3⟩)
    go_end0
    obtain ⟨U3, g3, x3⟩ := h3.out
    exact ⟨rfl, U3, H2.out.trans g3, x3⟩
  · rw [if_neg ht]
    have ht' : vtripB s.v x = false := by simpa using ht
    go_enter Tryz.func145, Tryz.ntmps145
    go_wp2_with fail
    refine (vtrip_any _ _ _ _ _ _ _ H.out.val).mono ?_
    rintro e w2 ⟨rfl, h2⟩
    rw [ht']
    obtain ⟨U', B', g2, x2⟩ := H.out.vals h2.out.1 h2.out.2
    have H2 : Hid (_) := And.intro g2 x2
    clear H h2 g2 x2 c7
    go_wp2_with fail
    go_end0
    exact ⟨rfl, U', H2.out.1, B', H2.out.2⟩
set_option maxHeartbeats 1600000 in
theorem hexh_any (d : Nat) (P : Pm) (U : List Nat) (s : Sh) (w : World) (h : HV w d P U s) (hL : s.L.length < 900000) :
    Calls Tryz.prog 166 #[.pointer (some ⟨d, 0, none⟩)] w fun e w' => e = .returned (.tuple #[]) ∧ Hid (∃ U', Gr U w U' w' ∧ HV w' d P U' (hexh s)) := by
  have hT := hlatch_any d P U s 80 w h (by omega) (by decide) hL
  clear h hL
  go_enter Tryz.func166, Tryz.ntmps166
  go_wp2_with fail
  refine hT.mono ?_
  rintro e w2 ⟨rfl, h2⟩
  obtain ⟨U2, g2, x2⟩ := h2.out
  have hV := hleave_any d P U2 _ 5 w2 x2
  have H2 : Hid (_) := g2
  clear hT h2 g2 x2
  go_wp2_with fail
  refine hV.mono ?_
  rintro e w3 ⟨rfl, h3⟩
  clear hV
  go_wp2_with fail
  go_end0
  obtain ⟨U3, g3, x3⟩ := h3.out
  exact ⟨rfl, U3, H2.out.trans g3, x3⟩
set_option maxHeartbeats 3200000 in
theorem hflags_any (d : Nat) (P : Pm) (U : List Nat) (s : Sh) (w : World) (h : HV w d P U s) :
    Calls Tryz.prog 198 #[.pointer (some ⟨d, 6, none⟩)] w fun e w' => e = .returned (.int .i64 (hflags s : Nat)) ∧ Below w.heap.size w w' := by
  obtain ⟨B, h⟩ := h
  have c7 := h.c7
  have c15 := h.c15
  have H : Hid (_) := h
  clear h
  unfold hflags
  cases h1 : von s.v <;> cases h2 : vreq s.v <;> by_cases h3 : s.v.lat = 0 <;> cases h4 : s.hd
  all_goals
    rw [h4] at c15
    go_enter Tryz.func198, Tryz.ntmps198
    go_wp2_with fail
    refine (vout_any _ _ _ _ _ _ H.out.val).mono ?_
    rintro e w2 ⟨v2, rfl, h5⟩
    rw [h1]
    have hb := h5.out.2
    have x2 := H.out.newd (Off.of_below hb)
    have e7 := x2.c7
    have e15 := x2.c15
    have q1 := vreq_any _ _ _ _ _ _ x2.val
    have q2 := vlat_any _ _ _ _ _ _ x2.val
    rw [h2] at q1
    rw [h4] at e15
    first
      | rw [h3] at q2
      | skip
    have HB : Hid (_) := hb
    clear H h5 hb x2 c7 c15
    go_wp2_with (first | (go_at_call 65; refine q1.mono ?_; rintro e w' ⟨rfl, hw⟩; have hw := hw.symm; subst hw) | (go_at_call 64; refine q2.mono ?_; rintro e w' ⟨rfl, hw⟩; have hw := hw.symm; subst hw))
    go_ret
    exact ⟨by first | rfl | (simp [h3]; done) | (simp [h3]; rfl), HB.out⟩
end Go.Proofs.YtndjepeolamedaaGreat
namespace Go.Proofs.YtndjepeolamedaaGreat
set_option maxRecDepth 100000
open Go.RowKit
section
variable {w w' : World} {d : Nat} {P : Pm} {U l : List Nat} {s : Sh} {B : Bh}
theorem HX.off (h : HX w d P U s B) (q : Off l w w') (hl : ∀ k, k ∈ U → k ∉ l) : HX w' d P U s B :=
  ⟨(q.block d h.dlt (hl _ h.kd.2)).trans h.dev, h.dog.off q (hl _ h.kb.2), h.val.off q (hl _ h.kv.2) (hl _ h.kw.2) (fun k hk hM => hl k (h.kM k hM).2 hk), h.log.off q (fun k hk => hl _ (h.kl k hk).2), own_offk h.app q (fun k hk => hl _ (h.ka k hk).2), h.apb, fun k hk => Nat.lt_of_lt_of_le (h.ltU k hk) q.size, h.kd, h.kb, h.kv, h.kw, h.kM, h.kl, h.ka, h.pok⟩
theorem HX.apf (h : HX w d P U s B) {a : Option Addr} {len cap : Nat} (e : B.av = .slice a len cap) (y : Addr) (hy : a = some y) : y.block ∈ U ∧ y.block ≠ d := by
  have hk := h.ka y.block (by rw [e, hy]; rfl)
  exact ⟨hk.2, fun q => by have := hk.1; rw [q, h.kd.1] at this; omega⟩
theorem HV.off (h : HV w d P U s) (q : Off l w w') (hl : ∀ k, k ∈ U → k ∉ l) : HV w' d P U s := by
  obtain ⟨B, h⟩ := h
  exact ⟨B, h.off q hl⟩
end
theorem Gr.new_ {U U1 : List Nat} {w w1 w2 : World} {b : Nat} (h : Gr U w U1 w1) (q : Off [b] w1 w2) (hb : w.heap.size ≤ b) : Gr U w U1 w2 :=
  ⟨⟨q.os.trans h.off.os, q.tape.trans h.off.tape, q.output.trans h.off.output, Nat.le_trans h.off.size q.size, fun k hk hn => (q.block k (Nat.lt_of_lt_of_le hk h.off.size) (by simp; omega)).trans (h.off.block k hk hn)⟩, h.new⟩
theorem hsixO (b : Nat) (w : World) (x0 x1 x2 x3 x4 x5 : Value) :
    Off [b] w ((((((w.setCell ⟨b, 0, none⟩ x0).setCell ⟨b, 1, none⟩ x1).setCell ⟨b, 2, none⟩ x2).setCell ⟨b, 3, none⟩ x3).setCell ⟨b, 4, none⟩ x4).setCell ⟨b, 5, none⟩ x5) :=
  (((((Off.setCell b 0 w x0).trans (Off.setCell b 1 _ x1)).trans (Off.setCell b 2 _ x2)).trans (Off.setCell b 3 _ x3)).trans (Off.setCell b 4 _ x4)).trans (Off.setCell b 5 _ x5)
structure Un (U : List Nat) (w w' : World) (d : Nat) (P : Pm) (s : Sh) (f : Fm) (k ss num fl : Nat) (a : Option Addr) (len cap : Nat) (bs : Nat → Nat) : Prop where
  hv : ∃ U', Gr U w U' w' ∧ HV w' d P U' s ∧ ∀ y, a = some y → y.block ≠ d ∧ (y.block ∈ U' ∨ w.heap.size ≤ y.block) ∧ y.block < w'.heap.size
  fm : f = encF k P.c ss num fl len bs
  row : Row8 w' a len cap bs
def zU : Array Value := #[.int .i64 0, .int .u32 0, .int .u32 0, .int .u32 0, .int .i64 0, .slice none 0 0]
theorem hsix_cell {w2 : World} {g b o : Nat} {x : Value} (h : w2.cell? ⟨b, o, none⟩ = some x) (hne : ¬ b = g) (v0 v1 v2 v3 v4 v5 : Value) :
    ((((((w2.setCell ⟨g, 0, none⟩ v0).setCell ⟨g, 1, none⟩ v1).setCell ⟨g, 2, none⟩ v2).setCell ⟨g, 3, none⟩ v3).setCell ⟨g, 4, none⟩ v4).setCell ⟨g, 5, none⟩ v5).cell? ⟨b, o, none⟩ = some x := by
  have hg : g ≠ b := fun e => hne e.symm
  rw [World.cell?_setCell_far _ _ _ _ hg, World.cell?_setCell_far _ _ _ _ hg, World.cell?_setCell_far _ _ _ _ hg, World.cell?_setCell_far _ _ _ _ hg, World.cell?_setCell_far _ _ _ _ hg, World.cell?_setCell_far _ _ _ _ hg]
  exact h
theorem hsixR {w : World} {b : Nat} {t : TypeId} (x0 x1 x2 x3 x4 x5 : Value) {y0 y1 y2 y3 y4 y5 : Value} (e : w.heap[b]? = some (.cells #[y0, y1, y2, y3, y4, y5] t (0, 0))) :
    ((((((w.setCell ⟨b, 0, none⟩ x0).setCell ⟨b, 1, none⟩ x1).setCell ⟨b, 2, none⟩ x2).setCell ⟨b, 3, none⟩ x3).setCell ⟨b, 4, none⟩ x4).setCell ⟨b, 5, none⟩ x5).heap[b]? = some (.cells #[x0, x1, x2, x3, x4, x5] t (0, 0)) := by
  have e0 : (w.setCell ⟨b, 0, none⟩ x0).heap[b]? = some (.cells #[x0, y1, y2, y3, y4, y5] t (0, 0)) := heap_setCell_same _ _ _ _ _ _ e
  have e1 : ((w.setCell ⟨b, 0, none⟩ x0).setCell ⟨b, 1, none⟩ x1).heap[b]? = some (.cells #[x0, x1, y2, y3, y4, y5] t (0, 0)) := heap_setCell_same _ _ _ _ _ _ e0
  have e2 : (((w.setCell ⟨b, 0, none⟩ x0).setCell ⟨b, 1, none⟩ x1).setCell ⟨b, 2, none⟩ x2).heap[b]? = some (.cells #[x0, x1, x2, y3, y4, y5] t (0, 0)) := heap_setCell_same _ _ _ _ _ _ e1
  have e3 : ((((w.setCell ⟨b, 0, none⟩ x0).setCell ⟨b, 1, none⟩ x1).setCell ⟨b, 2, none⟩ x2).setCell ⟨b, 3, none⟩ x3).heap[b]? = some (.cells #[x0, x1, x2, x3, y4, y5] t (0, 0)) := heap_setCell_same _ _ _ _ _ _ e2
  have e4 : (((((w.setCell ⟨b, 0, none⟩ x0).setCell ⟨b, 1, none⟩ x1).setCell ⟨b, 2, none⟩ x2).setCell ⟨b, 3, none⟩ x3).setCell ⟨b, 4, none⟩ x4).heap[b]? = some (.cells #[x0, x1, x2, x3, x4, y5] t (0, 0)) := heap_setCell_same _ _ _ _ _ _ e3
  have e5 : ((((((w.setCell ⟨b, 0, none⟩ x0).setCell ⟨b, 1, none⟩ x1).setCell ⟨b, 2, none⟩ x2).setCell ⟨b, 3, none⟩ x3).setCell ⟨b, 4, none⟩ x4).setCell ⟨b, 5, none⟩ x5).heap[b]? = some (.cells #[x0, x1, x2, x3, x4, x5] t (0, 0)) := heap_setCell_same _ _ _ _ _ _ e4
  exact e5
theorem hsixC {w : World} {b : Nat} (e : w.heap[b]? = some (.cells zU 67 (0, 0))) :
    (w.cell? ⟨b, 0, none⟩ = some (.int .i64 0) ∧ w.cell? ⟨b, 1, none⟩ = some (.int .u32 0) ∧ w.cell? ⟨b, 2, none⟩ = some (.int .u32 0) ∧ w.cell? ⟨b, 3, none⟩ = some (.int .u32 0) ∧ w.cell? ⟨b, 4, none⟩ = some (.int .i64 0) ∧ w.cell? ⟨b, 5, none⟩ = some (.slice none 0 0)) ∧ ∀ j, w.frozen? ⟨b, j, none⟩ = false :=
  ⟨⟨cell_of_row w b 0 _ _ _ e, cell_of_row w b 1 _ _ _ e, cell_of_row w b 2 _ _ _ e, cell_of_row w b 3 _ _ _ e, cell_of_row w b 4 _ _ _ e, cell_of_row w b 5 _ _ _ e⟩, fun j => frozen_of_row w b j _ _ e⟩
set_option maxHeartbeats 1600000 in
theorem hsig_any (d : Nat) (P : Pm) (U : List Nat) (s : Sh) (w : World) (h : HV w d P U s) :
    Calls Tryz.prog 147 #[.pointer (some ⟨d, 0, none⟩)] w fun e w' => ∃ g, e = .returned (.slice (some ⟨g, 0, none⟩) 4 4) ∧ Hid (Row8 w' (some ⟨g, 0, none⟩) 4 4 (dsg P) ∧ (w.heap.size ≤ g ∧ g < w'.heap.size) ∧ Below w.heap.size w w') := by
  unfold dsg
  obtain ⟨B, h0⟩ := h
  have c0 := h0.c0
  have c1 := h0.c1
  have c2 := h0.c2
  have c3 := h0.c3
  have c4 := h0.c4
  have hG := psig_good P.c P.o P.i P.t P.n w h0.pok.c h0.pok.n h0.pok.ok
  have K0 := PM.K_lt (pe P.c P.o P.i P.t P.n) 14
  clear h0
  generalize PM.K (pe P.c P.o P.i P.t P.n) 14 = KK at *
  go_enter Tryz.func147, Tryz.ntmps147
  go_wp2_with fail
  refine hG.mono ?_
  rintro e w2 ⟨rfl, b2⟩
  have hr := row4P w2 KK K0
  have hB := bytes4_any KK w2 K0
  have b3 : Below w2.heap.size w2 (w2.alloc (.cells #[.int .u8 ((KK : Nat) / 16777216 : Int), .int .u8 ((KK : Nat) / 65536 % 256 : Int), .int .u8 ((KK : Nat) / 256 % 256 : Int), .int .u8 ((KK : Nat) % 256 : Int)] 5)) := (Below.refl _ _).alloc (Nat.le_refl _) _
  have b4 := b2.trans (b3.mono b2.size)
  have l3 : w2.heap.size < (w2.alloc (.cells #[.int .u8 ((KK : Nat) / 16777216 : Int), .int .u8 ((KK : Nat) / 65536 % 256 : Int), .int .u8 ((KK : Nat) / 256 % 256 : Int), .int .u8 ((KK : Nat) % 256 : Int)] 5)).heap.size := by rw [World.size_alloc]; omega
  have HB : Hid (_) := And.intro hr (And.intro (And.intro b2.size l3) b4)
  clear hG b2 b3 b4 l3 hr K0 c0 c1 c2 c3 c4
  go_wp2_with fail
  refine hB.mono ?_
  rintro e w3 ⟨rfl, rfl⟩
  clear hB
  go_wp2_with fail
  go_ret
  exact ⟨_, rfl, HB⟩
set_option maxHeartbeats 6400000 in
theorem hdata_last (d : Nat) (P : Pm) (U : List Nat) (s : Sh) (w : World) (h : HV w d P U s) (hsn : s.sn + 1 < 4294967296) (hL : s.L.length < 800000) (h1 : s.st ≠ 1) (h2 : s.st ≠ 2) (h3 : s.st ≠ 3) (hn : s.sn + 1 = P.n) :
    Calls Tryz.prog 148 #[.pointer (some ⟨d, 0, none⟩)] w fun e w' => ∃ k ss num fl a len cap bs, e = .returned (.agg #[.int .i64 ((k : Nat) : Int), .int .u32 0, .int .u32 ((ss : Nat) : Int), .int .u32 ((num : Nat) : Int), .int .i64 ((fl : Nat) : Int), .slice a len cap]) ∧ Hid (Un U w w' d P (hnext P s).1 (hnext P s).2 k ss num fl a len cap bs) := by
  have hN : hnext P s = if s.sn + 1 = P.n then (hexh { s with sn := s.sn + 1 }, encF 5 P.c s.ss (s.sn + 1) 0 0 (fun _ => 0)) else ({ s with sn := s.sn + 1 }, encF 4 P.c s.ss (s.sn + 1) (hflags s) P.o s.ap) := by
    unfold hnext
    rw [if_neg h1, if_neg h2, if_neg h3]
  rw [hN]
  clear hN h1 h2 h3
  have hb0 : Below w.heap.size w (w.alloc (.cells zU 67)) := (Below.refl _ _).alloc (Nat.le_refl _) _
  have hx0 := heap_alloc_new w (.cells zU 67)
  have hs0 : w.heap.size < (w.alloc (.cells zU 67)).heap.size := by simp
  have hU : w.heap.size ∉ U := fun hm => by have := HV.ult h _ hm; omega
  obtain ⟨B, x0⟩ := HV.below h hb0
  obtain ⟨sn1, hs1⟩ : ∃ k, s.sn + 1 = k := ⟨_, rfl⟩
  have hw : IntKind.u32.wrap ((s.sn : Int) + 1) = (sn1 : Int) := by rw [IntKind.wrap_u32]; omega
  have hm : ((s.sn : Int) + 1) % 4294967296 = (sn1 : Int) := by omega
  have c11 := x0.c11
  have f11 := x0.fz 11
  have o1 := Off.setCell d 11 (w.alloc (.cells zU 67)) (.int .u32 (sn1 : Nat))
  have x1 := x0.own o1 (s' := { s with sn := sn1 }) (heap_setCell_same _ _ _ _ _ _ x0.dev) rfl rfl rfl rfl
  have g1 := (Gr.below (U := U) hb0).trans (Gr.same (U := U) o1 (by simp [x0.kd.2]))
  have hdn : ¬ d = w.heap.size := fun e => hU (by rw [← e]; exact x0.kd.2)
  have hdn' : ¬ w.heap.size = d := fun e => hdn e.symm
  have e1 := (o1.block w.heap.size hs0 (by simpa using hdn')).trans hx0
  have l1 : w.heap.size < ((w.alloc (.cells zU 67)).setCell ⟨d, 11, none⟩ (.int .u32 (sn1 : Nat))).heap.size := Nat.lt_of_lt_of_le hs0 o1.size
  have H1 : Hid (_) := And.intro x1 (And.intro g1 (And.intro e1 (And.intro l1 (And.intro hU hL))))
  rw [hs1] at hn ⊢
  clear h hb0 hx0 hs0 x0 o1 x1 g1 e1 l1 hU hL hs1 hsn
  unfold zU at *
  rw [if_pos hn]
  subst hn
  go_enter Tryz.func148, Tryz.ntmps148
  go_wp2_with fail
  generalize hw1 : (w.alloc (.cells #[.int .i64 0, .int .u32 0, .int .u32 0, .int .u32 0, .int .i64 0, .slice none 0 0] 67)).setCell ⟨d, 11, none⟩ (.int .u32 (P.n : Int)) = w1 at *
  clear hw1 c11 f11 hw hm
  have c11 : w1.cell? ⟨d, 11, none⟩ = some (.int .u32 (P.n : Nat)) := H1.out.1.c11
  have c4 := H1.out.1.c4
  go_quiet (fail)
  go_wp2_with fail
  have x2 := H1.out.1.newd (Off.drewN [] w1 nq)
  have hE := hexh_any d P U { s with sn := P.n } _ ⟨B, x2⟩ (by have := H1.out.2.2.2.2.2; show s.L.length < _; omega)
  clear x2 c4 c11
  go_wp2_with fail
  refine hE.mono ?_
  rintro e w3 ⟨rfl, h3⟩
  obtain ⟨U3, g3, B3, x3⟩ := h3.out
  obtain ⟨x1, g1, e1, l1, hU, hL⟩ := H1.out
  have G3 : Gr U w1 U3 w3 := (Gr.same (l := []) (Off.drewN [] w1 nq) (by simp)).trans g3
  have e3 := (G3.far ⟨l1, hU⟩).2.trans e1
  have hU3 := (G3.far ⟨l1, hU⟩).1
  obtain ⟨⟨q0, q1, q2, q3, q4, q5⟩, fz⟩ := hsixC e3
  have f0 := fz 0
  have f1 := fz 1
  have f2 := fz 2
  have f3 := fz 3
  have f4 := fz 4
  have f5 := fz 5
  have c9 : w3.cell? ⟨d, 9, none⟩ = some (.int .u32 (s.ss : Nat)) := by
    have h9 := x3.c9
    rw [show (hexh { s with sn := P.n }).ss = s.ss from by unfold hexh hleave hlatch hnote; split <;> rfl] at h9
    exact h9
  have c11 : w3.cell? ⟨d, 11, none⟩ = some (.int .u32 (P.n : Nat)) := by
    have h11 := x3.c11
    rw [show (hexh { s with sn := P.n }).sn = P.n from by unfold hexh hleave hlatch hnote; split <;> rfl] at h11
    exact h11
  have H3 : Hid (_) := And.intro (g1.trans G3) (And.intro x3 hU3)
  clear hE h3 g3 x3 x1 g1 e1 l1 hU hL G3 hU3 fz H1
  go_wp2_with fail
  have HS : w3.drew.cell? ⟨d, 9, none⟩ = some (Value.int .u32 (s.ss : Nat)) ∧ w3.drew.cell? ⟨d, 11, none⟩ = some (Value.int .u32 (P.n : Nat)) := ⟨c9, c11⟩
  have HT := HS
  have H3e : Hid (w3.drew.heap[w.heap.size]? = _) := e3
  clear e3
  refine wp_region_held_drew (S := fun w' => w'.cell? ⟨d, 9, none⟩ = some (Value.int .u32 (s.ss : Nat)) ∧ w'.cell? ⟨d, 11, none⟩ = some (Value.int .u32 (P.n : Nat))) (by kernel_rfl) HS (fun _ => ?_)
  refine held_at (a' := { tmps := #[Value.pointer (some ⟨d, 0, none⟩), undef, Value.pointer (some ⟨w.heap.size, 0, none⟩), Value.pointer (some ⟨d, 0, none⟩), Value.pointer (some ⟨d, 0, none⟩), Value.pointer (some ⟨d, 6, none⟩), Value.pointer (some ⟨d, 11, none⟩), Value.int .u32 (s.sn : Nat), Value.int .u32 (P.n : Nat), Value.pointer (some ⟨d, 0, none⟩), Value.pointer (some ⟨d, 6, none⟩), Value.pointer (some ⟨d, 11, none⟩), Value.pointer (some ⟨d, 0, none⟩), Value.pointer (some ⟨d, 0, none⟩), Value.pointer (some ⟨d, 6, none⟩), Value.pointer (some ⟨d, 11, none⟩), Value.int .u32 (P.n : Nat), Value.pointer (some ⟨d, 0, none⟩), Value.pointer (some ⟨d, 0, none⟩), Value.pointer (some ⟨d, 0, none⟩), Value.pointer (some ⟨d, 4, none⟩), Value.int .u32 (P.n : Nat), Value.bool true, Value.pointer (some ⟨d, 0, none⟩), Value.tuple #[], undef, undef, undef, undef, undef, undef, undef, undef, undef, undef, undef, undef, undef, undef, undef, undef, undef, undef, undef, undef, undef, undef, undef, undef, undef, undef, undef, undef, undef, undef, undef], defers := [] }) (l' := #[false, false, false, false, false, false, false, false, false, false, false, false]) (by kernel_rfl) (by kernel_rfl) ?_
  refine wpAnyH_take (i := 0) (v := Value.pointer (some ⟨d, 0, none⟩)) rfl (by kernel_rfl) (by kernel_rfl) (by kernel_rfl) (fun _ _ _ h => h) (Or.inl ⟨by kernel_rfl, fun w hSw => by go_simp⟩) (by assumption) ?_
  refine wpAnyH_take (i := 1) (v := Value.pointer (some ⟨d, 0, none⟩)) rfl (by kernel_rfl) (by kernel_rfl) (by kernel_rfl) (fun _ _ _ h => h) (Or.inl ⟨by kernel_rfl, fun w hSw => by go_simp⟩) (by assumption) ?_
  refine wpAnyH_take (i := 2) (v := Value.pointer (some ⟨d, 6, none⟩)) rfl (by kernel_rfl) (by kernel_rfl) (by kernel_rfl) (fun _ _ _ h => h) (Or.inl ⟨by kernel_rfl, fun w hSw => by go_simp⟩) (by assumption) ?_
  refine wpAnyH_take (i := 3) (v := Value.pointer (some ⟨d, 9, none⟩)) rfl (by kernel_rfl) (by kernel_rfl) (by kernel_rfl) (fun _ _ _ h => h) (Or.inl ⟨by kernel_rfl, fun w hSw => by go_simp⟩) (by assumption) ?_
  refine wpAnyH_take (i := 4) (v := Value.int .u32 (s.ss : Nat)) rfl (by kernel_rfl) (by kernel_rfl) (by kernel_rfl) (fun _ _ _ h => h) (Or.inl ⟨by kernel_rfl, fun w hSw => by go_simp⟩) (by assumption) ?_
  refine wpAnyH_take (i := 5) (v := Value.pointer (some ⟨d, 0, none⟩)) rfl (by kernel_rfl) (by kernel_rfl) (by kernel_rfl) (fun _ _ _ h => h) (Or.inl ⟨by kernel_rfl, fun w hSw => by go_simp⟩) (by assumption) ?_
  refine wpAnyH_take (i := 6) (v := Value.pointer (some ⟨d, 0, none⟩)) rfl (by kernel_rfl) (by kernel_rfl) (by kernel_rfl) (fun _ _ _ h => h) (Or.inl ⟨by kernel_rfl, fun w hSw => by go_simp⟩) (by assumption) ?_
  refine wpAnyH_take (i := 7) (v := Value.pointer (some ⟨d, 6, none⟩)) rfl (by kernel_rfl) (by kernel_rfl) (by kernel_rfl) (fun _ _ _ h => h) (Or.inl ⟨by kernel_rfl, fun w hSw => by go_simp⟩) (by assumption) ?_
  refine wpAnyH_take (i := 8) (v := Value.pointer (some ⟨d, 11, none⟩)) rfl (by kernel_rfl) (by kernel_rfl) (by kernel_rfl) (fun _ _ _ h => h) (Or.inl ⟨by kernel_rfl, fun w hSw => by go_simp⟩) (by assumption) ?_
  refine wpAnyH_take (i := 9) (v := Value.int .u32 (P.n : Nat)) rfl (by kernel_rfl) (by kernel_rfl) (by kernel_rfl) (fun _ _ _ h => h) (Or.inl ⟨by kernel_rfl, fun w hSw => by go_simp⟩) (by assumption) ?_
  refine wpAnyH_take (i := 10) (v := Value.agg #[Value.int .i64 5, Value.int .u32 0, Value.int .u32 (s.ss : Nat), Value.int .u32 (P.n : Nat), Value.int .i64 0, Value.slice none 0 0]) rfl (by kernel_rfl) (by kernel_rfl) (by kernel_rfl) (fun _ _ _ h => h) (Or.inl ⟨by kernel_rfl, fun w hSw => by go_simp⟩) (by assumption) ?_
  refine held_at (a' := { tmps := #[Value.pointer (some ⟨d, 0, none⟩), undef, Value.pointer (some ⟨w.heap.size, 0, none⟩), Value.pointer (some ⟨d, 0, none⟩), Value.pointer (some ⟨d, 0, none⟩), Value.pointer (some ⟨d, 6, none⟩), Value.pointer (some ⟨d, 11, none⟩), Value.int .u32 (s.sn : Nat), Value.int .u32 (P.n : Nat), Value.pointer (some ⟨d, 0, none⟩), Value.pointer (some ⟨d, 6, none⟩), Value.pointer (some ⟨d, 11, none⟩), Value.pointer (some ⟨d, 0, none⟩), Value.pointer (some ⟨d, 0, none⟩), Value.pointer (some ⟨d, 6, none⟩), Value.pointer (some ⟨d, 11, none⟩), Value.int .u32 (P.n : Nat), Value.pointer (some ⟨d, 0, none⟩), Value.pointer (some ⟨d, 0, none⟩), Value.pointer (some ⟨d, 0, none⟩), Value.pointer (some ⟨d, 4, none⟩), Value.int .u32 (P.n : Nat), Value.bool true, Value.pointer (some ⟨d, 0, none⟩), Value.tuple #[], Value.pointer (some ⟨d, 0, none⟩), Value.pointer (some ⟨d, 0, none⟩), Value.pointer (some ⟨d, 6, none⟩), Value.pointer (some ⟨d, 9, none⟩), Value.int .u32 (s.ss : Nat), Value.pointer (some ⟨d, 0, none⟩), Value.pointer (some ⟨d, 0, none⟩), Value.pointer (some ⟨d, 6, none⟩), Value.pointer (some ⟨d, 11, none⟩), Value.int .u32 (P.n : Nat), Value.agg #[Value.int .i64 5, Value.int .u32 0, Value.int .u32 (s.ss : Nat), Value.int .u32 (P.n : Nat), Value.int .i64 0, Value.slice none 0 0], undef, undef, undef, undef, undef, undef, undef, undef, undef, undef, undef, undef, undef, undef, undef, undef, undef, undef, undef, undef], defers := [] }) (l' := #[true, true, true, true, true, true, true, true, true, true, true, false]) (by kernel_rfl) (by kernel_rfl) ?_
  refine held_skip (i := 11) (((((((w3.drew.setCell ⟨w.heap.size, 0, none⟩ (Value.int .i64 5)).setCell ⟨w.heap.size, 1, none⟩ (Value.int .u32 0)).setCell ⟨w.heap.size, 2, none⟩ (Value.int .u32 (s.ss : Nat))).setCell ⟨w.heap.size, 3, none⟩ (Value.int .u32 (P.n : Nat))).setCell ⟨w.heap.size, 4, none⟩ (Value.int .i64 0)).setCell ⟨w.heap.size, 5, none⟩ (Value.slice none 0 0))) (by kernel_rfl) rfl (by kernel_rfl) (by go_simp) ⟨hsix_cell HS.1 hdn _ _ _ _ _ _, hsix_cell HS.2 hdn _ _ _ _ _ _⟩ ?_
  refine held_at (a' := { tmps := #[Value.pointer (some ⟨d, 0, none⟩), undef, Value.pointer (some ⟨w.heap.size, 0, none⟩), Value.pointer (some ⟨d, 0, none⟩), Value.pointer (some ⟨d, 0, none⟩), Value.pointer (some ⟨d, 6, none⟩), Value.pointer (some ⟨d, 11, none⟩), Value.int .u32 (s.sn : Nat), Value.int .u32 (P.n : Nat), Value.pointer (some ⟨d, 0, none⟩), Value.pointer (some ⟨d, 6, none⟩), Value.pointer (some ⟨d, 11, none⟩), Value.pointer (some ⟨d, 0, none⟩), Value.pointer (some ⟨d, 0, none⟩), Value.pointer (some ⟨d, 6, none⟩), Value.pointer (some ⟨d, 11, none⟩), Value.int .u32 (P.n : Nat), Value.pointer (some ⟨d, 0, none⟩), Value.pointer (some ⟨d, 0, none⟩), Value.pointer (some ⟨d, 0, none⟩), Value.pointer (some ⟨d, 4, none⟩), Value.int .u32 (P.n : Nat), Value.bool true, Value.pointer (some ⟨d, 0, none⟩), Value.tuple #[], Value.pointer (some ⟨d, 0, none⟩), Value.pointer (some ⟨d, 0, none⟩), Value.pointer (some ⟨d, 6, none⟩), Value.pointer (some ⟨d, 9, none⟩), Value.int .u32 (s.ss : Nat), Value.pointer (some ⟨d, 0, none⟩), Value.pointer (some ⟨d, 0, none⟩), Value.pointer (some ⟨d, 6, none⟩), Value.pointer (some ⟨d, 11, none⟩), Value.int .u32 (P.n : Nat), Value.agg #[Value.int .i64 5, Value.int .u32 0, Value.int .u32 (s.ss : Nat), Value.int .u32 (P.n : Nat), Value.int .i64 0, Value.slice none 0 0], undef, undef, undef, undef, undef, undef, undef, undef, undef, undef, undef, undef, undef, undef, undef, undef, undef, undef, undef, undef], defers := [] }) (l' := #[true, true, true, true, true, true, true, true, true, true, true, true]) (by kernel_rfl) (by kernel_rfl) ?_
  refine wpAnyH_done (by kernel_rfl) ?_ _
  have e9 := hsixR (Value.int .i64 5) (Value.int .u32 0) (Value.int .u32 (s.ss : Nat)) (Value.int .u32 (P.n : Nat)) (Value.int .i64 0) (Value.slice none 0 0) H3e.out
  have H9 : Hid (_) := hsixO w.heap.size w3.drew (Value.int .i64 5) (Value.int .u32 0) (Value.int .u32 (s.ss : Nat)) (Value.int .u32 (P.n : Nat)) (Value.int .i64 0) (Value.slice none 0 0)
  clear q0 q1 q2 q3 q4 q5 f0 f1 f2 f3 f4 f5 HS HT
  generalize ((((((w3.drew.setCell ⟨w.heap.size, 0, none⟩ (Value.int .i64 5)).setCell ⟨w.heap.size, 1, none⟩ (Value.int .u32 0)).setCell ⟨w.heap.size, 2, none⟩ (Value.int .u32 (s.ss : Nat))).setCell ⟨w.heap.size, 3, none⟩ (Value.int .u32 (P.n : Nat))).setCell ⟨w.heap.size, 4, none⟩ (Value.int .i64 0)).setCell ⟨w.heap.size, 5, none⟩ (Value.slice none 0 0)) = w9 at *
  have r0 := cell_of_row w9 w.heap.size 0 _ _ _ e9
  have r1 := cell_of_row w9 w.heap.size 1 _ _ _ e9
  have r2 := cell_of_row w9 w.heap.size 2 _ _ _ e9
  have r3 := cell_of_row w9 w.heap.size 3 _ _ _ e9
  have r4 := cell_of_row w9 w.heap.size 4 _ _ _ e9
  have r5 := cell_of_row w9 w.heap.size 5 _ _ _ e9
  clear e9
  go_wp2_with fail
  refine bodyPost_ret (v := .agg #[Value.int .i64 5, Value.int .u32 0, Value.int .u32 (s.ss : Nat), Value.int .u32 (P.n : Nat), Value.int .i64 0, Value.slice none 0 0]) (by simp [results, Tryz.results148, go_sem, r0, r1, r2, r3, r4, r5]) rfl ?_
  have oo := H9.out
  obtain ⟨g3, x3, hU3⟩ := H3.out
  exact ⟨5, s.ss, P.n, 0, none, 0, 0, fun _ => 0, rfl, ⟨U3, (g3.trans (Gr.same (l := []) (Off.drew [] w3) (by simp))).new_ oo (Nat.le_refl _), ⟨B3, (x3.newd (Off.drew [] w3)).off oo (fun k hk hm => by simp at hm; subst hm; exact hU3.2 hk)⟩, fun y hy => by cases hy⟩, rfl, row_nilX _ _⟩
set_option maxHeartbeats 6400000 in
theorem hdata_more (d : Nat) (P : Pm) (U : List Nat) (s : Sh) (w : World) (h : HV w d P U s) (hsn : s.sn + 1 < 4294967296) (hL : s.L.length < 800000) (h1 : s.st ≠ 1) (h2 : s.st ≠ 2) (h3 : s.st ≠ 3) (hn : ¬ s.sn + 1 = P.n) :
    Calls Tryz.prog 148 #[.pointer (some ⟨d, 0, none⟩)] w fun e w' => ∃ k ss num fl a len cap bs, e = .returned (.agg #[.int .i64 ((k : Nat) : Int), .int .u32 0, .int .u32 ((ss : Nat) : Int), .int .u32 ((num : Nat) : Int), .int .i64 ((fl : Nat) : Int), .slice a len cap]) ∧ Hid (Un U w w' d P (hnext P s).1 (hnext P s).2 k ss num fl a len cap bs) := by
  have hN : hnext P s = if s.sn + 1 = P.n then (hexh { s with sn := s.sn + 1 }, encF 5 P.c s.ss (s.sn + 1) 0 0 (fun _ => 0)) else ({ s with sn := s.sn + 1 }, encF 4 P.c s.ss (s.sn + 1) (hflags s) P.o s.ap) := by
    unfold hnext
    rw [if_neg h1, if_neg h2, if_neg h3]
  rw [hN]
  clear hN h1 h2 h3
  have hb0 : Below w.heap.size w (w.alloc (.cells zU 67)) := (Below.refl _ _).alloc (Nat.le_refl _) _
  have hx0 := heap_alloc_new w (.cells zU 67)
  have hs0 : w.heap.size < (w.alloc (.cells zU 67)).heap.size := by simp
  have hU : w.heap.size ∉ U := fun hm => by have := HV.ult h _ hm; omega
  obtain ⟨B, x0⟩ := HV.below h hb0
  obtain ⟨sn1, hs1⟩ : ∃ k, s.sn + 1 = k := ⟨_, rfl⟩
  have hw : IntKind.u32.wrap ((s.sn : Int) + 1) = (sn1 : Int) := by rw [IntKind.wrap_u32]; omega
  have hm : ((s.sn : Int) + 1) % 4294967296 = (sn1 : Int) := by omega
  have c11 := x0.c11
  have f11 := x0.fz 11
  have o1 := Off.setCell d 11 (w.alloc (.cells zU 67)) (.int .u32 (sn1 : Nat))
  have x1 := x0.own o1 (s' := { s with sn := sn1 }) (heap_setCell_same _ _ _ _ _ _ x0.dev) rfl rfl rfl rfl
  have g1 := (Gr.below (U := U) hb0).trans (Gr.same (U := U) o1 (by simp [x0.kd.2]))
  have hdn : ¬ d = w.heap.size := fun e => hU (by rw [← e]; exact x0.kd.2)
  have hdn' : ¬ w.heap.size = d := fun e => hdn e.symm
  have e1 := (o1.block w.heap.size hs0 (by simpa using hdn')).trans hx0
  have l1 : w.heap.size < ((w.alloc (.cells zU 67)).setCell ⟨d, 11, none⟩ (.int .u32 (sn1 : Nat))).heap.size := Nat.lt_of_lt_of_le hs0 o1.size
  have H1 : Hid (_) := And.intro x1 (And.intro g1 (And.intro e1 (And.intro l1 (And.intro hU hL))))
  rw [hs1] at hn ⊢
  clear h hb0 hx0 hs0 x0 o1 x1 g1 e1 l1 hU hL hs1 hsn
  unfold zU at *
  rw [if_neg hn]
  have HN : Hid (_) := hn
  clear hn
  go_enter Tryz.func148, Tryz.ntmps148
  go_wp2_with fail
  generalize hw1 : (w.alloc (.cells #[.int .i64 0, .int .u32 0, .int .u32 0, .int .u32 0, .int .i64 0, .slice none 0 0] 67)).setCell ⟨d, 11, none⟩ (.int .u32 (sn1 : Int)) = w1 at *
  clear hw1 c11 f11 hw hm
  have c11 : w1.cell? ⟨d, 11, none⟩ = some (.int .u32 (sn1 : Nat)) := H1.out.1.c11
  have c4 := H1.out.1.c4
  have hn' : ((sn1 : Int) == (P.n : Int)) = false := by have h := HN.out; simp; intro e; exact h (by omega)
  go_quiet (fail)
  go_wp2_with fail
  obtain ⟨x1, g1, e1, l1, hU, hL⟩ := H1.out
  have x2 := x1.newd (Off.drewN [] w1 nq)
  have G2 : Gr U w U (w1.drewN nq) := g1.trans (Gr.same (l := []) (Off.drewN [] w1 nq) (by simp))
  have e2 : (w1.drewN nq).heap[w.heap.size]? = _ := ((Off.drewN [] w1 nq).block w.heap.size l1 (by simp)).trans e1
  have l2 : w.heap.size < (w1.drewN nq).heap.size := Nat.lt_of_lt_of_le l1 (Off.drewN [] w1 nq).size
  clear x1 g1 e1 l1 H1 c4 c11 hn'
  generalize w1.drewN nq = w2 at *
  have xd := x2.newd (Off.drew [] w2)
  have hF := hflags_any d P U { s with sn := sn1 } _ ⟨B, xd⟩
  obtain ⟨a5, cap5, hav, r5⟩ := own_row8 xd.app xd.apb
  have hfar : ∀ y, a5 = some y → y.block ∈ U ∧ y.block ≠ d := fun y hy => xd.apf hav y hy
  have ed : w2.drew.heap[w.heap.size]? = _ := e2
  obtain ⟨⟨q0, q1, q2, q3, q4, q5⟩, fz⟩ := hsixC ed
  have HS : w2.drew.cell? ⟨d, 9, none⟩ = some (.int .u32 (s.ss : Nat)) ∧ w2.drew.cell? ⟨d, 11, none⟩ = some (.int .u32 (sn1 : Nat)) ∧ w2.drew.cell? ⟨d, 14, none⟩ = some (.slice a5 P.o cap5) := ⟨xd.c9, xd.c11, by rw [← hav]; exact xd.c14⟩
  have H2 : Hid (_) := And.intro (G2.trans (Gr.same (l := []) (Off.drew [] w2) (by simp))) (And.intro xd (And.intro ed (And.intro l2 (And.intro hU (And.intro r5 hfar)))))
  clear x2 G2 e2 l2 xd r5 hfar ed hU hL hav q0 q1 q2 q3 q4 q5 fz
  refine wp_region_held_drew (S := fun w' => w'.cell? ⟨d, 9, none⟩ = some (Value.int .u32 (s.ss : Nat)) ∧ w'.cell? ⟨d, 11, none⟩ = some (Value.int .u32 (sn1 : Nat)) ∧ w'.cell? ⟨d, 14, none⟩ = some (Value.slice a5 P.o cap5)) (by kernel_rfl) HS (fun _ => ?_)
  refine held_at (a' := { tmps := #[Value.pointer (some ⟨d, 0, none⟩), undef, Value.pointer (some ⟨w.heap.size, 0, none⟩), Value.pointer (some ⟨d, 0, none⟩), Value.pointer (some ⟨d, 0, none⟩), Value.pointer (some ⟨d, 6, none⟩), Value.pointer (some ⟨d, 11, none⟩), Value.int .u32 (s.sn : Nat), Value.int .u32 (sn1 : Nat), Value.pointer (some ⟨d, 0, none⟩), Value.pointer (some ⟨d, 6, none⟩), Value.pointer (some ⟨d, 11, none⟩), Value.pointer (some ⟨d, 0, none⟩), Value.pointer (some ⟨d, 0, none⟩), Value.pointer (some ⟨d, 6, none⟩), Value.pointer (some ⟨d, 11, none⟩), Value.int .u32 (sn1 : Nat), Value.pointer (some ⟨d, 0, none⟩), Value.pointer (some ⟨d, 0, none⟩), Value.pointer (some ⟨d, 0, none⟩), Value.pointer (some ⟨d, 4, none⟩), Value.int .u32 (P.n : Nat), Value.bool false, undef, undef, undef, undef, undef, undef, undef, undef, undef, undef, undef, undef, undef, undef, undef, undef, undef, undef, undef, undef, undef, undef, undef, undef, undef, undef, undef, undef, undef, undef, undef, undef, undef], defers := [] }) (l' := #[false, false, false, false, false, false, false, false, false, false, false, false, false, false, false, false, false, false, false, false, false]) (by kernel_rfl) (by kernel_rfl) ?_
  refine wpAnyH_take (i := 0) (v := Value.pointer (some ⟨d, 0, none⟩)) rfl (by kernel_rfl) (by kernel_rfl) (by kernel_rfl) (fun _ _ _ h => h) (Or.inl ⟨by kernel_rfl, fun w hSw => by go_simp⟩) (by assumption) ?_
  refine wpAnyH_take (i := 1) (v := Value.pointer (some ⟨d, 0, none⟩)) rfl (by kernel_rfl) (by kernel_rfl) (by kernel_rfl) (fun _ _ _ h => h) (Or.inl ⟨by kernel_rfl, fun w hSw => by go_simp⟩) (by assumption) ?_
  refine wpAnyH_take (i := 2) (v := Value.pointer (some ⟨d, 6, none⟩)) rfl (by kernel_rfl) (by kernel_rfl) (by kernel_rfl) (fun _ _ _ h => h) (Or.inl ⟨by kernel_rfl, fun w hSw => by go_simp⟩) (by assumption) ?_
  refine wpAnyH_take (i := 3) (v := Value.pointer (some ⟨d, 9, none⟩)) rfl (by kernel_rfl) (by kernel_rfl) (by kernel_rfl) (fun _ _ _ h => h) (Or.inl ⟨by kernel_rfl, fun w hSw => by go_simp⟩) (by assumption) ?_
  refine wpAnyH_take (i := 4) (v := Value.int .u32 (s.ss : Nat)) rfl (by kernel_rfl) (by kernel_rfl) (by kernel_rfl) (fun _ _ _ h => h) (Or.inl ⟨by kernel_rfl, fun w hSw => by go_simp⟩) (by assumption) ?_
  refine wpAnyH_take (i := 5) (v := Value.pointer (some ⟨d, 0, none⟩)) rfl (by kernel_rfl) (by kernel_rfl) (by kernel_rfl) (fun _ _ _ h => h) (Or.inl ⟨by kernel_rfl, fun w hSw => by go_simp⟩) (by assumption) ?_
  refine wpAnyH_take (i := 6) (v := Value.pointer (some ⟨d, 0, none⟩)) rfl (by kernel_rfl) (by kernel_rfl) (by kernel_rfl) (fun _ _ _ h => h) (Or.inl ⟨by kernel_rfl, fun w hSw => by go_simp⟩) (by assumption) ?_
  refine wpAnyH_take (i := 7) (v := Value.pointer (some ⟨d, 6, none⟩)) rfl (by kernel_rfl) (by kernel_rfl) (by kernel_rfl) (fun _ _ _ h => h) (Or.inl ⟨by kernel_rfl, fun w hSw => by go_simp⟩) (by assumption) ?_
  refine wpAnyH_take (i := 8) (v := Value.pointer (some ⟨d, 11, none⟩)) rfl (by kernel_rfl) (by kernel_rfl) (by kernel_rfl) (fun _ _ _ h => h) (Or.inl ⟨by kernel_rfl, fun w hSw => by go_simp⟩) (by assumption) ?_
  refine wpAnyH_take (i := 9) (v := Value.int .u32 (sn1 : Nat)) rfl (by kernel_rfl) (by kernel_rfl) (by kernel_rfl) (fun _ _ _ h => h) (Or.inl ⟨by kernel_rfl, fun w hSw => by go_simp⟩) (by assumption) ?_
  refine wpAnyH_take (i := 10) (v := Value.pointer (some ⟨d, 0, none⟩)) rfl (by kernel_rfl) (by kernel_rfl) (by kernel_rfl) (fun _ _ _ h => h) (Or.inl ⟨by kernel_rfl, fun w hSw => by go_simp⟩) (by assumption) ?_
  refine wpAnyH_take (i := 11) (v := Value.pointer (some ⟨d, 0, none⟩)) rfl (by kernel_rfl) (by kernel_rfl) (by kernel_rfl) (fun _ _ _ h => h) (Or.inl ⟨by kernel_rfl, fun w hSw => by go_simp⟩) (by assumption) ?_
  refine wpAnyH_take (i := 12) (v := Value.pointer (some ⟨d, 6, none⟩)) rfl (by kernel_rfl) (by kernel_rfl) (by kernel_rfl) (fun _ _ _ h => h) (Or.inl ⟨by kernel_rfl, fun w hSw => by go_simp⟩) (by assumption) ?_
  refine wpAnyH_take (i := 14) (v := Value.pointer (some ⟨d, 0, none⟩)) rfl (by kernel_rfl) (by kernel_rfl) (by kernel_rfl) (fun _ _ _ h => h) (Or.inl ⟨by kernel_rfl, fun w hSw => by go_simp⟩) (by assumption) ?_
  refine wpAnyH_take (i := 15) (v := Value.pointer (some ⟨d, 0, none⟩)) rfl (by kernel_rfl) (by kernel_rfl) (by kernel_rfl) (fun _ _ _ h => h) (Or.inl ⟨by kernel_rfl, fun w hSw => by go_simp⟩) (by assumption) ?_
  refine wpAnyH_take (i := 16) (v := Value.pointer (some ⟨d, 6, none⟩)) rfl (by kernel_rfl) (by kernel_rfl) (by kernel_rfl) (fun _ _ _ h => h) (Or.inl ⟨by kernel_rfl, fun w hSw => by go_simp⟩) (by assumption) ?_
  refine wpAnyH_take (i := 17) (v := Value.pointer (some ⟨d, 14, none⟩)) rfl (by kernel_rfl) (by kernel_rfl) (by kernel_rfl) (fun _ _ _ h => h) (Or.inl ⟨by kernel_rfl, fun w hSw => by go_simp⟩) (by assumption) ?_
  refine wpAnyH_take (i := 18) (v := Value.slice a5 P.o cap5) rfl (by kernel_rfl) (by kernel_rfl) (by kernel_rfl) (fun _ _ _ h => h) (Or.inl ⟨by kernel_rfl, fun w hSw => by go_simp⟩) (by assumption) ?_
  refine held_at (a' := { tmps := #[Value.pointer (some ⟨d, 0, none⟩), undef, Value.pointer (some ⟨w.heap.size, 0, none⟩), Value.pointer (some ⟨d, 0, none⟩), Value.pointer (some ⟨d, 0, none⟩), Value.pointer (some ⟨d, 6, none⟩), Value.pointer (some ⟨d, 11, none⟩), Value.int .u32 (s.sn : Nat), Value.int .u32 (sn1 : Nat), Value.pointer (some ⟨d, 0, none⟩), Value.pointer (some ⟨d, 6, none⟩), Value.pointer (some ⟨d, 11, none⟩), Value.pointer (some ⟨d, 0, none⟩), Value.pointer (some ⟨d, 0, none⟩), Value.pointer (some ⟨d, 6, none⟩), Value.pointer (some ⟨d, 11, none⟩), Value.int .u32 (sn1 : Nat), Value.pointer (some ⟨d, 0, none⟩), Value.pointer (some ⟨d, 0, none⟩), Value.pointer (some ⟨d, 0, none⟩), Value.pointer (some ⟨d, 4, none⟩), Value.int .u32 (P.n : Nat), Value.bool false, undef, undef, undef, undef, undef, undef, undef, undef, undef, undef, undef, undef, undef, Value.pointer (some ⟨d, 0, none⟩), Value.pointer (some ⟨d, 0, none⟩), Value.pointer (some ⟨d, 6, none⟩), Value.pointer (some ⟨d, 9, none⟩), Value.int .u32 (s.ss : Nat), Value.pointer (some ⟨d, 0, none⟩), Value.pointer (some ⟨d, 0, none⟩), Value.pointer (some ⟨d, 6, none⟩), Value.pointer (some ⟨d, 11, none⟩), Value.int .u32 (sn1 : Nat), Value.pointer (some ⟨d, 0, none⟩), Value.pointer (some ⟨d, 0, none⟩), Value.pointer (some ⟨d, 6, none⟩), undef, Value.pointer (some ⟨d, 0, none⟩), Value.pointer (some ⟨d, 0, none⟩), Value.pointer (some ⟨d, 6, none⟩), Value.pointer (some ⟨d, 14, none⟩), Value.slice a5 P.o cap5, undef], defers := [] }) (l' := #[true, true, true, true, true, true, true, true, true, true, true, true, true, false, true, true, true, true, true, false, false]) (by kernel_rfl) (by kernel_rfl) ?_
  refine held_call (i := 13) 198 #[Value.pointer (some ⟨d, 6, none⟩)] (by kernel_rfl) rfl (by kernel_rfl) (by go_simp) ?_
  refine (hF).mono ?_
  rintro e w6 ⟨rfl, b6⟩
  have HT : w6.cell? ⟨d, 9, none⟩ = some (Value.int .u32 (s.ss : Nat)) ∧ w6.cell? ⟨d, 11, none⟩ = some (Value.int .u32 (sn1 : Nat)) ∧ w6.cell? ⟨d, 14, none⟩ = some (Value.slice a5 P.o cap5) := ⟨(b6.cell (p := ⟨d, 9, none⟩) H2.out.2.1.dlt).trans HS.1, (b6.cell (p := ⟨d, 11, none⟩) H2.out.2.1.dlt).trans HS.2.1, (b6.cell (p := ⟨d, 14, none⟩) H2.out.2.1.dlt).trans HS.2.2⟩
  have e6 := (b6.block w.heap.size H2.out.2.2.2.1).trans H2.out.2.2.1
  obtain ⟨⟨q0, q1, q2, q3, q4, q5⟩, fz⟩ := hsixC e6
  have f0 := fz 0
  have f1 := fz 1
  have f2 := fz 2
  have f3 := fz 3
  have f4 := fz 4
  have f5 := fz 5
  clear hF fz
  refine ⟨_, rfl, HT, ?_⟩
  refine held_at (a' := { tmps := #[Value.pointer (some ⟨d, 0, none⟩), undef, Value.pointer (some ⟨w.heap.size, 0, none⟩), Value.pointer (some ⟨d, 0, none⟩), Value.pointer (some ⟨d, 0, none⟩), Value.pointer (some ⟨d, 6, none⟩), Value.pointer (some ⟨d, 11, none⟩), Value.int .u32 (s.sn : Nat), Value.int .u32 (sn1 : Nat), Value.pointer (some ⟨d, 0, none⟩), Value.pointer (some ⟨d, 6, none⟩), Value.pointer (some ⟨d, 11, none⟩), Value.pointer (some ⟨d, 0, none⟩), Value.pointer (some ⟨d, 0, none⟩), Value.pointer (some ⟨d, 6, none⟩), Value.pointer (some ⟨d, 11, none⟩), Value.int .u32 (sn1 : Nat), Value.pointer (some ⟨d, 0, none⟩), Value.pointer (some ⟨d, 0, none⟩), Value.pointer (some ⟨d, 0, none⟩), Value.pointer (some ⟨d, 4, none⟩), Value.int .u32 (P.n : Nat), Value.bool false, undef, undef, undef, undef, undef, undef, undef, undef, undef, undef, undef, undef, undef, Value.pointer (some ⟨d, 0, none⟩), Value.pointer (some ⟨d, 0, none⟩), Value.pointer (some ⟨d, 6, none⟩), Value.pointer (some ⟨d, 9, none⟩), Value.int .u32 (s.ss : Nat), Value.pointer (some ⟨d, 0, none⟩), Value.pointer (some ⟨d, 0, none⟩), Value.pointer (some ⟨d, 6, none⟩), Value.pointer (some ⟨d, 11, none⟩), Value.int .u32 (sn1 : Nat), Value.pointer (some ⟨d, 0, none⟩), Value.pointer (some ⟨d, 0, none⟩), Value.pointer (some ⟨d, 6, none⟩), Value.int .i64 (hflags { s with sn := sn1 } : Nat), Value.pointer (some ⟨d, 0, none⟩), Value.pointer (some ⟨d, 0, none⟩), Value.pointer (some ⟨d, 6, none⟩), Value.pointer (some ⟨d, 14, none⟩), Value.slice a5 P.o cap5, undef], defers := [] }) (l' := #[true, true, true, true, true, true, true, true, true, true, true, true, true, true, true, true, true, true, true, false, false]) (by kernel_rfl) (by kernel_rfl) ?_
  refine wpAnyH_take (i := 19) (v := Value.agg #[Value.int .i64 4, Value.int .u32 0, Value.int .u32 (s.ss : Nat), Value.int .u32 (sn1 : Nat), Value.int .i64 (hflags { s with sn := sn1 } : Nat), Value.slice a5 P.o cap5]) rfl (by kernel_rfl) (by kernel_rfl) (by kernel_rfl) (fun _ _ _ h => h) (Or.inl ⟨by kernel_rfl, fun w hSw => by go_simp⟩) (by assumption) ?_
  refine held_at (a' := { tmps := #[Value.pointer (some ⟨d, 0, none⟩), undef, Value.pointer (some ⟨w.heap.size, 0, none⟩), Value.pointer (some ⟨d, 0, none⟩), Value.pointer (some ⟨d, 0, none⟩), Value.pointer (some ⟨d, 6, none⟩), Value.pointer (some ⟨d, 11, none⟩), Value.int .u32 (s.sn : Nat), Value.int .u32 (sn1 : Nat), Value.pointer (some ⟨d, 0, none⟩), Value.pointer (some ⟨d, 6, none⟩), Value.pointer (some ⟨d, 11, none⟩), Value.pointer (some ⟨d, 0, none⟩), Value.pointer (some ⟨d, 0, none⟩), Value.pointer (some ⟨d, 6, none⟩), Value.pointer (some ⟨d, 11, none⟩), Value.int .u32 (sn1 : Nat), Value.pointer (some ⟨d, 0, none⟩), Value.pointer (some ⟨d, 0, none⟩), Value.pointer (some ⟨d, 0, none⟩), Value.pointer (some ⟨d, 4, none⟩), Value.int .u32 (P.n : Nat), Value.bool false, undef, undef, undef, undef, undef, undef, undef, undef, undef, undef, undef, undef, undef, Value.pointer (some ⟨d, 0, none⟩), Value.pointer (some ⟨d, 0, none⟩), Value.pointer (some ⟨d, 6, none⟩), Value.pointer (some ⟨d, 9, none⟩), Value.int .u32 (s.ss : Nat), Value.pointer (some ⟨d, 0, none⟩), Value.pointer (some ⟨d, 0, none⟩), Value.pointer (some ⟨d, 6, none⟩), Value.pointer (some ⟨d, 11, none⟩), Value.int .u32 (sn1 : Nat), Value.pointer (some ⟨d, 0, none⟩), Value.pointer (some ⟨d, 0, none⟩), Value.pointer (some ⟨d, 6, none⟩), Value.int .i64 (hflags { s with sn := sn1 } : Nat), Value.pointer (some ⟨d, 0, none⟩), Value.pointer (some ⟨d, 0, none⟩), Value.pointer (some ⟨d, 6, none⟩), Value.pointer (some ⟨d, 14, none⟩), Value.slice a5 P.o cap5, Value.agg #[Value.int .i64 4, Value.int .u32 0, Value.int .u32 (s.ss : Nat), Value.int .u32 (sn1 : Nat), Value.int .i64 (hflags { s with sn := sn1 } : Nat), Value.slice a5 P.o cap5]], defers := [] }) (l' := #[true, true, true, true, true, true, true, true, true, true, true, true, true, true, true, true, true, true, true, true, false]) (by kernel_rfl) (by kernel_rfl) ?_
  refine held_skip (i := 20) (((((((w6.setCell ⟨w.heap.size, 0, none⟩ (Value.int .i64 4)).setCell ⟨w.heap.size, 1, none⟩ (Value.int .u32 0)).setCell ⟨w.heap.size, 2, none⟩ (Value.int .u32 (s.ss : Nat))).setCell ⟨w.heap.size, 3, none⟩ (Value.int .u32 (sn1 : Nat))).setCell ⟨w.heap.size, 4, none⟩ (Value.int .i64 (hflags { s with sn := sn1 } : Nat))).setCell ⟨w.heap.size, 5, none⟩ (Value.slice a5 P.o cap5))) (by kernel_rfl) rfl (by kernel_rfl) (by go_simp) ⟨hsix_cell HT.1 hdn _ _ _ _ _ _, hsix_cell HT.2.1 hdn _ _ _ _ _ _, hsix_cell HT.2.2 hdn _ _ _ _ _ _⟩ ?_
  refine held_at (a' := { tmps := #[Value.pointer (some ⟨d, 0, none⟩), undef, Value.pointer (some ⟨w.heap.size, 0, none⟩), Value.pointer (some ⟨d, 0, none⟩), Value.pointer (some ⟨d, 0, none⟩), Value.pointer (some ⟨d, 6, none⟩), Value.pointer (some ⟨d, 11, none⟩), Value.int .u32 (s.sn : Nat), Value.int .u32 (sn1 : Nat), Value.pointer (some ⟨d, 0, none⟩), Value.pointer (some ⟨d, 6, none⟩), Value.pointer (some ⟨d, 11, none⟩), Value.pointer (some ⟨d, 0, none⟩), Value.pointer (some ⟨d, 0, none⟩), Value.pointer (some ⟨d, 6, none⟩), Value.pointer (some ⟨d, 11, none⟩), Value.int .u32 (sn1 : Nat), Value.pointer (some ⟨d, 0, none⟩), Value.pointer (some ⟨d, 0, none⟩), Value.pointer (some ⟨d, 0, none⟩), Value.pointer (some ⟨d, 4, none⟩), Value.int .u32 (P.n : Nat), Value.bool false, undef, undef, undef, undef, undef, undef, undef, undef, undef, undef, undef, undef, undef, Value.pointer (some ⟨d, 0, none⟩), Value.pointer (some ⟨d, 0, none⟩), Value.pointer (some ⟨d, 6, none⟩), Value.pointer (some ⟨d, 9, none⟩), Value.int .u32 (s.ss : Nat), Value.pointer (some ⟨d, 0, none⟩), Value.pointer (some ⟨d, 0, none⟩), Value.pointer (some ⟨d, 6, none⟩), Value.pointer (some ⟨d, 11, none⟩), Value.int .u32 (sn1 : Nat), Value.pointer (some ⟨d, 0, none⟩), Value.pointer (some ⟨d, 0, none⟩), Value.pointer (some ⟨d, 6, none⟩), Value.int .i64 (hflags { s with sn := sn1 } : Nat), Value.pointer (some ⟨d, 0, none⟩), Value.pointer (some ⟨d, 0, none⟩), Value.pointer (some ⟨d, 6, none⟩), Value.pointer (some ⟨d, 14, none⟩), Value.slice a5 P.o cap5, Value.agg #[Value.int .i64 4, Value.int .u32 0, Value.int .u32 (s.ss : Nat), Value.int .u32 (sn1 : Nat), Value.int .i64 (hflags { s with sn := sn1 } : Nat), Value.slice a5 P.o cap5]], defers := [] }) (l' := #[true, true, true, true, true, true, true, true, true, true, true, true, true, true, true, true, true, true, true, true, true]) (by kernel_rfl) (by kernel_rfl) ?_
  refine wpAnyH_done (by kernel_rfl) ?_ _
  have e9 := hsixR (Value.int .i64 4) (Value.int .u32 0) (Value.int .u32 (s.ss : Nat)) (Value.int .u32 (sn1 : Nat)) (Value.int .i64 (hflags { s with sn := sn1 } : Nat)) (Value.slice a5 P.o cap5) e6
  have H9 : Hid (_) := hsixO w.heap.size w6 (Value.int .i64 4) (Value.int .u32 0) (Value.int .u32 (s.ss : Nat)) (Value.int .u32 (sn1 : Nat)) (Value.int .i64 (hflags { s with sn := sn1 } : Nat)) (Value.slice a5 P.o cap5)
  clear q0 q1 q2 q3 q4 q5 f0 f1 f2 f3 f4 f5 HS HT
  generalize ((((((w6.setCell ⟨w.heap.size, 0, none⟩ (Value.int .i64 4)).setCell ⟨w.heap.size, 1, none⟩ (Value.int .u32 0)).setCell ⟨w.heap.size, 2, none⟩ (Value.int .u32 (s.ss : Nat))).setCell ⟨w.heap.size, 3, none⟩ (Value.int .u32 (sn1 : Nat))).setCell ⟨w.heap.size, 4, none⟩ (Value.int .i64 (hflags { s with sn := sn1 } : Nat))).setCell ⟨w.heap.size, 5, none⟩ (Value.slice a5 P.o cap5)) = w9 at *
  have r0 := cell_of_row w9 w.heap.size 0 _ _ _ e9
  have r1 := cell_of_row w9 w.heap.size 1 _ _ _ e9
  have r2 := cell_of_row w9 w.heap.size 2 _ _ _ e9
  have r3 := cell_of_row w9 w.heap.size 3 _ _ _ e9
  have r4 := cell_of_row w9 w.heap.size 4 _ _ _ e9
  have r5 := cell_of_row w9 w.heap.size 5 _ _ _ e9
  clear e9
  go_wp2_with fail
  refine bodyPost_ret (v := .agg #[Value.int .i64 4, Value.int .u32 0, Value.int .u32 (s.ss : Nat), Value.int .u32 (sn1 : Nat), Value.int .i64 (hflags { s with sn := sn1 } : Nat), Value.slice a5 P.o cap5]) (by simp [results, Tryz.results148, go_sem, r0, r1, r2, r3, r4, r5]) rfl ?_
  have oo := H9.out
  obtain ⟨G2, xd, ed, l2, hU, r5, hfar⟩ := H2.out
  have x6 := xd.newd (Off.of_below b6)
  have hne : ∀ y, a5 = some y → y.block ≠ w.heap.size := fun y hy e => hU (by rw [← e]; exact (hfar y hy).1)
  have hLt : ∀ y, a5 = some y → y.block < w9.heap.size := fun y hy => Nat.lt_of_lt_of_le (x6.ltU _ (hfar y hy).1) oo.size
  refine ⟨4, s.ss, sn1, hflags { s with sn := sn1 }, a5, P.o, cap5, rfl, s.ap, ?_⟩
  have hfl : hflags { s with sn := sn1 } = hflags s := rfl
  exact ⟨⟨U, (G2.trans (Gr.below b6)).new_ oo (Nat.le_refl _), ⟨B, x6.off oo (fun k hk hm => by simp at hm; subst hm; exact hU hk)⟩, fun y hy => ⟨(hfar y hy).2, .inl (hfar y hy).1, hLt y hy⟩⟩, (by show encF 4 P.c s.ss sn1 (hflags s) P.o s.ap = encF 4 P.c s.ss sn1 (hflags { s with sn := sn1 }) P.o s.ap; rw [hfl]), (r5.below b6).off oo (fun y hy => by simpa using hne y hy)⟩
theorem hdata_any (d : Nat) (P : Pm) (U : List Nat) (s : Sh) (w : World) (h : HV w d P U s) (hsn : s.sn + 1 < 4294967296) (hL : s.L.length < 800000) (h1 : s.st ≠ 1) (h2 : s.st ≠ 2) (h3 : s.st ≠ 3) :
    Calls Tryz.prog 148 #[.pointer (some ⟨d, 0, none⟩)] w fun e w' => ∃ k ss num fl a len cap bs, e = .returned (.agg #[.int .i64 ((k : Nat) : Int), .int .u32 0, .int .u32 ((ss : Nat) : Int), .int .u32 ((num : Nat) : Int), .int .i64 ((fl : Nat) : Int), .slice a len cap]) ∧ Hid (Un U w w' d P (hnext P s).1 (hnext P s).2 k ss num fl a len cap bs) := by
  by_cases hn : s.sn + 1 = P.n
  · exact hdata_last d P U s w h hsn hL h1 h2 h3 hn
  · exact hdata_more d P U s w h hsn hL h1 h2 h3 hn
end Go.Proofs.YtndjepeolamedaaGreat
namespace Go.Proofs.YtndjepeolamedaaGreat
set_option maxRecDepth 100000
open Go.RowKit
set_option maxHeartbeats 6400000 in
theorem hnext_any (d : Nat) (P : Pm) (U : List Nat) (s : Sh) (w : World) (h : HV w d P U s) (hsn : s.st = 4 ∨ s.st = 5 → s.sn + 1 < 4294967296) (h5 : 1 ≤ s.st ∧ s.st ≤ 5) (hL : s.L.length < 800000) :
    Calls Tryz.prog 90 #[.pointer (some ⟨d, 0, none⟩)] w fun e w' => ∃ k ss num fl a len cap bs, e = .returned (.agg #[.int .i64 ((k : Nat) : Int), .int .u32 0, .int .u32 ((ss : Nat) : Int), .int .u32 ((num : Nat) : Int), .int .i64 ((fl : Nat) : Int), .slice a len cap]) ∧ Hid (Un U w w' d P (hnext P s).1 (hnext P s).2 k ss num fl a len cap bs) := by
  have hb0 : Below w.heap.size w (w.alloc (.cells zU 67)) := (Below.refl _ _).alloc (Nat.le_refl _) _
  have hx0 := heap_alloc_new w (.cells zU 67)
  have hs0 : w.heap.size < (w.alloc (.cells zU 67)).heap.size := by simp
  have hU : w.heap.size ∉ U := fun hm => by have := HV.ult h _ hm; omega
  have hv0 := HV.below h hb0
  obtain ⟨B, x0⟩ := id hv0
  have hdn : ¬ d = w.heap.size := fun e => hU (by rw [← e]; exact x0.kd.2)
  have hdn' : ¬ w.heap.size = d := fun e => hdn e.symm
  have c8 := x0.c8
  have c9 := x0.c9
  by_cases h123 : s.st = 1 ∨ s.st = 2
  · have hS := hsig_any d P U s _ hv0
    have xd := x0.newd (Off.drew [] _)
    have hSd := hsig_any d P U s _ ⟨B, xd⟩
    have H0 : Hid (_) := And.intro hb0 (And.intro hx0 (And.intro hs0 (And.intro hU hv0)))
    have HS : (w.alloc (.cells zU 67)).drew.cell? ⟨d, 9, none⟩ = some (.int .u32 (s.ss : Nat)) := xd.c9
    have HD : Hid (_) := x0.dlt
    clear h hb0 hx0 hs0 hU hv0 x0 xd hL hsn h5
    unfold zU at *
    unfold hnext
    rcases h123 with h1 | h1
    · rw [if_pos h1]
      rw [h1] at c8
      clear h1 hSd HS
      go_enter Tryz.func90, Tryz.ntmps90
      go_wp2_with fail
      refine hS.mono ?_
      rintro e w2 ⟨g, rfl, h2⟩
      obtain ⟨r2, hg, b2⟩ := h2.out
      obtain ⟨hb0, hx0, hs0, hU, hv0⟩ := H0.out
      have e2 := (b2.block w.heap.size hs0).trans hx0
      obtain ⟨⟨q0, q1, q2, q3, q4, q5⟩, fz⟩ := hsixC e2
      have f0 := fz 0
      have f1 := fz 1
      have f2 := fz 2
      have f3 := fz 3
      have f4 := fz 4
      have f5 := fz 5
      have H2 : Hid (_) := And.intro r2 (And.intro hg (And.intro b2 (And.intro hb0 (And.intro hs0 (And.intro hU hv0)))))
      clear hS h2 r2 hg b2 hb0 hx0 hs0 hU hv0 e2 fz H0 c8 c9
      go_wp2_with fail
      refine bodyPost_ret (v := .agg #[.int .i64 1, .int .u32 0, .int .u32 0, .int .u32 0, .int .i64 0, .slice (some ⟨g, 0, none⟩) 4 4]) (by simp [results, Tryz.results90, go_sem, q0, q1, q2, q3, q4, q5]) rfl ?_
      obtain ⟨r2, hg, b2, hb0, hs0, hU, hv0⟩ := H2.out
      have oo := hsixO w.heap.size w2 (.int .i64 1) (.int .u32 0) (.int .u32 0) (.int .u32 0) (.int .i64 0) (.slice (some ⟨g, 0, none⟩) 4 4)
      exact ⟨1, 0, 0, 0, some ⟨g, 0, none⟩, 4, 4, dsg P, rfl, ⟨U, ((Gr.below hb0).trans (Gr.below b2)).new_ oo (Nat.le_refl _), HV.off (HV.below hv0 b2) oo (fun k hk hm => by simp at hm; subst hm; exact hU hk), fun y hy => by cases hy; have := HD.out; exact ⟨by show g ≠ d; omega, .inr (by show w.heap.size ≤ g; omega), Nat.lt_of_lt_of_le hg.2 oo.size⟩⟩, rfl, r2.off oo (fun y hy => by cases hy; simp; omega)⟩
    · rw [if_neg (by omega), if_pos h1]
      rw [h1] at c8
      clear h1 hS c9
      go_enter Tryz.func90, Tryz.ntmps90
      go_wp2_with fail
      refine wp_region_held_drew (S := fun w' => w'.cell? ⟨d, 9, none⟩ = some (Value.int .u32 (s.ss : Nat))) (by kernel_rfl) HS (fun _ => ?_)
      refine held_at (a' := { tmps := #[Value.pointer (some ⟨d, 0, none⟩), undef, Value.pointer (some ⟨w.heap.size, 0, none⟩), Value.pointer (some ⟨d, 0, none⟩), Value.pointer (some ⟨d, 0, none⟩), Value.pointer (some ⟨d, 6, none⟩), Value.pointer (some ⟨d, 8, none⟩), Value.int .i64 ((2 : Nat) : Int), Value.bool false, Value.bool false, undef, undef, undef, Value.bool true, Value.bool true, undef, undef, undef, undef, undef, undef, undef, undef, undef, undef, undef, undef, undef, undef, undef, undef, undef, undef], defers := [] }) (l' := #[false, false, false, false, false, false, false, false, false]) (by kernel_rfl) (by kernel_rfl) ?_
      refine wpAnyH_take (i := 0) (v := Value.pointer (some ⟨d, 0, none⟩)) rfl (by kernel_rfl) (by kernel_rfl) (by kernel_rfl) (fun _ _ _ h => h) (Or.inl ⟨by kernel_rfl, fun w hSw => by go_simp⟩) (by assumption) ?_
      refine wpAnyH_take (i := 1) (v := Value.pointer (some ⟨d, 0, none⟩)) rfl (by kernel_rfl) (by kernel_rfl) (by kernel_rfl) (fun _ _ _ h => h) (Or.inl ⟨by kernel_rfl, fun w hSw => by go_simp⟩) (by assumption) ?_
      refine wpAnyH_take (i := 2) (v := Value.pointer (some ⟨d, 6, none⟩)) rfl (by kernel_rfl) (by kernel_rfl) (by kernel_rfl) (fun _ _ _ h => h) (Or.inl ⟨by kernel_rfl, fun w hSw => by go_simp⟩) (by assumption) ?_
      refine wpAnyH_take (i := 3) (v := Value.pointer (some ⟨d, 9, none⟩)) rfl (by kernel_rfl) (by kernel_rfl) (by kernel_rfl) (fun _ _ _ h => h) (Or.inl ⟨by kernel_rfl, fun w hSw => by go_simp⟩) (by assumption) ?_
      refine wpAnyH_take (i := 4) (v := Value.int .u32 (s.ss : Nat)) rfl (by kernel_rfl) (by kernel_rfl) (by kernel_rfl) (fun _ _ _ h => h) (Or.inl ⟨by kernel_rfl, fun w hSw => by go_simp⟩) (by assumption) ?_
      refine wpAnyH_take (i := 5) (v := Value.pointer (some ⟨d, 0, none⟩)) rfl (by kernel_rfl) (by kernel_rfl) (by kernel_rfl) (fun _ _ _ h => h) (Or.inl ⟨by kernel_rfl, fun w hSw => by go_simp⟩) (by assumption) ?_
      refine held_at (a' := { tmps := #[Value.pointer (some ⟨d, 0, none⟩), undef, Value.pointer (some ⟨w.heap.size, 0, none⟩), Value.pointer (some ⟨d, 0, none⟩), Value.pointer (some ⟨d, 0, none⟩), Value.pointer (some ⟨d, 6, none⟩), Value.pointer (some ⟨d, 8, none⟩), Value.int .i64 ((2 : Nat) : Int), Value.bool false, Value.bool false, undef, undef, undef, Value.bool true, Value.bool true, Value.pointer (some ⟨d, 0, none⟩), Value.pointer (some ⟨d, 0, none⟩), Value.pointer (some ⟨d, 6, none⟩), Value.pointer (some ⟨d, 9, none⟩), Value.int .u32 (s.ss : Nat), Value.pointer (some ⟨d, 0, none⟩), undef, undef, undef, undef, undef, undef, undef, undef, undef, undef, undef, undef], defers := [] }) (l' := #[true, true, true, true, true, true, false, false, false]) (by kernel_rfl) (by kernel_rfl) ?_
      refine held_call (i := 6) 147 #[Value.pointer (some ⟨d, 0, none⟩)] (by kernel_rfl) rfl (by kernel_rfl) (by go_simp) ?_
      refine (hSd).mono ?_
      rintro e w2 ⟨g, rfl, h2⟩
      have HT : w2.cell? ⟨d, 9, none⟩ = some (Value.int .u32 (s.ss : Nat)) := (h2.out.2.2.cell (p := ⟨d, 9, none⟩) HD.out).trans HS
      have e2 := (h2.out.2.2.block w.heap.size H0.out.2.2.1).trans H0.out.2.1
      obtain ⟨⟨q0, q1, q2, q3, q4, q5⟩, fz⟩ := hsixC e2
      have f0 := fz 0
      have f1 := fz 1
      have f2 := fz 2
      have f3 := fz 3
      have f4 := fz 4
      have f5 := fz 5
      clear hSd fz
      refine ⟨_, rfl, HT, ?_⟩
      refine held_at (a' := { tmps := #[Value.pointer (some ⟨d, 0, none⟩), undef, Value.pointer (some ⟨w.heap.size, 0, none⟩), Value.pointer (some ⟨d, 0, none⟩), Value.pointer (some ⟨d, 0, none⟩), Value.pointer (some ⟨d, 6, none⟩), Value.pointer (some ⟨d, 8, none⟩), Value.int .i64 ((2 : Nat) : Int), Value.bool false, Value.bool false, undef, undef, undef, Value.bool true, Value.bool true, Value.pointer (some ⟨d, 0, none⟩), Value.pointer (some ⟨d, 0, none⟩), Value.pointer (some ⟨d, 6, none⟩), Value.pointer (some ⟨d, 9, none⟩), Value.int .u32 (s.ss : Nat), Value.pointer (some ⟨d, 0, none⟩), Value.slice (some ⟨g, 0, none⟩) 4 4, undef, undef, undef, undef, undef, undef, undef, undef, undef, undef, undef], defers := [] }) (l' := #[true, true, true, true, true, true, true, false, false]) (by kernel_rfl) (by kernel_rfl) ?_
      refine wpAnyH_take (i := 7) (v := Value.agg #[Value.int .i64 2, Value.int .u32 0, Value.int .u32 (s.ss : Nat), Value.int .u32 0, Value.int .i64 0, Value.slice (some ⟨g, 0, none⟩) 4 4]) rfl (by kernel_rfl) (by kernel_rfl) (by kernel_rfl) (fun _ _ _ h => h) (Or.inl ⟨by kernel_rfl, fun w hSw => by go_simp⟩) (by assumption) ?_
      refine held_at (a' := { tmps := #[Value.pointer (some ⟨d, 0, none⟩), undef, Value.pointer (some ⟨w.heap.size, 0, none⟩), Value.pointer (some ⟨d, 0, none⟩), Value.pointer (some ⟨d, 0, none⟩), Value.pointer (some ⟨d, 6, none⟩), Value.pointer (some ⟨d, 8, none⟩), Value.int .i64 ((2 : Nat) : Int), Value.bool false, Value.bool false, undef, undef, undef, Value.bool true, Value.bool true, Value.pointer (some ⟨d, 0, none⟩), Value.pointer (some ⟨d, 0, none⟩), Value.pointer (some ⟨d, 6, none⟩), Value.pointer (some ⟨d, 9, none⟩), Value.int .u32 (s.ss : Nat), Value.pointer (some ⟨d, 0, none⟩), Value.slice (some ⟨g, 0, none⟩) 4 4, Value.agg #[Value.int .i64 2, Value.int .u32 0, Value.int .u32 (s.ss : Nat), Value.int .u32 0, Value.int .i64 0, Value.slice (some ⟨g, 0, none⟩) 4 4], undef, undef, undef, undef, undef, undef, undef, undef, undef, undef], defers := [] }) (l' := #[true, true, true, true, true, true, true, true, false]) (by kernel_rfl) (by kernel_rfl) ?_
      refine held_skip (i := 8) (((((((w2.setCell ⟨w.heap.size, 0, none⟩ (Value.int .i64 2)).setCell ⟨w.heap.size, 1, none⟩ (Value.int .u32 0)).setCell ⟨w.heap.size, 2, none⟩ (Value.int .u32 (s.ss : Nat))).setCell ⟨w.heap.size, 3, none⟩ (Value.int .u32 0)).setCell ⟨w.heap.size, 4, none⟩ (Value.int .i64 0)).setCell ⟨w.heap.size, 5, none⟩ (Value.slice (some ⟨g, 0, none⟩) 4 4))) (by kernel_rfl) rfl (by kernel_rfl) (by go_simp) (hsix_cell HT hdn _ _ _ _ _ _) ?_
      refine held_at (a' := { tmps := #[Value.pointer (some ⟨d, 0, none⟩), undef, Value.pointer (some ⟨w.heap.size, 0, none⟩), Value.pointer (some ⟨d, 0, none⟩), Value.pointer (some ⟨d, 0, none⟩), Value.pointer (some ⟨d, 6, none⟩), Value.pointer (some ⟨d, 8, none⟩), Value.int .i64 ((2 : Nat) : Int), Value.bool false, Value.bool false, undef, undef, undef, Value.bool true, Value.bool true, Value.pointer (some ⟨d, 0, none⟩), Value.pointer (some ⟨d, 0, none⟩), Value.pointer (some ⟨d, 6, none⟩), Value.pointer (some ⟨d, 9, none⟩), Value.int .u32 (s.ss : Nat), Value.pointer (some ⟨d, 0, none⟩), Value.slice (some ⟨g, 0, none⟩) 4 4, Value.agg #[Value.int .i64 2, Value.int .u32 0, Value.int .u32 (s.ss : Nat), Value.int .u32 0, Value.int .i64 0, Value.slice (some ⟨g, 0, none⟩) 4 4], undef, undef, undef, undef, undef, undef, undef, undef, undef, undef], defers := [] }) (l' := #[true, true, true, true, true, true, true, true, true]) (by kernel_rfl) (by kernel_rfl) ?_
      refine wpAnyH_done (by kernel_rfl) ?_ _
      have e9 := hsixR (Value.int .i64 2) (Value.int .u32 0) (Value.int .u32 (s.ss : Nat)) (Value.int .u32 0) (Value.int .i64 0) (Value.slice (some ⟨g, 0, none⟩) 4 4) e2
      have H9 : Hid (_) := hsixO w.heap.size w2 (Value.int .i64 2) (Value.int .u32 0) (Value.int .u32 (s.ss : Nat)) (Value.int .u32 0) (Value.int .i64 0) (Value.slice (some ⟨g, 0, none⟩) 4 4)
      clear q0 q1 q2 q3 q4 q5 f0 f1 f2 f3 f4 f5 HS HT
      generalize ((((((w2.setCell ⟨w.heap.size, 0, none⟩ (Value.int .i64 2)).setCell ⟨w.heap.size, 1, none⟩ (Value.int .u32 0)).setCell ⟨w.heap.size, 2, none⟩ (Value.int .u32 (s.ss : Nat))).setCell ⟨w.heap.size, 3, none⟩ (Value.int .u32 0)).setCell ⟨w.heap.size, 4, none⟩ (Value.int .i64 0)).setCell ⟨w.heap.size, 5, none⟩ (Value.slice (some ⟨g, 0, none⟩) 4 4)) = w9 at *
      have r0 := cell_of_row w9 w.heap.size 0 _ _ _ e9
      have r1 := cell_of_row w9 w.heap.size 1 _ _ _ e9
      have r2 := cell_of_row w9 w.heap.size 2 _ _ _ e9
      have r3 := cell_of_row w9 w.heap.size 3 _ _ _ e9
      have r4 := cell_of_row w9 w.heap.size 4 _ _ _ e9
      have r5 := cell_of_row w9 w.heap.size 5 _ _ _ e9
      clear e9
      go_wp2_with fail
      refine bodyPost_ret (v := .agg #[Value.int .i64 2, Value.int .u32 0, Value.int .u32 (s.ss : Nat), Value.int .u32 0, Value.int .i64 0, Value.slice (some ⟨g, 0, none⟩) 4 4]) (by simp [results, Tryz.results90, go_sem, r0, r1, r2, r3, r4, r5]) rfl ?_
      have oo := H9.out
      obtain ⟨hb0, hx0, hs0, hU, hv0⟩ := H0.out
      obtain ⟨r2, hg, b2⟩ := h2.out
      have bd := (Below.drew (Below.refl (w.alloc (.cells #[.int .i64 0, .int .u32 0, .int .u32 0, .int .u32 0, .int .i64 0, .slice none 0 0] 67)).heap.size (w.alloc (.cells #[.int .i64 0, .int .u32 0, .int .u32 0, .int .u32 0, .int .i64 0, .slice none 0 0] 67)))).trans b2
      have hg' : (w.alloc (.cells #[.int .i64 0, .int .u32 0, .int .u32 0, .int .u32 0, .int .i64 0, .slice none 0 0] 67)).heap.size ≤ g := hg.1
      exact ⟨2, s.ss, 0, 0, some ⟨g, 0, none⟩, 4, 4, dsg P, rfl, ⟨U, ((Gr.below hb0).trans (Gr.below bd)).new_ oo (Nat.le_refl _), HV.off (HV.below hv0 bd) oo (fun k hk hm => by simp at hm; subst hm; exact hU hk), fun y hy => by cases hy; have := HD.out; exact ⟨by show g ≠ d; omega, .inr (by show w.heap.size ≤ g; omega), Nat.lt_of_lt_of_le hg.2 oo.size⟩⟩, rfl, r2.off oo (fun y hy => by cases hy; simp; omega)⟩
  · by_cases h3 : s.st = 3
    · have bb : Below w.heap.size w (w.alloc (.cells #[.int .i64 3, .int .u32 0, .int .u32 (s.ss : Nat), .int .u32 0, .int .i64 0, .slice none 0 0] 67)) := (Below.refl _ _).alloc (Nat.le_refl _) _
      have H0 : Hid (_) := And.intro bb (HV.below h bb)
      rw [h3] at c8
      unfold hnext
      rw [if_neg (by omega), if_neg (by omega), if_pos h3]
      clear h hb0 hx0 hs0 hU hv0 x0 hL hsn h5 h123 h3 bb
      unfold zU at *
      go_enter Tryz.func90, Tryz.ntmps90
      go_wp2_with fail
      refine bodyPost_ret (v := .agg #[.int .i64 3, .int .u32 0, .int .u32 (s.ss : Nat), .int .u32 0, .int .i64 0, .slice none 0 0]) (by simp [results, Tryz.results90, go_sem]) rfl ?_
      exact ⟨3, s.ss, 0, 0, none, 0, 0, fun _ => 0, rfl, ⟨U, Gr.below H0.out.1, H0.out.2, fun y hy => by cases hy⟩, rfl, row_nilX _ _⟩
    · have hD := hdata_any d P U s _ hv0 (hsn (by omega)) hL (by omega) (by omega) h3
      have H0 : Hid (_) := And.intro hb0 (And.intro hx0 (And.intro hs0 hU))
      have n1 : ((s.st : Int) == 1) = false := by simp; omega
      have n2 : ((s.st : Int) == 2) = false := by simp; omega
      have n3 : ((s.st : Int) == 3) = false := by simp; omega
      clear h hb0 hx0 hs0 hU hv0 x0 hL hsn h5 h123 h3 c9
      unfold zU at *
      go_enter Tryz.func90, Tryz.ntmps90
      go_wp2_with fail
      refine hD.mono ?_
      rintro e w2 ⟨k, ss, num, fl, a, len, cap, bs, rfl, h2⟩
      obtain ⟨hb0, hx0, hs0, hU⟩ := H0.out
      obtain ⟨⟨U2, g2, v2, far⟩, fm, row⟩ := h2.out
      have F2 := g2.far ⟨hs0, hU⟩
      have e2 := F2.2.trans hx0
      obtain ⟨⟨q0, q1, q2, q3, q4, q5⟩, fz⟩ := hsixC e2
      have f0 := fz 0
      have f1 := fz 1
      have f2 := fz 2
      have f3 := fz 3
      have f4 := fz 4
      have f5 := fz 5
      have hne : ∀ y, a = some y → y.block ≠ w.heap.size := fun y hy e => by
        rcases (far y hy).2.1 with hm | hm
        · rw [e] at hm; exact F2.1.2 hm
        · omega
      have H2 : Hid (_) := And.intro ((Gr.below (U := U) hb0).trans g2) (And.intro v2 (And.intro fm (And.intro row (And.intro far (And.intro F2.1 (And.intro hne hs0))))))
      clear hD h2 hb0 hx0 hs0 hU g2 v2 fm row far F2 e2 fz hne H0 c8
      go_wp2_with fail
      refine bodyPost_ret (v := .agg #[.int .i64 (k : Nat), .int .u32 0, .int .u32 (ss : Nat), .int .u32 (num : Nat), .int .i64 (fl : Nat), .slice a len cap]) (by simp [results, Tryz.results90, go_sem, q0, q1, q2, q3, q4, q5]) rfl ?_
      obtain ⟨g2, v2, fm, row, far, F2, hne, hs0⟩ := H2.out
      have oo := hsixO w.heap.size w2 (.int .i64 (k : Nat)) (.int .u32 0) (.int .u32 (ss : Nat)) (.int .u32 (num : Nat)) (.int .i64 (fl : Nat)) (.slice a len cap)
      exact ⟨k, ss, num, fl, a, len, cap, bs, rfl, ⟨U2, g2.new_ oo (Nat.le_refl _), v2.off oo (fun k hk hm => by simp at hm; subst hm; exact F2.2 hk), fun y hy => ⟨(far y hy).1, (far y hy).2.1.imp id (fun h => by omega), Nat.lt_of_lt_of_le (far y hy).2.2 oo.size⟩⟩, fm, row.off oo (fun y hy => by simpa using hne y hy)⟩
end Go.Proofs.YtndjepeolamedaaGreat
