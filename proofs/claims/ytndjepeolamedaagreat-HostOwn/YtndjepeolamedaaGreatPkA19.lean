/- Part 20 of the texts on which the proofs of layer 13 rest: contracts of Go functions. -/
import Derived.Test.YtndjepeolamedaaGreatPkA16
import Derived.Test.YtndjepeolamedaaGreatPkA17
import Derived.Test.YtndjepeolamedaaGreatPkA18
namespace Go.Proofs.YtndjepeolamedaaGreat
set_option maxRecDepth 100000
open Go.RowKit
theorem RVh.below {w w' : World} {d : Nat} {P : Pm} {U : List Nat} {s : Sh} (h : RVh w d P U s) (hb : Below w.heap.size w w') : RVh w' d P U s := by
  obtain ⟨B, h⟩ := h
  exact ⟨B, h.newd (Off.of_below hb)⟩
theorem RVh.ult {w : World} {d : Nat} {P : Pm} {U : List Nat} {s : Sh} (h : RVh w d P U s) (k : Nat) (hk : k ∈ U) : k < w.heap.size := by
  obtain ⟨B, h⟩ := h
  exact h.ltU k hk
set_option maxHeartbeats 3200000 in
theorem hrlatch_any (d : Nat) (P : Pm) (U : List Nat) (s : Sh) (x : Int) (w : World) (h : RVh w d P U s) (hx : x ≠ 0) (hL : s.L.length < 900000) :
    Calls Tryz.prog 92 #[.pointer (some ⟨d, 0, none⟩), .int .i64 x] w fun e w' => e = .returned (.tuple #[]) ∧ Hid (∃ U', Gr U w U' w' ∧ RVh w' d P U' (hlatch s x)) := by
  obtain ⟨B, h⟩ := h
  have hT := hrtripv_any d P U s B x w h hx
  have HL : Hid (_) := hL
  clear h hx hL
  unfold hlatch
  by_cases ht : vtripB s.v x = true
  · rw [if_pos ht]
    rw [ht] at hT
    go_enter Tryz.func92, Tryz.ntmps92
    go_wp2_with (go_at_call 152; refine hT.mono ?_; rintro e w2 ⟨rfl, h2⟩)
    obtain ⟨g2, B2, x2⟩ := h2.out
    have xd := x2.newd (Off.drew [] w2)
    have hN := hrnotev_any d P U _ B2 x w2.drew xd HL.out
    have c16 : w2.cell? ⟨d, 16, none⟩ = some (.int .u32 (s.ss : Nat)) := cell_of_row w2 d 16 _ _ _ x2.dev
    have c17 : w2.cell? ⟨d, 17, none⟩ = some (.int .u32 (s.nm : Nat)) := cell_of_row w2 d 17 _ _ _ x2.dev
    have H2 : Hid (_) := g2.trans (Gr.same (l := []) (Off.drew [] w2) (by simp))
    clear hT h2 g2 x2 xd
    go_region_with (go_at_call 61; refine hN.mono ?_; rintro e w3 ⟨rfl, h3⟩)
    all_goals
      clear hN c16 c17
      go_wp2_with fail
      go_end0
      obtain ⟨U3, B3, g3, x3⟩ := h3.out
      exact ⟨rfl, U3, H2.out.trans g3, B3, x3⟩
  · rw [if_neg ht]
    have ht' : vtripB s.v x = false := by simpa using ht
    rw [ht'] at hT
    go_enter Tryz.func92, Tryz.ntmps92
    go_wp2_with (go_at_call 152; refine hT.mono ?_; rintro e w2 ⟨rfl, h2⟩)
    go_end0
    obtain ⟨g2, B2, x2⟩ := h2.out
    exact ⟨rfl, U, g2, B2, x2⟩
set_option maxHeartbeats 3200000 in
theorem hron_any (d : Nat) (P : Pm) (U : List Nat) (s : Sh) (w : World) (h : RVh w d P U s) :
    Calls Tryz.prog 167 #[.pointer (some ⟨d, 0, none⟩)] w fun e w' => e = .returned (.tuple #[]) ∧ Hid (∃ U', Gr U w U' w' ∧ RVh w' d P U' (hon s)) := by
  obtain ⟨B, h⟩ := h
  have c7 : w.cell? ⟨d, 7, none⟩ = some (.int .i64 (s.dc : Nat)) := cell_of_row w d 7 _ _ _ h.dev
  have c19 : w.cell? ⟨d, 19, none⟩ = some (.bool s.wt) := cell_of_row w d 19 _ _ _ h.dev
  have c20 : w.cell? ⟨d, 20, none⟩ = some (.int .i64 (s.ms : Nat)) := cell_of_row w d 20 _ _ _ h.dev
  have z7 := h.fz 7
  have z19 := h.fz 19
  have z20 := h.fz 20
  have e1 : (w.setCell ⟨d, 19, none⟩ (.bool false)).heap[d]? = some (.cells (RHC P B.lv B.vv { s with wt := false } B.av) 149 (0, 0)) := heap_setCell_same _ _ _ _ _ _ h.dev
  have e2 : ((w.setCell ⟨d, 19, none⟩ (.bool false)).setCell ⟨d, 20, none⟩ (.int .i64 0)).heap[d]? = some (.cells (RHC P B.lv B.vv { s with wt := false, ms := 0 } B.av) 149 (0, 0)) := heap_setCell_same _ _ _ _ _ _ e1
  have e3 : (((w.setCell ⟨d, 19, none⟩ (.bool false)).setCell ⟨d, 20, none⟩ (.int .i64 0)).setCell ⟨d, 7, none⟩ (.int .i64 0)).heap[d]? = some (.cells (RHC P B.lv B.vv { s with wt := false, ms := 0, dc := 0 } B.av) 149 (0, 0)) := heap_setCell_same _ _ _ _ _ _ e2
  have o3 := ((Off.setCell d 19 w (.bool false)).trans (Off.setCell d 20 _ (.int .i64 0))).trans (Off.setCell d 7 _ (.int .i64 0))
  have x3 := h.own (s' := { s with wt := false, ms := 0, dc := 0 }) o3 e3 ⟨rfl, rfl⟩ rfl rfl h.vok (Nat.zero_le _)
  have hC := hrcomev_any d P U _ B _ x3
  have H2 : Hid (_) := Gr.same (U := U) o3 (by simp [h.kd.2])
  clear h e1 e2 e3 o3 x3
  go_enter Tryz.func167, Tryz.ntmps167
  go_wp2_with (go_at_call 187; refine hC.mono ?_; rintro e w3 ⟨rfl, h3⟩)
  go_end0
  obtain ⟨g3, B3, x3⟩ := h3.out
  exact ⟨rfl, U, H2.out.trans g3, B3, x3⟩
set_option maxHeartbeats 3200000 in
theorem hrframe_any (d : Nat) (P : Pm) (U : List Nat) (s : Sh) (k ss num fl : Nat) (a : Option Addr) (len cap : Nat) (bs : Nat → Nat) (w : World) (h : RVh w d P U s) (hr : Row8 w a len cap bs) (hss : ss < 4294967296) (hnum : num < 4294967296) :
    Calls Tryz.prog 94 #[.pointer (some ⟨d, 0, none⟩), .int .i64 (k : Nat), .int .u32 (ss : Nat), .int .u32 (num : Nat), .int .i64 (fl : Nat), .slice a len cap] w fun e w' => ∃ v, e = .returned v ∧ Hid (Fr w' w.heap.size v (encF k P.c ss num fl len bs) ∧ Below w.heap.size w w') := by
  obtain ⟨B, h⟩ := h
  have c0 : w.cell? ⟨d, 0, none⟩ = some (.int .u32 (P.c : Nat)) := cell_of_row w d 0 _ _ _ h.dev
  have fin : Calls Tryz.prog 96 #[.agg #[.int .i64 (k : Nat), .int .u32 (P.c : Nat), .int .u32 (ss : Nat), .int .u32 (num : Nat), .int .i64 (fl : Nat), .slice a len cap]] w fun e w' => ∃ v E, e = .returned (.tuple #[v, .int .i64 E]) ∧ Hid (Fr w' w.heap.size v (encF k P.c ss num fl len bs) ∧ Below w.heap.size w w') := by
    unfold encF
    by_cases hE : LW k P.c ss num fl len len = 0
    · rw [if_pos hE]
      refine (refEncode_good k P.c ss num fl a len cap bs w hr h.pok.c hss hnum hE).mono ?_
      rintro e w' ⟨v, rfl, h4⟩
      exact ⟨v, 0, rfl, h4.out.1, h4.out.2⟩
    · rw [if_neg hE]
      refine (refEncode_bad k P.c ss num fl a len cap w hE).mono ?_
      rintro e w' ⟨rfl, h4⟩
      exact ⟨_, _, rfl, own_nil _ _ _, h4⟩
  clear h hr hss hnum
  go_enter Tryz.func94, Tryz.ntmps94
  go_wp2_with fail
  refine fin.mono ?_
  rintro e w3 ⟨v, E, rfl, h3⟩
  clear fin
  go_wp2_with fail
  go_ret
  exact ⟨v, rfl, h3⟩
set_option maxHeartbeats 3200000 in
theorem hrack_any (d : Nat) (P : Pm) (U : List Nat) (s : Sh) (w : World) (h : RVh w d P U s) :
    Calls Tryz.prog 87 #[.pointer (some ⟨d, 0, none⟩)] w fun e w' => e = .returned (.int .i64 (hackE s)) ∧ Hid (∃ U', Gr U w U' w' ∧ RVh w' d P U' (hackS s)) := by
  obtain ⟨B, h⟩ := h
  have hA := hrackv_any d P U s B w h
  clear h
  unfold hackE hackS vackE
  cases hq : vreq s.v
  all_goals
    rw [hq] at hA
    go_enter Tryz.func87, Tryz.ntmps87
    go_wp2_with (go_at_call 138; refine hA.mono ?_; rintro e w2 ⟨rfl, h2⟩)
    go_ret
    obtain ⟨g2, B2, x2⟩ := h2.out
    exact ⟨rfl, U, g2, B2, x2⟩
set_option maxHeartbeats 3200000 in
theorem hrtick_any (d : Nat) (P : Pm) (U : List Nat) (s : Sh) (k : Int) (w : World) (h : RVh w d P U s) (hk : k ≤ 9223372036854775807) (hL : s.L.length < 800000) :
    Calls Tryz.prog 85 #[.pointer (some ⟨d, 0, none⟩), .int .i64 k] w fun e w' => e = .returned (.int .i64 (htickE k)) ∧ Hid (∃ U', Gr U w U' w' ∧ RVh w' d P U' (htickS P s k)) := by
  unfold htickE htickS
  by_cases hn : k < 0
  · rw [if_pos hn, if_pos hn]
    have H : Hid (_) := h
    clear h
    go_enter Tryz.func85, Tryz.ntmps85
    go_wp2_with fail
    go_ret
    exact ⟨rfl, U, Gr.refl _ _, H.out⟩
  · rw [if_neg hn, if_neg hn]
    obtain ⟨j, rfl⟩ : ∃ j : Nat, k = (j : Int) := ⟨k.toNat, by omega⟩
    rw [show (j : Int).toNat = j from rfl]
    obtain ⟨B, x⟩ := h
    have qT := hrticksv_any d P U s B j w x (by omega)
    have HL : Hid (_) := hL
    clear x hk hL
    cases ht : told P.t s.dc j
    · rw [if_neg (by simp)]
      rw [ht] at qT
      go_enter Tryz.func85, Tryz.ntmps85
      go_wp2_with (go_at_call 136; refine qT.mono ?_; rintro e w2 ⟨rfl, h2⟩)
      go_ret
      obtain ⟨g2, B2, x2⟩ := h2.out
      exact ⟨rfl, U, g2, B2, x2⟩
    · rw [if_pos rfl]
      rw [ht] at qT
      go_enter Tryz.func85, Tryz.ntmps85
      go_wp2_with (go_at_call 136; refine qT.mono ?_; rintro e w2 ⟨rfl, h2⟩)
      obtain ⟨g2, B2, x2⟩ := h2.out
      have hT := hrlatch_any d P U { s with dc := tk P.t s.dc j } 100 w2 ⟨B2, x2⟩ (by omega) (by have := HL.out; show s.L.length < 900000; omega)
      have H2 : Hid (_) := g2
      clear qT h2 g2 x2
      go_wp2_with (go_at_call 92; refine hT.mono ?_; rintro e w3 ⟨rfl, h3⟩)
      go_ret
      obtain ⟨U3, g3, x3⟩ := h3.out
      exact ⟨rfl, U3, H2.out.trans g3, x3⟩
end Go.Proofs.YtndjepeolamedaaGreat
namespace Go.Proofs.YtndjepeolamedaaGreat
set_option maxRecDepth 100000
open Go.RowKit
def OutR (U : List Nat) (w w' : World) (d m g n mx : Nat) (P : Pm) (s : Sd) (f : Fm) (v : Value) : Prop :=
  ∃ U', Gr U w U' w' ∧ RW w' d m g n mx P U' s ∧ Fr w' w.heap.size v f ∧ ∀ k, v.ownBlock = some k → k ∉ U'
theorem OutR.mk {U U1 : List Nat} {w w1 w2 : World} {d m g n mx : Nat} {P : Pm} {s : Sd} {f : Fm} {v : Value} (h : Gr U w U1 w1) (x : RW w1 d m g n mx P U1 s) (hf : Fr w2 w1.heap.size v f) (hb : Below w1.heap.size w1 w2) : OutR U w w2 d m g n mx P s f v :=
  ⟨U1, h.trans (Gr.below hb), x.below hb, own_base hf h.off.size, fun k hk hm => by have := x.ult k hm; have := hf.ge k hk; omega⟩
end Go.Proofs.YtndjepeolamedaaGreat
namespace Go.Proofs.YtndjepeolamedaaGreat
set_option maxRecDepth 100000
open Go.RowKit
theorem OutR.next {U U1 U2 : List Nat} {w w1 w2 : World} {d m g n mx : Nat} {P : Pm} {s : Sd} {f : Fm} {v : Value} (g1 : Gr U w U1 w1) (hf : Fr w1 w.heap.size v f) (hk : ∀ k, v.ownBlock = some k → k ∉ U1) (g2 : Gr U1 w1 U2 w2) (x2 : RW w2 d m g n mx P U2 s) : OutR U w w2 d m g n mx P s f v :=
  ⟨U2, g1.trans g2, x2, own_offk hf g2.off hk, fun k e => g2.out (hf.lt k e) (hk k e)⟩
end Go.Proofs.YtndjepeolamedaaGreat
namespace Go.Proofs.YtndjepeolamedaaGreat
set_option maxRecDepth 100000
open Go.RowKit
theorem RB.appd {w w1 w2 : World} {d m g n mx : Nat} {P : Pm} {U : List Nat} {s s' : Sd} {B : Bk2} {A A' : Prop} (h : RB w d m g n mx P U s B A) {v : Value} {bs : Nat → Nat} (hb : Below w.heap.size w w1) (ho : w1.ownsRow w.heap.size 5 1 v P.i (CB bs P.i)) (hy : ∀ i, i < P.i → bs i < 256) (o : Off [d] w1 w2)
    (e : w2.heap[d]? = some (.cells (RDC P m mx B.cp B.lv B.vv s' v) 128 (0, 0))) (h1 : s'.ms = s.ms) (h2 : s'.dc = s.dc) (h3 : s'.v = s.v) (h4 : s'.L = s.L) (h5 : s'.ap = bs) (h6 : A' → A) :
    ∃ U' B', Gr U w U' w2 ∧ RB w2 d m g n mx P U' s' B' A' := by
  have x1 := h.newd (Off.of_below (l := []) hb)
  have hd := h.dlt
  have hn : ∀ k, B.col k ≠ 0 → k ∉ [d] := fun k hk hm => by simp at hm; rw [hm, h.kd.1] at hk; exact hk rfl
  have hge : ∀ k, v.ownBlock = some k → w.heap.size ≤ k := fun k hk => Fr.ge (f := (P.i, bs)) ho k hk
  have hlt : ∀ k, v.ownBlock = some k → k < w1.heap.size := fun k hk => Fr.lt (f := (P.i, bs)) ho k hk
  have hq : ∀ k x, B.col k = x ∧ k ∈ U → (if k < w.heap.size then B.col k else 6) = x ∧ k ∈ v.ownBlock.toList ++ U := fun k x hk => ⟨by rw [if_pos (h.ltU k hk.2)]; exact hk.1, List.mem_append.2 (.inr hk.2)⟩
  refine ⟨v.ownBlock.toList ++ U, { B with av := v, col := fun k => if k < w.heap.size then B.col k else 6 }, ⟨(Off.of_below hb).trans (o.more (by simp [h.kd.2])), fun k hk => ?_⟩, ?_⟩
  · rcases List.mem_append.1 hk with hk | hk
    · exact .inr (hge k (by simpa using hk))
    · exact .inl hk
  · refine ⟨e, ?_, ?_, ?_, ?_, ?_, h5 ▸ hy, h3 ▸ h.vok, h2 ▸ h.dcl, ?_, hq _ _ h.kd, hq _ _ h.km, hq _ _ h.kg, hq _ _ h.kc, fun k hk => hq _ _ (h.kM k hk), fun k hk => hq _ _ (h.kl k hk), ?_, h.pok, h.n10, h.mx0, h.mxl, fun e => h.nl (by rw [← h4]; exact e)⟩
    · rw [h1]; exact x1.mem.off o (hn _ (by rw [h.km.1]; omega)) (hn _ (by rw [h.kg.1]; omega))
    · intro hs
      obtain ⟨c1, c2, c3⟩ := x1.cel (h6 hs)
      rw [h1]
      exact ⟨c1, c2.off o (hn _ (by rw [h.kc.1]; omega)), c3⟩
    · rw [h3]; exact x1.val.off o (fun k hk hM => by simp at hk; subst hk; have := (h.kM _ hM).1; rw [h.kd.1] at this; omega)
    · rw [h4]; exact own_offk x1.log o (fun k hk => hn _ (by rw [(h.kl k hk).1]; omega))
    · rw [h5]; exact own_offk (own_base ho (Nat.zero_le _)) o (fun k hk => by have := hge k hk; simp; omega)
    · intro k hk
      rcases List.mem_append.1 hk with hk | hk
      · exact Nat.lt_of_lt_of_le (hlt k (by simpa using hk)) o.size
      · exact Nat.lt_of_lt_of_le (x1.ltU k hk) o.size
    · intro k hk
      have := hge k hk
      exact ⟨by show (if k < w.heap.size then _ else 6) = 6; rw [if_neg (by omega)], List.mem_append.2 (.inl (by simpa using hk))⟩
end Go.Proofs.YtndjepeolamedaaGreat
namespace Go.Proofs.YtndjepeolamedaaGreat
set_option maxRecDepth 100000
open Go.RowKit
theorem RH.appd {w w1 w2 : World} {d : Nat} {P : Pm} {U : List Nat} {s s' : Sh} {B : Bk3} (h : RH w d P U s B) {v : Value} {bs : Nat → Nat} (hb : Below w.heap.size w w1) (ho : w1.ownsRow w.heap.size 5 1 v P.o (CB bs P.o)) (hy : ∀ i, i < P.o → bs i < 256) (o : Off [d] w1 w2)
    (e : w2.heap[d]? = some (.cells (RHC P B.lv B.vv s' v) 149 (0, 0))) (h2 : s'.dc = s.dc) (h3 : s'.v = s.v) (h4 : s'.L = s.L) (h5 : s'.ap = bs) :
    ∃ U' B', Gr U w U' w2 ∧ RH w2 d P U' s' B' := by
  have x1 := h.newd (Off.of_below (l := []) hb)
  have hd := h.dlt
  have hn : ∀ k, B.col k ≠ 0 → k ∉ [d] := fun k hk hm => by simp at hm; rw [hm, h.kd.1] at hk; exact hk rfl
  have hge : ∀ k, v.ownBlock = some k → w.heap.size ≤ k := fun k hk => Fr.ge (f := (P.o, bs)) ho k hk
  have hlt : ∀ k, v.ownBlock = some k → k < w1.heap.size := fun k hk => Fr.lt (f := (P.o, bs)) ho k hk
  have hq : ∀ k x, B.col k = x ∧ k ∈ U → (if k < w.heap.size then B.col k else 6) = x ∧ k ∈ v.ownBlock.toList ++ U := fun k x hk => ⟨by rw [if_pos (h.ltU k hk.2)]; exact hk.1, List.mem_append.2 (.inr hk.2)⟩
  refine ⟨v.ownBlock.toList ++ U, { B with av := v, col := fun k => if k < w.heap.size then B.col k else 6 }, ⟨(Off.of_below hb).trans (o.more (by simp [h.kd.2])), fun k hk => ?_⟩, ?_⟩
  · rcases List.mem_append.1 hk with hk | hk
    · exact .inr (hge k (by simpa using hk))
    · exact .inl hk
  · refine ⟨e, ?_, ?_, ?_, h5 ▸ hy, h3 ▸ h.vok, h2 ▸ h.dcl, ?_, hq _ _ h.kd, fun k hk => hq _ _ (h.kM k hk), fun k hk => hq _ _ (h.kl k hk), ?_, h.pok, fun e => h.nl (by rw [← h4]; exact e)⟩
    · rw [h3]; exact x1.val.off o (fun k hk hM => by simp at hk; subst hk; have := (h.kM _ hM).1; rw [h.kd.1] at this; omega)
    · rw [h4]; exact own_offk x1.log o (fun k hk => hn _ (by rw [(h.kl k hk).1]; omega))
    · rw [h5]; exact own_offk (own_base ho (Nat.zero_le _)) o (fun k hk => by have := hge k hk; simp; omega)
    · intro k hk
      rcases List.mem_append.1 hk with hk | hk
      · exact Nat.lt_of_lt_of_le (hlt k (by simpa using hk)) o.size
      · exact Nat.lt_of_lt_of_le (x1.ltU k hk) o.size
    · intro k hk
      have := hge k hk
      exact ⟨by show (if k < w.heap.size then _ else 6) = 6; rw [if_neg (by omega)], List.mem_append.2 (.inl (by simpa using hk))⟩
set_option maxHeartbeats 1600000 in
theorem hrwrite_any (d : Nat) (P : Pm) (U : List Nat) (s : Sh) (a : Option Addr) (len cap : Nat) (bs : Nat → Nat) (o : Bool) (w : World) (h : RVh w d P U s) (hr : Row8 w a len cap bs) :
    Calls Tryz.prog 45 #[.pointer (some ⟨d, 0, none⟩), .slice a len cap, .bool o] w fun e w' => e = .returned (.int .i64 (hwriteE P len)) ∧ Hid (∃ U', Gr U w U' w' ∧ RVh w' d P U' (hwriteS P s len bs o)) := by
  obtain ⟨B, x⟩ := id h
  have c1 : w.cell? ⟨d, 1, none⟩ = some (.int .i64 (P.o : Nat)) := cell_of_row w d 1 _ _ _ x.dev
  unfold hwriteE hwriteS
  by_cases hl : len = P.o
  · subst hl
    rw [if_pos rfl, if_pos rfl]
    obtain ⟨i0, hi, hz0, hz1, hz2⟩ := info_parts info_u8
    have hbd := build0D
    have hbelA : Below w.heap.size w (w.alloc (.cells #[] 5)) := (Below.refl _ _).alloc (Nat.le_refl _) _
    have R0 := hr.below hbelA
    have O0 := own0D w.heap.size bs w (Nat.le_refl _)
    have hszA := hbelA.size
    have hi8 := x.pok.o8
    have hdl := x.dlt
    have HX' : Hid (_) := And.intro x hr.byte
    clear h x hr
    go_enter Tryz.func45, Tryz.ntmps45
    go_wp2_with (at_builtin; refine wpList_append_row8 rfl (.tmp 16) (.tmp 17) 22 rfl w.heap.size 5 i0 (.int .u8 0) Tryz.underlying22 hi hz0 hz1 hz2 rfl _ 0 _ rfl O0 a P.o cap bs rfl R0 (by unfold maxLen; omega) (by omega) hszA ?_)
    intro v2 w2 hown2 hgrow2
    have hbel2 : Below w.heap.size w w2 := hbelA.grown hgrow2 hszA (fun k hk => (O0.lt k hk).1)
    rw [show CB bs 0 = [] from rfl, List.nil_append] at hown2
    have hown3 : w2.ownsRow w.heap.size 5 1 v2 P.o (CB bs P.o) := by simpa using hown2
    obtain ⟨a2, k2, rfl, _⟩ := own_row8 hown3 HX'.out.2
    have x2 := HX'.out.1.newd (Off.of_below hbel2)
    have y21 : w2.cell? ⟨d, 21, none⟩ = some B.av := cell_of_row w2 d 21 _ _ _ x2.dev
    have y22 : w2.cell? ⟨d, 22, none⟩ = some (.bool s.hd) := cell_of_row w2 d 22 _ _ _ x2.dev
    have f21 := x2.fz 21
    have f22 := x2.fz 22
    have H2 : Hid (_) := And.intro hown3 (And.intro hbel2 x2)
    clear hown2 hown3 hbel2 hgrow2 O0 R0 hbelA hszA x2 c1
    go_wp2_with fail
    go_ret
    obtain ⟨h1, h2, x2⟩ := H2.out
    have e1 : (w2.setCell ⟨d, 21, none⟩ (.slice a2 P.o k2)).heap[d]? = some (.cells (RHC P B.lv B.vv s (.slice a2 P.o k2)) 149 (0, 0)) := heap_setCell_same _ _ _ _ _ _ x2.dev
    have e2 : ((w2.setCell ⟨d, 21, none⟩ (.slice a2 P.o k2)).setCell ⟨d, 22, none⟩ (.bool o)).heap[d]? = some (.cells (RHC P B.lv B.vv { s with ap := bs, hd := o } (.slice a2 P.o k2)) 149 (0, 0)) := heap_setCell_same _ _ _ _ _ _ e1
    obtain ⟨U3, B3, g3, x3⟩ := HX'.out.1.appd (s' := { s with ap := bs, hd := o }) h2 h1 HX'.out.2 ((Off.setCell d 21 w2 (.slice a2 P.o k2)).trans (Off.setCell d 22 _ (.bool o))) e2 rfl rfl rfl rfl
    exact ⟨rfl, U3, g3, B3, x3⟩
  · rw [if_neg hl, if_neg hl]
    have el : ((len : Int) != (P.o : Int)) = true := by simp; omega
    have H : Hid (_) := h
    clear h x hr hl
    go_enter Tryz.func45, Tryz.ntmps45
    go_wp2_with fail
    go_ret
    exact ⟨rfl, U, Gr.refl _ _, H.out⟩
end Go.Proofs.YtndjepeolamedaaGreat
