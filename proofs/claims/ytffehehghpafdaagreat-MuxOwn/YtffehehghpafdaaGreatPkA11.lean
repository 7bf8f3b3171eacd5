/- Part 12 of the texts on which the proofs of layer 13 rest: contracts of Go functions. -/
import Derived.OpenShut
import Derived.Deep.RegionWith
import Derived.Test.YtffehehghpafdaaGreatPkA04
import Derived.Test.YtffehehghpafdaaGreatPkA06
import Derived.Test.YtffehehghpafdaaGreatPkA09
import Derived.Test.YtffehehghpafdaaGreatPkA10
namespace Go.Proofs.YtffehehghpafdaaGreat
set_option maxRecDepth 100000
open Go.RowKit
theorem nx_vz {mx n : Nat} {s : Ms} (hn : 10 ≤ n) (ho : s.off = false) (hl : 0 ≤ s.l) (hmx : mx < 4294967296) :
    ((nx mx n s.bs false s).e = 0 → (nx mx n s.bs false s).v = vz s.bs + 1 ∧ vz (nx mx n s.bs false s).s.bs = vz s.bs + 1 ∧ vz s.bs < mx) ∧ ((nx mx n s.bs false s).e ≠ 0 → vz (nx mx n s.bs false s).s.bs = vz s.bs) := by
  unfold nx
  rw [if_neg (by simp [ho])]
  by_cases hm : mx ≤ vz s.bs
  · rw [if_pos hm]
    exact ⟨fun e => (by cases e), fun _ => rfl⟩
  · rw [if_neg hm]
    rcases sq_all n (six (tg s.bs) (vz s.bs + 1)) s (fun x hx => (six_in _ _ n (tg_lt _) hn x hx).1) ho hl with ⟨h1, h2, _⟩ | ⟨h1, h2, _, h4⟩
    · rw [if_pos h1]
      refine ⟨fun _ => ⟨rfl, ?_, by omega⟩, fun e => absurd rfl e⟩
      show vz (sqS n (six (tg s.bs) (vz s.bs + 1)) s).bs = _
      rw [h2]
      exact vz_next _ _ (by omega) (by omega)
    · rw [if_neg (by omega)]
      refine ⟨fun e => (by cases e), fun _ => ?_⟩
      show vz (sqS n (six (tg s.bs) (vz s.bs + 1)) s).bs = _
      rw [h2]
      refine vz_cut _ _ _ ?_
      have : (six (tg s.bs) (vz s.bs + 1)).length = 6 := rfl
      omega
theorem opS_vz {mx n : Nat} {s : Ms} (hl : 0 ≤ s.l) (hz : Bz s.bs) : vz (opS mx n s).bs = vz s.bs := by
  unfold opS
  by_cases h1 : mx = 0 ∨ n < 10
  · rw [if_pos h1]
  · rw [if_neg h1]
    by_cases h2 : s.off = true
    · rw [if_pos h2]
    · rw [if_neg h2]
      rcases sq_all n (mend s.bs) s (fun x hx => (mend_in s.bs n (by omega) x hx).1) (by simpa using h2) hl with ⟨_, e, _⟩ | ⟨_, e, _⟩
      · rw [e]
        have := vz_mend s.bs (mend s.bs).length hz
        rwa [List.take_length] at this
      · rw [e]
        exact vz_mend s.bs _ hz
theorem dodd_idle {s : Sd} (h : s.st = 1) : dodd s = s := by
  unfold dodd dbusy
  rw [h]
  rfl
theorem dwish_idle (P : Pm) (mx n : Nat) {s : Sd} (h : s.st = 1) : dwish P mx n s = dbegin P mx n s := by
  unfold dwish
  rw [dodd_idle h, h]
  rfl
theorem ses_begin (P : Pm) (mx n : Nat) {s : Sd} (hn : 10 ≤ n) (ho : s.ms.off = false) (hl : 0 ≤ s.ms.l) (hmx : mx < 4294967296) :
    ((dbegin P mx n s).e = 0 → (dbegin P mx n s).s.ss = vz s.ms.bs + 1 ∧ vz (dbegin P mx n s).s.ms.bs = vz s.ms.bs + 1) ∧ ((dbegin P mx n s).e ≠ 0 → vz (dbegin P mx n s).s.ms.bs = vz s.ms.bs) ∧ (dbegin P mx n s).s.ms.t ≤ s.ms.t + 6 := by
  have hv := nx_vz (mx := mx) hn ho hl hmx
  have ht := nx_t mx n s.ms.bs false s.ms hn hl
  unfold dbegin
  generalize nx mx n s.ms.bs false s.ms = x at *
  by_cases h1 : x.e = 80
  · rw [if_pos h1]
    have hm : (dleave (dlatch { s with ms := x.s } 80) 5).ms = x.s := by show (dlatch { s with ms := x.s } 80).ms = x.s; rw [dlatch_ms]
    refine ⟨fun e => (by cases e), fun _ => ?_, ?_⟩
    · show vz (dleave (dlatch { s with ms := x.s } 80) 5).ms.bs = _
      rw [hm]; exact hv.2 (by omega)
    · show (dleave (dlatch { s with ms := x.s } 80) 5).ms.t ≤ _
      rw [hm]; exact ht
  · rw [if_neg h1]
    by_cases h2 : x.e = 0
    · rw [if_neg (by omega)]
      exact ⟨fun _ => ⟨(hv.1 h2).1, (hv.1 h2).2.1⟩, fun e => absurd rfl e, ht⟩
    · rw [if_pos h2]
      exact ⟨fun e => absurd e h2, fun _ => hv.2 h2, ht⟩
theorem ses_recv (P : Pm) (hP : Pok P) (mx n : Nat) {s : Sd} (hs : s.st = 1) (hn : 10 ≤ n) (ho : s.ms.off = false) (hl : 0 ≤ s.ms.l) (hmx : mx < 4294967296) :
    ((drecv P mx n s (wishF P).1 (wishF P).2).e = 0 → (drecv P mx n s (wishF P).1 (wishF P).2).s.ss = vz s.ms.bs + 1 ∧ vz (drecv P mx n s (wishF P).1 (wishF P).2).s.ms.bs = vz s.ms.bs + 1) ∧ ((drecv P mx n s (wishF P).1 (wishF P).2).e ≠ 0 → vz (drecv P mx n s (wishF P).1 (wishF P).2).s.ms.bs = vz s.ms.bs) ∧
      (drecv P mx n s (wishF P).1 (wishF P).2).s.ms.t ≤ s.ms.t + 6 ∧ (drecv P mx n s (wishF P).1 (wishF P).2).s.L.length ≤ s.L.length + 3 := by
  have hb := ses_begin P mx n hn ho hl hmx
  have hL := dbegin_len P mx n s
  unfold drecv
  rw [if_neg (by omega), hear_wish P hP, dwish_idle P mx n hs]
  by_cases he : (dbegin P mx n s).e ≠ 0 ∧ (dbegin P mx n s).e ≠ 70
  · rw [if_pos he]
    refine ⟨fun e => absurd e he.1, fun _ => hb.2.1 he.1, hb.2.2, ?_⟩
    show ((dbegin P mx n s).s.L ++ [_]).length ≤ _
    simp; omega
  · rw [if_neg he]
    exact ⟨hb.1, hb.2.1, hb.2.2, by omega⟩
theorem rsM_zero (s : Ms) : rsM s 0 = { s with off := false, ar := false } := if_neg (by omega)
theorem reset_zero {mx n : Nat} (s : Sd) (hm : mx ≠ 0) (hn : 10 ≤ n) (hl : 0 ≤ s.ms.l) : dresetE mx n s 0 = 0 := by
  unfold dresetE
  rw [if_neg (by omega), rsM_zero]
  unfold opE
  rw [if_neg (by omega), if_neg (by simp)]
  rcases sq_all n (mend s.ms.bs) { s.ms with off := false, ar := false } (fun x hx => (mend_in s.ms.bs n hn x hx).1) rfl hl with ⟨e, _⟩ | ⟨_, _, e, _⟩
  · exact e
  · cases e
theorem reset_vz {mx n : Nat} (s : Sd) (k : Int) (hz : Bz s.ms.bs) (hl : 0 ≤ s.ms.l) : vz (dresetS mx n s k).ms.bs = vz s.ms.bs ∧ (dresetS mx n s k).ms.t ≤ s.ms.t + 6 ∧ (dresetS mx n s k).L = s.L := by
  unfold dresetS
  by_cases hk : k < 0
  · rw [if_pos hk]; exact ⟨rfl, by omega, rfl⟩
  · rw [if_neg hk]
    have hb : (rsM s.ms k).bs = s.ms.bs ∧ (rsM s.ms k).t = s.ms.t ∧ 0 ≤ (rsM s.ms k).l := by
      unfold rsM arS
      split
      · split
        · exact ⟨rfl, rfl, hl⟩
        · exact ⟨rfl, rfl, by show 0 ≤ k - 1; omega⟩
      · exact ⟨rfl, rfl, hl⟩
    refine ⟨?_, ?_, rfl⟩
    · show vz (opS mx n (rsM s.ms k)).bs = _
      rw [opS_vz hb.2.2 (by rw [hb.1]; exact hz), hb.1]
    · have := opS_t mx n (rsM s.ms k) hb.2.2
      show (opS mx n (rsM s.ms k)).t ≤ _
      omega
theorem reset_idle {mx n : Nat} (s : Sd) (h : dresetE mx n s 0 = 0) : (dresetS mx n s 0).st = 1 ∧ (dresetS mx n s 0).sn = 0 ∧ (dresetS mx n s 0).od = 0 := by
  unfold dresetE at h
  rw [if_neg (by omega)] at h
  unfold dresetS
  rw [if_neg (by omega), if_pos h]
  exact ⟨rfl, rfl, rfl⟩
theorem DV.facts {w : World} {d m g n mx : Nat} {P : Pm} {U : List Nat} {s : Sd} (h : DV w d m g n mx P U s) : Bz s.ms.bs ∧ 0 ≤ s.ms.l ∧ 10 ≤ n ∧ mx ≠ 0 ∧ mx < 4294967296 ∧ (s.st ≠ 6 → s.ms.off = false) := by
  obtain ⟨B, x⟩ := h
  exact ⟨fun i hi => x.mem.byte i (by have := x.n10; omega), x.mem.l0, x.n10, x.mx0, x.mxl, fun hs => (x.cel hs).2.2⟩
theorem dvarm_any (d m g n mx : Nat) (P : Pm) (U : List Nat) (s : Sd) (p : Int) (w : World) (h : DV w d m g n mx P U s) (hp : p ≤ 9223372036854775807) :
    Calls Tryz.prog 45 #[.pointer (some ⟨m, 0, none⟩), .int .i64 p] w fun e w' => e = .returned (.int .i64 (arE p)) ∧ Hid (∃ U', Gr U w U' w' ∧ DV w' d m g n mx P U' { s with ms := arS s.ms p }) := by
  obtain ⟨B, x⟩ := h
  refine (arm_any m g n s.ms p w x.mem hp).mono ?_
  rintro e w' ⟨rfl, o, m'⟩
  refine ⟨rfl, U, Gr.same (o.more (m := [m, g, B.c]) (by simp)) x.memU, B, x.memd (o.more (by simp)) m' (A' := s.st ≠ 6) (fun hs => ?_)⟩
  obtain ⟨c1, c2, c3⟩ := x.cel hs
  have hne : B.c ∉ [m] := fun hm => by simp at hm; have := x.kc.1; rw [hm, x.km.1] at this; omega
  have e1 : (arS s.ms p).bs = s.ms.bs := by unfold arS; split <;> rfl
  have e2 : (arS s.ms p).off = s.ms.off := by unfold arS; split <;> rfl
  rw [e1, e2]
  exact ⟨c1, c2.off o hne, c3⟩
end Go.Proofs.YtffehehghpafdaaGreat
namespace Go.Proofs.YtffehehghpafdaaGreat
set_option maxRecDepth 100000
open Go.RowKit
def OutR (U : List Nat) (w w' : World) (d m g n mx : Nat) (P : Pm) (s : Sd) (f : Fm) (v : Value) : Prop :=
  ∃ U', Gr U w U' w' ∧ RW w' d m g n mx P U' s ∧ Fr w' w.heap.size v f ∧ ∀ k, v.ownBlock = some k → k ∉ U'
theorem OutR.mk {U U1 : List Nat} {w w1 w2 : World} {d m g n mx : Nat} {P : Pm} {s : Sd} {f : Fm} {v : Value} (h : Gr U w U1 w1) (x : RW w1 d m g n mx P U1 s) (hf : Fr w2 w1.heap.size v f) (hb : Below w1.heap.size w1 w2) : OutR U w w2 d m g n mx P s f v :=
  ⟨U1, h.trans (Gr.below hb), x.below hb, own_base hf h.off.size, fun k hk hm => by have := x.ult k hm; have := hf.ge k hk; omega⟩
theorem OutR.none_ {U U1 : List Nat} {w w1 : World} {d m g n mx : Nat} {P : Pm} {s : Sd} (h : Gr U w U1 w1) (x : RW w1 d m g n mx P U1 s) : OutR U w w1 d m g n mx P s fm0 (.slice none 0 0) :=
  ⟨U1, h, x, own_nil _ _ _, fun k hk => by cases hk⟩
theorem RB.memd {w w' : World} {d m g n mx : Nat} {P : Pm} {U : List Nat} {s : Sd} {B : Bk2} {A A' : Prop} (h : RB w d m g n mx P U s B A) (q : Off [m, g, B.c] w w') {ms : Ms} (e : RR w' m g n ms) (hc : A' → B.cp = .pointer (some ⟨B.c, 0, none⟩) ∧ RX w' B.c m mx (vz ms.bs) false ∧ ms.off = false) :
    RB w' d m g n mx P U { s with ms := ms } B A' := by
  have hn : ∀ k, B.col k ≠ 1 → B.col k ≠ 2 → k ∉ [m, g, B.c] := fun k hk h2 hm => by
    simp at hm
    rcases hm with hm | hm | hm
    · rw [hm] at hk; exact hk h.km.1
    · rw [hm] at hk; exact hk h.kg.1
    · rw [hm] at h2; exact h2 h.kc.1
  refine ⟨(q.block d h.dlt (hn _ (by rw [h.kd.1]; omega) (by rw [h.kd.1]; omega))).trans h.dev, e, hc, ?_, ?_, ?_, h.apb, h.vok, h.dcl, fun k hk => Nat.lt_of_lt_of_le (h.ltU k hk) q.size, h.kd, h.km, h.kg, h.kc, h.kM, h.kl, h.ka, h.pok, h.n10, h.mx0, h.mxl, h.nl⟩
  · exact h.val.off q (fun k hk hM => hn k (by rw [(h.kM k hM).1]; omega) (by rw [(h.kM k hM).1]; omega) hk)
  · exact own_offk h.log q (fun k hk => hn _ (by rw [(h.kl k hk).1]; omega) (by rw [(h.kl k hk).1]; omega))
  · exact own_offk h.app q (fun k hk => hn _ (by rw [(h.ka k hk).1]; omega) (by rw [(h.ka k hk).1]; omega))
theorem RB.memU {w : World} {d m g n mx : Nat} {P : Pm} {U : List Nat} {s : Sd} {B : Bk2} {A : Prop} (h : RB w d m g n mx P U s B A) : ∀ k, k ∈ [m, g, B.c] → k ∈ U := fun k hk => by
  simp at hk
  rcases hk with hk | hk | hk
  · rw [hk]; exact h.km.2
  · rw [hk]; exact h.kg.2
  · rw [hk]; exact h.kc.2
end Go.Proofs.YtffehehghpafdaaGreat
namespace Go.Proofs.YtffehehghpafdaaGreat
set_option maxRecDepth 100000
open Go.RowKit
theorem OutR.pre {U U1 : List Nat} {w w1 w2 : World} {d m g n mx : Nat} {P : Pm} {s : Sd} {f : Fm} {v : Value} (h : Gr U w U1 w1) (x : OutR U1 w1 w2 d m g n mx P s f v) : OutR U w w2 d m g n mx P s f v := by
  obtain ⟨U', g2, x2, f2, k2⟩ := x
  exact ⟨U', h.trans g2, x2, own_base f2 h.off.size, k2⟩
theorem OutR.next {U U1 U2 : List Nat} {w w1 w2 : World} {d m g n mx : Nat} {P : Pm} {s : Sd} {f : Fm} {v : Value} (g1 : Gr U w U1 w1) (hf : Fr w1 w.heap.size v f) (hk : ∀ k, v.ownBlock = some k → k ∉ U1) (g2 : Gr U1 w1 U2 w2) (x2 : RW w2 d m g n mx P U2 s) : OutR U w w2 d m g n mx P s f v :=
  ⟨U2, g1.trans g2, x2, own_offk hf g2.off hk, fun k e => g2.out (hf.lt k e) (hk k e)⟩
end Go.Proofs.YtffehehghpafdaaGreat
namespace Go.Proofs.YtffehehghpafdaaGreat
set_option maxRecDepth 100000
open Go.RowKit
end Go.Proofs.YtffehehghpafdaaGreat
namespace Go.Proofs.YtffehehghpafdaaGreat
set_option maxRecDepth 100000
open Go.RowKit
end Go.Proofs.YtffehehghpafdaaGreat
namespace Go.Proofs.YtffehehghpafdaaGreat
set_option maxRecDepth 100000
open Go.RowKit
theorem lifeZ {w : World} {d m mx : Nat} {P : Pm} {cp : Value} (h : w.heap[d]? = some (.cells #[.int .u32 (P.c : Nat), .int .i64 (P.o : Nat), .int .i64 (P.i : Nat), .int .i64 (P.t : Nat), .int .u32 (P.n : Nat), .pointer (some ⟨m, 0, none⟩), .int .u32 (mx : Nat), cp, .slice none 0 0, .int .i64 0, .int .i64 0, .int .i64 0, .bool false, .bool false, .bool false, .int .i64 0, .slice none 0 0, .bool false, .int .i64 0, .int .u32 0, .int .u32 0, .int .u32 0, .int .i64 0, .slice none 0 0, .bool false] 60 (0, 0))) :
    ((((((((((((((w.setCell ⟨d, 9, none⟩ (.int .i64 (P.t : Nat))).setCell ⟨d, 10, none⟩ (.int .i64 0)).setCell ⟨d, 11, none⟩ (.int .i64 (P.o : Nat))).setCell ⟨d, 12, none⟩ (.bool false)).setCell ⟨d, 13, none⟩ (.bool false)).setCell ⟨d, 14, none⟩ (.bool false)).setCell ⟨d, 15, none⟩ (.int .i64 0)).setCell ⟨d, 16, none⟩ (.slice none 0 0)).setCell ⟨d, 17, none⟩ (.bool false)).setCell ⟨d, 18, none⟩ (.int .i64 1)).setCell ⟨d, 19, none⟩ (.int .u32 0)).setCell ⟨d, 20, none⟩ (.int .u32 0)).setCell ⟨d, 21, none⟩ (.int .u32 0)).setCell ⟨d, 22, none⟩ (.int .i64 0)).heap[d]? = some (.cells #[.int .u32 (P.c : Nat), .int .i64 (P.o : Nat), .int .i64 (P.i : Nat), .int .i64 (P.t : Nat), .int .u32 (P.n : Nat), .pointer (some ⟨m, 0, none⟩), .int .u32 (mx : Nat), cp, .slice none 0 0, .int .i64 (P.t : Nat), .int .i64 0, .int .i64 (P.o : Nat), .bool false, .bool false, .bool false, .int .i64 0, .slice none 0 0, .bool false, .int .i64 1, .int .u32 0, .int .u32 0, .int .u32 0, .int .i64 0, .slice none 0 0, .bool false] 60 (0, 0)) ∧ Off [d] w ((((((((((((((w.setCell ⟨d, 9, none⟩ (.int .i64 (P.t : Nat))).setCell ⟨d, 10, none⟩ (.int .i64 0)).setCell ⟨d, 11, none⟩ (.int .i64 (P.o : Nat))).setCell ⟨d, 12, none⟩ (.bool false)).setCell ⟨d, 13, none⟩ (.bool false)).setCell ⟨d, 14, none⟩ (.bool false)).setCell ⟨d, 15, none⟩ (.int .i64 0)).setCell ⟨d, 16, none⟩ (.slice none 0 0)).setCell ⟨d, 17, none⟩ (.bool false)).setCell ⟨d, 18, none⟩ (.int .i64 1)).setCell ⟨d, 19, none⟩ (.int .u32 0)).setCell ⟨d, 20, none⟩ (.int .u32 0)).setCell ⟨d, 21, none⟩ (.int .u32 0)).setCell ⟨d, 22, none⟩ (.int .i64 0)) := by
  have e0 : (w.setCell ⟨d, 9, none⟩ (.int .i64 (P.t : Nat))).heap[d]? = some (.cells #[.int .u32 (P.c : Nat), .int .i64 (P.o : Nat), .int .i64 (P.i : Nat), .int .i64 (P.t : Nat), .int .u32 (P.n : Nat), .pointer (some ⟨m, 0, none⟩), .int .u32 (mx : Nat), cp, .slice none 0 0, .int .i64 (P.t : Nat), .int .i64 0, .int .i64 0, .bool false, .bool false, .bool false, .int .i64 0, .slice none 0 0, .bool false, .int .i64 0, .int .u32 0, .int .u32 0, .int .u32 0, .int .i64 0, .slice none 0 0, .bool false] 60 (0, 0)) := heap_setCell_same _ _ _ _ _ _ h
  have e1 : ((w.setCell ⟨d, 9, none⟩ (.int .i64 (P.t : Nat))).setCell ⟨d, 10, none⟩ (.int .i64 0)).heap[d]? = some (.cells #[.int .u32 (P.c : Nat), .int .i64 (P.o : Nat), .int .i64 (P.i : Nat), .int .i64 (P.t : Nat), .int .u32 (P.n : Nat), .pointer (some ⟨m, 0, none⟩), .int .u32 (mx : Nat), cp, .slice none 0 0, .int .i64 (P.t : Nat), .int .i64 0, .int .i64 0, .bool false, .bool false, .bool false, .int .i64 0, .slice none 0 0, .bool false, .int .i64 0, .int .u32 0, .int .u32 0, .int .u32 0, .int .i64 0, .slice none 0 0, .bool false] 60 (0, 0)) := heap_setCell_same _ _ _ _ _ _ e0
  have e2 : (((w.setCell ⟨d, 9, none⟩ (.int .i64 (P.t : Nat))).setCell ⟨d, 10, none⟩ (.int .i64 0)).setCell ⟨d, 11, none⟩ (.int .i64 (P.o : Nat))).heap[d]? = some (.cells #[.int .u32 (P.c : Nat), .int .i64 (P.o : Nat), .int .i64 (P.i : Nat), .int .i64 (P.t : Nat), .int .u32 (P.n : Nat), .pointer (some ⟨m, 0, none⟩), .int .u32 (mx : Nat), cp, .slice none 0 0, .int .i64 (P.t : Nat), .int .i64 0, .int .i64 (P.o : Nat), .bool false, .bool false, .bool false, .int .i64 0, .slice none 0 0, .bool false, .int .i64 0, .int .u32 0, .int .u32 0, .int .u32 0, .int .i64 0, .slice none 0 0, .bool false] 60 (0, 0)) := heap_setCell_same _ _ _ _ _ _ e1
  have e3 : ((((w.setCell ⟨d, 9, none⟩ (.int .i64 (P.t : Nat))).setCell ⟨d, 10, none⟩ (.int .i64 0)).setCell ⟨d, 11, none⟩ (.int .i64 (P.o : Nat))).setCell ⟨d, 12, none⟩ (.bool false)).heap[d]? = some (.cells #[.int .u32 (P.c : Nat), .int .i64 (P.o : Nat), .int .i64 (P.i : Nat), .int .i64 (P.t : Nat), .int .u32 (P.n : Nat), .pointer (some ⟨m, 0, none⟩), .int .u32 (mx : Nat), cp, .slice none 0 0, .int .i64 (P.t : Nat), .int .i64 0, .int .i64 (P.o : Nat), .bool false, .bool false, .bool false, .int .i64 0, .slice none 0 0, .bool false, .int .i64 0, .int .u32 0, .int .u32 0, .int .u32 0, .int .i64 0, .slice none 0 0, .bool false] 60 (0, 0)) := heap_setCell_same _ _ _ _ _ _ e2
  have e4 : (((((w.setCell ⟨d, 9, none⟩ (.int .i64 (P.t : Nat))).setCell ⟨d, 10, none⟩ (.int .i64 0)).setCell ⟨d, 11, none⟩ (.int .i64 (P.o : Nat))).setCell ⟨d, 12, none⟩ (.bool false)).setCell ⟨d, 13, none⟩ (.bool false)).heap[d]? = some (.cells #[.int .u32 (P.c : Nat), .int .i64 (P.o : Nat), .int .i64 (P.i : Nat), .int .i64 (P.t : Nat), .int .u32 (P.n : Nat), .pointer (some ⟨m, 0, none⟩), .int .u32 (mx : Nat), cp, .slice none 0 0, .int .i64 (P.t : Nat), .int .i64 0, .int .i64 (P.o : Nat), .bool false, .bool false, .bool false, .int .i64 0, .slice none 0 0, .bool false, .int .i64 0, .int .u32 0, .int .u32 0, .int .u32 0, .int .i64 0, .slice none 0 0, .bool false] 60 (0, 0)) := heap_setCell_same _ _ _ _ _ _ e3
  have e5 : ((((((w.setCell ⟨d, 9, none⟩ (.int .i64 (P.t : Nat))).setCell ⟨d, 10, none⟩ (.int .i64 0)).setCell ⟨d, 11, none⟩ (.int .i64 (P.o : Nat))).setCell ⟨d, 12, none⟩ (.bool false)).setCell ⟨d, 13, none⟩ (.bool false)).setCell ⟨d, 14, none⟩ (.bool false)).heap[d]? = some (.cells #[.int .u32 (P.c : Nat), .int .i64 (P.o : Nat), .int .i64 (P.i : Nat), .int .i64 (P.t : Nat), .int .u32 (P.n : Nat), .pointer (some ⟨m, 0, none⟩), .int .u32 (mx : Nat), cp, .slice none 0 0, .int .i64 (P.t : Nat), .int .i64 0, .int .i64 (P.o : Nat), .bool false, .bool false, .bool false, .int .i64 0, .slice none 0 0, .bool false, .int .i64 0, .int .u32 0, .int .u32 0, .int .u32 0, .int .i64 0, .slice none 0 0, .bool false] 60 (0, 0)) := heap_setCell_same _ _ _ _ _ _ e4
  have e6 : (((((((w.setCell ⟨d, 9, none⟩ (.int .i64 (P.t : Nat))).setCell ⟨d, 10, none⟩ (.int .i64 0)).setCell ⟨d, 11, none⟩ (.int .i64 (P.o : Nat))).setCell ⟨d, 12, none⟩ (.bool false)).setCell ⟨d, 13, none⟩ (.bool false)).setCell ⟨d, 14, none⟩ (.bool false)).setCell ⟨d, 15, none⟩ (.int .i64 0)).heap[d]? = some (.cells #[.int .u32 (P.c : Nat), .int .i64 (P.o : Nat), .int .i64 (P.i : Nat), .int .i64 (P.t : Nat), .int .u32 (P.n : Nat), .pointer (some ⟨m, 0, none⟩), .int .u32 (mx : Nat), cp, .slice none 0 0, .int .i64 (P.t : Nat), .int .i64 0, .int .i64 (P.o : Nat), .bool false, .bool false, .bool false, .int .i64 0, .slice none 0 0, .bool false, .int .i64 0, .int .u32 0, .int .u32 0, .int .u32 0, .int .i64 0, .slice none 0 0, .bool false] 60 (0, 0)) := heap_setCell_same _ _ _ _ _ _ e5
  have e7 : ((((((((w.setCell ⟨d, 9, none⟩ (.int .i64 (P.t : Nat))).setCell ⟨d, 10, none⟩ (.int .i64 0)).setCell ⟨d, 11, none⟩ (.int .i64 (P.o : Nat))).setCell ⟨d, 12, none⟩ (.bool false)).setCell ⟨d, 13, none⟩ (.bool false)).setCell ⟨d, 14, none⟩ (.bool false)).setCell ⟨d, 15, none⟩ (.int .i64 0)).setCell ⟨d, 16, none⟩ (.slice none 0 0)).heap[d]? = some (.cells #[.int .u32 (P.c : Nat), .int .i64 (P.o : Nat), .int .i64 (P.i : Nat), .int .i64 (P.t : Nat), .int .u32 (P.n : Nat), .pointer (some ⟨m, 0, none⟩), .int .u32 (mx : Nat), cp, .slice none 0 0, .int .i64 (P.t : Nat), .int .i64 0, .int .i64 (P.o : Nat), .bool false, .bool false, .bool false, .int .i64 0, .slice none 0 0, .bool false, .int .i64 0, .int .u32 0, .int .u32 0, .int .u32 0, .int .i64 0, .slice none 0 0, .bool false] 60 (0, 0)) := heap_setCell_same _ _ _ _ _ _ e6
  have e8 : (((((((((w.setCell ⟨d, 9, none⟩ (.int .i64 (P.t : Nat))).setCell ⟨d, 10, none⟩ (.int .i64 0)).setCell ⟨d, 11, none⟩ (.int .i64 (P.o : Nat))).setCell ⟨d, 12, none⟩ (.bool false)).setCell ⟨d, 13, none⟩ (.bool false)).setCell ⟨d, 14, none⟩ (.bool false)).setCell ⟨d, 15, none⟩ (.int .i64 0)).setCell ⟨d, 16, none⟩ (.slice none 0 0)).setCell ⟨d, 17, none⟩ (.bool false)).heap[d]? = some (.cells #[.int .u32 (P.c : Nat), .int .i64 (P.o : Nat), .int .i64 (P.i : Nat), .int .i64 (P.t : Nat), .int .u32 (P.n : Nat), .pointer (some ⟨m, 0, none⟩), .int .u32 (mx : Nat), cp, .slice none 0 0, .int .i64 (P.t : Nat), .int .i64 0, .int .i64 (P.o : Nat), .bool false, .bool false, .bool false, .int .i64 0, .slice none 0 0, .bool false, .int .i64 0, .int .u32 0, .int .u32 0, .int .u32 0, .int .i64 0, .slice none 0 0, .bool false] 60 (0, 0)) := heap_setCell_same _ _ _ _ _ _ e7
  have e9 : ((((((((((w.setCell ⟨d, 9, none⟩ (.int .i64 (P.t : Nat))).setCell ⟨d, 10, none⟩ (.int .i64 0)).setCell ⟨d, 11, none⟩ (.int .i64 (P.o : Nat))).setCell ⟨d, 12, none⟩ (.bool false)).setCell ⟨d, 13, none⟩ (.bool false)).setCell ⟨d, 14, none⟩ (.bool false)).setCell ⟨d, 15, none⟩ (.int .i64 0)).setCell ⟨d, 16, none⟩ (.slice none 0 0)).setCell ⟨d, 17, none⟩ (.bool false)).setCell ⟨d, 18, none⟩ (.int .i64 1)).heap[d]? = some (.cells #[.int .u32 (P.c : Nat), .int .i64 (P.o : Nat), .int .i64 (P.i : Nat), .int .i64 (P.t : Nat), .int .u32 (P.n : Nat), .pointer (some ⟨m, 0, none⟩), .int .u32 (mx : Nat), cp, .slice none 0 0, .int .i64 (P.t : Nat), .int .i64 0, .int .i64 (P.o : Nat), .bool false, .bool false, .bool false, .int .i64 0, .slice none 0 0, .bool false, .int .i64 1, .int .u32 0, .int .u32 0, .int .u32 0, .int .i64 0, .slice none 0 0, .bool false] 60 (0, 0)) := heap_setCell_same _ _ _ _ _ _ e8
  have e10 : (((((((((((w.setCell ⟨d, 9, none⟩ (.int .i64 (P.t : Nat))).setCell ⟨d, 10, none⟩ (.int .i64 0)).setCell ⟨d, 11, none⟩ (.int .i64 (P.o : Nat))).setCell ⟨d, 12, none⟩ (.bool false)).setCell ⟨d, 13, none⟩ (.bool false)).setCell ⟨d, 14, none⟩ (.bool false)).setCell ⟨d, 15, none⟩ (.int .i64 0)).setCell ⟨d, 16, none⟩ (.slice none 0 0)).setCell ⟨d, 17, none⟩ (.bool false)).setCell ⟨d, 18, none⟩ (.int .i64 1)).setCell ⟨d, 19, none⟩ (.int .u32 0)).heap[d]? = some (.cells #[.int .u32 (P.c : Nat), .int .i64 (P.o : Nat), .int .i64 (P.i : Nat), .int .i64 (P.t : Nat), .int .u32 (P.n : Nat), .pointer (some ⟨m, 0, none⟩), .int .u32 (mx : Nat), cp, .slice none 0 0, .int .i64 (P.t : Nat), .int .i64 0, .int .i64 (P.o : Nat), .bool false, .bool false, .bool false, .int .i64 0, .slice none 0 0, .bool false, .int .i64 1, .int .u32 0, .int .u32 0, .int .u32 0, .int .i64 0, .slice none 0 0, .bool false] 60 (0, 0)) := heap_setCell_same _ _ _ _ _ _ e9
  have e11 : ((((((((((((w.setCell ⟨d, 9, none⟩ (.int .i64 (P.t : Nat))).setCell ⟨d, 10, none⟩ (.int .i64 0)).setCell ⟨d, 11, none⟩ (.int .i64 (P.o : Nat))).setCell ⟨d, 12, none⟩ (.bool false)).setCell ⟨d, 13, none⟩ (.bool false)).setCell ⟨d, 14, none⟩ (.bool false)).setCell ⟨d, 15, none⟩ (.int .i64 0)).setCell ⟨d, 16, none⟩ (.slice none 0 0)).setCell ⟨d, 17, none⟩ (.bool false)).setCell ⟨d, 18, none⟩ (.int .i64 1)).setCell ⟨d, 19, none⟩ (.int .u32 0)).setCell ⟨d, 20, none⟩ (.int .u32 0)).heap[d]? = some (.cells #[.int .u32 (P.c : Nat), .int .i64 (P.o : Nat), .int .i64 (P.i : Nat), .int .i64 (P.t : Nat), .int .u32 (P.n : Nat), .pointer (some ⟨m, 0, none⟩), .int .u32 (mx : Nat), cp, .slice none 0 0, .int .i64 (P.t : Nat), .int .i64 0, .int .i64 (P.o : Nat), .bool false, .bool false, .bool false, .int .i64 0, .slice none 0 0, .bool false, .int .i64 1, .int .u32 0, .int .u32 0, .int .u32 0, .int .i64 0, .slice none 0 0, .bool false] 60 (0, 0)) := heap_setCell_same _ _ _ _ _ _ e10
  have e12 : (((((((((((((w.setCell ⟨d, 9, none⟩ (.int .i64 (P.t : Nat))).setCell ⟨d, 10, none⟩ (.int .i64 0)).setCell ⟨d, 11, none⟩ (.int .i64 (P.o : Nat))).setCell ⟨d, 12, none⟩ (.bool false)).setCell ⟨d, 13, none⟩ (.bool false)).setCell ⟨d, 14, none⟩ (.bool false)).setCell ⟨d, 15, none⟩ (.int .i64 0)).setCell ⟨d, 16, none⟩ (.slice none 0 0)).setCell ⟨d, 17, none⟩ (.bool false)).setCell ⟨d, 18, none⟩ (.int .i64 1)).setCell ⟨d, 19, none⟩ (.int .u32 0)).setCell ⟨d, 20, none⟩ (.int .u32 0)).setCell ⟨d, 21, none⟩ (.int .u32 0)).heap[d]? = some (.cells #[.int .u32 (P.c : Nat), .int .i64 (P.o : Nat), .int .i64 (P.i : Nat), .int .i64 (P.t : Nat), .int .u32 (P.n : Nat), .pointer (some ⟨m, 0, none⟩), .int .u32 (mx : Nat), cp, .slice none 0 0, .int .i64 (P.t : Nat), .int .i64 0, .int .i64 (P.o : Nat), .bool false, .bool false, .bool false, .int .i64 0, .slice none 0 0, .bool false, .int .i64 1, .int .u32 0, .int .u32 0, .int .u32 0, .int .i64 0, .slice none 0 0, .bool false] 60 (0, 0)) := heap_setCell_same _ _ _ _ _ _ e11
  have e13 : ((((((((((((((w.setCell ⟨d, 9, none⟩ (.int .i64 (P.t : Nat))).setCell ⟨d, 10, none⟩ (.int .i64 0)).setCell ⟨d, 11, none⟩ (.int .i64 (P.o : Nat))).setCell ⟨d, 12, none⟩ (.bool false)).setCell ⟨d, 13, none⟩ (.bool false)).setCell ⟨d, 14, none⟩ (.bool false)).setCell ⟨d, 15, none⟩ (.int .i64 0)).setCell ⟨d, 16, none⟩ (.slice none 0 0)).setCell ⟨d, 17, none⟩ (.bool false)).setCell ⟨d, 18, none⟩ (.int .i64 1)).setCell ⟨d, 19, none⟩ (.int .u32 0)).setCell ⟨d, 20, none⟩ (.int .u32 0)).setCell ⟨d, 21, none⟩ (.int .u32 0)).setCell ⟨d, 22, none⟩ (.int .i64 0)).heap[d]? = some (.cells #[.int .u32 (P.c : Nat), .int .i64 (P.o : Nat), .int .i64 (P.i : Nat), .int .i64 (P.t : Nat), .int .u32 (P.n : Nat), .pointer (some ⟨m, 0, none⟩), .int .u32 (mx : Nat), cp, .slice none 0 0, .int .i64 (P.t : Nat), .int .i64 0, .int .i64 (P.o : Nat), .bool false, .bool false, .bool false, .int .i64 0, .slice none 0 0, .bool false, .int .i64 1, .int .u32 0, .int .u32 0, .int .u32 0, .int .i64 0, .slice none 0 0, .bool false] 60 (0, 0)) := heap_setCell_same _ _ _ _ _ _ e12
  exact ⟨e13, ((((((((((((((Off.setCell d 9 w (.int .i64 (P.t : Nat))).trans (Off.setCell d 10 _ (.int .i64 0))).trans (Off.setCell d 11 _ (.int .i64 (P.o : Nat)))).trans (Off.setCell d 12 _ (.bool false))).trans (Off.setCell d 13 _ (.bool false))).trans (Off.setCell d 14 _ (.bool false))).trans (Off.setCell d 15 _ (.int .i64 0))).trans (Off.setCell d 16 _ (.slice none 0 0))).trans (Off.setCell d 17 _ (.bool false))).trans (Off.setCell d 18 _ (.int .i64 1))).trans (Off.setCell d 19 _ (.int .u32 0))).trans (Off.setCell d 20 _ (.int .u32 0))).trans (Off.setCell d 21 _ (.int .u32 0))).trans (Off.setCell d 22 _ (.int .i64 0)))⟩
set_option maxHeartbeats 6400000 in
theorem rlife_first (d m mx : Nat) (P : Pm) (cp : Value) (ms : Ms) (w : World) (h : w.heap[d]? = some (.cells #[.int .u32 (P.c : Nat), .int .i64 (P.o : Nat), .int .i64 (P.i : Nat), .int .i64 (P.t : Nat), .int .u32 (P.n : Nat), .pointer (some ⟨m, 0, none⟩), .int .u32 (mx : Nat), cp, .slice none 0 0, .int .i64 0, .int .i64 0, .int .i64 0, .bool false, .bool false, .bool false, .int .i64 0, .slice none 0 0, .bool false, .int .i64 0, .int .u32 0, .int .u32 0, .int .u32 0, .int .i64 0, .slice none 0 0, .bool false] 60 (0, 0))) (hi8 : P.i ≤ 8) :
    Calls Tryz.prog 95 #[.pointer (some ⟨d, 0, none⟩), .int .i64 1] w fun e w' => e = .returned (.tuple #[]) ∧ Hid (Off [d] w w' ∧ ∃ ga, w.heap.size ≤ ga ∧ ga < w'.heap.size ∧ w'.heap[d]? = some (.cells (RDC P m mx cp (.slice none 0 0) (.slice none 0 0) (dnew ms) (.slice (some ⟨ga, 0, none⟩) P.i P.i)) 60 (0, 0)) ∧ w'.ownsRow 0 5 1 (.slice (some ⟨ga, 0, none⟩) P.i P.i) P.i (CB (fun _ => 0) P.i)) := by
  obtain ⟨i0, hi, hz0, hz1, hz2⟩ := info_parts info_u8
  have hdl : d < w.heap.size := (Array.getElem?_eq_some_iff.1 h).1
  have c1 : w.cell? ⟨d, 1, none⟩ = some (.int .i64 (P.o : Nat)) := cell_of_row w d 1 _ _ _ h
  have c2 : w.cell? ⟨d, 2, none⟩ = some (.int .i64 (P.i : Nat)) := cell_of_row w d 2 _ _ _ h
  have c3 : w.cell? ⟨d, 3, none⟩ = some (.int .i64 (P.t : Nat)) := cell_of_row w d 3 _ _ _ h
  have c9 : w.cell? ⟨d, 9, none⟩ = some (.int .i64 0) := cell_of_row w d 9 _ _ _ h
  have z9 := frozen_of_row w d 9 _ _ h
  have c10 : w.cell? ⟨d, 10, none⟩ = some (.int .i64 0) := cell_of_row w d 10 _ _ _ h
  have z10 := frozen_of_row w d 10 _ _ h
  have c11 : w.cell? ⟨d, 11, none⟩ = some (.int .i64 0) := cell_of_row w d 11 _ _ _ h
  have z11 := frozen_of_row w d 11 _ _ h
  have c12 : w.cell? ⟨d, 12, none⟩ = some (.bool false) := cell_of_row w d 12 _ _ _ h
  have z12 := frozen_of_row w d 12 _ _ h
  have c13 : w.cell? ⟨d, 13, none⟩ = some (.bool false) := cell_of_row w d 13 _ _ _ h
  have z13 := frozen_of_row w d 13 _ _ h
  have c14 : w.cell? ⟨d, 14, none⟩ = some (.bool false) := cell_of_row w d 14 _ _ _ h
  have z14 := frozen_of_row w d 14 _ _ h
  have c15 : w.cell? ⟨d, 15, none⟩ = some (.int .i64 0) := cell_of_row w d 15 _ _ _ h
  have z15 := frozen_of_row w d 15 _ _ h
  have c16 : w.cell? ⟨d, 16, none⟩ = some (.slice none 0 0) := cell_of_row w d 16 _ _ _ h
  have z16 := frozen_of_row w d 16 _ _ h
  have c17 : w.cell? ⟨d, 17, none⟩ = some (.bool false) := cell_of_row w d 17 _ _ _ h
  have z17 := frozen_of_row w d 17 _ _ h
  have c18 : w.cell? ⟨d, 18, none⟩ = some (.int .i64 0) := cell_of_row w d 18 _ _ _ h
  have z18 := frozen_of_row w d 18 _ _ h
  have c19 : w.cell? ⟨d, 19, none⟩ = some (.int .u32 0) := cell_of_row w d 19 _ _ _ h
  have z19 := frozen_of_row w d 19 _ _ h
  have c20 : w.cell? ⟨d, 20, none⟩ = some (.int .u32 0) := cell_of_row w d 20 _ _ _ h
  have z20 := frozen_of_row w d 20 _ _ h
  have c21 : w.cell? ⟨d, 21, none⟩ = some (.int .u32 0) := cell_of_row w d 21 _ _ _ h
  have z21 := frozen_of_row w d 21 _ _ h
  have c22 : w.cell? ⟨d, 22, none⟩ = some (.int .i64 0) := cell_of_row w d 22 _ _ _ h
  have z22 := frozen_of_row w d 22 _ _ h
  have l14 := lifeZ h
  have H : Hid (_) := And.intro hdl l14
  clear h l14 hdl
  go_enter Tryz.func95, Tryz.ntmps95
  go_upto_region 7 with fail
  generalize ((((((((((((((w.setCell ⟨d, 9, none⟩ (.int .i64 (P.t : Nat))).setCell ⟨d, 10, none⟩ (.int .i64 0)).setCell ⟨d, 11, none⟩ (.int .i64 (P.o : Nat))).setCell ⟨d, 12, none⟩ (.bool false)).setCell ⟨d, 13, none⟩ (.bool false)).setCell ⟨d, 14, none⟩ (.bool false)).setCell ⟨d, 15, none⟩ (.int .i64 0)).setCell ⟨d, 16, none⟩ (.slice none 0 0)).setCell ⟨d, 17, none⟩ (.bool false)).setCell ⟨d, 18, none⟩ (.int .i64 1)).setCell ⟨d, 19, none⟩ (.int .u32 0)).setCell ⟨d, 20, none⟩ (.int .u32 0)).setCell ⟨d, 21, none⟩ (.int .u32 0)).setCell ⟨d, 22, none⟩ (.int .i64 0)) = w1 at *
  have e1 := H.out.2.1
  have hd1 : d < w1.heap.size := Nat.lt_of_lt_of_le H.out.1 H.out.2.2.size
  have d2 : w1.cell? ⟨d, 2, none⟩ = some (.int .i64 (P.i : Nat)) := cell_of_row w1 d 2 _ _ _ e1
  have H1 : Hid (_) := And.intro e1 hd1
  clear e1 hd1 c1 c2 c3 c9 z9 c10 z10 c11 z11 c12 z12 c13 z13 c14 z14 c15 z15 c16 z16 c17 z17 c18 z18 c19 z19 c20 z20 c21 z21 c22 z22
  go_wp2_with (at_make; refine wpList_make8 _ rfl (.tmp 43) (.tmp 43) 29 rfl w1.heap.size 5 i0 Tryz.underlying29 hi hz0 hz1 hz2 _ _ _ _ P.i P.i rfl rfl rfl rfl (Nat.le_refl _) (by omega) (Nat.le_refl _) ?_)
  intro w2 hown2 hbel2
  have e2 := (hbel2.block d H1.out.2).trans H1.out.1
  have c23 : w2.cell? ⟨d, 23, none⟩ = some (.slice none 0 0) := cell_of_row w2 d 23 _ _ _ e2
  have c24 : w2.cell? ⟨d, 24, none⟩ = some (.bool false) := cell_of_row w2 d 24 _ _ _ e2
  have z23 := frozen_of_row w2 d 23 _ _ e2
  have z24 := frozen_of_row w2 d 24 _ _ e2
  have H2 : Hid (_) := And.intro hown2 (And.intro hbel2 e2)
  clear hown2 hbel2 e2 d2 H1
  go_wp2_with fail
  go_end0
  obtain ⟨hown2, hbel2, e2⟩ := H2.out
  have e3 : (w2.setCell ⟨d, 23, none⟩ (.slice (some ⟨w1.heap.size, 0, none⟩) P.i P.i)).heap[d]? = some (.cells #[.int .u32 (P.c : Nat), .int .i64 (P.o : Nat), .int .i64 (P.i : Nat), .int .i64 (P.t : Nat), .int .u32 (P.n : Nat), .pointer (some ⟨m, 0, none⟩), .int .u32 (mx : Nat), cp, .slice none 0 0, .int .i64 (P.t : Nat), .int .i64 0, .int .i64 (P.o : Nat), .bool false, .bool false, .bool false, .int .i64 0, .slice none 0 0, .bool false, .int .i64 1, .int .u32 0, .int .u32 0, .int .u32 0, .int .i64 0, .slice (some ⟨w1.heap.size, 0, none⟩) P.i P.i, .bool false] 60 (0, 0)) := heap_setCell_same _ _ _ _ _ _ e2
  have e4 : ((w2.setCell ⟨d, 23, none⟩ (.slice (some ⟨w1.heap.size, 0, none⟩) P.i P.i)).setCell ⟨d, 24, none⟩ (.bool false)).heap[d]? = some (.cells #[.int .u32 (P.c : Nat), .int .i64 (P.o : Nat), .int .i64 (P.i : Nat), .int .i64 (P.t : Nat), .int .u32 (P.n : Nat), .pointer (some ⟨m, 0, none⟩), .int .u32 (mx : Nat), cp, .slice none 0 0, .int .i64 (P.t : Nat), .int .i64 0, .int .i64 (P.o : Nat), .bool false, .bool false, .bool false, .int .i64 0, .slice none 0 0, .bool false, .int .i64 1, .int .u32 0, .int .u32 0, .int .u32 0, .int .i64 0, .slice (some ⟨w1.heap.size, 0, none⟩) P.i P.i, .bool false] 60 (0, 0)) := heap_setCell_same _ _ _ _ _ _ e3
  have o4 : Off [d] w2 ((w2.setCell ⟨d, 23, none⟩ (.slice (some ⟨w1.heap.size, 0, none⟩) P.i P.i)).setCell ⟨d, 24, none⟩ (.bool false)) := (Off.setCell d 23 w2 _).trans (Off.setCell d 24 _ (.bool false))
  have hga := own_far hown2 ⟨w1.heap.size, 0, none⟩ rfl
  have hs1 := H.out.2.2.size
  have hs4 := o4.size
  refine ⟨rfl, (H.out.2.2.trans (Off.of_below hbel2)).trans o4, w1.heap.size, hs1, by have := hga.2; simp only at this; omega, e4, own_offk (own_base hown2 (Nat.zero_le _)) o4 (fun k hk => ?_)⟩
  cases hk
  have := H.out.1
  simp; omega
set_option maxHeartbeats 1600000 in
theorem rnew_bad (c : Nat) (o i t : Int) (n : Nat) (p : Option Addr) (x : Int) (w : World) (hE : ¬ okP c o i t n) :
    Calls Tryz.prog 51 #[.agg #[.int .u32 c, .int .i64 o, .int .i64 i, .int .i64 t, .int .u32 n], .pointer p, .int .u32 x] w fun e w' => e = .returned (.tuple #[.pointer none, .int .i64 90]) ∧ Below w.heap.size w w' := by
  have hb : Below w.heap.size w (w.alloc (.cells #[.int .u32 c, .int .i64 o, .int .i64 i, .int .i64 t, .int .u32 n] 49)) := (Below.refl _ _).alloc (Nat.le_refl _) _
  have hC := rlaw_any c o i t n (w.alloc (.cells #[.int .u32 c, .int .i64 o, .int .i64 i, .int .i64 t, .int .u32 n] 49)) false (decide_eq_false hE)
  have HB : Hid (_) := hb
  clear hE hb
  go_enter Tryz.func51, Tryz.ntmps51
  go_wp2_with (go_at_call 101; refine hC.mono ?_; rintro e w2 ⟨rfl, b2⟩)
  go_ret2
  exact ⟨rfl, HB.out.trans (b2.mono HB.out.size)⟩
theorem ropened (mx n : Nat) (ms : Ms) (h : opE mx n ms = 0) : mx ≠ 0 ∧ 10 ≤ n := by
  unfold opE at h
  by_cases h1 : mx = 0 ∨ n < 10
  · rw [if_pos h1] at h; omega
  · omega
theorem RB.made {w : World} {d m g n mx c ga : Nat} {P : Pm} {ms : Ms} (hP : Pok P) (hn : 10 ≤ n) (hx0 : mx ≠ 0) (hx : mx < 4294967296) (hM : RR w m g n ms) (hC : RX w c m mx (vz ms.bs) false) (hoff : ms.off = false) (hm : m < c) (hg : g < c) (hc : c < d) (hd : d < ga) (hga : ga < w.heap.size)
    (hdev : w.heap[d]? = some (.cells (RDC P m mx (.pointer (some ⟨c, 0, none⟩)) (.slice none 0 0) (.slice none 0 0) (dnew ms) (.slice (some ⟨ga, 0, none⟩) P.i P.i)) 60 (0, 0))) (hown : w.ownsRow 0 5 1 (.slice (some ⟨ga, 0, none⟩) P.i P.i) P.i (CB (fun _ => 0) P.i)) :
    RW w d m g n mx P [d, m, g, c, ga] (dnew ms) := by
  refine ⟨⟨c, [], .pointer (some ⟨c, 0, none⟩), .slice none 0 0, .slice none 0 0, .slice (some ⟨ga, 0, none⟩) P.i P.i, fun k => if k = d then 0 else if k = m ∨ k = g then 1 else if k = c then 2 else 6⟩, hdev, hM, fun _ => ⟨rfl, hC, hoff⟩, .inl ⟨rfl, rfl⟩, World.ownsRow_nil w _ _ _, hown, fun i _ => (by show 0 < 256; omega), Vok.new, Nat.zero_le _, ?_, ?_, ?_, ?_, ?_, fun k hk => (by simp at hk), fun k hk => (by cases hk), ?_, hP, hn, hx0, hx, fun _ => rfl⟩
  · intro k hk
    simp at hk
    omega
  · exact ⟨if_pos rfl, by simp⟩
  · exact ⟨by dsimp only; rw [if_neg (by omega), if_pos (.inl rfl)], by simp⟩
  · exact ⟨by dsimp only; rw [if_neg (by omega), if_pos (.inr rfl)], by simp⟩
  · exact ⟨by dsimp only; rw [if_neg (by omega), if_neg (by omega), if_pos rfl], by simp⟩
  · intro k hk
    cases hk
    exact ⟨by dsimp only; rw [if_neg (by omega), if_neg (by omega), if_neg (by omega)], by simp⟩
set_option maxHeartbeats 6400000 in
theorem rnew_any (m g n mx : Nat) (P : Pm) (hP : Pok P) (ms : Ms) (w : World) (hM : RR w m g n ms) (hx : mx < 4294967296) (ht : ms.t < 9223372036854774000) :
    Calls Tryz.prog 51 #[.agg #[.int .u32 (P.c : Nat), .int .i64 (P.o : Nat), .int .i64 (P.i : Nat), .int .i64 (P.t : Nat), .int .u32 (P.n : Nat)], .pointer (some ⟨m, 0, none⟩), .int .u32 (mx : Nat)] w fun e w' => ∃ p, e = .returned (.tuple #[.pointer p, .int .i64 (opE mx n ms)]) ∧ Hid (Off [m, g] w w' ∧ RR w' m g n (opS mx n ms) ∧ (opE mx n ms = 0 → ∃ d U, p = some ⟨d, 0, none⟩ ∧ RW w' d m g n mx P U (dnew (opS mx n ms)) ∧ ∀ k, k ∈ U → k = m ∨ k = g ∨ w.heap.size ≤ k) ∧ (¬ opE mx n ms = 0 → p = none)) := by
  obtain ⟨E, hE⟩ : ∃ x, opE mx n ms = x := ⟨_, rfl⟩
  rw [hE]
  have hb : Below w.heap.size w (w.alloc (.cells #[.int .u32 (P.c : Nat), .int .i64 (P.o : Nat), .int .i64 (P.i : Nat), .int .i64 (P.t : Nat), .int .u32 (P.n : Nat)] 49)) := (Below.refl _ _).alloc (Nat.le_refl _) _
  have hx0 := heap_alloc_new w (.cells #[.int .u32 (P.c : Nat), .int .i64 (P.o : Nat), .int .i64 (P.i : Nat), .int .i64 (P.t : Nat), .int .u32 (P.n : Nat)] 49)
  have hs : w.heap.size < (w.alloc (.cells #[.int .u32 (P.c : Nat), .int .i64 (P.o : Nat), .int .i64 (P.i : Nat), .int .i64 (P.t : Nat), .int .u32 (P.n : Nat)] 49)).heap.size := by simp
  have hC := rlaw_any P.c P.o P.i P.t P.n (w.alloc (.cells #[.int .u32 (P.c : Nat), .int .i64 (P.o : Nat), .int .i64 (P.i : Nat), .int .i64 (P.t : Nat), .int .u32 (P.n : Nat)] 49)) true (decide_eq_true hP.ok)
  have hO : ∀ wx, RR wx m g n ms → Calls Tryz.prog 97 #[.pointer (some ⟨m, 0, none⟩), .int .u32 (mx : Nat)] wx fun e w' => ∃ p, e = .returned (.tuple #[.pointer p, .int .i64 E]) ∧ Hid (Off [m, g] wx w' ∧ RR w' m g n (opS mx n ms) ∧ (E = 0 → ∃ d, p = some ⟨d, 0, none⟩ ∧ wx.heap.size ≤ d ∧ RX w' d m mx (vz ms.bs) false) ∧ (¬ E = 0 → p = none)) := by
    intro wx hMx
    subst hE
    exact ropen m g n mx ms wx hMx ht
  have HO : Hid (_) := hO
  have HH : Hid (_) := And.intro hb (And.intro hs (And.intro hx0 (And.intro hM (And.intro hE (And.intro hP hx)))))
  clear hO hb hs hx0 hM hE hP hx ht
  go_enter Tryz.func51, Tryz.ntmps51
  go_wp2_with (go_at_call 101; refine hC.mono ?_; rintro e w1 ⟨rfl, b1⟩)
  obtain ⟨hb, hs, hx0, hM, _⟩ := HH.out
  have bb := hb.trans (b1.mono hb.size)
  refine (HO.out w1 (hM.off (Off.of_below (l := []) bb) (by simp) (by simp))).mono ?_
  rintro e w2 ⟨p, rfl, h2⟩
  have l1 := hM.lt
  have l2 := hM.lg
  have l3 := b1.size
  have e2 : w2.heap[w.heap.size]? = some (.cells #[.int .u32 (P.c : Nat), .int .i64 (P.o : Nat), .int .i64 (P.i : Nat), .int .i64 (P.t : Nat), .int .u32 (P.n : Nat)] 49 (0, 0)) := by
    rw [h2.out.1.block w.heap.size (by omega) (by simp; omega), b1.block _ (by omega)]
    exact hx0
  have H2 : Hid (_) := And.intro bb (And.intro h2.out (And.intro HH.out (And.intro (by omega : w.heap.size < w1.heap.size) (And.intro l1 l2))))
  by_cases he : E = 0
  · have e0 : (E != 0) = false := by simp [he]
    obtain ⟨c, rfl, hc, hC2⟩ := h2.out.2.2.1 he
    have HE : Hid (_) := And.intro he (And.intro hc hC2)
    have p0 : w2.cell? ⟨w.heap.size, 0, none⟩ = some (.int .u32 (P.c : Nat)) := cell_of_row w2 _ 0 _ _ _ e2
    have p1 : w2.cell? ⟨w.heap.size, 1, none⟩ = some (.int .i64 (P.o : Nat)) := cell_of_row w2 _ 1 _ _ _ e2
    have p2 : w2.cell? ⟨w.heap.size, 2, none⟩ = some (.int .i64 (P.i : Nat)) := cell_of_row w2 _ 2 _ _ _ e2
    have p3 : w2.cell? ⟨w.heap.size, 3, none⟩ = some (.int .i64 (P.t : Nat)) := cell_of_row w2 _ 3 _ _ _ e2
    have p4 : w2.cell? ⟨w.heap.size, 4, none⟩ = some (.int .u32 (P.n : Nat)) := cell_of_row w2 _ 4 _ _ _ e2
    have hF := rlife_first w2.heap.size m mx P (.pointer (some ⟨c, 0, none⟩)) (opS mx n ms) (w2.alloc (.cells #[.int .u32 (P.c : Nat), .int .i64 (P.o : Nat), .int .i64 (P.i : Nat), .int .i64 (P.t : Nat), .int .u32 (P.n : Nat), .pointer (some ⟨m, 0, none⟩), .int .u32 (mx : Nat), .pointer (some ⟨c, 0, none⟩), .slice none 0 0, .int .i64 0, .int .i64 0, .int .i64 0, .bool false, .bool false, .bool false, .int .i64 0, .slice none 0 0, .bool false, .int .i64 0, .int .u32 0, .int .u32 0, .int .u32 0, .int .i64 0, .slice none 0 0, .bool false] 60)) (heap_alloc_new w2 _) HH.out.2.2.2.2.2.1.i8
    clear hC b1 hb hs hx0 hM bb h2 e2 he hc hC2 HO l1 l2 l3
    go_wp2_with fail
    refine hF.mono ?_
    rintro e w3 ⟨rfl, h3⟩
    clear hF p0 p1 p2 p3 p4
    go_wp2_with fail
    go_ret2
    obtain ⟨bb, ⟨o2, m2, _, _⟩, ⟨_, _, _, hM, hE, hP, hx⟩, hw1, l1, l2⟩ := H2.out
    obtain ⟨he, hc, hC2⟩ := HE.out
    obtain ⟨o3, ga, hga, hgl, hdev, hown⟩ := h3.out
    subst he
    obtain ⟨mx0, n10⟩ := ropened mx n ms hE
    have hoff := opS_off hM.l0 hE
    have oA : Off [] w2 (w2.alloc (.cells #[.int .u32 (P.c : Nat), .int .i64 (P.o : Nat), .int .i64 (P.i : Nat), .int .i64 (P.t : Nat), .int .u32 (P.n : Nat), .pointer (some ⟨m, 0, none⟩), .int .u32 (mx : Nat), .pointer (some ⟨c, 0, none⟩), .slice none 0 0, .int .i64 0, .int .i64 0, .int .i64 0, .bool false, .bool false, .bool false, .int .i64 0, .slice none 0 0, .bool false, .int .i64 0, .int .u32 0, .int .u32 0, .int .u32 0, .int .i64 0, .slice none 0 0, .bool false] 60)) := Off.alloc _ _ _
    have o23 : Off [w2.heap.size] w2 w3 := (oA.more (by simp)).trans o3
    have hcl := hC2.lt
    have k7 := o2.size
    rw [World.size_alloc] at hga
    have hm2 : m < w2.heap.size := m2.lt
    have hg2 : g < w2.heap.size := m2.lg
    have M3 := m2.off o23 (by simp; omega) (by simp; omega)
    have C3 := hC2.off o23 (by simp; omega)
    rw [← opS_vz hM.l0 (fun i hi => hM.byte i (by omega)) (mx := mx) (n := n)] at C3
    refine ⟨_, rfl, ?_, M3, fun _ => ⟨w2.heap.size, [w2.heap.size, m, g, c, ga], rfl, RB.made hP n10 mx0 hx M3 C3 hoff (by omega) (by omega) (by omega) (by omega) hgl hdev hown, ?_⟩, fun h => absurd rfl h⟩
    · have q := (Off.of_below (l := [m, g]) bb).trans o2
      exact ⟨o23.os.trans q.os, o23.tape.trans q.tape, o23.output.trans q.output, Nat.le_trans q.size o23.size, fun i hi hn => (o23.block i (by have := q.size; omega) (by simp; have := q.size; have := bb.size; omega)).trans (q.block i hi hn)⟩
    · intro k hk
      simp at hk
      have := bb.size
      omega
  · have e0 : (E != 0) = true := by simp [he]
    obtain rfl := h2.out.2.2.2 he
    have HE : Hid (_) := he
    clear he hC b1 hb hs hx0 hM bb h2 e2 l1 l2 l3
    go_wp2_with fail
    go_ret2
    obtain ⟨bb, ⟨o2, m2, _, _⟩, hh, _⟩ := H2.out
    exact ⟨none, rfl, (Off.of_below bb).trans o2, m2, fun h => absurd h HE.out, fun _ => rfl⟩
end Go.Proofs.YtffehehghpafdaaGreat
namespace Go.Proofs.YtffehehghpafdaaGreat
set_option maxRecDepth 100000
open Go.RowKit
structure Iv (P : Pm) (s : Sd) : Prop where
  st1 : 1 ≤ s.st
  st6 : s.st ≤ 6
  ss : s.ss < 4294967296
  nm : s.nm < 4294967296
  sn : s.sn < 4294967296
  hs : s.st = 2 ∨ s.st = 3 → s.sn = 0 ∧ s.nm = 0 ∧ s.ss ≠ 0
  run : s.st = 4 → s.sn ≤ s.nm ∧ s.nm < P.n ∧ s.ss ≠ 0
  od : s.od < 4
  vr : s.v.run = decide (s.st = 4)
  vok : Vok s.v
  s0 : s.ss = 0 → s.nm = 0
  z : s.ss = 0 ∨ s.ss = vz s.ms.bs
  d6 : s.st = 6 → s.ap = (fun _ => 0) ∧ s.hd = false
structure Mo (mx n : Nat) (s : Sd) : Prop where
  n10 : 10 ≤ n
  mx0 : mx ≠ 0
  mxl : mx < 4294967296
  l0 : 0 ≤ s.ms.l
  bz : Bz s.ms.bs
  off : s.st ≠ 6 → s.ms.off = false
theorem Mo.of {w : World} {d m g n mx : Nat} {P : Pm} {U : List Nat} {s : Sd} (h : DV w d m g n mx P U s) : Mo mx n s := by
  obtain ⟨a, b, c, e, f, g⟩ := h.facts
  exact ⟨c, e, f, b, a, g⟩
section
variable {P : Pm} {mx n : Nat} {s : Sd}
theorem vtrip_run (v : Vs) (x : Int) : (vtrip v x).run = v.run := by unfold vtrip; split <;> rfl
theorem vrun_run (v : Vs) (o : Bool) : (vrun v o).run = o := by
  unfold vrun
  split
  · assumption
  · rfl
theorem vtake_run (v : Vs) (bs : Nat → Nat) : (vtake v bs).run = v.run := by unfold vtake; split <;> rfl
theorem vack_run (v : Vs) : (vack v).run = v.run := by unfold vack; split <;> rfl
theorem dlatch_v (s : Sd) (x : Int) : (dlatch s x).v = vtrip s.v x := by unfold dlatch dnote; split <;> rfl
theorem dlatch_flds (s : Sd) (x : Int) : (dlatch s x).st = s.st ∧ (dlatch s x).ss = s.ss ∧ (dlatch s x).nm = s.nm ∧ (dlatch s x).sn = s.sn ∧ (dlatch s x).od = s.od ∧ (dlatch s x).ms = s.ms ∧ (dlatch s x).ap = s.ap ∧ (dlatch s x).hd = s.hd := by unfold dlatch dnote; split <;> exact ⟨rfl, rfl, rfl, rfl, rfl, rfl, rfl, rfl⟩
theorem Iv.latch (h : Iv P s) (x : Int) : Iv P (dlatch s x) := by
  unfold dlatch dnote
  split
  · exact ⟨h.st1, h.st6, h.ss, h.nm, h.sn, h.hs, h.run, h.od, (vtrip_run _ _).trans h.vr, h.vok.trip x, h.s0, h.z, h.d6⟩
  · exact ⟨h.st1, h.st6, h.ss, h.nm, h.sn, h.hs, h.run, h.od, (vtrip_run _ _).trans h.vr, h.vok.trip x, h.s0, h.z, h.d6⟩
theorem Iv.note (h : Iv P s) (x : Int) : Iv P (dnote s x) := ⟨h.st1, h.st6, h.ss, h.nm, h.sn, h.hs, h.run, h.od, h.vr, h.vok, h.s0, h.z, h.d6⟩
theorem Iv.leave (hv : Vok s.v) {k : Nat} (h1 : 1 ≤ k) (h5 : k ≤ 5) (h4 : k ≠ 4) (h2 : k ≠ 2) (h3 : k ≠ 3) : Iv P (dleave s k) :=
  ⟨h1, Nat.le_succ_of_le h5, by show (0 : Nat) < _; omega, by show (0 : Nat) < _; omega, by show (0 : Nat) < _; omega, fun e => by have e : k = 2 ∨ k = 3 := e; omega, fun e => absurd e h4, by show (0 : Nat) < 4; omega, by
    show (vrun s.v false).run = decide (k = 4)
    rw [vrun_run, decide_eq_false h4], hv.run false, fun _ => rfl, .inl rfl, fun e => by have e : k = 6 := e; omega⟩
theorem Iv.life {k : Nat} (h1 : 1 ≤ k) (h6 : k ≤ 6) (h4 : k ≠ 4) (h2 : k ≠ 2) (h3 : k ≠ 3) : Iv P (dlife s k) :=
  ⟨h1, h6, by show (0 : Nat) < _; omega, by show (0 : Nat) < _; omega, by show (0 : Nat) < _; omega, fun e => by have e : k = 2 ∨ k = 3 := e; omega, fun e => absurd e h4, by show (0 : Nat) < 4; omega, (decide_eq_false h4).symm, Vok.new, fun _ => rfl, .inl rfl, fun _ => ⟨rfl, rfl⟩⟩
theorem Iv.odd (h : Iv P s) : Iv P (dodd s) := by
  unfold dodd
  split
  · split
    · rename_i h4
      exact ⟨h.st1, h.st6, h.ss, h.nm, h.sn, h.hs, h.run, h4, h.vr, h.vok, h.s0, h.z, h.d6⟩
    · refine Iv.leave ?_ (by omega) (by omega) (by omega) (by omega) (by omega)
      split
      · rw [dlatch_v]; exact h.vok.trip _
      · exact h.vok
  · exact h
theorem Iv.begin_ (h : Iv P s) (M : Mo mx n s) (hu : s.st ≠ 6) : Iv P (dbegin P mx n s).s := by
  have hv := nx_vz (mx := mx) (n := n) (s := s.ms) M.n10 (M.off hu) M.l0 M.mxl
  unfold dbegin
  generalize nx mx n s.ms.bs false s.ms = X at *
  have hm := M.mxl
  split
  · refine Iv.leave ?_ (by omega) (by omega) (by omega) (by omega) (by omega)
    rw [dlatch_v]; exact h.vok.trip _
  · split
    · exact Iv.life (by omega) (by omega) (by omega) (by omega) (by omega)
    · rename_i e0
      have e0 : X.e = 0 := by simpa using e0
      obtain ⟨v1, v2, v3⟩ := hv.1 e0
      refine ⟨by show 1 ≤ 2; omega, by show 2 ≤ 6; omega, by show X.v < _; omega, by show (0 : Nat) < _; omega, by show (0 : Nat) < _; omega, fun _ => ⟨rfl, rfl, by show X.v ≠ 0; omega⟩, fun e => by have e : (2 : Nat) = 4 := e; omega, by show (0 : Nat) < 4; omega, ?_, h.vok.run false, fun _ => rfl, .inr ?_, fun e => by have e : (2 : Nat) = 6 := e; omega⟩
      · show (vrun s.v false).run = decide ((2 : Nat) = 4)
        rw [vrun_run]; rfl
      · show X.v = vz X.s.bs
        omega
theorem Mo.odd (M : Mo mx n s) : Mo mx n (dodd s) := by
  refine ⟨M.n10, M.mx0, M.mxl, by rw [dodd_ms]; exact M.l0, by rw [dodd_ms]; exact M.bz, fun _ => ?_⟩
  rw [dodd_ms]
  by_cases h6 : s.st = 6
  · exfalso
    have : dodd s = s := by unfold dodd dbusy; rw [h6]; rfl
    rename_i hh
    rw [this] at hh
    exact hh h6
  · exact M.off h6
theorem Iv.wish (h : Iv P s) (M : Mo mx n s) (hu : s.st ≠ 6) : Iv P (dwish P mx n s).s := by
  unfold dwish
  split
  · exact h.odd
  · split
    · exact h.odd
    · exact h.odd.begin_ M.odd (dodd_up hu)
theorem Iv.echo (h : Iv P s) : Iv P (dechoS s) := by
  unfold dechoS
  split
  · rename_i h2
    have hq := h.hs (.inl h2)
    refine ⟨by show 1 ≤ 3; omega, by show 3 ≤ 6; omega, h.ss, h.nm, h.sn, fun _ => hq, fun e => by have e : (3 : Nat) = 4 := e; omega, by show (0 : Nat) < 4; omega, ?_, h.vok.fresh, h.s0, h.z, fun e => by have e : (3 : Nat) = 6 := e; omega⟩
    show s.v.run = decide ((3 : Nat) = 4)
    rw [h.vr, h2]; rfl
  · exact h
theorem Iv.start (h : Iv P s) (hP : Pok P) : Iv P (dstartS s) := by
  unfold dstartS
  split
  · rename_i h3
    have hq := h.hs (.inr h3)
    have := hP.n2
    refine ⟨by show 1 ≤ 4; omega, by show 4 ≤ 6; omega, h.ss, h.nm, h.sn, fun e => by have e : (4 : Nat) = 2 ∨ (4 : Nat) = 3 := e; omega, fun _ => ⟨by show s.sn ≤ s.nm; omega, by show s.nm < _; omega, hq.2.2⟩, by show (0 : Nat) < 4; omega, ?_, (h.vok.run true).fresh, h.s0, h.z, fun e => by have e : (4 : Nat) = 6 := e; omega⟩
    show (vrun s.v true).run = decide ((4 : Nat) = 4)
    rw [vrun_run]; rfl
  · exact h
theorem Iv.data (h : Iv P s) (hP : Pok P) {num fl : Nat} {bs : Nat → Nat} (h4 : s.st = 4) (hn : s.nm < num) (hc : num < P.n) : Iv P (ddataS s num fl bs) := by
  have hq := h.run h4
  have hp := hP.n
  refine ⟨h.st1, h.st6, h.ss, by show num < _; omega, by show s.sn + 1 < _; omega, fun e => by have e : s.st = 2 ∨ s.st = 3 := e; omega, fun _ => ⟨by show s.sn + 1 ≤ num; omega, hc, hq.2.2⟩, by show (0 : Nat) < 4; omega, ?_, (h.vok.fresh.hold _).take _, fun e => absurd e hq.2.2, h.z, fun e => by have e : s.st = 6 := e; omega⟩
  show (vtake (vhold (vfresh s.v) (decide (8 ≤ fl))) bs).run = decide (s.st = 4)
  rw [vtake_run]; exact h.vr
theorem Iv.last (h : Iv P s) (hP : Pok P) (h4 : s.st = 4) : Iv P (dendS (dlastS P s)) := by
  have hq := h.run h4
  have hp := hP.n
  obtain ⟨l1, l2, l3, l4, l5, l6, l7, l8⟩ := dlatch_flds (don { s with nm := P.n }) 80
  refine ⟨by show 1 ≤ 5; omega, by show 5 ≤ 6; omega, ?_, ?_, hp, fun e => by have e : (5 : Nat) = 2 ∨ (5 : Nat) = 3 := e; omega, fun e => by have e : (5 : Nat) = 4 := e; omega, ?_, ?_, ?_, ?_, ?_, fun e => by have e : (5 : Nat) = 6 := e; omega⟩
  · show (dlatch (don { s with nm := P.n }) 80).ss < _
    rw [l2]; exact h.ss
  · show (dlatch (don { s with nm := P.n }) 80).nm < _
    rw [l3]; exact hp
  · show (dlatch (don { s with nm := P.n }) 80).od < 4
    rw [l5]; show (0 : Nat) < 4; omega
  · show (vrun (dlatch (don { s with nm := P.n }) 80).v false).run = decide ((5 : Nat) = 4)
    rw [vrun_run]; rfl
  · show Vok (vrun (dlatch (don { s with nm := P.n }) 80).v false)
    rw [dlatch_v]
    exact (h.vok.fresh.trip _).run _
  · intro e
    have e : (dlatch (don { s with nm := P.n }) 80).ss = 0 := e
    rw [l2] at e
    exact absurd e hq.2.2
  · show (dlatch (don { s with nm := P.n }) 80).ss = 0 ∨ (dlatch (don { s with nm := P.n }) 80).ss = vz (dlatch (don { s with nm := P.n }) 80).ms.bs
    rw [l2, l6]; exact h.z
theorem Iv.take (h : Iv P s) (hP : Pok P) (M : Mo mx n s) (hu : s.st ≠ 6) (k ss num fl len : Nat) (bs : Nat → Nat) : Iv P (dtake P mx n s k ss num fl len bs).s := by
  unfold dtake
  split
  · split
    · exact h.wish M hu
    · exact h.odd
  · split
    · split
      · exact h.echo
      · exact h.odd
    · split
      · exact h.start hP
      · split
        · rename_i hh
          exact h.data hP hh.2.1.2.1 hh.2.1.2.2 hh.2.2.1
        · split
          · rename_i hh
            exact h.last hP hh.2.1.2.1
          · exact h.odd
theorem Iv.hear (h : Iv P s) (hP : Pok P) (M : Mo mx n s) (hu : s.st ≠ 6) (len : Nat) (bs : Nat → Nat) : Iv P (dhear P mx n s len bs).s := by
  unfold dhear
  split
  · exact h
  · split
    · exact h
    · split
      · exact h
      · exact h.take hP M hu _ _ _ _ _ _
theorem Iv.recv (h : Iv P s) (hP : Pok P) (M : Mo mx n s) (len : Nat) (bs : Nat → Nat) : Iv P (drecv P mx n s len bs).s := by
  unfold drecv
  split
  · exact h
  · rename_i hu
    split
    · exact (h.hear hP M hu len bs).note _
    · exact h.hear hP M hu len bs
theorem Iv.write (h : Iv P s) (len : Nat) (bs : Nat → Nat) (o : Bool) : Iv P (dwriteS P s len bs o) := by
  unfold dwriteS
  split
  · exact h
  · rename_i h6
    split
    · exact ⟨h.st1, h.st6, h.ss, h.nm, h.sn, h.hs, h.run, h.od, h.vr, h.vok, h.s0, h.z, fun e => absurd e h6⟩
    · exact h
theorem Iv.tick (h : Iv P s) (k : Int) : Iv P (dtickS P s k) := by
  unfold dtickS
  split
  · exact h
  · split
    · exact h
    · have h' : Iv P { s with dc := tk P.t s.dc k.toNat } := ⟨h.st1, h.st6, h.ss, h.nm, h.sn, h.hs, h.run, h.od, h.vr, h.vok, h.s0, h.z, h.d6⟩
      split
      · exact h'.latch _
      · exact h'
theorem Iv.ack (h : Iv P s) : Iv P (dackS s) := by
  unfold dackS
  split
  · exact h
  · exact ⟨h.st1, h.st6, h.ss, h.nm, h.sn, h.hs, h.run, h.od, (vack_run _).trans h.vr, h.vok.ack, h.s0, h.z, h.d6⟩
theorem Iv.reset (h : Iv P s) (k : Int) : Iv P (dresetS mx n s k) := by
  unfold dresetS
  split
  · exact h
  · split
    · exact Iv.life (by omega) (by omega) (by omega) (by omega) (by omega)
    · exact Iv.life (by omega) (by omega) (by omega) (by omega) (by omega)
theorem Iv.arm (h : Iv P s) (p : Int) : Iv P { s with ms := arS s.ms p } :=
  ⟨h.st1, h.st6, h.ss, h.nm, h.sn, h.hs, h.run, h.od, h.vr, h.vok, h.s0, by
    have : (arS s.ms p).bs = s.ms.bs := by unfold arS; split <;> rfl
    show s.ss = 0 ∨ s.ss = vz (arS s.ms p).bs
    rw [this]; exact h.z, h.d6⟩
theorem Iv.new_ (ms : Ms) : Iv P (dnew ms) :=
  ⟨by show 1 ≤ 1; omega, by show 1 ≤ 6; omega, by show (0 : Nat) < _; omega, by show (0 : Nat) < _; omega, by show (0 : Nat) < _; omega, fun e => by have e : (1 : Nat) = 2 ∨ (1 : Nat) = 3 := e; omega, fun e => by have e : (1 : Nat) = 4 := e; omega, by show (0 : Nat) < 4; omega, rfl, Vok.new, fun _ => rfl, .inl rfl, fun e => by have e : (1 : Nat) = 6 := e; omega⟩
theorem Iv.sent (h : Iv P s) (hP : Pok P) : s.st = 4 → s.sn + 1 < 4294967296 := fun e => by
  have := h.run e
  have := hP.n
  omega
def Gw (a b : Sd) : Prop := b.L.length ≤ a.L.length + 3 ∧ b.ms.t ≤ a.ms.t + 6
theorem dbegin_t (M : Mo mx n s) : (dbegin P mx n s).s.ms.t ≤ s.ms.t + 6 := by
  have ht := nx_t mx n s.ms.bs false s.ms M.n10 M.l0
  unfold dbegin
  generalize nx mx n s.ms.bs false s.ms = X at *
  split
  · show (dlatch { s with ms := X.s } 80).ms.t ≤ _
    rw [dlatch_ms]; exact ht
  · split
    · exact ht
    · exact ht
theorem dwish_t (M : Mo mx n s) : (dwish P mx n s).s.ms.t ≤ s.ms.t + 6 := by
  have e := dodd_ms s
  unfold dwish
  split
  · show (dodd s).ms.t ≤ _; rw [e]; omega
  · split
    · show (dodd s).ms.t ≤ _; rw [e]; omega
    · have := dbegin_t (P := P) M.odd
      rw [e] at this; exact this
theorem dtake_t (M : Mo mx n s) (k ss num fl len : Nat) (bs : Nat → Nat) : (dtake P mx n s k ss num fl len bs).s.ms.t ≤ s.ms.t + 6 := by
  have e := dodd_ms s
  have r : ∀ x : Int, (drefuse P s x).s.ms.t ≤ s.ms.t + 6 := fun x => by show (dodd s).ms.t ≤ _; rw [e]; omega
  unfold dtake
  split
  · split
    · exact dwish_t M
    · exact r _
  · split
    · split
      · show (dechoS s).ms.t ≤ _; unfold dechoS; split <;> (show s.ms.t ≤ _; omega)
      · exact r _
    · split
      · show (dstartS s).ms.t ≤ _; unfold dstartS; split <;> (show s.ms.t ≤ _; omega)
      · split
        · show s.ms.t ≤ _; omega
        · split
          · show (dlatch (don { s with nm := P.n }) 80).ms.t ≤ _
            rw [dlatch_ms]; show s.ms.t ≤ _; omega
          · exact r _
theorem gw_recv (M : Mo mx n s) (len : Nat) (bs : Nat → Nat) : Gw s (drecv P mx n s len bs).s := by
  have h1 := dhear_len P mx n s len bs
  have h2 : (dhear P mx n s len bs).s.ms.t ≤ s.ms.t + 6 := by
    unfold dhear
    split
    · show s.ms.t ≤ _; omega
    · split
      · show s.ms.t ≤ _; omega
      · split
        · show s.ms.t ≤ _; omega
        · exact dtake_t M _ _ _ _ _ _
  unfold drecv
  split
  · exact ⟨by show s.L.length ≤ _; omega, by show s.ms.t ≤ _; omega⟩
  · split
    · exact ⟨by show ((dhear P mx n s len bs).s.L ++ [_]).length ≤ _; simp; omega, h2⟩
    · exact ⟨by omega, h2⟩
theorem gw_tick (k : Int) : Gw s (dtickS P s k) := by
  unfold dtickS
  split
  · exact ⟨by omega, by omega⟩
  · split
    · exact ⟨by omega, by omega⟩
    · split
      · refine ⟨?_, ?_⟩
        · have := dlatch_len { s with dc := tk P.t s.dc k.toNat } 100
          have e : ({ s with dc := tk P.t s.dc k.toNat } : Sd).L.length = s.L.length := rfl
          omega
        · rw [dlatch_ms]; show s.ms.t ≤ _; omega
      · exact ⟨by show s.L.length ≤ _; omega, by show s.ms.t ≤ _; omega⟩
theorem gw_ack : Gw s (dackS s) := by
  unfold dackS
  split <;> exact ⟨by show s.L.length ≤ _; omega, by show s.ms.t ≤ _; omega⟩
theorem gw_write (len : Nat) (bs : Nat → Nat) (o : Bool) : Gw s (dwriteS P s len bs o) := by
  unfold dwriteS
  split
  · exact ⟨by omega, by omega⟩
  · split <;> exact ⟨by show s.L.length ≤ _; omega, by show s.ms.t ≤ _; omega⟩
theorem gw_reset (M : Mo mx n s) (k : Int) : Gw s (dresetS mx n s k) := by
  obtain ⟨_, h2, h3⟩ := reset_vz (mx := mx) (n := n) s k M.bz M.l0
  exact ⟨by rw [h3]; omega, h2⟩
theorem gw_arm (p : Int) : Gw s { s with ms := arS s.ms p } := ⟨by show s.L.length ≤ _; omega, by
  have : (arS s.ms p).t = s.ms.t := by unfold arS; split <;> rfl
  show (arS s.ms p).t ≤ _; omega⟩
end
end Go.Proofs.YtffehehghpafdaaGreat
namespace Go.Proofs.YtffehehghpafdaaGreat
set_option maxRecDepth 100000
open Go.RowKit
end Go.Proofs.YtffehehghpafdaaGreat
