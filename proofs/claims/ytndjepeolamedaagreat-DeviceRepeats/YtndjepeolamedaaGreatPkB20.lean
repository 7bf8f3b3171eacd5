/- Part 21 of the texts on which the proofs of layer 13 rest: contracts of Go functions. -/
import Derived.OpenShut
import Derived.Deep.RegionWith
import Derived.Deep.DeepCutAuto
import Derived.RegionTactic
import Derived.Test.YtndjepeolamedaaGreatPkB04
import Derived.Test.YtndjepeolamedaaGreatPkB06
import Derived.Test.YtndjepeolamedaaGreatPkB18
import Derived.Test.YtndjepeolamedaaGreatPkB19
namespace Go.Proofs.YtndjepeolamedaaGreat
set_option maxRecDepth 100000
open Go.RowKit
theorem RB.appd {w w1 w2 : World} {d m g n mx : Nat} {P : Pm} {U : List Nat} {s s' : Sd} {B : Bk2} {A A' : Prop} (h : RB w d m g n mx P U s B A) {v : Value} {bs : Nat → Nat} (hb : Below w.heap.size w w1) (ho : w1.ownsRow w.heap.size 5 1 v P.i (CB bs P.i)) (hy : ∀ i, i < P.i → bs i < 256) (o : Off [d] w1 w2)
    (e : w2.heap[d]? = some (.cells (RDC P m mx B.cp B.lv B.vv s' v) 128 (0, 0))) (h1 : s'.ms = s.ms) (h2 : s'.dc = s.dc) (h3 : s'.v = s.v) (h4 : s'.L = s.L) (h5 : s'.ap = bs) (h6 : A' → A) :
    ∃ U' B', Gr U w U' w2 ∧ RB w2 d m g n mx P U' s' B' A' := by
  have x1 := h.newd (Off.of_below (l := []) hb)
  have hd := h.dlt
  have hn : ∀ k, B.col k ≠ 0 → k ∉ [d] := fun k hk hm => by simp at hm; rw [hm, h.kd.1] at hk; exact hk rfl
  have hge : ∀ k, v.ownBlock = some k → w.heap.size ≤ k := fun k hk => Fr.ge (f := (P.i, bs)) ho k hk
  have hlt : ∀ k, v.ownBlock = some k → k < w1.heap.size := fun k hk => Fr.lt (f := (P.i, bs)) ho k hk
  have hq : ∀ k x, B.col k = x ∧ k ∈ U → (if k < w.heap.size then B.col k else 6) = x ∧ k ∈ v.ownBlock.toList ++ U := fun k x hk => ⟨by rw [if_pos (h.ltU k hk.2)]; exact hk.1, List.mem_append.2 (.inr hk.2)⟩
  refine ⟨v.ownBlock.toList ++ U, { B with av := v, col := fun k => if k < w.heap.size then B.col k else 6 }, ⟨(Off.of_below hb).trans (o.more (by simp [h.kd.2])), fun k hk => ?_⟩, ?_⟩
  · rcases List.mem_append.1 hk with hk | hk
    · exact .inr (hge k (by simpa using hk))
    · exact .inl hk
  · refine ⟨e, ?_, ?_, ?_, ?_, ?_, h5 ▸ hy, h3 ▸ h.vok, h2 ▸ h.dcl, ?_, hq _ _ h.kd, hq _ _ h.km, hq _ _ h.kg, hq _ _ h.kc, fun k hk => hq _ _ (h.kM k hk), fun k hk => hq _ _ (h.kl k hk), ?_, h.pok, h.n10, h.mx0, h.mxl, fun e => h.nl (by rw [← h4]; exact e)⟩
    · rw [h1]; exact x1.mem.off o (hn _ (by rw [h.km.1]; omega)) (hn _ (by rw [h.kg.1]; omega))
    · intro hs
      obtain ⟨c1, c2, c3⟩ := x1.cel (h6 hs)
      rw [h1]
      exact ⟨c1, c2.off o (hn _ (by rw [h.kc.1]; omega)), c3⟩
    · rw [h3]; exact x1.val.off o (fun k hk hM => by simp at hk; subst hk; have := (h.kM _ hM).1; rw [h.kd.1] at this; omega)
    · rw [h4]; exact own_offk x1.log o (fun k hk => hn _ (by rw [(h.kl k hk).1]; omega))
    · rw [h5]; exact own_offk (own_base ho (Nat.zero_le _)) o (fun k hk => by have := hge k hk; simp; omega)
    · intro k hk
      rcases List.mem_append.1 hk with hk | hk
      · exact Nat.lt_of_lt_of_le (hlt k (by simpa using hk)) o.size
      · exact Nat.lt_of_lt_of_le (x1.ltU k hk) o.size
    · intro k hk
      have := hge k hk
      exact ⟨by show (if k < w.heap.size then _ else 6) = 6; rw [if_neg (by omega)], List.mem_append.2 (.inl (by simpa using hk))⟩
set_option maxHeartbeats 1600000 in
theorem rvwrite_any (d m g n mx : Nat) (P : Pm) (U : List Nat) (s : Sd) (a : Option Addr) (len cap : Nat) (bs : Nat → Nat) (o : Bool) (w : World) (h : RW w d m g n mx P U s) (hr : Row8 w a len cap bs) :
    Calls Tryz.prog 21 #[.pointer (some ⟨d, 0, none⟩), .slice a len cap, .bool o] w fun e w' => e = .returned (.int .i64 (dwriteE P s len)) ∧ Hid (∃ U', Gr U w U' w' ∧ RW w' d m g n mx P U' (dwriteS P s len bs o)) := by
  obtain ⟨B, x⟩ := id h
  have c18 : w.cell? ⟨d, 18, none⟩ = some (.int .i64 (s.st : Nat)) := cell_of_row w d 18 _ _ _ x.dev
  have c2 : w.cell? ⟨d, 2, none⟩ = some (.int .i64 (P.i : Nat)) := cell_of_row w d 2 _ _ _ x.dev
  unfold dwriteE dwriteS
  by_cases h6 : s.st = 6
  · rw [if_pos h6, if_pos h6]
    rw [h6] at c18
    have H : Hid (_) := h
    clear h x c2 h6 hr
    go_enter Tryz.func21, Tryz.ntmps21
    go_wp2_with fail
    go_ret
    exact ⟨rfl, U, Gr.refl _ _, H.out⟩
  · rw [if_neg h6, if_neg h6]
    have e6 : ((s.st : Int) == 6) = false := by simp; omega
    by_cases hl : len = P.i
    · subst hl
      rw [if_pos rfl, if_pos rfl]
      obtain ⟨i0, hi, hz0, hz1, hz2⟩ := info_parts info_u8
      have hbd := build0D
      have hbelA : Below w.heap.size w (w.alloc (.cells #[] 5)) := (Below.refl _ _).alloc (Nat.le_refl _) _
      have R0 := hr.below hbelA
      have O0 := own0D w.heap.size bs w (Nat.le_refl _)
      have hszA := hbelA.size
      have hi8 := x.pok.i8
      have hdl := x.dlt
      have HX : Hid (_) := And.intro x hr.byte
      clear h x h6 hr
      go_enter Tryz.func21, Tryz.ntmps21
      go_wp2_with (at_builtin; refine wpList_append_row8 rfl (.tmp 21) (.tmp 22) 22 rfl w.heap.size 5 i0 (.int .u8 0) Tryz.underlying22 hi hz0 hz1 hz2 rfl _ 0 _ rfl O0 a P.i cap bs rfl R0 (by unfold maxLen; omega) (by omega) hszA ?_)
      intro v2 w2 hown2 hgrow2
      have hbel2 : Below w.heap.size w w2 := hbelA.grown hgrow2 hszA (fun k hk => (O0.lt k hk).1)
      rw [show CB bs 0 = [] from rfl, List.nil_append] at hown2
      have hown3 : w2.ownsRow w.heap.size 5 1 v2 P.i (CB bs P.i) := by simpa using hown2
      obtain ⟨a2, k2, rfl, _⟩ := own_row8 hown3 HX.out.2
      have x2 := HX.out.1.newd (Off.of_below hbel2)
      have y23 : w2.cell? ⟨d, 23, none⟩ = some B.av := cell_of_row w2 d 23 _ _ _ x2.dev
      have y24 : w2.cell? ⟨d, 24, none⟩ = some (.bool s.hd) := cell_of_row w2 d 24 _ _ _ x2.dev
      have f23 := x2.fz 23
      have f24 := x2.fz 24
      have H2 : Hid (_) := And.intro hown3 (And.intro hbel2 x2)
      clear hown2 hown3 hbel2 hgrow2 O0 R0 hbelA hszA x2 c2 c18
      go_wp2_with fail
      go_ret
      obtain ⟨h1, h2, x2⟩ := H2.out
      have e1 : (w2.setCell ⟨d, 23, none⟩ (.slice a2 P.i k2)).heap[d]? = some (.cells (RDC P m mx B.cp B.lv B.vv s (.slice a2 P.i k2)) 128 (0, 0)) := heap_setCell_same _ _ _ _ _ _ x2.dev
      have e2 : ((w2.setCell ⟨d, 23, none⟩ (.slice a2 P.i k2)).setCell ⟨d, 24, none⟩ (.bool o)).heap[d]? = some (.cells (RDC P m mx B.cp B.lv B.vv { s with ap := bs, hd := o } (.slice a2 P.i k2)) 128 (0, 0)) := heap_setCell_same _ _ _ _ _ _ e1
      obtain ⟨U3, B3, g3, x3⟩ := HX.out.1.appd (s' := { s with ap := bs, hd := o }) (A' := s.st ≠ 6) h2 h1 HX.out.2 ((Off.setCell d 23 w2 (.slice a2 P.i k2)).trans (Off.setCell d 24 _ (.bool o))) e2 rfl rfl rfl rfl rfl id
      exact ⟨rfl, U3, g3, B3, x3⟩
    · rw [if_neg hl, if_neg hl]
      have el : ((len : Int) != (P.i : Int)) = true := by simp; omega
      have H : Hid (_) := h
      clear h x h6 hr hl
      go_enter Tryz.func21, Tryz.ntmps21
      go_wp2_with fail
      go_ret
      exact ⟨rfl, U, Gr.refl _ _, H.out⟩
end Go.Proofs.YtndjepeolamedaaGreat
namespace Go.Proofs.YtndjepeolamedaaGreat
set_option maxRecDepth 100000
open Go.RowKit
theorem lifeZ {w : World} {d m mx : Nat} {P : Pm} {cp : Value} (h : w.heap[d]? = some (.cells #[.int .u32 (P.c : Nat), .int .i64 (P.o : Nat), .int .i64 (P.i : Nat), .int .i64 (P.t : Nat), .int .u32 (P.n : Nat), .pointer (some ⟨m, 0, none⟩), .int .u32 (mx : Nat), cp, .slice none 0 0, .int .i64 0, .int .i64 0, .int .i64 0, .bool false, .bool false, .bool false, .int .i64 0, .slice none 0 0, .bool false, .int .i64 0, .int .u32 0, .int .u32 0, .int .u32 0, .int .i64 0, .slice none 0 0, .bool false] 128 (0, 0))) :
    ((((((((((((((w.setCell ⟨d, 9, none⟩ (.int .i64 (P.t : Nat))).setCell ⟨d, 10, none⟩ (.int .i64 0)).setCell ⟨d, 11, none⟩ (.int .i64 (P.o : Nat))).setCell ⟨d, 12, none⟩ (.bool false)).setCell ⟨d, 13, none⟩ (.bool false)).setCell ⟨d, 14, none⟩ (.bool false)).setCell ⟨d, 15, none⟩ (.int .i64 0)).setCell ⟨d, 16, none⟩ (.slice none 0 0)).setCell ⟨d, 17, none⟩ (.bool false)).setCell ⟨d, 18, none⟩ (.int .i64 1)).setCell ⟨d, 19, none⟩ (.int .u32 0)).setCell ⟨d, 20, none⟩ (.int .u32 0)).setCell ⟨d, 21, none⟩ (.int .u32 0)).setCell ⟨d, 22, none⟩ (.int .i64 0)).heap[d]? = some (.cells #[.int .u32 (P.c : Nat), .int .i64 (P.o : Nat), .int .i64 (P.i : Nat), .int .i64 (P.t : Nat), .int .u32 (P.n : Nat), .pointer (some ⟨m, 0, none⟩), .int .u32 (mx : Nat), cp, .slice none 0 0, .int .i64 (P.t : Nat), .int .i64 0, .int .i64 (P.o : Nat), .bool false, .bool false, .bool false, .int .i64 0, .slice none 0 0, .bool false, .int .i64 1, .int .u32 0, .int .u32 0, .int .u32 0, .int .i64 0, .slice none 0 0, .bool false] 128 (0, 0)) ∧ Off [d] w ((((((((((((((w.setCell ⟨d, 9, none⟩ (.int .i64 (P.t : Nat))).setCell ⟨d, 10, none⟩ (.int .i64 0)).setCell ⟨d, 11, none⟩ (.int .i64 (P.o : Nat))).setCell ⟨d, 12, none⟩ (.bool false)).setCell ⟨d, 13, none⟩ (.bool false)).setCell ⟨d, 14, none⟩ (.bool false)).setCell ⟨d, 15, none⟩ (.int .i64 0)).setCell ⟨d, 16, none⟩ (.slice none 0 0)).setCell ⟨d, 17, none⟩ (.bool false)).setCell ⟨d, 18, none⟩ (.int .i64 1)).setCell ⟨d, 19, none⟩ (.int .u32 0)).setCell ⟨d, 20, none⟩ (.int .u32 0)).setCell ⟨d, 21, none⟩ (.int .u32 0)).setCell ⟨d, 22, none⟩ (.int .i64 0)) := by
  have e0 : (w.setCell ⟨d, 9, none⟩ (.int .i64 (P.t : Nat))).heap[d]? = some (.cells #[.int .u32 (P.c : Nat), .int .i64 (P.o : Nat), .int .i64 (P.i : Nat), .int .i64 (P.t : Nat), .int .u32 (P.n : Nat), .pointer (some ⟨m, 0, none⟩), .int .u32 (mx : Nat), cp, .slice none 0 0, .int .i64 (P.t : Nat), .int .i64 0, .int .i64 0, .bool false, .bool false, .bool false, .int .i64 0, .slice none 0 0, .bool false, .int .i64 0, .int .u32 0, .int .u32 0, .int .u32 0, .int .i64 0, .slice none 0 0, .bool false] 128 (0, 0)) := heap_setCell_same _ _ _ _ _ _ h
  have e1 : ((w.setCell ⟨d, 9, none⟩ (.int .i64 (P.t : Nat))).setCell ⟨d, 10, none⟩ (.int .i64 0)).heap[d]? = some (.cells #[.int .u32 (P.c : Nat), .int .i64 (P.o : Nat), .int .i64 (P.i : Nat), .int .i64 (P.t : Nat), .int .u32 (P.n : Nat), .pointer (some ⟨m, 0, none⟩), .int .u32 (mx : Nat), cp, .slice none 0 0, .int .i64 (P.t : Nat), .int .i64 0, .int .i64 0, .bool false, .bool false, .bool false, .int .i64 0, .slice none 0 0, .bool false, .int .i64 0, .int .u32 0, .int .u32 0, .int .u32 0, .int .i64 0, .slice none 0 0, .bool false] 128 (0, 0)) := heap_setCell_same _ _ _ _ _ _ e0
  have e2 : (((w.setCell ⟨d, 9, none⟩ (.int .i64 (P.t : Nat))).setCell ⟨d, 10, none⟩ (.int .i64 0)).setCell ⟨d, 11, none⟩ (.int .i64 (P.o : Nat))).heap[d]? = some (.cells #[.int .u32 (P.c : Nat), .int .i64 (P.o : Nat), .int .i64 (P.i : Nat), .int .i64 (P.t : Nat), .int .u32 (P.n : Nat), .pointer (some ⟨m, 0, none⟩), .int .u32 (mx : Nat), cp, .slice none 0 0, .int .i64 (P.t : Nat), .int .i64 0, .int .i64 (P.o : Nat), .bool false, .bool false, .bool false, .int .i64 0, .slice none 0 0, .bool false, .int .i64 0, .int .u32 0, .int .u32 0, .int .u32 0, .int .i64 0, .slice none 0 0, .bool false] 128 (0, 0)) := heap_setCell_same _ _ _ _ _ _ e1
  have e3 : ((((w.setCell ⟨d, 9, none⟩ (.int .i64 (P.t : Nat))).setCell ⟨d, 10, none⟩ (.int .i64 0)).setCell ⟨d, 11, none⟩ (.int .i64 (P.o : Nat))).setCell ⟨d, 12, none⟩ (.bool false)).heap[d]? = some (.cells #[.int .u32 (P.c : Nat), .int .i64 (P.o : Nat), .int .i64 (P.i : Nat), .int .i64 (P.t : Nat), .int .u32 (P.n : Nat), .pointer (some ⟨m, 0, none⟩), .int .u32 (mx : Nat), cp, .slice none 0 0, .int .i64 (P.t : Nat), .int .i64 0, .int .i64 (P.o : Nat), .bool false, .bool false, .bool false, .int .i64 0, .slice none 0 0, .bool false, .int .i64 0, .int .u32 0, .int .u32 0, .int .u32 0, .int .i64 0, .slice none 0 0, .bool false] 128 (0, 0)) := heap_setCell_same _ _ _ _ _ _ e2
  have e4 : (((((w.setCell ⟨d, 9, none⟩ (.int .i64 (P.t : Nat))).setCell ⟨d, 10, none⟩ (.int .i64 0)).setCell ⟨d, 11, none⟩ (.int .i64 (P.o : Nat))).setCell ⟨d, 12, none⟩ (.bool false)).setCell ⟨d, 13, none⟩ (.bool false)).heap[d]? = some (.cells #[.int .u32 (P.c : Nat), .int .i64 (P.o : Nat), .int .i64 (P.i : Nat), .int .i64 (P.t : Nat), .int .u32 (P.n : Nat), .pointer (some ⟨m, 0, none⟩), .int .u32 (mx : Nat), cp, .slice none 0 0, .int .i64 (P.t : Nat), .int .i64 0, .int .i64 (P.o : Nat), .bool false, .bool false, .bool false, .int .i64 0, .slice none 0 0, .bool false, .int .i64 0, .int .u32 0, .int .u32 0, .int .u32 0, .int .i64 0, .slice none 0 0, .bool false] 128 (0, 0)) := heap_setCell_same _ _ _ _ _ _ e3
  have e5 : ((((((w.setCell ⟨d, 9, none⟩ (.int .i64 (P.t : Nat))).setCell ⟨d, 10, none⟩ (.int .i64 0)).setCell ⟨d, 11, none⟩ (.int .i64 (P.o : Nat))).setCell ⟨d, 12, none⟩ (.bool false)).setCell ⟨d, 13, none⟩ (.bool false)).setCell ⟨d, 14, none⟩ (.bool false)).heap[d]? = some (.cells #[.int .u32 (P.c : Nat), .int .i64 (P.o : Nat), .int .i64 (P.i : Nat), .int .i64 (P.t : Nat), .int .u32 (P.n : Nat), .pointer (some ⟨m, 0, none⟩), .int .u32 (mx : Nat), cp, .slice none 0 0, .int .i64 (P.t : Nat), .int .i64 0, .int .i64 (P.o : Nat), .bool false, .bool false, .bool false, .int .i64 0, .slice none 0 0, .bool false, .int .i64 0, .int .u32 0, .int .u32 0, .int .u32 0, .int .i64 0, .slice none 0 0, .bool false] 128 (0, 0)) := heap_setCell_same _ _ _ _ _ _ e4
  have e6 : (((((((w.setCell ⟨d, 9, none⟩ (.int .i64 (P.t : Nat))).setCell ⟨d, 10, none⟩ (.int .i64 0)).setCell ⟨d, 11, none⟩ (.int .i64 (P.o : Nat))).setCell ⟨d, 12, none⟩ (.bool false)).setCell ⟨d, 13, none⟩ (.bool false)).setCell ⟨d, 14, none⟩ (.bool false)).setCell ⟨d, 15, none⟩ (.int .i64 0)).heap[d]? = some (.cells #[.int .u32 (P.c : Nat), .int .i64 (P.o : Nat), .int .i64 (P.i : Nat), .int .i64 (P.t : Nat), .int .u32 (P.n : Nat), .pointer (some ⟨m, 0, none⟩), .int .u32 (mx : Nat), cp, .slice none 0 0, .int .i64 (P.t : Nat), .int .i64 0, .int .i64 (P.o : Nat), .bool false, .bool false, .bool false, .int .i64 0, .slice none 0 0, .bool false, .int .i64 0, .int .u32 0, .int .u32 0, .int .u32 0, .int .i64 0, .slice none 0 0, .bool false] 128 (0, 0)) := heap_setCell_same _ _ _ _ _ _ e5
  have e7 : ((((((((w.setCell ⟨d, 9, none⟩ (.int .i64 (P.t : Nat))).setCell ⟨d, 10, none⟩ (.int .i64 0)).setCell ⟨d, 11, none⟩ (.int .i64 (P.o : Nat))).setCell ⟨d, 12, none⟩ (.bool false)).setCell ⟨d, 13, none⟩ (.bool false)).setCell ⟨d, 14, none⟩ (.bool false)).setCell ⟨d, 15, none⟩ (.int .i64 0)).setCell ⟨d, 16, none⟩ (.slice none 0 0)).heap[d]? = some (.cells #[.int .u32 (P.c : Nat), .int .i64 (P.o : Nat), .int .i64 (P.i : Nat), .int .i64 (P.t : Nat), .int .u32 (P.n : Nat), .pointer (some ⟨m, 0, none⟩), .int .u32 (mx : Nat), cp, .slice none 0 0, .int .i64 (P.t : Nat), .int .i64 0, .int .i64 (P.o : Nat), .bool false, .bool false, .bool false, .int .i64 0, .slice none 0 0, .bool false, .int .i64 0, .int .u32 0, .int .u32 0, .int .u32 0, .int .i64 0, .slice none 0 0, .bool false] 128 (0, 0)) := heap_setCell_same _ _ _ _ _ _ e6
  have e8 : (((((((((w.setCell ⟨d, 9, none⟩ (.int .i64 (P.t : Nat))).setCell ⟨d, 10, none⟩ (.int .i64 0)).setCell ⟨d, 11, none⟩ (.int .i64 (P.o : Nat))).setCell ⟨d, 12, none⟩ (.bool false)).setCell ⟨d, 13, none⟩ (.bool false)).setCell ⟨d, 14, none⟩ (.bool false)).setCell ⟨d, 15, none⟩ (.int .i64 0)).setCell ⟨d, 16, none⟩ (.slice none 0 0)).setCell ⟨d, 17, none⟩ (.bool false)).heap[d]? = some (.cells #[.int .u32 (P.c : Nat), .int .i64 (P.o : Nat), .int .i64 (P.i : Nat), .int .i64 (P.t : Nat), .int .u32 (P.n : Nat), .pointer (some ⟨m, 0, none⟩), .int .u32 (mx : Nat), cp, .slice none 0 0, .int .i64 (P.t : Nat), .int .i64 0, .int .i64 (P.o : Nat), .bool false, .bool false, .bool false, .int .i64 0, .slice none 0 0, .bool false, .int .i64 0, .int .u32 0, .int .u32 0, .int .u32 0, .int .i64 0, .slice none 0 0, .bool false] 128 (0, 0)) := heap_setCell_same _ _ _ _ _ _ e7
  have e9 : ((((((((((w.setCell ⟨d, 9, none⟩ (.int .i64 (P.t : Nat))).setCell ⟨d, 10, none⟩ (.int .i64 0)).setCell ⟨d, 11, none⟩ (.int .i64 (P.o : Nat))).setCell ⟨d, 12, none⟩ (.bool false)).setCell ⟨d, 13, none⟩ (.bool false)).setCell ⟨d, 14, none⟩ (.bool false)).setCell ⟨d, 15, none⟩ (.int .i64 0)).setCell ⟨d, 16, none⟩ (.slice none 0 0)).setCell ⟨d, 17, none⟩ (.bool false)).setCell ⟨d, 18, none⟩ (.int .i64 1)).heap[d]? = some (.cells #[.int .u32 (P.c : Nat), .int .i64 (P.o : Nat), .int .i64 (P.i : Nat), .int .i64 (P.t : Nat), .int .u32 (P.n : Nat), .pointer (some ⟨m, 0, none⟩), .int .u32 (mx : Nat), cp, .slice none 0 0, .int .i64 (P.t : Nat), .int .i64 0, .int .i64 (P.o : Nat), .bool false, .bool false, .bool false, .int .i64 0, .slice none 0 0, .bool false, .int .i64 1, .int .u32 0, .int .u32 0, .int .u32 0, .int .i64 0, .slice none 0 0, .bool false] 128 (0, 0)) := heap_setCell_same _ _ _ _ _ _ e8
  have e10 : (((((((((((w.setCell ⟨d, 9, none⟩ (.int .i64 (P.t : Nat))).setCell ⟨d, 10, none⟩ (.int .i64 0)).setCell ⟨d, 11, none⟩ (.int .i64 (P.o : Nat))).setCell ⟨d, 12, none⟩ (.bool false)).setCell ⟨d, 13, none⟩ (.bool false)).setCell ⟨d, 14, none⟩ (.bool false)).setCell ⟨d, 15, none⟩ (.int .i64 0)).setCell ⟨d, 16, none⟩ (.slice none 0 0)).setCell ⟨d, 17, none⟩ (.bool false)).setCell ⟨d, 18, none⟩ (.int .i64 1)).setCell ⟨d, 19, none⟩ (.int .u32 0)).heap[d]? = some (.cells #[.int .u32 (P.c : Nat), .int .i64 (P.o : Nat), .int .i64 (P.i : Nat), .int .i64 (P.t : Nat), .int .u32 (P.n : Nat), .pointer (some ⟨m, 0, none⟩), .int .u32 (mx : Nat), cp, .slice none 0 0, .int .i64 (P.t : Nat), .int .i64 0, .int .i64 (P.o : Nat), .bool false, .bool false, .bool false, .int .i64 0, .slice none 0 0, .bool false, .int .i64 1, .int .u32 0, .int .u32 0, .int .u32 0, .int .i64 0, .slice none 0 0, .bool false] 128 (0, 0)) := heap_setCell_same _ _ _ _ _ _ e9
  have e11 : ((((((((((((w.setCell ⟨d, 9, none⟩ (.int .i64 (P.t : Nat))).setCell ⟨d, 10, none⟩ (.int .i64 0)).setCell ⟨d, 11, none⟩ (.int .i64 (P.o : Nat))).setCell ⟨d, 12, none⟩ (.bool false)).setCell ⟨d, 13, none⟩ (.bool false)).setCell ⟨d, 14, none⟩ (.bool false)).setCell ⟨d, 15, none⟩ (.int .i64 0)).setCell ⟨d, 16, none⟩ (.slice none 0 0)).setCell ⟨d, 17, none⟩ (.bool false)).setCell ⟨d, 18, none⟩ (.int .i64 1)).setCell ⟨d, 19, none⟩ (.int .u32 0)).setCell ⟨d, 20, none⟩ (.int .u32 0)).heap[d]? = some (.cells #[.int .u32 (P.c : Nat), .int .i64 (P.o : Nat), .int .i64 (P.i : Nat), .int .i64 (P.t : Nat), .int .u32 (P.n : Nat), .pointer (some ⟨m, 0, none⟩), .int .u32 (mx : Nat), cp, .slice none 0 0, .int .i64 (P.t : Nat), .int .i64 0, .int .i64 (P.o : Nat), .bool false, .bool false, .bool false, .int .i64 0, .slice none 0 0, .bool false, .int .i64 1, .int .u32 0, .int .u32 0, .int .u32 0, .int .i64 0, .slice none 0 0, .bool false] 128 (0, 0)) := heap_setCell_same _ _ _ _ _ _ e10
  have e12 : (((((((((((((w.setCell ⟨d, 9, none⟩ (.int .i64 (P.t : Nat))).setCell ⟨d, 10, none⟩ (.int .i64 0)).setCell ⟨d, 11, none⟩ (.int .i64 (P.o : Nat))).setCell ⟨d, 12, none⟩ (.bool false)).setCell ⟨d, 13, none⟩ (.bool false)).setCell ⟨d, 14, none⟩ (.bool false)).setCell ⟨d, 15, none⟩ (.int .i64 0)).setCell ⟨d, 16, none⟩ (.slice none 0 0)).setCell ⟨d, 17, none⟩ (.bool false)).setCell ⟨d, 18, none⟩ (.int .i64 1)).setCell ⟨d, 19, none⟩ (.int .u32 0)).setCell ⟨d, 20, none⟩ (.int .u32 0)).setCell ⟨d, 21, none⟩ (.int .u32 0)).heap[d]? = some (.cells #[.int .u32 (P.c : Nat), .int .i64 (P.o : Nat), .int .i64 (P.i : Nat), .int .i64 (P.t : Nat), .int .u32 (P.n : Nat), .pointer (some ⟨m, 0, none⟩), .int .u32 (mx : Nat), cp, .slice none 0 0, .int .i64 (P.t : Nat), .int .i64 0, .int .i64 (P.o : Nat), .bool false, .bool false, .bool false, .int .i64 0, .slice none 0 0, .bool false, .int .i64 1, .int .u32 0, .int .u32 0, .int .u32 0, .int .i64 0, .slice none 0 0, .bool false] 128 (0, 0)) := heap_setCell_same _ _ _ _ _ _ e11
  have e13 : ((((((((((((((w.setCell ⟨d, 9, none⟩ (.int .i64 (P.t : Nat))).setCell ⟨d, 10, none⟩ (.int .i64 0)).setCell ⟨d, 11, none⟩ (.int .i64 (P.o : Nat))).setCell ⟨d, 12, none⟩ (.bool false)).setCell ⟨d, 13, none⟩ (.bool false)).setCell ⟨d, 14, none⟩ (.bool false)).setCell ⟨d, 15, none⟩ (.int .i64 0)).setCell ⟨d, 16, none⟩ (.slice none 0 0)).setCell ⟨d, 17, none⟩ (.bool false)).setCell ⟨d, 18, none⟩ (.int .i64 1)).setCell ⟨d, 19, none⟩ (.int .u32 0)).setCell ⟨d, 20, none⟩ (.int .u32 0)).setCell ⟨d, 21, none⟩ (.int .u32 0)).setCell ⟨d, 22, none⟩ (.int .i64 0)).heap[d]? = some (.cells #[.int .u32 (P.c : Nat), .int .i64 (P.o : Nat), .int .i64 (P.i : Nat), .int .i64 (P.t : Nat), .int .u32 (P.n : Nat), .pointer (some ⟨m, 0, none⟩), .int .u32 (mx : Nat), cp, .slice none 0 0, .int .i64 (P.t : Nat), .int .i64 0, .int .i64 (P.o : Nat), .bool false, .bool false, .bool false, .int .i64 0, .slice none 0 0, .bool false, .int .i64 1, .int .u32 0, .int .u32 0, .int .u32 0, .int .i64 0, .slice none 0 0, .bool false] 128 (0, 0)) := heap_setCell_same _ _ _ _ _ _ e12
  exact ⟨e13, ((((((((((((((Off.setCell d 9 w (.int .i64 (P.t : Nat))).trans (Off.setCell d 10 _ (.int .i64 0))).trans (Off.setCell d 11 _ (.int .i64 (P.o : Nat)))).trans (Off.setCell d 12 _ (.bool false))).trans (Off.setCell d 13 _ (.bool false))).trans (Off.setCell d 14 _ (.bool false))).trans (Off.setCell d 15 _ (.int .i64 0))).trans (Off.setCell d 16 _ (.slice none 0 0))).trans (Off.setCell d 17 _ (.bool false))).trans (Off.setCell d 18 _ (.int .i64 1))).trans (Off.setCell d 19 _ (.int .u32 0))).trans (Off.setCell d 20 _ (.int .u32 0))).trans (Off.setCell d 21 _ (.int .u32 0))).trans (Off.setCell d 22 _ (.int .i64 0)))⟩
set_option maxHeartbeats 6400000 in
theorem rlife_first (d m mx : Nat) (P : Pm) (cp : Value) (ms : Ms) (w : World) (h : w.heap[d]? = some (.cells #[.int .u32 (P.c : Nat), .int .i64 (P.o : Nat), .int .i64 (P.i : Nat), .int .i64 (P.t : Nat), .int .u32 (P.n : Nat), .pointer (some ⟨m, 0, none⟩), .int .u32 (mx : Nat), cp, .slice none 0 0, .int .i64 0, .int .i64 0, .int .i64 0, .bool false, .bool false, .bool false, .int .i64 0, .slice none 0 0, .bool false, .int .i64 0, .int .u32 0, .int .u32 0, .int .u32 0, .int .i64 0, .slice none 0 0, .bool false] 128 (0, 0))) (hi8 : P.i ≤ 8) :
    Calls Tryz.prog 55 #[.pointer (some ⟨d, 0, none⟩), .int .i64 1] w fun e w' => e = .returned (.tuple #[]) ∧ Hid (Off [d] w w' ∧ ∃ ga, w.heap.size ≤ ga ∧ ga < w'.heap.size ∧ w'.heap[d]? = some (.cells (RDC P m mx cp (.slice none 0 0) (.slice none 0 0) (dnew ms) (.slice (some ⟨ga, 0, none⟩) P.i P.i)) 128 (0, 0)) ∧ w'.ownsRow 0 5 1 (.slice (some ⟨ga, 0, none⟩) P.i P.i) P.i (CB (fun _ => 0) P.i)) := by
  obtain ⟨i0, hi, hz0, hz1, hz2⟩ := info_parts info_u8
  have hdl : d < w.heap.size := (Array.getElem?_eq_some_iff.1 h).1
  have c1 : w.cell? ⟨d, 1, none⟩ = some (.int .i64 (P.o : Nat)) := cell_of_row w d 1 _ _ _ h
  have c2 : w.cell? ⟨d, 2, none⟩ = some (.int .i64 (P.i : Nat)) := cell_of_row w d 2 _ _ _ h
  have c3 : w.cell? ⟨d, 3, none⟩ = some (.int .i64 (P.t : Nat)) := cell_of_row w d 3 _ _ _ h
  have c9 : w.cell? ⟨d, 9, none⟩ = some (.int .i64 0) := cell_of_row w d 9 _ _ _ h
  have z9 := frozen_of_row w d 9 _ _ h
  have c10 : w.cell? ⟨d, 10, none⟩ = some (.int .i64 0) := cell_of_row w d 10 _ _ _ h
  have z10 := frozen_of_row w d 10 _ _ h
  have c11 : w.cell? ⟨d, 11, none⟩ = some (.int .i64 0) := cell_of_row w d 11 _ _ _ h
  have z11 := frozen_of_row w d 11 _ _ h
  have c12 : w.cell? ⟨d, 12, none⟩ = some (.bool false) := cell_of_row w d 12 _ _ _ h
  have z12 := frozen_of_row w d 12 _ _ h
  have c13 : w.cell? ⟨d, 13, none⟩ = some (.bool false) := cell_of_row w d 13 _ _ _ h
  have z13 := frozen_of_row w d 13 _ _ h
  have c14 : w.cell? ⟨d, 14, none⟩ = some (.bool false) := cell_of_row w d 14 _ _ _ h
  have z14 := frozen_of_row w d 14 _ _ h
  have c15 : w.cell? ⟨d, 15, none⟩ = some (.int .i64 0) := cell_of_row w d 15 _ _ _ h
  have z15 := frozen_of_row w d 15 _ _ h
  have c16 : w.cell? ⟨d, 16, none⟩ = some (.slice none 0 0) := cell_of_row w d 16 _ _ _ h
  have z16 := frozen_of_row w d 16 _ _ h
  have c17 : w.cell? ⟨d, 17, none⟩ = some (.bool false) := cell_of_row w d 17 _ _ _ h
  have z17 := frozen_of_row w d 17 _ _ h
  have c18 : w.cell? ⟨d, 18, none⟩ = some (.int .i64 0) := cell_of_row w d 18 _ _ _ h
  have z18 := frozen_of_row w d 18 _ _ h
  have c19 : w.cell? ⟨d, 19, none⟩ = some (.int .u32 0) := cell_of_row w d 19 _ _ _ h
  have z19 := frozen_of_row w d 19 _ _ h
  have c20 : w.cell? ⟨d, 20, none⟩ = some (.int .u32 0) := cell_of_row w d 20 _ _ _ h
  have z20 := frozen_of_row w d 20 _ _ h
  have c21 : w.cell? ⟨d, 21, none⟩ = some (.int .u32 0) := cell_of_row w d 21 _ _ _ h
  have z21 := frozen_of_row w d 21 _ _ h
  have c22 : w.cell? ⟨d, 22, none⟩ = some (.int .i64 0) := cell_of_row w d 22 _ _ _ h
  have z22 := frozen_of_row w d 22 _ _ h
  have l14 := lifeZ h
  have H : Hid (_) := And.intro hdl l14
  clear h l14 hdl
  go_enter Tryz.func55, Tryz.ntmps55
  go_upto_region 7 with fail
  generalize ((((((((((((((w.setCell ⟨d, 9, none⟩ (.int .i64 (P.t : Nat))).setCell ⟨d, 10, none⟩ (.int .i64 0)).setCell ⟨d, 11, none⟩ (.int .i64 (P.o : Nat))).setCell ⟨d, 12, none⟩ (.bool false)).setCell ⟨d, 13, none⟩ (.bool false)).setCell ⟨d, 14, none⟩ (.bool false)).setCell ⟨d, 15, none⟩ (.int .i64 0)).setCell ⟨d, 16, none⟩ (.slice none 0 0)).setCell ⟨d, 17, none⟩ (.bool false)).setCell ⟨d, 18, none⟩ (.int .i64 1)).setCell ⟨d, 19, none⟩ (.int .u32 0)).setCell ⟨d, 20, none⟩ (.int .u32 0)).setCell ⟨d, 21, none⟩ (.int .u32 0)).setCell ⟨d, 22, none⟩ (.int .i64 0)) = w1 at *
  have e1 := H.out.2.1
  have hd1 : d < w1.heap.size := Nat.lt_of_lt_of_le H.out.1 H.out.2.2.size
  have d2 : w1.cell? ⟨d, 2, none⟩ = some (.int .i64 (P.i : Nat)) := cell_of_row w1 d 2 _ _ _ e1
  have H1 : Hid (_) := And.intro e1 hd1
  clear e1 hd1 c1 c2 c3 c9 z9 c10 z10 c11 z11 c12 z12 c13 z13 c14 z14 c15 z15 c16 z16 c17 z17 c18 z18 c19 z19 c20 z20 c21 z21 c22 z22
  go_wp2_with (at_make; refine wpList_make8 _ rfl (.tmp 43) (.tmp 43) 22 rfl w1.heap.size 5 i0 Tryz.underlying22 hi hz0 hz1 hz2 _ _ _ _ P.i P.i rfl rfl rfl rfl (Nat.le_refl _) (by omega) (Nat.le_refl _) ?_)
  intro w2 hown2 hbel2
  have e2 := (hbel2.block d H1.out.2).trans H1.out.1
  have c23 : w2.cell? ⟨d, 23, none⟩ = some (.slice none 0 0) := cell_of_row w2 d 23 _ _ _ e2
  have c24 : w2.cell? ⟨d, 24, none⟩ = some (.bool false) := cell_of_row w2 d 24 _ _ _ e2
  have z23 := frozen_of_row w2 d 23 _ _ e2
  have z24 := frozen_of_row w2 d 24 _ _ e2
  have H2 : Hid (_) := And.intro hown2 (And.intro hbel2 e2)
  clear hown2 hbel2 e2 d2 H1
  go_wp2_with fail
  go_end0
  obtain ⟨hown2, hbel2, e2⟩ := H2.out
  have e3 : (w2.setCell ⟨d, 23, none⟩ (.slice (some ⟨w1.heap.size, 0, none⟩) P.i P.i)).heap[d]? = some (.cells #[.int .u32 (P.c : Nat), .int .i64 (P.o : Nat), .int .i64 (P.i : Nat), .int .i64 (P.t : Nat), .int .u32 (P.n : Nat), .pointer (some ⟨m, 0, none⟩), .int .u32 (mx : Nat), cp, .slice none 0 0, .int .i64 (P.t : Nat), .int .i64 0, .int .i64 (P.o : Nat), .bool false, .bool false, .bool false, .int .i64 0, .slice none 0 0, .bool false, .int .i64 1, .int .u32 0, .int .u32 0, .int .u32 0, .int .i64 0, .slice (some ⟨w1.heap.size, 0, none⟩) P.i P.i, .bool false] 128 (0, 0)) := heap_setCell_same _ _ _ _ _ _ e2
  have e4 : ((w2.setCell ⟨d, 23, none⟩ (.slice (some ⟨w1.heap.size, 0, none⟩) P.i P.i)).setCell ⟨d, 24, none⟩ (.bool false)).heap[d]? = some (.cells #[.int .u32 (P.c : Nat), .int .i64 (P.o : Nat), .int .i64 (P.i : Nat), .int .i64 (P.t : Nat), .int .u32 (P.n : Nat), .pointer (some ⟨m, 0, none⟩), .int .u32 (mx : Nat), cp, .slice none 0 0, .int .i64 (P.t : Nat), .int .i64 0, .int .i64 (P.o : Nat), .bool false, .bool false, .bool false, .int .i64 0, .slice none 0 0, .bool false, .int .i64 1, .int .u32 0, .int .u32 0, .int .u32 0, .int .i64 0, .slice (some ⟨w1.heap.size, 0, none⟩) P.i P.i, .bool false] 128 (0, 0)) := heap_setCell_same _ _ _ _ _ _ e3
  have o4 : Off [d] w2 ((w2.setCell ⟨d, 23, none⟩ (.slice (some ⟨w1.heap.size, 0, none⟩) P.i P.i)).setCell ⟨d, 24, none⟩ (.bool false)) := (Off.setCell d 23 w2 _).trans (Off.setCell d 24 _ (.bool false))
  have hga := own_far hown2 ⟨w1.heap.size, 0, none⟩ rfl
  have hs1 := H.out.2.2.size
  have hs4 := o4.size
  refine ⟨rfl, (H.out.2.2.trans (Off.of_below hbel2)).trans o4, w1.heap.size, hs1, by have := hga.2; simp only at this; omega, e4, own_offk (own_base hown2 (Nat.zero_le _)) o4 (fun k hk => ?_)⟩
  cases hk
  have := H.out.1
  simp; omega
set_option maxHeartbeats 1600000 in
theorem rnew_bad (c : Nat) (o i t : Int) (n : Nat) (p : Option Addr) (x : Int) (w : World) (hE : ¬ okP c o i t n) :
    Calls Tryz.prog 18 #[.agg #[.int .u32 c, .int .i64 o, .int .i64 i, .int .i64 t, .int .u32 n], .pointer p, .int .u32 x] w fun e w' => e = .returned (.tuple #[.pointer none, .int .i64 90]) ∧ Below w.heap.size w w' := by
  have hb : Below w.heap.size w (w.alloc (.cells #[.int .u32 c, .int .i64 o, .int .i64 i, .int .i64 t, .int .u32 n] 36)) := (Below.refl _ _).alloc (Nat.le_refl _) _
  have hC := rlaw_any c o i t n (w.alloc (.cells #[.int .u32 c, .int .i64 o, .int .i64 i, .int .i64 t, .int .u32 n] 36)) false (decide_eq_false hE)
  have HB : Hid (_) := hb
  clear hE hb
  go_enter Tryz.func18, Tryz.ntmps18
  go_wp2_with (go_at_call 53; refine hC.mono ?_; rintro e w2 ⟨rfl, b2⟩)
  go_ret2
  exact ⟨rfl, HB.out.trans (b2.mono HB.out.size)⟩
theorem ropened (mx n : Nat) (ms : Ms) (h : opE mx n ms = 0) : mx ≠ 0 ∧ 10 ≤ n := by
  unfold opE at h
  by_cases h1 : mx = 0 ∨ n < 10
  · rw [if_pos h1] at h; omega
  · omega
theorem RB.made {w : World} {d m g n mx c ga : Nat} {P : Pm} {ms : Ms} (hP : Pok P) (hn : 10 ≤ n) (hx0 : mx ≠ 0) (hx : mx < 4294967296) (hM : RR w m g n ms) (hC : RX w c m mx (vz ms.bs) false) (hoff : ms.off = false) (hm : m < c) (hg : g < c) (hc : c < d) (hd : d < ga) (hga : ga < w.heap.size)
    (hdev : w.heap[d]? = some (.cells (RDC P m mx (.pointer (some ⟨c, 0, none⟩)) (.slice none 0 0) (.slice none 0 0) (dnew ms) (.slice (some ⟨ga, 0, none⟩) P.i P.i)) 128 (0, 0))) (hown : w.ownsRow 0 5 1 (.slice (some ⟨ga, 0, none⟩) P.i P.i) P.i (CB (fun _ => 0) P.i)) :
    RW w d m g n mx P [d, m, g, c, ga] (dnew ms) := by
  refine ⟨⟨c, [], .pointer (some ⟨c, 0, none⟩), .slice none 0 0, .slice none 0 0, .slice (some ⟨ga, 0, none⟩) P.i P.i, fun k => if k = d then 0 else if k = m ∨ k = g then 1 else if k = c then 2 else 6⟩, hdev, hM, fun _ => ⟨rfl, hC, hoff⟩, .inl ⟨rfl, rfl⟩, World.ownsRow_nil w _ _ _, hown, fun i _ => (by show 0 < 256; omega), Vok.new, Nat.zero_le _, ?_, ?_, ?_, ?_, ?_, fun k hk => (by simp at hk), fun k hk => (by cases hk), ?_, hP, hn, hx0, hx, fun _ => rfl⟩
  · intro k hk
    simp at hk
    omega
  · exact ⟨if_pos rfl, by simp⟩
  · exact ⟨by dsimp only; rw [if_neg (by omega), if_pos (.inl rfl)], by simp⟩
  · exact ⟨by dsimp only; rw [if_neg (by omega), if_pos (.inr rfl)], by simp⟩
  · exact ⟨by dsimp only; rw [if_neg (by omega), if_neg (by omega), if_pos rfl], by simp⟩
  · intro k hk
    cases hk
    exact ⟨by dsimp only; rw [if_neg (by omega), if_neg (by omega), if_neg (by omega)], by simp⟩
set_option maxHeartbeats 6400000 in
theorem rnew_any (m g n mx : Nat) (P : Pm) (hP : Pok P) (ms : Ms) (w : World) (hM : RR w m g n ms) (hx : mx < 4294967296) (ht : ms.t < 9223372036854774000) :
    Calls Tryz.prog 18 #[.agg #[.int .u32 (P.c : Nat), .int .i64 (P.o : Nat), .int .i64 (P.i : Nat), .int .i64 (P.t : Nat), .int .u32 (P.n : Nat)], .pointer (some ⟨m, 0, none⟩), .int .u32 (mx : Nat)] w fun e w' => ∃ p, e = .returned (.tuple #[.pointer p, .int .i64 (opE mx n ms)]) ∧ Hid (Off [m, g] w w' ∧ RR w' m g n (opS mx n ms) ∧ (opE mx n ms = 0 → ∃ d U, p = some ⟨d, 0, none⟩ ∧ RW w' d m g n mx P U (dnew (opS mx n ms)) ∧ ∀ k, k ∈ U → k = m ∨ k = g ∨ w.heap.size ≤ k) ∧ (¬ opE mx n ms = 0 → p = none)) := by
  obtain ⟨E, hE⟩ : ∃ x, opE mx n ms = x := ⟨_, rfl⟩
  rw [hE]
  have hb : Below w.heap.size w (w.alloc (.cells #[.int .u32 (P.c : Nat), .int .i64 (P.o : Nat), .int .i64 (P.i : Nat), .int .i64 (P.t : Nat), .int .u32 (P.n : Nat)] 36)) := (Below.refl _ _).alloc (Nat.le_refl _) _
  have hx0 := heap_alloc_new w (.cells #[.int .u32 (P.c : Nat), .int .i64 (P.o : Nat), .int .i64 (P.i : Nat), .int .i64 (P.t : Nat), .int .u32 (P.n : Nat)] 36)
  have hs : w.heap.size < (w.alloc (.cells #[.int .u32 (P.c : Nat), .int .i64 (P.o : Nat), .int .i64 (P.i : Nat), .int .i64 (P.t : Nat), .int .u32 (P.n : Nat)] 36)).heap.size := by simp
  have hC := rlaw_any P.c P.o P.i P.t P.n (w.alloc (.cells #[.int .u32 (P.c : Nat), .int .i64 (P.o : Nat), .int .i64 (P.i : Nat), .int .i64 (P.t : Nat), .int .u32 (P.n : Nat)] 36)) true (decide_eq_true hP.ok)
  have hO : ∀ wx, RR wx m g n ms → Calls Tryz.prog 54 #[.pointer (some ⟨m, 0, none⟩), .int .u32 (mx : Nat)] wx fun e w' => ∃ p, e = .returned (.tuple #[.pointer p, .int .i64 E]) ∧ Hid (Off [m, g] wx w' ∧ RR w' m g n (opS mx n ms) ∧ (E = 0 → ∃ d, p = some ⟨d, 0, none⟩ ∧ wx.heap.size ≤ d ∧ RX w' d m mx (vz ms.bs) false) ∧ (¬ E = 0 → p = none)) := by
    intro wx hMx
    subst hE
    exact ropen m g n mx ms wx hMx ht
  have HO : Hid (_) := hO
  have HH : Hid (_) := And.intro hb (And.intro hs (And.intro hx0 (And.intro hM (And.intro hE (And.intro hP hx)))))
  clear hO hb hs hx0 hM hE hP hx ht
  go_enter Tryz.func18, Tryz.ntmps18
  go_wp2_with (go_at_call 53; refine hC.mono ?_; rintro e w1 ⟨rfl, b1⟩)
  obtain ⟨hb, hs, hx0, hM, _⟩ := HH.out
  have bb := hb.trans (b1.mono hb.size)
  refine (HO.out w1 (hM.off (Off.of_below (l := []) bb) (by simp) (by simp))).mono ?_
  rintro e w2 ⟨p, rfl, h2⟩
  have l1 := hM.lt
  have l2 := hM.lg
  have l3 := b1.size
  have e2 : w2.heap[w.heap.size]? = some (.cells #[.int .u32 (P.c : Nat), .int .i64 (P.o : Nat), .int .i64 (P.i : Nat), .int .i64 (P.t : Nat), .int .u32 (P.n : Nat)] 36 (0, 0)) := by
    rw [h2.out.1.block w.heap.size (by omega) (by simp; omega), b1.block _ (by omega)]
    exact hx0
  have H2 : Hid (_) := And.intro bb (And.intro h2.out (And.intro HH.out (And.intro (by omega : w.heap.size < w1.heap.size) (And.intro l1 l2))))
  by_cases he : E = 0
  · have e0 : (E != 0) = false := by simp [he]
    obtain ⟨c, rfl, hc, hC2⟩ := h2.out.2.2.1 he
    have HE : Hid (_) := And.intro he (And.intro hc hC2)
    have p0 : w2.cell? ⟨w.heap.size, 0, none⟩ = some (.int .u32 (P.c : Nat)) := cell_of_row w2 _ 0 _ _ _ e2
    have p1 : w2.cell? ⟨w.heap.size, 1, none⟩ = some (.int .i64 (P.o : Nat)) := cell_of_row w2 _ 1 _ _ _ e2
    have p2 : w2.cell? ⟨w.heap.size, 2, none⟩ = some (.int .i64 (P.i : Nat)) := cell_of_row w2 _ 2 _ _ _ e2
    have p3 : w2.cell? ⟨w.heap.size, 3, none⟩ = some (.int .i64 (P.t : Nat)) := cell_of_row w2 _ 3 _ _ _ e2
    have p4 : w2.cell? ⟨w.heap.size, 4, none⟩ = some (.int .u32 (P.n : Nat)) := cell_of_row w2 _ 4 _ _ _ e2
    have hF := rlife_first w2.heap.size m mx P (.pointer (some ⟨c, 0, none⟩)) (opS mx n ms) (w2.alloc (.cells #[.int .u32 (P.c : Nat), .int .i64 (P.o : Nat), .int .i64 (P.i : Nat), .int .i64 (P.t : Nat), .int .u32 (P.n : Nat), .pointer (some ⟨m, 0, none⟩), .int .u32 (mx : Nat), .pointer (some ⟨c, 0, none⟩), .slice none 0 0, .int .i64 0, .int .i64 0, .int .i64 0, .bool false, .bool false, .bool false, .int .i64 0, .slice none 0 0, .bool false, .int .i64 0, .int .u32 0, .int .u32 0, .int .u32 0, .int .i64 0, .slice none 0 0, .bool false] 128)) (heap_alloc_new w2 _) HH.out.2.2.2.2.2.1.i8
    clear hC b1 hb hs hx0 hM bb h2 e2 he hc hC2 HO l1 l2 l3
    go_wp2_with fail
    refine hF.mono ?_
    rintro e w3 ⟨rfl, h3⟩
    clear hF p0 p1 p2 p3 p4
    go_wp2_with fail
    go_ret2
    obtain ⟨bb, ⟨o2, m2, _, _⟩, ⟨_, _, _, hM, hE, hP, hx⟩, hw1, l1, l2⟩ := H2.out
    obtain ⟨he, hc, hC2⟩ := HE.out
    obtain ⟨o3, ga, hga, hgl, hdev, hown⟩ := h3.out
    subst he
    obtain ⟨mx0, n10⟩ := ropened mx n ms hE
    have hoff := opS_off hM.l0 hE
    have oA : Off [] w2 (w2.alloc (.cells #[.int .u32 (P.c : Nat), .int .i64 (P.o : Nat), .int .i64 (P.i : Nat), .int .i64 (P.t : Nat), .int .u32 (P.n : Nat), .pointer (some ⟨m, 0, none⟩), .int .u32 (mx : Nat), .pointer (some ⟨c, 0, none⟩), .slice none 0 0, .int .i64 0, .int .i64 0, .int .i64 0, .bool false, .bool false, .bool false, .int .i64 0, .slice none 0 0, .bool false, .int .i64 0, .int .u32 0, .int .u32 0, .int .u32 0, .int .i64 0, .slice none 0 0, .bool false] 128)) := Off.alloc _ _ _
    have o23 : Off [w2.heap.size] w2 w3 := (oA.more (by simp)).trans o3
    have hcl := hC2.lt
    have k7 := o2.size
    rw [World.size_alloc] at hga
    have hm2 : m < w2.heap.size := m2.lt
    have hg2 : g < w2.heap.size := m2.lg
    have M3 := m2.off o23 (by simp; omega) (by simp; omega)
    have C3 := hC2.off o23 (by simp; omega)
    rw [← opS_vz hM.l0 (fun i hi => hM.byte i (by omega)) (mx := mx) (n := n)] at C3
    refine ⟨_, rfl, ?_, M3, fun _ => ⟨w2.heap.size, [w2.heap.size, m, g, c, ga], rfl, RB.made hP n10 mx0 hx M3 C3 hoff (by omega) (by omega) (by omega) (by omega) hgl hdev hown, ?_⟩, fun h => absurd rfl h⟩
    · have q := (Off.of_below (l := [m, g]) bb).trans o2
      exact ⟨o23.os.trans q.os, o23.tape.trans q.tape, o23.output.trans q.output, Nat.le_trans q.size o23.size, fun i hi hn => (o23.block i (by have := q.size; omega) (by simp; have := q.size; have := bb.size; omega)).trans (q.block i hi hn)⟩
    · intro k hk
      simp at hk
      have := bb.size
      omega
  · have e0 : (E != 0) = true := by simp [he]
    obtain rfl := h2.out.2.2.2 he
    have HE : Hid (_) := he
    clear he hC b1 hb hs hx0 hM bb h2 e2 l1 l2 l3
    go_wp2_with fail
    go_ret2
    obtain ⟨bb, ⟨o2, m2, _, _⟩, hh, _⟩ := H2.out
    exact ⟨none, rfl, (Off.of_below bb).trans o2, m2, fun h => absurd h HE.out, fun _ => rfl⟩
end Go.Proofs.YtndjepeolamedaaGreat
namespace Go.Proofs.YtndjepeolamedaaGreat
set_option maxRecDepth 100000
open Go.RowKit
structure Iv (P : Pm) (s : Sd) : Prop where
  st1 : 1 ≤ s.st
  st6 : s.st ≤ 6
  ss : s.ss < 4294967296
  nm : s.nm < 4294967296
  sn : s.sn < 4294967296
  hs : s.st = 2 ∨ s.st = 3 → s.sn = 0 ∧ s.nm = 0 ∧ s.ss ≠ 0
  run : s.st = 4 → s.sn ≤ s.nm ∧ s.nm < P.n ∧ s.ss ≠ 0
  od : s.od < 4
  vr : s.v.run = decide (s.st = 4)
  vok : Vok s.v
  s0 : s.ss = 0 → s.nm = 0
  z : s.ss = 0 ∨ s.ss = vz s.ms.bs
  d6 : s.st = 6 → s.ap = (fun _ => 0) ∧ s.hd = false
structure Mo (mx n : Nat) (s : Sd) : Prop where
  n10 : 10 ≤ n
  mx0 : mx ≠ 0
  mxl : mx < 4294967296
  l0 : 0 ≤ s.ms.l
  bz : Bz s.ms.bs
  off : s.st ≠ 6 → s.ms.off = false
theorem Mo.of {w : World} {d m g n mx : Nat} {P : Pm} {U : List Nat} {s : Sd} (h : DV w d m g n mx P U s) : Mo mx n s := by
  obtain ⟨a, b, c, e, f, g⟩ := h.facts
  exact ⟨c, e, f, b, a, g⟩
section
variable {P : Pm} {mx n : Nat} {s : Sd}
theorem vtrip_run (v : Vs) (x : Int) : (vtrip v x).run = v.run := by unfold vtrip; split <;> rfl
theorem vrun_run (v : Vs) (o : Bool) : (vrun v o).run = o := by
  unfold vrun
  split
  · assumption
  · rfl
theorem vtake_run (v : Vs) (bs : Nat → Nat) : (vtake v bs).run = v.run := by unfold vtake; split <;> rfl
theorem vack_run (v : Vs) : (vack v).run = v.run := by unfold vack; split <;> rfl
theorem dlatch_v (s : Sd) (x : Int) : (dlatch s x).v = vtrip s.v x := by unfold dlatch dnote; split <;> rfl
theorem dlatch_flds (s : Sd) (x : Int) : (dlatch s x).st = s.st ∧ (dlatch s x).ss = s.ss ∧ (dlatch s x).nm = s.nm ∧ (dlatch s x).sn = s.sn ∧ (dlatch s x).od = s.od ∧ (dlatch s x).ms = s.ms ∧ (dlatch s x).ap = s.ap ∧ (dlatch s x).hd = s.hd := by unfold dlatch dnote; split <;> exact ⟨rfl, rfl, rfl, rfl, rfl, rfl, rfl, rfl⟩
theorem Iv.latch (h : Iv P s) (x : Int) : Iv P (dlatch s x) := by
  unfold dlatch dnote
  split
  · exact ⟨h.st1, h.st6, h.ss, h.nm, h.sn, h.hs, h.run, h.od, (vtrip_run _ _).trans h.vr, h.vok.trip x, h.s0, h.z, h.d6⟩
  · exact ⟨h.st1, h.st6, h.ss, h.nm, h.sn, h.hs, h.run, h.od, (vtrip_run _ _).trans h.vr, h.vok.trip x, h.s0, h.z, h.d6⟩
theorem Iv.note (h : Iv P s) (x : Int) : Iv P (dnote s x) := ⟨h.st1, h.st6, h.ss, h.nm, h.sn, h.hs, h.run, h.od, h.vr, h.vok, h.s0, h.z, h.d6⟩
theorem Iv.leave (hv : Vok s.v) {k : Nat} (h1 : 1 ≤ k) (h5 : k ≤ 5) (h4 : k ≠ 4) (h2 : k ≠ 2) (h3 : k ≠ 3) : Iv P (dleave s k) :=
  ⟨h1, Nat.le_succ_of_le h5, by show (0 : Nat) < _; omega, by show (0 : Nat) < _; omega, by show (0 : Nat) < _; omega, fun e => by have e : k = 2 ∨ k = 3 := e; omega, fun e => absurd e h4, by show (0 : Nat) < 4; omega, by
    show (vrun s.v false).run = decide (k = 4)
    rw [vrun_run, decide_eq_false h4], hv.run false, fun _ => rfl, .inl rfl, fun e => by have e : k = 6 := e; omega⟩
theorem Iv.life {k : Nat} (h1 : 1 ≤ k) (h6 : k ≤ 6) (h4 : k ≠ 4) (h2 : k ≠ 2) (h3 : k ≠ 3) : Iv P (dlife s k) :=
  ⟨h1, h6, by show (0 : Nat) < _; omega, by show (0 : Nat) < _; omega, by show (0 : Nat) < _; omega, fun e => by have e : k = 2 ∨ k = 3 := e; omega, fun e => absurd e h4, by show (0 : Nat) < 4; omega, (decide_eq_false h4).symm, Vok.new, fun _ => rfl, .inl rfl, fun _ => ⟨rfl, rfl⟩⟩
theorem Iv.odd (h : Iv P s) : Iv P (dodd s) := by
  unfold dodd
  split
  · split
    · rename_i h4
      exact ⟨h.st1, h.st6, h.ss, h.nm, h.sn, h.hs, h.run, h4, h.vr, h.vok, h.s0, h.z, h.d6⟩
    · refine Iv.leave ?_ (by omega) (by omega) (by omega) (by omega) (by omega)
      split
      · rw [dlatch_v]; exact h.vok.trip _
      · exact h.vok
  · exact h
theorem Iv.begin_ (h : Iv P s) (M : Mo mx n s) (hu : s.st ≠ 6) : Iv P (dbegin P mx n s).s := by
  have hv := nx_vz (mx := mx) (n := n) (s := s.ms) M.n10 (M.off hu) M.l0 M.mxl
  unfold dbegin
  generalize nx mx n s.ms.bs false s.ms = X at *
  have hm := M.mxl
  split
  · refine Iv.leave ?_ (by omega) (by omega) (by omega) (by omega) (by omega)
    rw [dlatch_v]; exact h.vok.trip _
  · split
    · exact Iv.life (by omega) (by omega) (by omega) (by omega) (by omega)
    · rename_i e0
      have e0 : X.e = 0 := by simpa using e0
      obtain ⟨v1, v2, v3⟩ := hv.1 e0
      refine ⟨by show 1 ≤ 2; omega, by show 2 ≤ 6; omega, by show X.v < _; omega, by show (0 : Nat) < _; omega, by show (0 : Nat) < _; omega, fun _ => ⟨rfl, rfl, by show X.v ≠ 0; omega⟩, fun e => by have e : (2 : Nat) = 4 := e; omega, by show (0 : Nat) < 4; omega, ?_, h.vok.run false, fun _ => rfl, .inr ?_, fun e => by have e : (2 : Nat) = 6 := e; omega⟩
      · show (vrun s.v false).run = decide ((2 : Nat) = 4)
        rw [vrun_run]; rfl
      · show X.v = vz X.s.bs
        omega
theorem Mo.odd (M : Mo mx n s) : Mo mx n (dodd s) := by
  refine ⟨M.n10, M.mx0, M.mxl, by rw [dodd_ms]; exact M.l0, by rw [dodd_ms]; exact M.bz, fun _ => ?_⟩
  rw [dodd_ms]
  by_cases h6 : s.st = 6
  · exfalso
    have : dodd s = s := by unfold dodd dbusy; rw [h6]; rfl
    rename_i hh
    rw [this] at hh
    exact hh h6
  · exact M.off h6
theorem Iv.wish (h : Iv P s) (M : Mo mx n s) (hu : s.st ≠ 6) : Iv P (dwish P mx n s).s := by
  unfold dwish
  split
  · exact h.odd
  · split
    · exact h.odd
    · exact h.odd.begin_ M.odd (dodd_up hu)
theorem Iv.echo (h : Iv P s) : Iv P (dechoS s) := by
  unfold dechoS
  split
  · rename_i h2
    have hq := h.hs (.inl h2)
    refine ⟨by show 1 ≤ 3; omega, by show 3 ≤ 6; omega, h.ss, h.nm, h.sn, fun _ => hq, fun e => by have e : (3 : Nat) = 4 := e; omega, by show (0 : Nat) < 4; omega, ?_, h.vok.fresh, h.s0, h.z, fun e => by have e : (3 : Nat) = 6 := e; omega⟩
    show s.v.run = decide ((3 : Nat) = 4)
    rw [h.vr, h2]; rfl
  · exact h
theorem Iv.start (h : Iv P s) (hP : Pok P) : Iv P (dstartS s) := by
  unfold dstartS
  split
  · rename_i h3
    have hq := h.hs (.inr h3)
    have := hP.n2
    refine ⟨by show 1 ≤ 4; omega, by show 4 ≤ 6; omega, h.ss, h.nm, h.sn, fun e => by have e : (4 : Nat) = 2 ∨ (4 : Nat) = 3 := e; omega, fun _ => ⟨by show s.sn ≤ s.nm; omega, by show s.nm < _; omega, hq.2.2⟩, by show (0 : Nat) < 4; omega, ?_, (h.vok.run true).fresh, h.s0, h.z, fun e => by have e : (4 : Nat) = 6 := e; omega⟩
    show (vrun s.v true).run = decide ((4 : Nat) = 4)
    rw [vrun_run]; rfl
  · exact h
theorem Iv.data (h : Iv P s) (hP : Pok P) {num fl : Nat} {bs : Nat → Nat} (h4 : s.st = 4) (hn : s.nm < num) (hc : num < P.n) : Iv P (ddataS s num fl bs) := by
  have hq := h.run h4
  have hp := hP.n
  refine ⟨h.st1, h.st6, h.ss, by show num < _; omega, by show s.sn + 1 < _; omega, fun e => by have e : s.st = 2 ∨ s.st = 3 := e; omega, fun _ => ⟨by show s.sn + 1 ≤ num; omega, hc, hq.2.2⟩, by show (0 : Nat) < 4; omega, ?_, (h.vok.fresh.hold _).take _, fun e => absurd e hq.2.2, h.z, fun e => by have e : s.st = 6 := e; omega⟩
  show (vtake (vhold (vfresh s.v) (decide (8 ≤ fl))) bs).run = decide (s.st = 4)
  rw [vtake_run]; exact h.vr
theorem Iv.last (h : Iv P s) (hP : Pok P) (h4 : s.st = 4) : Iv P (dendS (dlastS P s)) := by
  have hq := h.run h4
  have hp := hP.n
  obtain ⟨l1, l2, l3, l4, l5, l6, l7, l8⟩ := dlatch_flds (don { s with nm := P.n }) 80
  refine ⟨by show 1 ≤ 5; omega, by show 5 ≤ 6; omega, ?_, ?_, hp, fun e => by have e : (5 : Nat) = 2 ∨ (5 : Nat) = 3 := e; omega, fun e => by have e : (5 : Nat) = 4 := e; omega, ?_, ?_, ?_, ?_, ?_, fun e => by have e : (5 : Nat) = 6 := e; omega⟩
  · show (dlatch (don { s with nm := P.n }) 80).ss < _
    rw [l2]; exact h.ss
  · show (dlatch (don { s with nm := P.n }) 80).nm < _
    rw [l3]; exact hp
  · show (dlatch (don { s with nm := P.n }) 80).od < 4
    rw [l5]; show (0 : Nat) < 4; omega
  · show (vrun (dlatch (don { s with nm := P.n }) 80).v false).run = decide ((5 : Nat) = 4)
    rw [vrun_run]; rfl
  · show Vok (vrun (dlatch (don { s with nm := P.n }) 80).v false)
    rw [dlatch_v]
    exact (h.vok.fresh.trip _).run _
  · intro e
    have e : (dlatch (don { s with nm := P.n }) 80).ss = 0 := e
    rw [l2] at e
    exact absurd e hq.2.2
  · show (dlatch (don { s with nm := P.n }) 80).ss = 0 ∨ (dlatch (don { s with nm := P.n }) 80).ss = vz (dlatch (don { s with nm := P.n }) 80).ms.bs
    rw [l2, l6]; exact h.z
theorem Iv.take (h : Iv P s) (hP : Pok P) (M : Mo mx n s) (hu : s.st ≠ 6) (k ss num fl len : Nat) (bs : Nat → Nat) : Iv P (dtake P mx n s k ss num fl len bs).s := by
  unfold dtake
  split
  · split
    · exact h.wish M hu
    · exact h.odd
  · split
    · split
      · exact h.echo
      · exact h.odd
    · split
      · exact h.start hP
      · split
        · rename_i hh
          exact h.data hP hh.2.1.2.1 hh.2.1.2.2 hh.2.2.1
        · split
          · rename_i hh
            exact h.last hP hh.2.1.2.1
          · exact h.odd
theorem Iv.hear (h : Iv P s) (hP : Pok P) (M : Mo mx n s) (hu : s.st ≠ 6) (len : Nat) (bs : Nat → Nat) : Iv P (dhear P mx n s len bs).s := by
  unfold dhear
  split
  · exact h
  · split
    · exact h
    · split
      · exact h
      · exact h.take hP M hu _ _ _ _ _ _
theorem Iv.recv (h : Iv P s) (hP : Pok P) (M : Mo mx n s) (len : Nat) (bs : Nat → Nat) : Iv P (drecv P mx n s len bs).s := by
  unfold drecv
  split
  · exact h
  · rename_i hu
    split
    · exact (h.hear hP M hu len bs).note _
    · exact h.hear hP M hu len bs
theorem Iv.write (h : Iv P s) (len : Nat) (bs : Nat → Nat) (o : Bool) : Iv P (dwriteS P s len bs o) := by
  unfold dwriteS
  split
  · exact h
  · rename_i h6
    split
    · exact ⟨h.st1, h.st6, h.ss, h.nm, h.sn, h.hs, h.run, h.od, h.vr, h.vok, h.s0, h.z, fun e => absurd e h6⟩
    · exact h
theorem Iv.tick (h : Iv P s) (k : Int) : Iv P (dtickS P s k) := by
  unfold dtickS
  split
  · exact h
  · split
    · exact h
    · have h' : Iv P { s with dc := tk P.t s.dc k.toNat } := ⟨h.st1, h.st6, h.ss, h.nm, h.sn, h.hs, h.run, h.od, h.vr, h.vok, h.s0, h.z, h.d6⟩
      split
      · exact h'.latch _
      · exact h'
theorem Iv.ack (h : Iv P s) : Iv P (dackS s) := by
  unfold dackS
  split
  · exact h
  · exact ⟨h.st1, h.st6, h.ss, h.nm, h.sn, h.hs, h.run, h.od, (vack_run _).trans h.vr, h.vok.ack, h.s0, h.z, h.d6⟩
theorem Iv.reset (h : Iv P s) (k : Int) : Iv P (dresetS mx n s k) := by
  unfold dresetS
  split
  · exact h
  · split
    · exact Iv.life (by omega) (by omega) (by omega) (by omega) (by omega)
    · exact Iv.life (by omega) (by omega) (by omega) (by omega) (by omega)
theorem Iv.arm (h : Iv P s) (p : Int) : Iv P { s with ms := arS s.ms p } :=
  ⟨h.st1, h.st6, h.ss, h.nm, h.sn, h.hs, h.run, h.od, h.vr, h.vok, h.s0, by
    have : (arS s.ms p).bs = s.ms.bs := by unfold arS; split <;> rfl
    show s.ss = 0 ∨ s.ss = vz (arS s.ms p).bs
    rw [this]; exact h.z, h.d6⟩
theorem Iv.new_ (ms : Ms) : Iv P (dnew ms) :=
  ⟨by show 1 ≤ 1; omega, by show 1 ≤ 6; omega, by show (0 : Nat) < _; omega, by show (0 : Nat) < _; omega, by show (0 : Nat) < _; omega, fun e => by have e : (1 : Nat) = 2 ∨ (1 : Nat) = 3 := e; omega, fun e => by have e : (1 : Nat) = 4 := e; omega, by show (0 : Nat) < 4; omega, rfl, Vok.new, fun _ => rfl, .inl rfl, fun e => by have e : (1 : Nat) = 6 := e; omega⟩
theorem Iv.sent (h : Iv P s) (hP : Pok P) : s.st = 4 → s.sn + 1 < 4294967296 := fun e => by
  have := h.run e
  have := hP.n
  omega
def Gw (a b : Sd) : Prop := b.L.length ≤ a.L.length + 3 ∧ b.ms.t ≤ a.ms.t + 6
theorem dbegin_t (M : Mo mx n s) : (dbegin P mx n s).s.ms.t ≤ s.ms.t + 6 := by
  have ht := nx_t mx n s.ms.bs false s.ms M.n10 M.l0
  unfold dbegin
  generalize nx mx n s.ms.bs false s.ms = X at *
  split
  · show (dlatch { s with ms := X.s } 80).ms.t ≤ _
    rw [dlatch_ms]; exact ht
  · split
    · exact ht
    · exact ht
theorem dwish_t (M : Mo mx n s) : (dwish P mx n s).s.ms.t ≤ s.ms.t + 6 := by
  have e := dodd_ms s
  unfold dwish
  split
  · show (dodd s).ms.t ≤ _; rw [e]; omega
  · split
    · show (dodd s).ms.t ≤ _; rw [e]; omega
    · have := dbegin_t (P := P) M.odd
      rw [e] at this; exact this
theorem dtake_t (M : Mo mx n s) (k ss num fl len : Nat) (bs : Nat → Nat) : (dtake P mx n s k ss num fl len bs).s.ms.t ≤ s.ms.t + 6 := by
  have e := dodd_ms s
  have r : ∀ x : Int, (drefuse P s x).s.ms.t ≤ s.ms.t + 6 := fun x => by show (dodd s).ms.t ≤ _; rw [e]; omega
  unfold dtake
  split
  · split
    · exact dwish_t M
    · exact r _
  · split
    · split
      · show (dechoS s).ms.t ≤ _; unfold dechoS; split <;> (show s.ms.t ≤ _; omega)
      · exact r _
    · split
      · show (dstartS s).ms.t ≤ _; unfold dstartS; split <;> (show s.ms.t ≤ _; omega)
      · split
        · show s.ms.t ≤ _; omega
        · split
          · show (dlatch (don { s with nm := P.n }) 80).ms.t ≤ _
            rw [dlatch_ms]; show s.ms.t ≤ _; omega
          · exact r _
theorem gw_recv (M : Mo mx n s) (len : Nat) (bs : Nat → Nat) : Gw s (drecv P mx n s len bs).s := by
  have h1 := dhear_len P mx n s len bs
  have h2 : (dhear P mx n s len bs).s.ms.t ≤ s.ms.t + 6 := by
    unfold dhear
    split
    · show s.ms.t ≤ _; omega
    · split
      · show s.ms.t ≤ _; omega
      · split
        · show s.ms.t ≤ _; omega
        · exact dtake_t M _ _ _ _ _ _
  unfold drecv
  split
  · exact ⟨by show s.L.length ≤ _; omega, by show s.ms.t ≤ _; omega⟩
  · split
    · exact ⟨by show ((dhear P mx n s len bs).s.L ++ [_]).length ≤ _; simp; omega, h2⟩
    · exact ⟨by omega, h2⟩
theorem gw_tick (k : Int) : Gw s (dtickS P s k) := by
  unfold dtickS
  split
  · exact ⟨by omega, by omega⟩
  · split
    · exact ⟨by omega, by omega⟩
    · split
      · refine ⟨?_, ?_⟩
        · have := dlatch_len { s with dc := tk P.t s.dc k.toNat } 100
          have e : ({ s with dc := tk P.t s.dc k.toNat } : Sd).L.length = s.L.length := rfl
          omega
        · rw [dlatch_ms]; show s.ms.t ≤ _; omega
      · exact ⟨by show s.L.length ≤ _; omega, by show s.ms.t ≤ _; omega⟩
theorem gw_ack : Gw s (dackS s) := by
  unfold dackS
  split <;> exact ⟨by show s.L.length ≤ _; omega, by show s.ms.t ≤ _; omega⟩
theorem gw_write (len : Nat) (bs : Nat → Nat) (o : Bool) : Gw s (dwriteS P s len bs o) := by
  unfold dwriteS
  split
  · exact ⟨by omega, by omega⟩
  · split <;> exact ⟨by show s.L.length ≤ _; omega, by show s.ms.t ≤ _; omega⟩
theorem gw_reset (M : Mo mx n s) (k : Int) : Gw s (dresetS mx n s k) := by
  obtain ⟨_, h2, h3⟩ := reset_vz (mx := mx) (n := n) s k M.bz M.l0
  exact ⟨by rw [h3]; omega, h2⟩
theorem gw_arm (p : Int) : Gw s { s with ms := arS s.ms p } := ⟨by show s.L.length ≤ _; omega, by
  have : (arS s.ms p).t = s.ms.t := by unfold arS; split <;> rfl
  show (arS s.ms p).t ≤ _; omega⟩
end
end Go.Proofs.YtndjepeolamedaaGreat
namespace Go.Proofs.YtndjepeolamedaaGreat
set_option maxRecDepth 100000
open Go.RowKit
end Go.Proofs.YtndjepeolamedaaGreat
namespace Go.Proofs.YtndjepeolamedaaGreat
set_option maxRecDepth 100000
open Go.RowKit
theorem own_form {w : World} {B e n : Nat} {v : Value} {xs : List Value} (h : w.ownsRow B e 1 v n xs) : ∃ a cap, v = .slice a n cap ∧ (0 < n → ∃ g, a = some ⟨g, 0, none⟩ ∧ B ≤ g) := by
  rcases h.2 with ⟨rfl, rfl⟩ | ⟨g, cap, cur, hv, hg, _⟩
  · exact ⟨none, 0, rfl, fun h => by omega⟩
  · exact ⟨_, cap, hv, fun _ => ⟨g, rfl, hg⟩⟩
theorem xor8 (a b : Nat) (ha : a < 256) (hb : b < 256) : bits .xor .u8 (a : Int) (b : Int) = ((a ^^^ b : Nat) : Int) := u8_xor_nat a b ha hb
def fl (f : Nat → Nat) (k q : Nat) : Nat := if q = k / 8 then f (k / 8) ^^^ 2 ^ (7 - k % 8) else f q
theorem fl_lt {f : Nat → Nat} {n : Nat} (hf : ∀ i, i < n → f i < 256) (k : Nat) (hk : k / 8 < n) : ∀ i, i < n → fl f k i < 256 := by
  intro i hi
  unfold fl
  by_cases h : i = k / 8
  · rw [if_pos h]
    exact Nat.xor_lt_two_pow (n := 8) (hf _ hk) (Nat.pow_lt_pow_right (by omega) (by omega))
  · rw [if_neg h]; exact hf i hi
theorem fl_fb (f : Nat → Nat) (k n : Nat) : PM.fb (fl f k) n = if n = k then !PM.fb f n else PM.fb f n := by
  unfold PM.fb fl
  by_cases h : n / 8 = k / 8
  · rw [if_pos h, Nat.testBit_xor, Nat.testBit_two_pow, h]
    by_cases e : n = k
    · subst e
      rw [if_pos rfl]
      simp
    · rw [if_neg e]
      have : ¬ 7 - k % 8 = 7 - n % 8 := by omega
      simp [this]
  · rw [if_neg h, if_neg (fun e => h (by rw [e]))]
theorem fl_V (f : Nat → Nat) (k n : Nat) (hk : k < n) : PM.V (PM.fb (fl f k)) n = PM.V (PM.fb f) n ^^^ 2 ^ (n - 1 - k) := by
  rw [PM.V_congr _ (fun i => if i = k then !PM.fb f i else PM.fb f i) n (fun i _ => fl_fb f k i)]
  exact PM.V_flip (PM.fb f) n k hk
theorem pow7 (k : Nat) : (128 : Int) / 2 ^ (k % 8) = ((2 ^ (7 - k % 8) : Nat) : Int) := by
  have h : ∀ z : Fin 8, (128 : Int) / 2 ^ z.val = ((2 ^ (7 - z.val) : Nat) : Int) := by decide
  exact h ⟨k % 8, by omega⟩
theorem burst_true {x s i N fr : Nat} (hi : i < s) (hN : fr + s ≤ N) (hb : x.testBit (s - 1 - i) = true) :
    PM.C (x >>> (s - i)) (2 ^ (N - fr - i)) ^^^ 2 ^ (N - 1 - (fr + i)) = PM.C (x >>> (s - (i + 1))) (2 ^ (N - fr - (i + 1))) := by
  rw [show s - (i + 1) = s - 1 - i by omega, PM.shr_true hb (show s - i = s - 1 - i + 1 by omega), show N - fr - i = (N - fr - (i + 1)) + 1 by omega, Nat.pow_succ, Nat.mul_comm (2 ^ _) 2, PM.C_two_right, PM.dbl_add _ 1 (by omega), PM.C_xor_left, PM.C_two_left, PM.C_one_left, show N - 1 - (fr + i) = N - fr - (i + 1) by omega]
theorem burst_false {x s i N fr : Nat} (hi : i < s) (hN : fr + s ≤ N) (hb : x.testBit (s - 1 - i) = false) :
    PM.C (x >>> (s - i)) (2 ^ (N - fr - i)) = PM.C (x >>> (s - (i + 1))) (2 ^ (N - fr - (i + 1))) := by
  rw [show s - (i + 1) = s - 1 - i by omega, PM.shr_false hb (show s - i = s - 1 - i + 1 by omega), show N - fr - i = (N - fr - (i + 1)) + 1 by omega, Nat.pow_succ, Nat.mul_comm (2 ^ _) 2, PM.C_two_right, PM.C_two_left]
theorem and32_one (a : Nat) (h : a < 4294967296) : bits .and .u32 (a : Int) 1 = ((a % 2 : Nat) : Int) := by
  have := u32_and_nat a 1 h (by omega)
  rw [nat_mask1] at this
  exact this
theorem bit32 (x k : Nat) (hx : x < 4294967296) : (bits .and .u32 ((x : Int) / 2 ^ k) 1 != 0) = x.testBit k := by
  have e : (x : Int) / 2 ^ k = ((x >>> k : Nat) : Int) := by rw [Nat.shiftRight_eq_div_pow]; simp
  have hl : x >>> k < 4294967296 := by rw [Nat.shiftRight_eq_div_pow]; exact Nat.lt_of_le_of_lt (Nat.div_le_self _ _) hx
  rw [e, and32_one _ hl, shr_bit]
  cases x.testBit k <;> rfl
set_option maxHeartbeats 1000000 in
theorem burst_no (a0 : Option Addr) (len cap : Nat) (n : Int) (x : Nat) (w : World) (hl : len ≤ 100000) (hx : x < 4294967296) (hno : x = 0 ∨ 8 * len < PM.bl x) :
    Calls Tryz.prog 40 #[.slice a0 len cap, .int .i64 n, .int .u32 x] w fun e w' => e = .returned (.tuple #[.slice none 0 0, .bool false]) ∧ w' = w := by
  have hbit := fun k => bit32 x k hx
  have hbl := PM.bl_le (n := x) (k := 32) (by omega)
  go_enter Tryz.func40, Tryz.ntmps40
  go_wp2_with fail
  go_loop [8, 9] (fun s c => ∃ i : Nat, i ≤ 32 ∧ c = .int .i64 i ∧ s = .int .i64 (PM.bl (x % 2 ^ i) : Nat)) (fun _ c => 32 - (intOf c).toNat)
  case atStart => exact ⟨0, by omega, rfl, by rw [Nat.pow_zero, Nat.mod_one]; rfl⟩
  case round =>
    obtain ⟨i, hi32, rfl, rfl⟩ := hrel
    by_cases hlt : i < 32
    · have t1 := hbit i
      clear hbit
      cases hb : x.testBit i
      · rw [hb] at t1
        go_wp2
        go_round
        case rel => exact ⟨i + 1, by omega, by go_num, by rw [PM.bl_mod_false hb]⟩
        case measure => simp [intOf] <;> omega
      · rw [hb] at t1
        go_wp2
        go_round
        case rel => exact ⟨i + 1, by omega, by go_num, by rw [PM.bl_mod_true hb]; go_num⟩
        case measure => simp [intOf] <;> omega
    · obtain rfl : i = 32 := by omega
      rw [Nat.mod_eq_of_lt (show x < 2 ^ 32 from hx)]
      rcases hno with hx0 | hroom
      · rw [show PM.bl x = 0 by rw [hx0]; rfl]
        clear hbit hx0 hbl
        go_wp2
        go_ret2
        exact ⟨rfl, rfl⟩
      · have hs0 : ((PM.bl x : Int) == 0) = false := by simp; omega
        have hd : decide ((8 : Int) * (len : Int) - (PM.bl x : Int) + 1 < 1) = true := by simp; omega
        clear hbit
        generalize PM.bl x = s at *
        go_wp2
        go_ret2
        exact ⟨rfl, rfl⟩
def BurstOut (B : Nat) (w' : World) (len x : Nat) (bs : Nat → Nat) (v : Value) : Prop :=
  ∃ f d, w'.ownsRow B 5 1 v len (CB f len) ∧ (∀ i, i < len → f i < 256) ∧ PM.V (PM.fb f) (8 * len) = PM.V (PM.fb bs) (8 * len) ^^^ PM.C x (2 ^ d)
set_option maxRecDepth 100000 in
set_option maxHeartbeats 1000000 in
theorem burst_yes (a0 : Option Addr) (len cap : Nat) (n : Int) (x : Nat) (bs : Nat → Nat) (w : World) (hr : Row8 w a0 len cap bs) (hl : len ≤ 100000) (hx : x < 4294967296) (hx0 : x ≠ 0) (hroom : PM.bl x ≤ 8 * len) :
    Calls Tryz.prog 40 #[.slice a0 len cap, .int .i64 n, .int .u32 x] w fun e w' => ∃ v, e = .returned (.tuple #[v, .bool true]) ∧ Below w.heap.size w w' ∧ BurstOut w.heap.size w' len x bs v := by
  obtain ⟨i0, hi, hz0, hz1, hz2⟩ := info_parts info_u8
  have hbit := fun k => bit32 x k hx
  have hbl := PM.bl_le (n := x) (k := 32) (by omega)
  have hpos : 0 < PM.bl x := by rw [PM.bl_pos hx0]; omega
  have hbd := build0
  go_enter Tryz.func40, Tryz.ntmps40
  go_wp2_with fail
  go_loop [8, 9] (fun s c => ∃ i : Nat, i ≤ 32 ∧ c = .int .i64 i ∧ s = .int .i64 (PM.bl (x % 2 ^ i) : Nat)) (fun _ c => 32 - (intOf c).toNat)
  case atStart => exact ⟨0, by omega, rfl, by rw [Nat.pow_zero, Nat.mod_one]; rfl⟩
  case round =>
    obtain ⟨i, hi32, rfl, rfl⟩ := hrel
    by_cases hlt : i < 32
    · have t1 := hbit i
      clear hbit
      cases hb : x.testBit i
      · rw [hb] at t1
        go_wp2
        go_round
        case rel => exact ⟨i + 1, by omega, by go_num, by rw [PM.bl_mod_false hb]⟩
        case measure => simp [intOf] <;> omega
      · rw [hb] at t1
        go_wp2
        go_round
        case rel => exact ⟨i + 1, by omega, by go_num, by rw [PM.bl_mod_true hb]; go_num⟩
        case measure => simp [intOf] <;> omega
    · obtain rfl : i = 32 := by omega
      rw [Nat.mod_eq_of_lt (show x < 2 ^ 32 from hx)]
      have HX : Hid (x < 2 ^ PM.bl x) := PM.lt_bl x
      have hs0 : ((PM.bl x : Int) == 0) = false := by simp; omega
      have hd : decide ((8 : Int) * (len : Int) - (PM.bl x : Int) + 1 < 1) = false := by simp; omega
      have hrm : wrap64 ((IntKind.u64.wrap n).tmod (8 * (len : Int) - (PM.bl x : Int) + 1)) = ((((n % 18446744073709551616) % (8 * (len : Int) - (PM.bl x : Int) + 1)).toNat : Nat) : Int) := by
        rw [IntKind.wrap_u64, Int.tmod_eq_emod_of_nonneg (by omega)]
        have h1 := Int.emod_nonneg (n % 18446744073709551616) (show (8 * (len : Int) - (PM.bl x : Int) + 1) ≠ 0 by omega)
        have h2 := Int.emod_lt_of_pos (n % 18446744073709551616) (show 0 < 8 * (len : Int) - (PM.bl x : Int) + 1 by omega)
        unfold wrap64
        omega
      have hfr : ((n % 18446744073709551616) % (8 * (len : Int) - (PM.bl x : Int) + 1)).toNat + PM.bl x ≤ 8 * len := by
        have h1 := Int.emod_nonneg (n % 18446744073709551616) (show (8 * (len : Int) - (PM.bl x : Int) + 1) ≠ 0 by omega)
        have h2 := Int.emod_lt_of_pos (n % 18446744073709551616) (show 0 < 8 * (len : Int) - (PM.bl x : Int) + 1 by omega)
        omega
      generalize ((n % 18446744073709551616) % (8 * (len : Int) - (PM.bl x : Int) + 1)).toNat = fr at *
      generalize PM.bl x = s at *
      have hbelA : Below w.heap.size w (w.alloc (.cells #[] 5)) := (Below.refl _ _).alloc (Nat.le_refl _) _
      have R0 := hr.below hbelA
      have O0 : (w.alloc (.cells #[] 5)).ownsRow w.heap.size 5 1 (.slice (some ⟨w.heap.size, 0, none⟩) 0 0) 0 (CB bs 0) := World.ownsRow_made w #[] 0 (Nat.le_refl _) (Nat.zero_le _) rfl
      have hszA := hbelA.size
      go_wp2_with (at_builtin; refine wpList_append_row8 rfl (.tmp 44) (.tmp 45) 22 rfl w.heap.size 5 i0 (.int .u8 0) Tryz.underlying22 hi hz0 hz1 hz2 rfl _ 0 _ rfl O0 a0 len cap bs rfl R0 (by unfold maxLen; omega) (by omega) hszA ?_)
      intro v2 w2 hown2 hgrow2
      have hbel2 : Below w.heap.size w w2 := hbelA.grown hgrow2 hszA (fun k hk => (O0.lt k hk).1)
      rw [show CB bs 0 = [] from rfl, List.nil_append] at hown2
      have hb0 := hr.byte
      clear hgrow2 O0 R0 hbelA hbd hr hrm
      obtain ⟨ax, cx, rfl, hax⟩ := own_form hown2
      go_wp2_with fail
      go_loopw [13, 14] (fun c _ wr => ∃ i f, i ≤ s ∧ c = .int .i64 ((i : Nat) : Int) ∧ wr.ownsRow w.heap.size 5 1 (.slice ax len cx) len (CB f len) ∧ (∀ i, i < len → f i < 256) ∧ PM.V (PM.fb f) (8 * len) = PM.V (PM.fb bs) (8 * len) ^^^ PM.C (x >>> (s - i)) (2 ^ (8 * len - fr - i)) ∧ Below w.heap.size w wr) (fun c _ _ => s - (intOf c).toNat)
      case atStart => exact ⟨0, bs, by omega, rfl, hown2, hb0, by rw [Nat.sub_zero, Nat.shiftRight_eq_div_pow, Nat.div_eq_of_lt HX.out, PM.C_zero_left, Nat.xor_zero], hbel2⟩
      case round =>
        clear hown2 hbel2 hb0
        obtain ⟨i, f, hi2, rfl, hown, hfb, hfV, hbel⟩ := hrel
        have HV : Hid (PM.V (PM.fb f) (8 * len) = PM.V (PM.fb bs) (8 * len) ^^^ PM.C (x >>> (s - i)) (2 ^ (8 * len - fr - i))) := hfV
        clear hfV
        by_cases hlt2 : i < s
        · have t1 := hbit (s - 1 - i)
          clear hbit
          cases hb : x.testBit (s - 1 - i)
          · rw [hb] at t1
            go_wp2
            go_roundw
            case rel => exact ⟨i + 1, f, by omega, by go_num, hown, hfb, by rw [HV.out, burst_false hlt2 hfr hb], hbel⟩
            case measure => simp [intOf] <;> omega
          · rw [hb] at t1
            obtain ⟨gx, rfl, hgx⟩ := hax (by omega)
            obtain ⟨k, hk⟩ : ∃ k, k = fr + i := ⟨_, rfl⟩
            have hk1 : (fr : Int) + (i : Int) = (k : Int) := by omega
            have hk8 : k / 8 < len := by omega
            obtain ⟨q, hq⟩ : ∃ q, q = k / 8 := ⟨_, rfl⟩
            obtain ⟨m, hm⟩ : ∃ m, m = k % 8 := ⟨_, rfl⟩
            have hq1 : (k : Int) / 8 = (q : Int) := by omega
            have hm1 : (k : Int) % 8 = (m : Int) := by omega
            have hq2 : (k : Int).tdiv 8 = (q : Int) := by rw [Int.tdiv_eq_ediv_of_nonneg (by omega)]; exact hq1
            have hm2 : (k : Int).tmod 8 = (m : Int) := by rw [Int.tmod_eq_emod_of_nonneg (by omega)]; exact hm1
            have hp : (128 : Int) / 2 ^ m = ((2 ^ (7 - m) : Nat) : Int) := by rw [hm]; exact pow7 k
            have hql : q < len := by omega
            have hm8 : m < 8 := by omega
            have hcx := hown.cellAt q (by omega)
            rw [CB_get _ len _ hql] at hcx
            have hfx := hown.frozenAt q
            have hX := xor8 (f q) (2 ^ (7 - m)) (hfb q hql) (show 2 ^ (7 - m) < 2 ^ 8 from Nat.pow_lt_pow_right (by omega) (by omega))
            have hown3 : (wr.drew.setCell ⟨gx, q, none⟩ (.int .u8 ((f q ^^^ 2 ^ (7 - m) : Nat) : Int))).ownsRow w.heap.size 5 1 (.slice (some ⟨gx, 0, none⟩) len cx) len (CB (fl f k) len) := by
              have h := ((show wr.drew.ownsRow w.heap.size 5 1 (.slice (some ⟨gx, 0, none⟩) len cx) len (CB f len) from hown).stored q (.int .u8 ((f q ^^^ 2 ^ (7 - m) : Nat) : Int))).1
              rw [CB_set, CB_congr _ (fl f k) len (fun i _ => by unfold fl; rw [hq, hm])] at h
              exact h
            have hbel3 : Below w.heap.size w (wr.drew.setCell ⟨gx, q, none⟩ (.int .u8 ((f q ^^^ 2 ^ (7 - m) : Nat) : Int))) := hbel.drew.setCell (p := ⟨gx, q, none⟩) hgx _
            have HO : Hid (_) := hown3
            have HB : Hid (_) := hbel3
            have HF : Hid (∀ i, i < len → fl f k i < 256) := fl_lt hfb k hk8
            have HW : Hid (PM.V (PM.fb (fl f k)) (8 * len) = PM.V (PM.fb bs) (8 * len) ^^^ PM.C (x >>> (s - (i + 1))) (2 ^ (8 * len - fr - (i + 1)))) := by
              show _ = _
              rw [fl_V f k (8 * len) (by omega), HV.out, hk, Nat.xor_assoc, burst_true hlt2 hfr hb]
            have hkl : k < 800000 := by omega
            clear hk hq hm hown hbel hown3 hbel3 hax HV hfb
            generalize f q ^^^ 2 ^ (7 - m) = y at *
            generalize 2 ^ (7 - m) = z at *
            go_wp2_with fail
            go_region
            all_goals (go_wp2_with fail; go_roundw)
            case rel => exact ⟨i + 1, fl f k, by omega, by go_num, HO.out, HF.out, HW.out, HB.out⟩
            case measure => simp [intOf] <;> omega
        · obtain rfl : i = s := by omega
          clear hbit hax
          go_wp2
          go_ret2
          exact ⟨_, rfl, hbel, f, 8 * len - fr - i, hown, hfb, by rw [HV.out, Nat.sub_self, Nat.shiftRight_zero]⟩
end Go.Proofs.YtndjepeolamedaaGreat
namespace Go.Proofs.YtndjepeolamedaaGreat
set_option maxRecDepth 100000
open Go.RowKit
theorem Row8.off0 {l : List Nat} {w w' : World} {a : Option Addr} {len cap : Nat} {bs : Nat → Nat} (h : Row8 w a len cap bs) (q : Off l w w') (hl : ∀ x, a = some x → 0 < len → x.block ∉ l) : Row8 w' a len cap bs := by
  by_cases h0 : 0 < len
  · exact h.off q (fun x hx => hl x hx h0)
  · exact ⟨h.byte, h.nil, fun x hx i hi => absurd hi (by omega), h.le⟩
theorem Off.set {l : List Nat} {w w' : World} (h : Off l w w') {b o : Nat} {v : Value} (hb : b ∈ l) : Off l w (w'.setCell ⟨b, o, none⟩ v) :=
  h.trans ((Off.setCell b o w' v).more (fun k hk => by simp at hk; rw [hk]; exact hb))
theorem row8_of4 {w : World} {g b0 b1 b2 b3 : Nat} {bs : Nat → Nat} (hb : ∀ i, i < 4 → bs i < 256) (e0 : bs 0 = b0) (e1 : bs 1 = b1) (e2 : bs 2 = b2) (e3 : bs 3 = b3) (h0 : w.cell? ⟨g, 0, none⟩ = some (.int .u8 (b0 : Nat))) (h1 : w.cell? ⟨g, 1, none⟩ = some (.int .u8 (b1 : Nat))) (h2 : w.cell? ⟨g, 2, none⟩ = some (.int .u8 (b2 : Nat))) (h3 : w.cell? ⟨g, 3, none⟩ = some (.int .u8 (b3 : Nat))) :
    Row8 w (some ⟨g, 0, none⟩) 4 4 bs := by
  subst e0 e1 e2 e3
  refine ⟨hb, (fun h => by cases h), fun x hx i hi => ?_, Nat.le_refl _⟩
  cases hx
  have c : i = 0 ∨ i = 1 ∨ i = 2 ∨ i = 3 := by omega
  rcases c with rfl | rfl | rfl | rfl
  · exact h0
  · exact h1
  · exact h2
  · exact h3
set_option maxRecDepth 100000 in
set_option maxHeartbeats 1000000 in
theorem rsign_own (P : Pm) (hP : Pok P) (w : World) :
    Calls Tryz.prog 48 #[.agg #[.int .u32 (P.c : Nat), .int .i64 (P.o : Nat), .int .i64 (P.i : Nat), .int .i64 (P.t : Nat), .int .u32 (P.n : Nat)]] w fun e w' => ∃ g, e = .returned (.slice (some ⟨g, 0, none⟩) 4 4) ∧
      Hid (w'.heap[g]? = some (.cells #[.int .u8 (dsg P 0 : Nat), .int .u8 (dsg P 1 : Nat), .int .u8 (dsg P 2 : Nat), .int .u8 (dsg P 3 : Nat)] 5 (0, 0)) ∧ w.heap.size ≤ g ∧ Below w.heap.size w w') := by
  unfold dsg
  have hE := hP.ok
  have hc := hP.c
  have hn := hP.n
  generalize P.c = c at *
  generalize P.o = O at *
  generalize P.i = I at *
  generalize P.t = T at *
  generalize P.n = n at *
  have hb : Below w.heap.size w (w.alloc (.cells #[.int .u32 c, .int .i64 O, .int .i64 I, .int .i64 T, .int .u32 n] 36)) := (Below.refl _ _).alloc (Nat.le_refl _) _
  have hF := rencode_good c O I T n (w.alloc (.cells #[.int .u32 c, .int .i64 O, .int .i64 I, .int .i64 T, .int .u32 n] 36)) hc hn hE
  obtain ⟨_, hO, hI, _, _⟩ := hE
  have hby := pe_lt (c := c) (o := O) (i := I) (t := T) (n := n) (by omega) (by omega)
  have hk := PM.K_lt (pe c O I T n) 14
  have hB0 := fun a cap w1 (R1 : Row8 w1 a 14 cap (pe c O I T n)) => refSum_row a 14 cap (pe c O I T n) w1 R1 (by omega)
  obtain ⟨k, hkd⟩ : ∃ k, k = PM.K (pe c O I T n) 14 := ⟨_, rfl⟩
  rw [← hkd] at hk hB0 ⊢
  clear hO hI hkd hP
  go_enter Tryz.func48, Tryz.ntmps48
  go_wp2_with fail
  refine hF.mono ?_
  rintro e w1 ⟨a, cap, rfl, H1⟩
  obtain ⟨O1, hb1⟩ := H1.out
  have hb2 := below_all hb hb.size hb1
  obtain ⟨a1, c1, e1, R1⟩ := own_row8 O1 (fun k _ => hby k)
  simp only [Value.slice.injEq, true_and] at e1
  obtain ⟨rfl, rfl⟩ := e1
  have hB := hB0 _ _ w1 R1
  clear hb hF hb1 H1 O1 R1 hby hB0
  go_wp2_with fail
  refine hB.mono ?_
  rintro e w2 ⟨rfl, hb3'⟩
  have hb3 := below_all hb2 hb2.size hb3'
  clear hB hb3' hb2
  go_wp2_with fail
  refine (refWord_any k _ hk).mono ?_
  rintro e w4 ⟨rfl, rfl⟩
  have HB : Hid (_) := And.intro (heap_alloc_new w2 (.cells #[.int .u8 ((k : Int) / 16777216), .int .u8 ((k : Int) / 65536 % 256), .int .u8 ((k : Int) / 256 % 256), .int .u8 ((k : Int) % 256)] 5)) (And.intro hb3.size (hb3.alloc hb3.size (.cells #[.int .u8 ((k : Int) / 16777216), .int .u8 ((k : Int) / 65536 % 256), .int .u8 ((k : Int) / 256 % 256), .int .u8 ((k : Int) % 256)] 5)))
  have HK : Hid (_) := hk
  clear hb3 hk
  go_wp2_with fail
  go_ret
  have hk := HK.out
  have e0 : (k : Int) / 16777216 = ((PM.w4 k 0 : Nat) : Int) := by show _ = ((k / 16777216 % 256 : Nat) : Int); omega
  have e1 : (k : Int) / 65536 % 256 = ((PM.w4 k 1 : Nat) : Int) := by show _ = ((k / 65536 % 256 : Nat) : Int); omega
  have e2 : (k : Int) / 256 % 256 = ((PM.w4 k 2 : Nat) : Int) := by show _ = ((k / 256 % 256 : Nat) : Int); omega
  have e3 : (k : Int) % 256 = ((PM.w4 k 3 : Nat) : Int) := by show _ = ((k % 256 : Nat) : Int); omega
  have h := HB.out
  rw [← e0, ← e1, ← e2, ← e3]
  exact ⟨_, rfl, h⟩
def osig (P : Pm) (odd : Bool) : Nat → Nat := if odd = true then (fun i => if i = 0 then dsg P 0 ^^^ 1 else dsg P i) else dsg P
def oses (s : Sd) (odd : Bool) : Nat := if odd = true then (s.ss + 1) % 4294967296 else s.ss
def onum (s : Sd) (N : Int) : Nat := (s.nm + (N % 4294967296).toNat) % 4294967296
def Fo (P : Pm) (s : Sd) (k N fl : Int) (odd : Bool) (len : Nat) (bs : Nat → Nat) (x : Nat) (f : Fm) : Prop :=
  (k = 1 → f = encI 1 P.c 0 0 0 4 (osig P odd)) ∧ (k = 2 → odd = false → f = encI 2 P.c s.ss 0 0 4 (dsg P)) ∧ (k = 3 → f = encI 3 P.c (oses s odd) 0 0 0 (fun _ => 0)) ∧
  (k = 4 → f = encI 4 P.c (oses s odd) (onum s N) fl len bs) ∧ (k = 5 → f = encI 5 P.c (oses s odd) P.n 0 0 (fun _ => 0)) ∧
  (k = 2 → ∃ so sg, f = encI 2 P.c so 0 0 4 sg) ∧ (k = 6 → f = (len, bs)) ∧ (k = 7 → (x ≠ 0 ∧ PM.bl x ≤ 8 * (encI 4 P.c (oses s odd) (onum s N) fl len bs).1) → DE f.2 f.1 = 42) ∧
  (k = 7 → ¬ (x ≠ 0 ∧ PM.bl x ≤ 8 * (encI 4 P.c (oses s odd) (onum s N) fl len bs).1) → f = encI 4 P.c (oses s odd) (onum s N) fl len bs)
theorem osig_f (P : Pm) : osig P false = dsg P := by unfold osig; rw [if_neg (by simp)]
theorem osig_false (P : Pm) (i : Nat) : osig P false i = dsg P i := by unfold osig; rw [if_neg (by simp)]
theorem osig_zero (P : Pm) {x0 : Nat} (h : dsg P 0 ^^^ 1 = x0) : osig P true 0 = x0 := by unfold osig; rw [if_pos rfl, if_pos rfl, h]
theorem osig_succ (P : Pm) (i : Nat) (h : i ≠ 0) : osig P true i = dsg P i := by unfold osig; rw [if_pos rfl, if_neg h]
theorem xor1 (x : Nat) (h : x < 256) : bits .xor .u8 (x : Int) 1 = ((x ^^^ 1 : Nat) : Int) := u8_xor_nat x 1 h (by omega)
theorem so_facts (ss : Nat) : ∃ so : Nat, (ss + 1) % 4294967296 = so ∧ IntKind.u32.wrap ((ss : Int) + 1) = (so : Int) ∧ ((ss : Int) + 1) % 4294967296 = (so : Int) :=
  ⟨_, rfl, by rw [IntKind.wrap_u32]; omega, by omega⟩
theorem x0_facts (P : Pm) : ∃ x0 : Nat, dsg P 0 ^^^ 1 = x0 ∧ bits .xor .u8 (dsg P 0 : Int) 1 = (x0 : Int) := ⟨_, rfl, xor1 _ (dsg_byte P 0 (by omega))⟩
theorem nu_facts (s : Sd) (N : Int) : ∃ nN nu : Nat, onum s N = nu ∧ nu < 4294967296 ∧ IntKind.u32.wrap N = (nN : Int) ∧ N % 4294967296 = (nN : Int) ∧ IntKind.u32.wrap ((s.nm : Int) + (nN : Int)) = (nu : Int) ∧ ((s.nm : Int) + (nN : Int)) % 4294967296 = (nu : Int) := by
  refine ⟨(N % 4294967296).toNat, onum s N, rfl, by unfold onum; omega, by rw [IntKind.wrap_u32]; omega, by omega, ?_, ?_⟩
  · rw [IntKind.wrap_u32]; unfold onum; omega
  · unfold onum; omega
theorem oses_false (s : Sd) : oses s false = s.ss := by unfold oses; rw [if_neg (by simp)]
theorem oses_lt {s : Sd} (h : s.ss < 4294967296) (odd : Bool) : oses s odd < 4294967296 := by
  unfold oses
  split
  · omega
  · exact h
theorem onum_lt (s : Sd) (N : Int) : onum s N < 4294967296 := by unfold onum; omega
theorem encI_byte (k c s n : Nat) (f : Int) (len : Nat) (bs : Nat → Nat) (hb : ∀ i, i < len → bs i < 256) : ∀ i, i < (encI k c s n f len bs).1 → (encI k c s n f len bs).2 i < 256 := by
  unfold encI
  by_cases h : LW k c s n f len len = 0
  · have hf := (LW_zero h).2.2.2.2
    obtain ⟨F, rfl⟩ : ∃ F : Nat, f = (F : Int) := ⟨f.toNat, by omega⟩
    exact encF_byte k c s n F len bs hb
  · rw [if_neg h]; intro i hi; exact absurd hi (Nat.not_lt_zero i)
theorem encI_len (k c s n : Nat) (f : Int) (len : Nat) (bs : Nat → Nat) : (encI k c s n f len bs).1 ≤ 27 := by
  unfold encI
  by_cases h : LW k c s n f len len = 0
  · rw [if_pos h]
    have := (LW_zero h).2.2.2.1
    show 15 + len + 4 ≤ 27
    omega
  · rw [if_neg h]; show 0 ≤ 27; omega
theorem osig_byte (P : Pm) (odd : Bool) : ∀ i, i < 4 → osig P odd i < 256 := by
  intro i hi
  have h := dsg_byte P
  unfold osig
  cases odd
  · exact h i hi
  · show (if i = 0 then dsg P 0 ^^^ 1 else dsg P i) < 256
    split
    · exact Nat.xor_lt_two_pow (n := 8) (h 0 (by omega)) (by omega)
    · exact h i hi
theorem spoilt_DE {k c s n : Nat} {f : Int} {len : Nat} {bs f7 : Nat → Nat} {x d : Nat} (hx : x < 4294967296) (h0 : x ≠ 0) (hroom : PM.bl x ≤ 8 * (encI k c s n f len bs).1) (hV : PM.V (PM.fb f7) (8 * (encI k c s n f len bs).1) = PM.V (PM.fb (encI k c s n f len bs).2) (8 * (encI k c s n f len bs).1) ^^^ PM.C x (2 ^ d)) :
    DE f7 (encI k c s n f len bs).1 = 42 := by
  unfold encI at *
  by_cases hE : LW k c s n f len len = 0
  · rw [if_pos hE] at *
    have hz := LW_zero hE
    refine DE_check (by show 19 ≤ 15 + len + 4; omega) (by show 15 + len + 4 ≤ 27; omega) (fun h => ?_)
    have hS : PM.R PM.g 32 (PM.V (PM.fb (PM.sl (fr k c s n f.toNat len bs) (15 + len))) (8 * (15 + len + 4))) = 0 := PM.V_sl _ _
    unfold vld at h
    rw [hV, PM.R_xor] at h
    rw [show PM.R PM.g 32 (PM.V (PM.fb (15 + len + 4, PM.sl (fr k c s n f.toNat len bs) (15 + len)).2) (8 * (15 + len + 4, PM.sl (fr k c s n f.toNat len bs) (15 + len)).1)) = 0 from hS, Nat.zero_xor] at h
    exact h0 (PM.burst x d hx h)
  · rw [if_neg hE] at hroom
    exfalso
    have : PM.bl x ≤ 0 := hroom
    rw [PM.bl_pos h0] at this
    omega
theorem spoilt_f {k c s n : Nat} {f : Int} {len : Nat} {bs f7 : Nat → Nat} {x d : Nat} {F : Fm} (e : encI k c s n f len bs = F) (hx : x < 4294967296) (h0 : x ≠ 0) (hroom : PM.bl x ≤ 8 * F.1) (hV : PM.V (PM.fb f7) (8 * F.1) = PM.V (PM.fb F.2) (8 * F.1) ^^^ PM.C x (2 ^ d)) : DE f7 F.1 = 42 := by
  subst e
  exact spoilt_DE hx h0 hroom hV
end Go.Proofs.YtndjepeolamedaaGreat
namespace Go.Proofs.YtndjepeolamedaaGreat
set_option maxRecDepth 100000
open Go.RowKit
section
variable {w w' : World} {d m g n mx : Nat} {P : Pm} {U l : List Nat} {s : Sd}
theorem DX.off {B : Bk} {A : Prop} (h : DX w d m g n mx P U s B A) (q : Off l w w') (hl : ∀ k, k ∈ U → k ∉ l) : DX w' d m g n mx P U s B A :=
  ⟨(q.block d h.dlt (hl _ h.kd.2)).trans h.dev, h.mem.off q (hl _ h.km.2) (hl _ h.kg.2), fun hs => ⟨(h.cel hs).1, (h.cel hs).2.1.off q (hl _ h.kc.2), (h.cel hs).2.2⟩, h.dog.off q (hl _ h.kb.2), h.val.off q (hl _ h.kv.2) (hl _ h.kw.2) (fun k hk hM => hl k (h.kM k hM).2 hk), h.log.off q (fun k hk => hl _ (h.kl k hk).2), own_offk h.app q (fun k hk => hl _ (h.ka k hk).2), h.apb, fun k hk => Nat.lt_of_lt_of_le (h.ltU k hk) q.size, h.kd, h.km, h.kg, h.kc, h.kb, h.kv, h.kw, h.kM, h.kl, h.ka, h.pok, h.n10, h.mx0, h.mxl⟩
theorem RB.off {B : Bk2} {A : Prop} (h : RB w d m g n mx P U s B A) (q : Off l w w') (hl : ∀ k, k ∈ U → k ∉ l) : RB w' d m g n mx P U s B A :=
  ⟨(q.block d h.dlt (hl _ h.kd.2)).trans h.dev, h.mem.off q (hl _ h.km.2) (hl _ h.kg.2), fun hs => ⟨(h.cel hs).1, (h.cel hs).2.1.off q (hl _ h.kc.2), (h.cel hs).2.2⟩, h.val.off q (fun k hk hM => hl k (h.kM k hM).2 hk), own_offk h.log q (fun k hk => hl _ (h.kl k hk).2), own_offk h.app q (fun k hk => hl _ (h.ka k hk).2), h.apb, h.vok, h.dcl, fun k hk => Nat.lt_of_lt_of_le (h.ltU k hk) q.size, h.kd, h.km, h.kg, h.kc, h.kM, h.kl, h.ka, h.pok, h.n10, h.mx0, h.mxl, h.nl⟩
theorem DV.off (h : DV w d m g n mx P U s) (q : Off l w w') (hl : ∀ k, k ∈ U → k ∉ l) : DV w' d m g n mx P U s := by
  obtain ⟨B, h⟩ := h
  exact ⟨B, h.off q hl⟩
theorem RW.off (h : RW w d m g n mx P U s) (q : Off l w w') (hl : ∀ k, k ∈ U → k ∉ l) : RW w' d m g n mx P U s := by
  obtain ⟨B, h⟩ := h
  exact ⟨B, h.off q hl⟩
end
structure Pl where
  d : Nat
  m : Nat
  g : Nat
  e : Nat
  r : Nat
  q : Nat
  n : Nat
  mx : Nat
  P : Pm
  K : List (Nat × Option Obj)
structure Bt (w0 w : World) (L : Pl) (s t : Sd) (F : List Nat) (U V : List Nat) : Prop where
  bel : Below w0.heap.size w0 w
  dv : DV w L.d L.m L.g L.n L.mx L.P U s
  rw : RW w L.e L.r L.q L.n L.mx L.P V t
  uv : ∀ k, k ∈ U → w0.heap.size ≤ k ∧ k ∉ V
  vb : ∀ k, k ∈ V → w0.heap.size ≤ k
  fr : ∀ k, k ∈ F → k < w.heap.size ∧ k ∉ U ∧ k ∉ V
  kp : ∀ x, x ∈ L.K → (x.1 < w.heap.size ∧ x.1 ∉ U ∧ x.1 ∉ V) ∧ w.heap[x.1]? = x.2
section
variable {w0 w w' : World} {L : Pl} {s t s' : Sd} {F U V U' : List Nat}
theorem Bt.dev (h : Bt w0 w L s t F U V) (g : Gr U w U' w') (x : DV w' L.d L.m L.g L.n L.mx L.P U' s') : Bt w0 w' L s' t F U' V :=
  ⟨g.off.below h.bel (fun k hk => (h.uv k hk).1) h.bel.size, x, h.rw.off g.off (fun k hk hU => (h.uv k hU).2 hk), fun k hk => by
    rcases g.new k hk with h1 | h1
    · exact h.uv k h1
    · exact ⟨Nat.le_trans h.bel.size h1, fun hV => by have := h.rw.ult k hV; omega⟩, h.vb, fun k hk => ⟨Nat.lt_of_lt_of_le (h.fr k hk).1 g.off.size, g.out (h.fr k hk).1 (h.fr k hk).2.1, (h.fr k hk).2.2⟩, fun x hx => ⟨⟨Nat.lt_of_lt_of_le (h.kp x hx).1.1 g.off.size, g.out (h.kp x hx).1.1 (h.kp x hx).1.2.1, (h.kp x hx).1.2.2⟩, (g.off.block _ (h.kp x hx).1.1 (h.kp x hx).1.2.1).trans (h.kp x hx).2⟩⟩
theorem Bt.ref (h : Bt w0 w L s t F U V) (g : Gr V w U' w') (x : RW w' L.e L.r L.q L.n L.mx L.P U' s') : Bt w0 w' L s s' F U U' :=
  ⟨g.off.below h.bel h.vb h.bel.size, h.dv.off g.off (fun k hk hV => (h.uv k hk).2 hV), x, fun k hk => ⟨(h.uv k hk).1, g.out (h.dv.ult k hk) (h.uv k hk).2⟩, fun k hk => by
    rcases g.new k hk with h1 | h1
    · exact h.vb k h1
    · exact Nat.le_trans h.bel.size h1, fun k hk => ⟨Nat.lt_of_lt_of_le (h.fr k hk).1 g.off.size, (h.fr k hk).2.1, g.out (h.fr k hk).1 (h.fr k hk).2.2⟩, fun x hx => ⟨⟨Nat.lt_of_lt_of_le (h.kp x hx).1.1 g.off.size, (h.kp x hx).1.2.1, g.out (h.kp x hx).1.1 (h.kp x hx).1.2.2⟩, (g.off.block _ (h.kp x hx).1.1 (h.kp x hx).1.2.2).trans (h.kp x hx).2⟩⟩
theorem Bt.below (h : Bt w0 w L s t F U V) (b : Below w.heap.size w w') : Bt w0 w' L s t F U V :=
  ⟨h.bel.trans (b.mono h.bel.size), h.dv.below b, h.rw.below b, h.uv, h.vb, fun k hk => ⟨Nat.lt_of_lt_of_le (h.fr k hk).1 b.size, (h.fr k hk).2⟩, fun x hx => ⟨⟨Nat.lt_of_lt_of_le (h.kp x hx).1.1 b.size, (h.kp x hx).1.2⟩, (b.block _ (h.kp x hx).1.1).trans (h.kp x hx).2⟩⟩
theorem Bt.more (h : Bt w0 w L s t F U V) (b : Below w.heap.size w w') {k : Nat} (h1 : w.heap.size ≤ k) (h2 : k < w'.heap.size) : Bt w0 w' L s t (k :: F) U V := by
  have h' := h.below b
  refine ⟨h'.bel, h'.dv, h'.rw, h'.uv, h'.vb, fun j hj => ?_, h'.kp⟩
  rcases List.mem_cons.1 hj with e | hj
  · subst e
    exact ⟨h2, fun hm => by have := h.dv.ult _ hm; omega, fun hm => by have := h.rw.ult _ hm; omega⟩
  · exact h'.fr j hj
theorem Bt.kept (h : Bt w0 w L s t F U V) (g : Gr U w U' w') {k : Nat} (hk : k ∈ F) : w'.heap[k]? = w.heap[k]? := g.off.block k (h.fr k hk).1 (h.fr k hk).2.1
theorem Bt.keptR (h : Bt w0 w L s t F U V) (g : Gr V w U' w') {k : Nat} (hk : k ∈ F) : w'.heap[k]? = w.heap[k]? := g.off.block k (h.fr k hk).1 (h.fr k hk).2.2
theorem Bt.less (h : Bt w0 w L s t F U V) {F' : List Nat} (hf : ∀ k, k ∈ F' → k ∈ F) : Bt w0 w L s t F' U V := ⟨h.bel, h.dv, h.rw, h.uv, h.vb, fun k hk => h.fr k (hf k hk), h.kp⟩
theorem Bt.tell (h : Bt w0 w L s t F U V) (K : List (Nat × Option Obj)) (hk : ∀ x, x ∈ K → (x.1 < w.heap.size ∧ x.1 ∉ U ∧ x.1 ∉ V) ∧ w.heap[x.1]? = x.2) : Bt w0 w { L with K := K } s t F U V := ⟨h.bel, h.dv, h.rw, h.uv, h.vb, h.fr, hk⟩
theorem Bt.far (h : Bt w0 w L s t F U V) {k : Nat} (hk : w.heap.size ≤ k) : k ∉ U ∧ k ∉ V := ⟨fun hm => by have := h.dv.ult _ hm; omega, fun hm => by have := h.rw.ult _ hm; omega⟩
end
theorem Row8.blk {w w' : World} {a : Option Addr} {len cap : Nat} {bs : Nat → Nat} (h : Row8 w a len cap bs) (hb : ∀ x, a = some x → w'.heap[x.block]? = w.heap[x.block]?) : Row8 w' a len cap bs :=
  ⟨h.byte, h.nil, fun x hx i hi => (World.cell?_of_block (a := x.add i) (by
    have e : (x.add i).block = x.block := by unfold Addr.add; split <;> rfl
    rw [e]; exact hb x hx)).trans (h.src x hx i hi), h.le⟩
structure Ph (w0 w : World) (L : Pl) (s t : Sd) (b : Nat) (O : Array Value) (a : Option Addr) (len cap : Nat) (bs : Nat → Nat) : Prop where
  bt : ∃ U V, Bt w0 w L s t [b] U V
  bx : w.heap[b]? = some (.cells O 50 (0, 0))
  row : Row8 w a len cap bs
  low : ∀ y, a = some y → 0 < len → y.block < w0.heap.size
section
variable {w0 w w' : World} {L : Pl} {s t : Sd} {b : Nat} {O : Array Value} {a : Option Addr} {len cap : Nat} {bs : Nat → Nat}
theorem Ph.dev (h : Ph w0 w L s t b O a len cap bs) : ∃ U, DV w L.d L.m L.g L.n L.mx L.P U s ∧ ∀ U' w' s', Gr U w U' w' → DV w' L.d L.m L.g L.n L.mx L.P U' s' → Ph w0 w' L s' t b O a len cap bs := by
  obtain ⟨U, V, T⟩ := h.bt
  exact ⟨U, T.dv, fun U' w' s' g x => ⟨⟨U', V, T.dev g x⟩, (T.kept g (by simp)).trans h.bx, h.row.off0 g.off (fun y hy h0 hm => by have := h.low y hy h0; have := (T.uv _ hm).1; omega), h.low⟩⟩
theorem Ph.ref (h : Ph w0 w L s t b O a len cap bs) : ∃ V, RW w L.e L.r L.q L.n L.mx L.P V t ∧ ∀ V' w' t', Gr V w V' w' → RW w' L.e L.r L.q L.n L.mx L.P V' t' → Ph w0 w' L s t' b O a len cap bs := by
  obtain ⟨U, V, T⟩ := h.bt
  exact ⟨V, T.rw, fun V' w' t' g x => ⟨⟨U, V', T.ref g x⟩, (T.keptR g (by simp)).trans h.bx, h.row.off0 g.off (fun y hy h0 hm => by have := h.low y hy h0; have := T.vb _ hm; omega), h.low⟩⟩
theorem Ph.below (h : Ph w0 w L s t b O a len cap bs) (q : Below w.heap.size w w') : Ph w0 w' L s t b O a len cap bs := by
  obtain ⟨U, V, T⟩ := h.bt
  exact ⟨⟨U, V, T.below q⟩, (q.block b (T.fr b (by simp)).1).trans h.bx, h.row.below q, h.low⟩
theorem Ph.drew (h : Ph w0 w L s t b O a len cap bs) : Ph w0 w.drew L s t b O a len cap bs := h.below (Below.drew (Below.refl _ _))
theorem Ph.lt (h : Ph w0 w L s t b O a len cap bs) : b < w.heap.size := by
  obtain ⟨U, V, T⟩ := h.bt
  exact (T.fr b (by simp)).1
end
def Two (w0 w : World) (L : Pl) (s : Sd) : Prop := ∃ U V, Bt w0 w L s s [] U V
theorem Two.ph {w0 w : World} {L : Pl} {s : Sd} {a : Option Addr} {len cap : Nat} {bs : Nat → Nat} (h : Two w0 w L s) (O : Array Value) (hr : Row8 w a len cap bs) (hl : ∀ y, a = some y → 0 < len → y.block < w0.heap.size) : Ph w0 (w.alloc (.cells O 50)) L s s w.heap.size O a len cap bs := by
  obtain ⟨U, V, T⟩ := h
  have b : Below w.heap.size w (w.alloc (.cells O 50)) := (Below.refl _ _).alloc (Nat.le_refl _) _
  exact ⟨⟨U, V, T.more b (Nat.le_refl _) (by simp)⟩, heap_alloc_new w _, hr.below b, hl⟩
theorem Ph.two {w0 w : World} {L : Pl} {s : Sd} {b : Nat} {O : Array Value} {a : Option Addr} {len cap : Nat} {bs : Nat → Nat} (h : Ph w0 w L s s b O a len cap bs) : Two w0 w L s := by
  obtain ⟨U, V, T⟩ := h.bt
  exact ⟨U, V, T.less (by simp)⟩
theorem Two.below {w0 w w' : World} {L : Pl} {s : Sd} (h : Two w0 w L s) (b : Below w.heap.size w w') : Two w0 w' L s := by
  obtain ⟨U, V, T⟩ := h
  exact ⟨U, V, T.below b⟩
end Go.Proofs.YtndjepeolamedaaGreat
