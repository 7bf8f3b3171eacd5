/- Part 10 of the texts on which the proofs of layer 13 rest: contracts of Go functions. -/
import Derived.Test.YtndjepeolamedaaGreatPkA06
import Derived.Test.YtndjepeolamedaaGreatPkA07
import Derived.Test.YtndjepeolamedaaGreatPkA08
namespace Go.Proofs.YtndjepeolamedaaGreat
set_option maxRecDepth 100000
open Go.RowKit
def Fr (w : World) (M : Nat) (v : Value) (f : Fm) : Prop := w.ownsRow M 5 1 v f.1 (CB f.2 f.1)
theorem own_nil (w : World) (M e : Nat) : w.ownsRow M e 1 (.slice none 0 0) 0 (CB (fun _ => 0) 0) := World.ownsRow_nil w M e 1
theorem row_nilX (w : World) (bs : Nat → Nat) : Row8 w none 0 0 bs := ⟨fun i hi => by omega, fun _ => ⟨rfl, rfl⟩, (fun x hx => by cases hx), Nat.le_refl _⟩
theorem DV.below {w w' : World} {d m g n mx : Nat} {P : Pm} {U : List Nat} {s : Sd} (h : DV w d m g n mx P U s) (hb : Below w.heap.size w w') : DV w' d m g n mx P U s := by
  obtain ⟨B, h⟩ := h
  exact ⟨B, h.newd (Off.of_below hb)⟩
end Go.Proofs.YtndjepeolamedaaGreat
namespace Go.Proofs.YtndjepeolamedaaGreat
set_option maxRecDepth 100000
open Go.RowKit
def Out (U : List Nat) (w w' : World) (d m g n mx : Nat) (P : Pm) (s : Sd) (f : Fm) (v : Value) : Prop :=
  ∃ U', Gr U w U' w' ∧ DV w' d m g n mx P U' s ∧ Fr w' w.heap.size v f ∧ ∀ k, v.ownBlock = some k → k ∉ U'
theorem DV.ult {w : World} {d m g n mx : Nat} {P : Pm} {U : List Nat} {s : Sd} (h : DV w d m g n mx P U s) (k : Nat) (hk : k ∈ U) : k < w.heap.size := by
  obtain ⟨B, h⟩ := h
  exact h.ltU k hk
theorem Fr.ge {w : World} {M : Nat} {v : Value} {f : Fm} (h : Fr w M v f) (k : Nat) (hk : v.ownBlock = some k) : M ≤ k := by
  rcases h.2 with hn | ⟨g', cap', cur', rfl, hg', _⟩
  · rw [hn.1] at hk; cases hk
  · cases hk; exact hg'
theorem Out.mk {U U1 : List Nat} {w w1 w2 : World} {d m g n mx : Nat} {P : Pm} {s : Sd} {f : Fm} {v : Value} (h : Gr U w U1 w1) (x : DV w1 d m g n mx P U1 s) (hf : Fr w2 w1.heap.size v f) (hb : Below w1.heap.size w1 w2) : Out U w w2 d m g n mx P s f v :=
  ⟨U1, h.trans (Gr.below hb), x.below hb, own_base hf h.off.size, fun k hk hm => by have := x.ult k hm; have := hf.ge k hk; omega⟩
end Go.Proofs.YtndjepeolamedaaGreat
namespace Go.Proofs.YtndjepeolamedaaGreat
set_option maxRecDepth 100000
open Go.RowKit
structure NL (w w' : World) (P : Pm) (db vb vg ga : Nat) : Prop where
  dog : DR w' db P.t 0
  val : VR w' vb vg [] P.o vnew
  app : w'.ownsRow w.heap.size 5 1 (.slice (some ⟨ga, 0, none⟩) P.i P.i) P.i (CB (fun _ => 0) P.i)
  bel : Below w.heap.size w w'
  h1 : w.heap.size ≤ db
  h2 : db < vb
  h3 : db < vg
  h4 : vb < ga
  h5 : vg < ga
  h6 : ga < w'.heap.size
theorem two_new (w : World) (o p : Array Value) (t u : TypeId) (wx : World) (hb : Below ((w.alloc (.cells o t)).alloc (.cells p u)).heap.size ((w.alloc (.cells o t)).alloc (.cells p u)) wx) :
    wx.heap[w.heap.size]? = some (.cells o t (0, 0)) ∧ wx.heap[w.heap.size + 1]? = some (.cells p u (0, 0)) := by
  have s1 : (w.alloc (.cells o t)).heap.size = w.heap.size + 1 := by simp
  have s2 : ((w.alloc (.cells o t)).alloc (.cells p u)).heap.size = w.heap.size + 2 := by simp
  constructor
  · rw [hb.block _ (by omega), Below.heap_alloc _ _ _ (by omega)]
    exact heap_alloc_new w _
  · rw [hb.block _ (by omega), ← s1]
    exact heap_alloc_new _ _
theorem nine (b : Nat) (w : World) (x0 x1 x2 x3 x4 x5 x6 x7 x8 : Value) :
    Off [b] w (((((((((w.setCell ⟨b, 0, none⟩ x0).setCell ⟨b, 1, none⟩ x1).setCell ⟨b, 2, none⟩ x2).setCell ⟨b, 3, none⟩ x3).setCell ⟨b, 4, none⟩ x4).setCell ⟨b, 5, none⟩ x5).setCell ⟨b, 6, none⟩ x6).setCell ⟨b, 7, none⟩ x7).setCell ⟨b, 8, none⟩ x8) :=
  ((((((((Off.setCell b 0 w x0).trans (Off.setCell b 1 _ x1)).trans (Off.setCell b 2 _ x2)).trans (Off.setCell b 3 _ x3)).trans (Off.setCell b 4 _ x4)).trans (Off.setCell b 5 _ x5)).trans (Off.setCell b 6 _ x6)).trans (Off.setCell b 7 _ x7)).trans (Off.setCell b 8 _ x8)
end Go.Proofs.YtndjepeolamedaaGreat
namespace Go.Proofs.YtndjepeolamedaaGreat
set_option maxRecDepth 100000
open Go.RowKit
section
variable {w w' w1 w2 : World} {d m g n mx : Nat} {P : Pm} {U : List Nat} {s s' : Sd} {B : Bk} {A A' : Prop}
theorem DX.lived (h : DX w d m g n mx P U s B A) {db vb vg ga k : Nat} (q : NL w w1 P db vb vg ga) (o : Off [d] w1 w2)
    (e : w2.heap[d]? = some (.cells (DVC P m mx B.cp B.lb db vb (dlife s k) (.slice (some ⟨ga, 0, none⟩) P.i P.i)) 116 (0, 0))) :
    ∃ U' B', Gr U w U' w2 ∧ DX w2 d m g n mx P U' (dlife s k) B' A := by
  obtain ⟨q1, q2, q3, q4, q5, q6, q7, q8, q9, q10⟩ := q
  have hd := h.dlt
  have hq : ∀ k x, B.col k = x ∧ k ∈ U → (if k < w.heap.size then B.col k else if k = db then 3 else if k = vb ∨ k = vg then 4 else 6) = x ∧ k ∈ [db, vb, vg, ga] ++ U := fun k x hk => ⟨by rw [if_pos (h.ltU k hk.2)]; exact hk.1, List.mem_append.2 (.inr hk.2)⟩
  have hn : ∀ k, B.col k ≠ 0 → k ∉ [d] := fun k hk hm => by simp at hm; rw [hm, h.kd.1] at hk; exact hk rfl
  have h1 := h.newd (Off.of_below (l := []) q4)
  refine ⟨[db, vb, vg, ga] ++ U, { B with db := db, vb := vb, vg := vg, M := [], av := .slice (some ⟨ga, 0, none⟩) P.i P.i, col := fun k => if k < w.heap.size then B.col k else if k = db then 3 else if k = vb ∨ k = vg then 4 else 6 }, ⟨?_, ?_⟩, ?_⟩
  · exact (Off.of_below q4).trans (o.more (by simp [h.kd.2]))
  · intro k hk
    rcases List.mem_append.1 hk with hk | hk
    · simp at hk; right; omega
    · exact .inl hk
  · refine ⟨e, h1.mem.off o (hn _ (by rw [h.km.1]; omega)) (hn _ (by rw [h.kg.1]; omega)), ?_, q1.off o (by simp; omega), q2.off o (by simp; omega) (by simp; omega) (by simp), h1.log.off o (fun k hk => hn _ (by rw [(h.kl k hk).1]; omega)), ?_, fun _ _ => by show 0 < 256; omega, ?_, hq _ _ h.kd, hq _ _ h.km, hq _ _ h.kg, hq _ _ h.kc, ?_, ?_, ?_, fun k hk => (by simp at hk), fun k hk => hq _ _ (h.kl k hk), ?_, h.pok, h.n10, h.mx0, h.mxl⟩
    · intro hs
      obtain ⟨c1, c2, c3⟩ := h1.cel hs
      exact ⟨c1, c2.off o (hn _ (by rw [h.kc.1]; omega)), c3⟩
    · refine own_offk (own_base q3 (Nat.zero_le _)) o (fun k hk => ?_)
      cases hk
      simp; omega
    · intro k hk
      have so := o.size
      rcases List.mem_append.1 hk with hk | hk
      · simp at hk; omega
      · exact Nat.lt_of_lt_of_le (h1.ltU k hk) so
    · exact ⟨by show (if db < w.heap.size then _ else if db = db then 3 else _) = 3; rw [if_neg (by omega), if_pos rfl], by simp⟩
    · exact ⟨by show (if vb < w.heap.size then _ else if vb = db then 3 else if vb = vb ∨ vb = vg then 4 else 6) = 4; rw [if_neg (by omega), if_neg (by omega), if_pos (.inl rfl)], by simp⟩
    · exact ⟨by show (if vg < w.heap.size then _ else if vg = db then 3 else if vg = vb ∨ vg = vg then 4 else 6) = 4; rw [if_neg (by omega), if_neg (by omega), if_pos (.inr rfl)], by simp⟩
    · intro k hk
      cases hk
      exact ⟨by show (if ga < w.heap.size then _ else if ga = db then 3 else if ga = vb ∨ ga = vg then 4 else 6) = 6; rw [if_neg (by omega), if_neg (by omega), if_neg (by omega)], by simp⟩
end
end Go.Proofs.YtndjepeolamedaaGreat
namespace Go.Proofs.YtndjepeolamedaaGreat
set_option maxRecDepth 100000
open Go.RowKit
theorem nx_e (mx n : Nat) (z : Nat → Nat) (cut : Bool) (s : Ms) : (nx mx n z cut s).e = 0 ∨ (nx mx n z cut s).e = 70 ∨ (nx mx n z cut s).e = 80 := by
  unfold nx
  split
  · exact .inr (.inl rfl)
  · split
    · exact .inr (.inr rfl)
    · split
      · exact .inl rfl
      · exact .inr (.inl rfl)
theorem LW_rng (k c s n f len said : Int) : 0 ≤ LW k c s n f len said ∧ LW k c s n f len said ≤ 48 := by
  unfold LW
  split
  · omega
  · split
    · omega
    · split
      · omega
      · split
        · omega
        · split
          · omega
          · split <;> omega
theorem DE_rng (bs : Nat → Nat) (N : Nat) : 0 ≤ DE bs N ∧ DE bs N ≤ 48 := by
  unfold DE
  split
  · omega
  · split
    · omega
    · split
      · omega
      · exact LW_rng _ _ _ _ _ _ _
theorem dlatch_len (s : Sd) (x : Int) : (dlatch s x).L.length ≤ s.L.length + 1 := by
  unfold dlatch
  split
  · simp [dnote]
  · simp
theorem dlatch_st (s : Sd) (x : Int) : (dlatch s x).st = s.st := by unfold dlatch; split <;> rfl
theorem dlatch_ms (s : Sd) (x : Int) : (dlatch s x).ms = s.ms := by unfold dlatch; split <;> rfl
theorem dodd_len (s : Sd) : (dodd s).L.length ≤ s.L.length + 1 := by
  unfold dodd
  split
  · split
    · simp
    · split
      · exact dlatch_len _ _
      · simp [dleave]
  · omega
theorem dodd_ms (s : Sd) : (dodd s).ms = s.ms := by
  unfold dodd
  split
  · split
    · rfl
    · split
      · exact dlatch_ms _ _
      · rfl
  · rfl
theorem dodd_up {s : Sd} (h : s.st ≠ 6) : (dodd s).st ≠ 6 := by
  unfold dodd
  split
  · split
    · exact h
    · intro e; cases e
  · exact h
theorem dbegin_e (P : Pm) (mx n : Nat) (s : Sd) : 0 ≤ (dbegin P mx n s).e ∧ (dbegin P mx n s).e ≤ 200 := by
  have := nx_e mx n s.ms.bs false s.ms
  unfold dbegin
  split
  · exact ⟨by show (0 : Int) ≤ 80; omega, by show (80 : Int) ≤ 200; omega⟩
  · split
    · exact ⟨by show 0 ≤ (nx mx n s.ms.bs false s.ms).e; omega, by show (nx mx n s.ms.bs false s.ms).e ≤ 200; omega⟩
    · exact ⟨by show (0 : Int) ≤ 0; omega, by show (0 : Int) ≤ 200; omega⟩
theorem dbegin_len (P : Pm) (mx n : Nat) (s : Sd) : (dbegin P mx n s).s.L.length ≤ s.L.length + 1 := by
  unfold dbegin
  split
  · exact dlatch_len _ _
  · split
    · show s.L.length ≤ _; omega
    · show s.L.length ≤ _; omega
theorem dwish_e (P : Pm) (mx n : Nat) (s : Sd) : 0 ≤ (dwish P mx n s).e ∧ (dwish P mx n s).e ≤ 200 := by
  unfold dwish
  split
  · exact ⟨by show (0 : Int) ≤ 130; omega, by show (130 : Int) ≤ 200; omega⟩
  · split
    · exact ⟨by show (0 : Int) ≤ 130; omega, by show (130 : Int) ≤ 200; omega⟩
    · exact dbegin_e _ _ _ _
theorem dwish_len (P : Pm) (mx n : Nat) (s : Sd) : (dwish P mx n s).s.L.length ≤ s.L.length + 2 := by
  have := dodd_len s
  unfold dwish
  split
  · show (dodd s).L.length ≤ _; omega
  · split
    · show (dodd s).L.length ≤ _; omega
    · have := dbegin_len P mx n (dodd s); omega
theorem dtake_e (P : Pm) (mx n : Nat) (s : Sd) (k ss num fl len : Nat) (bs : Nat → Nat) : 0 ≤ (dtake P mx n s k ss num fl len bs).e ∧ (dtake P mx n s k ss num fl len bs).e ≤ 200 := by
  have r1 : ∀ x : Int, 0 ≤ x ∧ x ≤ 200 → 0 ≤ (drefuse P s x).e ∧ (drefuse P s x).e ≤ 200 := fun x h => h
  unfold dtake
  split
  · split
    · exact dwish_e _ _ _ _
    · exact r1 91 (by omega)
  · split
    · split
      · exact ⟨by show (0 : Int) ≤ 0; omega, by show (0 : Int) ≤ 200; omega⟩
      · exact r1 91 (by omega)
    · split
      · exact ⟨by show (0 : Int) ≤ 0; omega, by show (0 : Int) ≤ 200; omega⟩
      · split
        · exact ⟨by show (0 : Int) ≤ 0; omega, by show (0 : Int) ≤ 200; omega⟩
        · split
          · exact ⟨by show (0 : Int) ≤ 0; omega, by show (0 : Int) ≤ 200; omega⟩
          · exact r1 130 (by omega)
theorem dtake_len (P : Pm) (mx n : Nat) (s : Sd) (k ss num fl len : Nat) (bs : Nat → Nat) : (dtake P mx n s k ss num fl len bs).s.L.length ≤ s.L.length + 2 := by
  have r1 : ∀ x : Int, (drefuse P s x).s.L.length ≤ s.L.length + 2 := fun x => by have := dodd_len s; show (dodd s).L.length ≤ _; omega
  unfold dtake
  split
  · split
    · exact dwish_len _ _ _ _
    · exact r1 91
  · split
    · split
      · show (dechoS s).L.length ≤ _
        unfold dechoS
        split
        · show s.L.length ≤ _; omega
        · omega
      · exact r1 91
    · split
      · show (dstartS s).L.length ≤ _
        unfold dstartS
        split
        · show s.L.length ≤ _; omega
        · omega
      · split
        · show s.L.length ≤ _; omega
        · split
          · have := dlatch_len (don { s with nm := P.n }) 80
            have e : (don { s with nm := P.n }).L.length = s.L.length := rfl
            show (dlatch (don { s with nm := P.n }) 80).L.length ≤ _; omega
          · exact r1 130
theorem dhear_e (P : Pm) (mx n : Nat) (s : Sd) (len : Nat) (bs : Nat → Nat) : 0 ≤ (dhear P mx n s len bs).e ∧ (dhear P mx n s len bs).e ≤ 200 := by
  have := DE_rng bs len
  unfold dhear
  split
  · exact ⟨by show 0 ≤ DE bs len; omega, by show DE bs len ≤ 200; omega⟩
  · split
    · exact ⟨by show (0 : Int) ≤ 43; omega, by show (43 : Int) ≤ 200; omega⟩
    · split
      · exact ⟨by show (0 : Int) ≤ 44; omega, by show (44 : Int) ≤ 200; omega⟩
      · exact dtake_e _ _ _ _ _ _ _ _ _ _
theorem dhear_len (P : Pm) (mx n : Nat) (s : Sd) (len : Nat) (bs : Nat → Nat) : (dhear P mx n s len bs).s.L.length ≤ s.L.length + 2 := by
  unfold dhear
  split
  · show s.L.length ≤ _; omega
  · split
    · show s.L.length ≤ _; omega
    · split
      · show s.L.length ≤ _; omega
      · exact dtake_len _ _ _ _ _ _ _ _ _ _
end Go.Proofs.YtndjepeolamedaaGreat
namespace Go.Proofs.YtndjepeolamedaaGreat
set_option maxRecDepth 100000
open Go.RowKit
end Go.Proofs.YtndjepeolamedaaGreat
