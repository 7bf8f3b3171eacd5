/- Layer 20: a text's lines; what Parse makes of them (no walk in this text). -/
import Derived.Test.YtnmnjcjfgbpkaaaDoorJSy0
import Derived.Test.YtnmnjcjfgbpkaaaDoorJSx1
import Derived.Test.YtnmnjcjfgbpkaaaDoorJSp2
namespace Go.Proofs.YtnmnjcjfgbpkaaaDoor
set_option maxRecDepth 100000
open Go.RowKit Go.Maps
set_option maxRecDepth 100000
set_option linter.unusedVariables false
/-- Lines, byte by byte. -/
def lnGo : List UInt8 → List UInt8 → List (List UInt8) → List (List UInt8)
  | [], cur, out => out ++ [cur]
  | c :: r, cur, out => if c = 10 then lnGo r [] (out ++ [cur]) else lnGo r (cur ++ [c]) out
/-- A text's lines. -/
def lnOf (l : List UInt8) : List (List UInt8) := lnGo l [] []
theorem lnGo_out : ∀ (l cur : List UInt8) (out : List (List UInt8)), lnGo l cur out = out ++ lnGo l cur []
  | [], cur, out => by simp [lnGo]
  | c :: r, cur, out => by
    unfold lnGo
    split
    · rw [lnGo_out r [] (out ++ [cur]), lnGo_out r [] ([] ++ [cur])]
      simp
    · exact lnGo_out r (cur ++ [c]) out
theorem lnGo_cur : ∀ (l cur : List UInt8), lnGo l cur [] = (cur ++ tw 10 l) :: (if (tw 10 l).length < l.length then lnOf (l.drop ((tw 10 l).length + 1)) else [])
  | [], cur => by simp [lnGo, tw]
  | c :: r, cur => by
    unfold lnGo tw
    by_cases h : c = 10
    · rw [if_pos h, if_pos h, lnGo_out]
      simp [lnOf]
    · rw [if_neg h, if_neg h, lnGo_cur r (cur ++ [c])]
      simp
/-- The first line, and the others. -/
theorem lnOf_eq (l : List UInt8) : lnOf l = tw 10 l :: (if (tw 10 l).length < l.length then lnOf (l.drop ((tw 10 l).length + 1)) else []) := by
  have := lnGo_cur l []
  simpa [lnOf] using this
theorem lnGo_size : ∀ (l cur : List UInt8) (out : List (List UInt8)) (k : Nat), cur.length + l.length ≤ k → (∀ x ∈ out, x.length ≤ k) → (∀ x ∈ lnGo l cur out, x.length ≤ k) ∧ (lnGo l cur out).length ≤ out.length + l.length + 1
  | [], cur, out, k, h, ho => by
    unfold lnGo
    refine ⟨fun x hx => ?_, by simp⟩
    rcases List.mem_append.1 hx with q | q
    · exact ho x q
    · rw [List.mem_singleton.1 q]; simp at h; exact h
  | c :: r, cur, out, k, h, ho => by
    unfold lnGo
    simp only [List.length_cons] at h
    split
    · have ha : ∀ x ∈ out ++ [cur], x.length ≤ k := fun x hx => by
        rcases List.mem_append.1 hx with q | q
        · exact ho x q
        · rw [List.mem_singleton.1 q]; omega
      have := lnGo_size r [] (out ++ [cur]) k (by simp; omega) ha
      refine ⟨this.1, ?_⟩
      have := this.2
      simp only [List.length_cons, List.length_append, List.length_nil] at this ⊢
      omega
    · have := lnGo_size r (cur ++ [c]) out k (by simp; omega) ho
      refine ⟨this.1, ?_⟩
      have := this.2
      simp only [List.length_cons]
      omega
theorem lnOf_size (l : List UInt8) : (∀ x ∈ lnOf l, x.length ≤ l.length) ∧ (lnOf l).length ≤ l.length + 1 := by
  have h := lnGo_size l [] [] l.length (by simp) (fun x hx => by cases hx)
  refine ⟨h.1, ?_⟩
  have := h.2
  unfold lnOf
  simp at this
  omega
theorem cut_rest (l : List UInt8) : (Lib.cut l [10]).2.1 = (if (tw 10 l).length < l.length then l.drop ((tw 10 l).length + 1) else []) ∧ (Lib.cut l [10]).2.2 = decide ((tw 10 l).length < l.length) := by
  unfold Lib.cut
  rcases index_tw 10 l with ⟨h1, h2⟩ | ⟨h1, h2⟩
  · rw [if_neg (by omega), if_neg (by rw [h2]; omega), h2]
    simp
  · rw [if_pos (by omega), if_pos h2, h1]
    simp [h2]
/-- What a text has said so far. -/
structure Sn where
  Z : Nt
  M : List Mv
/-- One line: why it is wrong (0: it isn't), and what has been said behind it. -/
def Sn.err (s : Sn) (l : List UInt8) : Int := if 1024 < l.length then 204 else if (wsOf l).length = 0 then 0 else if s.M.length = 0 ∧ hdIs (wsOf l).length (wsL (wsOf l)) = true then hdEr (wsOf l).length (wsL (wsOf l)) else rdEr (wsOf l).length (wsL (wsOf l))
def Sn.next (s : Sn) (l : List UInt8) : Sn := if (wsOf l).length = 0 then s else if s.M.length = 0 ∧ hdIs (wsOf l).length (wsL (wsOf l)) = true then ⟨s.Z.hd (wsOf l).length (wsL (wsOf l)), s.M⟩ else ⟨s.Z, s.M ++ [rdM (wsOf l).length (wsL (wsOf l))]⟩
/-- Behind lines that are all right. -/
def Sn.all (s : Sn) : List (List UInt8) → Sn
  | [] => s
  | l :: r => Sn.all (s.next l) r
def Sn.okA (s : Sn) : List (List UInt8) → Bool
  | [] => true
  | l :: r => decide (s.err l = 0) && Sn.okA (s.next l) r
theorem Sn.all_app (s : Sn) : ∀ (a b : List (List UInt8)), s.all (a ++ b) = (s.all a).all b
  | [], b => rfl
  | x :: a, b => Sn.all_app (s.next x) a b
theorem Sn.okA_app (s : Sn) : ∀ (a b : List (List UInt8)), s.okA (a ++ b) = (s.okA a && (s.all a).okA b)
  | [], b => by simp [Sn.okA, Sn.all]
  | x :: a, b => by simp [Sn.okA, Sn.all, Sn.okA_app (s.next x) a b, Bool.and_assoc]
def Nt.zero : Nt := ⟨0, fun _ => ⟨0, 0, 0, 0, 0⟩, 0, fun _ => ⟨0, 0, 0, 0, 0⟩, 0⟩
def Sn.zero : Sn := ⟨Nt.zero, []⟩
/-- The first wrong line's number from n on and its error; 0, 0. -/
def Sn.bad (s : Sn) (n : Nat) : List (List UInt8) → Nat × Int
  | [] => (0, 0)
  | l :: r => if s.err l = 0 then Sn.bad (s.next l) (n + 1) r else (n, s.err l)
theorem Sn.bad_app (s : Sn) : ∀ (a : List (List UInt8)) (n : Nat) (b : List (List UInt8)), s.okA a = true → s.bad n (a ++ b) = (s.all a).bad (n + a.length) b
  | [], n, b, _ => rfl
  | x :: a, n, b, h => by
    simp only [Sn.okA, Bool.and_eq_true, decide_eq_true_eq] at h
    rw [List.cons_append, Sn.bad, if_pos h.1, Sn.bad_app (s.next x) a (n + 1) b h.2]
    rw [show n + 1 + a.length = n + (x :: a).length by simp; omega]
    rfl
/-- What Parse answers of a text: number, error, net, moves. -/
def psBad (l : List UInt8) : Nat × Int := if 262144 < l.length then (0, 204) else Sn.zero.bad 1 (lnOf l)
def psSn (l : List UInt8) : Sn := if (psBad l).2 = 0 then Sn.zero.all (lnOf l) else Sn.zero
end Go.Proofs.YtnmnjcjfgbpkaaaDoor
namespace Go.Proofs.YtnmnjcjfgbpkaaaDoor
set_option maxRecDepth 100000
open Go.RowKit Go.Maps
set_option maxRecDepth 100000
set_option linter.unusedVariables false
theorem lnGo_nl {l : List UInt8} {i : Nat} (h : i < l.length) (cur : List UInt8) (out : List (List UInt8)) (hg : l.getD i 0 = 10) : lnGo (l.drop i) cur out = lnGo (l.drop (i + 1)) [] (out ++ [cur]) := by
  rw [List.drop_eq_getElem_cons h, lnGo]
  rw [List.getD_eq_getElem?_getD, List.getElem?_eq_getElem h] at hg
  rw [if_pos (show l[i] = 10 from hg)]
theorem lnGo_byte {l : List UInt8} {i : Nat} (h : i < l.length) (cur : List UInt8) (out : List (List UInt8)) (hg : l.getD i 0 ≠ 10) : lnGo (l.drop i) cur out = lnGo (l.drop (i + 1)) (cur ++ [l.getD i 0]) out := by
  rw [List.getD_eq_getElem?_getD, List.getElem?_eq_getElem h] at hg ⊢
  rw [List.drop_eq_getElem_cons h, lnGo]
  rw [if_neg (show ¬ l[i] = 10 from hg)]
  rfl
theorem cut_tx (l : List UInt8) (a b : Nat) (h1 : a ≤ b) (h2 : b ≤ l.length) : ∀ w, (Instr.slice 9 (.string (tx l)) (some (.int .i64 ((a : Nat) : Int))) (some (.int .i64 ((b : Nat) : Int))) none).run Tryd.prog w = .ok (.string (tx ((l.take b).drop a))) w := fun w => by
  rw [run_slice_string w 9 (tx l) .i64 .i64 _ _ Tryd.underlying9 (by omega) (by omega) (by rw [tx_size]; omega)]
  simp only [Int.toNat_natCast, ext_tx]
theorem cut_tx2 (l : List UInt8) (a : Nat) (h1 : a ≤ l.length) : ∀ w, (Instr.slice 9 (.string (tx l)) (some (.int .i64 ((a : Nat) : Int))) none none).run Tryd.prog w = .ok (.string (tx (l.drop a))) w := fun w => by
  rw [run_slice_string_from_if w 9 (tx l) .i64 _ Tryd.underlying9, if_pos (by rw [tx_size]; omega)]
  simp only [Int.toNat_natCast, ext_tx, tx_size, List.take_length]
/-- The state of the document's loop. -/
def LnS (l : List UInt8) (w wr : World) (v : Value) (i fr : Nat) (out : List (List UInt8)) : Prop := lnGo (l.drop i) ((l.take i).drop fr) out = lnOf l ∧ i ≤ l.length ∧ fr ≤ i ∧ out.length ≤ i ∧ wr.ownsRow w.heap.size 9 1 v out.length (txV out) ∧ Below w.heap.size w wr
set_option maxHeartbeats 4000000 in
theorem rlines (l : List UInt8) (hl : l.length ≤ 1000000000) (w : World) : Calls Tryd.prog 18 #[.string (tx l)] w (WoP (lnOf l) w) := by
  have hs := sidx l
  have hc1 := cut_tx l
  have hc2 := cut_tx2 l
  have hXs : (tx l).size = l.length := tx_size l
  obtain ⟨X, hX⟩ : ∃ x, tx l = x := ⟨_, rfl⟩
  rw [hX] at hs hXs hc1 hc2 ⊢
  have HX : Hid (X.size = l.length) := hXs
  have HS : Hid (_) := And.intro hs (And.intro hc1 hc2)
  have post : ∀ v w' (out : List (List UInt8)), out = lnOf l → w'.ownsRow w.heap.size 9 1 v out.length (txV out) → Below w.heap.size w w' → WoP (lnOf l) w (.returned v) w' := fun v w' out e o b => by
    subst e
    rcases o.2 with ⟨e1, e2⟩ | ⟨g, cap, cur, e1, _⟩
    · refine ⟨none, 0, by rw [e1, e2], ?_, b⟩
      rw [e1] at o
      rw [show (lnOf l).length = 0 from e2] at o ⊢
      exact o
    · exact ⟨_, _, by rw [e1], by rw [e1] at o; exact o, b⟩
  have HP : Hid (_) := post
  clear hX hs hXs post hc1 hc2
  go_enter Tryd.func18, Tryd.ntmps18
  go_wp2_with fail
  go_loopw [3, 4, 5, 6, 7, 8, 9, 10, 11, 12, 13, 14, 15, 16, 17, 18, 19, 20, 21, 22, 23, 24] (fun v s c _ _ _ _ _ _ _ _ _ _ _ _ _ _ _ _ _ _ _ wr => ∃ (i fr : Nat) (out : List (List UInt8)), s = .int .i64 ((fr : Nat) : Int) ∧ c = .int .i64 ((i : Nat) : Int) ∧ Hid (LnS l w wr v i fr out)) (fun _ _ c _ _ _ _ _ _ _ _ _ _ _ _ _ _ _ _ _ _ _ _ => l.length - natV c)
  case atStart => exact ⟨0, 0, [], rfl, rfl, rfl, by omega, by omega, by simp, ⟨rfl, .inl ⟨rfl, rfl⟩⟩, Below.refl _ _⟩
  case round =>
    obtain ⟨i, fr, out, rfl, rfl, HI⟩ := hrel
    by_cases hlt : i < l.length
    · have hlt' : ((i : Nat) : Int) < ((X.size : Nat) : Int) := by have := HX.out; omega
      have s1 := HS.out.1 i hlt
      have c1 := HS.out.2.1 fr i HI.out.2.2.1 (by omega)
      obtain ⟨i1, hi1⟩ : ∃ y, i + 1 = y := ⟨_, rfl⟩
      have hadd : IntKind.i64.wrap (((i : Nat) : Int) + 1) = ((i1 : Nat) : Int) := by rw [IntKind.wrap_i64]; omega
      have cur1 : (l.take i).drop fr ++ [l.getD i 0] = (l.take (i + 1)).drop fr := by
        rw [take_getD l i hlt, List.drop_append_of_le_length (by simp; have := HI.out.2.2.1; omega)]
      have cur2 : (l.take (i + 1)).drop (i + 1) = [] := by simp
      have HJ : Hid (_) := And.intro hi1 (And.intro hlt (And.intro cur1 cur2))
      have e10 : ((l.getD i 0).toNat = 10) ↔ l.getD i 0 = 10 := ⟨fun q => UInt8.toNat_inj.1 q, fun q => by rw [q]; rfl⟩
      obtain ⟨b, hb⟩ : ∃ y, (l.getD i 0).toNat = y := ⟨_, rfl⟩
      rw [hb] at s1 e10
      have HE : Hid (_) := e10
      clear hi1 cur1 cur2 hb e10
      by_cases h10 : b = 10
      · obtain ⟨r1, r2, r3, r4, r5, r6⟩ := HI.out
        have HN : Hid (∀ v' w', w'.ownsRow w.heap.size 9 1 v' (out.length + 1) (txV out ++ [.string (tx ((l.take i).drop fr))]) → Below w.heap.size w w' → LnS l w w' v' i1 i1 (out ++ [(l.take i).drop fr])) := fun v' w' p1 p2 => by
          have e := lnGo_nl hlt ((l.take i).drop fr) out (HE.out.1 h10)
          rw [← HJ.out.1]
          refine ⟨?_, by omega, Nat.le_refl _, by simp; omega, ?_, p2⟩
          · rw [HJ.out.2.2.2, ← e]
            exact r1
          · rw [txV_add, List.length_append]
            exact p1
        obtain ⟨Y, hY⟩ : ∃ y, tx ((l.take i).drop fr) = y := ⟨_, rfl⟩
        rw [hY] at HN c1
        have O3 := ownB r5 (belA (Below.refl _ wr) (.cells #[.string Y] 9))
        have B3 : w.heap.size ≤ (wr.alloc (.cells #[.string Y] 9)).heap.size := Nat.le_trans r6.size (belA (Below.refl _ wr) (.cells #[.string Y] 9)).size
        have N3 := one_str wr Y
        have M3 := one_strO Y
        obtain ⟨i0, hIn, hz0, hz1, hz2⟩ := info_parts info_str
        have HK : Hid (Below w.heap.size w (wr.alloc (.cells #[.string Y] 9))) := belA r6 _
        obtain ⟨nn, hnn⟩ : ∃ y, out.length = y := ⟨_, rfl⟩
        rw [hnn] at O3 HN r4
        have hb9 : nn ≤ 1000000000 := by omega
        clear r1 r2 r3 r4 r5 r6 hY hnn hlt
        subst h10
        go_wp2_with (at_builtin; refine wpList_append_own_at _ rfl _ _ 51 rfl w.heap.size 9 i0 (.string (ByteArray.mk #[])) 1 16 Tryd.underlying51 hIn hz0 hz1 hz2 rfl (by decide) u3 nn (txV out) rfl O3 ⟨wr.heap.size, 0, none⟩ 1 1 [.string Y] rfl rfl N3 M3 (by unfold maxLen; omega) (by omega) B3 ?_)
        intro v7 w7 O7 G7 _ _
        obtain ⟨x7, y7, rfl, _⟩ := own_slcS O7
        have HF := HN.out _ _ O7 (HK.out.grown G7 HK.out.size (fun k hk => (O3.lt k hk).1))
        have HF2 : Hid (_) := HF
        clear O7 G7 O3 B3 N3 M3 HI hIn hz0 hz1 hz2 HF HN
        go_wp2_with fail
        go_roundw
        case rel => exact ⟨i1, i1, _, rfl, rfl, HF2⟩
        case measure =>
          have := HJ.out.1
          have := HJ.out.2.1
          simp [natV]
          omega
      · have q10 : (((b : Nat) : Int) == 10) = false := beq_eq_false_iff_ne.2 (by omega)
        have HN : Hid (LnS l w wr u3 i1 fr out) := by
          obtain ⟨r1, r2, r3, r4, r5, r6⟩ := HI.out
          have e := lnGo_byte hlt ((l.take i).drop fr) out (fun q => h10 (HE.out.2 q))
          show LnS l w wr u3 i1 fr out
          rw [← HJ.out.1]
          refine ⟨?_, by omega, by omega, by omega, r5, r6⟩
          rw [← HJ.out.2.2.1, ← e]
          exact r1
        clear hlt h10 c1
        go_wp2_with fail
        go_roundw
        case rel => exact ⟨i1, fr, out, rfl, rfl, HN⟩
        case measure =>
          have := HJ.out.1
          have := HJ.out.2.1
          simp [natV]
          omega
    · obtain ⟨r1, r2, r3, r4, r5, r6⟩ := HI.out
      obtain rfl : i = l.length := by omega
      have e0 : out ++ [l.drop fr] = lnOf l := by
        rw [List.drop_length, List.take_length] at r1
        exact r1
      have hlt' : ¬ ((l.length : Nat) : Int) < ((X.size : Nat) : Int) := by have := HX.out; omega
      have c1 := HS.out.2.2 fr r3
      have HT : Hid (txV (out ++ [l.drop fr]) = txV out ++ [.string (tx (l.drop fr))]) := txV_add out _
      obtain ⟨Y, hY⟩ : ∃ y, tx (l.drop fr) = y := ⟨_, rfl⟩
      rw [hY] at c1 HT
      have O3 := ownB r5 (belA (Below.refl _ wr) (.cells #[.string Y] 9))
      have B3 : w.heap.size ≤ (wr.alloc (.cells #[.string Y] 9)).heap.size := Nat.le_trans r6.size (belA (Below.refl _ wr) (.cells #[.string Y] 9)).size
      have N3 := one_str wr Y
      have M3 := one_strO Y
      obtain ⟨i0, hIn, hz0, hz1, hz2⟩ := info_parts info_str
      have HK : Hid (Below w.heap.size w (wr.alloc (.cells #[.string Y] 9))) := belA r6 _
      have HE : Hid (_) := e0
      have hb9 : out.length ≤ 1000000000 := by omega
      obtain ⟨nn, hnn⟩ : ∃ y, out.length = y := ⟨_, rfl⟩
      rw [hnn] at O3 hb9
      have HNN : Hid (out.length = nn) := hnn
      obtain ⟨ii, hii⟩ : ∃ y, l.length = y := ⟨_, rfl⟩
      rw [hii] at hlt' ⊢
      clear r1 r2 r3 r4 r5 r6 hY hnn hlt HI e0 hii
      go_wp2_with (at_builtin; refine wpList_append_own_at _ rfl _ _ 51 rfl w.heap.size 9 i0 (.string (ByteArray.mk #[])) 1 16 Tryd.underlying51 hIn hz0 hz1 hz2 rfl (by decide) u3 nn (txV out) rfl O3 ⟨wr.heap.size, 0, none⟩ 1 1 [.string Y] rfl rfl N3 M3 (by unfold maxLen; omega) (by omega) B3 ?_)
      intro v7 w7 O7 G7 _ _
      have HF : Hid (w7.ownsRow w.heap.size 9 1 v7 (out ++ [l.drop fr]).length (txV (out ++ [l.drop fr])) ∧ Below w.heap.size w w7) := ⟨by rw [HT.out, List.length_append, HNN.out]; exact O7, HK.out.grown G7 HK.out.size (fun k hk => (O3.lt k hk).1)⟩
      obtain ⟨x7, y7, rfl, _⟩ := own_slcS O7
      clear O7 G7 O3 B3 N3 M3 hIn hz0 hz1 hz2
      go_wp2_with fail
      go_ret
      exact HP.out _ _ _ HE.out HF.out.1 HF.out.2
end Go.Proofs.YtnmnjcjfgbpkaaaDoor

namespace Go.Proofs.YtnmnjcjfgbpkaaaDoor
set_option maxRecDepth 100000
open Go.RowKit Go.Maps
set_option maxRecDepth 100000
set_option linter.unusedVariables false
/-- The moves of a list by their places. -/
def mvL (M : List Mv) (i : Nat) : Mv := M.getD i (Mv.z 0)
theorem mvL_app (M : List Mv) (m : Mv) (i : Nat) (h : i < M.length) : mvL (M ++ [m]) i = mvL M i := by
  unfold mvL
  rw [List.getD_eq_getElem?_getD, List.getD_eq_getElem?_getD, List.getElem?_append_left h]
theorem mvL_last (M : List Mv) (m : Mv) : mvL (M ++ [m]) M.length = m := by
  unfold mvL
  rw [List.getD_eq_getElem?_getD, List.getElem?_append_right (Nat.le_refl _)]
  simp
theorem Sn.next_le (s : Sn) (l : List UInt8) : (s.next l).Z.l0 ≤ s.Z.l0 + 1 ∧ (s.next l).Z.l1 ≤ s.Z.l1 + 1 ∧ (s.next l).M.length ≤ s.M.length + 1 := by
  unfold Sn.next
  split
  · exact ⟨by omega, by omega, by omega⟩
  · split
    · have : ∀ N L, (s.Z.hd N L).l0 ≤ s.Z.l0 + 1 ∧ (s.Z.hd N L).l1 ≤ s.Z.l1 + 1 := fun N L => by
        unfold Nt.hd Nt.put
        repeat' split
        all_goals simp
      exact ⟨(this _ _).1, (this _ _).2, by simp⟩
    · exact ⟨by simp, by simp, by simp⟩
theorem Sn.all_le (s : Sn) : ∀ ls, (s.all ls).Z.l0 ≤ s.Z.l0 + ls.length ∧ (s.all ls).Z.l1 ≤ s.Z.l1 + ls.length ∧ (s.all ls).M.length ≤ s.M.length + ls.length
  | [] => ⟨by simp [Sn.all], by simp [Sn.all], by simp [Sn.all]⟩
  | l :: r => by
    have h1 := s.next_le l
    have h2 := Sn.all_le (s.next l) r
    simp only [Sn.all, List.length_cons]
    exact ⟨by omega, by omega, by omega⟩
/-- What Parse leaves. -/
def PaP (s : Sn) (at_ : Nat) (e : Int) (w : World) (r : Ending) (w' : World) : Prop := ∃ a0 c0 a1 c1 al cl D, r = .returned (.tuple #[.agg #[.slice a0 s.Z.l0 c0, .slice a1 s.Z.l1 c1, .int .u32 (s.Z.ms : Nat)], .slice al s.M.length cl, .int .i64 ((at_ : Nat) : Int), .int .i64 e]) ∧ Hid (PRow w' a0 s.Z.l0 s.Z.P0 ∧ PRow w' a1 s.Z.l1 s.Z.P1 ∧ MvRow w' al s.M.length (mvL s.M) D ∧ Below w.heap.size w w')
theorem PaP.none {at_ : Nat} {e : Int} {w w' : World} (b : Below w.heap.size w w') : PaP Sn.zero at_ e w (.returned (.tuple #[.agg #[.slice none 0 0, .slice none 0 0, .int .u32 0], .slice .none 0 0, .int .i64 ((at_ : Nat) : Int), .int .i64 e])) w' := ⟨.none, 0, .none, 0, .none, 0, fun _ => ⟨.none, 0⟩, rfl, (fun i hi => by cases hi), (fun i hi => by cases hi), (fun i hi => by cases hi), b⟩
/-- The net under way at block b, as the document keeps it. -/
structure NrW (w wr : World) (b : Nat) (Z : Nt) (H : Nat) : Prop where
  ex : ∃ a0 c0 a1 c1, Bk wr b #[.slice a0 Z.l0 c0, .slice a1 Z.l1 c1, .int .u32 (Z.ms : Nat)] 26 ∧ PRow wr a0 Z.l0 Z.P0 ∧ PRow wr a1 Z.l1 Z.P1 ∧ (a0 = none → Z.l0 = 0 ∧ c0 = 0) ∧ (a1 = none → Z.l1 = 0 ∧ c1 = 0) ∧ (∀ x, a0 = some x → 0 < Z.l0 → x.block < H) ∧ (∀ x, a1 = some x → 0 < Z.l1 → x.block < H)
theorem own_tyM {B : Nat} {w : World} {b n : Nat} {T : TypeId} {cs : Array Value} {v : Value} {xs : List Value} (hT : T ≠ 45) (h : Bk w b cs T) (o : w.ownsRow B 45 9 v n xs) : v.ownBlock ≠ some b := by
  rcases o.2 with ⟨e, _⟩ | ⟨g, cap, cur, e, _, hg, _⟩
  · rw [e]
    simp [Value.ownBlock]
  · rw [e]
    simp only [Value.ownBlock, ne_eq, Option.some.injEq]
    rintro rfl
    have h2 : w.heap[g]? = some (.cells cs T (0, 0)) := h
    rw [hg] at h2
    cases h2
    exact hT rfl
theorem cell_at {w : World} {b : Nat} {cs : Array Value} {T : TypeId} {x : Addr} {v : Value} (h : Bk w b cs T) (hx : x.block = b) (hc : w.cell? x = some v) : v ∈ cs.toList := by
  obtain ⟨k, o, sp⟩ := x
  have hs := World.cell?_spot hc
  simp only at hs hx
  subst hs hx
  rw [h.cell] at hc
  exact Array.mem_toList_iff.2 (Array.mem_of_getElem? hc)
theorem row8_ne {w : World} {a : Option Addr} {l c b : Nat} {bs : Nat → Nat} {cs : Array Value} {T : TypeId} (h : Row8 w a l c bs) (hb : Bk w b cs T) (hc : ∀ v ∈ cs.toList, ∀ n, v ≠ .int .u8 n) : ∀ x, a = some x → 0 < l → x.block ≠ b := fun x hx hl e => by
  have h0 := h.src x hx 0 hl
  have he : (x.add 0).block = b := by unfold Addr.add; split <;> exact e
  exact hc _ (cell_at hb he h0) _ rfl
theorem prow_off {w w' : World} {a : Option Addr} {n b : Nat} {P : Nat → Pg} {cs : Array Value} {T : TypeId} {l : List Nat} (h : PRow w a n P) (q : Off l w w') (hl : ∀ k ∈ l, k = b) (hb : Bk w b cs T) (hc : ∀ v ∈ cs.toList, ∀ n, v ≠ .int .i64 n) : PRow w' a n P := fun i hi => by
  obtain ⟨g, off, e, c0, c1, c2, c3, c4⟩ := h i hi
  have hne : g ≠ b := fun eq => hc _ (cell_at hb (x := ⟨g, off + i * 5 + 1, none⟩) eq c1) _ rfl
  have hlt : g < w.heap.size := World.block_lt_of_cell? w _ c1
  have hk : w'.heap[g]? = w.heap[g]? := q.block g hlt (fun hm => hne (hl g hm))
  have tr : ∀ {k : Nat} {v : Value}, w.cell? ⟨g, k, none⟩ = some v → w'.cell? ⟨g, k, none⟩ = some v := fun hv => by
    rw [← hv]
    unfold World.cell?
    rw [hk]
  exact ⟨g, off, e, tr c0, tr c1, tr c2, tr c3, tr c4⟩
theorem wsrow_off {w w' : World} {a : Option Addr} {n b : Nat} {L : Nat → List UInt8} {cs : Array Value} {T : TypeId} {l : List Nat} (h : WsRow w a n L) (q : Off l w w') (hl : ∀ k ∈ l, k = b) (hb : Bk w b cs T) (hc : ∀ v ∈ cs.toList, ∀ s, v ≠ .string s) : WsRow w' a n L := fun i hi => by
  obtain ⟨g, o, e, c⟩ := h i hi
  have hne : g ≠ b := fun eq => hc _ (cell_at hb (x := ⟨g, o + i, none⟩) eq c) _ rfl
  have hk : w'.heap[g]? = w.heap[g]? := q.block g (World.block_lt_of_cell? w _ c) (fun hm => hne (hl g hm))
  refine ⟨g, o, e, ?_⟩
  rw [← c]
  unfold World.cell?
  rw [hk]
theorem netcs {a0 a1 : Option Addr} {l0 c0 l1 c1 ms : Nat} : (∀ v ∈ (#[.slice a0 l0 c0, .slice a1 l1 c1, .int .u32 (ms : Nat)] : Array Value).toList, ∀ n, v ≠ .int .i64 n) ∧ (∀ v ∈ (#[.slice a0 l0 c0, .slice a1 l1 c1, .int .u32 (ms : Nat)] : Array Value).toList, ∀ n, v ≠ .int .u8 n) ∧ (∀ v ∈ (#[.slice a0 l0 c0, .slice a1 l1 c1, .int .u32 (ms : Nat)] : Array Value).toList, ∀ s, v ≠ .string s) := by
  refine ⟨?_, ?_, ?_⟩
  all_goals
    intro v hv n e
    subst e
    simp at hv
/-- Moves kept where a net's block turns. -/
theorem mc_rows_off {W wx w' : World} {v : Value} {n b : Nat} {M : Nat → Mv} {D : Nat → Md} {a0 a1 : Option Addr} {l0 c0 l1 c1 ms : Nat} (h : Mc W wx 45 v n M D) (q : Off [b] wx w') (hb : Bk wx b #[.slice a0 l0 c0, .slice a1 l1 c1, .int .u32 (ms : Nat)] 26) : ∃ a c, v = .slice a n c ∧ MvRow w' a n M D := by
  obtain ⟨a, c, e, hr⟩ := Mc.rows h
  refine ⟨a, c, e, fun i hi => ?_⟩
  obtain ⟨g, off, ea, cc, RR⟩ := hr i hi
  subst ea
  have own := OL.own h
  rw [e] at own
  have hne := own_tyM (by decide) hb own
  have hgb : g ≠ b := fun eq => hne (by rw [eq]; rfl)
  have hlt : g < wx.heap.size := (own.lt g rfl).2
  have hk : w'.heap[g]? = wx.heap[g]? := q.block g hlt (by simpa using hgb)
  refine ⟨g, off, rfl, fun j u hu => ?_, RR.offS q (fun x hx hn => ?_)⟩
  · rw [← cc j u hu]
    unfold World.cell?
    rw [hk]
  · have := row8_ne RR hb netcs.2.1 x hx hn
    simpa using this
/-- What the document's loop keeps. -/
structure PaS (l : List UInt8) (w wr : World) (v : Value) (i : Nat) (al : Option Addr) : Prop where
  ok : Sn.zero.okA ((lnOf l).take i) = true
  lo : ∃ H, H ≤ wr.heap.size ∧ NrW w wr (w.heap.size + 1) (Sn.zero.all ((lnOf l).take i)).Z H ∧ (∀ k, v.ownBlock = some k → H ≤ k) ∧ (∀ x, al = some x → 0 < (lnOf l).length → x.block < H)
  mv : ∃ D, Mc w wr 45 v (Sn.zero.all ((lnOf l).take i)).M.length (mvL (Sn.zero.all ((lnOf l).take i)).M) D
  nil_ : (Sn.zero.all ((lnOf l).take i)).M.length = 0 → v = .slice none 0 0
  res : Bk wr w.heap.size #[.slice none 0 0, .slice none 0 0, .int .u32 0] 26
  ln : WsRow wr al (lnOf l).length (wsL (lnOf l))
  bel : Below w.heap.size w wr
theorem NrW.below {w wr w' : World} {b H : Nat} {Z : Nt} (h : NrW w wr b Z H) (q : Below wr.heap.size wr w') : NrW w w' b Z H := by
  obtain ⟨a0, c0, a1, c1, k, p0, p1, n0, n1, h0, h1⟩ := h.ex
  exact ⟨a0, c0, a1, c1, k.off (Off.of_below (l := []) q) (by simp), p0.below q, p1.below q, n0, n1, h0, h1⟩
theorem PaS.below {l : List UInt8} {w wr w' : World} {v : Value} {i : Nat} {al : Option Addr} (h : PaS l w wr v i al) (q : Below wr.heap.size wr w') : PaS l w w' v i al := by
  obtain ⟨D, hD⟩ := h.mv
  obtain ⟨H, h1, h2, h3, h4⟩ := h.lo
  exact ⟨h.ok, ⟨H, Nat.le_trans h1 q.size, h2.below q, h3, h4⟩, ⟨D, OL.below hD q⟩, h.nil_, h.res.off (Off.of_below (l := []) q) (by simp), h.ln.below q, h.bel.trans (q.mono h.bel.size)⟩
theorem prow_lt {w : World} {a : Option Addr} {n : Nat} {P : Nat → Pg} (h : PRow w a n P) : ∀ x, a = some x → 0 < n → x.block < w.heap.size := fun x hx hn => by
  obtain ⟨g, o, e, c, _⟩ := h 0 hn
  rw [hx] at e
  cases e
  exact World.block_lt_of_cell? w _ c
theorem wsrow_lt {w : World} {a : Option Addr} {n : Nat} {L : Nat → List UInt8} (h : WsRow w a n L) : ∀ x, a = some x → 0 < n → x.block < w.heap.size := fun x hx hn => by
  obtain ⟨g, o, e, c⟩ := h 0 hn
  rw [hx] at e
  cases e
  exact World.block_lt_of_cell? w _ c
theorem prow_grown {w w' : World} {a : Option Addr} {n H : Nat} {P : Nat → Pg} {row : Option Nat} (h : PRow w a n P) (g : w.grownBy w' row) (hH : ∀ x, a = some x → 0 < n → x.block < H) (hr : ∀ k, row = some k → H ≤ k) : PRow w' a n P := fun i hi => by
  obtain ⟨q, off, e, c0, c1, c2, c3, c4⟩ := h i hi
  have hq := hH _ e (by omega)
  have hk : w'.heap[q]? = w.heap[q]? := g.block q (World.block_lt_of_cell? w _ c0) (fun e2 => by have := hr q e2.symm; simp at hq; omega)
  have tr : ∀ {k : Nat} {v : Value}, w.cell? ⟨q, k, none⟩ = some v → w'.cell? ⟨q, k, none⟩ = some v := fun hv => by
    rw [← hv]
    unfold World.cell?
    rw [hk]
  exact ⟨q, off, e, tr c0, tr c1, tr c2, tr c3, tr c4⟩
theorem wsrow_grown {w w' : World} {a : Option Addr} {n H : Nat} {L : Nat → List UInt8} {row : Option Nat} (h : WsRow w a n L) (g : w.grownBy w' row) (hH : ∀ x, a = some x → 0 < n → x.block < H) (hr : ∀ k, row = some k → H ≤ k) : WsRow w' a n L := fun i hi => by
  obtain ⟨q, o, e, c⟩ := h i hi
  have hq := hH _ e (by omega)
  have hk : w'.heap[q]? = w.heap[q]? := g.block q (World.block_lt_of_cell? w _ c) (fun e2 => by have := hr q e2.symm; simp at hq; omega)
  refine ⟨q, o, e, ?_⟩
  rw [← c]
  unfold World.cell?
  rw [hk]
theorem take_snoc (LS : List (List UInt8)) (i : Nat) (h : i < LS.length) : LS.take (i + 1) = LS.take i ++ [wsL LS i] := by
  rw [List.take_add_one, List.getElem?_eq_getElem h]
  unfold wsL
  rw [List.getD_eq_getElem?_getD, List.getElem?_eq_getElem h]
  rfl
theorem drop_wsL (LS : List (List UInt8)) (i : Nat) (h : i < LS.length) : LS.drop i = wsL LS i :: LS.drop (i + 1) := by
  rw [List.drop_eq_getElem_cons h]
  unfold wsL
  rw [List.getD_eq_getElem?_getD, List.getElem?_eq_getElem h]
  rfl
/-- A line that is right. -/
theorem okA_next {LS : List (List UInt8)} {i : Nat} (h : i < LS.length) (ok : Sn.zero.okA (LS.take i) = true) (e : (Sn.zero.all (LS.take i)).err (wsL LS i) = 0) : Sn.zero.okA (LS.take (i + 1)) = true ∧ Sn.zero.all (LS.take (i + 1)) = (Sn.zero.all (LS.take i)).next (wsL LS i) := by
  rw [take_snoc LS i h, Sn.okA_app, Sn.all_app, ok]
  refine ⟨?_, rfl⟩
  simp [Sn.okA, e]
/-- A line that is wrong. -/
theorem bad_at {l : List UInt8} (hl : l.length ≤ 262144) {i : Nat} (h : i < (lnOf l).length) (ok : Sn.zero.okA ((lnOf l).take i) = true) (e : (Sn.zero.all ((lnOf l).take i)).err (wsL (lnOf l) i) ≠ 0) : psBad l = (i + 1, (Sn.zero.all ((lnOf l).take i)).err (wsL (lnOf l) i)) ∧ psSn l = Sn.zero := by
  have h1 : psBad l = (i + 1, (Sn.zero.all ((lnOf l).take i)).err (wsL (lnOf l) i)) := by
    unfold psBad
    rw [if_neg (by omega)]
    have := Sn.bad_app Sn.zero ((lnOf l).take i) 1 ((lnOf l).drop i) ok
    rw [List.take_append_drop] at this
    rw [this, drop_wsL _ i h, Sn.bad, if_neg e, List.length_take]
    rw [show 1 + min i (lnOf l).length = i + 1 by omega]
  refine ⟨h1, ?_⟩
  unfold psSn
  rw [h1, if_neg e]
theorem good_end {l : List UInt8} (hl : l.length ≤ 262144) (ok : Sn.zero.okA (lnOf l) = true) : psBad l = (0, 0) ∧ psSn l = Sn.zero.all (lnOf l) := by
  have h1 : psBad l = (0, 0) := by
    unfold psBad
    rw [if_neg (by omega)]
    have := Sn.bad_app Sn.zero (lnOf l) 1 [] ok
    rw [List.append_nil] at this
    rw [this]
    rfl
  refine ⟨h1, ?_⟩
  unfold psSn
  rw [h1, if_pos rfl]
end Go.Proofs.YtnmnjcjfgbpkaaaDoor

namespace Go.Proofs.YtnmnjcjfgbpkaaaDoor
set_option maxRecDepth 100000
open Go.RowKit Go.Maps
set_option maxRecDepth 100000
set_option linter.unusedVariables false
set_option maxHeartbeats 1000000 in
theorem rparse_long (l : List UInt8) (hl : 262144 < l.length) (w : World) : Calls Tryd.prog 9 #[.string (tx l)] w (PaP (psSn l) (psBad l).1 (psBad l).2 w) := by
  have e1 : psBad l = (0, 204) := by unfold psBad; rw [if_pos hl]
  have e2 : psSn l = Sn.zero := by unfold psSn; rw [e1, if_neg (by decide)]
  rw [e1, e2]
  have hXs : (tx l).size = l.length := tx_size l
  obtain ⟨X, hX⟩ : ∃ x, tx l = x := ⟨_, rfl⟩
  rw [hX] at hXs ⊢
  have q : (262144 : Int) < ((X.size : Nat) : Int) := by omega
  have post : ∀ w', Below w.heap.size w w' → PaP Sn.zero 0 204 w (.returned (.tuple #[.agg #[.slice none 0 0, .slice none 0 0, .int .u32 0], .slice none 0 0, .int .i64 0, .int .i64 204])) w' := fun w' b => PaP.none b
  clear e1 e2 hX hXs hl
  go_enter Tryd.func9, Tryd.ntmps9
  go_wp2_with fail
  refine bodyPost_ret (v := .tuple #[.agg #[.slice none 0 0, .slice none 0 0, .int .u32 0], .slice none 0 0, .int .i64 0, .int .i64 204]) (by simp [results, Tryd.results9, go_sem]) rfl ?_
  exact post _ (belA (Below.refl _ _) _)
theorem own_slcM {w : World} {B n : Nat} {v : Value} {xs : List Value} (h : w.ownsRow B 45 9 v n xs) : ∃ a c, v = .slice a n c ∧ True := by
  rcases h.2 with ⟨e, r⟩ | ⟨g, cap, cur, e, _⟩
  · subst r
    exact ⟨_, _, e, trivial⟩
  · exact ⟨_, _, e, trivial⟩
/-- A list of moves with one more. -/
theorem mc_more {W wr w8 wx w9 : World} {v v9 : Value} {M : List Mv} {D : Nat → Md} {m : Mv} {am : Option Addr} {cm : Nat} (L4 : Mc W wx 45 v M.length (mvL M) D) (R : Row8 wx am m.l cm m.b) (hne : ∀ y, am = some y → 0 < m.l → some y.block ≠ v.ownBlock) (O9 : w9.ownsRow W.heap.size 45 9 v9 (M.length + 1) (fl M.length (fun j => (mvL M j).ls (D j)) ++ m.ls ⟨am, cm⟩)) (G9 : wx.grownBy w9 v.ownBlock) (E9 : v9.ownBlock = v.ownBlock ∨ v9.ownBlock = some wx.heap.size) : ∃ D', Mc W w9 45 v9 (M ++ [m]).length (mvL (M ++ [m])) D' := by
  refine ⟨fun j => if j = M.length then ⟨am, cm⟩ else D j, ?_⟩
  rw [List.length_append]
  refine OL.congrM (OL.more L4 (m.ls ⟨am, cm⟩) (mb m ⟨am, cm⟩) rfl (fun t ht => ⟨?_, fun z hz hn => ?_⟩) O9 G9 E9) (fun j hj => ?_) (fun j hj => ?_)
  · simp only [mb, List.mem_singleton] at ht
    subst ht
    exact R
  · simp only [mb, List.mem_singleton] at ht
    subst ht
    exact hne z hz hn
  · by_cases e : j = M.length
    · subst e; simp [mvL_last]
    · simp only [List.length_cons, List.length_nil] at hj
      dsimp only
      rw [if_neg e, if_neg e, mvL_app M m j (by omega)]
  · by_cases e : j = M.length
    · subst e; simp [mvL_last]
    · simp only [List.length_cons, List.length_nil] at hj
      dsimp only
      rw [if_neg e, if_neg e, mvL_app M m j (by omega)]
/-- The document's loop behind a move's line. -/
theorem pas_read {l : List UInt8} {w W wx w9 : World} {v v9 : Value} {i : Nat} {al : Option Addr} {m : Mv} {am : Option Addr} {cm : Nat} {D : Nat → Md} (hlt : i < (lnOf l).length) (ex : (Sn.zero.all ((lnOf l).take i)).err (wsL (lnOf l) i) = 0) (en : (Sn.zero.all ((lnOf l).take i)).next (wsL (lnOf l) i) = ⟨(Sn.zero.all ((lnOf l).take i)).Z, (Sn.zero.all ((lnOf l).take i)).M ++ [m]⟩) (SW : PaS l w W v i al) (SX : PaS l w wx v i al) (bx : Below W.heap.size W wx) (R : Row8 wx am m.l cm m.b) (fr : ∀ y, am = some y → 0 < m.l → W.heap.size ≤ y.block) (L4 : Mc w wx 45 v (Sn.zero.all ((lnOf l).take i)).M.length (mvL (Sn.zero.all ((lnOf l).take i)).M) D) (O9 : w9.ownsRow w.heap.size 45 9 v9 ((Sn.zero.all ((lnOf l).take i)).M.length + 1) (fl (Sn.zero.all ((lnOf l).take i)).M.length (fun j => (mvL (Sn.zero.all ((lnOf l).take i)).M j).ls (D j)) ++ m.ls ⟨am, cm⟩)) (G9 : wx.grownBy w9 v.ownBlock) (E9 : v9.ownBlock = v.ownBlock ∨ v9.ownBlock = some wx.heap.size) : PaS l w w9 v9 (i + 1) al := by
  obtain ⟨ok1, st1⟩ := okA_next hlt SX.ok ex
  have own := OL.own L4
  obtain ⟨DW, hDW⟩ := SW.mv
  have ownW := OL.own hDW
  have hne : ∀ y, am = some y → 0 < m.l → some y.block ≠ v.ownBlock := fun y hy hn e => by
    have := (ownW.lt y.block e.symm).2
    have := fr y hy hn
    omega
  obtain ⟨D', hD'⟩ := mc_more (wr := wx) (w8 := wx) L4 R hne O9 G9 E9
  obtain ⟨H, h1, h2, h3, h4⟩ := SX.lo
  obtain ⟨a0, c0, a1, c1, k, p0, p1, n0, n1, b0, b1⟩ := h2.ex
  have kt : ∀ {b : Nat} {cs : Array Value}, Bk wx b cs 26 → Bk w9 b cs 26 := fun {b cs} hb => (G9.block b hb.lt (fun e => own_tyM (by decide) hb own e.symm)).trans hb
  have hH9 : ∀ k, v9.ownBlock = some k → H ≤ k := fun k hk => by
    rcases E9 with e | e
    · rw [e] at hk
      exact h3 k hk
    · rw [e] at hk
      cases hk
      exact h1
  have b9 : Below w.heap.size w w9 := SX.bel.grown G9 SX.bel.size (fun k hk => (own.lt k hk).1)
  refine ⟨ok1, ⟨H, Nat.le_trans h1 G9.size, ?_, hH9, h4⟩, ?_, fun q => ?_, kt SX.res, wsrow_grown SX.ln G9 h4 h3, b9⟩
  · rw [st1, en]
    exact ⟨a0, c0, a1, c1, kt k, prow_grown p0 G9 b0 h3, prow_grown p1 G9 b1 h3, n0, n1, b0, b1⟩
  · rw [st1, en]
    exact ⟨D', hD'⟩
  · rw [st1, en] at q
    simp at q
/-- The document's loop behind a net's line (and ahead of a move's, where the net is the same). -/
theorem pas_net {l : List UInt8} {w w5 w6 : World} {v : Value} {i j : Nat} {al : Option Addr} {Y : Nt} {x0 x1 : Option Addr} {e0 e1 : Nat} (S5 : PaS l w w5 v i al) (hM : (Sn.zero.all ((lnOf l).take i)).M.length = 0) (okj : Sn.zero.okA ((lnOf l).take j) = true) (eZ : (Sn.zero.all ((lnOf l).take j)).Z = Y) (eM : (Sn.zero.all ((lnOf l).take j)).M = (Sn.zero.all ((lnOf l).take i)).M) (os : Off [w.heap.size + 1] w5 w6) (k6 : Bk w6 (w.heap.size + 1) #[.slice x0 Y.l0 e0, .slice x1 Y.l1 e1, .int .u32 (Y.ms : Nat)] 26) (p0 : PRow w5 x0 Y.l0 Y.P0) (p1 : PRow w5 x1 Y.l1 Y.P1) (n0 : x0 = none → Y.l0 = 0 ∧ e0 = 0) (n1 : x1 = none → Y.l1 = 0 ∧ e1 = 0) : PaS l w w6 v j al := by
  have hv := S5.nil_ hM
  obtain ⟨H, h1, h2, h3, h4⟩ := S5.lo
  obtain ⟨a0, c0, a1, c1, kb, _⟩ := h2.ex
  have q0 := prow_off p0 os (b := w.heap.size + 1) (by simp) kb netcs.1
  have q1 := prow_off p1 os (b := w.heap.size + 1) (by simp) kb netcs.1
  have ql := wsrow_off S5.ln os (b := w.heap.size + 1) (by simp) kb netcs.2.2
  have b6 := os.below S5.bel (by simp) S5.bel.size
  have hM0 : (Sn.zero.all ((lnOf l).take j)).M.length = 0 := by rw [eM]; exact hM
  refine ⟨okj, ⟨w6.heap.size, Nat.le_refl _, ?_, ?_, wsrow_lt ql⟩, ⟨fun _ => ⟨none, 0⟩, ?_⟩, fun _ => hv, S5.res.off os (by simp), ql, b6⟩
  · rw [eZ]
    exact ⟨x0, e0, x1, e1, k6, q0, q1, n0, n1, prow_lt q0, prow_lt q1⟩
  · intro k hk
    rw [hv] at hk
    simp [Value.ownBlock] at hk
  · rw [hM0, hv]
    exact ⟨⟨by simp [fl], .inl ⟨rfl, rfl⟩⟩, b6, fun i hi => by omega, fun i hi => by omega⟩
set_option maxHeartbeats 8000000 in
theorem rparse (l : List UInt8) (hl : l.length ≤ 262144) (w : World) : Calls Tryd.prog 9 #[.string (tx l)] w (PaP (psSn l) (psBad l).1 (psBad l).2 w) := by
  have hRL : ∀ wx, Calls Tryd.prog 18 #[.string (tx l)] wx fun r w' => ∃ a c, r = .returned (.slice a (lnOf l).length c) ∧ Hid (WsRow w' a (lnOf l).length (wsL (lnOf l)) ∧ Below wx.heap.size wx w') := fun wx => by
    refine (rlines l (by omega) wx).mono ?_
    rintro r w' ⟨a, c, rfl, H⟩
    exact ⟨a, c, rfl, (own_txV rfl H.out.1).1, H.out.2⟩
  have hsz := lnOf_size l
  have hwl := wsL_len hsz.1
  have hXs : (tx l).size = l.length := tx_size l
  obtain ⟨X, hX⟩ : ∃ x, tx l = x := ⟨_, rfl⟩
  rw [hX] at hRL hXs ⊢
  have q0 : ¬ (262144 : Int) < ((X.size : Nat) : Int) := by omega
  have HSz : Hid (∀ i, (wsL (lnOf l) i).length ≤ 262144) := fun i => by have := hwl i; omega
  have bad : ∀ i, i < (lnOf l).length → Sn.zero.okA ((lnOf l).take i) = true → (Sn.zero.all ((lnOf l).take i)).err (wsL (lnOf l) i) ≠ 0 → ∀ w', Below w.heap.size w w' → PaP (psSn l) (psBad l).1 (psBad l).2 w (.returned (.tuple #[.agg #[.slice none 0 0, .slice none 0 0, .int .u32 0], .slice none 0 0, .int .i64 ((i + 1 : Nat) : Int), .int .i64 ((Sn.zero.all ((lnOf l).take i)).err (wsL (lnOf l) i))])) w' := fun i hi ok e w' b => by
    obtain ⟨h1, h2⟩ := bad_at hl hi ok e
    rw [h1, h2]
    exact PaP.none b
  have good : Sn.zero.okA (lnOf l) = true → ∀ a0 c0 a1 c1 am cm D w', PRow w' a0 (Sn.zero.all (lnOf l)).Z.l0 (Sn.zero.all (lnOf l)).Z.P0 → PRow w' a1 (Sn.zero.all (lnOf l)).Z.l1 (Sn.zero.all (lnOf l)).Z.P1 → MvRow w' am (Sn.zero.all (lnOf l)).M.length (mvL (Sn.zero.all (lnOf l)).M) D → Below w.heap.size w w' → PaP (psSn l) (psBad l).1 (psBad l).2 w (.returned (.tuple #[.agg #[.slice a0 (Sn.zero.all (lnOf l)).Z.l0 c0, .slice a1 (Sn.zero.all (lnOf l)).Z.l1 c1, .int .u32 ((Sn.zero.all (lnOf l)).Z.ms : Nat)], .slice am (Sn.zero.all (lnOf l)).M.length cm, .int .i64 0, .int .i64 0])) w' := fun ok a0 c0 a1 c1 am cm D w' r0 r1 r2 b => by
    obtain ⟨h1, h2⟩ := good_end hl ok
    rw [h1, h2]
    exact ⟨a0, c0, a1, c1, am, cm, D, rfl, r0, r1, r2, b⟩
  have HP : Hid (_) := And.intro bad good
  obtain ⟨nl, hnl⟩ : ∃ y, (lnOf l).length = y := ⟨_, rfl⟩
  rw [hnl] at hRL
  have HN : Hid ((lnOf l).length = nl ∧ nl ≤ 262145) := ⟨hnl, by have := hsz.2; omega⟩
  obtain ⟨SS, hSS⟩ : ∃ y, psSn l = y := ⟨_, rfl⟩
  obtain ⟨B1, hB1⟩ : ∃ y, (psBad l).1 = y := ⟨_, rfl⟩
  obtain ⟨B2, hB2⟩ : ∃ y, (psBad l).2 = y := ⟨_, rfl⟩
  rw [hSS, hB1, hB2] at HP ⊢
  have kR0 : Bk ((w.alloc (.cells #[.slice none 0 0, .slice none 0 0, .int .u32 0] 26)).alloc (.cells #[.slice none 0 0, .slice none 0 0, .int .u32 0] 26)) w.heap.size #[.slice none 0 0, .slice none 0 0, .int .u32 0] 26 := (Bk.new w _ _).off (l := []) (Off.alloc _ _ _) (by simp)
  have kN0 : Bk ((w.alloc (.cells #[.slice none 0 0, .slice none 0 0, .int .u32 0] 26)).alloc (.cells #[.slice none 0 0, .slice none 0 0, .int .u32 0] 26)) (w.heap.size + 1) #[.slice none 0 0, .slice none 0 0, .int .u32 0] 26 := at_new3 w _ _
  have bW := belA (belA (Below.refl _ w) (.cells #[.slice none 0 0, .slice none 0 0, .int .u32 0] 26)) (.cells #[.slice none 0 0, .slice none 0 0, .int .u32 0] 26)
  have hs1 : (w.alloc (.cells #[.slice none 0 0, .slice none 0 0, .int .u32 0] 26)).heap.size = w.heap.size + 1 := World.size_alloc _ _
  obtain ⟨W1, hW1⟩ : ∃ y, w.alloc (.cells #[.slice none 0 0, .slice none 0 0, .int .u32 0] 26) = y := ⟨_, rfl⟩
  rw [hW1] at kR0 kN0 bW hs1
  obtain ⟨W, hW⟩ : ∃ y, W1.alloc (.cells #[.slice none 0 0, .slice none 0 0, .int .u32 0] 26) = y := ⟨_, rfl⟩
  rw [hW] at kR0 kN0 bW
  have HK : Hid (_) := And.intro kR0 (And.intro kN0 bW)
  have HS1 : Hid (_) := hs1
  have HW : Hid (_) := hW
  clear hX hXs hsz hwl bad good hnl hSS hB1 hB2 kR0 kN0 bW hl hs1 hW
  go_enter Tryd.func9, Tryd.ntmps9
  go_upto_region 1 with fail
  try rw [hW1]
  clear hW1
  go_upto_region 4 with fail
  rw [HW.out, HS1.out]
  clear HW HS1
  go_wp2_with fail
  refine (hRL _).mono ?_
  rintro r w2 ⟨al, cl, rfl, H2⟩
  clear hRL
  have HS0 : Hid (PaS l w w2 (.slice none 0 0) 0 al) := by
    have kr := HK.out.1.off (Off.of_below (l := []) H2.out.2) (by simp)
    have kn := HK.out.2.1.off (Off.of_below (l := []) H2.out.2) (by simp)
    have b2 : Below w.heap.size w w2 := HK.out.2.2.trans (H2.out.2.mono HK.out.2.2.size)
    have ln2 : WsRow w2 al (lnOf l).length (wsL (lnOf l)) := by rw [HN.out.1]; exact H2.out.1
    exact ⟨rfl, ⟨w2.heap.size, Nat.le_refl _, ⟨none, 0, none, 0, kn, (fun i hi => by cases hi), (fun i hi => by cases hi), (fun _ => ⟨rfl, rfl⟩), (fun _ => ⟨rfl, rfl⟩), (fun x hx => by cases hx), (fun x hx => by cases hx)⟩, (fun k hk => by simp [Value.ownBlock] at hk), wsrow_lt ln2⟩, ⟨fun _ => ⟨none, 0⟩, ⟨⟨by simp [fl, Sn.all, Sn.zero], .inl ⟨rfl, rfl⟩⟩, b2, (fun i hi => by simp [Sn.all, Sn.zero] at hi), (fun i hi => by simp [Sn.all, Sn.zero] at hi)⟩⟩, fun _ => rfl, kr, ln2, b2⟩
  clear H2
  go_wp2_with fail
  clear q0
  go_loopw [7, 9, 10, 11, 12, 13, 14, 15, 23, 24, 25, 26, 27, 28, 29, 30, 31, 32, 33, 34, 35, 36, 37, 38, 39, 40, 41, 42, 43, 44, 45, 46, 47, 48, 49, 50, 51, 52, 53, 54, 55, 56, 57, 58, 59, 60, 61, 62, 63, 64, 65, 66, 67, 68, 69, 70, 71, 72, 73, 74, 75, 76, 77, 78] (fun v c _ _ _ _ _ _ _ _ _ _ _ _ _ _ _ _ _ _ _ _ _ _ _ _ _ _ _ _ _ _ _ _ _ _ _ _ _ _ _ _ _ _ _ _ _ _ _ _ _ _ _ _ _ _ _ _ _ _ _ _ _ _ wr => ∃ i : Nat, i ≤ nl ∧ c = .int .i64 ((i : Nat) : Int) ∧ Hid (PaS l w wr v i al)) (fun _ c _ _ _ _ _ _ _ _ _ _ _ _ _ _ _ _ _ _ _ _ _ _ _ _ _ _ _ _ _ _ _ _ _ _ _ _ _ _ _ _ _ _ _ _ _ _ _ _ _ _ _ _ _ _ _ _ _ _ _ _ _ _ _ => nl - natV c)
  case atStart => exact ⟨0, by omega, rfl, HS0⟩
  case round =>
    clear HS0
    obtain ⟨i, hi, rfl, HI⟩ := hrel
    by_cases hlt : i < nl
    · have hlt' : ((i : Nat) : Int) < ((nl : Nat) : Int) := by omega
      have hltL : i < (lnOf l).length := by rw [HN.out.1]; exact hlt
      obtain ⟨g, o, ea, cL⟩ := HI.out.ln i hltL
      subst ea
      obtain ⟨i1, hi1⟩ : ∃ y, i + 1 = y := ⟨_, rfl⟩
      have hadd : IntKind.i64.wrap (((i : Nat) : Int) + 1) = ((i1 : Nat) : Int) := by rw [IntKind.wrap_i64]; have := HN.out; omega
      have HE : Hid (i + 1 = i1) := hi1
      have hle := Sn.all_le Sn.zero ((lnOf l).take i)
      have lt_ := List.length_take (i := i) (l := lnOf l)
      have HLe : Hid ((Sn.zero.all ((lnOf l).take i)).Z.l0 ≤ 262145 ∧ (Sn.zero.all ((lnOf l).take i)).Z.l1 ≤ 262145 ∧ (Sn.zero.all ((lnOf l).take i)).M.length ≤ 262145) := by
        have := HN.out
        have z0 : Sn.zero.Z.l0 = 0 := rfl
        have z1 : Sn.zero.Z.l1 = 0 := rfl
        have z2 : Sn.zero.M.length = 0 := rfl
        exact ⟨by omega, by omega, by omega⟩
      have hxl := HSz.out i
      have errE : (Sn.zero.all ((lnOf l).take i)).err (wsL (lnOf l) i) = if 1024 < (wsL (lnOf l) i).length then 204 else if (wsOf (wsL (lnOf l) i)).length = 0 then 0 else if (Sn.zero.all ((lnOf l).take i)).M.length = 0 ∧ hdIs (wsOf (wsL (lnOf l) i)).length (wsL (wsOf (wsL (lnOf l) i))) = true then hdEr (wsOf (wsL (lnOf l) i)).length (wsL (wsOf (wsL (lnOf l) i))) else rdEr (wsOf (wsL (lnOf l) i)).length (wsL (wsOf (wsL (lnOf l) i))) := rfl
      have nxtE : (Sn.zero.all ((lnOf l).take i)).next (wsL (lnOf l) i) = if (wsOf (wsL (lnOf l) i)).length = 0 then Sn.zero.all ((lnOf l).take i) else if (Sn.zero.all ((lnOf l).take i)).M.length = 0 ∧ hdIs (wsOf (wsL (lnOf l) i)).length (wsL (wsOf (wsL (lnOf l) i))) = true then ⟨(Sn.zero.all ((lnOf l).take i)).Z.hd (wsOf (wsL (lnOf l) i)).length (wsL (wsOf (wsL (lnOf l) i))), (Sn.zero.all ((lnOf l).take i)).M⟩ else ⟨(Sn.zero.all ((lnOf l).take i)).Z, (Sn.zero.all ((lnOf l).take i)).M ++ [rdM (wsOf (wsL (lnOf l) i)).length (wsL (wsOf (wsL (lnOf l) i)))]⟩ := rfl
      have hB := HP.out.1 i hltL HI.out.ok
      rw [hi1] at hB
      have hWo : ∀ wx, Calls Tryd.prog 23 #[.string (tx (wsL (lnOf l) i))] wx fun r w' => ∃ a c, r = .returned (.slice a (wsOf (wsL (lnOf l) i)).length c) ∧ Hid (WsRow w' a (wsOf (wsL (lnOf l) i)).length (wsL (wsOf (wsL (lnOf l) i))) ∧ Below wx.heap.size wx w') := fun wx => by
        refine (rwords _ (by omega) wx).mono ?_
        rintro r w' ⟨a, c, rfl, H⟩
        exact ⟨a, c, rfl, (own_txV rfl H.out.1).1, H.out.2⟩
      have hRd : ∀ (aw : Option Addr) (c : Nat) (wx : World), WsRow wx aw (wsOf (wsL (lnOf l) i)).length (wsL (wsOf (wsL (lnOf l) i))) → Calls Tryd.prog 25 #[.slice aw (wsOf (wsL (lnOf l) i)).length c] wx (RdP (rdM (wsOf (wsL (lnOf l) i)).length (wsL (wsOf (wsL (lnOf l) i)))) (rdEr (wsOf (wsL (lnOf l) i)).length (wsL (wsOf (wsL (lnOf l) i)))) wx) := fun aw c wx p => rread aw _ c (by have := (wsOf_size (wsL (lnOf l) i)).2; omega) _ wx p
      have hHd : ∀ (a0 a1 : Option Addr) (c0 c1 : Nat) (aw : Option Addr) (c : Nat) (wx : World), (a0 = none → (Sn.zero.all ((lnOf l).take i)).Z.l0 = 0 ∧ c0 = 0) → (a1 = none → (Sn.zero.all ((lnOf l).take i)).Z.l1 = 0 ∧ c1 = 0) → PRow wx a0 (Sn.zero.all ((lnOf l).take i)).Z.l0 (Sn.zero.all ((lnOf l).take i)).Z.P0 → PRow wx a1 (Sn.zero.all ((lnOf l).take i)).Z.l1 (Sn.zero.all ((lnOf l).take i)).Z.P1 → WsRow wx aw (wsOf (wsL (lnOf l) i)).length (wsL (wsOf (wsL (lnOf l) i))) → Calls Tryd.prog 24 #[.agg #[.slice a0 (Sn.zero.all ((lnOf l).take i)).Z.l0 c0, .slice a1 (Sn.zero.all ((lnOf l).take i)).Z.l1 c1, .int .u32 ((Sn.zero.all ((lnOf l).take i)).Z.ms : Nat)], .slice aw (wsOf (wsL (lnOf l) i)).length c] wx (HrP ((Sn.zero.all ((lnOf l).take i)).Z.hd (wsOf (wsL (lnOf l) i)).length (wsL (wsOf (wsL (lnOf l) i)))) (hdIs (wsOf (wsL (lnOf l) i)).length (wsL (wsOf (wsL (lnOf l) i)))) (hdEr (wsOf (wsL (lnOf l) i)).length (wsL (wsOf (wsL (lnOf l) i)))) wx) := fun a0 a1 c0 c1 aw c wx p1 p2 p3 p4 p5 => rhead _ (by have := HLe.out; omega) (by have := HLe.out; omega) a0 a1 c0 c1 p1 p2 aw _ c _ wx p3 p4 p5
      have hdZ : hdIs (wsOf (wsL (lnOf l) i)).length (wsL (wsOf (wsL (lnOf l) i))) = false → (Sn.zero.all ((lnOf l).take i)).Z.hd (wsOf (wsL (lnOf l) i)).length (wsL (wsOf (wsL (lnOf l) i))) = (Sn.zero.all ((lnOf l).take i)).Z ∧ hdEr (wsOf (wsL (lnOf l) i)).length (wsL (wsOf (wsL (lnOf l) i))) = 0 := fun q => by
        unfold Nt.hd hdEr
        rw [q]
        exact ⟨rfl, rfl⟩
      have hokn := fun e => okA_next hltL HI.out.ok e
      obtain ⟨L, hL⟩ : ∃ y, wsL (wsOf (wsL (lnOf l) i)) = y := ⟨_, rfl⟩
      obtain ⟨N, hN⟩ : ∃ y, (wsOf (wsL (lnOf l) i)).length = y := ⟨_, rfl⟩
      rw [hL, hN] at errE nxtE hWo hRd hHd hdZ
      obtain ⟨m, hm⟩ : ∃ y, rdM N L = y := ⟨_, rfl⟩
      obtain ⟨re, hre⟩ : ∃ y, rdEr N L = y := ⟨_, rfl⟩
      obtain ⟨Y, hY⟩ : ∃ y, (Sn.zero.all ((lnOf l).take i)).Z.hd N L = y := ⟨_, rfl⟩
      obtain ⟨is, his⟩ : ∃ y, hdIs N L = y := ⟨_, rfl⟩
      obtain ⟨he, hhe⟩ : ∃ y, hdEr N L = y := ⟨_, rfl⟩
      rw [hre, his, hhe] at errE
      rw [hm, hY, his] at nxtE
      rw [hm, hre] at hRd
      rw [hY, his, hhe] at hHd hdZ
      obtain ⟨XL, hXL⟩ : ∃ y, tx (wsL (lnOf l) i) = y := ⟨_, rfl⟩
      have hXLs : XL.size = (wsL (lnOf l) i).length := by rw [← hXL]; exact tx_size _
      rw [hXL] at cL hWo
      have HRd : Hid (_) := hRd
      have HHd : Hid (_) := hHd
      have HF : Hid (_) := And.intro errE (And.intro nxtE (And.intro hB (And.intro hokn (And.intro hdZ (And.intro hltL hXLs)))))
      clear hRd hHd errE nxtE hB hokn hdZ hL hN hm hre hY his hhe hXL hxl hle lt_ hi1 hltL
      by_cases h1024 : 1024 < XL.size
      · have qL : (1024 : Int) < ((XL.size : Nat) : Int) := by omega
        have e204 : (Sn.zero.all ((lnOf l).take i)).err (wsL (lnOf l) i) = 204 := by rw [HF.out.1, if_pos (by have := HF.out.2.2.2.2.2.2; omega)]
        have HD : Hid (_) := HF.out.2.2.1 (by rw [e204]; decide)
        rw [e204] at HD
        have kr := HI.out.res
        have z0 : wr.cell? ⟨w.heap.size, 0, none⟩ = some (.slice none 0 0) := kr.cell 0
        have z1 : wr.cell? ⟨w.heap.size, 1, none⟩ = some (.slice none 0 0) := kr.cell 1
        have z2 : wr.cell? ⟨w.heap.size, 2, none⟩ = some (.int .u32 0) := kr.cell 2
        have fz := kr.fz
        have HBW : Hid (Below w.heap.size w wr) := HI.out.bel
        clear kr hWo h1024 hlt e204
        have HO : Hid (Off [w.heap.size] wr (((wr.setCell ⟨w.heap.size, 0, none⟩ (.slice none 0 0)).setCell ⟨w.heap.size, 1, none⟩ (.slice none 0 0)).setCell ⟨w.heap.size, 2, none⟩ (.int .u32 0))) := Off.trans (Off.trans (Off.setCell _ 0 _ _) (Off.setCell _ 1 _ _)) (Off.setCell _ 2 _ _)
        go_wp2_with fail
        refine bodyPost_ret (v := .tuple #[.agg #[.slice none 0 0, .slice none 0 0, .int .u32 0], .slice none 0 0, .int .i64 ((i1 : Nat) : Int), .int .i64 204]) (by simp [results, Tryd.results9, go_sem, z0, z1, z2]) rfl ?_
        exact HD.out _ (HO.out.below HBW.out (by simp) HBW.out.size)
      have qL : ¬ (1024 : Int) < ((XL.size : Nat) : Int) := by omega
      have n1024 : ¬ 1024 < (wsL (lnOf l) i).length := by have := HF.out.2.2.2.2.2.2; omega
      have HNL : Hid (_) := n1024
      clear h1024 n1024
      go_wp2_with fail
      refine (hWo _).mono ?_
      rintro r w3 ⟨aw, cw, rfl, H3⟩
      clear hWo cL qL
      have HSt : Hid (PaS l w w3 u7 i (some ⟨g, o, none⟩)) := HI.out.below H3.out.2
      have HWS : Hid (WsRow w3 aw N L) := H3.out.1
      clear HI H3
      by_cases hN0 : N = 0
      · have HN3 : Hid (PaS l w w3 u7 i1 (some ⟨g, o, none⟩)) := by
          have e0 : (Sn.zero.all ((lnOf l).take i)).err (wsL (lnOf l) i) = 0 := by rw [HF.out.1, if_neg HNL.out, if_pos hN0]
          obtain ⟨h1, h2⟩ := HF.out.2.2.2.1 e0
          rw [HF.out.2.1, if_pos hN0] at h2
          have S := HSt.out
          rw [← HE.out]
          exact ⟨h1, by rw [h2]; exact S.lo, by rw [h2]; exact S.mv, by rw [h2]; exact S.nil_, S.res, S.ln, S.bel⟩
        subst hN0
        clear HSt
        go_wp2_with fail
        go_roundw
        case rel => exact ⟨i1, by have := HE.out; omega, rfl, HN3⟩
        case measure =>
          have := HE.out
          simp [natV]
          omega
      have qN : (((N : Nat) : Int) == 0) = false := beq_eq_false_iff_ne.2 (by omega)
      by_cases hM0 : (Sn.zero.all ((lnOf l).take i)).M.length = 0
      · have hv := HSt.out.nil_ hM0
        subst hv
        have HM : Hid (_) := hM0
        obtain ⟨H, h1, h2, h3, h4⟩ := HSt.out.lo
        obtain ⟨a0, c0, a1, c1, kb, p0, p1, n0, n1, _, _⟩ := h2.ex
        have hH := HHd.out a0 a1 c0 c1 aw cw w3 n0 n1 p0 p1 HWS.out
        obtain ⟨ZZ, hZZ⟩ : ∃ y, (Sn.zero.all ((lnOf l).take i)).Z = y := ⟨_, rfl⟩
        rw [hZZ] at kb hH
        have y0 : w3.cell? ⟨w.heap.size + 1, 0, none⟩ = some (.slice a0 ZZ.l0 c0) := kb.cell 0
        have y1 : w3.cell? ⟨w.heap.size + 1, 1, none⟩ = some (.slice a1 ZZ.l1 c1) := kb.cell 1
        have y2 : w3.cell? ⟨w.heap.size + 1, 2, none⟩ = some (.int .u32 (ZZ.ms : Nat)) := kb.cell 2
        have HKb : Hid (_) := And.intro kb hZZ
        clear kb p0 p1 n0 n1 h1 h2 h3 h4 hZZ hM0
        go_wp2_with fail
        refine Calls.mono hH ?_
        rintro r w4 ⟨x0, e0, x1, e1, rfl, H4⟩
        clear hH y0 y1 y2
        have k5 := Bk.new w4 #[.slice x0 Y.l0 e0, .slice x1 Y.l1 e1, .int .u32 (Y.ms : Nat)] 26
        have b5 : Below w4.heap.size w4 (w4.alloc (.cells #[.slice x0 Y.l0 e0, .slice x1 Y.l1 e1, .int .u32 (Y.ms : Nat)] 26)) := belA (Below.refl _ w4) _
        obtain ⟨w5, hw5⟩ : ∃ y, w4.alloc (.cells #[.slice x0 Y.l0 e0, .slice x1 Y.l1 e1, .int .u32 (Y.ms : Nat)] 26) = y := ⟨_, rfl⟩
        rw [hw5] at k5 b5
        obtain ⟨bn, hbn⟩ : ∃ y, w4.heap.size = y := ⟨_, rfl⟩
        rw [hbn] at k5
        have q35 : Below w3.heap.size w3 w5 := H4.out.2.2.2.2.trans (b5.mono H4.out.2.2.2.2.size)
        have HS5 : Hid (PaS l w w5 (.slice none 0 0) i (some ⟨g, o, none⟩)) := HSt.out.below q35
        have HW5 : Hid (WsRow w5 aw N L) := HWS.out.below q35
        have HY5 : Hid (PRow w5 x0 Y.l0 Y.P0 ∧ PRow w5 x1 Y.l1 Y.P1 ∧ (x0 = none → Y.l0 = 0 ∧ e0 = 0) ∧ (x1 = none → Y.l1 = 0 ∧ e1 = 0)) := ⟨H4.out.1.below b5, H4.out.2.1.below b5, H4.out.2.2.1, H4.out.2.2.2.1⟩
        have HB5 : Hid (Bk w5 (w.heap.size + 1) #[.slice a0 ZZ.l0 c0, .slice a1 ZZ.l1 c1, .int .u32 (ZZ.ms : Nat)] 26 ∧ Bk w5 bn #[.slice x0 Y.l0 e0, .slice x1 Y.l1 e1, .int .u32 (Y.ms : Nat)] 26) := ⟨HKb.out.1.off (Off.of_below (l := []) q35) (by simp), k5⟩
        have HE5 : Hid (w4.alloc (.cells #[.slice x0 Y.l0 e0, .slice x1 Y.l1 e1, .int .u32 (Y.ms : Nat)] 26) = w5 ∧ w4.heap.size = bn) := ⟨hw5, hbn⟩
        clear hw5 hbn b5 q35 H4 k5 HSt HWS HKb
        go_upto_region 15 with fail
        rw [HE5.out.1, HE5.out.2]
        clear HE5
        by_cases he0 : he = 0
        rotate_left
        · have his : is = true := by
            cases e : is with
            | true => rfl
            | false => exact absurd (HF.out.2.2.2.2.1 e).2 he0
          have eE : (Sn.zero.all ((lnOf l).take i)).err (wsL (lnOf l) i) = he := by rw [HF.out.1, if_neg HNL.out, if_neg hN0, if_pos ⟨HM.out, his⟩]
          have qe : (he != 0) = true := by rw [bne_iff_ne]; exact he0
          have HD : Hid (_) := HF.out.2.2.1 (by rw [eE]; exact he0)
          rw [eE] at HD
          have kr := HS5.out.res
          have z0 : w5.cell? ⟨w.heap.size, 0, none⟩ = some (.slice none 0 0) := kr.cell 0
          have z1 : w5.cell? ⟨w.heap.size, 1, none⟩ = some (.slice none 0 0) := kr.cell 1
          have z2 : w5.cell? ⟨w.heap.size, 2, none⟩ = some (.int .u32 0) := kr.cell 2
          have fz := kr.fz
          have HBW : Hid (Below w.heap.size w w5) := HS5.out.bel
          clear kr eE HS5 HW5 HY5 HB5
          have HO : Hid (Off [w.heap.size] w5 (((w5.setCell ⟨w.heap.size, 0, none⟩ (.slice none 0 0)).setCell ⟨w.heap.size, 1, none⟩ (.slice none 0 0)).setCell ⟨w.heap.size, 2, none⟩ (.int .u32 0))) := Off.trans (Off.trans (Off.setCell _ 0 _ _) (Off.setCell _ 1 _ _)) (Off.setCell _ 2 _ _)
          go_wp2_with fail
          refine bodyPost_ret (v := .tuple #[.agg #[.slice none 0 0, .slice none 0 0, .int .u32 0], .slice none 0 0, .int .i64 ((i1 : Nat) : Int), .int .i64 he]) (by simp [results, Tryd.results9, go_sem, z0, z1, z2]) rfl ?_
          exact HD.out _ (HO.out.below HBW.out (by simp) HBW.out.size)
        subst he0
        have y0 : w5.cell? ⟨w.heap.size + 1, 0, none⟩ = some (.slice a0 ZZ.l0 c0) := HB5.out.1.cell 0
        have y1 : w5.cell? ⟨w.heap.size + 1, 1, none⟩ = some (.slice a1 ZZ.l1 c1) := HB5.out.1.cell 1
        have y2 : w5.cell? ⟨w.heap.size + 1, 2, none⟩ = some (.int .u32 (ZZ.ms : Nat)) := HB5.out.1.cell 2
        have fy := HB5.out.1.fz
        have v0 : w5.cell? ⟨bn, 0, none⟩ = some (.slice x0 Y.l0 e0) := HB5.out.2.cell 0
        have v1 : w5.cell? ⟨bn, 1, none⟩ = some (.slice x1 Y.l1 e1) := HB5.out.2.cell 1
        have v2 : w5.cell? ⟨bn, 2, none⟩ = some (.int .u32 (Y.ms : Nat)) := HB5.out.2.cell 2
        have O6 : Off [w.heap.size + 1] w5 (((w5.setCell ⟨w.heap.size + 1, 0, none⟩ (.slice x0 Y.l0 e0)).setCell ⟨w.heap.size + 1, 1, none⟩ (.slice x1 Y.l1 e1)).setCell ⟨w.heap.size + 1, 2, none⟩ (.int .u32 (Y.ms : Nat))) := Off.trans (Off.trans (Off.setCell _ 0 _ _) (Off.setCell _ 1 _ _)) (Off.setCell _ 2 _ _)
        have k6 : Bk (((w5.setCell ⟨w.heap.size + 1, 0, none⟩ (.slice x0 Y.l0 e0)).setCell ⟨w.heap.size + 1, 1, none⟩ (.slice x1 Y.l1 e1)).setCell ⟨w.heap.size + 1, 2, none⟩ (.int .u32 (Y.ms : Nat))) (w.heap.size + 1) #[.slice x0 Y.l0 e0, .slice x1 Y.l1 e1, .int .u32 (Y.ms : Nat)] 26 := ((HB5.out.1.set 0 _).set 1 _).set 2 _
        obtain ⟨w6, hw6⟩ : ∃ y, ((w5.setCell ⟨w.heap.size + 1, 0, none⟩ (.slice x0 Y.l0 e0)).setCell ⟨w.heap.size + 1, 1, none⟩ (.slice x1 Y.l1 e1)).setCell ⟨w.heap.size + 1, 2, none⟩ (.int .u32 (Y.ms : Nat)) = y := ⟨_, rfl⟩
        rw [hw6] at O6 k6
        have HWS : Hid (WsRow w6 aw N L) := wsrow_off HW5.out O6 (b := w.heap.size + 1) (by simp) HB5.out.1 netcs.2.2
        have HQ : Hid (∀ j, Sn.zero.okA ((lnOf l).take j) = true → (Sn.zero.all ((lnOf l).take j)).Z = Y → (Sn.zero.all ((lnOf l).take j)).M = (Sn.zero.all ((lnOf l).take i)).M → PaS l w w6 (.slice none 0 0) j (some ⟨g, o, none⟩)) := fun j q1 q2 q3 => pas_net HS5.out HM.out q1 q2 q3 O6 k6 HY5.out.1 HY5.out.2.1 HY5.out.2.2.1 HY5.out.2.2.2
        have HW6 : Hid (_) := hw6
        have HOk : Hid (_) := HS5.out.ok
        clear O6 k6 hw6 HY5 HW5 HB5 HS5
        go_upto_region 18 with fail
        rw [HW6.out]
        clear HW6 y0 y1 y2 fy v0 v1 v2
        cases his : is with
        | true =>
          have HN6 : Hid (PaS l w w6 (.slice none 0 0) i1 (some ⟨g, o, none⟩)) := by
            have eE : (Sn.zero.all ((lnOf l).take i)).err (wsL (lnOf l) i) = 0 := by rw [HF.out.1, if_neg HNL.out, if_neg hN0, if_pos ⟨HM.out, his⟩]
            obtain ⟨h1, h2⟩ := HF.out.2.2.2.1 eE
            rw [HF.out.2.1, if_neg hN0, if_pos ⟨HM.out, his⟩] at h2
            have hq := HQ.out (i + 1) h1 (by rw [h2]) (by rw [h2])
            rw [HE.out] at hq
            exact hq
          clear HQ HWS
          try subst his
          go_wp2_with fail
          go_roundw
          case rel => exact ⟨i1, by have := HE.out; omega, rfl, HN6⟩
          case measure =>
            have := HE.out
            simp [natV]
            omega
        | false =>
          have HSt : Hid (PaS l w w6 (.slice none 0 0) i (some ⟨g, o, none⟩)) := HQ.out i HOk.out (HF.out.2.2.2.2.1 his).1.symm rfl
          have HNo : Hid (¬ ((Sn.zero.all ((lnOf l).take i)).M.length = 0 ∧ is = true)) := fun q => by rw [his] at q; exact absurd q.2 (by decide)
          clear HQ
          have hR := HRd.out aw cw w6 HWS.out
          have HeR : Hid ((Sn.zero.all ((lnOf l).take i)).err (wsL (lnOf l) i) = re ∧ (Sn.zero.all ((lnOf l).take i)).next (wsL (lnOf l) i) = ⟨(Sn.zero.all ((lnOf l).take i)).Z, (Sn.zero.all ((lnOf l).take i)).M ++ [m]⟩) := ⟨by rw [HF.out.1, if_neg HNL.out, if_neg hN0, if_neg HNo.out], by rw [HF.out.2.1, if_neg hN0, if_neg HNo.out]⟩
          go_wp2_with fail
          refine Calls.mono hR ?_
          rintro r w7 ⟨am, cm, rfl, H7⟩
          clear hR
          have cr := range_new w7 (m.cs am cm) 45
          have b8 : Below w7.heap.size w7 (w7.alloc (.cells (m.cs am cm) 45)) := belA (Below.refl _ w7) _
          obtain ⟨w8, hw8⟩ : ∃ y, w7.alloc (.cells (m.cs am cm) 45) = y := ⟨_, rfl⟩
          rw [hw8] at cr b8
          obtain ⟨bm, hbm⟩ : ∃ y, w7.heap.size = y := ⟨_, rfl⟩
          rw [hbm] at cr
          have q78 : Below w6.heap.size w6 w8 := H7.out.2.1.trans (b8.mono H7.out.2.1.size)
          have HS8 : Hid (PaS l w w8 (.slice none 0 0) i (some ⟨g, o, none⟩)) := HSt.out.below q78
          have HR8 : Hid (Row8 w8 am m.l cm m.b ∧ (∀ y, am = some y → 0 < m.l → w6.heap.size ≤ y.block) ∧ Below w6.heap.size w6 w8) := ⟨H7.out.1.below b8, H7.out.2.2, q78⟩
          have HW8 : Hid (w7.alloc (.cells #[.int .i64 m.k, .int .i64 m.c, .int .i64 m.s, .int .i64 m.f, .int .i64 m.a, .int .u32 (m.w : Nat), .int .i64 m.n, .bool m.h, .slice am m.l cm] 45) = w8 ∧ w7.heap.size = bm) := ⟨hw8, hbm⟩
          have HCr : Hid (_) := cr
          clear hw8 hbm b8 q78 H7 cr
          go_upto_region 20 with fail
          rw [HW8.out.1, HW8.out.2]
          clear HW8
          by_cases hre0 : re = 0
          · subst hre0
            obtain ⟨D, hD⟩ := HS8.out.mv
            have bA : Below w8.heap.size w8 (w8.alloc (.cells (m.cs am cm) 45)) := belA (Below.refl _ w8) _
            have L4 := OL.below hD bA
            obtain ⟨A', hA'⟩ : ∃ z, m.cs am cm = z := ⟨_, rfl⟩
            have hbd : ∀ wx : World, (Instr.buildSlice 27 1 #[(0, .agg A')]).run Tryd.prog wx = .ok (.slice (some ⟨wx.heap.size, 0, none⟩) 1 1) (wx.alloc (.cells A' 45)) := by rw [← hA']; exact build1M m ⟨am, cm⟩
            have cA := HCr.out
            rw [hA'] at cA bA L4
            have iA : (Tryd.prog.info? 45).map (·.size) = some A'.size := by rw [← hA']; exact size_mv
            obtain ⟨i0, hi0, hz0, hz1, hz2⟩ := info_parts info_mv
            have src : ∀ j u, A'.toList[j]? = some u → (w8.alloc (.cells A' 45)).cell? ((⟨w8.heap.size, 0, none⟩ : Addr).add j) = some u := fun j u hu => by
              rw [Addr.add_mid]
              exact range_new w8 A' 45 j u hu
            have one : ∀ u ∈ A'.toList, u.oneCell' = true := by rw [← hA']; exact m.cs_one am cm
            have lA' : A'.toList.length = 1 * 9 := by rw [← hA']; rfl
            have hBw : w.heap.size ≤ (w8.alloc (.cells A' 45)).heap.size := Nat.le_trans HS8.out.bel.size bA.size
            have O4 := OL.own L4
            rw [HM.out] at O4
            have hb9 : (Sn.zero.all ((lnOf l).take i)).M.length ≤ 1000000 := by have := HLe.out; omega
            rw [HM.out] at hb9
            have HA : Hid (_) := And.intro L4 (And.intro hA' bA)
            clear hD bA L4 hA'
            go_wp2_with (first
              | refine wpList_loadA rfl 45 (.tmp 14) rfl bm 0 rfl A' _ cA Tryd.underlying45 rfl iA ?_
              | refine wpList_buildA rfl 27 (.tmp 76) rfl (.agg A') _ rfl (hbd w8) ?_
              | (at_builtin; refine wpList_append_own_at _ rfl _ _ 27 rfl w.heap.size 45 i0 (.agg #[.int .i64 0, .int .i64 0, .int .i64 0, .int .i64 0, .int .i64 0, .int .u32 0, .int .i64 0, .bool false, .slice none 0 0]) 9 88 Tryd.underlying27 hi0 hz0 hz1 hz2 rfl (by decide) (.slice none 0 0) 0 _ rfl O4 ⟨w8.heap.size, 0, none⟩ 1 1 A'.toList rfl lA' src one (by unfold maxLen; omega) (by omega) hBw ?_)
              | fail)
            intro v9 w9 O9 G9 _ E9
            have HN9 : Hid (PaS l w w9 v9 i1 (some ⟨g, o, none⟩)) := by
              have hh := pas_read HF.out.2.2.2.2.2.1 HeR.out.1 HeR.out.2 HSt.out (HS8.out.below HA.out.2.2) (HR8.out.2.2.trans (HA.out.2.2.mono HR8.out.2.2.size)) (HR8.out.1.below HA.out.2.2) HR8.out.2.1 HA.out.1 (by rw [HM.out, show m.ls ⟨am, cm⟩ = A'.toList from by rw [← HA.out.2.1]; rfl]; exact O9) G9 (by simpa using E9)
              rw [HE.out] at hh
              exact hh
            obtain ⟨x9, y9, rfl, _⟩ := own_slcM O9
            clear O9 G9 E9 O4 src one hBw hi0 hz0 hz1 hz2 HA cA iA hbd lA' HCr HR8 HS8 HeR HSt HWS
            go_wp2_with fail
            go_roundw
            case rel => exact ⟨i1, by have := HE.out; omega, rfl, HN9⟩
            case measure =>
              have := HE.out
              simp [natV]
              omega
          · have qe : (re != 0) = true := by rw [bne_iff_ne]; exact hre0
            have HD : Hid (_) := HF.out.2.2.1 (by rw [HeR.out.1]; exact hre0)
            rw [HeR.out.1] at HD
            have kr := HS8.out.res
            have z0 : w8.cell? ⟨w.heap.size, 0, none⟩ = some (.slice none 0 0) := kr.cell 0
            have z1 : w8.cell? ⟨w.heap.size, 1, none⟩ = some (.slice none 0 0) := kr.cell 1
            have z2 : w8.cell? ⟨w.heap.size, 2, none⟩ = some (.int .u32 0) := kr.cell 2
            have fz := kr.fz
            have HBW : Hid (Below w.heap.size w w8) := HS8.out.bel
            clear kr HCr HR8 HS8 HeR HSt HWS
            have HO : Hid (Off [w.heap.size] w8 (((w8.setCell ⟨w.heap.size, 0, none⟩ (.slice none 0 0)).setCell ⟨w.heap.size, 1, none⟩ (.slice none 0 0)).setCell ⟨w.heap.size, 2, none⟩ (.int .u32 0))) := Off.trans (Off.trans (Off.setCell _ 0 _ _) (Off.setCell _ 1 _ _)) (Off.setCell _ 2 _ _)
            go_wp2_with fail
            refine bodyPost_ret (v := .tuple #[.agg #[.slice none 0 0, .slice none 0 0, .int .u32 0], .slice none 0 0, .int .i64 ((i1 : Nat) : Int), .int .i64 re]) (by simp [results, Tryd.results9, go_sem, z0, z1, z2]) rfl ?_
            exact HD.out _ (HO.out.below HBW.out (by simp) HBW.out.size)
      obtain ⟨D0, hD0⟩ := HSt.out.mv
      obtain ⟨av, cv, ev, hr0⟩ := Mc.rows hD0
      obtain ⟨nm, hnm⟩ : ∃ y, (Sn.zero.all ((lnOf l).take i)).M.length = y := ⟨_, rfl⟩
      rw [hnm] at ev hM0
      subst ev
      have HM : Hid (_) := hnm
      have qM : (((nm : Nat) : Int) == 0) = false := beq_eq_false_iff_ne.2 (by omega)
      have HNo : Hid (¬ ((Sn.zero.all ((lnOf l).take i)).M.length = 0 ∧ is = true)) := fun q => hM0 (by rw [← HM.out]; exact q.1)
      clear hnm hD0 hr0
      have hR := HRd.out aw cw w3 HWS.out
      have HeR : Hid ((Sn.zero.all ((lnOf l).take i)).err (wsL (lnOf l) i) = re ∧ (Sn.zero.all ((lnOf l).take i)).next (wsL (lnOf l) i) = ⟨(Sn.zero.all ((lnOf l).take i)).Z, (Sn.zero.all ((lnOf l).take i)).M ++ [m]⟩) := ⟨by rw [HF.out.1, if_neg HNL.out, if_neg hN0, if_neg HNo.out], by rw [HF.out.2.1, if_neg hN0, if_neg HNo.out]⟩
      go_wp2_with fail
      refine Calls.mono hR ?_
      rintro r w7 ⟨am, cm, rfl, H7⟩
      clear hR
      have cr := range_new w7 (m.cs am cm) 45
      have b8 : Below w7.heap.size w7 (w7.alloc (.cells (m.cs am cm) 45)) := belA (Below.refl _ w7) _
      obtain ⟨w8, hw8⟩ : ∃ y, w7.alloc (.cells (m.cs am cm) 45) = y := ⟨_, rfl⟩
      rw [hw8] at cr b8
      obtain ⟨bm, hbm⟩ : ∃ y, w7.heap.size = y := ⟨_, rfl⟩
      rw [hbm] at cr
      have q78 : Below w3.heap.size w3 w8 := H7.out.2.1.trans (b8.mono H7.out.2.1.size)
      have HS8 : Hid (PaS l w w8 (.slice av nm cv) i (some ⟨g, o, none⟩)) := HSt.out.below q78
      have HR8 : Hid (Row8 w8 am m.l cm m.b ∧ (∀ y, am = some y → 0 < m.l → w3.heap.size ≤ y.block) ∧ Below w3.heap.size w3 w8) := ⟨H7.out.1.below b8, H7.out.2.2, q78⟩
      have HW8 : Hid (w7.alloc (.cells #[.int .i64 m.k, .int .i64 m.c, .int .i64 m.s, .int .i64 m.f, .int .i64 m.a, .int .u32 (m.w : Nat), .int .i64 m.n, .bool m.h, .slice am m.l cm] 45) = w8 ∧ w7.heap.size = bm) := ⟨hw8, hbm⟩
      have HCr : Hid (_) := cr
      clear hw8 hbm b8 q78 H7 cr
      go_upto_region 20 with fail
      rw [HW8.out.1, HW8.out.2]
      clear HW8
      by_cases hre0 : re = 0
      · subst hre0
        obtain ⟨D, hD⟩ := HS8.out.mv
        have bA : Below w8.heap.size w8 (w8.alloc (.cells (m.cs am cm) 45)) := belA (Below.refl _ w8) _
        have L4 := OL.below hD bA
        obtain ⟨A', hA'⟩ : ∃ z, m.cs am cm = z := ⟨_, rfl⟩
        have hbd : ∀ wx : World, (Instr.buildSlice 27 1 #[(0, .agg A')]).run Tryd.prog wx = .ok (.slice (some ⟨wx.heap.size, 0, none⟩) 1 1) (wx.alloc (.cells A' 45)) := by rw [← hA']; exact build1M m ⟨am, cm⟩
        have cA := HCr.out
        rw [hA'] at cA bA L4
        have iA : (Tryd.prog.info? 45).map (·.size) = some A'.size := by rw [← hA']; exact size_mv
        obtain ⟨i0, hi0, hz0, hz1, hz2⟩ := info_parts info_mv
        have src : ∀ j u, A'.toList[j]? = some u → (w8.alloc (.cells A' 45)).cell? ((⟨w8.heap.size, 0, none⟩ : Addr).add j) = some u := fun j u hu => by
          rw [Addr.add_mid]
          exact range_new w8 A' 45 j u hu
        have one : ∀ u ∈ A'.toList, u.oneCell' = true := by rw [← hA']; exact m.cs_one am cm
        have lA' : A'.toList.length = 1 * 9 := by rw [← hA']; rfl
        have hBw : w.heap.size ≤ (w8.alloc (.cells A' 45)).heap.size := Nat.le_trans HS8.out.bel.size bA.size
        have O4 := OL.own L4
        rw [HM.out] at O4
        have hb9 : (Sn.zero.all ((lnOf l).take i)).M.length ≤ 1000000 := by have := HLe.out; omega
        rw [HM.out] at hb9
        have HA : Hid (_) := And.intro L4 (And.intro hA' bA)
        clear hD bA L4 hA'
        go_wp2_with (first
          | refine wpList_loadA rfl 45 (.tmp 14) rfl bm 0 rfl A' _ cA Tryd.underlying45 rfl iA ?_
          | refine wpList_buildA rfl 27 (.tmp 76) rfl (.agg A') _ rfl (hbd w8) ?_
          | (at_builtin; refine wpList_append_own_at _ rfl _ _ 27 rfl w.heap.size 45 i0 (.agg #[.int .i64 0, .int .i64 0, .int .i64 0, .int .i64 0, .int .i64 0, .int .u32 0, .int .i64 0, .bool false, .slice none 0 0]) 9 88 Tryd.underlying27 hi0 hz0 hz1 hz2 rfl (by decide) (.slice av nm cv) nm _ rfl O4 ⟨w8.heap.size, 0, none⟩ 1 1 A'.toList rfl lA' src one (by unfold maxLen; omega) (by omega) hBw ?_)
          | fail)
        intro v9 w9 O9 G9 _ E9
        have HN9 : Hid (PaS l w w9 v9 i1 (some ⟨g, o, none⟩)) := by
          have hh := pas_read HF.out.2.2.2.2.2.1 HeR.out.1 HeR.out.2 HSt.out (HS8.out.below HA.out.2.2) (HR8.out.2.2.trans (HA.out.2.2.mono HR8.out.2.2.size)) (HR8.out.1.below HA.out.2.2) HR8.out.2.1 HA.out.1 (by rw [HM.out, show m.ls ⟨am, cm⟩ = A'.toList from by rw [← HA.out.2.1]; rfl]; exact O9) G9 (by simpa using E9)
          rw [HE.out] at hh
          exact hh
        obtain ⟨x9, y9, rfl, _⟩ := own_slcM O9
        clear O9 G9 E9 O4 src one hBw hi0 hz0 hz1 hz2 HA cA iA hbd lA' HCr HR8 HS8 HeR HSt HWS
        go_wp2_with fail
        go_roundw
        case rel => exact ⟨i1, by have := HE.out; omega, rfl, HN9⟩
        case measure =>
          have := HE.out
          simp [natV]
          omega
      · have qe : (re != 0) = true := by rw [bne_iff_ne]; exact hre0
        have HD : Hid (_) := HF.out.2.2.1 (by rw [HeR.out.1]; exact hre0)
        rw [HeR.out.1] at HD
        have kr := HS8.out.res
        have z0 : w8.cell? ⟨w.heap.size, 0, none⟩ = some (.slice none 0 0) := kr.cell 0
        have z1 : w8.cell? ⟨w.heap.size, 1, none⟩ = some (.slice none 0 0) := kr.cell 1
        have z2 : w8.cell? ⟨w.heap.size, 2, none⟩ = some (.int .u32 0) := kr.cell 2
        have fz := kr.fz
        have HBW : Hid (Below w.heap.size w w8) := HS8.out.bel
        clear kr HCr HR8 HS8 HeR HSt HWS
        have HO : Hid (Off [w.heap.size] w8 (((w8.setCell ⟨w.heap.size, 0, none⟩ (.slice none 0 0)).setCell ⟨w.heap.size, 1, none⟩ (.slice none 0 0)).setCell ⟨w.heap.size, 2, none⟩ (.int .u32 0))) := Off.trans (Off.trans (Off.setCell _ 0 _ _) (Off.setCell _ 1 _ _)) (Off.setCell _ 2 _ _)
        go_wp2_with fail
        refine bodyPost_ret (v := .tuple #[.agg #[.slice none 0 0, .slice none 0 0, .int .u32 0], .slice none 0 0, .int .i64 ((i1 : Nat) : Int), .int .i64 re]) (by simp [results, Tryd.results9, go_sem, z0, z1, z2]) rfl ?_
        exact HD.out _ (HO.out.below HBW.out (by simp) HBW.out.size)
    · obtain rfl : i = nl := by omega
      have hlt' : ¬ ((i : Nat) : Int) < ((i : Nat) : Int) := by omega
      have tk : (lnOf l).take i = lnOf l := List.take_of_length_le (by rw [HN.out.1]; exact Nat.le_refl _)
      have S := HI.out
      obtain ⟨D, hD⟩ := S.mv
      obtain ⟨H, h1, h2, h3, h4⟩ := S.lo
      obtain ⟨a0, c0, a1, c1, kb, p0, p1, n0, n1, _, _⟩ := h2.ex
      have ok := S.ok
      have kr := S.res
      have bl := S.bel
      rw [tk] at hD kb p0 p1 ok
      have hG := HP.out.2 ok
      obtain ⟨SA, hSA⟩ : ∃ y, Sn.zero.all (lnOf l) = y := ⟨_, rfl⟩
      rw [hSA] at hG hD kb p0 p1
      have HO : Hid (Off [w.heap.size] wr (((wr.setCell ⟨w.heap.size, 0, none⟩ (.slice a0 SA.Z.l0 c0)).setCell ⟨w.heap.size, 1, none⟩ (.slice a1 SA.Z.l1 c1)).setCell ⟨w.heap.size, 2, none⟩ (.int .u32 (SA.Z.ms : Nat)))) := Off.trans (Off.trans (Off.setCell _ 0 _ _) (Off.setCell _ 1 _ _)) (Off.setCell _ 2 _ _)
      obtain ⟨am, cm, ev, hrow⟩ := mc_rows_off (ms := 0) hD HO.out kr
      have q0 := prow_off p0 HO.out (b := w.heap.size) (by simp) kr (netcs (ms := 0)).1
      have q1 := prow_off p1 HO.out (b := w.heap.size) (by simp) kr (netcs (ms := 0)).1
      have HG : Hid (_) := hG a0 c0 a1 c1 am cm D _ q0 q1 hrow (HO.out.below bl (by simp) bl.size)
      subst ev
      obtain ⟨ML, hML⟩ : ∃ y, SA.M.length = y := ⟨_, rfl⟩
      rw [hML] at HG
      try rw [hML]
      have z0 : wr.cell? ⟨w.heap.size, 0, none⟩ = some (.slice none 0 0) := kr.cell 0
      have z1 : wr.cell? ⟨w.heap.size, 1, none⟩ = some (.slice none 0 0) := kr.cell 1
      have z2 : wr.cell? ⟨w.heap.size, 2, none⟩ = some (.int .u32 0) := kr.cell 2
      have fz := kr.fz
      have y0 : wr.cell? ⟨w.heap.size + 1, 0, none⟩ = some (.slice a0 SA.Z.l0 c0) := kb.cell 0
      have y1 : wr.cell? ⟨w.heap.size + 1, 1, none⟩ = some (.slice a1 SA.Z.l1 c1) := kb.cell 1
      have y2 : wr.cell? ⟨w.heap.size + 1, 2, none⟩ = some (.int .u32 (SA.Z.ms : Nat)) := kb.cell 2
      clear kr kb p0 p1 n0 n1 hD hG S h1 h2 h3 h4 ok bl q0 q1 hrow HO tk hSA hML HI hlt
      go_wp2_with fail
      refine bodyPost_ret (v := .tuple #[.agg #[.slice a0 SA.Z.l0 c0, .slice a1 SA.Z.l1 c1, .int .u32 (SA.Z.ms : Nat)], .slice am ML cm, .int .i64 0, .int .i64 0]) (by simp [results, Tryd.results9, go_sem, z0, z1, z2]) rfl ?_
      exact HG.out
end Go.Proofs.YtnmnjcjfgbpkaaaDoor

