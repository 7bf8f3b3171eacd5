/- Part 30 of the texts on which the proofs of layer 13 rest: contracts of Go functions. -/
import Derived.OpenShut
import Derived.Deep.RegionWith
import Derived.Deep.DeepCutAuto
import Derived.RegionTactic
import Derived.Test.YtndjepeolamedaaGreatPkA04
import Derived.Test.YtndjepeolamedaaGreatPkA16
import Derived.Test.YtndjepeolamedaaGreatPkA19
import Derived.Test.YtndjepeolamedaaGreatPkA27
import Derived.Test.YtndjepeolamedaaGreatPkA28
namespace Go.Proofs.YtndjepeolamedaaGreat
set_option maxRecDepth 100000
open Go.RowKit
set_option maxHeartbeats 1600000 in
theorem hrsend_any (d : Nat) (P : Pm) (U : List Nat) (s : Sh) (w : World) (h : RVh w d P U s) (hv : Ih P s) (hL : s.L.length < 800000) :
    Calls Tryz.prog 39 #[.pointer (some ⟨d, 0, none⟩)] w fun e w' => ∃ v, e = .returned (.tuple #[v, .int .i64 (hsendE s)]) ∧ Hid (OutRh U w w' d P (hsendS P s) (hsendF P s) v) := by
  by_cases h5 : s.st = 5
  · obtain ⟨B, x⟩ := id h
    have c15 : w.cell? ⟨d, 15, none⟩ = some (.int .i64 (s.st : Nat)) := cell_of_row w d 15 _ _ _ x.dev
    rw [h5] at c15
    have e1 : hsendE s = 132 := if_pos h5
    have e2 : hsendS P s = s := if_pos h5
    have e3 : hsendF P s = fm0 := if_pos h5
    rw [e1, e2, e3]
    have H : Hid (_) := h
    clear h x hv hL h5 e1 e2 e3
    go_enter Tryz.func39, Tryz.ntmps39
    go_wp2_with fail
    go_ret2
    exact ⟨_, rfl, U, Gr.refl _ _, H.out, own_nil _ _ _, fun k hk => by cases hk⟩
  · obtain ⟨e1, e2, e3⟩ := hsend_eq P s h5
    rw [e1, e2, e3]
    have hst := hv.st1
    have hs5 := hv.st5
    have c : s.st = 1 ∨ s.st = 2 ∨ s.st = 3 ∨ s.st = 4 := by omega
    rcases c with c | c | c | c
    · exact hsend1 d P U s w h hv hL c
    · by_cases hw : s.wt = false
      · exact hsend2n d P U s w h hv hL c hw
      · by_cases hm : s.ms + 1 < 4
        · exact hsend2m d P U s w h hv hL c (by simpa using hw) hm
        · exact hsend2g d P U s w h hv hL c (by simpa using hw) hm
    · by_cases hw : s.wt = false
      · exact hsend3n d P U s w h hv hL c hw
      · by_cases hm : s.ms + 1 < 4
        · exact hsend3m d P U s w h hv hL c (by simpa using hw) hm
        · exact hsend3g d P U s w h hv hL c (by simpa using hw) hm
    · by_cases hw : s.wt = false
      · by_cases he : s.sn + 1 = P.n
        · exact hsend4ne d P U s w h hv hL c he hw
        · exact hsend4nd d P U s w h hv hL c he hw
      · by_cases hm : s.ms + 1 < 4
        · by_cases he : s.sn + 1 = P.n
          · exact hsend4me d P U s w h hv hL c he (by simpa using hw) hm
          · exact hsend4md d P U s w h hv hL c he (by simpa using hw) hm
        · exact hsend4g d P U s w h hv hL c (by simpa using hw) hm
end Go.Proofs.YtndjepeolamedaaGreat
namespace Go.Proofs.YtndjepeolamedaaGreat
set_option maxRecDepth 100000
open Go.RowKit
theorem hlifeZ {w : World} {d : Nat} {P : Pm} (h : w.heap[d]? = some (.cells #[.int .u32 (P.c : Nat), .int .i64 (P.o : Nat), .int .i64 (P.i : Nat), .int .i64 (P.t : Nat), .int .u32 (P.n : Nat), .slice none 0 0, .int .i64 0, .int .i64 0, .int .i64 0, .bool false, .bool false, .bool false, .int .i64 0, .slice none 0 0, .bool false, .int .i64 0, .int .u32 0, .int .u32 0, .int .u32 0, .bool false, .int .i64 0, .slice none 0 0, .bool false] 149 (0, 0))) :
    (((((((((((((((w.setCell ⟨d, 6, none⟩ (.int .i64 (P.t : Nat))).setCell ⟨d, 7, none⟩ (.int .i64 0)).setCell ⟨d, 8, none⟩ (.int .i64 (P.i : Nat))).setCell ⟨d, 9, none⟩ (.bool false)).setCell ⟨d, 10, none⟩ (.bool false)).setCell ⟨d, 11, none⟩ (.bool false)).setCell ⟨d, 12, none⟩ (.int .i64 0)).setCell ⟨d, 13, none⟩ (.slice none 0 0)).setCell ⟨d, 14, none⟩ (.bool false)).setCell ⟨d, 15, none⟩ (.int .i64 1)).setCell ⟨d, 16, none⟩ (.int .u32 0)).setCell ⟨d, 17, none⟩ (.int .u32 0)).setCell ⟨d, 18, none⟩ (.int .u32 0)).setCell ⟨d, 19, none⟩ (.bool false)).setCell ⟨d, 20, none⟩ (.int .i64 0)).heap[d]? = some (.cells (RHC P (.slice none 0 0) (.slice none 0 0) hnew (.slice none 0 0)) 149 (0, 0)) ∧ Off [d] w (((((((((((((((w.setCell ⟨d, 6, none⟩ (.int .i64 (P.t : Nat))).setCell ⟨d, 7, none⟩ (.int .i64 0)).setCell ⟨d, 8, none⟩ (.int .i64 (P.i : Nat))).setCell ⟨d, 9, none⟩ (.bool false)).setCell ⟨d, 10, none⟩ (.bool false)).setCell ⟨d, 11, none⟩ (.bool false)).setCell ⟨d, 12, none⟩ (.int .i64 0)).setCell ⟨d, 13, none⟩ (.slice none 0 0)).setCell ⟨d, 14, none⟩ (.bool false)).setCell ⟨d, 15, none⟩ (.int .i64 1)).setCell ⟨d, 16, none⟩ (.int .u32 0)).setCell ⟨d, 17, none⟩ (.int .u32 0)).setCell ⟨d, 18, none⟩ (.int .u32 0)).setCell ⟨d, 19, none⟩ (.bool false)).setCell ⟨d, 20, none⟩ (.int .i64 0)) := by
  have e0 : (w.setCell ⟨d, 6, none⟩ (.int .i64 (P.t : Nat))).heap[d]? = some (.cells #[.int .u32 (P.c : Nat), .int .i64 (P.o : Nat), .int .i64 (P.i : Nat), .int .i64 (P.t : Nat), .int .u32 (P.n : Nat), .slice none 0 0, .int .i64 (P.t : Nat), .int .i64 0, .int .i64 0, .bool false, .bool false, .bool false, .int .i64 0, .slice none 0 0, .bool false, .int .i64 0, .int .u32 0, .int .u32 0, .int .u32 0, .bool false, .int .i64 0, .slice none 0 0, .bool false] 149 (0, 0)) := heap_setCell_same _ _ _ _ _ _ h
  have e1 : ((w.setCell ⟨d, 6, none⟩ (.int .i64 (P.t : Nat))).setCell ⟨d, 7, none⟩ (.int .i64 0)).heap[d]? = some (.cells #[.int .u32 (P.c : Nat), .int .i64 (P.o : Nat), .int .i64 (P.i : Nat), .int .i64 (P.t : Nat), .int .u32 (P.n : Nat), .slice none 0 0, .int .i64 (P.t : Nat), .int .i64 0, .int .i64 0, .bool false, .bool false, .bool false, .int .i64 0, .slice none 0 0, .bool false, .int .i64 0, .int .u32 0, .int .u32 0, .int .u32 0, .bool false, .int .i64 0, .slice none 0 0, .bool false] 149 (0, 0)) := heap_setCell_same _ _ _ _ _ _ e0
  have e2 : (((w.setCell ⟨d, 6, none⟩ (.int .i64 (P.t : Nat))).setCell ⟨d, 7, none⟩ (.int .i64 0)).setCell ⟨d, 8, none⟩ (.int .i64 (P.i : Nat))).heap[d]? = some (.cells #[.int .u32 (P.c : Nat), .int .i64 (P.o : Nat), .int .i64 (P.i : Nat), .int .i64 (P.t : Nat), .int .u32 (P.n : Nat), .slice none 0 0, .int .i64 (P.t : Nat), .int .i64 0, .int .i64 (P.i : Nat), .bool false, .bool false, .bool false, .int .i64 0, .slice none 0 0, .bool false, .int .i64 0, .int .u32 0, .int .u32 0, .int .u32 0, .bool false, .int .i64 0, .slice none 0 0, .bool false] 149 (0, 0)) := heap_setCell_same _ _ _ _ _ _ e1
  have e3 : ((((w.setCell ⟨d, 6, none⟩ (.int .i64 (P.t : Nat))).setCell ⟨d, 7, none⟩ (.int .i64 0)).setCell ⟨d, 8, none⟩ (.int .i64 (P.i : Nat))).setCell ⟨d, 9, none⟩ (.bool false)).heap[d]? = some (.cells #[.int .u32 (P.c : Nat), .int .i64 (P.o : Nat), .int .i64 (P.i : Nat), .int .i64 (P.t : Nat), .int .u32 (P.n : Nat), .slice none 0 0, .int .i64 (P.t : Nat), .int .i64 0, .int .i64 (P.i : Nat), .bool false, .bool false, .bool false, .int .i64 0, .slice none 0 0, .bool false, .int .i64 0, .int .u32 0, .int .u32 0, .int .u32 0, .bool false, .int .i64 0, .slice none 0 0, .bool false] 149 (0, 0)) := heap_setCell_same _ _ _ _ _ _ e2
  have e4 : (((((w.setCell ⟨d, 6, none⟩ (.int .i64 (P.t : Nat))).setCell ⟨d, 7, none⟩ (.int .i64 0)).setCell ⟨d, 8, none⟩ (.int .i64 (P.i : Nat))).setCell ⟨d, 9, none⟩ (.bool false)).setCell ⟨d, 10, none⟩ (.bool false)).heap[d]? = some (.cells #[.int .u32 (P.c : Nat), .int .i64 (P.o : Nat), .int .i64 (P.i : Nat), .int .i64 (P.t : Nat), .int .u32 (P.n : Nat), .slice none 0 0, .int .i64 (P.t : Nat), .int .i64 0, .int .i64 (P.i : Nat), .bool false, .bool false, .bool false, .int .i64 0, .slice none 0 0, .bool false, .int .i64 0, .int .u32 0, .int .u32 0, .int .u32 0, .bool false, .int .i64 0, .slice none 0 0, .bool false] 149 (0, 0)) := heap_setCell_same _ _ _ _ _ _ e3
  have e5 : ((((((w.setCell ⟨d, 6, none⟩ (.int .i64 (P.t : Nat))).setCell ⟨d, 7, none⟩ (.int .i64 0)).setCell ⟨d, 8, none⟩ (.int .i64 (P.i : Nat))).setCell ⟨d, 9, none⟩ (.bool false)).setCell ⟨d, 10, none⟩ (.bool false)).setCell ⟨d, 11, none⟩ (.bool false)).heap[d]? = some (.cells #[.int .u32 (P.c : Nat), .int .i64 (P.o : Nat), .int .i64 (P.i : Nat), .int .i64 (P.t : Nat), .int .u32 (P.n : Nat), .slice none 0 0, .int .i64 (P.t : Nat), .int .i64 0, .int .i64 (P.i : Nat), .bool false, .bool false, .bool false, .int .i64 0, .slice none 0 0, .bool false, .int .i64 0, .int .u32 0, .int .u32 0, .int .u32 0, .bool false, .int .i64 0, .slice none 0 0, .bool false] 149 (0, 0)) := heap_setCell_same _ _ _ _ _ _ e4
  have e6 : (((((((w.setCell ⟨d, 6, none⟩ (.int .i64 (P.t : Nat))).setCell ⟨d, 7, none⟩ (.int .i64 0)).setCell ⟨d, 8, none⟩ (.int .i64 (P.i : Nat))).setCell ⟨d, 9, none⟩ (.bool false)).setCell ⟨d, 10, none⟩ (.bool false)).setCell ⟨d, 11, none⟩ (.bool false)).setCell ⟨d, 12, none⟩ (.int .i64 0)).heap[d]? = some (.cells #[.int .u32 (P.c : Nat), .int .i64 (P.o : Nat), .int .i64 (P.i : Nat), .int .i64 (P.t : Nat), .int .u32 (P.n : Nat), .slice none 0 0, .int .i64 (P.t : Nat), .int .i64 0, .int .i64 (P.i : Nat), .bool false, .bool false, .bool false, .int .i64 0, .slice none 0 0, .bool false, .int .i64 0, .int .u32 0, .int .u32 0, .int .u32 0, .bool false, .int .i64 0, .slice none 0 0, .bool false] 149 (0, 0)) := heap_setCell_same _ _ _ _ _ _ e5
  have e7 : ((((((((w.setCell ⟨d, 6, none⟩ (.int .i64 (P.t : Nat))).setCell ⟨d, 7, none⟩ (.int .i64 0)).setCell ⟨d, 8, none⟩ (.int .i64 (P.i : Nat))).setCell ⟨d, 9, none⟩ (.bool false)).setCell ⟨d, 10, none⟩ (.bool false)).setCell ⟨d, 11, none⟩ (.bool false)).setCell ⟨d, 12, none⟩ (.int .i64 0)).setCell ⟨d, 13, none⟩ (.slice none 0 0)).heap[d]? = some (.cells #[.int .u32 (P.c : Nat), .int .i64 (P.o : Nat), .int .i64 (P.i : Nat), .int .i64 (P.t : Nat), .int .u32 (P.n : Nat), .slice none 0 0, .int .i64 (P.t : Nat), .int .i64 0, .int .i64 (P.i : Nat), .bool false, .bool false, .bool false, .int .i64 0, .slice none 0 0, .bool false, .int .i64 0, .int .u32 0, .int .u32 0, .int .u32 0, .bool false, .int .i64 0, .slice none 0 0, .bool false] 149 (0, 0)) := heap_setCell_same _ _ _ _ _ _ e6
  have e8 : (((((((((w.setCell ⟨d, 6, none⟩ (.int .i64 (P.t : Nat))).setCell ⟨d, 7, none⟩ (.int .i64 0)).setCell ⟨d, 8, none⟩ (.int .i64 (P.i : Nat))).setCell ⟨d, 9, none⟩ (.bool false)).setCell ⟨d, 10, none⟩ (.bool false)).setCell ⟨d, 11, none⟩ (.bool false)).setCell ⟨d, 12, none⟩ (.int .i64 0)).setCell ⟨d, 13, none⟩ (.slice none 0 0)).setCell ⟨d, 14, none⟩ (.bool false)).heap[d]? = some (.cells #[.int .u32 (P.c : Nat), .int .i64 (P.o : Nat), .int .i64 (P.i : Nat), .int .i64 (P.t : Nat), .int .u32 (P.n : Nat), .slice none 0 0, .int .i64 (P.t : Nat), .int .i64 0, .int .i64 (P.i : Nat), .bool false, .bool false, .bool false, .int .i64 0, .slice none 0 0, .bool false, .int .i64 0, .int .u32 0, .int .u32 0, .int .u32 0, .bool false, .int .i64 0, .slice none 0 0, .bool false] 149 (0, 0)) := heap_setCell_same _ _ _ _ _ _ e7
  have e9 : ((((((((((w.setCell ⟨d, 6, none⟩ (.int .i64 (P.t : Nat))).setCell ⟨d, 7, none⟩ (.int .i64 0)).setCell ⟨d, 8, none⟩ (.int .i64 (P.i : Nat))).setCell ⟨d, 9, none⟩ (.bool false)).setCell ⟨d, 10, none⟩ (.bool false)).setCell ⟨d, 11, none⟩ (.bool false)).setCell ⟨d, 12, none⟩ (.int .i64 0)).setCell ⟨d, 13, none⟩ (.slice none 0 0)).setCell ⟨d, 14, none⟩ (.bool false)).setCell ⟨d, 15, none⟩ (.int .i64 1)).heap[d]? = some (.cells #[.int .u32 (P.c : Nat), .int .i64 (P.o : Nat), .int .i64 (P.i : Nat), .int .i64 (P.t : Nat), .int .u32 (P.n : Nat), .slice none 0 0, .int .i64 (P.t : Nat), .int .i64 0, .int .i64 (P.i : Nat), .bool false, .bool false, .bool false, .int .i64 0, .slice none 0 0, .bool false, .int .i64 1, .int .u32 0, .int .u32 0, .int .u32 0, .bool false, .int .i64 0, .slice none 0 0, .bool false] 149 (0, 0)) := heap_setCell_same _ _ _ _ _ _ e8
  have e10 : (((((((((((w.setCell ⟨d, 6, none⟩ (.int .i64 (P.t : Nat))).setCell ⟨d, 7, none⟩ (.int .i64 0)).setCell ⟨d, 8, none⟩ (.int .i64 (P.i : Nat))).setCell ⟨d, 9, none⟩ (.bool false)).setCell ⟨d, 10, none⟩ (.bool false)).setCell ⟨d, 11, none⟩ (.bool false)).setCell ⟨d, 12, none⟩ (.int .i64 0)).setCell ⟨d, 13, none⟩ (.slice none 0 0)).setCell ⟨d, 14, none⟩ (.bool false)).setCell ⟨d, 15, none⟩ (.int .i64 1)).setCell ⟨d, 16, none⟩ (.int .u32 0)).heap[d]? = some (.cells #[.int .u32 (P.c : Nat), .int .i64 (P.o : Nat), .int .i64 (P.i : Nat), .int .i64 (P.t : Nat), .int .u32 (P.n : Nat), .slice none 0 0, .int .i64 (P.t : Nat), .int .i64 0, .int .i64 (P.i : Nat), .bool false, .bool false, .bool false, .int .i64 0, .slice none 0 0, .bool false, .int .i64 1, .int .u32 0, .int .u32 0, .int .u32 0, .bool false, .int .i64 0, .slice none 0 0, .bool false] 149 (0, 0)) := heap_setCell_same _ _ _ _ _ _ e9
  have e11 : ((((((((((((w.setCell ⟨d, 6, none⟩ (.int .i64 (P.t : Nat))).setCell ⟨d, 7, none⟩ (.int .i64 0)).setCell ⟨d, 8, none⟩ (.int .i64 (P.i : Nat))).setCell ⟨d, 9, none⟩ (.bool false)).setCell ⟨d, 10, none⟩ (.bool false)).setCell ⟨d, 11, none⟩ (.bool false)).setCell ⟨d, 12, none⟩ (.int .i64 0)).setCell ⟨d, 13, none⟩ (.slice none 0 0)).setCell ⟨d, 14, none⟩ (.bool false)).setCell ⟨d, 15, none⟩ (.int .i64 1)).setCell ⟨d, 16, none⟩ (.int .u32 0)).setCell ⟨d, 17, none⟩ (.int .u32 0)).heap[d]? = some (.cells #[.int .u32 (P.c : Nat), .int .i64 (P.o : Nat), .int .i64 (P.i : Nat), .int .i64 (P.t : Nat), .int .u32 (P.n : Nat), .slice none 0 0, .int .i64 (P.t : Nat), .int .i64 0, .int .i64 (P.i : Nat), .bool false, .bool false, .bool false, .int .i64 0, .slice none 0 0, .bool false, .int .i64 1, .int .u32 0, .int .u32 0, .int .u32 0, .bool false, .int .i64 0, .slice none 0 0, .bool false] 149 (0, 0)) := heap_setCell_same _ _ _ _ _ _ e10
  have e12 : (((((((((((((w.setCell ⟨d, 6, none⟩ (.int .i64 (P.t : Nat))).setCell ⟨d, 7, none⟩ (.int .i64 0)).setCell ⟨d, 8, none⟩ (.int .i64 (P.i : Nat))).setCell ⟨d, 9, none⟩ (.bool false)).setCell ⟨d, 10, none⟩ (.bool false)).setCell ⟨d, 11, none⟩ (.bool false)).setCell ⟨d, 12, none⟩ (.int .i64 0)).setCell ⟨d, 13, none⟩ (.slice none 0 0)).setCell ⟨d, 14, none⟩ (.bool false)).setCell ⟨d, 15, none⟩ (.int .i64 1)).setCell ⟨d, 16, none⟩ (.int .u32 0)).setCell ⟨d, 17, none⟩ (.int .u32 0)).setCell ⟨d, 18, none⟩ (.int .u32 0)).heap[d]? = some (.cells #[.int .u32 (P.c : Nat), .int .i64 (P.o : Nat), .int .i64 (P.i : Nat), .int .i64 (P.t : Nat), .int .u32 (P.n : Nat), .slice none 0 0, .int .i64 (P.t : Nat), .int .i64 0, .int .i64 (P.i : Nat), .bool false, .bool false, .bool false, .int .i64 0, .slice none 0 0, .bool false, .int .i64 1, .int .u32 0, .int .u32 0, .int .u32 0, .bool false, .int .i64 0, .slice none 0 0, .bool false] 149 (0, 0)) := heap_setCell_same _ _ _ _ _ _ e11
  have e13 : ((((((((((((((w.setCell ⟨d, 6, none⟩ (.int .i64 (P.t : Nat))).setCell ⟨d, 7, none⟩ (.int .i64 0)).setCell ⟨d, 8, none⟩ (.int .i64 (P.i : Nat))).setCell ⟨d, 9, none⟩ (.bool false)).setCell ⟨d, 10, none⟩ (.bool false)).setCell ⟨d, 11, none⟩ (.bool false)).setCell ⟨d, 12, none⟩ (.int .i64 0)).setCell ⟨d, 13, none⟩ (.slice none 0 0)).setCell ⟨d, 14, none⟩ (.bool false)).setCell ⟨d, 15, none⟩ (.int .i64 1)).setCell ⟨d, 16, none⟩ (.int .u32 0)).setCell ⟨d, 17, none⟩ (.int .u32 0)).setCell ⟨d, 18, none⟩ (.int .u32 0)).setCell ⟨d, 19, none⟩ (.bool false)).heap[d]? = some (.cells #[.int .u32 (P.c : Nat), .int .i64 (P.o : Nat), .int .i64 (P.i : Nat), .int .i64 (P.t : Nat), .int .u32 (P.n : Nat), .slice none 0 0, .int .i64 (P.t : Nat), .int .i64 0, .int .i64 (P.i : Nat), .bool false, .bool false, .bool false, .int .i64 0, .slice none 0 0, .bool false, .int .i64 1, .int .u32 0, .int .u32 0, .int .u32 0, .bool false, .int .i64 0, .slice none 0 0, .bool false] 149 (0, 0)) := heap_setCell_same _ _ _ _ _ _ e12
  have e14 : (((((((((((((((w.setCell ⟨d, 6, none⟩ (.int .i64 (P.t : Nat))).setCell ⟨d, 7, none⟩ (.int .i64 0)).setCell ⟨d, 8, none⟩ (.int .i64 (P.i : Nat))).setCell ⟨d, 9, none⟩ (.bool false)).setCell ⟨d, 10, none⟩ (.bool false)).setCell ⟨d, 11, none⟩ (.bool false)).setCell ⟨d, 12, none⟩ (.int .i64 0)).setCell ⟨d, 13, none⟩ (.slice none 0 0)).setCell ⟨d, 14, none⟩ (.bool false)).setCell ⟨d, 15, none⟩ (.int .i64 1)).setCell ⟨d, 16, none⟩ (.int .u32 0)).setCell ⟨d, 17, none⟩ (.int .u32 0)).setCell ⟨d, 18, none⟩ (.int .u32 0)).setCell ⟨d, 19, none⟩ (.bool false)).setCell ⟨d, 20, none⟩ (.int .i64 0)).heap[d]? = some (.cells #[.int .u32 (P.c : Nat), .int .i64 (P.o : Nat), .int .i64 (P.i : Nat), .int .i64 (P.t : Nat), .int .u32 (P.n : Nat), .slice none 0 0, .int .i64 (P.t : Nat), .int .i64 0, .int .i64 (P.i : Nat), .bool false, .bool false, .bool false, .int .i64 0, .slice none 0 0, .bool false, .int .i64 1, .int .u32 0, .int .u32 0, .int .u32 0, .bool false, .int .i64 0, .slice none 0 0, .bool false] 149 (0, 0)) := heap_setCell_same _ _ _ _ _ _ e13
  exact ⟨e14, (((((((((((((((Off.setCell d 6 w (.int .i64 (P.t : Nat))).trans (Off.setCell d 7 _ (.int .i64 0))).trans (Off.setCell d 8 _ (.int .i64 (P.i : Nat)))).trans (Off.setCell d 9 _ (.bool false))).trans (Off.setCell d 10 _ (.bool false))).trans (Off.setCell d 11 _ (.bool false))).trans (Off.setCell d 12 _ (.int .i64 0))).trans (Off.setCell d 13 _ (.slice none 0 0))).trans (Off.setCell d 14 _ (.bool false))).trans (Off.setCell d 15 _ (.int .i64 1))).trans (Off.setCell d 16 _ (.int .u32 0))).trans (Off.setCell d 17 _ (.int .u32 0))).trans (Off.setCell d 18 _ (.int .u32 0))).trans (Off.setCell d 19 _ (.bool false))).trans (Off.setCell d 20 _ (.int .i64 0)))⟩
theorem RH.made {w : World} {d ga : Nat} {P : Pm} (hP : Pok P) (hd : d < ga) (hga : ga < w.heap.size)
    (hdev : w.heap[d]? = some (.cells (RHC P (.slice none 0 0) (.slice none 0 0) hnew (.slice (some ⟨ga, 0, none⟩) P.o P.o)) 149 (0, 0))) (hown : w.ownsRow 0 5 1 (.slice (some ⟨ga, 0, none⟩) P.o P.o) P.o (CB (fun _ => 0) P.o)) :
    RVh w d P [d, ga] hnew := by
  refine ⟨⟨[], .slice none 0 0, .slice none 0 0, .slice (some ⟨ga, 0, none⟩) P.o P.o, fun k => if k = d then 0 else 6⟩, hdev, .inl ⟨rfl, rfl⟩, World.ownsRow_nil w _ _ _, hown, fun i _ => (by show 0 < 256; omega), Vok.new, Nat.zero_le _, ?_, ⟨if_pos rfl, by simp⟩, fun k hk => (by simp at hk), fun k hk => (by cases hk), ?_, hP, fun _ => rfl⟩
  · intro k hk
    simp at hk
    omega
  · intro k hk
    cases hk
    exact ⟨by dsimp only; rw [if_neg (by omega)], by simp⟩
set_option maxRecDepth 100000 in
set_option maxHeartbeats 3200000 in
theorem hreset_first (d : Nat) (P : Pm) (hP : Pok P) (w : World) (h : w.heap[d]? = some (.cells #[.int .u32 (P.c : Nat), .int .i64 (P.o : Nat), .int .i64 (P.i : Nat), .int .i64 (P.t : Nat), .int .u32 (P.n : Nat), .slice none 0 0, .int .i64 0, .int .i64 0, .int .i64 0, .bool false, .bool false, .bool false, .int .i64 0, .slice none 0 0, .bool false, .int .i64 0, .int .u32 0, .int .u32 0, .int .u32 0, .bool false, .int .i64 0, .slice none 0 0, .bool false] 149 (0, 0))) :
    Calls Tryz.prog 79 #[.pointer (some ⟨d, 0, none⟩)] w fun e w' => e = .returned (.tuple #[]) ∧ Hid (Off [d] w w' ∧ ∃ ga, w.heap.size ≤ ga ∧ RVh w' d P [d, ga] hnew) := by
  obtain ⟨i0, hi, hz0, hz1, hz2⟩ := info_parts info_u8
  have hdl : d < w.heap.size := (Array.getElem?_eq_some_iff.1 h).1
  have c1 : w.cell? ⟨d, 1, none⟩ = some (.int .i64 (P.o : Nat)) := cell_of_row w d 1 _ _ _ h
  have c2 : w.cell? ⟨d, 2, none⟩ = some (.int .i64 (P.i : Nat)) := cell_of_row w d 2 _ _ _ h
  have c3 : w.cell? ⟨d, 3, none⟩ = some (.int .i64 (P.t : Nat)) := cell_of_row w d 3 _ _ _ h
  have c6 : w.cell? ⟨d, 6, none⟩ = some (.int .i64 0) := cell_of_row w d 6 _ _ _ h
  have z6 := frozen_of_row w d 6 _ _ h
  have c7 : w.cell? ⟨d, 7, none⟩ = some (.int .i64 0) := cell_of_row w d 7 _ _ _ h
  have z7 := frozen_of_row w d 7 _ _ h
  have c8 : w.cell? ⟨d, 8, none⟩ = some (.int .i64 0) := cell_of_row w d 8 _ _ _ h
  have z8 := frozen_of_row w d 8 _ _ h
  have c9 : w.cell? ⟨d, 9, none⟩ = some (.bool false) := cell_of_row w d 9 _ _ _ h
  have z9 := frozen_of_row w d 9 _ _ h
  have c10 : w.cell? ⟨d, 10, none⟩ = some (.bool false) := cell_of_row w d 10 _ _ _ h
  have z10 := frozen_of_row w d 10 _ _ h
  have c11 : w.cell? ⟨d, 11, none⟩ = some (.bool false) := cell_of_row w d 11 _ _ _ h
  have z11 := frozen_of_row w d 11 _ _ h
  have c12 : w.cell? ⟨d, 12, none⟩ = some (.int .i64 0) := cell_of_row w d 12 _ _ _ h
  have z12 := frozen_of_row w d 12 _ _ h
  have c13 : w.cell? ⟨d, 13, none⟩ = some (.slice none 0 0) := cell_of_row w d 13 _ _ _ h
  have z13 := frozen_of_row w d 13 _ _ h
  have c14 : w.cell? ⟨d, 14, none⟩ = some (.bool false) := cell_of_row w d 14 _ _ _ h
  have z14 := frozen_of_row w d 14 _ _ h
  have c15 : w.cell? ⟨d, 15, none⟩ = some (.int .i64 0) := cell_of_row w d 15 _ _ _ h
  have z15 := frozen_of_row w d 15 _ _ h
  have c16 : w.cell? ⟨d, 16, none⟩ = some (.int .u32 0) := cell_of_row w d 16 _ _ _ h
  have z16 := frozen_of_row w d 16 _ _ h
  have c17 : w.cell? ⟨d, 17, none⟩ = some (.int .u32 0) := cell_of_row w d 17 _ _ _ h
  have z17 := frozen_of_row w d 17 _ _ h
  have c18 : w.cell? ⟨d, 18, none⟩ = some (.int .u32 0) := cell_of_row w d 18 _ _ _ h
  have z18 := frozen_of_row w d 18 _ _ h
  have c19 : w.cell? ⟨d, 19, none⟩ = some (.bool false) := cell_of_row w d 19 _ _ _ h
  have z19 := frozen_of_row w d 19 _ _ h
  have c20 : w.cell? ⟨d, 20, none⟩ = some (.int .i64 0) := cell_of_row w d 20 _ _ _ h
  have z20 := frozen_of_row w d 20 _ _ h
  have hi8 := hP.o8
  have l14 := hlifeZ h
  have H : Hid (_) := And.intro hdl l14
  clear h l14 hdl
  go_enter Tryz.func79, Tryz.ntmps79
  go_upto_region 8 with fail
  generalize (((((((((((((((w.setCell ⟨d, 6, none⟩ (.int .i64 (P.t : Nat))).setCell ⟨d, 7, none⟩ (.int .i64 0)).setCell ⟨d, 8, none⟩ (.int .i64 (P.i : Nat))).setCell ⟨d, 9, none⟩ (.bool false)).setCell ⟨d, 10, none⟩ (.bool false)).setCell ⟨d, 11, none⟩ (.bool false)).setCell ⟨d, 12, none⟩ (.int .i64 0)).setCell ⟨d, 13, none⟩ (.slice none 0 0)).setCell ⟨d, 14, none⟩ (.bool false)).setCell ⟨d, 15, none⟩ (.int .i64 1)).setCell ⟨d, 16, none⟩ (.int .u32 0)).setCell ⟨d, 17, none⟩ (.int .u32 0)).setCell ⟨d, 18, none⟩ (.int .u32 0)).setCell ⟨d, 19, none⟩ (.bool false)).setCell ⟨d, 20, none⟩ (.int .i64 0)) = w1 at *
  have e1 := H.out.2.1
  have hd1 : d < w1.heap.size := Nat.lt_of_lt_of_le H.out.1 H.out.2.2.size
  have d1 : w1.cell? ⟨d, 1, none⟩ = some (.int .i64 (P.o : Nat)) := cell_of_row w1 d 1 _ _ _ e1
  have H1 : Hid (_) := And.intro e1 hd1
  clear e1 hd1 c1 c2 c3 c6 z6 c7 z7 c8 z8 c9 z9 c10 z10 c11 z11 c12 z12 c13 z13 c14 z14 c15 z15 c16 z16 c17 z17 c18 z18 c19 z19 c20 z20
  go_wp2_with (at_make; refine wpList_make8 _ rfl (.tmp 43) (.tmp 43) 22 rfl w1.heap.size 5 i0 Tryz.underlying22 hi hz0 hz1 hz2 _ _ _ _ P.o P.o rfl rfl rfl rfl (Nat.le_refl _) (by omega) (Nat.le_refl _) ?_)
  intro w2 hown2 hbel2
  have e2 := (hbel2.block d H1.out.2).trans H1.out.1
  have c21 : w2.cell? ⟨d, 21, none⟩ = some (.slice none 0 0) := cell_of_row w2 d 21 _ _ _ e2
  have c22 : w2.cell? ⟨d, 22, none⟩ = some (.bool false) := cell_of_row w2 d 22 _ _ _ e2
  have z21 := frozen_of_row w2 d 21 _ _ e2
  have z22 := frozen_of_row w2 d 22 _ _ e2
  have H2 : Hid (_) := And.intro hown2 (And.intro hbel2 e2)
  clear hown2 hbel2 e2 d1 H1
  go_wp2_with fail
  go_end0
  obtain ⟨hown2, hbel2, e2⟩ := H2.out
  have e3 : (w2.setCell ⟨d, 21, none⟩ (.slice (some ⟨w1.heap.size, 0, none⟩) P.o P.o)).heap[d]? = some (.cells (RHC P (.slice none 0 0) (.slice none 0 0) hnew (.slice (some ⟨w1.heap.size, 0, none⟩) P.o P.o)) 149 (0, 0)) := heap_setCell_same _ _ _ _ _ _ e2
  have e4 : ((w2.setCell ⟨d, 21, none⟩ (.slice (some ⟨w1.heap.size, 0, none⟩) P.o P.o)).setCell ⟨d, 22, none⟩ (.bool false)).heap[d]? = some (.cells (RHC P (.slice none 0 0) (.slice none 0 0) hnew (.slice (some ⟨w1.heap.size, 0, none⟩) P.o P.o)) 149 (0, 0)) := heap_setCell_same _ _ _ _ _ _ e3
  have o4 : Off [d] w2 ((w2.setCell ⟨d, 21, none⟩ (.slice (some ⟨w1.heap.size, 0, none⟩) P.o P.o)).setCell ⟨d, 22, none⟩ (.bool false)) := (Off.setCell d 21 w2 _).trans (Off.setCell d 22 _ (.bool false))
  have hga := own_far hown2 ⟨w1.heap.size, 0, none⟩ rfl
  have hs1 := H.out.2.2.size
  have hd := H.out.1
  have hs4 := o4.size
  refine ⟨rfl, (H.out.2.2.trans (Off.of_below hbel2)).trans o4, w1.heap.size, hs1, RH.made hP (by omega) (by have := hga.2; simp only at this; omega) e4 (own_offk (own_base hown2 (Nat.zero_le _)) o4 (fun k hk => ?_))⟩
  cases hk
  simp; omega
set_option maxHeartbeats 1600000 in
theorem hrnew_bad (c : Nat) (o i t : Int) (n : Nat) (w : World) (hE : ¬ okP c o i t n) :
    Calls Tryz.prog 33 #[.agg #[.int .u32 c, .int .i64 o, .int .i64 i, .int .i64 t, .int .u32 n]] w fun e w' => e = .returned (.tuple #[.pointer none, .int .i64 90]) ∧ Below w.heap.size w w' := by
  have hb : Below w.heap.size w (w.alloc (.cells #[.int .u32 c, .int .i64 o, .int .i64 i, .int .i64 t, .int .u32 n] 36)) := (Below.refl _ _).alloc (Nat.le_refl _) _
  have hC := rlaw_any c o i t n (w.alloc (.cells #[.int .u32 c, .int .i64 o, .int .i64 i, .int .i64 t, .int .u32 n] 36)) false (decide_eq_false hE)
  have HB : Hid (_) := hb
  clear hE hb
  go_enter Tryz.func33, Tryz.ntmps33
  go_wp2_with (go_at_call 53; refine hC.mono ?_; rintro e w2 ⟨rfl, b2⟩)
  go_ret2
  exact ⟨rfl, HB.out.trans (b2.mono HB.out.size)⟩
set_option maxRecDepth 100000 in
set_option maxHeartbeats 3200000 in
theorem hrnew_any (P : Pm) (hP : Pok P) (w : World) :
    Calls Tryz.prog 33 #[.agg #[.int .u32 (P.c : Nat), .int .i64 (P.o : Nat), .int .i64 (P.i : Nat), .int .i64 (P.t : Nat), .int .u32 (P.n : Nat)]] w fun e w' => ∃ d U, e = .returned (.tuple #[.pointer (some ⟨d, 0, none⟩), .int .i64 0]) ∧ Hid (Below w.heap.size w w' ∧ RVh w' d P U hnew ∧ ∀ k, k ∈ U → w.heap.size ≤ k) := by
  have hb : Below w.heap.size w (w.alloc (.cells #[.int .u32 (P.c : Nat), .int .i64 (P.o : Nat), .int .i64 (P.i : Nat), .int .i64 (P.t : Nat), .int .u32 (P.n : Nat)] 36)) := (Below.refl _ _).alloc (Nat.le_refl _) _
  have hx0 := heap_alloc_new w (.cells #[.int .u32 (P.c : Nat), .int .i64 (P.o : Nat), .int .i64 (P.i : Nat), .int .i64 (P.t : Nat), .int .u32 (P.n : Nat)] 36)
  have hC := rlaw_any P.c P.o P.i P.t P.n (w.alloc (.cells #[.int .u32 (P.c : Nat), .int .i64 (P.o : Nat), .int .i64 (P.i : Nat), .int .i64 (P.t : Nat), .int .u32 (P.n : Nat)] 36)) true (decide_eq_true hP.ok)
  have HH : Hid (_) := And.intro hb (And.intro hx0 hP)
  clear hb hx0 hP
  go_enter Tryz.func33, Tryz.ntmps33
  go_wp2_with fail
  refine hC.mono ?_
  rintro e w1 ⟨rfl, b1⟩
  obtain ⟨hb, hx0, hP⟩ := HH.out
  have bb := hb.trans (b1.mono hb.size)
  have q1 := (b1.block w.heap.size (by rw [World.size_alloc]; omega)).trans hx0
  have x0 : w1.cell? ⟨w.heap.size, 0, none⟩ = some (.int .u32 (P.c : Nat)) := cell_of_row w1 _ 0 _ _ _ q1
  have x1 : w1.cell? ⟨w.heap.size, 1, none⟩ = some (.int .i64 (P.o : Nat)) := cell_of_row w1 _ 1 _ _ _ q1
  have x2 : w1.cell? ⟨w.heap.size, 2, none⟩ = some (.int .i64 (P.i : Nat)) := cell_of_row w1 _ 2 _ _ _ q1
  have x3 : w1.cell? ⟨w.heap.size, 3, none⟩ = some (.int .i64 (P.t : Nat)) := cell_of_row w1 _ 3 _ _ _ q1
  have x4 : w1.cell? ⟨w.heap.size, 4, none⟩ = some (.int .u32 (P.n : Nat)) := cell_of_row w1 _ 4 _ _ _ q1
  have hR := hreset_first w1.heap.size P hP (w1.alloc (.cells #[.int .u32 (P.c : Nat), .int .i64 (P.o : Nat), .int .i64 (P.i : Nat), .int .i64 (P.t : Nat), .int .u32 (P.n : Nat), .slice none 0 0, .int .i64 0, .int .i64 0, .int .i64 0, .bool false, .bool false, .bool false, .int .i64 0, .slice none 0 0, .bool false, .int .i64 0, .int .u32 0, .int .u32 0, .int .u32 0, .bool false, .int .i64 0, .slice none 0 0, .bool false] 149)) (heap_alloc_new w1 _)
  have HB : Hid (_) := bb
  clear hC b1 hb hx0 hP q1 bb
  go_wp2_with fail
  refine hR.mono ?_
  rintro e w3 ⟨rfl, h3⟩
  clear hR x0 x1 x2 x3 x4
  go_wp2_with fail
  go_ret2
  obtain ⟨o3, ga, hga, x3⟩ := h3.out
  have bA : Below w.heap.size w (w1.alloc (.cells #[.int .u32 (P.c : Nat), .int .i64 (P.o : Nat), .int .i64 (P.i : Nat), .int .i64 (P.t : Nat), .int .u32 (P.n : Nat), .slice none 0 0, .int .i64 0, .int .i64 0, .int .i64 0, .bool false, .bool false, .bool false, .int .i64 0, .slice none 0 0, .bool false, .int .i64 0, .int .u32 0, .int .u32 0, .int .u32 0, .bool false, .int .i64 0, .slice none 0 0, .bool false] 149)) := HB.out.alloc HB.out.size _
  have hs := HB.out.size
  rw [World.size_alloc] at hga
  exact ⟨_, _, rfl, o3.below bA (by simp; exact hs) bA.size, x3, fun k hk => by simp at hk; omega⟩
end Go.Proofs.YtndjepeolamedaaGreat
namespace Go.Proofs.YtndjepeolamedaaGreat
set_option maxRecDepth 100000
open Go.RowKit
end Go.Proofs.YtndjepeolamedaaGreat
namespace Go.Proofs.YtndjepeolamedaaGreat
set_option maxRecDepth 100000
open Go.RowKit
theorem own_form {w : World} {B e n : Nat} {v : Value} {xs : List Value} (h : w.ownsRow B e 1 v n xs) : ∃ a cap, v = .slice a n cap ∧ (0 < n → ∃ g, a = some ⟨g, 0, none⟩ ∧ B ≤ g) := by
  rcases h.2 with ⟨rfl, rfl⟩ | ⟨g, cap, cur, hv, hg, _⟩
  · exact ⟨none, 0, rfl, fun h => by omega⟩
  · exact ⟨_, cap, hv, fun _ => ⟨g, rfl, hg⟩⟩
theorem xor8 (a b : Nat) (ha : a < 256) (hb : b < 256) : bits .xor .u8 (a : Int) (b : Int) = ((a ^^^ b : Nat) : Int) := u8_xor_nat a b ha hb
def fl (f : Nat → Nat) (k q : Nat) : Nat := if q = k / 8 then f (k / 8) ^^^ 2 ^ (7 - k % 8) else f q
theorem fl_lt {f : Nat → Nat} {n : Nat} (hf : ∀ i, i < n → f i < 256) (k : Nat) (hk : k / 8 < n) : ∀ i, i < n → fl f k i < 256 := by
  intro i hi
  unfold fl
  by_cases h : i = k / 8
  · rw [if_pos h]
    exact Nat.xor_lt_two_pow (n := 8) (hf _ hk) (Nat.pow_lt_pow_right (by omega) (by omega))
  · rw [if_neg h]; exact hf i hi
theorem fl_fb (f : Nat → Nat) (k n : Nat) : PM.fb (fl f k) n = if n = k then !PM.fb f n else PM.fb f n := by
  unfold PM.fb fl
  by_cases h : n / 8 = k / 8
  · rw [if_pos h, Nat.testBit_xor, Nat.testBit_two_pow, h]
    by_cases e : n = k
    · subst e
      rw [if_pos rfl]
      simp
    · rw [if_neg e]
      have : ¬ 7 - k % 8 = 7 - n % 8 := by omega
      simp [this]
  · rw [if_neg h, if_neg (fun e => h (by rw [e]))]
theorem fl_V (f : Nat → Nat) (k n : Nat) (hk : k < n) : PM.V (PM.fb (fl f k)) n = PM.V (PM.fb f) n ^^^ 2 ^ (n - 1 - k) := by
  rw [PM.V_congr _ (fun i => if i = k then !PM.fb f i else PM.fb f i) n (fun i _ => fl_fb f k i)]
  exact PM.V_flip (PM.fb f) n k hk
theorem pow7 (k : Nat) : (128 : Int) / 2 ^ (k % 8) = ((2 ^ (7 - k % 8) : Nat) : Int) := by
  have h : ∀ z : Fin 8, (128 : Int) / 2 ^ z.val = ((2 ^ (7 - z.val) : Nat) : Int) := by decide
  exact h ⟨k % 8, by omega⟩
theorem burst_true {x s i N fr : Nat} (hi : i < s) (hN : fr + s ≤ N) (hb : x.testBit (s - 1 - i) = true) :
    PM.C (x >>> (s - i)) (2 ^ (N - fr - i)) ^^^ 2 ^ (N - 1 - (fr + i)) = PM.C (x >>> (s - (i + 1))) (2 ^ (N - fr - (i + 1))) := by
  rw [show s - (i + 1) = s - 1 - i by omega, PM.shr_true hb (show s - i = s - 1 - i + 1 by omega), show N - fr - i = (N - fr - (i + 1)) + 1 by omega, Nat.pow_succ, Nat.mul_comm (2 ^ _) 2, PM.C_two_right, PM.dbl_add _ 1 (by omega), PM.C_xor_left, PM.C_two_left, PM.C_one_left, show N - 1 - (fr + i) = N - fr - (i + 1) by omega]
theorem burst_false {x s i N fr : Nat} (hi : i < s) (hN : fr + s ≤ N) (hb : x.testBit (s - 1 - i) = false) :
    PM.C (x >>> (s - i)) (2 ^ (N - fr - i)) = PM.C (x >>> (s - (i + 1))) (2 ^ (N - fr - (i + 1))) := by
  rw [show s - (i + 1) = s - 1 - i by omega, PM.shr_false hb (show s - i = s - 1 - i + 1 by omega), show N - fr - i = (N - fr - (i + 1)) + 1 by omega, Nat.pow_succ, Nat.mul_comm (2 ^ _) 2, PM.C_two_right, PM.C_two_left]
theorem and32_one (a : Nat) (h : a < 4294967296) : bits .and .u32 (a : Int) 1 = ((a % 2 : Nat) : Int) := by
  have := u32_and_nat a 1 h (by omega)
  rw [nat_mask1] at this
  exact this
theorem bit32 (x k : Nat) (hx : x < 4294967296) : (bits .and .u32 ((x : Int) / 2 ^ k) 1 != 0) = x.testBit k := by
  have e : (x : Int) / 2 ^ k = ((x >>> k : Nat) : Int) := by rw [Nat.shiftRight_eq_div_pow]; simp
  have hl : x >>> k < 4294967296 := by rw [Nat.shiftRight_eq_div_pow]; exact Nat.lt_of_le_of_lt (Nat.div_le_self _ _) hx
  rw [e, and32_one _ hl, shr_bit]
  cases x.testBit k <;> rfl
set_option maxHeartbeats 1000000 in
theorem burst_no (a0 : Option Addr) (len cap : Nat) (n : Int) (x : Nat) (w : World) (hl : len ≤ 100000) (hx : x < 4294967296) (hno : x = 0 ∨ 8 * len < PM.bl x) :
    Calls Tryz.prog 40 #[.slice a0 len cap, .int .i64 n, .int .u32 x] w fun e w' => e = .returned (.tuple #[.slice none 0 0, .bool false]) ∧ w' = w := by
  have hbit := fun k => bit32 x k hx
  have hbl := PM.bl_le (n := x) (k := 32) (by omega)
  go_enter Tryz.func40, Tryz.ntmps40
  go_wp2_with fail
  go_loop [8, 9] (fun s c => ∃ i : Nat, i ≤ 32 ∧ c = .int .i64 i ∧ s = .int .i64 (PM.bl (x % 2 ^ i) : Nat)) (fun _ c => 32 - (intOf c).toNat)
  case atStart => exact ⟨0, by omega, rfl, by rw [Nat.pow_zero, Nat.mod_one]; rfl⟩
  case round =>
    obtain ⟨i, hi32, rfl, rfl⟩ := hrel
    by_cases hlt : i < 32
    · have t1 := hbit i
      clear hbit
      cases hb : x.testBit i
      · rw [hb] at t1
        go_wp2
        go_round
        case rel => exact ⟨i + 1, by omega, by go_num, by rw [PM.bl_mod_false hb]⟩
        case measure => simp [intOf] <;> omega
      · rw [hb] at t1
        go_wp2
        go_round
        case rel => exact ⟨i + 1, by omega, by go_num, by rw [PM.bl_mod_true hb]; go_num⟩
        case measure => simp [intOf] <;> omega
    · obtain rfl : i = 32 := by omega
      rw [Nat.mod_eq_of_lt (show x < 2 ^ 32 from hx)]
      rcases hno with hx0 | hroom
      · rw [show PM.bl x = 0 by rw [hx0]; rfl]
        clear hbit hx0 hbl
        go_wp2
        go_ret2
        exact ⟨rfl, rfl⟩
      · have hs0 : ((PM.bl x : Int) == 0) = false := by simp; omega
        have hd : decide ((8 : Int) * (len : Int) - (PM.bl x : Int) + 1 < 1) = true := by simp; omega
        clear hbit
        generalize PM.bl x = s at *
        go_wp2
        go_ret2
        exact ⟨rfl, rfl⟩
def BurstOut (B : Nat) (w' : World) (len x : Nat) (bs : Nat → Nat) (v : Value) : Prop :=
  ∃ f d, w'.ownsRow B 5 1 v len (CB f len) ∧ (∀ i, i < len → f i < 256) ∧ PM.V (PM.fb f) (8 * len) = PM.V (PM.fb bs) (8 * len) ^^^ PM.C x (2 ^ d)
set_option maxRecDepth 100000 in
set_option maxHeartbeats 1000000 in
theorem burst_yes (a0 : Option Addr) (len cap : Nat) (n : Int) (x : Nat) (bs : Nat → Nat) (w : World) (hr : Row8 w a0 len cap bs) (hl : len ≤ 100000) (hx : x < 4294967296) (hx0 : x ≠ 0) (hroom : PM.bl x ≤ 8 * len) :
    Calls Tryz.prog 40 #[.slice a0 len cap, .int .i64 n, .int .u32 x] w fun e w' => ∃ v, e = .returned (.tuple #[v, .bool true]) ∧ Below w.heap.size w w' ∧ BurstOut w.heap.size w' len x bs v := by
  obtain ⟨i0, hi, hz0, hz1, hz2⟩ := info_parts info_u8
  have hbit := fun k => bit32 x k hx
  have hbl := PM.bl_le (n := x) (k := 32) (by omega)
  have hpos : 0 < PM.bl x := by rw [PM.bl_pos hx0]; omega
  have hbd := build0
  go_enter Tryz.func40, Tryz.ntmps40
  go_wp2_with fail
  go_loop [8, 9] (fun s c => ∃ i : Nat, i ≤ 32 ∧ c = .int .i64 i ∧ s = .int .i64 (PM.bl (x % 2 ^ i) : Nat)) (fun _ c => 32 - (intOf c).toNat)
  case atStart => exact ⟨0, by omega, rfl, by rw [Nat.pow_zero, Nat.mod_one]; rfl⟩
  case round =>
    obtain ⟨i, hi32, rfl, rfl⟩ := hrel
    by_cases hlt : i < 32
    · have t1 := hbit i
      clear hbit
      cases hb : x.testBit i
      · rw [hb] at t1
        go_wp2
        go_round
        case rel => exact ⟨i + 1, by omega, by go_num, by rw [PM.bl_mod_false hb]⟩
        case measure => simp [intOf] <;> omega
      · rw [hb] at t1
        go_wp2
        go_round
        case rel => exact ⟨i + 1, by omega, by go_num, by rw [PM.bl_mod_true hb]; go_num⟩
        case measure => simp [intOf] <;> omega
    · obtain rfl : i = 32 := by omega
      rw [Nat.mod_eq_of_lt (show x < 2 ^ 32 from hx)]
      have HX : Hid (x < 2 ^ PM.bl x) := PM.lt_bl x
      have hs0 : ((PM.bl x : Int) == 0) = false := by simp; omega
      have hd : decide ((8 : Int) * (len : Int) - (PM.bl x : Int) + 1 < 1) = false := by simp; omega
      have hrm : wrap64 ((IntKind.u64.wrap n).tmod (8 * (len : Int) - (PM.bl x : Int) + 1)) = ((((n % 18446744073709551616) % (8 * (len : Int) - (PM.bl x : Int) + 1)).toNat : Nat) : Int) := by
        rw [IntKind.wrap_u64, Int.tmod_eq_emod_of_nonneg (by omega)]
        have h1 := Int.emod_nonneg (n % 18446744073709551616) (show (8 * (len : Int) - (PM.bl x : Int) + 1) ≠ 0 by omega)
        have h2 := Int.emod_lt_of_pos (n % 18446744073709551616) (show 0 < 8 * (len : Int) - (PM.bl x : Int) + 1 by omega)
        unfold wrap64
        omega
      have hfr : ((n % 18446744073709551616) % (8 * (len : Int) - (PM.bl x : Int) + 1)).toNat + PM.bl x ≤ 8 * len := by
        have h1 := Int.emod_nonneg (n % 18446744073709551616) (show (8 * (len : Int) - (PM.bl x : Int) + 1) ≠ 0 by omega)
        have h2 := Int.emod_lt_of_pos (n % 18446744073709551616) (show 0 < 8 * (len : Int) - (PM.bl x : Int) + 1 by omega)
        omega
      generalize ((n % 18446744073709551616) % (8 * (len : Int) - (PM.bl x : Int) + 1)).toNat = fr at *
      generalize PM.bl x = s at *
      have hbelA : Below w.heap.size w (w.alloc (.cells #[] 5)) := (Below.refl _ _).alloc (Nat.le_refl _) _
      have R0 := hr.below hbelA
      have O0 : (w.alloc (.cells #[] 5)).ownsRow w.heap.size 5 1 (.slice (some ⟨w.heap.size, 0, none⟩) 0 0) 0 (CB bs 0) := World.ownsRow_made w #[] 0 (Nat.le_refl _) (Nat.zero_le _) rfl
      have hszA := hbelA.size
      go_wp2_with (at_builtin; refine wpList_append_row8 rfl (.tmp 44) (.tmp 45) 22 rfl w.heap.size 5 i0 (.int .u8 0) Tryz.underlying22 hi hz0 hz1 hz2 rfl _ 0 _ rfl O0 a0 len cap bs rfl R0 (by unfold maxLen; omega) (by omega) hszA ?_)
      intro v2 w2 hown2 hgrow2
      have hbel2 : Below w.heap.size w w2 := hbelA.grown hgrow2 hszA (fun k hk => (O0.lt k hk).1)
      rw [show CB bs 0 = [] from rfl, List.nil_append] at hown2
      have hb0 := hr.byte
      clear hgrow2 O0 R0 hbelA hbd hr hrm
      obtain ⟨ax, cx, rfl, hax⟩ := own_form hown2
      go_wp2_with fail
      go_loopw [13, 14] (fun c _ wr => ∃ i f, i ≤ s ∧ c = .int .i64 ((i : Nat) : Int) ∧ wr.ownsRow w.heap.size 5 1 (.slice ax len cx) len (CB f len) ∧ (∀ i, i < len → f i < 256) ∧ PM.V (PM.fb f) (8 * len) = PM.V (PM.fb bs) (8 * len) ^^^ PM.C (x >>> (s - i)) (2 ^ (8 * len - fr - i)) ∧ Below w.heap.size w wr) (fun c _ _ => s - (intOf c).toNat)
      case atStart => exact ⟨0, bs, by omega, rfl, hown2, hb0, by rw [Nat.sub_zero, Nat.shiftRight_eq_div_pow, Nat.div_eq_of_lt HX.out, PM.C_zero_left, Nat.xor_zero], hbel2⟩
      case round =>
        clear hown2 hbel2 hb0
        obtain ⟨i, f, hi2, rfl, hown, hfb, hfV, hbel⟩ := hrel
        have HV : Hid (PM.V (PM.fb f) (8 * len) = PM.V (PM.fb bs) (8 * len) ^^^ PM.C (x >>> (s - i)) (2 ^ (8 * len - fr - i))) := hfV
        clear hfV
        by_cases hlt2 : i < s
        · have t1 := hbit (s - 1 - i)
          clear hbit
          cases hb : x.testBit (s - 1 - i)
          · rw [hb] at t1
            go_wp2
            go_roundw
            case rel => exact ⟨i + 1, f, by omega, by go_num, hown, hfb, by rw [HV.out, burst_false hlt2 hfr hb], hbel⟩
            case measure => simp [intOf] <;> omega
          · rw [hb] at t1
            obtain ⟨gx, rfl, hgx⟩ := hax (by omega)
            obtain ⟨k, hk⟩ : ∃ k, k = fr + i := ⟨_, rfl⟩
            have hk1 : (fr : Int) + (i : Int) = (k : Int) := by omega
            have hk8 : k / 8 < len := by omega
            obtain ⟨q, hq⟩ : ∃ q, q = k / 8 := ⟨_, rfl⟩
            obtain ⟨m, hm⟩ : ∃ m, m = k % 8 := ⟨_, rfl⟩
            have hq1 : (k : Int) / 8 = (q : Int) := by omega
            have hm1 : (k : Int) % 8 = (m : Int) := by omega
            have hq2 : (k : Int).tdiv 8 = (q : Int) := by rw [Int.tdiv_eq_ediv_of_nonneg (by omega)]; exact hq1
            have hm2 : (k : Int).tmod 8 = (m : Int) := by rw [Int.tmod_eq_emod_of_nonneg (by omega)]; exact hm1
            have hp : (128 : Int) / 2 ^ m = ((2 ^ (7 - m) : Nat) : Int) := by rw [hm]; exact pow7 k
            have hql : q < len := by omega
            have hm8 : m < 8 := by omega
            have hcx := hown.cellAt q (by omega)
            rw [CB_get _ len _ hql] at hcx
            have hfx := hown.frozenAt q
            have hX := xor8 (f q) (2 ^ (7 - m)) (hfb q hql) (show 2 ^ (7 - m) < 2 ^ 8 from Nat.pow_lt_pow_right (by omega) (by omega))
            have hown3 : (wr.drew.setCell ⟨gx, q, none⟩ (.int .u8 ((f q ^^^ 2 ^ (7 - m) : Nat) : Int))).ownsRow w.heap.size 5 1 (.slice (some ⟨gx, 0, none⟩) len cx) len (CB (fl f k) len) := by
              have h := ((show wr.drew.ownsRow w.heap.size 5 1 (.slice (some ⟨gx, 0, none⟩) len cx) len (CB f len) from hown).stored q (.int .u8 ((f q ^^^ 2 ^ (7 - m) : Nat) : Int))).1
              rw [CB_set, CB_congr _ (fl f k) len (fun i _ => by unfold fl; rw [hq, hm])] at h
              exact h
            have hbel3 : Below w.heap.size w (wr.drew.setCell ⟨gx, q, none⟩ (.int .u8 ((f q ^^^ 2 ^ (7 - m) : Nat) : Int))) := hbel.drew.setCell (p := ⟨gx, q, none⟩) hgx _
            have HO : Hid (_) := hown3
            have HB : Hid (_) := hbel3
            have HF : Hid (∀ i, i < len → fl f k i < 256) := fl_lt hfb k hk8
            have HW : Hid (PM.V (PM.fb (fl f k)) (8 * len) = PM.V (PM.fb bs) (8 * len) ^^^ PM.C (x >>> (s - (i + 1))) (2 ^ (8 * len - fr - (i + 1)))) := by
              show _ = _
              rw [fl_V f k (8 * len) (by omega), HV.out, hk, Nat.xor_assoc, burst_true hlt2 hfr hb]
            have hkl : k < 800000 := by omega
            clear hk hq hm hown hbel hown3 hbel3 hax HV hfb
            generalize f q ^^^ 2 ^ (7 - m) = y at *
            generalize 2 ^ (7 - m) = z at *
            go_wp2_with fail
            go_region
            all_goals (go_wp2_with fail; go_roundw)
            case rel => exact ⟨i + 1, fl f k, by omega, by go_num, HO.out, HF.out, HW.out, HB.out⟩
            case measure => simp [intOf] <;> omega
        · obtain rfl : i = s := by omega
          clear hbit hax
          go_wp2
          go_ret2
          exact ⟨_, rfl, hbel, f, 8 * len - fr - i, hown, hfb, by rw [HV.out, Nat.sub_self, Nat.shiftRight_zero]⟩
end Go.Proofs.YtndjepeolamedaaGreat
namespace Go.Proofs.YtndjepeolamedaaGreat
set_option maxRecDepth 100000
open Go.RowKit
theorem Row8.off0 {l : List Nat} {w w' : World} {a : Option Addr} {len cap : Nat} {bs : Nat → Nat} (h : Row8 w a len cap bs) (q : Off l w w') (hl : ∀ x, a = some x → 0 < len → x.block ∉ l) : Row8 w' a len cap bs := by
  by_cases h0 : 0 < len
  · exact h.off q (fun x hx => hl x hx h0)
  · exact ⟨h.byte, h.nil, fun x hx i hi => absurd hi (by omega), h.le⟩
theorem Off.set {l : List Nat} {w w' : World} (h : Off l w w') {b o : Nat} {v : Value} (hb : b ∈ l) : Off l w (w'.setCell ⟨b, o, none⟩ v) :=
  h.trans ((Off.setCell b o w' v).more (fun k hk => by simp at hk; rw [hk]; exact hb))
theorem row8_of4 {w : World} {g b0 b1 b2 b3 : Nat} {bs : Nat → Nat} (hb : ∀ i, i < 4 → bs i < 256) (e0 : bs 0 = b0) (e1 : bs 1 = b1) (e2 : bs 2 = b2) (e3 : bs 3 = b3) (h0 : w.cell? ⟨g, 0, none⟩ = some (.int .u8 (b0 : Nat))) (h1 : w.cell? ⟨g, 1, none⟩ = some (.int .u8 (b1 : Nat))) (h2 : w.cell? ⟨g, 2, none⟩ = some (.int .u8 (b2 : Nat))) (h3 : w.cell? ⟨g, 3, none⟩ = some (.int .u8 (b3 : Nat))) :
    Row8 w (some ⟨g, 0, none⟩) 4 4 bs := by
  subst e0 e1 e2 e3
  refine ⟨hb, (fun h => by cases h), fun x hx i hi => ?_, Nat.le_refl _⟩
  cases hx
  have c : i = 0 ∨ i = 1 ∨ i = 2 ∨ i = 3 := by omega
  rcases c with rfl | rfl | rfl | rfl
  · exact h0
  · exact h1
  · exact h2
  · exact h3
set_option maxRecDepth 100000 in
set_option maxHeartbeats 1000000 in
theorem rsign_own (P : Pm) (hP : Pok P) (w : World) :
    Calls Tryz.prog 48 #[.agg #[.int .u32 (P.c : Nat), .int .i64 (P.o : Nat), .int .i64 (P.i : Nat), .int .i64 (P.t : Nat), .int .u32 (P.n : Nat)]] w fun e w' => ∃ g, e = .returned (.slice (some ⟨g, 0, none⟩) 4 4) ∧
      Hid (w'.heap[g]? = some (.cells #[.int .u8 (dsg P 0 : Nat), .int .u8 (dsg P 1 : Nat), .int .u8 (dsg P 2 : Nat), .int .u8 (dsg P 3 : Nat)] 5 (0, 0)) ∧ w.heap.size ≤ g ∧ Below w.heap.size w w') := by
  unfold dsg
  have hE := hP.ok
  have hc := hP.c
  have hn := hP.n
  generalize P.c = c at *
  generalize P.o = O at *
  generalize P.i = I at *
  generalize P.t = T at *
  generalize P.n = n at *
  have hb : Below w.heap.size w (w.alloc (.cells #[.int .u32 c, .int .i64 O, .int .i64 I, .int .i64 T, .int .u32 n] 36)) := (Below.refl _ _).alloc (Nat.le_refl _) _
  have hF := rencode_good c O I T n (w.alloc (.cells #[.int .u32 c, .int .i64 O, .int .i64 I, .int .i64 T, .int .u32 n] 36)) hc hn hE
  obtain ⟨_, hO, hI, _, _⟩ := hE
  have hby := pe_lt (c := c) (o := O) (i := I) (t := T) (n := n) (by omega) (by omega)
  have hk := PM.K_lt (pe c O I T n) 14
  have hB0 := fun a cap w1 (R1 : Row8 w1 a 14 cap (pe c O I T n)) => refSum_row a 14 cap (pe c O I T n) w1 R1 (by omega)
  obtain ⟨k, hkd⟩ : ∃ k, k = PM.K (pe c O I T n) 14 := ⟨_, rfl⟩
  rw [← hkd] at hk hB0 ⊢
  clear hO hI hkd hP
  go_enter Tryz.func48, Tryz.ntmps48
  go_wp2_with fail
  refine hF.mono ?_
  rintro e w1 ⟨a, cap, rfl, H1⟩
  obtain ⟨O1, hb1⟩ := H1.out
  have hb2 := below_all hb hb.size hb1
  obtain ⟨a1, c1, e1, R1⟩ := own_row8 O1 (fun k _ => hby k)
  simp only [Value.slice.injEq, true_and] at e1
  obtain ⟨rfl, rfl⟩ := e1
  have hB := hB0 _ _ w1 R1
  clear hb hF hb1 H1 O1 R1 hby hB0
  go_wp2_with fail
  refine hB.mono ?_
  rintro e w2 ⟨rfl, hb3'⟩
  have hb3 := below_all hb2 hb2.size hb3'
  clear hB hb3' hb2
  go_wp2_with fail
  refine (refWord_any k _ hk).mono ?_
  rintro e w4 ⟨rfl, rfl⟩
  have HB : Hid (_) := And.intro (heap_alloc_new w2 (.cells #[.int .u8 ((k : Int) / 16777216), .int .u8 ((k : Int) / 65536 % 256), .int .u8 ((k : Int) / 256 % 256), .int .u8 ((k : Int) % 256)] 5)) (And.intro hb3.size (hb3.alloc hb3.size (.cells #[.int .u8 ((k : Int) / 16777216), .int .u8 ((k : Int) / 65536 % 256), .int .u8 ((k : Int) / 256 % 256), .int .u8 ((k : Int) % 256)] 5)))
  have HK : Hid (_) := hk
  clear hb3 hk
  go_wp2_with fail
  go_ret
  have hk := HK.out
  have e0 : (k : Int) / 16777216 = ((PM.w4 k 0 : Nat) : Int) := by show _ = ((k / 16777216 % 256 : Nat) : Int); omega
  have e1 : (k : Int) / 65536 % 256 = ((PM.w4 k 1 : Nat) : Int) := by show _ = ((k / 65536 % 256 : Nat) : Int); omega
  have e2 : (k : Int) / 256 % 256 = ((PM.w4 k 2 : Nat) : Int) := by show _ = ((k / 256 % 256 : Nat) : Int); omega
  have e3 : (k : Int) % 256 = ((PM.w4 k 3 : Nat) : Int) := by show _ = ((k % 256 : Nat) : Int); omega
  have h := HB.out
  rw [← e0, ← e1, ← e2, ← e3]
  exact ⟨_, rfl, h⟩
def osig (P : Pm) (odd : Bool) : Nat → Nat := if odd = true then (fun i => if i = 0 then dsg P 0 ^^^ 1 else dsg P i) else dsg P
theorem osig_f (P : Pm) : osig P false = dsg P := by unfold osig; rw [if_neg (by simp)]
theorem osig_false (P : Pm) (i : Nat) : osig P false i = dsg P i := by unfold osig; rw [if_neg (by simp)]
theorem osig_zero (P : Pm) {x0 : Nat} (h : dsg P 0 ^^^ 1 = x0) : osig P true 0 = x0 := by unfold osig; rw [if_pos rfl, if_pos rfl, h]
theorem osig_succ (P : Pm) (i : Nat) (h : i ≠ 0) : osig P true i = dsg P i := by unfold osig; rw [if_pos rfl, if_neg h]
theorem xor1 (x : Nat) (h : x < 256) : bits .xor .u8 (x : Int) 1 = ((x ^^^ 1 : Nat) : Int) := u8_xor_nat x 1 h (by omega)
theorem so_facts (ss : Nat) : ∃ so : Nat, (ss + 1) % 4294967296 = so ∧ IntKind.u32.wrap ((ss : Int) + 1) = (so : Int) ∧ ((ss : Int) + 1) % 4294967296 = (so : Int) :=
  ⟨_, rfl, by rw [IntKind.wrap_u32]; omega, by omega⟩
theorem x0_facts (P : Pm) : ∃ x0 : Nat, dsg P 0 ^^^ 1 = x0 ∧ bits .xor .u8 (dsg P 0 : Int) 1 = (x0 : Int) := ⟨_, rfl, xor1 _ (dsg_byte P 0 (by omega))⟩
theorem encI_byte (k c s n : Nat) (f : Int) (len : Nat) (bs : Nat → Nat) (hb : ∀ i, i < len → bs i < 256) : ∀ i, i < (encI k c s n f len bs).1 → (encI k c s n f len bs).2 i < 256 := by
  unfold encI
  by_cases h : LW k c s n f len len = 0
  · have hf := (LW_zero h).2.2.2.2
    obtain ⟨F, rfl⟩ : ∃ F : Nat, f = (F : Int) := ⟨f.toNat, by omega⟩
    exact encF_byte k c s n F len bs hb
  · rw [if_neg h]; intro i hi; exact absurd hi (Nat.not_lt_zero i)
theorem encI_len (k c s n : Nat) (f : Int) (len : Nat) (bs : Nat → Nat) : (encI k c s n f len bs).1 ≤ 27 := by
  unfold encI
  by_cases h : LW k c s n f len len = 0
  · rw [if_pos h]
    have := (LW_zero h).2.2.2.1
    show 15 + len + 4 ≤ 27
    omega
  · rw [if_neg h]; show 0 ≤ 27; omega
theorem osig_byte (P : Pm) (odd : Bool) : ∀ i, i < 4 → osig P odd i < 256 := by
  intro i hi
  have h := dsg_byte P
  unfold osig
  cases odd
  · exact h i hi
  · show (if i = 0 then dsg P 0 ^^^ 1 else dsg P i) < 256
    split
    · exact Nat.xor_lt_two_pow (n := 8) (h 0 (by omega)) (by omega)
    · exact h i hi
theorem spoilt_DE {k c s n : Nat} {f : Int} {len : Nat} {bs f7 : Nat → Nat} {x d : Nat} (hx : x < 4294967296) (h0 : x ≠ 0) (hroom : PM.bl x ≤ 8 * (encI k c s n f len bs).1) (hV : PM.V (PM.fb f7) (8 * (encI k c s n f len bs).1) = PM.V (PM.fb (encI k c s n f len bs).2) (8 * (encI k c s n f len bs).1) ^^^ PM.C x (2 ^ d)) :
    DE f7 (encI k c s n f len bs).1 = 42 := by
  unfold encI at *
  by_cases hE : LW k c s n f len len = 0
  · rw [if_pos hE] at *
    have hz := LW_zero hE
    refine DE_check (by show 19 ≤ 15 + len + 4; omega) (by show 15 + len + 4 ≤ 27; omega) (fun h => ?_)
    have hS : PM.R PM.g 32 (PM.V (PM.fb (PM.sl (fr k c s n f.toNat len bs) (15 + len))) (8 * (15 + len + 4))) = 0 := PM.V_sl _ _
    unfold vld at h
    rw [hV, PM.R_xor] at h
    rw [show PM.R PM.g 32 (PM.V (PM.fb (15 + len + 4, PM.sl (fr k c s n f.toNat len bs) (15 + len)).2) (8 * (15 + len + 4, PM.sl (fr k c s n f.toNat len bs) (15 + len)).1)) = 0 from hS, Nat.zero_xor] at h
    exact h0 (PM.burst x d hx h)
  · rw [if_neg hE] at hroom
    exfalso
    have : PM.bl x ≤ 0 := hroom
    rw [PM.bl_pos h0] at this
    omega
theorem spoilt_f {k c s n : Nat} {f : Int} {len : Nat} {bs f7 : Nat → Nat} {x d : Nat} {F : Fm} (e : encI k c s n f len bs = F) (hx : x < 4294967296) (h0 : x ≠ 0) (hroom : PM.bl x ≤ 8 * F.1) (hV : PM.V (PM.fb f7) (8 * F.1) = PM.V (PM.fb F.2) (8 * F.1) ^^^ PM.C x (2 ^ d)) : DE f7 F.1 = 42 := by
  subst e
  exact spoilt_DE hx h0 hroom hV
end Go.Proofs.YtndjepeolamedaaGreat
namespace Go.Proofs.YtndjepeolamedaaGreat
set_option maxRecDepth 100000
open Go.RowKit
def hses (s : Sh) (odd : Bool) : Nat := if odd = true then (s.ss + 1) % 4294967296 else s.ss
def hnum (s : Sh) (N : Int) : Nat := (s.nm + (N % 4294967296).toNat) % 4294967296
def hofs (s : Sh) (N : Int) : Nat := (s.ss + (N % 4294967296).toNat) % 4294967296
def Fh (P : Pm) (s : Sh) (k N fl : Int) (odd : Bool) (len : Nat) (bs : Nat → Nat) (x : Nat) (f : Fm) : Prop :=
  (k = 1 → f = encI 17 P.c (hofs s N) 0 0 4 (osig P odd)) ∧ (k = 2 → f = encI 18 P.c (hses s odd) 0 0 0 (fun _ => 0)) ∧ (k = 3 → f = encI 19 P.c (hses s odd) 0 0 0 (fun _ => 0)) ∧
  (k = 4 → f = encI 20 P.c (hses s odd) (hnum s N) fl len bs) ∧ (k = 5 → f = encI 21 P.c (hses s odd) P.n 0 0 (fun _ => 0)) ∧ (k = 6 → f = (len, bs)) ∧
  (k = 7 → (x ≠ 0 ∧ PM.bl x ≤ 8 * (encI 20 P.c (hses s odd) (hnum s N) fl len bs).1) → DE f.2 f.1 = 42) ∧
  (k = 7 → ¬ (x ≠ 0 ∧ PM.bl x ≤ 8 * (encI 20 P.c (hses s odd) (hnum s N) fl len bs).1) → f = encI 20 P.c (hses s odd) (hnum s N) fl len bs)
theorem hnu_facts (s : Sh) (N : Int) : ∃ nN nu : Nat, hnum s N = nu ∧ nu < 4294967296 ∧ IntKind.u32.wrap N = (nN : Int) ∧ N % 4294967296 = (nN : Int) ∧ IntKind.u32.wrap ((s.nm : Int) + (nN : Int)) = (nu : Int) ∧ ((s.nm : Int) + (nN : Int)) % 4294967296 = (nu : Int) := by
  refine ⟨(N % 4294967296).toNat, hnum s N, rfl, by unfold hnum; omega, by rw [IntKind.wrap_u32]; omega, by omega, ?_, ?_⟩
  · rw [IntKind.wrap_u32]; unfold hnum; omega
  · unfold hnum; omega
theorem hos_facts (s : Sh) (N : Int) : ∃ nN nu : Nat, hofs s N = nu ∧ nu < 4294967296 ∧ IntKind.u32.wrap N = (nN : Int) ∧ N % 4294967296 = (nN : Int) ∧ IntKind.u32.wrap ((s.ss : Int) + (nN : Int)) = (nu : Int) ∧ ((s.ss : Int) + (nN : Int)) % 4294967296 = (nu : Int) := by
  refine ⟨(N % 4294967296).toNat, hofs s N, rfl, by unfold hofs; omega, by rw [IntKind.wrap_u32]; omega, by omega, ?_, ?_⟩
  · rw [IntKind.wrap_u32]; unfold hofs; omega
  · unfold hofs; omega
theorem hses_false (s : Sh) : hses s false = s.ss := by unfold hses; rw [if_neg (by simp)]
theorem hses_lt {s : Sh} (h : s.ss < 4294967296) (odd : Bool) : hses s odd < 4294967296 := by
  unfold hses
  split
  · omega
  · exact h
set_option maxHeartbeats 1600000 in
theorem hframe_any (k c s n : Nat) (f : Int) (a : Option Addr) (len cap : Nat) (bs : Nat → Nat) (w : World) (hr : Row8 w a len cap bs) (hc : c < 4294967296) (hs : s < 4294967296) (hn : n < 4294967296) :
    Calls Tryz.prog 41 #[.agg #[.int .i64 (k : Nat), .int .u32 (c : Nat), .int .u32 (s : Nat), .int .u32 (n : Nat), .int .i64 f, .slice a len cap]] w fun e w' => ∃ v, e = .returned v ∧ Hid (Fr w' w.heap.size v (encI k c s n f len bs) ∧ Below w.heap.size w w') := by
  have b0 : Below w.heap.size w (w.alloc (.cells #[.int .i64 (k : Nat), .int .u32 (c : Nat), .int .u32 (s : Nat), .int .u32 (n : Nat), .int .i64 f, .slice a len cap] 67)) := (Below.refl _ _).alloc (Nat.le_refl _) _
  have fin : Calls Tryz.prog 96 #[.agg #[.int .i64 (k : Nat), .int .u32 (c : Nat), .int .u32 (s : Nat), .int .u32 (n : Nat), .int .i64 f, .slice a len cap]] (w.alloc (.cells #[.int .i64 (k : Nat), .int .u32 (c : Nat), .int .u32 (s : Nat), .int .u32 (n : Nat), .int .i64 f, .slice a len cap] 67)) fun e w' => ∃ v E, e = .returned (.tuple #[v, .int .i64 E]) ∧ Hid (Fr w' w.heap.size v (encI k c s n f len bs) ∧ Below w.heap.size w w') := by
    unfold encI
    by_cases hE : LW k c s n f len len = 0
    · rw [if_pos hE]
      have hf := (LW_zero hE).2.2.2.2
      obtain ⟨F, rfl⟩ : ∃ F : Nat, f = (F : Int) := ⟨f.toNat, by omega⟩
      refine (refEncode_good k c s n F a len cap bs _ (hr.below b0) hc hs hn hE).mono ?_
      rintro e w' ⟨v, rfl, h4⟩
      exact ⟨v, 0, rfl, own_base h4.out.1 b0.size, b0.trans (h4.out.2.mono b0.size)⟩
    · rw [if_neg hE]
      refine (refEncode_bad k c s n f a len cap _ hE).mono ?_
      rintro e w' ⟨rfl, h4⟩
      exact ⟨_, _, rfl, own_nil _ _ _, b0.trans (h4.mono b0.size)⟩
  clear hr hc hs hn b0
  go_enter Tryz.func41, Tryz.ntmps41
  go_wp2_with fail
  refine fin.mono ?_
  rintro e w4 ⟨v, E, rfl, h4⟩
  clear fin
  go_wp2_with fail
  go_ret
  exact ⟨v, rfl, h4⟩
end Go.Proofs.YtndjepeolamedaaGreat
