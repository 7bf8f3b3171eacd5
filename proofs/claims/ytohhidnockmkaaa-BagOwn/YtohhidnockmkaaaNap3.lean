/- Apart as a whole, for lists of which some may be nil. -/
import Derived.Test.YtohhidnockmkaaaNap2
namespace Go.Proofs.Ytohhidnockmkaaa
open Go.RowKit
set_option maxRecDepth 100000 in
set_option maxHeartbeats 2000000 in
set_option linter.unusedSimpArgs false in
theorem apart_any (U : Nat → Prop) (m gl : Nat) (g : Nat → Option Nat) (n c : Nat → Nat) (w0 w : World) (F : Fx U m gl g n c) (hL : Ls w m gl g n c (fun _ => 0)) (hm : m ≤ 1000) (hm0 : 0 < m) (hbel : Kp U w0 w) (hB0 : ∀ k, U k → k < w0.heap.size) :
    Calls Try.prog 23 #[.slice (some ⟨gl, 0, none⟩) m m] w fun e w' => e = .returned (.bool true) ∧ Kp U w0 w' := by
  go_enter Try.func23, Try.ntmps23
  go_wp2_with fail
  go_loopw [3, 4] (fun ci _ wr => ∃ i t, i ≤ m ∧ ci = .int .i64 ((i : Nat) : Int) ∧ Ls wr m gl g n c t ∧ (∀ j, j < i → t j = n j) ∧ (∀ j, i ≤ j → t j = 0) ∧ Kp U w0 wr) (fun ci _ _ => m - (intOf ci).toNat)
  case atStart => exact ⟨0, (fun _ => 0), by omega, rfl, hL, (fun j hj => by omega), (fun j _ => rfl), hbel⟩
  case round =>
    clear hL hbel
    obtain ⟨i, t, hi, rfl, L, hdone, hzero, hb⟩ := hrel
    by_cases hlt : i < m
    · have hdI : decide ((i : Int) < (m : Int)) = true := by simp; omega
      have HL : Hid (_) := And.intro L (And.intro hdone (And.intro hzero hb))
      clear L hdone hzero hb
      go_wp2_with fail
      go_loopw [4] (fun ck wr => ∃ k t, k ≤ n i ∧ ck = .int .i64 ((k : Nat) : Int) ∧ Ls wr m gl g n c t ∧ (∀ j, j < i → t j = n j) ∧ (∀ j, i < j → t j = 0) ∧ t i = k ∧ Kp U w0 wr) (fun ck _ => n i - (intOf ck).toNat)
      case atStart => exact ⟨0, t, by omega, rfl, HL.out.1, HL.out.2.1, (fun j hj => HL.out.2.2.1 j (by omega)), HL.out.2.2.1 i (by omega), HL.out.2.2.2⟩
      case round =>
        clear HL
        obtain ⟨k, t, hk, rfl, L, hdone, hzero, htk, hb⟩ := hrel
        have hcl := L.cells i hlt
        have hns := F.small i hlt
        by_cases hlt2 : k < n i
        · obtain ⟨gi, hgi⟩ : ∃ b, g i = some b := by
            cases hgo : g i with
            | none => have := F.nil i hlt hgo; omega
            | some b => exact ⟨b, rfl⟩
          rw [show sa (g i) = some ⟨gi, 0, none⟩ by rw [hgi]; rfl] at hcl
          obtain ⟨cur, q1, q2, q3⟩ := L.rows i hlt gi hgi
          have hkc : k < c i := Nat.lt_of_lt_of_le hlt2 (F.le i hlt)
          have hcell : wr.cell? ⟨gi, k, none⟩ = some (cur[k]'(by omega)) := by rw [cell_of_row _ _ _ _ _ _ q1, Array.getElem?_eq_getElem (by omega)]
          have hfro : wr.frozen? ⟨gi, k, none⟩ = false := frozen_of_row _ _ _ _ _ q1
          have hM := mark_any i k wr.drew (by omega) (by omega)
          have hP := L.drew.put F hlt (by rw [htk]; exact hkc) hgi
          rw [htk] at hP
          have hb2 := hb.drew.setCell (p := ⟨gi, k, none⟩) (F.base i hlt gi hgi) (.int .u8 (mrk i k : Nat))
          have H2 : Hid (_) := And.intro hP (And.intro (fun j (hj : j < i) => show (if j = i then k + 1 else t j) = n j by rw [if_neg (by omega)]; exact hdone j hj) (And.intro (fun j (hj : i < j) => show (if j = i then k + 1 else t j) = 0 by rw [if_neg (by omega)]; exact hzero j hj) hb2))
          generalize cur[k]'(by omega) = old at *
          clear L hdone hzero htk hb q1 q2 q3 hP hb2 hgi
          generalize mrk i k = y at *
          generalize n i = ni at *
          generalize c i = cc at *
          go_wp2_with fail
          go_region_with (go_at_call 36; refine hM.mono ?_; rintro e w2 ⟨rfl, rfl⟩)
          all_goals go_wp2_with fail
          all_goals go_roundw
          all_goals first | exact ⟨k + 1, _, by omega, by go_num, H2.out.1, H2.out.2.1, H2.out.2.2.1, by simp, H2.out.2.2.2⟩ | (simp [intOf]; omega)
        · have hkn : t i = n i := by omega
          have H2 : Hid (_) := And.intro L (And.intro (fun j (hj : j < i + 1) => show t j = n j by
            by_cases e : j = i
            · rw [e]; exact hkn
            · exact hdone j (by omega)) (And.intro (fun j (hj : i + 1 ≤ j) => hzero j (by omega)) hb))
          clear L hdone hzero htk hb hkn
          generalize sa (g i) = ai at *
          generalize n i = ni at *
          go_wp2
          go_roundw
          case rel => exact ⟨i + 1, t, by omega, by go_num, H2.out.1, H2.out.2.1, H2.out.2.2.1, H2.out.2.2.2⟩
          case measure => simp [intOf] <;> omega
    · obtain rfl : m = i := by omega
      obtain ⟨i0, hi0, hz0, hz1, hz2⟩ := info_parts info_bs
      have hBr : ∀ k, U k → k < wr.heap.size := fun k hk => Nat.lt_of_lt_of_le (hB0 k hk) hb.size
      have hgl : gl < wr.heap.size := World.block_lt_of_cell? wr _ (L.cells 0 hm0)
      have hsrc := L.src (wx := wr.alloc (.cells #[] 31)) (fun i => World.cell?_of_block (w := wr) (heap_alloc_old wr _ hgl))
      have hown0 : (wr.alloc (.cells #[] 31)).ownsRow wr.heap.size 31 1 (.slice (some ⟨wr.heap.size, 0, none⟩) 0 0) 0 [] := ⟨rfl, .inr ⟨wr.heap.size, 0, #[], rfl, Nat.le_refl _, heap_alloc_new wr _, Nat.le_refl _, by unfold maxLen; omega, rfl, rfl⟩⟩
      have HL : Hid (_) := And.intro L (And.intro hdone hb)
      clear L hdone hzero hb
      go_wp2_with (at_builtin; refine wpList_append_own _ rfl (.tmp 35) (.tmp 36) 27 rfl wr.heap.size 31 i0 (.slice none 0 0) 1 24 Try.underlying27 hi0 hz0 hz1 hz2 rfl (by decide) _ 0 [] rfl hown0 ⟨gl, 0, none⟩ m m (LSl g n c m) rfl (by rw [LSl_length]; omega) hsrc (LSl_one g n c m) (by unfold maxLen; omega) (by omega) (by simp) ?_)
      intro v2 w2 hown2 hgrow2 _
      obtain ⟨gg, cap, rfl, P, G⟩ := G2.start F HL.out.1 HL.out.2.1 hm0 HL.out.2.2 hBr (by simpa using hown2) (fun k hk => (hgrow2.block k (by simp; omega) (by simp [Value.ownBlock]; omega)).trans (heap_alloc_old wr _ hk)) hgrow2.os hgrow2.tape hgrow2.output (Nat.le_trans (by simp) hgrow2.size)
      generalize w2.heap.size = F0 at P G
      have HF : Hid (Fx U m gl g n c) := F
      have HP : Hid (Pl U m gl gg F0 g) := P
      clear hown2 hgrow2 hown0 hsrc HL hi0 hz0 hz1 hz2 i0 hgl hBr P
      go_wp2_with fail
      go_loopw [6, 7] (fun cn _ wr => ∃ r tau bb cc, r ≤ 40 ∧ cn = .int .i64 ((r : Nat) : Int) ∧ G2 U m gl gg F0 g n c w0 wr tau bb cc ∧ (∀ j, j < m → tau j = r)) (fun cn _ _ => 40 - (intOf cn).toNat)
      case atStart => exact ⟨0, _, _, _, by omega, rfl, G, fun _ _ => rfl⟩
      case round =>
        clear G
        obtain ⟨r, tau, bb, cc, hr, rfl, G, htau⟩ := hrel
        by_cases hlt3 : r < 40
        · have hd3 : decide ((r : Int) < 40) = true := by simp; omega
          have HG : Hid (_) := And.intro G htau
          clear G htau
          go_wp2_with fail
          go_loopw [7] (fun ci wr => ∃ i tau bb cc, i ≤ m ∧ ci = .int .i64 ((i : Nat) : Int) ∧ G2 U m gl gg F0 g n c w0 wr tau bb cc ∧ (∀ j, j < i → tau j = r + 1) ∧ (∀ j, i ≤ j → j < m → tau j = r)) (fun ci _ => m - (intOf ci).toNat)
          case atStart => exact ⟨0, tau, bb, cc, by omega, rfl, HG.out.1, (fun j hj => by omega), (fun j _ hj => HG.out.2 j hj)⟩
          case round =>
            clear HG
            obtain ⟨i, tau, bb, cc, hi, rfl, G, hdone, hrest⟩ := hrel
            by_cases hlt4 : i < m
            · have hd4 : decide ((i : Int) < (m : Int)) = true := by simp; omega
              have hti := hrest i (Nat.le_refl _) hlt4
              have hsm := HF.out.small i hlt4
              obtain ⟨N, hNe⟩ : ∃ N, N = n i + tau i := ⟨_, rfl⟩
              obtain ⟨bi, hbe⟩ : ∃ b, b = bb i := ⟨_, rfl⟩
              obtain ⟨ci, hce⟩ : ∃ b, b = cc i := ⟨_, rfl⟩
              obtain ⟨y, hye⟩ : ∃ y, y = mrk i N := ⟨_, rfl⟩
              have hN : N + 1 ≤ 1000000000 := by omega
              have hN2 : N ≤ 100000000 := by omega
              have hcl := G.cells i hlt4
              rw [← hNe, ← hbe, ← hce] at hcl
              have hM := mark_any i N wr.drew (by omega) (by omega)
              rw [← hye] at hM
              have hgs := World.block_lt_of_cell? _ _ hcl
              have hcl2 : (wr.drew.alloc (.cells #[.int .u8 (y : Nat)] 5)).cell? ⟨gg, i, none⟩ = some (.slice (sa bi) N ci) := (World.cell?_of_block (w := wr) (a := ⟨gg, i, none⟩) (heap_alloc_old wr.drew _ hgs)).trans hcl
              have HH : Hid (_) := And.intro hlt4 (And.intro HP.out (And.intro G (And.intro hNe (And.intro hbe (And.intro hce (And.intro hye hN))))))
              have HT : Hid ((∀ j, j < i + 1 → (if j = i then tau i + 1 else tau j) = r + 1) ∧ (∀ j, i + 1 ≤ j → j < m → (if j = i then tau i + 1 else tau j) = r)) := ⟨fun j hj => by
                by_cases e : j = i
                · rw [if_pos e, hti]
                · rw [if_neg e]; exact hdone j (by omega), fun j h1 h2 => by rw [if_neg (by omega)]; exact hrest j (by omega) h2⟩
              clear hNe hbe hce hye hN G hdone hrest hti hsm
              go_wp2_with fail
              go_region_law (first | (refine step_grow i N bi ci y HH rfl (.tmp 53) (.tmp 61) rfl (by simp [Act.eval, Act.put]) (by simp [Act.eval, Act.put]) ?_; intro b2 cap2 w3 hcl3 hfr3 HG3) | (refine step_same rfl 36 #[.int .i64 i, .int .i64 N] (.int .u8 (y : Nat)) hM (by kernel_rfl) ?_))
              all_goals go_wp2_with fail
              all_goals go_roundw
              all_goals first | exact ⟨i + 1, _, _, _, by omega, by go_num, HG3.out, HT.out.1, HT.out.2⟩ | (simp [intOf]; omega)
            · obtain rfl : m = i := by omega
              have HG : Hid (_) := And.intro G hdone
              clear G hdone hrest
              go_wp2
              go_roundw
              case rel => exact ⟨r + 1, tau, bb, cc, by omega, by go_num, HG.out.1, HG.out.2⟩
              case measure => simp [intOf] <;> omega
        · have G4 := G.at_r (r := 40) (fun j hj => (htau j hj).trans (by omega))
          clear G htau
          have HG : Hid (_) := G4
          clear G4
          go_wp2_with fail
          go_loopw [2, 8, 9, 10] (fun _ ci _ _ wr => ∃ i bb cc, i ≤ m ∧ ci = .int .i64 ((i : Nat) : Int) ∧ G2 U m gl gg F0 g n c w0 wr (fun _ => 40) bb cc) (fun _ ci _ _ _ => m - (intOf ci).toNat)
          case atStart => exact ⟨0, bb, cc, by omega, rfl, HG.out⟩
          case round =>
            clear HG
            obtain ⟨i, bb, cc, hi, rfl, G⟩ := hrel
            by_cases hlt5 : i < m
            · have hd5 : decide ((i : Int) < (m : Int)) = true := by simp; omega
              have hsm := HF.out.small i hlt5
              have HG : Hid (_) := G
              clear G
              go_wp2_with fail
              go_loopw [2, 9] (fun _ ck wr => ∃ k bb cc, k ≤ n i + 40 ∧ ck = .int .i64 ((k : Nat) : Int) ∧ G2 U m gl gg F0 g n c w0 wr (fun _ => 40) bb cc) (fun _ ck _ => n i + 40 - (intOf ck).toNat)
              case atStart => exact ⟨0, bb, cc, by omega, rfl, HG.out⟩
              case round =>
                clear HG
                obtain ⟨k, bb, cc, hk, rfl, G⟩ := hrel
                have hcl := G.cells i hlt5
                by_cases hlt6 : k < n i + 40
                · obtain ⟨N, hNe⟩ : ∃ N, N = n i + 40 := ⟨_, rfl⟩
                  have hOw := G.own i hlt5
                  obtain ⟨bi, hbi⟩ : ∃ b, bb i = some b := by
                    cases hbo : bb i with
                    | none =>
                      rw [hbo] at hOw
                      rcases hOw.2 with ⟨e, _⟩ | ⟨_, _, _, e, _⟩
                      · simp only [Value.slice.injEq] at e; omega
                      · simp [sa] at e
                    | some b => exact ⟨b, rfl⟩
                  rw [show sa (bb i) = some ⟨bi, 0, none⟩ by rw [hbi]; rfl] at hcl hOw
                  have hcell := hOw.cellAt k (by omega)
                  rw [CB_get _ _ _ hlt6] at hcell
                  rw [← hNe] at hcl hlt6
                  have hd6 : decide ((k : Int) < (N : Int)) = true := by simp; omega
                  have hM := mark_any i k wr.drew (by omega) (by omega)
                  have HN : Hid (N = n i + 40) := hNe
                  have HG : Hid (_) := G.drew
                  clear G hNe hOw hbi
                  generalize mrk i k = y at *
                  generalize cc i = ci at *
                  go_wp2_with fail
                  go_region_with (go_at_call 36; refine hM.mono ?_; rintro e w2 ⟨rfl, rfl⟩)
                  all_goals go_wp2_with fail
                  all_goals go_roundw
                  all_goals have hNe := HN.out
                  all_goals first | exact ⟨k + 1, _, _, by omega, by go_num, HG.out⟩ | (simp [intOf]; omega)
                · obtain ⟨N, hNe⟩ : ∃ N, N = n i + 40 := ⟨_, rfl⟩
                  rw [← hNe] at hcl hlt6
                  have HG : Hid (_) := G
                  clear G hNe
                  generalize sa (bb i) = ab at *
                  go_wp2_with fail
                  go_loopw [2, 10] (fun _ ck wr => ∃ k bb cc, k ≤ n i ∧ ck = .int .i64 ((k : Nat) : Int) ∧ G2 U m gl gg F0 g n c w0 wr (fun _ => 40) bb cc) (fun _ ck _ => n i - (intOf ck).toNat)
                  case atStart => exact ⟨0, bb, cc, by omega, rfl, HG.out⟩
                  case round =>
                    clear HG
                    obtain ⟨k, bb, cc, hk, rfl, G⟩ := hrel
                    have hcl := G.lists i hlt5
                    by_cases hlt7 : k < n i
                    · obtain ⟨gi, hgi⟩ : ∃ b, g i = some b := by
                        cases hgo : g i with
                        | none => have := HF.out.nil i hlt5 hgo; omega
                        | some b => exact ⟨b, rfl⟩
                      rw [show sa (g i) = some ⟨gi, 0, none⟩ by rw [hgi]; rfl] at hcl
                      have hcell := G.old i hlt5 gi hgi k hlt7
                      obtain ⟨N, hNe⟩ : ∃ N, N = n i := ⟨_, rfl⟩
                      rw [← hNe] at hcl hlt7
                      have hd7 : decide ((k : Int) < (N : Int)) = true := by simp; omega
                      have hM := mark_any i k wr.drew (by omega) (by omega)
                      have HN : Hid (N = n i) := hNe
                      have HG : Hid (_) := G.drew
                      clear G hNe hgi
                      generalize mrk i k = y at *
                      generalize c i = ci at *
                      go_wp2_with fail
                      go_region_with (go_at_call 36; refine hM.mono ?_; rintro e w2 ⟨rfl, rfl⟩)
                      all_goals go_wp2_with fail
                      all_goals go_roundw
                      all_goals have hNe := HN.out
                      all_goals first | exact ⟨k + 1, _, _, by omega, by go_num, HG.out⟩ | (simp [intOf]; omega)
                    · obtain ⟨N, hNe⟩ : ∃ N, N = n i := ⟨_, rfl⟩
                      rw [← hNe] at hcl hlt7
                      have HG : Hid (_) := G
                      clear G hNe
                      generalize sa (g i) = ag at *
                      go_wp2
                      go_roundw
                      case rel => exact ⟨i + 1, bb, cc, by omega, by go_num, HG.out⟩
                      case measure => simp [intOf] <;> omega
            · obtain rfl : m = i := by omega
              have HG : Hid (_) := G.below
              clear G
              go_wp2
              go_ret
              exact ⟨rfl, HG.out⟩
/-- A list that is nil or lies at the head of a block that is B or above. -/
structure Lst (B : Nat) (w : World) (o : Option Nat) (n c : Nat) : Prop where
  le : n ≤ c
  small : n ≤ 1000000
  cmax : c ≤ maxLen
  nil : o = none → n = 0 ∧ c = 0
  row : ∀ x, o = some x → B ≤ x ∧ ∃ cur, w.heap[x]? = some (.cells cur 5 (0, 0)) ∧ cur.size = c
theorem Lst.lt {B n c : Nat} {w : World} {o : Option Nat} (h : Lst B w o n c) {x : Nat} (hx : o = some x) : B ≤ x ∧ x < w.heap.size := by
  obtain ⟨h1, cur, h2, _⟩ := h.row x hx
  exact ⟨h1, (Array.getElem?_eq_some_iff.mp h2).1⟩
theorem Lst.below {B n c : Nat} {w w' : World} {o : Option Nat} (h : Lst B w o n c) (hb : Below w.heap.size w w') : Lst B w' o n c :=
  ⟨h.le, h.small, h.cmax, h.nil, fun x hx => by
    obtain ⟨h1, cur, h2, h3⟩ := h.row x hx
    exact ⟨h1, cur, (hb.block x (Array.getElem?_eq_some_iff.mp h2).1).trans h2, h3⟩⟩
theorem Lst.base {B B' n c : Nat} {w : World} {o : Option Nat} (h : Lst B w o n c) (hb : B' ≤ B) : Lst B' w o n c :=
  ⟨h.le, h.small, h.cmax, h.nil, fun x hx => ⟨Nat.le_trans hb (h.row x hx).1, (h.row x hx).2⟩⟩
theorem Lst.ofNil (B : Nat) (w : World) : Lst B w none 0 0 := ⟨Nat.le_refl _, by omega, by unfold maxLen; omega, fun _ => ⟨rfl, rfl⟩, fun x hx => by cases hx⟩
theorem Lst.ofOwn {B n : Nat} {w : World} {v : Value} {xs : List Value} (h : w.ownsRow B 5 1 v n xs) (hn : n ≤ 1000000) : ∃ o c, v = .slice (sa o) n c ∧ Hid (Lst B w o n c) := by
  rcases h.2 with ⟨rfl, rfl⟩ | ⟨g, cap, cur, rfl, h1, h2, h3, h4, h5, _⟩
  · exact ⟨none, 0, rfl, Lst.ofNil B w⟩
  · exact ⟨some g, cap, rfl, h3, hn, h4, (fun e => by cases e), fun x hx => by cases hx; exact ⟨h1, cur, h2, by omega⟩⟩
/-- Apart of m lists, the list of them made for it; the blocks of U, among which none of the lists lies, are kept. -/
theorem apart_keep (U : Nat → Prop) (m : Nat) (o : Nat → Option Nat) (n c : Nat → Nat) (A : Array Value) (w0 w : World) (hA : A = (LSl o n c m).toArray) (h : ∀ i, i < m → Lst 0 w (o i) (n i) (c i)) (hd : ∀ i j, i < m → j < m → i ≠ j → ∀ x, o i = some x → o j ≠ some x) (hm : m ≤ 1000) (hm0 : 0 < m)
    (hU : ∀ i, i < m → ∀ x, o i = some x → ¬ U x) (hbel : Kp U w0 w) (hB0 : ∀ k, U k → k < w0.heap.size) :
    Calls Try.prog 23 #[.slice (some ⟨w.heap.size, 0, none⟩) m m] (w.alloc (.cells A 31)) fun e w' => e = .returned (.bool true) ∧ Kp U w0 w' := by
  have hs := hbel.size
  have hrow := heap_alloc_new w (.cells A 31)
  refine apart_any U m w.heap.size o n c w0 _ ⟨fun i hi => (h i hi).le, fun i hi => (h i hi).small, fun i hi => (h i hi).cmax, fun i hi => (h i hi).nil, hd, fun i hi e => ?_, hU⟩ ⟨fun i hi => ?_, fun i hi x hx => ?_⟩ hm hm0 (hbel.alloc (fun k hk => Nat.lt_of_lt_of_le (hB0 k hk) hs) _) hB0
  · have := (h i hi).lt e
    omega
  · rw [cell_of_row _ _ _ _ _ _ hrow, hA, List.getElem?_toArray, LSl_get _ _ _ _ _ hi]
  · obtain ⟨_, cur, h1, h2⟩ := (h i hi).row x hx
    exact ⟨cur, (heap_alloc_old w _ ((h i hi).lt hx).2).trans h1, h2, fun k hk => absurd hk (Nat.not_lt_zero k)⟩
theorem apart_lists (B m : Nat) (o : Nat → Option Nat) (n c : Nat → Nat) (A : Array Value) (w0 w : World) (hA : A = (LSl o n c m).toArray) (h : ∀ i, i < m → Lst B w (o i) (n i) (c i)) (hd : ∀ i j, i < m → j < m → i ≠ j → ∀ x, o i = some x → o j ≠ some x) (hm : m ≤ 1000) (hm0 : 0 < m) (hbel : Below B w0 w) (hB0 : B ≤ w0.heap.size) :
    Calls Try.prog 23 #[.slice (some ⟨w.heap.size, 0, none⟩) m m] (w.alloc (.cells A 31)) fun e w' => e = .returned (.bool true) ∧ Below B w0 w' :=
  (apart_keep (fun k => k < B) m o n c A w0 w hA (fun i hi => (h i hi).base (Nat.zero_le _)) hd hm hm0 (fun i hi x hx => by have := ((h i hi).lt hx).1; omega) (Kp.ofBelow hbel) (fun k hk => by omega)).mono fun _ _ ⟨he, hk⟩ => ⟨he, hk.below⟩

end Go.Proofs.Ytohhidnockmkaaa
