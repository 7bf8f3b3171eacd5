/- Layer 20: the walk of ScriptRemarks. (genlsrm.py) -/
import Derived.Test.YtnmnjcjfgbpkaaaDoorJLawSPa
namespace Go.Proofs.YtnmnjcjfgbpkaaaDoor
set_option maxRecDepth 100000
open Go.RowKit Go.Maps
set_option maxRecDepth 100000
set_option linter.unusedVariables false
/-- A remark's first bytes, without ends of lines. -/
def sdOf (r : List UInt8) (i : Nat) : List UInt8 := (r.take i).filter fun c => c != 10
theorem sdOf_len (r : List UInt8) (i : Nat) : (sdOf r i).length ≤ r.length := by
  unfold sdOf
  have h1 := List.length_filter_le (fun c => c != 10) (r.take i)
  have h2 := List.length_take_le i r
  have h3 : (r.take i).length ≤ r.length := by rw [List.length_take]; omega
  omega
theorem sdOf_no (r : List UInt8) (i : Nat) : (10 : UInt8) ∉ sdOf r i := by
  unfold sdOf
  intro h
  have := (List.mem_filter.1 h).2
  simp at this
theorem sdOf_next {r : List UInt8} {i : Nat} (h : i < r.length) : sdOf r (i + 1) = if (r.getD i 0).toNat = 10 then sdOf r i else sdOf r i ++ [r.getD i 0] := by
  unfold sdOf
  have e : r.take (i + 1) = r.take i ++ [r[i]] := List.take_succ_eq_append_getElem h
  have g : r.getD i 0 = r[i] := by simp [List.getD_eq_getElem?_getD, List.getElem?_eq_getElem h]
  rw [e, List.filter_append, g]
  by_cases q : r[i] = 10
  · rw [q]
    simp
  · have q2 : ¬ (r[i]).toNat = 10 := fun x => q (UInt8.toNat_inj.1 x)
    rw [if_neg q2]
    simp [q]
/-- The lines so far, with what stands around them. -/
def dcT (ls : List (List UInt8)) (sd : List UInt8) (i : Nat) : List UInt8 := jnL ((ls.take i).map (decL sd))
theorem dcT_next {ls : List (List UInt8)} {sd : List UInt8} {i : Nat} (h : i < ls.length) : dcT ls sd (i + 1) = (if i = 0 then dcT ls sd i else dcT ls sd i ++ [10]) ++ decL sd (wsL ls i) := by
  unfold dcT
  have e : ls.take (i + 1) = ls.take i ++ [ls[i]] := List.take_succ_eq_append_getElem h
  have g : wsL ls i = ls[i] := by simp [wsL, List.getD_eq_getElem?_getD, List.getElem?_eq_getElem h]
  rw [e, List.map_append, g]
  by_cases q : i = 0
  · subst q
    simp [jnL]
  · rw [if_neg q, List.map_singleton, jnL_snoc _ _ (by
      intro h2
      have h3 : ((ls.take i).map (decL sd)).length = 0 := by rw [h2]; rfl
      rw [List.length_map, List.length_take] at h3
      omega)]
    simp
theorem dcT_len (ls : List (List UInt8)) (sd : List UInt8) (hs : sd.length ≤ 100) : ∀ i, i ≤ ls.length → (∀ j, j < i → (wsL ls j).length ≤ 800) → (dcT ls sd i).length ≤ i * 1000 := by
  intro i
  induction i with
  | zero => intro _ _; simp [dcT, jnL]
  | succ i ih =>
    intro hi h8
    have h1 := ih (by omega) (fun j hj => h8 j (by omega))
    have h2 := h8 i (by omega)
    rw [dcT_next (by omega)]
    simp only [decL, List.length_append, List.length_cons, List.length_nil]
    split
    · omega
    · simp only [List.length_append, List.length_cons, List.length_nil]
      omega
theorem row1N (w : World) : Row8 (w.alloc (.cells #[.int .u8 10] 5)) (some ⟨w.heap.size, 0, none⟩) 1 1 (fun _ => 10) := by
  refine ⟨fun _ _ => by omega, (fun h => by cases h), fun x hx i hi => ?_, by omega⟩
  cases hx
  obtain rfl : i = 0 := by omega
  exact cell_of_row _ _ 0 _ _ _ (heap_alloc_new w (.cells #[.int .u8 10] 5))
/-- What the second loop keeps. -/
def RmS (ls : List (List UInt8)) (sd : List UInt8) (B : Nat) (w wr : World) (v : Value) (i : Nat) : Prop := i ≤ ls.length ∧ (∀ j, j < i → (wsL ls j).length ≤ 800) ∧ wr.ownsRow B 5 1 v (dcT ls sd i).length (vb (dcT ls sd i)) ∧ Below B w wr
set_option maxHeartbeats 8000000 in
theorem scriptRemarks_any (l rm : List UInt8) (mx : Int) (w : World) (hmx : w.cell? ⟨1, 0, none⟩ = some (.int .i64 mx)) (Lv : Lw w) : Calls Tryd.prog 6 #[.string (tx l), .string (tx rm)] w fun r w' => r = .returned (.bool true) ∧ Below w.heap.size w w' := by
  have ha := awake20 w Lv
  have hXs : (tx l).size = l.length := tx_size l
  have hYs : (tx rm).size = rm.length := tx_size rm
  have HA : Hid (Lw w ∧ w.cell? ⟨1, 0, none⟩ = some (.int .i64 mx)) := ⟨Lv, hmx⟩
  clear Lv hmx
  by_cases hg : l.length ≤ 16384 ∧ rm.length ≤ 100
  rotate_left
  · have two : (16384 : Int) < (((tx l).size : Nat) : Int) ∨ (¬ (16384 : Int) < (((tx l).size : Nat) : Int) ∧ (100 : Int) < (((tx rm).size : Nat) : Int)) := by omega
    obtain ⟨X, hX⟩ : ∃ y, tx l = y := ⟨_, rfl⟩
    obtain ⟨Y, hY⟩ : ∃ y, tx rm = y := ⟨_, rfl⟩
    rw [hX, hY] at two ⊢
    clear hg hX hXs hY hYs
    rcases two with q1 | ⟨q1, q2⟩
    all_goals
      go_enter Tryd.func6, Tryd.ntmps6
      go_wp2_with fail
      refine ha.mono ?_
      rintro r w1 ⟨rfl, b1⟩
      have HB : Hid (Below w.heap.size w w1) := b1
      clear ha b1
      go_wp2_with fail
      go_ret
      exact ⟨rfl, HB.out⟩
  have q1 : ¬ (16384 : Int) < (((tx l).size : Nat) : Int) := by omega
  have q2 : ¬ (100 : Int) < (((tx rm).size : Nat) : Int) := by omega
  have hp : ∀ (k : List UInt8) wx, k.length ≤ 262144 → Below w.heap.size w wx → Calls Tryd.prog 8 #[.string (tx k)] wx (PaP (psSn k) (psBad k).1 (psBad k).2 wx) := fun k wx hk p => pparse k hk wx (HA.out.1.below p) mx (World.block_lt_of_cell? wx _ (cellB HA.out.2 p)) (cellB HA.out.2 p)
  have hsx := sidx rm
  have hln : ∀ wx, Calls Tryd.prog 18 #[.string (tx l)] wx (WoP (lnOf l) wx) := fun wx => rlines l (by omega) wx
  have hl1 := hp l
  have HD : Hid (_) := And.intro hp hg
  have HG : Hid (rm.length ≤ 100 ∧ (tx rm).size = rm.length) := ⟨hg.2, hYs⟩
  obtain ⟨X, hX⟩ : ∃ y, tx l = y := ⟨_, rfl⟩
  obtain ⟨Y, hY⟩ : ∃ y, tx rm = y := ⟨_, rfl⟩
  rw [hX] at hln hl1 q1 ⊢
  rw [hY] at hsx q2 HG ⊢
  have HC : Hid (_) := And.intro hln (And.intro hl1 hsx)
  clear hp hln hl1 hsx hX hY hXs hYs hg
  go_enter Tryd.func6, Tryd.ntmps6
  go_wp2_with fail
  refine ha.mono ?_
  rintro r w1 ⟨rfl, b1⟩
  have HB1 : Hid (Below w.heap.size w w1) := b1
  clear ha b1
  go_wp2_with fail
  clear q1 q2
  go_loopw [5, 6, 28, 29, 30, 31, 32, 33, 34, 35, 36, 37, 38, 39, 40, 41, 42, 43, 44] (fun s c _ _ _ _ _ _ _ _ _ _ _ _ _ _ _ _ _ wr => ∃ i : Nat, i ≤ rm.length ∧ s = .string (tx (sdOf rm i)) ∧ c = .int .i64 ((i : Nat) : Int) ∧ Hid (Below w.heap.size w wr)) (fun _ c _ _ _ _ _ _ _ _ _ _ _ _ _ _ _ _ _ _ => rm.length - natV c)
  case atStart => exact ⟨0, by omega, rfl, rfl, HB1⟩
  case round =>
    obtain ⟨i, hi, rfl, rfl, HI⟩ := hrel
    by_cases hlt : i < rm.length
    · have hlt' : ((i : Nat) : Int) < ((Y.size : Nat) : Int) := by have := HG.out; omega
      have hw1 : IntKind.i64.wrap (((i : Nat) : Int) + 1) = ((i + 1 : Nat) : Int) := by rw [IntKind.wrap_i64]; have := HG.out; omega
      have x1 := HC.out.2.2 i hlt
      have hnx := sdOf_next hlt
      have hsl := sdOf_len rm i
      have ebt : UInt8.ofNat (rm.getD i 0).toNat = rm.getD i 0 := by simp
      obtain ⟨b, hb⟩ : ∃ y, (rm.getD i 0).toNat = y := ⟨_, rfl⟩
      have hb256 : b < 256 := by rw [← hb]; exact UInt8.toNat_lt _
      rw [hb] at x1 hnx ebt
      clear hb
      by_cases h10 : b = 10
      · subst h10
        have HN : Hid (sdOf rm (i + 1) = sdOf rm i) := hnx
        obtain ⟨U, hU⟩ : ∃ U, tx (sdOf rm i) = U := ⟨_, rfl⟩
        rw [hU]
        have HU : Hid (_) := hU
        clear hnx ebt hU hsl
        go_wp2_with fail
        go_roundw
        case rel => exact ⟨i + 1, by omega, by rw [HN.out, HU.out], by first | rfl | go_num, HI⟩
        case measure => simp [natV] <;> omega
      · rw [if_neg h10] at hnx
        have p10 : (((b : Nat) : Int) != 10) = true := by rw [bne_iff_ne]; omega
        have cv := conv_one wr b hb256
        have HN : Hid (sdOf rm (i + 1) = sdOf rm i ++ [UInt8.ofNat b]) := by show _ = _; rw [ebt]; exact hnx
        have HB : Hid (Below w.heap.size w (wr.alloc (.cells #[.int .u8 ((b : Nat) : Int)] 5))) := belA HI.out _
        obtain ⟨V, hV⟩ : ∃ V, tx [UInt8.ofNat b] = V := ⟨_, rfl⟩
        obtain ⟨U, hU⟩ : ∃ U, tx (sdOf rm i) = U := ⟨_, rfl⟩
        rw [hV] at cv
        rw [hU]
        have hsz : ¬ 9223372036854775807 < U.size + V.size := by
          rw [← hV, ← hU, tx_size, tx_size]
          have := HG.out
          simp
          omega
        have HU : Hid (U ++ V = tx (sdOf rm i ++ [UInt8.ofNat b])) := by
          show U ++ V = _
          rw [← hV, ← hU, tx_app]
        clear hV hU hsl hnx ebt hb256 h10
        go_wp2_with fail
        go_roundw
        case rel => exact ⟨i + 1, by omega, by rw [HU.out, HN.out], by first | rfl | go_num, HB⟩
        case measure => simp [natV] <;> omega
    · obtain rfl : i = rm.length := by omega
      have hlt' : ¬ ((rm.length : Nat) : Int) < ((Y.size : Nat) : Int) := by have := HG.out; omega
      have hs1 := sdOf_len rm rm.length
      have hs2 := sdOf_no rm rm.length
      obtain ⟨sd, hsd⟩ : ∃ y, sdOf rm rm.length = y := ⟨_, rfl⟩
      rw [hsd] at hs1 hs2
      obtain ⟨U, hU⟩ : ∃ U, tx sd = U := ⟨_, rfl⟩
      rw [hsd, hU]
      have HS : Hid (sd.length ≤ 100 ∧ (10 : UInt8) ∉ sd ∧ tx sd = U) := ⟨by have := HG.out; omega, hs2, hU⟩
      have hL := HC.out.1 wr
      clear hs1 hs2 hsd hU hlt hi
      go_wp2_with fail
      refine Calls.mono hL ?_
      rintro r w2 ⟨ax, cx, rfl, H2⟩
      clear hL hlt'
      have hws := own_txV rfl H2.out.1
      have HB2 : Hid (Below w.heap.size w w2 ∧ WsRow w2 ax (lnOf l).length (wsL (lnOf l))) := ⟨HI.out.trans (H2.out.2.mono HI.out.size), hws.1⟩
      have hne : lnOf l ≠ [] := lnGo_ne l [] []
      have hsz := lnOf_size l
      obtain ⟨ls, hls⟩ : ∃ y, lnOf l = y := ⟨_, rfl⟩
      rw [hls] at HB2 hne hsz ⊢
      obtain ⟨n, hn⟩ : ∃ y, ls.length = y := ⟨_, rfl⟩
      rw [hn]
      have HN : Hid (lnOf l = ls ∧ ls.length = n ∧ ls ≠ [] ∧ (∀ x ∈ ls, x.length ≤ 16384) ∧ 0 < n) := ⟨hls, hn, hne, fun x hx => by have := hsz.1 x hx; have := HD.out.2; omega, by rw [← hn]; exact List.length_pos_iff.2 hne⟩
      clear hws H2 hls hn hne hsz HI HB1
      by_cases hbig : 1000 < n
      · have q3 : (1000 : Int) < ((n : Nat) : Int) := by omega
        go_wp2_with fail
        go_ret
        exact ⟨rfl, HB2.out.1⟩
      have q3 : ¬ (1000 : Int) < ((n : Nat) : Int) := by omega
      go_wp2_with fail
      clear q3
      go_loopw [7, 9, 50, 51, 52, 53, 54, 55, 56, 57, 58, 59, 60, 61, 62, 63, 64, 65, 66, 67, 68, 69, 70, 71, 72, 73, 74, 75, 76] (fun v c _ _ _ _ _ _ _ _ _ _ _ _ _ _ _ _ _ _ _ _ _ _ _ _ _ _ _ wr => ∃ i : Nat, c = .int .i64 ((i : Nat) : Int) ∧ Hid (RmS ls sd w2.heap.size w2 wr v i)) (fun _ c _ _ _ _ _ _ _ _ _ _ _ _ _ _ _ _ _ _ _ _ _ _ _ _ _ _ _ _ => n - natV c)
      case atStart => exact ⟨0, rfl, Nat.zero_le _, fun j hj => by omega, ⟨rfl, .inl ⟨rfl, rfl⟩⟩, Below.refl _ _⟩
      case round =>
        obtain ⟨i, rfl, HI⟩ := hrel
        by_cases hlt : i < n
        · have hlt' : ((i : Nat) : Int) < ((n : Nat) : Int) := by omega
          have hw1 : IntKind.i64.wrap (((i : Nat) : Int) + 1) = ((i + 1 : Nat) : Int) := by rw [IntKind.wrap_i64]; omega
          have hil : i < ls.length := by have := HN.out.2.1; omega
          obtain ⟨g, o, eg, cg⟩ := (HB2.out.2.below HI.out.2.2.2) i hil
          subst eg
          have hmem : (wsL ls i).length ≤ 16384 := by
            have e : wsL ls i = ls[i] := by simp [wsL, List.getD_eq_getElem?_getD, List.getElem?_eq_getElem hil]
            rw [e]
            exact HN.out.2.2.2.1 _ (List.getElem_mem hil)
          have hsx : (tx (wsL ls i)).size = (wsL ls i).length := tx_size _
          by_cases h8 : 800 < (wsL ls i).length
          · have q4 : (800 : Int) < (((tx (wsL ls i)).size : Nat) : Int) := by omega
            obtain ⟨V, hV⟩ : ∃ y, tx (wsL ls i) = y := ⟨_, rfl⟩
            rw [hV] at cg q4
            clear hsx hmem h8 hV
            go_wp2_with fail
            go_ret
            exact ⟨rfl, HB2.out.1.trans (HI.out.2.2.2.mono HB2.out.1.size)⟩
          have q4 : ¬ (800 : Int) < (((tx (wsL ls i)).size : Nat) : Int) := by omega
          have hnx := dcT_next (sd := sd) hil
          have hdl := dcT_len ls sd HS.out.1 i (by omega) HI.out.2.1
          obtain ⟨i0, hI, hz0, hz1, hz2⟩ := info_parts info_u8
          have sz1 : (tx [32, 9]).size = 2 := rfl
          have eD : tx [32, 9] ++ tx (wsL ls i) ++ tx [32, 13, 35, 32] ++ tx sd = tx (decL sd (wsL ls i)) := by
            rw [tx_app, tx_app, tx_app]
            simp [decL]
          have szs : ((tx [32, 9]).size = 2 ∧ (tx [32, 13, 35, 32]).size = 4 ∧ U.size ≤ 100) := ⟨rfl, rfl, by rw [← HS.out.2.2, tx_size]; exact HS.out.1⟩
          have dlen : (decL sd (wsL ls i)).length ≤ 2000 := by have := HS.out.1; simp [decL]; omega
          rw [HS.out.2.2] at eD
          obtain ⟨V, hV⟩ : ∃ y, tx (wsL ls i) = y := ⟨_, rfl⟩
          rw [hV] at cg q4 hsx eD
          have e1 : (ByteArray.mk #[32, 9]) ++ V = tx ([32, 9] ++ wsL ls i) := by rw [← hV, ← tx_app]; rfl
          obtain ⟨V1, hV1⟩ : ∃ y, tx ([32, 9] ++ wsL ls i) = y := ⟨_, rfl⟩
          have e2 : V1 ++ (ByteArray.mk #[32, 13, 35, 32]) = tx ([32, 9] ++ wsL ls i ++ [32, 13, 35, 32]) := by rw [← hV1, ← tx_app]; rfl
          obtain ⟨V2, hV2⟩ : ∃ y, tx ([32, 9] ++ wsL ls i ++ [32, 13, 35, 32]) = y := ⟨_, rfl⟩
          have e3 : V2 ++ U = tx (decL sd (wsL ls i)) := by rw [← hV2, ← HS.out.2.2, tx_app]; simp [decL]
          obtain ⟨V3, hV3⟩ : ∃ y, tx (decL sd (wsL ls i)) = y := ⟨_, rfl⟩
          have n1 : V1.size ≤ 1000 := by rw [← hV1, tx_size]; simp; omega
          have n2 : V2.size ≤ 1000 := by rw [← hV2, tx_size]; simp; omega
          have n3 : V3.size = (decL sd (wsL ls i)).length := by rw [← hV3, tx_size]
          rw [hV1] at e1
          rw [hV2] at e2
          rw [hV3] at e3
          have z1 : ¬ 9223372036854775807 < (ByteArray.mk #[32, 9]).size + V.size := by
            have : (ByteArray.mk #[32, 9]).size = 2 := rfl
            omega
          have z2 : ¬ 9223372036854775807 < V1.size + (ByteArray.mk #[32, 13, 35, 32]).size := by
            have : (ByteArray.mk #[32, 13, 35, 32]).size = 4 := rfl
            omega
          have z3 : ¬ 9223372036854775807 < V2.size + U.size := by omega
          have hcs : Lib.strCells V3 = vb (decL sd (wsL ls i)) := by rw [← hV3, strC]
          have HM : Hid (_) := And.intro hnx (And.intro hdl (And.intro n3 (And.intro hcs (And.intro dlen (And.intro hil (by omega : (wsL ls i).length ≤ 800))))))
          clear hnx hdl n3 hcs dlen hil hmem hsx eD sz1 szs n1 n2 hV hV1 hV2 hV3 h8
          by_cases h0 : i = 0
          · subst h0
            have cg0 : wr.cell? ⟨g, o, none⟩ = some (.string V) := cg
            clear cg
            have O0 : wr.ownsRow w2.heap.size 5 1 u7 (dcT ls sd 0).length (vb (dcT ls sd 0)) := HI.out.2.2.1
            have hbz : w2.heap.size ≤ wr.heap.size := HI.out.2.2.2.size
            have l0 : (dcT ls sd 0).length = 0 := rfl
            rw [l0] at O0
            have hv3 : 0 + V3.size ≤ 140737488355328 := by have := HM.out; omega
            have hv4 : 0 + V3.size ≤ maxLen := by unfold maxLen; omega
            have pz : ¬ (0 : Int) < ((0 : Nat) : Int) := by omega
            go_wp2_with (at_builtin; refine Lib.wpList_append_own_string _ rfl _ _ 43 9 rfl w2.heap.size 5 i0 Tryd.underlying43 Tryd.underlying9 hI hz0 hz1 hz2 u7 0 _ rfl O0 V3 rfl hv4 hv3 hbz ?_)
            intro v5 w5 O5 G5 _
            have HF : Hid (RmS ls sd w2.heap.size w2 w5 v5 1) := by
              obtain ⟨m1, m2, m3, m4, m5, m6, m7⟩ := HM.out
              rw [if_pos trivial] at m1
              have e5 : dcT ls sd 1 = decL sd (wsL ls 0) := by rw [m1]; rfl
              refine ⟨by omega, (fun j hj => by rw [show j = 0 by omega]; exact m7), ?_, HI.out.2.2.2.grown G5 HI.out.2.2.2.size (fun k hk => (O0.lt k hk).1)⟩
              rw [e5, ← m3]
              rw [m4] at O5
              exact O5
            clear O0 O5 G5 hI hz0 hz1 hz2 e1 e2 e3 z1 z2 z3 HI l0 hbz
            obtain ⟨a5, c5, e5⟩ : ∃ a5 c5 n5, v5 = .slice a5 n5 c5 := by
              rcases HF.out.2.2.1.2 with ⟨e, _⟩ | ⟨g5, cap5, cur5, e, _⟩
              · exact ⟨_, _, _, e⟩
              · exact ⟨_, _, _, e⟩
            obtain ⟨n5, e5⟩ := e5
            subst e5
            go_wp2_with fail
            go_roundw
            case rel => exact ⟨1, by first | rfl | go_num, HF⟩
            case measure => simp [natV] <;> omega
          · have O0 : wr.ownsRow w2.heap.size 5 1 u7 (dcT ls sd i).length (vb (dcT ls sd i)) := HI.out.2.2.1
            have pz : (0 : Int) < ((i : Nat) : Int) := by omega
            have bA := belA (Below.refl _ wr) (.cells #[.int .u8 10] 5)
            have O1 := ownB O0 bA
            have R1 := row1N wr
            have bB : Below w2.heap.size w2 (wr.alloc (.cells #[.int .u8 10] 5)) := HI.out.2.2.2.trans (bA.mono HI.out.2.2.2.size)
            have hbz := bB.size
            have hd1 : (dcT ls sd i).length ≤ 1000000 := by have := HM.out.2.1; have := hbig; omega
            obtain ⟨N, hN⟩ : ∃ y, (dcT ls sd i).length = y := ⟨_, rfl⟩
            rw [hN] at O1 hd1
            have hk1 : N + 1 ≤ maxLen := by unfold maxLen; omega
            have hk2 : N + 1 ≤ 140737488355328 := by omega
            have hv3 : N + 1 + V3.size ≤ 140737488355328 := by have := HM.out; omega
            have hv4 : N + 1 + V3.size ≤ maxLen := by unfold maxLen; have := HM.out; omega
            have HO : Hid (_) := And.intro O1 (And.intro bB hN)
            go_wp2_with (at_builtin; refine wpList_append_row8 rfl _ _ 43 rfl w2.heap.size 5 i0 (.int .u8 0) Tryd.underlying43 hI hz0 hz1 hz2 rfl u7 N _ rfl O1 _ 1 1 (fun _ => 10) rfl R1 hk1 hk2 hbz ?_)
            intro v4 w4 O4 G4
            have B4 : Below w2.heap.size w2 w4 := bB.grown G4 hbz (fun k hk => (O1.lt k hk).1)
            have Wb : WsRow w4 (some ⟨g, o, none⟩) ls.length (wsL ls) := HB2.out.2.below B4
            have cg4 : w4.cell? ⟨g, o + i, none⟩ = some (.string V) := by
              obtain ⟨g', o', e', c'⟩ := Wb i HM.out.2.2.2.2.2.1
              cases e'
              obtain ⟨g'', o'', e'', c''⟩ := (HB2.out.2.below HI.out.2.2.2) i HM.out.2.2.2.2.2.1
              cases e''
              rw [cg] at c''
              rw [c']
              exact c''.symm
            clear cg O0 O1 R1 bA bB hbz G4 Wb
            obtain ⟨a4, c4, e4⟩ : ∃ a4 c4, v4 = .slice a4 (N + 1) c4 := by
              rcases O4.2 with ⟨e, e'⟩ | ⟨g5, cap5, cur5, e, _⟩
              · exact absurd e' (by omega)
              · exact ⟨_, _, e⟩
            subst e4
            have hb4 := B4.size
            go_wp2_with (at_builtin; refine Lib.wpList_append_own_string _ rfl _ _ 43 9 rfl w2.heap.size 5 i0 Tryd.underlying43 Tryd.underlying9 hI hz0 hz1 hz2 _ (N + 1) _ rfl O4 V3 rfl hv4 hv3 hb4 ?_)
            intro v5 w5 O5 G5 _
            have HF : Hid (RmS ls sd w2.heap.size w2 w5 v5 (i + 1)) := by
              obtain ⟨m1, m2, m3, m4, m5, m6, m7⟩ := HM.out
              rw [if_neg h0, List.append_assoc] at m1
              refine ⟨by omega, fun j hj => (Nat.lt_or_eq_of_le (Nat.le_of_lt_succ hj)).elim (fun q => HI.out.2.1 j q) (fun q => by rw [q]; exact m7), ?_, B4.grown G5 hb4 (fun k hk => (O4.lt k hk).1)⟩
              rw [m4, show CB (fun _ => 10) 1 = vb [10] from rfl, ← vb_app, ← vb_app, m3, ← HO.out.2.2] at O5
              rw [m1]
              simp only [List.length_append, List.length_cons, List.length_nil] at O5 ⊢
              rw [← Nat.add_assoc]
              exact O5
            obtain ⟨a5, c5, n5, e5⟩ : ∃ a5 c5 n5, v5 = .slice a5 n5 c5 := by
              rcases HF.out.2.2.1.2 with ⟨e, _⟩ | ⟨g5, cap5, cur5, e, _⟩
              · exact ⟨_, _, _, e⟩
              · exact ⟨_, _, _, e⟩
            subst e5
            clear O4 O5 G5 hI hz0 hz1 hz2 e1 e2 e3 z1 z2 z3 HI cg4 B4 hb4
            go_wp2_with fail
            go_roundw
            case rel => exact ⟨i + 1, by first | rfl | go_num, HF⟩
            case measure => simp [natV] <;> omega
        · obtain rfl : i = n := by have := HI.out.1; have := HN.out.2.1; omega
          have hlt' : ¬ ((i : Nat) : Int) < ((i : Nat) : Int) := by omega
          have hps := ps_dec (l := l) (sd := sd) HD.out.2.1 HS.out.1 HS.out.2.1 (by rw [HN.out.1, HN.out.2.1]; omega) (fun x hx => by
            rw [HN.out.1] at hx
            obtain ⟨j, hj, rfl⟩ := List.getElem_of_mem hx
            have := HI.out.2.1 j (by have := HN.out.2.1; omega)
            have e : wsL ls j = ls[j] := by simp [wsL, List.getD_eq_getElem?_getD, List.getElem?_eq_getElem hj]
            rw [← e]
            exact this)
          rw [HN.out.1] at hps
          have eT : jnL (ls.map (decL sd)) = dcT ls sd i := by
            unfold dcT
            rw [List.take_of_length_le (by have := HN.out.2.1; omega)]
          rw [eT] at hps
          obtain ⟨T, hT⟩ : ∃ y, dcT ls sd i = y := ⟨_, rfl⟩
          rw [hT] at hps
          have O0 : wr.ownsRow w2.heap.size 5 1 u7 T.length (vb T) := by have := HI.out.2.2.1; rw [hT] at this; exact this
          obtain ⟨a7, c7, e7, R7⟩ := own_row8 (by rw [vb_CB] at O0; exact O0) (fun j _ => bf_lt T j)
          subst e7
          have HR : Hid (Row8 wr a7 T.length c7 (bf T)) := R7
          have bwr : Below w.heap.size w wr := HB2.out.1.trans (HI.out.2.2.2.mono HB2.out.1.size)
          have HB3 : Hid (Below w.heap.size w wr) := bwr
          have hP1 := HC.out.2.1 wr (by have := HD.out.2.1; omega) bwr
          have hP2 : ∀ wx, Below w.heap.size w wx → Calls Tryd.prog 8 #[.string (tx T)] wx (PaP (psSn l) (psBad l).1 (psBad l).2 wx) := fun wx p => by
            have := HD.out.1 T wx hps.2.2 p
            rw [hps.1, hps.2.1] at this
            exact this
          have hcv : ∀ wx, Below wr.heap.size wr wx → (convert 43 9 (.slice a7 T.length c7)).run Tryd.prog wx = .ok (.string (tx T)) wx := fun wx b => by rw [conv_any _ _ _ _ _ (HR.out.below b), BA_bf]
          have hle := ps_le l
          obtain ⟨TT, hTT⟩ : ∃ y, tx T = y := ⟨_, rfl⟩
          rw [hTT] at hP2 hcv
          obtain ⟨⟨Z, M⟩, hS⟩ : ∃ y, psSn l = y := ⟨_, rfl⟩
          obtain ⟨t, ht⟩ : ∃ y, (psBad l).1 = y := ⟨_, rfl⟩
          obtain ⟨e, he⟩ : ∃ y, (psBad l).2 = y := ⟨_, rfl⟩
          rw [hS, ht, he] at hP1 hP2
          rw [hS] at hle
          have HLe : Hid (Z.l0 ≤ 1000000 ∧ Z.l1 ≤ 1000000 ∧ M.length ≤ 1000000) := ⟨by have := hle.1; simp only at this; have := HD.out.2.1; omega, by have := hle.2.1; simp only at this; have := HD.out.2.1; omega, by have := hle.2.2; simp only at this; have := HD.out.2.1; omega⟩
          have HP : Hid (_) := And.intro hP2 hcv
          obtain ⟨TL, hTL⟩ : ∃ y, T.length = y := ⟨_, rfl⟩
          rw [hTL] at HP ⊢
          clear hps eT hT O0 R7 bwr hP2 hcv hle hTT hS ht he HI HR hTL HD HC HN HS HG HB2 hlt
          obtain ⟨nm, hnm⟩ : ∃ y, M.length = y := ⟨_, rfl⟩
          go_wp2_with fail
          refine Calls.mono hP1 ?_
          rintro r w3 ⟨a0, c0, a1, c1, al, cl, D, rfl, H3⟩
          clear hP1 hlt'
          have HB4 : Hid (Below wr.heap.size wr w3 ∧ PRow w3 a0 Z.l0 Z.P0 ∧ PRow w3 a1 Z.l1 Z.P1 ∧ MvRow w3 al M.length (mvL M) D) := ⟨H3.out.2.2.2, H3.out.1, H3.out.2.1, H3.out.2.2.1⟩
          clear H3
          simp only
          rw [hnm] at HB4 ⊢
          have k5 := Bk.new w3 #[.slice a0 Z.l0 c0, .slice a1 Z.l1 c1, .int .u32 (Z.ms : Nat)] 26
          have b5 := belA (Below.refl _ w3) (.cells #[.slice a0 Z.l0 c0, .slice a1 Z.l1 c1, .int .u32 (Z.ms : Nat)] 26)
          obtain ⟨w5, hw5⟩ : ∃ y, w3.alloc (.cells #[.slice a0 Z.l0 c0, .slice a1 Z.l1 c1, .int .u32 (Z.ms : Nat)] 26) = y := ⟨_, rfl⟩
          rw [hw5] at k5 b5
          obtain ⟨ba, hba⟩ : ∃ y, w3.heap.size = y := ⟨_, rfl⟩
          rw [hba] at k5
          have HB5 : Hid (Below wr.heap.size wr w5 ∧ PRow w5 a0 Z.l0 Z.P0 ∧ PRow w5 a1 Z.l1 Z.P1 ∧ MvRow w5 al nm (mvL M) D ∧ Bk w5 ba #[.slice a0 Z.l0 c0, .slice a1 Z.l1 c1, .int .u32 (Z.ms : Nat)] 26) := ⟨HB4.out.1.trans (b5.mono HB4.out.1.size), HB4.out.2.1.below b5, HB4.out.2.2.1.below b5, HB4.out.2.2.2.below b5, k5⟩
          have cv := HP.out.2 w5 HB5.out.1
          have hR := HP.out.1 w5 (HB3.out.trans (HB5.out.1.mono HB3.out.size))
          go_upto_region 24 with fail
          try rw [hw5, hba]
          clear hw5 hba k5 b5 HB4
          go_wp2_with fail
          refine Calls.mono hR ?_
          rintro r w6 ⟨d0, e0, d1, e1, am, cm, E, rfl, H6⟩
          clear hR cv HP
          have b6 := H6.out.2.2.2
          have HB6 : Hid (Below wr.heap.size wr w6 ∧ PRow w6 a0 Z.l0 Z.P0 ∧ PRow w6 a1 Z.l1 Z.P1 ∧ MvRow w6 al nm (mvL M) D ∧ Bk w6 ba #[.slice a0 Z.l0 c0, .slice a1 Z.l1 c1, .int .u32 (Z.ms : Nat)] 26 ∧ PRow w6 d0 Z.l0 Z.P0 ∧ PRow w6 d1 Z.l1 Z.P1 ∧ MvRow w6 am M.length (mvL M) E) := ⟨HB5.out.1.trans (b6.mono HB5.out.1.size), HB5.out.2.1.below b6, HB5.out.2.2.1.below b6, HB5.out.2.2.2.1.below b6, HB5.out.2.2.2.2.off (Off.of_below (l := []) b6) (by simp), H6.out.1, H6.out.2.1, H6.out.2.2.1⟩
          clear H6 b6 HB5
          simp only
          rw [hnm] at HB6 ⊢
          have k7 := Bk.new w6 #[.slice d0 Z.l0 e0, .slice d1 Z.l1 e1, .int .u32 (Z.ms : Nat)] 26
          have b7 := belA (Below.refl _ w6) (.cells #[.slice d0 Z.l0 e0, .slice d1 Z.l1 e1, .int .u32 (Z.ms : Nat)] 26)
          obtain ⟨w7, hw7⟩ : ∃ y, w6.alloc (.cells #[.slice d0 Z.l0 e0, .slice d1 Z.l1 e1, .int .u32 (Z.ms : Nat)] 26) = y := ⟨_, rfl⟩
          rw [hw7] at k7 b7
          obtain ⟨bb, hbb⟩ : ∃ y, w6.heap.size = y := ⟨_, rfl⟩
          rw [hbb] at k7
          have HB7 : Hid (Below wr.heap.size wr w7 ∧ PRow w7 a0 Z.l0 Z.P0 ∧ PRow w7 a1 Z.l1 Z.P1 ∧ MvRow w7 al nm (mvL M) D ∧ Bk w7 ba #[.slice a0 Z.l0 c0, .slice a1 Z.l1 c1, .int .u32 (Z.ms : Nat)] 26 ∧ PRow w7 d0 Z.l0 Z.P0 ∧ PRow w7 d1 Z.l1 Z.P1 ∧ MvRow w7 am nm (mvL M) E ∧ Bk w7 bb #[.slice d0 Z.l0 e0, .slice d1 Z.l1 e1, .int .u32 (Z.ms : Nat)] 26) := ⟨HB6.out.1.trans (b7.mono HB6.out.1.size), HB6.out.2.1.below b7, HB6.out.2.2.1.below b7, HB6.out.2.2.2.1.below b7, HB6.out.2.2.2.2.1.off (Off.of_below (l := []) b7) (by simp), HB6.out.2.2.2.2.2.1.below b7, HB6.out.2.2.2.2.2.2.1.below b7, HB6.out.2.2.2.2.2.2.2.below b7, k7⟩
          go_upto_region 25 with fail
          try rw [hw7, hbb]
          clear hw7 hbb k7 b7 HB6
          have p0 : w7.cell? ⟨ba, 0, none⟩ = some (.slice a0 Z.l0 c0) := HB7.out.2.2.2.2.1.cell 0
          have p1 : w7.cell? ⟨ba, 1, none⟩ = some (.slice a1 Z.l1 c1) := HB7.out.2.2.2.2.1.cell 1
          have p2 : w7.cell? ⟨ba, 2, none⟩ = some (.int .u32 (Z.ms : Nat)) := HB7.out.2.2.2.2.1.cell 2
          have s0 : w7.cell? ⟨bb, 0, none⟩ = some (.slice d0 Z.l0 e0) := HB7.out.2.2.2.2.2.2.2.2.cell 0
          have s1 : w7.cell? ⟨bb, 1, none⟩ = some (.slice d1 Z.l1 e1) := HB7.out.2.2.2.2.2.2.2.2.cell 1
          have s2 : w7.cell? ⟨bb, 2, none⟩ = some (.int .u32 (Z.ms : Nat)) := HB7.out.2.2.2.2.2.2.2.2.cell 2
          have hQ := rsameN a0 a1 d0 d1 Z.l0 Z.l1 c0 c1 e0 e1 Z.ms Z.P0 Z.P1 w7 HB7.out.2.1.psrow HB7.out.2.2.1.psrow HB7.out.2.2.2.2.2.1.psrow HB7.out.2.2.2.2.2.2.1.psrow HLe.out.1 HLe.out.2.1
          have HN : Hid (nm ≤ 1000000) := by show nm ≤ 1000000; have := HLe.out.2.2; omega
          clear hnm
          go_wp2_with fail
          refine hQ.mono ?_
          rintro r w8 ⟨rfl, b8⟩
          have hV := rsameMs al am nm cl cm (mvL M) D E w8 (HB7.out.2.2.2.1.below b8) (HB7.out.2.2.2.2.2.2.2.1.below b8) HN.out
          have HB8 : Hid (Below wr.heap.size wr w8) := HB7.out.1.trans (b8.mono HB7.out.1.size)
          clear hQ b8 HB7 p0 p1 p2 s0 s1 s2
          go_wp2_with fail
          refine hV.mono ?_
          rintro r w9 ⟨rfl, b9⟩
          have HB9 : Hid (Below w.heap.size w w9) := HB3.out.trans ((HB8.out.trans (b9.mono HB8.out.size)).mono HB3.out.size)
          clear hV b9 HB8
          go_wp2_with fail
          go_ret
          exact ⟨by simp, HB9.out⟩
end Go.Proofs.YtnmnjcjfgbpkaaaDoor
