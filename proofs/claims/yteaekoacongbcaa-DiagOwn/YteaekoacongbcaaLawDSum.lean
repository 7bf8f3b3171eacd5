/- DiagSums: the records are the last ones, and the counts sum up. -/
import Derived.Test.YteaekoacongbcaaDa
import Derived.Test.YteaekoacongbcaaRown
import Derived.Deep.CutBlock
namespace Go.Proofs.Yteaekoacongbcaa
open Go.RowKit Go.Maps

theorem own_cells1 {w : World} {B : Nat} {e : TypeId} {v : Value} {l : List Int} (h : w.ownsRow B e 1 v l.length (l.map encZ)) : ∃ a cap, v = .slice a l.length cap ∧ l.length ≤ maxLen ∧ ∀ i (hi : i < l.length), ∃ g, a = some ⟨g, 0, none⟩ ∧ B ≤ g ∧ w.cell? ⟨g, i, none⟩ = some (.int .i64 l[i]) := by
  rcases h.2 with ⟨rfl, hn⟩ | ⟨g, cap, cur, rfl, hg, hgg, h1, h2, h3, h4⟩
  · exact ⟨none, 0, by rw [hn], by omega, fun i hi => by omega⟩
  · refine ⟨_, cap, rfl, by omega, fun i hi => ⟨g, rfl, hg, cell_at hgg ?_⟩⟩
    have : (cur.toList.take (l.length * 1))[i]? = (l.map encZ)[i]? := by rw [h4]
    rw [List.getElem?_take_of_lt (by omega)] at this
    simpa [hi] using this
theorem own_cells4 {w : World} {B : Nat} {e : TypeId} {v : Value} {l : List R4} (h : w.ownsRow B e 4 v l.length (rvs l)) : ∃ a cap, v = .slice a l.length cap ∧ l.length ≤ maxLen ∧ ∀ i (hi : i < l.length), ∃ g, a = some ⟨g, 0, none⟩ ∧ B ≤ g ∧ g < w.heap.size ∧
    w.cell? ⟨g, i * 4, none⟩ = some (.int .i64 l[i].1) ∧ w.cell? ⟨g, i * 4 + 1, none⟩ = some (.int .i64 l[i].2.1) ∧ w.cell? ⟨g, i * 4 + 2, none⟩ = some (.int .u32 l[i].2.2.1) ∧ w.cell? ⟨g, i * 4 + 3, none⟩ = some (.int .u32 l[i].2.2.2) := by
  rcases h.2 with ⟨rfl, hn⟩ | ⟨g, cap, cur, rfl, hg, hgg, h1, h2, h3, h4⟩
  · exact ⟨none, 0, by rw [hn], by omega, fun i hi => by omega⟩
  · refine ⟨_, cap, rfl, by omega, fun i hi => ?_⟩
    have key : ∀ f, f < 4 → cur[i * 4 + f]? = (rv l[i])[f]? := by
      intro f hf
      have : (cur.toList.take (l.length * 4))[i * 4 + f]? = (rvs l)[i * 4 + f]? := by rw [h4]
      rw [List.getElem?_take_of_lt (by omega), rvs_at l i f hf hi] at this
      simpa using this
    exact ⟨g, rfl, hg, (Array.getElem?_eq_some_iff.1 hgg).1, cell_at hgg (key 0 (by omega)), cell_at hgg (key 1 (by omega)), cell_at hgg (key 2 (by omega)), cell_at hgg (key 3 (by omega))⟩
theorem cell_lt {w : World} {a : Addr} {v : Value} (h : w.cell? a = some v) : a.block < w.heap.size := by
  unfold World.cell? at h
  cases hb : w.heap[a.block]? with
  | none => rw [hb] at h; cases h
  | some o => exact (Array.getElem?_eq_some_iff.1 hb).1
theorem DH.codes_wf {w : World} {b : Nat} {U : List Nat} {L : List R4} {mA mb nn : Nat} {D : DataW Unit} {mt : Int → Option Nat} (h : DH w b U L mA mb nn D mt) : ∀ c, c ∈ cds L → (Lit.int .i64 c).wf = true :=
  fun c hc => intKeys_wf h.map Try.underlying29 c (h.keys.mem_iff.1 hc)
theorem DG.codes_wf {w : World} {b : Nat} {U : List Nat} {L : List R4} (h : DG w b U L) : ∀ c, c ∈ cds L → (Lit.int .i64 c).wf = true := by
  obtain ⟨_, _, _, _, _, h⟩ := h; exact h.codes_wf
theorem sum_le (f : Int → Nat) (n : Nat) (hf : ∀ c, f c ≤ n) : ∀ l : List Int, (l.map f).sum ≤ l.length * n
  | [] => by simp
  | x :: l => by
    have h1 := sum_le f n hf l
    have h2 := hf x
    rw [List.map_cons, List.sum_cons, List.length_cons, Nat.add_mul]
    omega
set_option maxHeartbeats 800000 in
set_option maxRecDepth 100000 in
theorem diagSums_walk (a0 : Option Addr) (len0 cap0 : Nat) (z0 : List Int) (w : World) (w0 : BRow .i64 w a0 len0 cap0 z0) :
    Calls Try.prog 4 #[.slice a0 len0 cap0] w fun e w' => e = .returned (.bool true) ∧ Below w.heap.size w w' := by
  have hA := awake12 w
  have hlm : len0 ≤ 9223372036854775807 := by
    rcases w0 with ⟨_, h, _⟩ | ⟨x, _, h1, h2, _⟩
    · omega
    · unfold maxLen at h2; omega
  have HW : Hid (BRow .i64 w a0 len0 cap0 z0) := w0
  clear w0
  go_enter Try.func4, Try.ntmps4
  go_wp2_with fail
  refine hA.mono ?_
  rintro e w1 ⟨rfl, hb1⟩
  clear hA
  go_wp2_with fail
  refine (dnew_any w1).mono ?_
  rintro e w2 ⟨rfl, H2⟩
  have H3 : Hid (Below w.heap.size w w2 ∧ ∃ U, DG w2 (w1.heap.size + 2) U [] ∧ ∀ k, k ∈ U → w.heap.size ≤ k) := by
    obtain ⟨h1, h2, h3⟩ := H2.out
    have := hb1.size
    exact ⟨hb1.trans (h1.mono this), _, h3, by simp; omega⟩
  clear hb1 H2
  generalize w1.heap.size + 2 = b at *
  go_upto_block 0 with fail
  go_cut [4] (fun _ wx => Hid (Below w.heap.size w wx ∧ ∃ U L, DG wx b U L ∧ L.length ≤ 2000 ∧ ∀ r, r ∈ L → r.2.1 ≠ 0))
  case first =>
    go_wp2_with fail
    go_loopw [4] (fun c wr => ∃ i, i ≤ len0 ∧ i ≤ 2000 ∧ c = .int .i64 ((i : Nat) : Int) ∧ Hid (Below w.heap.size w wr ∧ ∃ U L, DG wr b U L ∧ L.length ≤ i ∧ (∀ r, r ∈ L → r.2.1 ≠ 0) ∧ ∀ k, k ∈ U → w.heap.size ≤ k)) (fun c _ => 2000 - (intOf c).toNat)
    case atStart => exact ⟨0, by omega, by omega, rfl, H3.out.1, by obtain ⟨U, h1, h2⟩ := H3.out.2; exact ⟨U, [], h1, by simp, by simp, h2⟩⟩
    case round =>
      clear H3
      obtain ⟨i, hi, hi2, rfl, HR⟩ := hrel
      by_cases hlt : i < len0
      · by_cases hlt2 : i < 2000
        · obtain ⟨q, off, rfl, hq, hz⟩ := HW.out.nums (by omega)
          obtain ⟨hz1, hz2⟩ := hz i hlt
          have hcell := (World.cell?_of_block (a := ⟨q, off + i, none⟩) (HR.out.1.block q hq)).trans hz1
          have hu : IntKind.u32.wrap (i : Int) = (i : Int) := by rw [IntKind.wrap_u32]; omega
          clear hz hz1
          generalize z0.getD i 0 = c at *
          by_cases hc : c = 0
          · subst hc
            go_wp2_with fail
            refine (note_ok b _ _ wr).mono ?_
            rintro e w3 ⟨rfl, rfl⟩
            go_wp2_with fail
            go_roundw
            case rel => exact ⟨i + 1, by omega, by omega, by go_num, HR.out.1, by obtain ⟨U, L, h1, h2, h3⟩ := HR.out.2; exact ⟨U, L, h1, by omega, h3⟩⟩
            case measure => simp [intOf] <;> omega
          · obtain ⟨U, L, hd, hL, hne, hU⟩ := HR.out.2
            have hN := fun s n => dnote_any b U L c s n wr hd (by omega) hz2 hc
            have H4 : Hid (∀ w3, Off U wr w3 → Below w.heap.size w w3) := fun w3 h => h.below HR.out.1 hU HR.out.1.size
            have H5 : Hid (L.length ≤ i ∧ (∀ r, r ∈ L → r.2.1 ≠ 0) ∧ (∀ k, k ∈ U → w.heap.size ≤ k) ∧ w.heap.size ≤ wr.heap.size) := ⟨hL, hne, hU, HR.out.1.size⟩
            clear hd hL hne hU HR
            go_wp2_with fail
            refine (hN _ _).mono ?_
            rintro e w3 ⟨rfl, H6⟩
            have H7 : Hid (Below w.heap.size w w3 ∧ ∃ U L, DG w3 b U L ∧ L.length ≤ i + 1 ∧ (∀ r, r ∈ L → r.2.1 ≠ 0) ∧ ∀ k, k ∈ U → w.heap.size ≤ k) := by
              obtain ⟨U', h1, h2, h3⟩ := H6.out
              obtain ⟨g1, g2, g3, g4⟩ := H5.out
              refine ⟨H4.out w3 h1, U', _, h2, by simp; omega, ?_, fun k hk => ?_⟩
              · intro r hr
                rcases List.mem_append.1 hr with hr | hr
                · exact g2 r hr
                · obtain rfl := List.mem_singleton.1 hr; exact hc
              · rcases h3 k hk with h | h
                · exact g3 k h
                · omega
            clear H4 H5 H6 hN hcell
            go_wp2_with fail
            go_roundw
            case rel => exact ⟨i + 1, by omega, by omega, by go_num, H7⟩
            case measure => simp [intOf] <;> omega
        · go_wp2_with fail
          go_meet
          exact ⟨HR.out.1, by obtain ⟨U, L, h1, h2, h3, _⟩ := HR.out.2; exact ⟨U, L, h1, by omega, h3⟩⟩
      · go_wp2_with fail
        go_meet
        exact ⟨HR.out.1, by obtain ⟨U, L, h1, h2, h3, _⟩ := HR.out.2; exact ⟨U, L, h1, by omega, h3⟩⟩
  case rest =>
    clear H3 HW hlm
    obtain ⟨hb, U, L, hd, hL, hne⟩ := hcut.out
    have HB : Hid (Below w.heap.size w wc ∧ DG wc b U L ∧ L.length ≤ 2000 ∧ (∀ r, r ∈ L → r.2.1 ≠ 0) ∧ Nmb L) := ⟨hb, hd, hL, hne, by obtain ⟨_, _, _, _, _, h⟩ := hd; exact h.nmb⟩
    have hR := records_any b U L wc hd (by omega)
    clear hb hd hL hne hcut
    go_wp2_with fail
    refine hR.mono ?_
    rintro e w3 ⟨v3, rfl, H3⟩
    clear hR
    obtain ⟨la, lcap, rfl, hlm, hcs⟩ := own_cells4 H3.out.1
    have HC : Hid (∀ i (hi : i < (lst L).length), ∃ g, la = some ⟨g, 0, none⟩ ∧ wc.heap.size ≤ g ∧ g < w3.heap.size ∧ w3.cell? ⟨g, i * 4, none⟩ = some (.int .i64 (lst L)[i].1) ∧ w3.cell? ⟨g, i * 4 + 1, none⟩ = some (.int .i64 (lst L)[i].2.1) ∧ w3.cell? ⟨g, i * 4 + 2, none⟩ = some (.int .u32 (lst L)[i].2.2.1) ∧ w3.cell? ⟨g, i * 4 + 3, none⟩ = some (.int .u32 (lst L)[i].2.2.2)) := hcs
    have HD : Hid (Below w.heap.size w w3 ∧ DG w3 b U L) := ⟨HB.out.1.trans (H3.out.2.mono HB.out.1.size), HB.out.2.1.below H3.out.2⟩
    clear hcs H3
    have hT := dtotal_any b U L w3 HD.out.2 (by have := HB.out.2.2.1; omega)
    have HM : Hid (∃ n m, n = L.length ∧ m = (lst L).length ∧ m = min n 16) := ⟨_, _, rfl, rfl, lst_len L⟩
    obtain ⟨n, m, en, em, emn⟩ := HM.out
    rw [← em] at hlm
    rw [← en] at hT
    rw [← em]
    have HE : Hid (n = L.length ∧ m = (lst L).length ∧ m = min n 16 ∧ n ≤ 2000) := ⟨en, em, emn, by have := HB.out.2.2.1; omega⟩
    have hn2 : n ≤ 2000 := HE.out.2.2.2
    clear HM en em emn
    go_wp2_with fail
    refine hT.mono ?_
    rintro e wx ⟨rfl, hwx⟩
    have hwx := hwx.symm
    subst hwx
    go_upto_if 38 with fail
    go_cut [6] (fun v wx => v = .int .i64 ((m : Nat) : Int) ∧ wx = w3)
    case first =>
      by_cases h16 : 16 < n
      · obtain rfl : m = 16 := by have := HE.out.2.2.1; omega
        go_wp2_with fail
        go_meet
        exact ⟨rfl, rfl⟩
      · obtain rfl : m = n := by have := HE.out.2.2.1; omega
        go_wp2_with fail
        go_meet
        exact ⟨rfl, rfl⟩
    case rest =>
      obtain ⟨rfl, rfl⟩ := hcut
      clear hT
      have hmn : m ≤ n := by have := HE.out.2.2.1; omega
      go_wp2_with fail
      go_loopw [7] (fun c wr => ∃ i, i ≤ m ∧ c = .int .i64 ((i : Nat) : Int) ∧ Below wc.heap.size wc wr) (fun c _ => m - (intOf c).toNat)
      case atStart => exact ⟨0, by omega, rfl, Below.refl _ _⟩
      case round =>
        obtain ⟨i, hi, rfl, hbr⟩ := hrel
        by_cases hlt : i < m
        · have hil : i < (lst L).length := by rw [← HE.out.2.1]; exact hlt
          obtain ⟨g, rfl, hg1, hg2, d0, d1, d2, d3⟩ := HC.out i hil
          have hg := hbr.block g hg2
          have c0 := (World.cell?_of_block (a := ⟨g, i * 4, none⟩) hg).trans d0
          have c1 := (World.cell?_of_block (a := ⟨g, i * 4 + 1, none⟩) hg).trans d1
          clear d0 d1 d2 d3
          have hx : (lst L)[i].1 = (n : Int) - (m : Int) + 1 + (i : Int) := by
            rw [lst_at L i hil]
            have h1 := HB.out.2.2.2.2 (L.length - 16 + i) (by rw [lst_len] at hil; omega)
            rw [h1]
            obtain ⟨g1, g2, g3, _⟩ := HE.out
            omega
          have hc : (lst L)[i].2.1 ≠ 0 := HB.out.2.2.2.1 _ (List.mem_of_mem_drop (List.getElem_mem hil))
          rw [hx] at c0
          generalize (lst L)[i].2.1 = y at *
          have hy : (y == 0) = false := by simp [hc]
          clear hx hil hg
          have hT := fun j => dtotal_any b U L (wr.drewN j) ((HD.out.2.below hbr).off (Off.drewN [] wr j) (by simp)) (by have := HB.out.2.2.1; omega)
          rw [← HE.out.1] at hT
          have e1 : IntKind.i64.wrap ((n : Int) - (m : Int)) = (n : Int) - (m : Int) := by rw [IntKind.wrap_i64]; omega
          have e2 : IntKind.i64.wrap ((n : Int) - (m : Int) + 1) = (n : Int) - (m : Int) + 1 := by rw [IntKind.wrap_i64]; omega
          have e3 : IntKind.i64.wrap ((n : Int) - (m : Int) + 1 + (i : Int)) = (n : Int) - (m : Int) + 1 + (i : Int) := by rw [IntKind.wrap_i64]; omega
          go_wp2_with fail
          go_quiet ((go_at_call 12; exact Calls.quiet_of_same (hT _)))
          have HQ : Hid (Below wc.heap.size wc (wr.drewN nq)) := below_drewNR hbr nq
          clear hT e1 e2 e3 c0 c1 hbr hc
          go_wp2_with fail
          go_roundw
          case rel => exact ⟨i + 1, by omega, by go_num, HQ⟩
          case measure => simp [intOf] <;> omega
        · obtain rfl : i = m := by omega
          have HD2 : Hid (Below w.heap.size w wr ∧ DG wr b U L) := ⟨HD.out.1.trans (hbr.mono HD.out.1.size), HD.out.2.below hbr⟩
          have hK := codes_any b U L wr HD2.out.2 (by have := HB.out.2.2.1; omega)
          clear HD HC hbr hlt
          go_wp2_with fail
          refine hK.mono ?_
          rintro e w5 ⟨v5, rfl, H5⟩
          clear hK
          obtain ⟨ca, ccap, rfl, hkm, hks⟩ := own_cells1 H5.out.1
          have HK : Hid (∀ j (hj : j < (cds L).length), ∃ g, ca = some ⟨g, 0, none⟩ ∧ g < w5.heap.size ∧ w5.cell? ⟨g, j, none⟩ = some (.int .i64 (cds L)[j])) := by
            intro j hj
            obtain ⟨g, h1, h2, h3⟩ := hks j hj
            exact ⟨g, h1, cell_lt h3, h3⟩
          have HD5 : Hid (Below w.heap.size w w5 ∧ DG w5 b U L) := ⟨HD2.out.1.trans (H5.out.2.2.mono HD2.out.1.size), HD2.out.2.below H5.out.2.2⟩
          clear HD2 H5 hks
          have HM : Hid (∃ k, k = (cds L).length) := ⟨_, rfl⟩
          obtain ⟨k, ek⟩ := HM.out
          rw [← ek] at hkm
          rw [← ek]
          have HE2 : Hid (k = (cds L).length ∧ k ≤ 2000) := ⟨ek, by have := cds_len L; have := HB.out.2.2.1; omega⟩
          have hk2 : k ≤ 2000 := HE2.out.2
          clear HM ek
          go_wp2_with fail
          go_loopw [8, 10, 11] (fun sm c _ wr => ∃ i, i ≤ k ∧ c = .int .i64 ((i : Nat) : Int) ∧ sm = .int .i64 (((((cds L).take i).map (cnt L)).sum : Nat) : Int) ∧ Below w5.heap.size w5 wr) (fun _ c _ _ => k - (intOf c).toNat)
          case atStart => exact ⟨0, by omega, rfl, by simp, Below.refl _ _⟩
          case round =>
            obtain ⟨j, hj, rfl, rfl, hbr⟩ := hrel
            by_cases hlt : j < k
            · have hjl : j < (cds L).length := by rw [← HE2.out.1]; exact hlt
              obtain ⟨g, rfl, hg2, d0⟩ := HK.out j hjl
              have hg := hbr.block g hg2
              have c0 := (World.cell?_of_block (a := ⟨g, j, none⟩) hg).trans d0
              have hw : (Lit.int .i64 (cds L)[j]).wf = true := HB.out.2.1.codes_wf _ (List.getElem_mem hjl)
              have hN := dcount_any b U L (cds L)[j] wr (HD5.out.2.below hbr) (by have := HB.out.2.2.1; omega) hw
              have hp : 0 < cnt L (cds L)[j] := (mem_cds L _).1 (List.getElem_mem hjl)
              have HS : Hid ((((cds L).take (j + 1)).map (cnt L)).sum = (((cds L).take j).map (cnt L)).sum + cnt L (cds L)[j]) := take_sum (cnt L) (cds L) j hjl
              have hle := cnt_le L (cds L)[j]
              have hs1 : (((cds L).take j).map (cnt L)).sum ≤ 2000 * 2000 := by
                have := sum_le (cnt L) L.length (fun c => cnt_le L c) ((cds L).take j)
                have h3 : ((cds L).take j).length ≤ 2000 := by simp; omega
                have h4 := HB.out.2.2.1
                exact Nat.le_trans this (Nat.mul_le_mul h3 h4)
              have h4 := HB.out.2.2.1
              have HP : Hid (∀ i, j = i + 1 → ∃ y, wr.cell? ⟨g, i, none⟩ = some (.int .i64 y) ∧ y < (cds L)[j]) := by
                intro i e
                subst e
                obtain ⟨g', e1, _, d1⟩ := HK.out i (by omega)
                obtain rfl : g = g' := by simpa using e1
                exact ⟨_, (World.cell?_of_block (a := ⟨g, i, none⟩) hg).trans d1, List.pairwise_iff_getElem.1 (up_cds L) i (i + 1) (by omega) hjl (by omega)⟩
              generalize (((cds L).take j).map (cnt L)).sum = S at *
              generalize cnt L (cds L)[j] = q at *
              generalize (cds L)[j] = y at *
              clear d0 hg hjl
              have e1 : IntKind.i64.wrap ((S : Int) + (q : Int)) = ((S + q : Nat) : Int) := by rw [IntKind.wrap_i64]; omega
              go_wp2_with fail
              refine hN.mono ?_
              rintro e wz ⟨rfl, hwz⟩
              have hwz := hwz.symm
              subst hwz
              clear hN
              have hq1 : decide ((q : Int) < 1) = false := by simp; omega
              have hq2 : ((q : Int) < 1) = False := by simp; omega
              have hq3 : (q = 0) = False := by simp; omega
              have hq4 : ((q : Int) = 0) = False := by simp; omega
              have HQ : ∀ nq, Hid (Below w5.heap.size w5 (wr.drewN nq)) := fun nq => below_drewNR hbr nq
              by_cases h0 : 0 < j
              · obtain ⟨i, hi⟩ : ∃ i, j = i + 1 := ⟨j - 1, by omega⟩
                obtain ⟨y', c1, hyy⟩ := HP.out i hi
                have hyy' : (y ≤ y') = False := by simp; omega
                have hyy2 : (y' ≥ y) = False := by simp; omega
                have hi0 : ((i : Int) + 1 > 0) = True := eq_true (by omega)
                have hi1 : ((0 : Int) < (i : Int) + 1) = True := eq_true (by omega)
                have hi2 : (i : Int) + 1 - 1 = (i : Int) := by omega
                have hik : i < k := by omega
                have hjk : (i : Int) < (k : Int) := by omega
                subst hi
                have hjk2 : (i : Int) + 1 < (k : Int) := by omega
                clear HP hbr
                go_wp2_with fail
                go_quiet (fail)
                have HQ := HQ nq
                clear c0 c1 hyy hyy' hyy2 hi0 hi1
                go_wp2_with fail
                go_roundw
                case rel => exact ⟨i + 1 + 1, by omega, by go_num, by rw [HS.out]; go_num, HQ⟩
                case measure => simp [intOf] <;> omega
              · obtain rfl : j = 0 := by omega
                clear HP hbr
                go_wp2_with fail
                go_quiet (fail)
                have HQ := HQ nq
                clear c0
                go_wp2_with fail
                go_roundw
                case rel => exact ⟨1, by omega, by go_num, by rw [HS.out]; go_num, HQ⟩
                case measure => simp [intOf] <;> omega
            · obtain rfl : j = k := by omega
              have hT := dtotal_any b U L wr (HD5.out.2.below hbr) (by have := HB.out.2.2.1; omega)
              have es : (((cds L).take j).map (cnt L)).sum = L.length := by rw [List.take_of_length_le (by have := HE2.out.1; omega)]; exact cds_sum L
              have HF : Hid (Below w.heap.size w wr) := HD5.out.1.trans (hbr.mono HD5.out.1.size)
              rw [es]
              generalize L.length = N at *
              clear hbr hlt
              go_wp2_with fail
              refine hT.mono ?_
              rintro e wz ⟨rfl, hwz⟩
              have hwz := hwz.symm
              subst hwz
              go_wp2_with fail
              go_ret
              exact ⟨by simp, HF⟩
end Go.Proofs.Yteaekoacongbcaa
