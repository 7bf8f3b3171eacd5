/- The document's log: the codes, rising. (genrf5.py) -/
import Derived.Test.YteaekoacongbcaaRf4
import Derived.Deep.CutBlock
namespace Go.Proofs.Yteaekoacongbcaa
open Go.RowKit Go.Maps

theorem grown_keep {W w' : World} {row : Option Nat} {r : Nat} (h : W.grownBy w' row) (e : row = some r) : Hid (∀ g o, W.heap[g]? = some o → g ≠ r → w'.heap[g]? = some o) := fun g _o hg hne => (h.block g (Array.getElem?_eq_some_iff.1 hg).1 (by rw [e]; simpa using hne)).trans hg
theorem one_cell {W : World} {g : Nat} {c : Int} (h : W.heap[g]? = some (.cells #[.int .i64 c] 29 (0, 0))) : ∀ b, some (⟨g, 0, none⟩ : Addr) = some b → ∀ j u, ([c].map encZ)[j]? = some u → W.cell? (b.add j) = some u := by
  intro b e j u hu
  cases e
  have hj : j = 0 := by
    have := (List.getElem?_eq_some_iff.1 hu).1
    simp at this; exact this
  subst hj
  simp at hu
  subst hu
  rw [Go.WideShapes.add_plain]
  exact cell_at h rfl
theorem own_nil1 {w : World} {B n : Nat} {e : TypeId} {cap : Nat} {xs : List Value} (h : w.ownsRow B e 1 (.slice none n cap) n xs) : n = 0 ∧ cap = 0 := by
  rcases h.2 with ⟨e, hn⟩ | ⟨g, cap, cur, e, _⟩
  · simp only [Value.slice.injEq] at e; exact ⟨hn, e.2.2⟩
  · simp at e
theorem own_ad1 {w : World} {B n : Nat} {e : TypeId} {ad : Addr} {cap : Nat} {xs : List Value} (h : w.ownsRow B e 1 (.slice (some ad) n cap) n xs) : ∃ g, ad = ⟨g, 0, none⟩ ∧ g < w.heap.size := by
  rcases h.2 with ⟨e, hn⟩ | ⟨g, cap', cur, e, _, hgg, _⟩
  · simp at e
  · simp only [Value.slice.injEq, Option.some.injEq] at e
    exact ⟨g, e.1, (Array.getElem?_eq_some_iff.1 hgg).1⟩
theorem own_cap1 {w : World} {B n : Nat} {e : TypeId} {a : Option Addr} {cap : Nat} {xs : List Value} (h : w.ownsRow B e 1 (.slice a n cap) n xs) : n ≤ cap := by
  rcases h.2 with ⟨e, hn⟩ | ⟨g, cap', cur, e, _, _, h1, _⟩
  · omega
  · simp only [Value.slice.injEq] at e; omega
theorem own_base1 {w : World} {B B' n : Nat} {e : TypeId} {v : Value} {xs : List Value} (h : w.ownsRow B e 1 v n xs) (hB : B' ≤ B) : w.ownsRow B' e 1 v n xs := by
  refine ⟨h.1, ?_⟩
  rcases h.2 with hn | ⟨g, cap, cur, rfl, hg, rest⟩
  · exact .inl hn
  · exact .inr ⟨g, cap, cur, rfl, by omega, rest⟩
theorem map_take_cell {w : World} {g q : Nat} {l : List Int} (h : ∀ i (hi : i < l.length), w.cell? ⟨g, i, none⟩ = some (.int .i64 l[i])) : ∀ j u, ((l.take q).map encZ)[j]? = some u → w.cell? ((⟨g, 0, none⟩ : Addr).add j) = some u := by
  intro j u hu
  rw [Go.WideShapes.add_plain, Nat.zero_add]
  obtain ⟨hj, e⟩ := List.getElem?_eq_some_iff.1 hu
  simp at hj
  rw [h j (by omega), ← e]
  simp
theorem map_drop_cell {w : World} {g q : Nat} {l : List Int} (h : ∀ i (hi : i < l.length), w.cell? ⟨g, i, none⟩ = some (.int .i64 l[i])) : ∀ j u, ((l.drop q).map encZ)[j]? = some u → w.cell? ((⟨g, q, none⟩ : Addr).add j) = some u := by
  intro j u hu
  rw [Go.WideShapes.add_plain]
  obtain ⟨hj, e⟩ := List.getElem?_eq_some_iff.1 hu
  simp at hj
  rw [h (q + j) (by omega), ← e]
  simp
set_option maxHeartbeats 8000000 in
set_option maxRecDepth 100000 in
theorem rcodes_any (p : Nat) (V : List Nat) (v : Value) (L : List R4) (w : World) (h : RG w p V v L) (hn : L.length < 100000) :
    Calls Try.prog 18 #[.pointer (some ⟨p, 0, none⟩)] w fun e w' => ∃ v', e = .returned v' ∧ Hid (w'.ownsRow w.heap.size 29 1 v' (cds L).length ((cds L).map encZ) ∧ Below w.heap.size w w') := by
  have HG : Hid (RG w p V v L) := h
  have c0 := h.c0
  have hpl : p < w.heap.size := h.lt p h.pV
  obtain ⟨a, cap, rfl, _, hcs⟩ := own_cells4 h.own
  have HC : Hid (_) := hcs
  obtain ⟨n, en⟩ : ∃ n, n = L.length := ⟨_, rfl⟩
  have HN : Hid (n = L.length) := en
  rw [← en] at c0 hn
  clear en hcs h
  go_enter Try.func18, Try.ntmps18
  go_wp2_with fail
  go_loopw [3, 4, 5, 6] (fun v x _ _ wr => ∃ i, i ≤ n ∧ x = .int .i64 ((i : Nat) : Int) ∧ wr.ownsRow w.heap.size 29 1 v (cds (L.take i)).length ((cds (L.take i)).map encZ) ∧ Below w.heap.size w wr) (fun _ x _ _ _ => n - (intOf x).toNat)
  case atStart => exact ⟨0, by omega, rfl, World.ownsRow_nil _ _ _ _, Below.refl _ _⟩
  case round =>
    obtain ⟨i, hi, rfl, hown, hbel⟩ := hrel
    have c1 : wr.cell? ⟨p, 0, none⟩ = some (.slice a n cap) := (World.cell?_of_block (hbel.block p hpl)).trans c0
    by_cases hlt : i < n
    · have hil : i < L.length := by rw [← HN.out]; exact hlt
      obtain ⟨g0, rfl, _, hg0, x0, x1, x2, x3⟩ := HC.out i hil
      have d1 : wr.cell? ⟨g0, i * 4 + 1, none⟩ = some (.int .i64 L[i].2.1) := (World.cell?_of_block (hbel.block g0 hg0)).trans x1
      clear x0 x1 x2 x3
      have hll : (cds (L.take i)).length ≤ i := Nat.le_trans (cds_len _) (by simp; omega)
      obtain ⟨a3, cap3, rfl, _, hcs⟩ := own_cells1 hown
      have hnil := fun (e : a3 = none) => own_nil1 (e ▸ hown)
      have hcap := own_cap1 hown
      obtain ⟨l, el⟩ : ∃ l, l = cds (L.take i) := ⟨_, rfl⟩
      obtain ⟨c, ec⟩ : ∃ c, c = L[i].2.1 := ⟨_, rfl⟩
      obtain ⟨k, ek⟩ : ∃ k, k = l.length := ⟨_, rfl⟩
      obtain ⟨q, eq⟩ : ∃ q, q = lo c l := ⟨_, rfl⟩
      have HI : Hid (cds (L.take (i + 1)) = ins c l) := by
        show _ = _
        rw [List.take_succ_eq_append_getElem hil, cds_snoc, ec, el]
      have HEnd : Hid (∀ v7 w7, (∀ h : q < l.length, l[q] ≠ c) → w7.ownsRow wr.heap.size 29 1 v7 (0 + q + 1 + (k - q)) ((l.take q ++ [c] ++ l.drop q).map encZ) → Below wr.heap.size wr w7 → (w7.ownsRow w.heap.size 29 1 v7 (cds (L.take (i + 1))).length ((cds (L.take (i + 1))).map encZ) ∧ Below w.heap.size w w7)) := by
        intro v7 w7 hne h7 hb7
        have hq := lo_le c l
        have e : ins c l = l.take q ++ [c] ++ l.drop q := by
          rw [ins_lo, ← eq]
          by_cases hq2 : q < l.length
          · rw [dif_pos hq2, if_neg (hne hq2)]
          · rw [dif_neg hq2, List.take_of_length_le (by omega), List.drop_eq_nil_of_le (by omega)]; simp
        refine ⟨?_, hbel.trans (hb7.mono hbel.size)⟩
        rw [HI.out, e]
        have e2 : (l.take q ++ [c] ++ l.drop q).length = 0 + q + 1 + (k - q) := by simp; omega
        rw [e2]
        exact own_base1 h7 hbel.size
      have HSt : Hid (wr.ownsRow w.heap.size 29 1 (.slice a3 l.length cap3) l.length (l.map encZ) ∧ Below w.heap.size w wr) := by rw [el]; exact ⟨hown, hbel⟩
      rw [← el] at hcs hll hnil hcap ⊢
      rw [← ec] at d1
      have hql : q ≤ k := by rw [eq, ek]; exact lo_le c l
      have HLo : Hid ((∀ j (hj : j < l.length), j < q → l[j] < c) ∧ ∀ h : q < l.length, ¬ l[q] < c) := by rw [eq]; exact ⟨fun j hj => lo_less c l j hj, fun h => lo_stop c l h⟩
      have HSame : Hid (∀ h : q < l.length, l[q] = c → ins c l = l) := by
        intro h1 h2
        rw [ins_lo]
        subst eq
        rw [dif_pos h1, if_pos h2]
      have HK : Hid (k = l.length) := ek
      have HCs : Hid (∀ j (hj : j < l.length), ∃ g, a3 = some ⟨g, 0, none⟩ ∧ g < wr.heap.size ∧ wr.cell? ⟨g, j, none⟩ = some (.int .i64 l[j])) := fun j hj => by
        obtain ⟨g, h1, _, h3⟩ := hcs j hj
        exact ⟨g, h1, cell_lt h3, h3⟩
      rw [← ek] at hll hnil hcap ⊢
      have hqc : q ≤ cap3 := by omega
      have hqc' : (q : Int) ≤ (cap3 : Int) := by omega
      have hqk' : (q : Int) ≤ (k : Int) := by omega
      have hyA : (l.take q).length = q := by simp; omega
      have hyC : (l.drop q).length = k - q := by simp; omega
      clear hown el ec ek eq hcs hil
      clear hbel
      go_upto_block 2 with fail
      go_cut [6] (fun x wx => x = .int .i64 ((q : Nat) : Int) ∧ wx = wr)
      case first =>
        go_wp2_with fail
        go_loopw [6] (fun x wz => ∃ t, t ≤ q ∧ x = .int .i64 ((t : Nat) : Int) ∧ wz = wr) (fun x _ => q - (intOf x).toNat)
        case atStart => exact ⟨0, by omega, rfl, rfl⟩
        case round =>
          obtain ⟨t, ht, rfl, rfl⟩ := hrel
          by_cases htq : t < q
          · have htl : t < l.length := by rw [← HK.out]; omega
            obtain ⟨g, rfl, _, d2⟩ := HCs.out t htl
            have hlt2 := HLo.out.1 t htl htq
            generalize l[t] = y at *
            have htk : (t : Int) < (k : Int) := by omega
            go_wp2_with fail
            go_roundw
            case rel => exact ⟨t + 1, by omega, by go_num, by trivial⟩
            case measure => simp [intOf] <;> omega
          · obtain rfl : t = q := by omega
            by_cases htk : t < k
            · have htl : t < l.length := by rw [← HK.out]; omega
              obtain ⟨g, rfl, _, d2⟩ := HCs.out t htl
              have hlt2 := HLo.out.2 htl
              generalize l[t] = y at *
              have htk' : (t : Int) < (k : Int) := by omega
              go_wp2_with fail
              go_meet
              exact ⟨rfl, rfl⟩
            · have htk' : ¬ (t : Int) < (k : Int) := by omega
              go_wp2_with fail
              go_meet
              exact ⟨rfl, rfl⟩
      case rest =>
        obtain ⟨rfl, rfl⟩ := hcut
        by_cases htk : q < k
        · have htl : q < l.length := by rw [← HK.out]; omega
          obtain ⟨g, rfl, hgl, d2⟩ := HCs.out q htl
          by_cases hy : l[q] = c
          · have HF : Hid (wc.ownsRow w.heap.size 29 1 (.slice (some ⟨g, 0, none⟩) k cap3) (cds (L.take (i + 1))).length ((cds (L.take (i + 1))).map encZ) ∧ Below w.heap.size w wc) := by
              have e : ins c l = l := HSame.out htl hy
              rw [HI.out, e]
              have := HSt.out
              rw [← HK.out] at this ⊢
              exact this
            have d2 : wc.cell? ⟨g, q, none⟩ = some (.int .i64 c) := by rw [← hy]; exact d2
            have htk' : (q : Int) < (k : Int) := by omega
            clear HEnd HSt HCs HLo
            go_wp2_with fail
            go_roundw
            case rel => exact ⟨i + 1, by omega, by go_num, HF.out.1, HF.out.2⟩
            case measure => simp [intOf] <;> omega
          · have d2 : wc.cell? ⟨g, q, none⟩ = some (.int .i64 l[q]) := d2
            have hne : ∀ h : q < l.length, l[q] ≠ c := fun _ => hy
            have hyb : (l[q] == c) = false := by simp [hy]
            have HCw : Hid (∀ wx, Below wc.heap.size wc wx → ∀ j (hj : j < l.length), wx.cell? ⟨g, j, none⟩ = some (.int .i64 l[j])) := by
              intro wx hx j hj
              obtain ⟨g', e1, h2, h3⟩ := HCs.out j hj
              obtain rfl : g = g' := by simpa using e1
              exact (World.cell?_of_block (hx.block g h2)).trans h3
            have hcA : ∀ wx, Below wc.heap.size wc wx → ∀ b, some (⟨g, 0, none⟩ : Addr) = some b → ∀ j u, ((l.take q).map encZ)[j]? = some u → wx.cell? (b.add j) = some u := by
              intro wx hx b e
              cases e
              exact map_take_cell (HCw.out wx hx)
            have hcC : ∀ wx, Below wc.heap.size wc wx → ∀ j u, ((l.drop q).map encZ)[j]? = some u → wx.cell? ((⟨g, q, none⟩ : Addr).add j) = some u := fun wx hx => map_drop_cell (HCw.out wx hx)
            have h0A : some (⟨g, 0, none⟩ : Addr) = none → q = 0 ∧ cap3 = 0 := by simp
            have htk' : (q : Int) < (k : Int) := by omega
            have hcq : ¬ cap3 = q := by omega
            generalize l[q] = y at *
            clear hy
            go_upto_region 10 with fail
            go_region_law (first
              | (refine step_appE rfl (.tmp 50) (.tmp 53) rfl rfl wc.heap.size 0 q _ [] (l.take q) _ rfl (own_empty (by first | exact alloc_at (by simp) | exact (heap_alloc_old _ _ (by simp)).trans (alloc_at (by simp))) (by simp)) _ rfl hyA h0A (hcA _ (by repeat (first | with_reducible assumption | with_reducible refine below_drewNR ?_ _ | with_reducible refine Below.drew ?_ | with_reducible refine belowAR ?_ (Nat.le_refl _) _ | with_reducible exact Below.refl _ _))) (by omega) wc (Nat.le_refl _) (by repeat (first | with_reducible assumption | with_reducible refine below_drewNR ?_ _ | with_reducible refine Below.drew ?_ | with_reducible refine belowAR ?_ (Nat.le_refl _) _ | with_reducible exact Below.refl _ _)) ?_; intro v5 w5 H5 hB5; have K5 := grown_keep H5.out.2 rfl)
              | (refine step_appE rfl (.tmp 54) (.tmp 56) rfl rfl wc.heap.size (0 + q) 1 1 (l.take q) [c] _ rfl (by first | exact H5.out.1 | exact H5.out.1.alloc _) _ rfl rfl (by simp) (one_cell (by first | exact alloc_at (by simp) | exact K5.out _ _ (alloc_at (by simp)) (by simp) | exact K5.out _ _ ((heap_alloc_old _ _ (by simp)).trans (alloc_at (by simp))) (by simp))) (by omega) wc (Nat.le_refl _) (by repeat (first | with_reducible assumption | with_reducible refine below_drewNR ?_ _ | with_reducible refine Below.drew ?_ | with_reducible refine belowAR ?_ (Nat.le_refl _) _ | with_reducible exact Below.refl _ _)) ?_; intro v6 w6 H6 hB6)
              | (refine step_appE rfl (.tmp 57) (.tmp 60) rfl rfl wc.heap.size (0 + q + 1) (k - q) _ (l.take q ++ [c]) (l.drop q) _ rfl H6.out.1 _ rfl hyC (by simp) (by intro b e; cases e; exact hcC _ (by repeat (first | with_reducible assumption | with_reducible refine below_drewNR ?_ _ | with_reducible refine Below.drew ?_ | with_reducible refine belowAR ?_ (Nat.le_refl _) _ | with_reducible exact Below.refl _ _))) (by omega) wc (Nat.le_refl _) (by repeat (first | with_reducible assumption | with_reducible refine below_drewNR ?_ _ | with_reducible refine Below.drew ?_ | with_reducible refine belowAR ?_ (Nat.le_refl _) _ | with_reducible exact Below.refl _ _)) ?_; intro v7 w7 H7 hB7))
            all_goals
              have HF : Hid (w7.ownsRow w.heap.size 29 1 v7 (cds (L.take (i + 1))).length ((cds (L.take (i + 1))).map encZ) ∧ Below w.heap.size w w7) := HEnd.out v7 w7 hne H7.out.1 hB7
              clear H5 H6 H7 hB5 hB6 hB7 K5 hcA
              go_wp2_with fail
              go_roundw
              case rel => exact ⟨i + 1, by omega, by go_num, HF.out.1, HF.out.2⟩
              case measure => simp [intOf] <;> omega
        · have htk' : ¬ (q : Int) < (k : Int) := by omega
          have hne : ∀ h : q < l.length, l[q] ≠ c := fun h => absurd (by rw [HK.out]; exact h) htk
          have hdr : Hid (l.drop q = []) := List.drop_eq_nil_of_le (by have := HK.out; omega)
          cases a3 with
          | none =>
            obtain ⟨rfl, rfl⟩ := hnil rfl
            obtain rfl : q = 0 := by omega
            have hcA : ∀ wx, Below wc.heap.size wc wx → ∀ b, (none : Option Addr) = some b → ∀ j u, ((l.take 0).map encZ)[j]? = some u → wx.cell? (b.add j) = some u := by
              intro wx hx b e
              cases e
            have h0A : (none : Option Addr) = none → (0 : Nat) = 0 ∧ (0 : Nat) = 0 := by simp
            clear HSt HCs HLo
            go_upto_region 10 with fail
            go_region_law (first
              | (refine step_appE rfl (.tmp 50) (.tmp 53) rfl rfl wc.heap.size 0 0 _ [] (l.take 0) _ rfl (own_empty (by first | exact alloc_at (by simp) | exact (heap_alloc_old _ _ (by simp)).trans (alloc_at (by simp))) (by simp)) _ rfl hyA h0A (hcA _ (by repeat (first | with_reducible assumption | with_reducible refine below_drewNR ?_ _ | with_reducible refine Below.drew ?_ | with_reducible refine belowAR ?_ (Nat.le_refl _) _ | with_reducible exact Below.refl _ _))) (by omega) wc (Nat.le_refl _) (by repeat (first | with_reducible assumption | with_reducible refine below_drewNR ?_ _ | with_reducible refine Below.drew ?_ | with_reducible refine belowAR ?_ (Nat.le_refl _) _ | with_reducible exact Below.refl _ _)) ?_; intro v5 w5 H5 hB5; have K5 := grown_keep H5.out.2 rfl)
              | (refine step_appE rfl (.tmp 54) (.tmp 56) rfl rfl wc.heap.size (0 + 0) 1 1 (l.take 0) [c] _ rfl (by first | exact H5.out.1 | exact H5.out.1.alloc _) _ rfl rfl (by simp) (one_cell (by first | exact alloc_at (by simp) | exact K5.out _ _ (alloc_at (by simp)) (by simp) | exact K5.out _ _ ((heap_alloc_old _ _ (by simp)).trans (alloc_at (by simp))) (by simp))) (by omega) wc (Nat.le_refl _) (by repeat (first | with_reducible assumption | with_reducible refine below_drewNR ?_ _ | with_reducible refine Below.drew ?_ | with_reducible refine belowAR ?_ (Nat.le_refl _) _ | with_reducible exact Below.refl _ _)) ?_; intro v6 w6 H6 hB6)
              | (refine step_appE rfl (.tmp 57) (.tmp 60) rfl rfl wc.heap.size (0 + 0 + 1) (0 - 0) _ (l.take 0 ++ [c]) (l.drop 0) _ rfl H6.out.1 _ rfl hyC (by simp) (by intro b _ j u hu; rw [hdr.out] at hu; simp at hu) (by omega) wc (Nat.le_refl _) (by repeat (first | with_reducible assumption | with_reducible refine below_drewNR ?_ _ | with_reducible refine Below.drew ?_ | with_reducible refine belowAR ?_ (Nat.le_refl _) _ | with_reducible exact Below.refl _ _)) ?_; intro v7 w7 H7 hB7))
            all_goals
              have HF : Hid (w7.ownsRow w.heap.size 29 1 v7 (cds (L.take (i + 1))).length ((cds (L.take (i + 1))).map encZ) ∧ Below w.heap.size w w7) := HEnd.out v7 w7 hne H7.out.1 hB7
              clear H5 H6 H7 hB5 hB6 hB7 K5 hcA
              go_wp2_with fail
              go_roundw
              case rel => exact ⟨i + 1, by omega, by go_num, HF.out.1, HF.out.2⟩
              case measure => simp [intOf] <;> omega
          | some ad =>
            obtain ⟨g, rfl, hgl⟩ := own_ad1 HSt.out.1
            have HCw : Hid (∀ wx, Below wc.heap.size wc wx → ∀ j (hj : j < l.length), wx.cell? ⟨g, j, none⟩ = some (.int .i64 l[j])) := by
              intro wx hx j hj
              obtain ⟨g', e1, h2, h3⟩ := HCs.out j hj
              obtain rfl : g = g' := by simpa using e1
              exact (World.cell?_of_block (hx.block g h2)).trans h3
            have hcA : ∀ wx, Below wc.heap.size wc wx → ∀ b, some (⟨g, 0, none⟩ : Addr) = some b → ∀ j u, ((l.take q).map encZ)[j]? = some u → wx.cell? (b.add j) = some u := by
              intro wx hx b e
              cases e
              exact map_take_cell (HCw.out wx hx)
            have h0A : some (⟨g, 0, none⟩ : Addr) = none → q = 0 ∧ cap3 = 0 := by simp
            clear HSt HCs HLo
            by_cases hcq : cap3 = q
            · subst hcq
              have hk0 : k - cap3 = 0 := by omega
              rw [hk0] at HEnd hyC
              clear hk0
              go_upto_region 10 with fail
              go_region_law (first
                | (refine step_appE rfl (.tmp 50) (.tmp 53) rfl rfl wc.heap.size 0 cap3 _ [] (l.take cap3) _ rfl (own_empty (by first | exact alloc_at (by simp) | exact (heap_alloc_old _ _ (by simp)).trans (alloc_at (by simp))) (by simp)) _ rfl hyA h0A (hcA _ (by repeat (first | with_reducible assumption | with_reducible refine below_drewNR ?_ _ | with_reducible refine Below.drew ?_ | with_reducible refine belowAR ?_ (Nat.le_refl _) _ | with_reducible exact Below.refl _ _))) (by omega) wc (Nat.le_refl _) (by repeat (first | with_reducible assumption | with_reducible refine below_drewNR ?_ _ | with_reducible refine Below.drew ?_ | with_reducible refine belowAR ?_ (Nat.le_refl _) _ | with_reducible exact Below.refl _ _)) ?_; intro v5 w5 H5 hB5; have K5 := grown_keep H5.out.2 rfl)
                | (refine step_appE rfl (.tmp 54) (.tmp 56) rfl rfl wc.heap.size (0 + cap3) 1 1 (l.take cap3) [c] _ rfl (by first | exact H5.out.1 | exact H5.out.1.alloc _) _ rfl rfl (by simp) (one_cell (by first | exact alloc_at (by simp) | exact K5.out _ _ (alloc_at (by simp)) (by simp) | exact K5.out _ _ ((heap_alloc_old _ _ (by simp)).trans (alloc_at (by simp))) (by simp))) (by omega) wc (Nat.le_refl _) (by repeat (first | with_reducible assumption | with_reducible refine below_drewNR ?_ _ | with_reducible refine Below.drew ?_ | with_reducible refine belowAR ?_ (Nat.le_refl _) _ | with_reducible exact Below.refl _ _)) ?_; intro v6 w6 H6 hB6)
                | (refine step_appE rfl (.tmp 57) (.tmp 60) rfl rfl wc.heap.size (0 + cap3 + 1) 0 _ (l.take cap3 ++ [c]) (l.drop cap3) _ rfl H6.out.1 _ rfl hyC (by simp) (by intro b _ j u hu; rw [hdr.out] at hu; simp at hu) (by omega) wc (Nat.le_refl _) (by repeat (first | with_reducible assumption | with_reducible refine below_drewNR ?_ _ | with_reducible refine Below.drew ?_ | with_reducible refine belowAR ?_ (Nat.le_refl _) _ | with_reducible exact Below.refl _ _)) ?_; intro v7 w7 H7 hB7))
              all_goals
                have HF : Hid (w7.ownsRow w.heap.size 29 1 v7 (cds (L.take (i + 1))).length ((cds (L.take (i + 1))).map encZ) ∧ Below w.heap.size w w7) := HEnd.out v7 w7 hne H7.out.1 hB7
                clear H5 H6 H7 hB5 hB6 hB7 K5 hcA
                go_wp2_with fail
                go_roundw
                case rel => exact ⟨i + 1, by omega, by go_num, HF.out.1, HF.out.2⟩
                case measure => simp [intOf] <;> omega
            · go_upto_region 10 with fail
              go_region_law (first
                | (refine step_appE rfl (.tmp 50) (.tmp 53) rfl rfl wc.heap.size 0 q _ [] (l.take q) _ rfl (own_empty (by first | exact alloc_at (by simp) | exact (heap_alloc_old _ _ (by simp)).trans (alloc_at (by simp))) (by simp)) _ rfl hyA h0A (hcA _ (by repeat (first | with_reducible assumption | with_reducible refine below_drewNR ?_ _ | with_reducible refine Below.drew ?_ | with_reducible refine belowAR ?_ (Nat.le_refl _) _ | with_reducible exact Below.refl _ _))) (by omega) wc (Nat.le_refl _) (by repeat (first | with_reducible assumption | with_reducible refine below_drewNR ?_ _ | with_reducible refine Below.drew ?_ | with_reducible refine belowAR ?_ (Nat.le_refl _) _ | with_reducible exact Below.refl _ _)) ?_; intro v5 w5 H5 hB5; have K5 := grown_keep H5.out.2 rfl)
                | (refine step_appE rfl (.tmp 54) (.tmp 56) rfl rfl wc.heap.size (0 + q) 1 1 (l.take q) [c] _ rfl (by first | exact H5.out.1 | exact H5.out.1.alloc _) _ rfl rfl (by simp) (one_cell (by first | exact alloc_at (by simp) | exact K5.out _ _ (alloc_at (by simp)) (by simp) | exact K5.out _ _ ((heap_alloc_old _ _ (by simp)).trans (alloc_at (by simp))) (by simp))) (by omega) wc (Nat.le_refl _) (by repeat (first | with_reducible assumption | with_reducible refine below_drewNR ?_ _ | with_reducible refine Below.drew ?_ | with_reducible refine belowAR ?_ (Nat.le_refl _) _ | with_reducible exact Below.refl _ _)) ?_; intro v6 w6 H6 hB6)
                | (refine step_appE rfl (.tmp 57) (.tmp 60) rfl rfl wc.heap.size (0 + q + 1) (k - q) _ (l.take q ++ [c]) (l.drop q) _ rfl H6.out.1 _ rfl hyC (by simp) (by intro b _ j u hu; rw [hdr.out] at hu; simp at hu) (by omega) wc (Nat.le_refl _) (by repeat (first | with_reducible assumption | with_reducible refine below_drewNR ?_ _ | with_reducible refine Below.drew ?_ | with_reducible refine belowAR ?_ (Nat.le_refl _) _ | with_reducible exact Below.refl _ _)) ?_; intro v7 w7 H7 hB7))
              all_goals
                have HF : Hid (w7.ownsRow w.heap.size 29 1 v7 (cds (L.take (i + 1))).length ((cds (L.take (i + 1))).map encZ) ∧ Below w.heap.size w w7) := HEnd.out v7 w7 hne H7.out.1 hB7
                clear H5 H6 H7 hB5 hB6 hB7 K5 hcA
                go_wp2_with fail
                go_roundw
                case rel => exact ⟨i + 1, by omega, by go_num, HF.out.1, HF.out.2⟩
                case measure => simp [intOf] <;> omega
    · obtain rfl : i = n := by omega
      have e : L.take i = L := List.take_of_length_le (by have := HN.out; omega)
      rw [e] at hown
      have HO : Hid (_) := And.intro hown hbel
      clear hown hbel
      go_wp2_with fail
      go_ret
      exact ⟨_, rfl, HO⟩
end Go.Proofs.Yteaekoacongbcaa
