/- Layer 20: refusal. (gensg.py) -/
import Derived.Test.YtnmnjcjfgbpkaaaDoorJSb
import Derived.ArgAppend
import Derived.Lib.SlBytesConst
import Derived.Deep.RegionLaw
namespace Go.Proofs.YtnmnjcjfgbpkaaaDoor
set_option maxRecDepth 100000
open Go.RowKit Go.Maps
set_option maxRecDepth 100000
/-- A move in memory, at b. -/
def MvW (w : World) (b : Nat) (m : Mv) (d : Option Addr) (e : Nat) : Prop := w.heap[b]? = some (.cells #[.int .i64 m.k, .int .i64 m.c, .int .i64 m.s, .int .i64 m.f, .int .i64 m.a, .int .u32 (m.w : Nat), .int .i64 m.n, .bool m.h, .slice d m.l e] 45 (0, 0))
theorem MvW.cells {w : World} {b : Nat} {m : Mv} {d : Option Addr} {e : Nat} (h : MvW w b m d e) : w.cell? ⟨b, 0, none⟩ = some (.int .i64 m.k) ∧ w.cell? ⟨b, 1, none⟩ = some (.int .i64 m.c) ∧ w.cell? ⟨b, 2, none⟩ = some (.int .i64 m.s) ∧ w.cell? ⟨b, 3, none⟩ = some (.int .i64 m.f) ∧ w.cell? ⟨b, 4, none⟩ = some (.int .i64 m.a) ∧ w.cell? ⟨b, 5, none⟩ = some (.int .u32 (m.w : Nat)) ∧ w.cell? ⟨b, 6, none⟩ = some (.int .i64 m.n) ∧ w.cell? ⟨b, 7, none⟩ = some (.bool m.h) ∧ w.cell? ⟨b, 8, none⟩ = some (.slice d m.l e) :=
  ⟨cell_of_row w b 0 _ _ _ h, cell_of_row w b 1 _ _ _ h, cell_of_row w b 2 _ _ _ h, cell_of_row w b 3 _ _ _ h, cell_of_row w b 4 _ _ _ h, cell_of_row w b 5 _ _ _ h, cell_of_row w b 6 _ _ _ h, cell_of_row w b 7 _ _ _ h, cell_of_row w b 8 _ _ _ h⟩
theorem MvW.below {w w' : World} {b : Nat} {m : Mv} {d : Option Addr} {e : Nat} (h : MvW w b m d e) (q : Below w.heap.size w w') : MvW w' b m d e := (q.block b (Array.getElem?_eq_some_iff.1 h).1).trans h
theorem MvW.new (w : World) (m : Mv) (d : Option Addr) (e : Nat) : MvW (w.alloc (.cells #[.int .i64 m.k, .int .i64 m.c, .int .i64 m.s, .int .i64 m.f, .int .i64 m.a, .int .u32 (m.w : Nat), .int .i64 m.n, .bool m.h, .slice d m.l e] 45)) w.heap.size m d e := heap_alloc_new _ _
set_option maxHeartbeats 2000000 in
theorem prefusal (m : Mv) (hm : m.Ok) (d : Option Addr) (e : Nat) (w : World) (hl : m.l ≤ 140737488355328) : Calls Tryd.prog 32 #[.agg #[.int .i64 m.k, .int .i64 m.c, .int .i64 m.s, .int .i64 m.f, .int .i64 m.a, .int .u32 (m.w : Nat), .int .i64 m.n, .bool m.h, .slice d m.l e]] w fun r w' => r = .returned (.int .i64 m.err) ∧ Below w.heap.size w w' := by
  obtain ⟨W, hW⟩ : ∃ W : World, (w.alloc (.cells #[.int .i64 m.k, .int .i64 m.c, .int .i64 m.s, .int .i64 m.f, .int .i64 m.a, .int .u32 (m.w : Nat), .int .i64 m.n, .bool m.h, .slice d m.l e] 45)).alloc (.cells #[.int .i64 m.c] 3) = W := ⟨_, rfl⟩
  have bW : Below w.heap.size w W := by rw [← hW]; exact belA (belA (Below.refl _ _) _) _
  have mW : MvW W w.heap.size m d e := by rw [← hW]; exact (MvW.new w m d e).below (belA (Below.refl _ _) _)
  have rW : NRow W (some ⟨w.heap.size + 1, 0, none⟩) [m.c].length (zf [m.c]) := fun i hi => by
    refine ⟨_, _, rfl, ?_⟩
    have e := heap_alloc_new (w.alloc (.cells #[.int .i64 m.k, .int .i64 m.c, .int .i64 m.s, .int .i64 m.f, .int .i64 m.a, .int .u32 (m.w : Nat), .int .i64 m.n, .bool m.h, .slice d m.l e] 45)) (.cells #[.int .i64 m.c] 3)
    rw [hW] at e
    simp only [World.size_alloc] at e
    obtain rfl : i = 0 := by simpa using hi
    exact cell_of_row _ _ 0 _ _ _ e
  have hF := pfit [m.c] _ 1 W rW (by simp)
  have ec : [m.c].all fitI = fitI m.c := by simp
  rw [ec, show [m.c].length = 1 from rfl] at hF
  have hLn := plast m hm d e W
  obtain ⟨c0, c1, c2, c3, c4, c5, c6, c7, c8⟩ := mW.cells
  have HM : Hid (_) := And.intro bW mW
  obtain ⟨E, hE⟩ : ∃ x, m.err = x := ⟨_, rfl⟩
  rw [hE]
  have HE : Hid (m.err = E) := hE
  clear ec rW bW mW hE
  cases fc : fitI m.c with
  | false =>
    rw [fc] at hF
    have HX : Hid (E = 2) := by
      show E = 2
      rw [← HE.out]
      unfold Mv.err
      rw [if_pos (.inl fc)]
    go_enter Tryd.func32, Tryd.ntmps32
    go_wp2_with fail
    try rw [hW]
    clear hW
    refine hF.mono ?_
    rintro r w' ⟨rfl, hw⟩
    rw [hw]
    clear hF hLn hw
    go_wp2_with fail
    go_ret
    exact ⟨by rw [HX.out]; rfl, HM.out.1⟩
  | true =>
    rw [fc] at hF
    go_enter Tryd.func32, Tryd.ntmps32
    go_wp2_with fail
    try rw [hW]
    clear hW
    refine hF.mono ?_
    rintro r w' ⟨rfl, hw⟩
    rw [hw]
    clear hF hw
    go_wp2_with fail
    refine hLn.mono ?_
    rintro r w2 ⟨a, cap, rfl, h2⟩
    have hF := pfit m.ns a cap w2 h2.out.1 (by have := m.ns_len; omega)
    have HM2 : Hid (Below w.heap.size w w2 ∧ MvW w2 w.heap.size m d e) := ⟨HM.out.1.trans (h2.out.2.mono HM.out.1.size), HM.out.2.below h2.out.2⟩
    clear hLn h2 c0 c1 c2 c3 c4 c5 c6 c7 c8 HM
    generalize m.ns.length = nn at *
    cases fn : m.ns.all fitI with
    | false =>
      rw [fn] at hF
      have HX : Hid (E = 2) := by
        show E = 2
        rw [← HE.out]
        unfold Mv.err
        rw [if_pos (.inr fn)]
      go_wp2_with fail
      refine hF.mono ?_
      rintro r w' ⟨rfl, hw⟩
      rw [hw]
      clear hF hw
      go_wp2_with fail
      go_ret
      exact ⟨by rw [HX.out]; rfl, HM2.out.1⟩
    | true =>
      rw [fn] at hF
      have HX : Hid (E = if sided m.k = true ∧ m.s ≠ 1 ∧ m.s ≠ 2 then 172 else if m.k = 1 ∧ 8 < m.l then 45 else if m.k < 1 ∨ 8 < m.k then 170 else 0) := by
        show E = _
        rw [← HE.out]
        unfold Mv.err
        rw [if_neg (by rintro (h | h); rw [fc] at h; cases h; rw [fn] at h; cases h)]
      go_wp2_with fail
      refine hF.mono ?_
      rintro r w' ⟨rfl, hw⟩
      rw [hw]
      clear hF hw HE fn fc
      obtain ⟨c0, c1, c2, c3, c4, c5, c6, c7, c8⟩ := HM2.out.2.cells
      have hU := puses m.k
      go_wp2_with fail
      refine (hU _).mono ?_
      rintro r w' ⟨rfl, hw⟩
      rw [hw]
      clear hU hw
      have tail : Hid (E = if m.k = 1 ∧ 8 < m.l then 45 else if m.k < 1 ∨ 8 < m.k then 170 else 0) → Hid (True) := fun _ => trivial
      clear tail
      by_cases hs : sided m.k = true ∧ m.s ≠ 1 ∧ m.s ≠ 2
      · obtain ⟨h1, h2, h3⟩ := hs
        have HX2 : Hid (E = 172) := by show E = 172; rw [HX.out, if_pos ⟨h1, h2, h3⟩]
        have g2 : (m.s != 1) = true := by simpa using h2
        have g3 : (m.s != 2) = true := by simpa using h3
        rw [h1]
        clear HX h1 h2 h3
        go_wp2_with fail
        go_ret
        exact ⟨by rw [HX2.out]; rfl, HM2.out.1⟩
      · have HX2 : Hid (E = if m.k = 1 ∧ 8 < m.l then 45 else if m.k < 1 ∨ 8 < m.k then 170 else 0) := by show E = _; rw [HX.out, if_neg hs]
        obtain ⟨S, hS⟩ : ∃ x, sided m.k = x := ⟨_, rfl⟩
        rw [hS] at hs ⊢
        clear HX hS
        have fin : ∀ (Q : Prop), (((m.k = 1 ∧ 8 < m.l) → Hid (E = 45) → Q) → (¬ (m.k = 1 ∧ 8 < m.l) → (m.k < 1 ∨ 8 < m.k) → Hid (E = 170) → Q) → (¬ (m.k = 1 ∧ 8 < m.l) → ¬ (m.k < 1 ∨ 8 < m.k) → Hid (E = 0) → Q) → Q) := fun Q q1 q2 q3 => by
          by_cases h1 : m.k = 1 ∧ 8 < m.l
          · exact q1 h1 (by show E = 45; rw [HX2.out, if_pos h1])
          · by_cases h2 : m.k < 1 ∨ 8 < m.k
            · exact q2 h1 h2 (by show E = 170; rw [HX2.out, if_neg h1, if_pos h2])
            · exact q3 h1 h2 (by show E = 0; rw [HX2.out, if_neg h1, if_neg h2])
        have ss : S = false ∨ (S = true ∧ m.s = 1) ∨ (S = true ∧ m.s ≠ 1 ∧ m.s = 2) := by
          cases S with
          | false => exact .inl rfl
          | true =>
            by_cases h1 : m.s = 1
            · exact .inr (.inl ⟨rfl, h1⟩)
            · by_cases h2 : m.s = 2
              · exact .inr (.inr ⟨rfl, h1, h2⟩)
              · exact absurd ⟨rfl, h1, h2⟩ hs
        clear hs HX2
        rcases ss with rfl | ⟨rfl, h1⟩ | ⟨rfl, h1, h2⟩
        · skip
          refine fin _ (fun h1 HX => ?_) (fun h1 h2 HX => ?_) (fun h1 h2 HX => ?_)
          · have g1 : (m.k == 1) = true := by simpa using h1.1
            have g2 : (8 : Int) < ((m.l : Nat) : Int) := by omega
            have g3 := h1.2
            clear h1 fin
            go_wp2_with fail
            go_ret
            exact ⟨by rw [HX.out]; rfl, HM2.out.1⟩
          · by_cases hk1 : m.k = 1
            · omega
            · have g1 : (m.k == 1) = false := by simpa using hk1
              clear fin h1
              by_cases hk : m.k < 1
              · clear h2
                go_wp2_with fail
                go_ret
                exact ⟨by rw [HX.out]; rfl, HM2.out.1⟩
              · have hk8 : 8 < m.k := by omega
                have hk8' : m.k > 8 := hk8
                clear h2
                go_wp2_with fail
                go_ret
                exact ⟨by rw [HX.out]; rfl, HM2.out.1⟩
          · have hk : ¬ m.k < 1 := by omega
            have hk8 : ¬ 8 < m.k := by omega
            have hk8' : ¬ m.k > 8 := by omega
            by_cases hk1 : m.k = 1
            · have g1 : (m.k == 1) = true := by simpa using hk1
              have g2 : ¬ (8 : Int) < ((m.l : Nat) : Int) := by omega
              have g3 : ¬ 8 < m.l := by omega
              clear fin h1 h2 hk1
              go_wp2_with fail
              go_ret
              exact ⟨by rw [HX.out]; rfl, HM2.out.1⟩
            · have g1 : (m.k == 1) = false := by simpa using hk1
              clear fin h1 h2
              go_wp2_with fail
              go_ret
              exact ⟨by rw [HX.out]; rfl, HM2.out.1⟩
        · have f1 : (m.s != 1) = false := by simpa using h1
          clear h1
          refine fin _ (fun h1 HX => ?_) (fun h1 h2 HX => ?_) (fun h1 h2 HX => ?_)
          · have g1 : (m.k == 1) = true := by simpa using h1.1
            have g2 : (8 : Int) < ((m.l : Nat) : Int) := by omega
            have g3 := h1.2
            clear h1 fin
            go_wp2_with fail
            go_ret
            exact ⟨by rw [HX.out]; rfl, HM2.out.1⟩
          · by_cases hk1 : m.k = 1
            · omega
            · have g1 : (m.k == 1) = false := by simpa using hk1
              clear fin h1
              by_cases hk : m.k < 1
              · clear h2
                go_wp2_with fail
                go_ret
                exact ⟨by rw [HX.out]; rfl, HM2.out.1⟩
              · have hk8 : 8 < m.k := by omega
                have hk8' : m.k > 8 := hk8
                clear h2
                go_wp2_with fail
                go_ret
                exact ⟨by rw [HX.out]; rfl, HM2.out.1⟩
          · have hk : ¬ m.k < 1 := by omega
            have hk8 : ¬ 8 < m.k := by omega
            have hk8' : ¬ m.k > 8 := by omega
            by_cases hk1 : m.k = 1
            · have g1 : (m.k == 1) = true := by simpa using hk1
              have g2 : ¬ (8 : Int) < ((m.l : Nat) : Int) := by omega
              have g3 : ¬ 8 < m.l := by omega
              clear fin h1 h2 hk1
              go_wp2_with fail
              go_ret
              exact ⟨by rw [HX.out]; rfl, HM2.out.1⟩
            · have g1 : (m.k == 1) = false := by simpa using hk1
              clear fin h1 h2
              go_wp2_with fail
              go_ret
              exact ⟨by rw [HX.out]; rfl, HM2.out.1⟩
        · have f1 : (m.s != 1) = true := by simpa using h1
          have f2 : (m.s != 2) = false := by simpa using h2
          clear h1 h2
          refine fin _ (fun h1 HX => ?_) (fun h1 h2 HX => ?_) (fun h1 h2 HX => ?_)
          · have g1 : (m.k == 1) = true := by simpa using h1.1
            have g2 : (8 : Int) < ((m.l : Nat) : Int) := by omega
            have g3 := h1.2
            clear h1 fin
            go_wp2_with fail
            go_ret
            exact ⟨by rw [HX.out]; rfl, HM2.out.1⟩
          · by_cases hk1 : m.k = 1
            · omega
            · have g1 : (m.k == 1) = false := by simpa using hk1
              clear fin h1
              by_cases hk : m.k < 1
              · clear h2
                go_wp2_with fail
                go_ret
                exact ⟨by rw [HX.out]; rfl, HM2.out.1⟩
              · have hk8 : 8 < m.k := by omega
                have hk8' : m.k > 8 := hk8
                clear h2
                go_wp2_with fail
                go_ret
                exact ⟨by rw [HX.out]; rfl, HM2.out.1⟩
          · have hk : ¬ m.k < 1 := by omega
            have hk8 : ¬ 8 < m.k := by omega
            have hk8' : ¬ m.k > 8 := by omega
            by_cases hk1 : m.k = 1
            · have g1 : (m.k == 1) = true := by simpa using hk1
              have g2 : ¬ (8 : Int) < ((m.l : Nat) : Int) := by omega
              have g3 : ¬ 8 < m.l := by omega
              clear fin h1 h2 hk1
              go_wp2_with fail
              go_ret
              exact ⟨by rw [HX.out]; rfl, HM2.out.1⟩
            · have g1 : (m.k == 1) = false := by simpa using hk1
              clear fin h1 h2
              go_wp2_with fail
              go_ret
              exact ⟨by rw [HX.out]; rfl, HM2.out.1⟩
end Go.Proofs.YtnmnjcjfgbpkaaaDoor
namespace Go.Proofs.YtnmnjcjfgbpkaaaDoor
set_option maxRecDepth 100000
open Go.RowKit Go.Maps
set_option maxRecDepth 100000
/-- A digit of base sixteen. -/
def dg (x : Nat) : UInt8 := [48, 49, 50, 51, 52, 53, 54, 55, 56, 57, 97, 98, 99, 100, 101, 102].getD x 0
/-- Bytes in base sixteen. -/
def hx (n : Nat) (b : Nat → Nat) : List UInt8 := (List.range n).flatMap fun i => [dg (b i / 16), dg (b i % 16)]
theorem hx_succ (n : Nat) (b : Nat → Nat) : hx (n + 1) b = hx n b ++ [dg (b n / 16), dg (b n % 16)] := by
  unfold hx
  rw [List.range_succ, List.flatMap_append]
  simp
theorem hx_len (n : Nat) (b : Nat → Nat) : (hx n b).length = 2 * n := by
  induction n with
  | zero => rfl
  | succ n ih =>
    rw [hx_succ, List.length_append, ih]
    simp
    omega
/-- Bytes as values. -/
def vb (l : List UInt8) : List Value := l.map fun u => .int .u8 ((u.toNat : Nat) : Int)
theorem vb_app (a b : List UInt8) : vb (a ++ b) = vb a ++ vb b := List.map_append
theorem vb_one (l : List UInt8) : ∀ u ∈ vb l, u.oneCell' = true := fun u hu => by
  obtain ⟨x, _, rfl⟩ := List.mem_map.1 hu
  rfl
def bf (l : List UInt8) (i : Nat) : Nat := (l.getD i 0).toNat
theorem vb_CB (l : List UInt8) : vb l = CB (bf l) l.length := by
  apply List.ext_getElem?
  intro i
  by_cases h : i < l.length
  · rw [CB_get _ _ _ h]
    simp [vb, bf, h]
  · rw [CB_none _ _ _ (by omega)]
    simp [vb]
    omega
theorem bf_lt (l : List UInt8) (i : Nat) : bf l i < 256 := by
  unfold bf
  exact UInt8.toNat_lt _
theorem BA_bf (l : List UInt8) : BA (bf l) l.length = tx l := by
  rw [BA_tx]
  congr 1
  apply List.ext_getElem
  · simp
  · intro i h1 h2
    simp [bf, h2]
theorem and15_fin : ∀ y : Fin 256, bits .and .u8 ((y.val : Nat) : Int) 15 = ((y.val : Nat) : Int) % 16 := by decide +kernel
theorem and15 {x : Nat} (h : x < 256) : bits .and .u8 ((x : Nat) : Int) 15 = ((x : Nat) : Int) % 16 := and15_fin ⟨x, h⟩
theorem dig_idx (x : Nat) (h : x < 16) : ∀ w, (Instr.index 9 (.string (ByteArray.mk #[48, 49, 50, 51, 52, 53, 54, 55, 56, 57, 97, 98, 99, 100, 101, 102])) (.int .u8 ((x : Nat) : Int))).run Tryd.prog w = .ok (.int .u8 (((dg x).toNat : Nat) : Int)) w := fun w => by
  have : x = 0 ∨ x = 1 ∨ x = 2 ∨ x = 3 ∨ x = 4 ∨ x = 5 ∨ x = 6 ∨ x = 7 ∨ x = 8 ∨ x = 9 ∨ x = 10 ∨ x = 11 ∨ x = 12 ∨ x = 13 ∨ x = 14 ∨ x = 15 := by omega
  rcases this with rfl | rfl | rfl | rfl | rfl | rfl | rfl | rfl | rfl | rfl | rfl | rfl | rfl | rfl | rfl | rfl
  all_goals rfl
/-- Words of bytes of our own, made into a text. -/
theorem conv_vb {w : World} {B : Nat} {v : Value} (l : List UInt8) (n : Nat) (hn : l.length = n) (o : w.ownsRow B 5 1 v n (vb l)) : (convert 43 9 v).run Tryd.prog w = .ok (.string (tx l)) w := by
  subst hn
  rw [vb_CB] at o
  obtain ⟨a, c, rfl, R⟩ := own_row8 o (fun i _ => bf_lt l i)
  rw [conv_any _ _ _ _ _ R, BA_bf]
/-- Bytes that a call builds: a row of its own, or a constant's. -/
def Tb (w : World) (B : Nat) (v : Value) (l : List UInt8) : Prop := w.ownsRow B 5 1 v l.length (vb l) ∨ ∃ g, v = .slice (some ⟨g, 0, none⟩) l.length l.length ∧ B ≤ g ∧ g < w.heap.size ∧ 0 < l.length ∧ ∀ j u, (vb l)[j]? = some u → w.cell? ⟨g, j, none⟩ = some u
theorem Tb.below {w w' : World} {B : Nat} {v : Value} {l : List UInt8} (h : Tb w B v l) (b : Below w.heap.size w w') : Tb w' B v l := by
  rcases h with h | ⟨g, e, h1, h2, h3, h4⟩
  · exact .inl (ownB h b)
  · exact .inr ⟨g, e, h1, Nat.lt_of_lt_of_le h2 b.size, h3, fun j u hu => cellB (h4 j u hu) b⟩
theorem Tb.conv {w : World} {B : Nat} {v : Value} {l : List UInt8} (h : Tb w B v l) : (convert 43 9 v).run Tryd.prog w = .ok (.string (tx l)) w := by
  rcases h with h | ⟨g, rfl, h1, h2, h3, h4⟩
  · exact conv_vb l _ rfl h
  · have R : Row8 w (some ⟨g, 0, none⟩) l.length l.length (bf l) := by
      refine ⟨fun i _ => bf_lt l i, (fun h => by cases h), fun x hx i hi => ?_, Nat.le_refl _⟩
      cases hx
      have e : (Addr.add ⟨g, 0, none⟩ i) = ⟨g, i, none⟩ := by unfold Addr.add; simp; omega
      rw [e]
      refine h4 i _ ?_
      rw [vb_CB, CB_get _ _ _ hi]
    rw [conv_any _ _ _ _ _ R, BA_bf]
/-- append of bytes in a new block. -/
theorem step_appT {ops : Array Oper} {o : Oper} {a : Act} {w : World} {K : Act → World → Prop} {Q : Exit → Act → World → Prop} {E : Prop}
    (hg : o.guard = none) (s x : Operand) (hop : o.op = Op.call { callee := Callee.builtin Builtin.append, args := #[s, x], argTypes := #[43, 43] }) (hty : o.type = 43)
    (B g : Nat) (v : Value) (l m : List UInt8) (hs : a.eval s = v) (hx : a.eval x = .slice (some ⟨g, 0, none⟩) m.length m.length) (h1 : Tb w B v l) (hgc : ∀ j u, (vb m)[j]? = some u → w.cell? ⟨g, j, none⟩ = some u) (hm : 0 < m.length) (hn : l.length + m.length ≤ 1000000) (hB : B ≤ w.heap.size)
    (w0 : World) (hb : Below B w0 w) (hK : ∀ v' w', Hid (Tb w' B v' (l ++ m)) → Below B w0 w' → K (a.put o.dst v') w') :
    if Region.wanted o (yielded ops a.tmps) = true then Oper.wp Tryd.prog o a w K Q else E := by
  have hw : Region.wanted o (yielded ops a.tmps) = true := by simp [Region.wanted, hg]
  rw [if_pos hw]
  obtain ⟨i0, hI, hz0, hz1, hz2⟩ := info_parts info_u8
  have src : ∀ j u, (vb m)[j]? = some u → w.cell? (Addr.add ⟨g, 0, none⟩ j) = some u := fun j u hu => by
    have e : (Addr.add ⟨g, 0, none⟩ j) = ⟨g, j, none⟩ := by unfold Addr.add; simp; omega
    rw [e]
    exact hgc j u hu
  have ll : (vb l).length = l.length := by simp [vb]
  have lm : (vb m).length = m.length := by simp [vb]
  have hrun : ∃ v' w', (Builtin.append_ #[43, 43] 43 #[v, .slice (some ⟨g, 0, none⟩) m.length m.length]).run Tryd.prog w = .ok v' w' ∧ Tb w' B v' (l ++ m) ∧ Below B w0 w' := by
    rcases h1 with h | ⟨g', rfl, q1, q2, q3, q4⟩
    · obtain ⟨v', w', hr, k1, k2, _⟩ := run_append_own (P := Tryd.prog) w B 43 43 5 i0 (.int .u8 0) 1 1 Tryd.underlying43 hI hz0 hz1 hz2 rfl (by decide) v l.length (vb l) h ⟨g, 0, none⟩ m.length m.length (vb m) (by rw [lm, Nat.mul_one]) src (vb_one m) (by unfold maxLen; omega) (by omega) hB
      refine ⟨v', w', hr, .inl ?_, hb.grown k2 hB (fun j hj => (h.lt j hj).1)⟩
      rw [vb_app, List.length_append]
      exact k1
    · obtain ⟨v', w', hr, k1, k2⟩ := run_append_arg_grows (P := Tryd.prog) w 43 43 5 i0 (.int .u8 0) 1 1 Tryd.underlying43 hI hz0 hz1 hz2 rfl (by decide) ⟨g', 0, none⟩ l.length l.length (vb l) (by rw [ll, Nat.mul_one]) (fun j u hu => by
        have e : (Addr.add ⟨g', 0, none⟩ j) = ⟨g', j, none⟩ := by unfold Addr.add; simp; omega
        rw [e]
        exact q4 j u hu) ⟨g, 0, none⟩ m.length m.length (vb m) (by rw [lm, Nat.mul_one]) src (by omega) (by unfold maxLen; omega) (by omega)
      refine ⟨v', w', hr, .inl ?_, hb.grown k2 hB (fun j hj => by cases hj)⟩
      rw [vb_app, List.length_append]
      refine ⟨k1.1, ?_⟩
      rcases k1.2 with e | ⟨g2, cap, cur, e, hg2, rest⟩
      · exact .inl e
      · exact .inr ⟨g2, cap, cur, e, by omega, rest⟩
  obtain ⟨v', w', hr, h1, h2⟩ := hrun
  unfold Oper.wp execOp
  simp only [hop, hty, resolve, invoke, builtin, Sem.run_bind, Sem.run_pure, Result.andThen_ok, List.map_toArray, List.map_cons, List.map_nil, hs, hx, hr]
  exact hK v' w' h1 h2
theorem Tb.form {w : World} {B : Nat} {v : Value} {l : List UInt8} (h : Tb w B v l) (hl : 0 < l.length) : ∃ g c, v = .slice (some ⟨g, 0, none⟩) l.length c := by
  rcases h with h | ⟨g, e, _⟩
  · rcases h.2 with ⟨_, hn⟩ | ⟨g, cap, cur, e, _⟩
    · omega
    · exact ⟨g, cap, e⟩
  · exact ⟨g, _, e⟩
set_option maxHeartbeats 1000000 in
theorem pdata (d : Option Addr) (n cap : Nat) (b : Nat → Nat) (w : World) (hr : Row8 w d n cap b) (hn : n ≤ 100000) : Calls Tryd.prog 35 #[.slice d n cap] w fun r w' => r = .returned (.string (tx (120 :: hx n b))) ∧ Below w.heap.size w w' := by
  have HR : Hid (_) := hr
  clear hr
  have cid : ∀ w : World, (convert 43 43 (.slice (some ⟨w.heap.size, 0, none⟩) 1 1)).run Tryd.prog (w.alloc (.cells #[.int .u8 120] 5)) = .ok (.slice (some ⟨w.heap.size, 0, none⟩) 1 1) (w.alloc (.cells #[.int .u8 120] 5 (1, 2))) := fun w => Lib.run_convert_bytes_const (P := Tryd.prog) w 43 5 #[.int .u8 120] 1 1 Tryd.underlying43 Tryd.underlying5
  have H0 : Hid (Tb (w.alloc (.cells #[.int .u8 120] 5 (1, 2))) w.heap.size (.slice (some ⟨w.heap.size, 0, none⟩) 1 1) (120 :: hx 0 b) ∧ Below w.heap.size w (w.alloc (.cells #[.int .u8 120] 5 (1, 2)))) := by
    refine ⟨.inr ⟨w.heap.size, rfl, Nat.le_refl _, by simp, by simp, fun j u hu => ?_⟩, belA (Below.refl _ _) _⟩
    have hj : j < 1 := (List.getElem?_eq_some_iff.1 hu).1
    obtain rfl : j = 0 := by omega
    have e : (vb (120 :: hx 0 b))[0]? = some (.int .u8 120) := rfl
    rw [e] at hu
    rw [← hu]
    unfold World.cell? World.alloc
    simp
  go_enter Tryd.func35, Tryd.ntmps35
  go_wp2_with fail
  go_loopw [3, 5, 10, 11, 12, 13, 14, 15, 16, 17, 18, 19, 20, 21, 22, 23] (fun v _ c _ _ _ _ _ _ _ _ _ _ _ _ _ wr => ∃ i : Nat, i ≤ n ∧ c = .int .i64 ((i : Nat) : Int) ∧ Hid (Tb wr w.heap.size v (120 :: hx i b) ∧ Below w.heap.size w wr)) (fun _ _ c _ _ _ _ _ _ _ _ _ _ _ _ _ _ => n - natV c)
  case atStart => exact ⟨0, by omega, rfl, H0⟩
  case round =>
    obtain ⟨i, hi, rfl, HI⟩ := hrel
    clear H0
    by_cases hlt : i < n
    · have hlt' : ((i : Nat) : Int) < ((n : Nat) : Int) := by omega
      obtain ⟨x, hx'⟩ : ∃ x, b i = x := ⟨_, rfl⟩
      have R := HR.out.below HI.out.2
      have hb : x < 256 := by rw [← hx']; exact R.byte i hlt
      cases d with
      | none =>
        have := (R.nil rfl).1
        omega
      | some ad =>
        have c0 := R.src ad rfl i hlt
        rw [hx'] at c0
        obtain ⟨D1, hD1⟩ : ∃ y, (dg (x / 16)).toNat = y := ⟨_, rfl⟩
        obtain ⟨D2, hD2⟩ : ∃ y, (dg (x % 16)).toNat = y := ⟨_, rfl⟩
        have i1 := dig_idx (x / 16) (by omega)
        have i2 := dig_idx (x % 16) (by omega)
        rw [hD1, show (((x / 16 : Nat)) : Int) = ((x : Nat) : Int) / 16 by omega] at i1
        rw [hD2, show (((x % 16 : Nat)) : Int) = ((x : Nat) : Int) % 16 by omega] at i2
        have hw1 : IntKind.i64.wrap (((i : Nat) : Int) + 1) = ((i + 1 : Nat) : Int) := by rw [IntKind.wrap_i64]; omega
        have h15 := and15 hb
        have T := HI.out.1.below (belA (Below.refl _ wr) (.cells #[.int .u8 ((D1 : Nat) : Int), .int .u8 ((D2 : Nat) : Int)] 5))
        have Bl := belA HI.out.2 (.cells #[.int .u8 ((D1 : Nat) : Int), .int .u8 ((D2 : Nat) : Int)] 5)
        have Ln : (120 :: hx i b).length = 1 + 2 * i := by simp [hx_len]; omega
        have src : ∀ j u, (vb [dg (x / 16), dg (x % 16)])[j]? = some u → (wr.alloc (.cells #[.int .u8 ((D1 : Nat) : Int), .int .u8 ((D2 : Nat) : Int)] 5)).cell? ⟨wr.heap.size, j, none⟩ = some u := fun j u hu => by
          rw [cell_of_row _ wr.heap.size j _ _ _ (heap_alloc_new wr (.cells #[.int .u8 ((D1 : Nat) : Int), .int .u8 ((D2 : Nat) : Int)] 5)), ← hu, ← hD1, ← hD2]
          have hj : j < 2 := (List.getElem?_eq_some_iff.1 hu).1
          have : j = 0 ∨ j = 1 := by omega
          rcases this with rfl | rfl <;> rfl
        have He : Hid (hx (i + 1) b = hx i b ++ [dg (x / 16), dg (x % 16)]) := by
          show hx (i + 1) b = _
          rw [hx_succ, hx']
        have HT : Hid (_) := And.intro T (And.intro Bl src)
        clear R hx' T Bl src hD1 hD2
        go_wp2_with fail
        go_region_law (first
          | (refine step_appT rfl (.tmp 14) (.tmp 21) rfl rfl w.heap.size wr.heap.size u3 (120 :: hx i b) [dg (x / 16), dg (x % 16)] rfl rfl (Tb.below HT.out.1 (by first | exact Below.refl _ _ | exact Below.drew (Below.refl _ _))) HT.out.2.2 (by simp) (by rw [Ln]; simp; omega) (by exact Nat.le_trans (Below.size HT.out.2.1) (Nat.le_refl _)) w (by first | exact HT.out.2.1 | exact Below.drew HT.out.2.1) ?_; intro v7 w7 h7 b7)
          | fail)
        all_goals
          have HF : Hid (Tb w7 w.heap.size v7 (120 :: hx (i + 1) b) ∧ Below w.heap.size w w7) := by
            refine ⟨?_, b7⟩
            rw [He.out]
            exact h7.out
          clear HT h7 b7 HI i1 i2 c0 h15
          go_wp2_with fail
          go_roundw
          case rel => exact ⟨i + 1, by omega, by first | rfl | go_num, HF⟩
          case measure => simp [natV] <;> omega
    · obtain rfl : i = n := by omega
      have hlt' : ¬ ((i : Nat) : Int) < ((i : Nat) : Int) := by omega
      have cv := HI.out.1.conv
      have HB : Hid (_) := HI.out.2
      clear HI cid
      go_wp2_with fail
      go_ret
      exact ⟨rfl, HB.out⟩
end Go.Proofs.YtnmnjcjfgbpkaaaDoor
