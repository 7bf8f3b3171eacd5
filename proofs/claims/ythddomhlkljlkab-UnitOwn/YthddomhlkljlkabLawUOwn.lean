/- The walk of the statement UnitOwn. -/
import Derived.Test.YthddomhlkljlkabLaw04
import Derived.Test.YthddomhlkljlkabAgg
import Derived.Test.YthddomhlkljlkabNap3
namespace Go.Proofs.Ythddomhlkljlkab
open Go.RowKit
theorem nat32O {x : Int} (h : (Lit.int .u32 x).wf = true) : ∃ n : Nat, x = n ∧ n < 4294967296 := by
  have := bounds_u32 h
  exact ⟨x.toNat, by omega, by omega⟩
theorem Lst.ofRowU {B g n c : Nat} {w : World} {xs : List Value} (h : w.ownsRow B 5 1 (.slice (some ⟨g, 0, none⟩) n c) n xs) (hn : n ≤ 1000000) : Lst B w (some g) n c := by
  obtain ⟨o, c', e, hl⟩ := Lst.ofOwn h hn
  cases o with
  | none => simp [sa] at e
  | some b =>
    simp only [sa, Option.map_some, Value.slice.injEq, Option.some.injEq, Addr.mk.injEq, and_true, true_and] at e
    obtain ⟨rfl, rfl⟩ := e
    exact hl.out
/-- Lists that were made one after the other share nothing. -/
theorem apart_byU (m : Nat) (o : Nat → Option Nat) (lo up : Nat → Nat) (h : ∀ i, i < m → ∀ x, o i = some x → lo i ≤ x ∧ x < up i) (hd : ∀ i j, i < m → j < m → i < j → up i ≤ lo j ∨ up j ≤ lo i) :
    ∀ i j, i < m → j < m → i ≠ j → ∀ x, o i = some x → o j ≠ some x := by
  intro i j hi hj hne x hx hy
  have a := h i hi x hx
  have b := h j hj x hy
  rcases Nat.lt_or_gt_of_ne hne with l | l
  · rcases hd i j hi hj l with q | q <;> omega
  · rcases hd j i hj hi l with q | q <;> omega
def six {α : Type} (a b c d e f : α) (i : Nat) : α := if i = 0 then a else if i = 1 then b else if i = 2 then c else if i = 3 then d else if i = 4 then e else f
theorem sixp {p : Nat → Prop} (h0 : p 0) (h1 : p 1) (h2 : p 2) (h3 : p 3) (h4 : p 4) (h5 : p 5) : ∀ i, i < 6 → p i := fun i hi => by
  match i, hi with
  | 0, _ => exact h0
  | 1, _ => exact h1
  | 2, _ => exact h2
  | 3, _ => exact h3
  | 4, _ => exact h4
  | 5, _ => exact h5
theorem six_order (g s2 s3 s4 s5 s6 s7 s8 s9 : Nat) (h3 : s2 ≤ s3) (h4 : s3 ≤ s4) (h5 : s4 ≤ s5) (h6 : s5 ≤ s6) (h7 : s6 ≤ s7) (h8 : s7 ≤ s8) :
    ∀ i j, i < 6 → j < 6 → i < j → six s4 s5 s2 s6 s7 s9 i ≤ six s3 s4 g s5 s6 s8 j ∨ six s4 s5 s2 s6 s7 s9 j ≤ six s3 s4 g s5 s6 s8 i := by
  have h : ∀ i, i < 6 → ∀ j, j < 6 → i < j → six s4 s5 s2 s6 s7 s9 i ≤ six s3 s4 g s5 s6 s8 j ∨ six s4 s5 s2 s6 s7 s9 j ≤ six s3 s4 g s5 s6 s8 i := by
    refine sixp ?_ ?_ ?_ ?_ ?_ ?_ <;> refine sixp ?_ ?_ ?_ ?_ ?_ ?_ <;> intro hl <;> first | (exact absurd hl (by omega)) | (simp [six] <;> omega)
  exact fun i j hi hj => h i hi j hj
theorem kept_bel (g : Nat) (a : Option Addr) (len cap : Nat) (bs : Nat → Nat) (w : World) (hr : Row8 w a len cap bs) (hlen : len ≤ 1000000) (hW : Row8 w (some ⟨g, 0, none⟩) (len + 9) (len + 9) (sp bs len)) :
    Calls Try.prog 7 #[.slice (some ⟨g, 0, none⟩) (len + 9) (len + 9), .slice a len cap] w fun e w' => e = .returned (.bool true) ∧ Below w.heap.size w w' :=
  (kept_row g a len cap bs w hr hlen hW).mono (by rintro e w' ⟨rfl, m, rfl⟩; exact ⟨rfl, below_drewN (Below.refl _ _) m⟩)
set_option maxRecDepth 100000 in
set_option maxHeartbeats 1000000 in
theorem unitOwn_long (k : Int) (c s n : Nat) (f : Int) (a : Option Addr) (len cap : Nat) (w : World) (h : 1000 < len) :
    Calls Try.prog 3 #[.agg #[.int .i64 k, .int .u32 c, .int .u32 s, .int .u32 n, .int .i64 f, .slice a len cap]] w fun e w' => e = .returned (.bool true) ∧ Below w.heap.size w w' := by
  have hA : Below w.heap.size w (w.alloc (.cells #[.int .i64 k, .int .u32 c, .int .u32 s, .int .u32 n, .int .i64 f, .slice a len cap] 26)) := (Below.refl _ _).alloc (Nat.le_refl _) _
  have hAs : w.heap.size < (w.alloc (.cells #[.int .i64 k, .int .u32 c, .int .u32 s, .int .u32 n, .int .i64 f, .slice a len cap] 26)).heap.size := by simp
  have hX := box_new w k c s n f (.slice a len cap)
  have hw := awake4 (w.alloc (.cells #[.int .i64 k, .int .u32 c, .int .u32 s, .int .u32 n, .int .i64 f, .slice a len cap] 26))
  have q : decide ((1000 : Int) < (len : Int)) = true := by simp; omega
  go_enter Try.func3, Try.ntmps3
  go_wp2_with fail
  generalize w.alloc (.cells #[.int .i64 k, .int .u32 c, .int .u32 s, .int .u32 n, .int .i64 f, .slice a len cap] 26) = wa at *
  refine hw.mono ?_
  rintro e w1 ⟨rfl, hb1⟩
  have x5 := (hX w1 hb1).c5
  have hb2 : Below w.heap.size w w1 := hA.trans (hb1.mono (Nat.le_of_lt hAs))
  clear hw hX
  go_wp2_with fail
  go_ret
  exact ⟨rfl, hb2⟩
set_option maxRecDepth 100000 in
set_option maxHeartbeats 1000000 in
theorem unitOwn_bad (k : Int) (c s n : Nat) (f : Int) (a : Option Addr) (len cap : Nat) (bs : Nat → Nat) (w : World) (hr : Row8 w a len cap bs) (h : len ≤ 1000) (hE : LW k c s n f len len ≠ 0) :
    Calls Try.prog 3 #[.agg #[.int .i64 k, .int .u32 c, .int .u32 s, .int .u32 n, .int .i64 f, .slice a len cap]] w fun e w' => e = .returned (.bool true) ∧ Below w.heap.size w w' := by
  have hA : Below w.heap.size w (w.alloc (.cells #[.int .i64 k, .int .u32 c, .int .u32 s, .int .u32 n, .int .i64 f, .slice a len cap] 26)) := (Below.refl _ _).alloc (Nat.le_refl _) _
  have hAs : w.heap.size < (w.alloc (.cells #[.int .i64 k, .int .u32 c, .int .u32 s, .int .u32 n, .int .i64 f, .slice a len cap] 26)).heap.size := by simp
  have hrA := hr.below hA
  have hX := box_new w k c s n f (.slice a len cap)
  have hw := awake4 (w.alloc (.cells #[.int .i64 k, .int .u32 c, .int .u32 s, .int .u32 n, .int .i64 f, .slice a len cap] 26))
  have q : decide ((1000 : Int) < (len : Int)) = false := by simp; omega
  have hB := fun a' c' w => encode_bad k c s n f a' len c' w hE
  generalize LW k c s n f len len = E at *
  have qE : (E == 0) = false := by simpa using hE
  have hby : ∀ i, i < len + 9 → sp bs len i < 256 := fun i _ => sp_lt hr.byte i
  clear hr
  go_enter Try.func3, Try.ntmps3
  go_wp2_with fail
  generalize w.alloc (.cells #[.int .i64 k, .int .u32 c, .int .u32 s, .int .u32 n, .int .i64 f, .slice a len cap] 26) = wa at *
  refine hw.mono ?_
  rintro e w1 ⟨rfl, hb1⟩
  obtain ⟨x0, x1, x2, x3, x4, x5⟩ := hX w1 hb1
  have hs1 := hb1.size
  have hS := spare_row a len cap bs w1 (hrA.below hb1) (by omega)
  clear hw
  go_wp2_with fail
  refine hS.mono ?_
  rintro e w2 ⟨rfl, H2⟩
  have hs2 : w1.heap.size < w2.heap.size := (H2.out.1.lt w1.heap.size rfl).2
  have hb2 := below_all hb1 hs1 H2.out.2
  have hz2 := hb2.size
  have r2w : Row8 w2 (some ⟨w1.heap.size, 0, none⟩) (len + 9) (len + 9) (sp bs len) := own_row8s H2.out.1 hby
  obtain ⟨y0, y1, y2, y3, y4, y5⟩ := hX w2 hb2
  clear hS H2 x0 x1 x2 x3 x4 x5 hb1
  generalize w1.heap.size = g1 at *
  have hne : ¬ w2.heap.size = g1 := by omega
  have hb3' : Below w2.heap.size w2 (w2.alloc (.cells #[.int .i64 k, .int .u32 c, .int .u32 s, .int .u32 n, .int .i64 f, .slice (some ⟨g1, 0, none⟩) len (len + 9)] 26)) := (Below.refl _ _).alloc (Nat.le_refl _) _
  have hs23 : w2.heap.size < (w2.alloc (.cells #[.int .i64 k, .int .u32 c, .int .u32 s, .int .u32 n, .int .i64 f, .slice (some ⟨g1, 0, none⟩) len (len + 9)] 26)).heap.size := by simp
  have hb3 := below_all hb2 hz2 hb3'
  have hs3 := hb3.size
  have hX3 := box_new w2 k c s n f (.slice (some ⟨g1, 0, none⟩) len (len + 9))
  go_wp2_with fail
  generalize w2.alloc (.cells #[.int .i64 k, .int .u32 c, .int .u32 s, .int .u32 n, .int .i64 f, .slice (some ⟨g1, 0, none⟩) len (len + 9)] 26) = w3 at *
  refine (hB _ _ w3).mono ?_
  rintro e w4 ⟨rfl, hb4'⟩
  obtain ⟨x0, x1, x2, x3, x4, x5⟩ := hX3 w4 hb4'
  have hb4 := below_all hb3 hs3 hb4'
  have hs4 := hb4.size
  clear y0 y1 y2 y3 y4 y5
  go_wp2_with fail
  refine (hB _ _ w4).mono ?_
  rintro e w5 ⟨rfl, hb5'⟩
  have hb5 := below_all hb4 hs4 hb5'
  have y5 := (hX w5 hb5).c5
  have r5w := r2w.below (below_all hb3' (Nat.le_of_lt hs23) (below_all hb4' hb4'.size hb5'))
  have hK := kept_bel g1 a len cap bs w5 (hrA.below hb5) (by omega) r5w
  clear hB hX hX3 r5w r2w hb4' hb5' x0 x1 x2 x3 x4 x5
  have hb5w : Below w.heap.size w w5 := hA.trans (hb5.mono (Nat.le_of_lt hAs))
  go_wp2_with fail
  refine hK.mono ?_
  rintro e w6 ⟨rfl, hb6'⟩
  have hb6 := below_all hb5w hb5w.size hb6'
  clear hK hb6'
  go_wp2_with fail
  go_ret
  exact ⟨rfl, hb6⟩
set_option maxRecDepth 100000 in
set_option maxHeartbeats 2000000 in
theorem unitOwn_good (K c s n F : Nat) (a : Option Addr) (len cap : Nat) (bs : Nat → Nat) (w : World) (hr : Row8 w a len cap bs) (hc : c < 4294967296) (hs : s < 4294967296) (hn : n < 4294967296) (hE : LW K c s n F len len = 0) :
    Calls Try.prog 3 #[.agg #[.int .i64 K, .int .u32 c, .int .u32 s, .int .u32 n, .int .i64 F, .slice a len cap]] w fun e w' => e = .returned (.bool true) ∧ Below w.heap.size w w' := by
  have hA : Below w.heap.size w (w.alloc (.cells #[.int .i64 K, .int .u32 c, .int .u32 s, .int .u32 n, .int .i64 F, .slice a len cap] 26)) := (Below.refl _ _).alloc (Nat.le_refl _) _
  have hAs : w.heap.size < (w.alloc (.cells #[.int .i64 K, .int .u32 c, .int .u32 s, .int .u32 n, .int .i64 F, .slice a len cap] 26)).heap.size := by simp
  have hrA := hr.below hA
  have hX := box_new w K c s n F (.slice a len cap)
  have hw := awake4 (w.alloc (.cells #[.int .i64 K, .int .u32 c, .int .u32 s, .int .u32 n, .int .i64 F, .slice a len cap] 26))
  obtain ⟨hkk, _, _, hll, hff⟩ := LW_zero hE
  have hl8 : len ≤ 8 := by omega
  have q : decide ((1000 : Int) < (len : Int)) = false := by simp; omega
  obtain ⟨d0, d1, d2, d3, d4, d5, d6⟩ := DE_back K c s n F len bs hc hs hn hl8 hE
  have hbyN : ∀ i, i < 15 + len + 4 → PM.sl (fr K c s n F len bs) (15 + len) i < 256 := PM.ct_lt (k := 4) (fr_lt (by omega) (by omega) (by omega) hr.byte) (fun i _ => PM.w4_lt _ i)
  have hEn := fun a' c' w hr => encode_good K c s n F a' len c' bs w hr hE
  have hDe := fun a' c' w hr => decode_ok a' (15 + len + 4) c' (PM.sl (fr K c s n F len bs) (15 + len)) w hr d0
  rw [d1, d2, d3, d4, d5, show 15 + len + 4 - 19 = len by omega] at hDe
  have HY : Hid (_) := hbyN
  obtain ⟨N, hN⟩ : ∃ N, N = 15 + len + 4 := ⟨_, rfl⟩
  rw [← hN] at hEn hDe HY
  have hN2 : N ≤ 27 := by omega
  generalize PM.sl (fr K c s n F len bs) (15 + len) = SL at *
  have hby : ∀ i, i < len + 9 → sp bs len i < 256 := fun i _ => sp_lt hr.byte i
  have hbs := hr.byte
  clear hr hE d0 d1 d2 d3 d4 d5 d6 hbyN hN hll hff hkk hc hs hn
  go_enter Try.func3, Try.ntmps3
  go_wp2_with fail
  generalize w.alloc (.cells #[.int .i64 K, .int .u32 c, .int .u32 s, .int .u32 n, .int .i64 F, .slice a len cap] 26) = wa at *
  refine hw.mono ?_
  rintro e w1 ⟨rfl, hb1⟩
  obtain ⟨x0, x1, x2, x3, x4, x5⟩ := hX w1 hb1
  have hs1 := hb1.size
  have hS := spare_row a len cap bs w1 (hrA.below hb1) (by omega)
  clear hw
  go_wp2_with fail
  refine hS.mono ?_
  rintro e w2 ⟨rfl, H2⟩
  have hs2 : w1.heap.size < w2.heap.size := (H2.out.1.lt w1.heap.size rfl).2
  have hb2 := below_all hb1 hs1 H2.out.2
  have hz2 := hb2.size
  have r2w : Row8 w2 (some ⟨w1.heap.size, 0, none⟩) (len + 9) (len + 9) (sp bs len) := own_row8s H2.out.1 hby
  have r2 : Row8 w2 (some ⟨w1.heap.size, 0, none⟩) len (len + 9) bs := (r2w.upto len (by omega)).congr (fun i hi => by unfold sp; rw [if_pos hi])
  have L2 := Lst.ofRowU H2.out.1 (by omega)
  have HL2 : Hid (Row8 w2 (some ⟨w1.heap.size, 0, none⟩) (len + 9) (len + 9) (sp bs len) ∧ Row8 w2 (some ⟨w1.heap.size, 0, none⟩) len (len + 9) bs ∧ Lst w1.heap.size w2 (some w1.heap.size) len (len + 9)) := ⟨r2w, r2, ⟨by omega, by omega, L2.cmax, (fun e => by cases e), L2.row⟩⟩
  obtain ⟨y0, y1, y2, y3, y4, y5⟩ := hX w2 hb2
  clear hS H2 x0 x1 x2 x3 x4 x5 hb1 r2w r2 L2
  generalize w1.heap.size = g1 at *
  have hne : ¬ w2.heap.size = g1 := by omega
  have hb3' : Below w2.heap.size w2 (w2.alloc (.cells #[.int .i64 K, .int .u32 c, .int .u32 s, .int .u32 n, .int .i64 F, .slice (some ⟨g1, 0, none⟩) len (len + 9)] 26)) := (Below.refl _ _).alloc (Nat.le_refl _) _
  have hs23 : w2.heap.size < (w2.alloc (.cells #[.int .i64 K, .int .u32 c, .int .u32 s, .int .u32 n, .int .i64 F, .slice (some ⟨g1, 0, none⟩) len (len + 9)] 26)).heap.size := by simp
  have hb3 := below_all hb2 hz2 hb3'
  have hs3 := hb3.size
  have hX3 := box_new w2 K c s n F (.slice (some ⟨g1, 0, none⟩) len (len + 9))
  go_wp2_with fail
  generalize w2.alloc (.cells #[.int .i64 K, .int .u32 c, .int .u32 s, .int .u32 n, .int .i64 F, .slice (some ⟨g1, 0, none⟩) len (len + 9)] 26) = w3 at *
  have hEn3 := hEn _ _ w3 (HL2.out.2.1.below hb3')
  refine hEn3.mono ?_
  rintro e w4 ⟨v4, rfl, H4⟩
  obtain ⟨o4, c4, rfl, L4⟩ := Lst.ofOwn H4.out.1 (by omega)
  obtain ⟨a4, k4, e4, R4⟩ := own_row8 H4.out.1 HY.out
  simp only [Value.slice.injEq, true_and] at e4
  obtain ⟨e4a, rfl⟩ := e4
  rw [← e4a] at R4
  clear e4a a4
  have hb34 := H4.out.2
  have hs34 := hb34.size
  obtain ⟨x0, x1, x2, x3, x4, x5⟩ := hX3 w4 hb34
  have hb24 := below_all hb3' (Nat.le_of_lt hs23) hb34
  have hEn4 := hEn _ _ w4 (HL2.out.2.1.below hb24)
  have HR4 : Hid (_) := R4
  clear y0 y1 y2 y3 y4 y5 hEn3 H4 hEn R4
  go_wp2_with fail
  refine hEn4.mono ?_
  rintro e w5 ⟨v5, rfl, H5⟩
  obtain ⟨o5, c5, rfl, L5⟩ := Lst.ofOwn H5.out.1 (by omega)
  have hb45 := H5.out.2
  have hs45 := hb45.size
  have hb25 := below_all hb24 hb24.size hb45
  have hb5 := below_all hb2 hz2 hb25
  have y5 := (hX w5 hb5).c5
  have hK := kept_bel g1 a len cap bs w5 (hrA.below hb5) (by omega) (HL2.out.1.below hb25)
  clear hEn4 H5 x0 x1 x2 x3 x4 x5
  go_wp2_with fail
  refine hK.mono ?_
  rintro e w6 ⟨rfl, hb56⟩
  have hs56 := hb56.size
  have hb46 := below_all hb45 hs45 hb56
  have R46 := HR4.out.below hb46
  have hSp := spare_row _ N _ SL w6 R46 (by omega)
  have hbyN : ∀ i, i < N + 9 → sp SL N i < 256 := fun i _ => sp_lt HY.out i
  clear hK y5
  go_wp2_with fail
  refine hSp.mono ?_
  rintro e w7 ⟨rfl, H7⟩
  have hs67 : w6.heap.size < w7.heap.size := (H7.out.1.lt w6.heap.size rfl).2
  have r7w : Row8 w7 (some ⟨w6.heap.size, 0, none⟩) (N + 9) (N + 9) (sp SL N) := own_row8s H7.out.1 hbyN
  have r7 : Row8 w7 (some ⟨w6.heap.size, 0, none⟩) N (N + 9) SL := (r7w.upto N (by omega)).congr (fun i hi => by unfold sp; rw [if_pos hi])
  have L7 := Lst.ofRowU H7.out.1 (by omega)
  have HL7 : Hid (Row8 w7 (some ⟨w6.heap.size, 0, none⟩) (N + 9) (N + 9) (sp SL N) ∧ Row8 w7 (some ⟨w6.heap.size, 0, none⟩) N (N + 9) SL ∧ Lst w6.heap.size w7 (some w6.heap.size) N (N + 9)) := ⟨r7w, r7, ⟨by omega, by omega, L7.cmax, (fun e => by cases e), L7.row⟩⟩
  have hb67 := H7.out.2
  have hDe7 := hDe _ _ w7 r7
  clear hSp H7 r7w r7 L7 R46
  generalize w6.heap.size = g6 at *
  go_wp2_with fail
  refine hDe7.mono ?_
  rintro e w8 ⟨a8, c8, rfl, H8⟩
  obtain ⟨o8, k8, e8, L8⟩ := Lst.ofOwn H8.out.1 (by omega)
  simp only [Value.slice.injEq, true_and] at e8
  obtain ⟨rfl, rfl⟩ := e8
  have hb78 := H8.out.2
  have hs78 := hb78.size
  have hb89 : Below w8.heap.size w8 (w8.alloc (.cells #[.int .i64 (K : Nat), .int .u32 (c : Nat), .int .u32 (s : Nat), .int .u32 (n : Nat), .int .i64 (F : Nat), .slice (sa o8) len c8] 26)) := (Below.refl _ _).alloc (Nat.le_refl _) _
  have hs89 : w8.heap.size < (w8.alloc (.cells #[.int .i64 (K : Nat), .int .u32 (c : Nat), .int .u32 (s : Nat), .int .u32 (n : Nat), .int .i64 (F : Nat), .slice (sa o8) len c8] 26)).heap.size := by simp
  have hX8 := box_new w8 K c s n F (.slice (sa o8) len c8)
  have hb79 := below_all hb78 hs78 hb89
  have hDe9 := hDe _ _ _ (HL7.out.2.1.below hb79)
  clear hDe hDe7 H8
  go_wp2_with fail
  generalize w8.alloc (.cells #[.int .i64 (K : Nat), .int .u32 (c : Nat), .int .u32 (s : Nat), .int .u32 (n : Nat), .int .i64 (F : Nat), .slice (sa o8) len c8] 26) = w9 at *
  refine hDe9.mono ?_
  rintro e w10 ⟨a10, c10, rfl, H10⟩
  obtain ⟨o10, k10, e10, L10⟩ := Lst.ofOwn H10.out.1 (by omega)
  simp only [Value.slice.injEq, true_and] at e10
  obtain ⟨rfl, rfl⟩ := e10
  have hb910 := H10.out.2
  have hs910 := hb910.size
  have hbA : Below w10.heap.size w10 (w10.alloc (.cells #[.int .i64 (K : Nat), .int .u32 (c : Nat), .int .u32 (s : Nat), .int .u32 (n : Nat), .int .i64 (F : Nat), .slice (sa o10) len c10] 26)) := (Below.refl _ _).alloc (Nat.le_refl _) _
  have hsA : w10.heap.size < (w10.alloc (.cells #[.int .i64 (K : Nat), .int .u32 (c : Nat), .int .u32 (s : Nat), .int .u32 (n : Nat), .int .i64 (F : Nat), .slice (sa o10) len c10] 26)).heap.size := by simp
  have hXA := box_new w10 K c s n F (.slice (sa o10) len c10)
  have h9A := below_all hb910 hs910 hbA
  have h8A := below_all hb89 (Nat.le_of_lt hs89) h9A
  have h7A := below_all hb78 hs78 h8A
  have h6A := below_all hb67 (Nat.le_of_lt hs67) h7A
  have h5A := hb56.trans (h6A.mono hs56)
  have h4A := below_all hb45 hs45 h5A
  have h3A := below_all hb34 hs34 h4A
  have h2A := below_all hb3' (Nat.le_of_lt hs23) h3A
  have hwA : Below w.heap.size w _ := hA.trans ((below_all hb2 hz2 h2A).mono (Nat.le_of_lt hAs))
  have hK := kept_bel g6 _ N _ SL _ (HR4.out.below h4A) (by omega) (HL7.out.1.below h7A)
  have k4 : ∀ y, o4 = some y → w3.heap.size ≤ y ∧ y < w4.heap.size := fun y hy => L4.out.lt hy
  have k5 : ∀ y, o5 = some y → w4.heap.size ≤ y ∧ y < g6 := fun y hy => ⟨(L5.out.lt hy).1, Nat.lt_of_lt_of_le (L5.out.lt hy).2 hs56⟩
  have k8 : ∀ y, o8 = some y → w7.heap.size ≤ y ∧ y < w8.heap.size := fun y hy => L8.out.lt hy
  have k10 : ∀ y, o10 = some y → w9.heap.size ≤ y ∧ y < w10.heap.size := fun y hy => L10.out.lt hy
  have hd := apart_byU 6 (six o4 o5 (some g1) (some g6) o8 o10) (six w3.heap.size w4.heap.size g1 g6 w7.heap.size w9.heap.size) (six w4.heap.size g6 w2.heap.size w7.heap.size w8.heap.size w10.heap.size)
    (sixp k4 k5 (fun y hy => by cases hy; exact ⟨Nat.le_refl _, hs2⟩) (fun y hy => by cases hy; exact ⟨Nat.le_refl _, hs67⟩) k8 k10)
    (six_order g1 w2.heap.size w3.heap.size w4.heap.size g6 w7.heap.size w8.heap.size w9.heap.size w10.heap.size (Nat.le_of_lt hs23) hs34 (by omega) (Nat.le_of_lt hs67) hs78 (Nat.le_of_lt hs89))
  have x5 := (hX8 _ h9A).c5
  have hX5 : ∀ wx, Below (w10.alloc (.cells #[.int .i64 (K : Nat), .int .u32 (c : Nat), .int .u32 (s : Nat), .int .u32 (n : Nat), .int .i64 (F : Nat), .slice (sa o10) len c10] 26)).heap.size (w10.alloc (.cells #[.int .i64 (K : Nat), .int .u32 (c : Nat), .int .u32 (s : Nat), .int .u32 (n : Nat), .int .i64 (F : Nat), .slice (sa o10) len c10] 26)) wx → wx.cell? ⟨w8.heap.size, 5, none⟩ = some (.slice (sa o8) len c8) := fun wx hb => (hX8 wx (below_all h9A h9A.size hb)).c5
  have hY5 : ∀ wx, Below (w10.alloc (.cells #[.int .i64 (K : Nat), .int .u32 (c : Nat), .int .u32 (s : Nat), .int .u32 (n : Nat), .int .i64 (F : Nat), .slice (sa o10) len c10] 26)).heap.size (w10.alloc (.cells #[.int .i64 (K : Nat), .int .u32 (c : Nat), .int .u32 (s : Nat), .int .u32 (n : Nat), .int .i64 (F : Nat), .slice (sa o10) len c10] 26)) wx → wx.cell? ⟨w10.heap.size, 5, none⟩ = some (.slice (sa o10) len c10) := fun wx hb => (hXA wx hb).c5
  have HD : Hid (_) := And.intro hwA (And.intro hd (And.intro (L4.out.below h4A) (And.intro (L5.out.below h5A) (And.intro (HL2.out.2.2.below h2A) (And.intro (HL7.out.2.2.below h7A) (And.intro (L8.out.below h8A) (L10.out.below hbA)))))))
  have HZ : Hid (w.heap.size ≤ g1 ∧ w.heap.size ≤ w3.heap.size ∧ w.heap.size ≤ w4.heap.size ∧ w.heap.size ≤ g6 ∧ w.heap.size ≤ w7.heap.size ∧ w.heap.size ≤ w9.heap.size) := by
    show _ ∧ _
    omega
  clear hDe9 H10 hX8 hXA h9A h8A h7A h6A h5A h4A h3A h2A hwA k4 k5 k8 k10 hd L4 L5 L8 L10 HL2 HL7 HR4 hX hX3 hrA hA hAs hb2 hb3 hb3' hb34 hb24 hb45 hb25 hb5 hb56 hb46 hb67 hb78 hb89 hb79 hb910 hbA
  go_wp2_with fail
  generalize w10.alloc (.cells #[.int .i64 (K : Nat), .int .u32 (c : Nat), .int .u32 (s : Nat), .int .u32 (n : Nat), .int .i64 (F : Nat), .slice (sa o10) len c10] 26) = wA at *
  refine hK.mono ?_
  rintro e wB ⟨rfl, hbAB⟩
  have u5 := hX5 wB hbAB
  have v5 := hY5 wB hbAB
  have hAp := apart_lists w.heap.size 6 (six o4 o5 (some g1) (some g6) o8 o10) (six N N len N len len) (six c4 c5 (len + 9) (N + 9) c8 c10) #[.slice (sa o4) N c4, .slice (sa o5) N c5, .slice (some ⟨g1, 0, none⟩) len (len + 9), .slice (some ⟨g6, 0, none⟩) N (N + 9), .slice (sa o8) len c8, .slice (sa o10) len c10] w wB rfl
    (sixp ((HD.out.2.2.1.below hbAB).base HZ.out.2.1) ((HD.out.2.2.2.1.below hbAB).base HZ.out.2.2.1) ((HD.out.2.2.2.2.1.below hbAB).base HZ.out.1) ((HD.out.2.2.2.2.2.1.below hbAB).base HZ.out.2.2.2.1) ((HD.out.2.2.2.2.2.2.1.below hbAB).base HZ.out.2.2.2.2.1) ((HD.out.2.2.2.2.2.2.2.below hbAB).base HZ.out.2.2.2.2.2))
    HD.out.2.1 (by omega) (by omega) (below_all HD.out.1 HD.out.1.size hbAB) (Nat.le_refl _)
  clear hK HD HZ hX5 hY5 hbAB x5
  generalize sa o4 = s4 at *
  generalize sa o5 = s5 at *
  generalize sa o8 = s8 at *
  generalize sa o10 = s10 at *
  go_wp2_with fail
  refine hAp.mono ?_
  rintro e wC ⟨rfl, hfin⟩
  clear hAp
  go_wp2_with fail
  go_ret
  exact ⟨rfl, hfin⟩
theorem unitOwn_walk (a0_0 : Int) (a0_1 : Int) (a0_2 : Int) (a0_3 : Int) (a0_4 : Int) (a0_5 : Option Addr) (len0_5 cap0_5 : Nat) (z0_5 : List Int) (w : World)
    (w0_0 : (Lit.int .i64 a0_0).wf = true) (w0_1 : (Lit.int .u32 a0_1).wf = true) (w0_2 : (Lit.int .u32 a0_2).wf = true) (w0_3 : (Lit.int .u32 a0_3).wf = true) (w0_4 : (Lit.int .i64 a0_4).wf = true) (w0_5 : BRow .u8 w a0_5 len0_5 cap0_5 z0_5) :
    Calls Try.prog 3 #[.agg #[.int .i64 a0_0, .int .u32 a0_1, .int .u32 a0_2, .int .u32 a0_3, .int .i64 a0_4, .slice a0_5 len0_5 cap0_5]] w fun e w' => e = .returned (.bool true) ∧ Below w.heap.size w w' := by
  obtain ⟨c, rfl, hc⟩ := nat32O w0_1
  obtain ⟨s, rfl, hs⟩ := nat32O w0_2
  obtain ⟨n, rfl, hn⟩ := nat32O w0_3
  by_cases h : len0_5 ≤ 1000
  · by_cases hE : LW a0_0 c s n a0_4 len0_5 len0_5 = 0
    · obtain ⟨hk, _, _, _, hf⟩ := LW_zero hE
      obtain ⟨K, rfl⟩ : ∃ K : Nat, a0_0 = K := ⟨a0_0.toNat, by omega⟩
      obtain ⟨F, rfl⟩ : ∃ F : Nat, a0_4 = F := ⟨a0_4.toNat, by omega⟩
      exact unitOwn_good K c s n F a0_5 len0_5 cap0_5 _ w w0_5.row8 hc hs hn hE
    · exact unitOwn_bad a0_0 c s n a0_4 a0_5 len0_5 cap0_5 _ w w0_5.row8 h hE
  · exact unitOwn_long a0_0 c s n a0_4 a0_5 len0_5 cap0_5 w (by omega)

end Go.Proofs.Ythddomhlkljlkab
