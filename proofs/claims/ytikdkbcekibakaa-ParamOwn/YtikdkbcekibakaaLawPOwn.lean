/- The walk of the statement ParamOwn. -/
import Derived.Test.YtikdkbcekibakaaPar7
import Derived.Test.YtikdkbcekibakaaNap3
namespace Go.Proofs.Ytikdkbcekibakaa
open Go.RowKit
theorem Lst.ofRowP {B g n c : Nat} {w : World} {xs : List Value} (h : w.ownsRow B 5 1 (.slice (some ⟨g, 0, none⟩) n c) n xs) (hn : n ≤ 1000000) : Lst B w (some g) n c := by
  obtain ⟨o, c', e, hl⟩ := Lst.ofOwn h hn
  cases o with
  | none => simp [sa] at e
  | some b =>
    simp only [sa, Option.map_some, Value.slice.injEq, Option.some.injEq, Addr.mk.injEq, and_true, true_and] at e
    obtain ⟨rfl, rfl⟩ := e
    exact hl.out
/-- Lists that were made one after the other share nothing. -/
theorem apart_byP (m : Nat) (o : Nat → Option Nat) (lo up : Nat → Nat) (h : ∀ i, i < m → ∀ x, o i = some x → lo i ≤ x ∧ x < up i) (hd : ∀ i j, i < m → j < m → i < j → up i ≤ lo j ∨ up j ≤ lo i) :
    ∀ i j, i < m → j < m → i ≠ j → ∀ x, o i = some x → o j ≠ some x := by
  intro i j hi hj hne x hx hy
  have a := h i hi x hx
  have b := h j hj x hy
  rcases Nat.lt_or_gt_of_ne hne with l | l
  · rcases hd i j hi hj l with q | q <;> omega
  · rcases hd j i hj hi l with q | q <;> omega
def fiveP {α : Type} (a b c d e : α) (i : Nat) : α := if i = 0 then a else if i = 1 then b else if i = 2 then c else if i = 3 then d else e
theorem fivePp {p : Nat → Prop} (h0 : p 0) (h1 : p 1) (h2 : p 2) (h3 : p 3) (h4 : p 4) : ∀ i, i < 5 → p i := fun i hi => by
  match i, hi with
  | 0, _ => exact h0
  | 1, _ => exact h1
  | 2, _ => exact h2
  | 3, _ => exact h3
  | 4, _ => exact h4
theorem fiveP_order (g s2 s3 s4 s7 s8 s9 : Nat) (h3 : s2 ≤ s3) (h4 : s3 ≤ s4) (h5 : s4 ≤ s7) (h6 : s7 ≤ s8) :
    ∀ i j, i < 5 → j < 5 → i < j → fiveP s3 s4 s2 s8 s9 i ≤ fiveP s2 s3 g s7 s8 j ∨ fiveP s3 s4 s2 s8 s9 j ≤ fiveP s2 s3 g s7 s8 i := by
  have h : ∀ i, i < 5 → ∀ j, j < 5 → i < j → fiveP s3 s4 s2 s8 s9 i ≤ fiveP s2 s3 g s7 s8 j ∨ fiveP s3 s4 s2 s8 s9 j ≤ fiveP s2 s3 g s7 s8 i := by
    refine fivePp ?_ ?_ ?_ ?_ ?_ <;> refine fivePp ?_ ?_ ?_ ?_ ?_ <;> intro hl <;> first | (exact absurd hl (by omega)) | (simp [fiveP] <;> omega)
  exact fun i j hi hj => h i hi j hj
theorem kept_belP (g : Nat) (a : Option Addr) (len cap : Nat) (bs : Nat → Nat) (w : World) (hr : Row8 w a len cap bs) (hlen : len ≤ 1000000) (hW : Row8 w (some ⟨g, 0, none⟩) (len + 9) (len + 9) (sp bs len)) :
    Calls Try.prog 19 #[.slice (some ⟨g, 0, none⟩) (len + 9) (len + 9), .slice a len cap] w fun e w' => e = .returned (.bool true) ∧ Below w.heap.size w w' :=
  (kept_row g a len cap bs w hr (by omega) hW).mono (by rintro e w' ⟨rfl, m, rfl⟩; exact ⟨rfl, below_drewN (Below.refl _ _) m⟩)
theorem bytes4_lst (w : World) :
    Calls Try.prog 14 #[.int .u32 5] w fun e w' => e = .returned (.slice (some ⟨w.heap.size, 0, none⟩) 4 4) ∧ Hid (Lst w.heap.size w' (some w.heap.size) 4 4 ∧ Below w.heap.size w w' ∧ w.heap.size < w'.heap.size) :=
  (bytes4_any 5 w (by omega)).mono fun e w' q => ⟨q.1, by rw [q.2]; exact ⟨Lst.ofRowP (own4P w 5 (by omega)) (by omega), (Below.refl _ _).alloc (Nat.le_refl _) _, by simp⟩⟩
set_option maxRecDepth 100000 in
set_option maxHeartbeats 1000000 in
theorem paramOwn_long (c : Nat) (o i t : Int) (n : Nat) (a : Option Addr) (len cap : Nat) (w : World) (h : 1000 < len) :
    Calls Try.prog 6 #[.agg #[.int .u32 c, .int .i64 o, .int .i64 i, .int .i64 t, .int .u32 n], .slice a len cap] w fun e w' => e = .returned (.bool true) ∧ Below w.heap.size w w' := by
  have hA : Below w.heap.size w (w.alloc (.cells #[.int .u32 c, .int .i64 o, .int .i64 i, .int .i64 t, .int .u32 n] 24)) := (Below.refl _ _).alloc (Nat.le_refl _) _
  have hw := awake9 (w.alloc (.cells #[.int .u32 c, .int .i64 o, .int .i64 i, .int .i64 t, .int .u32 n] 24))
  have q : decide ((1000 : Int) < (len : Int)) = true := by simp; omega
  clear h
  go_enter Try.func6, Try.ntmps6
  go_wp2_with fail
  refine hw.mono ?_
  rintro e w1 ⟨rfl, hb1⟩
  have hb2 := below_all hA hA.size hb1
  clear hw hA hb1
  go_wp2_with fail
  go_ret
  exact ⟨rfl, hb2⟩
set_option maxRecDepth 100000 in
set_option maxHeartbeats 4000000 in
theorem paramOwn_core (c : Nat) (o i t : Int) (n : Nat) (a : Option Addr) (len cap : Nat) (bs : Nat → Nat) (w : World) (hr : Row8 w a len cap bs) (h : len ≤ 1000)
    (fE : ∀ wx, Calls Try.prog 8 #[.agg #[.int .u32 c, .int .i64 o, .int .i64 i, .int .i64 t, .int .u32 n]] wx fun e w' => ∃ o l c' E, e = .returned (.tuple #[.slice (sa o) l c', .int .i64 E]) ∧ Hid (Lst wx.heap.size w' o l c' ∧ Below wx.heap.size wx w'))
    (fD : ∀ a' c' wx, Row8 wx a' len c' bs → Calls Try.prog 16 #[.slice a' len c'] wx fun e w' => ∃ v, e = .returned v ∧ Below wx.heap.size wx w')
    (fM : ∀ a' c' wx, Row8 wx a' len c' bs → Calls Try.prog 13 #[.agg #[.int .u32 c, .int .i64 o, .int .i64 i, .int .i64 t, .int .u32 n], .slice a' len c'] wx fun e w' => ∃ v, e = .returned v ∧ Below wx.heap.size wx w') :
    Calls Try.prog 6 #[.agg #[.int .u32 c, .int .i64 o, .int .i64 i, .int .i64 t, .int .u32 n], .slice a len cap] w fun e w' => e = .returned (.bool true) ∧ Below w.heap.size w w' := by
  have hA : Below w.heap.size w (w.alloc (.cells #[.int .u32 c, .int .i64 o, .int .i64 i, .int .i64 t, .int .u32 n] 24)) := (Below.refl _ _).alloc (Nat.le_refl _) _
  have hAs : w.heap.size < (w.alloc (.cells #[.int .u32 c, .int .i64 o, .int .i64 i, .int .i64 t, .int .u32 n] 24)).heap.size := by simp
  have hrA := hr.below hA
  have hX := bx_new w c o i t n
  have hw := awake9 (w.alloc (.cells #[.int .u32 c, .int .i64 o, .int .i64 i, .int .i64 t, .int .u32 n] 24))
  have q : decide ((1000 : Int) < (len : Int)) = false := by simp; omega
  have hby : ∀ i, i < len + 9 → sp bs len i < 256 := fun i _ => sp_lt hr.byte i
  clear hr
  go_enter Try.func6, Try.ntmps6
  go_wp2_with fail
  generalize w.alloc (.cells #[.int .u32 c, .int .i64 o, .int .i64 i, .int .i64 t, .int .u32 n] 24) = wa at *
  refine hw.mono ?_
  rintro e w1 ⟨rfl, hb1⟩
  have hs1 := hb1.size
  have hS := spare_row a len cap bs w1 (hrA.below hb1) (by omega)
  clear hw
  go_wp2_with fail
  refine hS.mono ?_
  rintro e w2 ⟨rfl, H2⟩
  have hs2 : w1.heap.size < w2.heap.size := (H2.out.1.lt w1.heap.size rfl).2
  have hb2 := below_all hb1 hs1 H2.out.2
  have r2w : Row8 w2 (some ⟨w1.heap.size, 0, none⟩) (len + 9) (len + 9) (sp bs len) := own_slice8 H2.out.1 hby
  have r2 : Row8 w2 (some ⟨w1.heap.size, 0, none⟩) len (len + 9) bs := (r2w.upto len (by omega)).congr (fun i hi => by unfold sp; rw [if_pos hi])
  have L2 := Lst.ofRowP H2.out.1 (by omega)
  have HL2 : Hid (Row8 w2 (some ⟨w1.heap.size, 0, none⟩) (len + 9) (len + 9) (sp bs len) ∧ Row8 w2 (some ⟨w1.heap.size, 0, none⟩) len (len + 9) bs ∧ Lst w1.heap.size w2 (some w1.heap.size) len (len + 9)) := ⟨r2w, r2, ⟨by omega, by omega, L2.cmax, (fun e => by cases e), L2.row⟩⟩
  obtain ⟨x0, x1, x2, x3, x4⟩ := hX w2 hb2
  clear hS H2 hb1 r2w r2 L2
  generalize w1.heap.size = g1 at *
  go_wp2_with fail
  refine (fE w2).mono ?_
  rintro e w3 ⟨o3, l3, c3, E3, rfl, H3⟩
  have hb23 := H3.out.2
  have hb3 := below_all hb2 hb2.size hb23
  clear x0 x1 x2 x3 x4
  obtain ⟨x0, x1, x2, x3, x4⟩ := hX w3 hb3
  go_wp2_with fail
  refine (fE w3).mono ?_
  rintro e w4 ⟨o4, l4, c4, E4, rfl, H4⟩
  have hb34 := H4.out.2
  have hb24 := below_all hb23 hb23.size hb34
  have D4 := fD _ _ w4 (HL2.out.2.1.below hb24)
  clear x0 x1 x2 x3 x4 hb3 fE fD
  go_wp2_with fail
  refine D4.mono ?_
  rintro e w5 ⟨v5, rfl, hb45⟩
  have hb35 := below_all hb34 hb34.size hb45
  have hb25 := below_all hb24 hb24.size hb45
  have hb5 := below_all hb2 hb2.size hb25
  have M5 := fM _ _ w5 (HL2.out.2.1.below hb25)
  obtain ⟨x0, x1, x2, x3, x4⟩ := hX w5 hb5
  clear D4 fM hX
  go_wp2_with fail
  refine M5.mono ?_
  rintro e w6 ⟨v6, rfl, hb56⟩
  have hb26 := below_all hb25 hb25.size hb56
  have hb36 := below_all hb35 hb35.size hb56
  have hb46 := below_all hb45 hb45.size hb56
  have hb6 := below_all hb5 hb5.size hb56
  have hK := kept_belP g1 a len cap bs w6 (hrA.below hb6) (by omega) (HL2.out.1.below hb26)
  clear x0 x1 x2 x3 x4 M5 hb25 hb35 hb45 hb5 hb56 hb24 hrA
  go_wp2_with fail
  refine hK.mono ?_
  rintro e w7 ⟨rfl, hb67⟩
  have hb27 := below_all hb26 hb26.size hb67
  have hb37 := below_all hb36 hb36.size hb67
  have hb47 := below_all hb46 hb46.size hb67
  have hb7 := below_all hb6 hb6.size hb67
  clear hK hb26 hb36 hb46 hb6 hb67
  go_wp2_with fail
  refine (bytes4_lst w7).mono ?_
  rintro e w8 ⟨rfl, H8⟩
  go_wp2_with fail
  refine (bytes4_lst w8).mono ?_
  rintro e w9 ⟨rfl, H9⟩
  obtain ⟨L8, hb78, hs78⟩ := H8.out
  obtain ⟨L9, hb89, hs89⟩ := H9.out
  have hb79 := below_all hb78 hb78.size hb89
  have hb29 := below_all hb27 hb27.size hb79
  have hb39 := below_all hb37 hb37.size hb79
  have hb49 := below_all hb47 hb47.size hb79
  have hb9 := below_all hb7 hb7.size hb79
  have hw9 : Below w.heap.size w w9 := hA.trans (hb9.mono (Nat.le_of_lt hAs))
  have k3 : ∀ y, o3 = some y → w2.heap.size ≤ y ∧ y < w3.heap.size := fun y hy => H3.out.1.lt hy
  have k4 : ∀ y, o4 = some y → w3.heap.size ≤ y ∧ y < w4.heap.size := fun y hy => H4.out.1.lt hy
  have hd := apart_byP 5 (fiveP o3 o4 (some g1) (some w7.heap.size) (some w8.heap.size)) (fiveP w2.heap.size w3.heap.size g1 w7.heap.size w8.heap.size) (fiveP w3.heap.size w4.heap.size w2.heap.size w8.heap.size w9.heap.size)
    (fivePp k3 k4 (fun y hy => by cases hy; exact ⟨Nat.le_refl _, hs2⟩) (fun y hy => by cases hy; exact ⟨Nat.le_refl _, hs78⟩) (fun y hy => by cases hy; exact ⟨Nat.le_refl _, hs89⟩))
    (fiveP_order g1 w2.heap.size w3.heap.size w4.heap.size w7.heap.size w8.heap.size w9.heap.size hb23.size hb34.size hb47.size (Nat.le_of_lt hs78))
  have hz2 := hb2.size
  have hz3 := hb23.size
  have hz7 := hb27.size
  have hz : w.heap.size ≤ w2.heap.size ∧ w.heap.size ≤ w3.heap.size ∧ w.heap.size ≤ g1 ∧ w.heap.size ≤ w7.heap.size ∧ w.heap.size ≤ w8.heap.size := by omega
  have hAp := apart_lists w.heap.size 5 (fiveP o3 o4 (some g1) (some w7.heap.size) (some w8.heap.size)) (fiveP l3 l4 len 4 4) (fiveP c3 c4 (len + 9) 4 4) #[.slice (sa o3) l3 c3, .slice (sa o4) l4 c4, .slice (some ⟨g1, 0, none⟩) len (len + 9), .slice (some ⟨w7.heap.size, 0, none⟩) 4 4, .slice (some ⟨w8.heap.size, 0, none⟩) 4 4] w w9 rfl
    (fivePp ((H3.out.1.below hb39).base hz.1) ((H4.out.1.below hb49).base hz.2.1) ((HL2.out.2.2.below hb29).base hz.2.2.1) ((L8.below hb89).base hz.2.2.2.1) (L9.base hz.2.2.2.2))
    hd (by omega) (by omega) hw9 (Nat.le_refl _)
  clear H3 H4 H8 H9 L8 L9 HL2 hd k3 k4 hz hz2 hz3 hz7 hb2 hb23 hb34 hb27 hb37 hb47 hb7 hb78 hb89 hb79 hb29 hb39 hb49 hb9 hw9 hA hAs hs78 hs89 hs2 hs1 hby
  generalize sa o3 = s3 at *
  generalize sa o4 = s4 at *
  go_wp2_with fail
  refine hAp.mono ?_
  rintro e wC ⟨rfl, hfin⟩
  clear hAp
  go_wp2_with fail
  go_ret
  exact ⟨rfl, hfin⟩
theorem pdec_any (a : Option Addr) (len cap : Nat) (bs : Nat → Nat) (w : World) (hr : Row8 w a len cap bs) :
    Calls Try.prog 16 #[.slice a len cap] w fun e w' => ∃ v, e = .returned v ∧ Below w.heap.size w w' := by
  by_cases h14 : len = 14
  · subst h14
    by_cases hok : okP (w4v bs 0 : Nat) (bs 4 : Nat) (bs 5 : Nat) (w4v bs 6 : Nat) (w4v bs 10 : Nat)
    · exact (pdecode_good a cap bs w hr hok).mono fun e w' q => ⟨_, q⟩
    · exact (pdecode_bad a cap bs w hr hok).mono fun e w' q => ⟨_, q⟩
  · exact (pdecode_len a len cap w h14).mono fun e w' q => ⟨_, q⟩
theorem paramOwn_walk (a0_0 : Int) (a0_1 : Int) (a0_2 : Int) (a0_3 : Int) (a0_4 : Int) (a1 : Option Addr) (len1 cap1 : Nat) (z1 : List Int) (w : World) (w0_0 : (Lit.int .u32 a0_0).wf = true) (_ : (Lit.int .i64 a0_1).wf = true) (_ : (Lit.int .i64 a0_2).wf = true) (_ : (Lit.int .i64 a0_3).wf = true) (w0_4 : (Lit.int .u32 a0_4).wf = true) (w1 : BRow .u8 w a1 len1 cap1 z1) :
    Calls Try.prog 6 #[.agg #[.int .u32 a0_0, .int .i64 a0_1, .int .i64 a0_2, .int .i64 a0_3, .int .u32 a0_4], .slice a1 len1 cap1] w fun e w' => e = .returned (.bool true) ∧ Below w.heap.size w w' := by
  obtain ⟨c, rfl, hc⟩ := nat32P w0_0
  obtain ⟨n, rfl, hn⟩ := nat32P w0_4
  by_cases h : len1 ≤ 1000
  · by_cases hE : okP c a0_1 a0_2 a0_3 n
    · obtain ⟨_, hO, hI, hT, _⟩ := id hE
      obtain ⟨O, rfl⟩ : ∃ K : Nat, a0_1 = K := ⟨a0_1.toNat, by omega⟩
      obtain ⟨I, rfl⟩ : ∃ K : Nat, a0_2 = K := ⟨a0_2.toNat, by omega⟩
      obtain ⟨T, rfl⟩ : ∃ K : Nat, a0_3 = K := ⟨a0_3.toNat, by omega⟩
      exact paramOwn_core c O I T n a1 len1 cap1 _ w w1.row8 h
        (fun wx => (pencode_good c O I T n wx hc hn hE).mono fun e w' ⟨g, q1, q2⟩ => ⟨some g, 14, 14, 0, q1, Lst.ofRowP q2.out.2.1 (by omega), q2.out.2.2⟩)
        (fun a' c' wx hr => pdec_any a' len1 c' _ wx hr)
        (fun a' c' wx hr => (pmatch_good c O I T n a' len1 c' _ wx hr hc hn hE _ rfl).mono fun e w' q => ⟨_, q⟩)
    · exact paramOwn_core c a0_1 a0_2 a0_3 n a1 len1 cap1 _ w w1.row8 h
        (fun wx => (pencode_bad c a0_1 a0_2 a0_3 n wx hE).mono fun e w' q => ⟨none, 0, 0, 90, q.1, Lst.ofNil _ _, q.2⟩)
        (fun a' c' wx hr => pdec_any a' len1 c' _ wx hr)
        (fun a' c' wx _ => (pmatch_bad c a0_1 a0_2 a0_3 n a' len1 c' wx hE).mono fun e w' q => ⟨_, q⟩)
  · exact paramOwn_long c a0_1 a0_2 a0_3 n a1 len1 cap1 w (by omega)

end Go.Proofs.Ytikdkbcekibakaa
