/- Layer 20: the document's Read. (gensw1.py) -/
import Derived.Test.YtnmnjcjfgbpkaaaDoorJSv10
namespace Go.Proofs.YtnmnjcjfgbpkaaaDoor
set_option maxRecDepth 100000
open Go.RowKit Go.Maps
set_option maxRecDepth 100000
set_option linter.unusedVariables false
/-- A move under way, at q. -/
def RdS (w wr : World) (m : Mv) : Prop := ∃ a cc, Bk wr (w.heap.size + 1) #[.int .i64 m.k, .int .i64 m.c, .int .i64 m.s, .int .i64 m.f, .int .i64 m.a, .int .u32 (m.w : Nat), .int .i64 m.n, .bool m.h, .slice a m.l cc] 45 ∧ Row8 wr a m.l cc m.b ∧ (∀ y, a = some y → 0 < m.l → w.heap.size + 1 < y.block) ∧ Bk wr w.heap.size #[.int .i64 0, .int .i64 0, .int .i64 0, .int .i64 0, .int .i64 0, .int .u32 0, .int .i64 0, .bool false, .slice none 0 0] 45 ∧ Below w.heap.size w wr
theorem RdS.set {w wr : World} {m m' : Mv} {a : Option Addr} {cc : Nat} (i : Nat) (v : Value) (h1 : Bk wr (w.heap.size + 1) #[.int .i64 m.k, .int .i64 m.c, .int .i64 m.s, .int .i64 m.f, .int .i64 m.a, .int .u32 (m.w : Nat), .int .i64 m.n, .bool m.h, .slice a m.l cc] 45) (h2 : Row8 wr a m.l cc m.b) (h3 : ∀ y, a = some y → 0 < m.l → w.heap.size + 1 < y.block) (h4 : Bk wr w.heap.size #[.int .i64 0, .int .i64 0, .int .i64 0, .int .i64 0, .int .i64 0, .int .u32 0, .int .i64 0, .bool false, .slice none 0 0] 45) (h5 : Below w.heap.size w wr) (e : ((#[.int .i64 m.k, .int .i64 m.c, .int .i64 m.s, .int .i64 m.f, .int .i64 m.a, .int .u32 (m.w : Nat), .int .i64 m.n, .bool m.h, .slice a m.l cc] : Array Value).setIfInBounds i v) = #[.int .i64 m'.k, .int .i64 m'.c, .int .i64 m'.s, .int .i64 m'.f, .int .i64 m'.a, .int .u32 (m'.w : Nat), .int .i64 m'.n, .bool m'.h, .slice a m'.l cc]) (el : m'.l = m.l) (eb : m'.b = m.b) : RdS w (wr.setCell ⟨w.heap.size + 1, i, none⟩ v) m' := by
  have os := Off.setCell (w.heap.size + 1) i wr v
  refine ⟨a, cc, ?_, ?_, ?_, h4.off os (by simp), os.below h5 (by simp) h5.size⟩
  · have := h1.set i v
    rw [e] at this
    exact this
  · rw [el, eb]
    exact h2.offS os (fun y hy hn => by have := h3 y hy hn; simp; omega)
  · rw [el]
    exact h3
set_option maxHeartbeats 4000000 in
theorem rread0 (a : Option Addr) (cap : Nat) (L : Nat → List UInt8) (w : World) : Calls Tryd.prog 25 #[.slice a 0 cap] w (RdP (rdM 0 L) (rdEr 0 L) w) := by
  have e1 : rdEr 0 L = 202 := rfl
  have e2 : rdM 0 L = Mv.z 0 := rfl
  rw [e1, e2]
  have post : ∀ w', Below w.heap.size w w' → RdP (Mv.z 0) 202 w (.returned (.tuple #[.agg #[.int .i64 0, .int .i64 0, .int .i64 0, .int .i64 0, .int .i64 0, .int .u32 0, .int .i64 0, .bool false, .slice none 0 0], .int .i64 202])) w' := fun w' b => RdP.nil0 b
  clear e1 e2
  go_enter Tryd.func25, Tryd.ntmps25
  go_wp2_with fail
  refine bodyPost_ret (v := .tuple #[.agg #[.int .i64 0, .int .i64 0, .int .i64 0, .int .i64 0, .int .i64 0, .int .u32 0, .int .i64 0, .bool false, .slice none 0 0], .int .i64 202]) (by simp [results, Tryd.results25, go_sem]) rfl ?_
  exact post _ (belA (Below.refl _ _) _)
set_option maxHeartbeats 8000000 in
theorem rread1 (g o N n cap : Nat) (hN1 : N = n + 1) (L : Nat → List UInt8) (w : World) (h : ∀ i, i < N → w.cell? ⟨g, o + i, none⟩ = some (.string (tx (L i)))) (hn : n ≤ 1000000) : Calls Tryd.prog 25 #[.slice (some ⟨g, o, none⟩) N cap] w (RdP (rdM N L) (rdEr N L) w) := by
  have hk8 := fmK_le (L 0)
  have hfo := fun wx => rform (L 0) wx
  have hlen := fmF_len (fmK (L 0)) hk8
  have hlt := fun j => fmF_ltr (fmK (L 0)) j hk8
  have hsx := sidx (fmF (fmK (L 0)))
  have hw0 := h 0 (by omega)
  rw [Nat.add_zero] at hw0
  have eE : rdEr N L = if fmK (L 0) = 0 then 200 else if n < plL (fmK (L 0)) then 202 else if plM (fmK (L 0)) < n then 201 else if okF (fmF (fmK (L 0))) (fun i => L (i + 1)) n = true then 0 else 203 := by
    unfold rdEr
    rw [if_neg (by omega), hN1, Nat.add_sub_cancel]
  have eM : rdM N L = if rdEr N L = 0 then mvF (fmF (fmK (L 0))) (fun i => L (i + 1)) (Mv.z ((fmK (L 0) : Nat) : Int)) n else Mv.z 0 := by
    unfold rdM
    rw [hN1, Nat.add_sub_cancel]
  have hplL : plL (fmK (L 0)) = if fmK (L 0) = 1 then 3 else plM (fmK (L 0)) := by
    have : ∀ k : Fin 9, plL k.val = if k.val = 1 then 3 else plM k.val := by decide +kernel
    exact this ⟨fmK (L 0), by omega⟩
  obtain ⟨R, hR⟩ : ∃ y, (fun i => L (i + 1)) = y := ⟨_, rfl⟩
  have hRw : ∀ i, 1 ≤ i → i < N → w.cell? ⟨g, o + i, none⟩ = some (.string (tx (R (i - 1)))) := fun i h1 hj => by
    rw [← hR]
    have := h i hj
    simp only [Nat.sub_add_cancel h1]
    exact this
  rw [hR] at eE eM
  obtain ⟨X0, hX0⟩ : ∃ y, tx (L 0) = y := ⟨_, rfl⟩
  obtain ⟨k, hk⟩ : ∃ y, fmK (L 0) = y := ⟨_, rfl⟩
  rw [hk] at hfo hk8 hlen hlt hsx eE eM hplL
  rw [hX0] at hfo hw0
  obtain ⟨FF, hFF⟩ : ∃ y, fmF k = y := ⟨_, rfl⟩
  rw [hFF] at hfo hlen hlt hsx eE eM
  have hXs : (tx FF).size = FF.length := tx_size FF
  obtain ⟨FX, hFX⟩ : ∃ y, tx FF = y := ⟨_, rfl⟩
  rw [hFX] at hfo hsx hXs
  obtain ⟨E, hE⟩ : ∃ y, rdEr N L = y := ⟨_, rfl⟩
  obtain ⟨M, hM⟩ : ∃ y, rdM N L = y := ⟨_, rfl⟩
  rw [hE] at eE eM
  rw [hM] at eM
  rw [hE, hM]
  have zr : E ≠ 0 → M = Mv.z 0 := fun he => by rw [eM, if_neg he]
  have HE : Hid (_) := And.intro eE (And.intro eM zr)
  have HN : Hid (FX.size = FF.length ∧ FF.length = plM k ∧ (plL k = if k = 1 then 3 else plM k) ∧ N = n + 1) := ⟨hXs, hlen, hplL, hN1⟩
  have HC : Hid (_) := And.intro hRw (And.intro hlt hsx)
  have hw0A : ∀ ob, (w.alloc ob).cell? ⟨g, o, none⟩ = some (.string X0) := fun ob => cellB hw0 (belA (Below.refl _ _) _)
  have w1 : IntKind.i64.wrap (((N : Nat) : Int) - 1) = ((n : Nat) : Int) := by rw [IntKind.wrap_i64]; omega
  have qN : (((N : Nat) : Int) == 0) = false := beq_eq_false_iff_ne.2 (by omega)
  have qN0 : (0 : Int) < ((N : Nat) : Int) := by omega
  clear h hR hX0 hk hFF hFX hE hM eE eM zr hXs hlen hplL hRw hlt hsx hw0 hN1
  by_cases h0 : k = 0
  · subst h0
    have hE0 : E = 200 := by rw [HE.out.1, if_pos rfl]
    have hM0 := HE.out.2.2 (by omega)
    rw [hE0, hM0]
    have post : ∀ w', Below w.heap.size w w' → RdP (Mv.z 0) 200 w (.returned (.tuple #[.agg #[.int .i64 0, .int .i64 0, .int .i64 0, .int .i64 0, .int .i64 0, .int .u32 0, .int .i64 0, .bool false, .slice none 0 0], .int .i64 200])) w' := fun w' b => RdP.nil0 b
    clear hE0 hM0
    go_enter Tryd.func25, Tryd.ntmps25
    go_wp2_with fail
    refine (hfo _).mono ?_
    rintro r w' ⟨rfl, hw⟩
    rw [hw]
    clear hw
    go_wp2_with fail
    refine bodyPost_ret (v := .tuple #[.agg #[.int .i64 0, .int .i64 0, .int .i64 0, .int .i64 0, .int .i64 0, .int .u32 0, .int .i64 0, .bool false, .slice none 0 0], .int .i64 200]) (by simp [results, Tryd.results25, go_sem]) rfl ?_
    exact post _ (belA (Below.refl _ _) _)
  have q0 : (((k : Nat) : Int) == 0) = false := beq_eq_false_iff_ne.2 (by omega)
  obtain ⟨lst, hlst⟩ : ∃ y, plL k = y := ⟨_, rfl⟩
  have two : ((((k : Nat) : Int) == 1) = true ∧ lst = 3) ∨ ((((k : Nat) : Int) == 1) = false ∧ lst = FX.size) := by
    have := HN.out
    by_cases h1 : k = 1
    · rw [if_pos h1] at this
      exact .inl ⟨beq_iff_eq.2 (by omega), by omega⟩
    · rw [if_neg h1] at this
      exact .inr ⟨beq_eq_false_iff_ne.2 (by omega), by omega⟩
  by_cases h1 : n < lst
  · have hE1 : E = 202 := by rw [HE.out.1, if_neg h0, hlst, if_pos h1]
    have hM1 := HE.out.2.2 (by omega)
    rw [hE1, hM1]
    have post : ∀ w', Below w.heap.size w w' → RdP (Mv.z 0) 202 w (.returned (.tuple #[.agg #[.int .i64 0, .int .i64 0, .int .i64 0, .int .i64 0, .int .i64 0, .int .u32 0, .int .i64 0, .bool false, .slice none 0 0], .int .i64 202])) w' := fun w' b => RdP.nil0 b
    clear hE1 hM1 hlst
    rcases two with ⟨q1, rfl⟩ | ⟨q1, rfl⟩
    · have q2 : ((n : Nat) : Int) < 3 := by omega
      clear h1
      go_enter Tryd.func25, Tryd.ntmps25
      go_wp2_with fail
      refine (hfo _).mono ?_
      rintro r w' ⟨rfl, hw⟩
      rw [hw]
      clear hw
      go_wp2_with fail
      refine bodyPost_ret (v := .tuple #[.agg #[.int .i64 0, .int .i64 0, .int .i64 0, .int .i64 0, .int .i64 0, .int .u32 0, .int .i64 0, .bool false, .slice none 0 0], .int .i64 202]) (by simp [results, Tryd.results25, go_sem]) rfl ?_
      exact post _ (belA (Below.refl _ _) _)
    · have q2 : ((n : Nat) : Int) < ((FX.size : Nat) : Int) := by omega
      clear h1
      go_enter Tryd.func25, Tryd.ntmps25
      go_wp2_with fail
      refine (hfo _).mono ?_
      rintro r w' ⟨rfl, hw⟩
      rw [hw]
      clear hw
      go_wp2_with fail
      refine bodyPost_ret (v := .tuple #[.agg #[.int .i64 0, .int .i64 0, .int .i64 0, .int .i64 0, .int .i64 0, .int .u32 0, .int .i64 0, .bool false, .slice none 0 0], .int .i64 202]) (by simp [results, Tryd.results25, go_sem]) rfl ?_
      exact post _ (belA (Below.refl _ _) _)
  by_cases h2 : FX.size < n
  · have hE1 : E = 201 := by rw [HE.out.1, if_neg h0, hlst, if_neg h1, if_pos (by have := HN.out; omega)]
    have hM1 := HE.out.2.2 (by omega)
    rw [hE1, hM1]
    have post : ∀ w', Below w.heap.size w w' → RdP (Mv.z 0) 201 w (.returned (.tuple #[.agg #[.int .i64 0, .int .i64 0, .int .i64 0, .int .i64 0, .int .i64 0, .int .u32 0, .int .i64 0, .bool false, .slice none 0 0], .int .i64 201])) w' := fun w' b => RdP.nil0 b
    have q4 : ((FX.size : Nat) : Int) < ((n : Nat) : Int) := by omega
    clear hE1 hM1 hlst
    rcases two with ⟨q1, rfl⟩ | ⟨q1, rfl⟩
    · have q2 : ¬ ((n : Nat) : Int) < 3 := by omega
      clear h1 h2
      go_enter Tryd.func25, Tryd.ntmps25
      go_wp2_with fail
      refine (hfo _).mono ?_
      rintro r w' ⟨rfl, hw⟩
      rw [hw]
      clear hw
      go_wp2_with fail
      refine bodyPost_ret (v := .tuple #[.agg #[.int .i64 0, .int .i64 0, .int .i64 0, .int .i64 0, .int .i64 0, .int .u32 0, .int .i64 0, .bool false, .slice none 0 0], .int .i64 201]) (by simp [results, Tryd.results25, go_sem]) rfl ?_
      exact post _ (belA (Below.refl _ _) _)
    · have q2 : ¬ ((n : Nat) : Int) < ((FX.size : Nat) : Int) := by omega
      clear h1 h2
      go_enter Tryd.func25, Tryd.ntmps25
      go_wp2_with fail
      refine (hfo _).mono ?_
      rintro r w' ⟨rfl, hw⟩
      rw [hw]
      clear hw
      go_wp2_with fail
      refine bodyPost_ret (v := .tuple #[.agg #[.int .i64 0, .int .i64 0, .int .i64 0, .int .i64 0, .int .i64 0, .int .u32 0, .int .i64 0, .bool false, .slice none 0 0], .int .i64 201]) (by simp [results, Tryd.results25, go_sem]) rfl ?_
      exact post _ (belA (Below.refl _ _) _)
  have q4 : ¬ ((FX.size : Nat) : Int) < ((n : Nat) : Int) := by omega
  have eOk : E = if okF FF R n = true then 0 else 203 := by rw [HE.out.1, if_neg h0, hlst, if_neg h1, if_neg (by have := HN.out; omega)]
  have eMv : M = if okF FF R n = true then mvF FF R (Mv.z ((k : Nat) : Int)) n else Mv.z 0 := by
    rw [HE.out.2.1, eOk]
    by_cases hq : okF FF R n = true
    · simp [hq]
    · simp [hq]
  obtain ⟨M0, hM0⟩ : ∃ y, Mv.z ((k : Nat) : Int) = y := ⟨_, rfl⟩
  rw [hM0] at eMv
  have bad : okF FF R n = false → ∀ w', Below w.heap.size w w' → RdP M E w (.returned (.tuple #[.agg #[.int .i64 0, .int .i64 0, .int .i64 0, .int .i64 0, .int .i64 0, .int .u32 0, .int .i64 0, .bool false, .slice none 0 0], .int .i64 203])) w' := fun hq w' b => by
    rw [eMv, eOk, hq]
    exact RdP.nil0 b
  have good : okF FF R n = true → ∀ a cc w', Row8 w' a (mvF FF R M0 n).l cc (mvF FF R M0 n).b → Below w.heap.size w w' → (∀ y, a = some y → 0 < (mvF FF R M0 n).l → w.heap.size ≤ y.block) → RdP M E w (.returned (.tuple #[.agg #[.int .i64 (mvF FF R M0 n).k, .int .i64 (mvF FF R M0 n).c, .int .i64 (mvF FF R M0 n).s, .int .i64 (mvF FF R M0 n).f, .int .i64 (mvF FF R M0 n).a, .int .u32 ((mvF FF R M0 n).w : Nat), .int .i64 (mvF FF R M0 n).n, .bool (mvF FF R M0 n).h, .slice a (mvF FF R M0 n).l cc], .int .i64 0])) w' := fun hq a cc w' hr b fr => by
    rw [eMv, eOk, hq]
    exact ⟨a, cc, rfl, hr, b, fr⟩
  have HP : Hid (_) := And.intro bad good
  have HF : Hid (n ≤ FF.length) := by have := HN.out; exact (show n ≤ FF.length by omega)
  have HI0 : Hid (RdS w ((w.alloc (.cells #[.int .i64 0, .int .i64 0, .int .i64 0, .int .i64 0, .int .i64 0, .int .u32 0, .int .i64 0, .bool false, .slice none 0 0] 45)).alloc (.cells #[.int .i64 ((k : Nat) : Int), .int .i64 0, .int .i64 0, .int .i64 0, .int .i64 0, .int .u32 0, .int .i64 0, .bool false, .slice none 0 0] 45)) M0) := by
    rw [← hM0]
    refine ⟨none, 0, ?_, row8_0 _, (fun y hy => by cases hy), (Bk.new w _ _).off (l := []) (Off.alloc _ _ _) (by simp), belA (belA (Below.refl _ _) _) _⟩
    have := Bk.new (w.alloc (.cells #[.int .i64 0, .int .i64 0, .int .i64 0, .int .i64 0, .int .i64 0, .int .u32 0, .int .i64 0, .bool false, .slice none 0 0] 45)) #[.int .i64 ((k : Nat) : Int), .int .i64 0, .int .i64 0, .int .i64 0, .int .i64 0, .int .u32 0, .int .i64 0, .bool false, .slice none 0 0] 45
    rw [World.size_alloc] at this
    exact this
  clear bad good eOk eMv hM0 HE hlst
  have q2 : ((((k : Nat) : Int) == 1) = true ∧ ¬ ((n : Nat) : Int) < 3) ∨ ((((k : Nat) : Int) == 1) = false ∧ ¬ ((n : Nat) : Int) < ((FX.size : Nat) : Int)) := by
    rcases two with ⟨r1, r2⟩ | ⟨r1, r2⟩
    · exact .inl ⟨r1, by omega⟩
    · exact .inr ⟨r1, by omega⟩
  have d4 : decide (FX.size < n) = false := by simp; omega
  have d5 : decide (((FX.size : Nat) : Int) < ((n : Nat) : Int)) = false := by simp; omega
  clear two h1 h2 hk8 h0
  rcases q2 with ⟨q1, q2⟩ | ⟨q1, q2⟩
  · have d6 : decide (((n : Nat) : Int) < 3) = false := by simp; omega
    have d7 : decide (n < 3) = false := by simp; omega
    go_enter Tryd.func25, Tryd.ntmps25
    go_wp2_with fail
    refine (hfo _).mono ?_
    rintro r w' ⟨rfl, hw⟩
    rw [hw]
    clear hw
    go_wp2_with fail
    go_loopw [8, 9, 10, 11, 45, 46, 47, 48, 49, 50, 51, 52, 53, 54, 55, 56, 57, 58, 59, 60, 61, 62, 63, 64, 65, 66, 67, 68, 69, 70, 71, 72, 73, 74, 75, 76, 77, 78, 79, 80, 81, 82, 83, 84, 85, 86, 87, 88, 89, 90, 91, 92, 93, 94, 95, 96, 97, 98, 99, 100, 101, 102, 103, 104, 105, 106, 107, 108, 109, 110, 111, 112] (fun c _ _ _ _ _ _ _ _ _ _ _ _ _ _ _ _ _ _ _ _ _ _ _ _ _ _ _ _ _ _ _ _ _ _ _ _ _ _ _ _ _ _ _ _ _ _ _ _ _ _ _ _ _ _ _ _ _ _ _ _ _ _ _ _ _ _ _ _ _ _ _ wr => ∃ i : Nat, 1 ≤ i ∧ i ≤ N ∧ c = .int .i64 ((i : Nat) : Int) ∧ Hid (RdS w wr (mvF FF R M0 (i - 1)) ∧ okF FF R (i - 1) = true)) (fun c _ _ _ _ _ _ _ _ _ _ _ _ _ _ _ _ _ _ _ _ _ _ _ _ _ _ _ _ _ _ _ _ _ _ _ _ _ _ _ _ _ _ _ _ _ _ _ _ _ _ _ _ _ _ _ _ _ _ _ _ _ _ _ _ _ _ _ _ _ _ _ _ => N - natV c)
    case atStart => exact ⟨1, by omega, by have := HN.out; omega, rfl, HI0.out, rfl⟩
    case round =>
      obtain ⟨i, hi1, hi, rfl, HI⟩ := hrel
      clear hw0A hfo q0 q2 q4 HI0
      try clear q1
      by_cases hlt : i < N
      · have hlt' : ((i : Nat) : Int) < ((N : Nat) : Int) := by omega
        obtain ⟨j, hj⟩ : ∃ y, i - 1 = y := ⟨_, rfl⟩
        obtain ⟨i1, hi1'⟩ : ∃ y, i + 1 = y := ⟨_, rfl⟩
        have hsub : IntKind.i64.wrap (((i : Nat) : Int) - 1) = ((j : Nat) : Int) := by rw [IntKind.wrap_i64]; have := HN.out; omega
        have hadd : IntKind.i64.wrap (((i : Nat) : Int) + 1) = ((i1 : Nat) : Int) := by rw [IntKind.wrap_i64]; have := HN.out; omega
        have hnj : j < n := by have := HN.out; omega
        have cW0 := HC.out.1 i hi1 hlt
        have s1 : ∀ w, (Instr.index 9 (.string FX) (.int .i64 ((j : Nat) : Int))).run Tryd.prog w = .ok (.int .u8 ((ltr FF j : Nat) : Int)) w := HC.out.2.2 j (by have := HF.out; omega)
        have hl8 := HC.out.2.1 j (by have := HF.out; omega)
        rw [hj] at HI cW0
        obtain ⟨⟨a, cc, k1, k2, k3, k4, k5⟩, k6⟩ := HI.out
        have cW := cellB cW0 k5
        have hV := fun wx => rvalue (R j) wx
        have hBy : ∀ wx, Calls Tryd.prog 50 #[.string (tx (R j))] wx fun r w' => ∃ v, r = .returned (.tuple #[v, .bool (dtO (R j))]) ∧ Hid ((∃ a cc, v = .slice a (dtN (R j)) cc ∧ Row8 w' a (dtN (R j)) cc (dtB (R j)) ∧ ∀ y, a = some y → 0 < dtN (R j) → wx.heap.size ≤ y.block) ∧ Below wx.heap.size wx w') := fun wx => by
          refine (rbytes (R j) wx).mono ?_
          rintro r w' ⟨v, rfl, hv⟩
          exact ⟨v, rfl, data_row hv.out, hv.out.2.2⟩
        have vt := vlV_lt (R j)
        have eput : mvF FF R M0 (j + 1) = (mvF FF R M0 j).put (ltr FF j) (R j) := rfl
        have eok : okF FF R (j + 1) = (okF FF R j && lwO (ltr FF j) (R j)) := rfl
        have no : lwO (ltr FF j) (R j) = false → okF FF R n = false := okF_no n j hnj
        obtain ⟨m, hm⟩ : ∃ y, mvF FF R M0 j = y := ⟨_, rfl⟩
        obtain ⟨lc, hlc⟩ : ∃ y, ltr FF j = y := ⟨_, rfl⟩
        obtain ⟨lw, hlw⟩ : ∃ y, R j = y := ⟨_, rfl⟩
        rw [hm] at k1 k2 k3 eput
        rw [hlc] at s1 hl8 eput eok no
        rw [hlw] at cW hV hBy vt eput eok no
        rw [k6, Bool.true_and] at eok
        obtain ⟨V, hVe⟩ : ∃ y, vlV lw = y := ⟨_, rfl⟩
        rw [hVe] at hV vt
        have HJ : Hid (_) := And.intro eput (And.intro eok (And.intro no (And.intro hj (And.intro hi1' (And.intro hnj (And.intro hVe hi1))))))
        have HK : Hid (_) := And.intro k1 (And.intro k2 (And.intro k3 (And.intro k4 k5)))
        have fq := k1.fz
        clear k1 k2 k3 k4 k5 k6 hm hlc hlw hj hi1' hnj cW0 eput eok no hVe HI hi1 hi
        have wu : IntKind.u32.wrap ((V : Nat) : Int) = ((V : Nat) : Int) := by rw [IntKind.wrap_u32]; omega
        rcases hl8 with rfl | rfl | rfl | rfl | rfl | rfl | rfl | rfl
        · have cq : wr.cell? ⟨w.heap.size + 1, 1, none⟩ = some (.int .i64 m.c) := HK.out.1.cell 1
          obtain ⟨O, hO⟩ : ∃ y, vlO lw = y := ⟨_, rfl⟩
          rw [hO] at hV
          have HO5 : Hid (lwO 99 lw = O) := hO
          obtain ⟨w5, hw5⟩ : ∃ y, wr.setCell ⟨w.heap.size + 1, 1, none⟩ (.int .i64 ((V : Nat) : Int)) = y := ⟨_, rfl⟩
          have HS5 : Hid (RdS w w5 (m.put 99 lw)) := by
            rw [← hw5, ← HJ.out.2.2.2.2.2.2.1]
            exact RdS.set 1 _ HK.out.1 HK.out.2.1 HK.out.2.2.1 HK.out.2.2.2.1 HK.out.2.2.2.2 rfl rfl rfl
          clear hO hBy
          go_wp2_with fail
          refine (hV _).mono ?_
          rintro r w' ⟨rfl, hw⟩
          rw [hw]
          clear hw hV
          go_upto_region 40 with fail
          try rw [hw5]
          clear hw5 cq s1
          cases O with
          | false =>
            obtain ⟨a5, c5, r1, r2, r3, r4, r5⟩ := HS5.out
            have z0 : w5.cell? ⟨w.heap.size, 0, none⟩ = some (.int .i64 0) := r4.cell 0
            have z1 : w5.cell? ⟨w.heap.size, 1, none⟩ = some (.int .i64 0) := r4.cell 1
            have z2 : w5.cell? ⟨w.heap.size, 2, none⟩ = some (.int .i64 0) := r4.cell 2
            have z3 : w5.cell? ⟨w.heap.size, 3, none⟩ = some (.int .i64 0) := r4.cell 3
            have z4 : w5.cell? ⟨w.heap.size, 4, none⟩ = some (.int .i64 0) := r4.cell 4
            have z5 : w5.cell? ⟨w.heap.size, 5, none⟩ = some (.int .u32 0) := r4.cell 5
            have z6 : w5.cell? ⟨w.heap.size, 6, none⟩ = some (.int .i64 0) := r4.cell 6
            have z7 : w5.cell? ⟨w.heap.size, 7, none⟩ = some (.bool false) := r4.cell 7
            have z8 : w5.cell? ⟨w.heap.size, 8, none⟩ = some (.slice none 0 0) := r4.cell 8
            have fz := r4.fz
            have HO : Hid (Off [w.heap.size] w5 (((((((((w5.setCell ⟨w.heap.size, 0, none⟩ (.int .i64 0)).setCell ⟨w.heap.size, 1, none⟩ (.int .i64 0)).setCell ⟨w.heap.size, 2, none⟩ (.int .i64 0)).setCell ⟨w.heap.size, 3, none⟩ (.int .i64 0)).setCell ⟨w.heap.size, 4, none⟩ (.int .i64 0)).setCell ⟨w.heap.size, 5, none⟩ (.int .u32 0)).setCell ⟨w.heap.size, 6, none⟩ (.int .i64 0)).setCell ⟨w.heap.size, 7, none⟩ (.bool false)).setCell ⟨w.heap.size, 8, none⟩ (.slice none 0 0))) := Off.trans (Off.trans (Off.trans (Off.trans (Off.trans (Off.trans (Off.trans (Off.trans (Off.trans (Off.refl [w.heap.size] w5) (Off.setCell w.heap.size 0 _ _)) (Off.setCell w.heap.size 1 _ _)) (Off.setCell w.heap.size 2 _ _)) (Off.setCell w.heap.size 3 _ _)) (Off.setCell w.heap.size 4 _ _)) (Off.setCell w.heap.size 5 _ _)) (Off.setCell w.heap.size 6 _ _)) (Off.setCell w.heap.size 7 _ _)) (Off.setCell w.heap.size 8 _ _)
            have HB : Hid (_) := r5
            clear r1 r2 r3 r4 r5 fq
            go_wp2_with fail
            refine bodyPost_ret (v := .tuple #[.agg #[.int .i64 0, .int .i64 0, .int .i64 0, .int .i64 0, .int .i64 0, .int .u32 0, .int .i64 0, .bool false, .slice none 0 0], .int .i64 203]) (by simp [results, Tryd.results25, go_sem, z0, z1, z2, z3, z4, z5, z6, z7, z8]) rfl ?_
            exact HP.out.1 (HJ.out.2.2.1 HO5.out) _ (HO.out.below HB.out (by simp) HB.out.size)
          | true =>
            clear fq
            go_wp2_with fail
            go_roundw
            case rel =>
              have e1 := HJ.out.2.2.2.2.1
              have e2 := HJ.out.2.2.2.1
              have e4 := HJ.out.2.2.2.2.2.2.2
              have e3 : i1 - 1 = j + 1 := by omega
              refine ⟨i1, by omega, by omega, rfl, ?_⟩
              rw [e3, HJ.out.1, HJ.out.2.1]
              exact ⟨HS5.out, HO5.out⟩
            case measure =>
              have e1 := HJ.out.2.2.2.2.1
              simp [natV]
              omega
        · have cq : wr.cell? ⟨w.heap.size + 1, 3, none⟩ = some (.int .i64 m.f) := HK.out.1.cell 3
          obtain ⟨O, hO⟩ : ∃ y, vlO lw = y := ⟨_, rfl⟩
          rw [hO] at hV
          have HO5 : Hid (lwO 102 lw = O) := hO
          obtain ⟨w5, hw5⟩ : ∃ y, wr.setCell ⟨w.heap.size + 1, 3, none⟩ (.int .i64 ((V : Nat) : Int)) = y := ⟨_, rfl⟩
          have HS5 : Hid (RdS w w5 (m.put 102 lw)) := by
            rw [← hw5, ← HJ.out.2.2.2.2.2.2.1]
            exact RdS.set 3 _ HK.out.1 HK.out.2.1 HK.out.2.2.1 HK.out.2.2.2.1 HK.out.2.2.2.2 rfl rfl rfl
          clear hO hBy
          go_wp2_with fail
          refine (hV _).mono ?_
          rintro r w' ⟨rfl, hw⟩
          rw [hw]
          clear hw hV
          go_upto_region 40 with fail
          try rw [hw5]
          clear hw5 cq s1
          cases O with
          | false =>
            obtain ⟨a5, c5, r1, r2, r3, r4, r5⟩ := HS5.out
            have z0 : w5.cell? ⟨w.heap.size, 0, none⟩ = some (.int .i64 0) := r4.cell 0
            have z1 : w5.cell? ⟨w.heap.size, 1, none⟩ = some (.int .i64 0) := r4.cell 1
            have z2 : w5.cell? ⟨w.heap.size, 2, none⟩ = some (.int .i64 0) := r4.cell 2
            have z3 : w5.cell? ⟨w.heap.size, 3, none⟩ = some (.int .i64 0) := r4.cell 3
            have z4 : w5.cell? ⟨w.heap.size, 4, none⟩ = some (.int .i64 0) := r4.cell 4
            have z5 : w5.cell? ⟨w.heap.size, 5, none⟩ = some (.int .u32 0) := r4.cell 5
            have z6 : w5.cell? ⟨w.heap.size, 6, none⟩ = some (.int .i64 0) := r4.cell 6
            have z7 : w5.cell? ⟨w.heap.size, 7, none⟩ = some (.bool false) := r4.cell 7
            have z8 : w5.cell? ⟨w.heap.size, 8, none⟩ = some (.slice none 0 0) := r4.cell 8
            have fz := r4.fz
            have HO : Hid (Off [w.heap.size] w5 (((((((((w5.setCell ⟨w.heap.size, 0, none⟩ (.int .i64 0)).setCell ⟨w.heap.size, 1, none⟩ (.int .i64 0)).setCell ⟨w.heap.size, 2, none⟩ (.int .i64 0)).setCell ⟨w.heap.size, 3, none⟩ (.int .i64 0)).setCell ⟨w.heap.size, 4, none⟩ (.int .i64 0)).setCell ⟨w.heap.size, 5, none⟩ (.int .u32 0)).setCell ⟨w.heap.size, 6, none⟩ (.int .i64 0)).setCell ⟨w.heap.size, 7, none⟩ (.bool false)).setCell ⟨w.heap.size, 8, none⟩ (.slice none 0 0))) := Off.trans (Off.trans (Off.trans (Off.trans (Off.trans (Off.trans (Off.trans (Off.trans (Off.trans (Off.refl [w.heap.size] w5) (Off.setCell w.heap.size 0 _ _)) (Off.setCell w.heap.size 1 _ _)) (Off.setCell w.heap.size 2 _ _)) (Off.setCell w.heap.size 3 _ _)) (Off.setCell w.heap.size 4 _ _)) (Off.setCell w.heap.size 5 _ _)) (Off.setCell w.heap.size 6 _ _)) (Off.setCell w.heap.size 7 _ _)) (Off.setCell w.heap.size 8 _ _)
            have HB : Hid (_) := r5
            clear r1 r2 r3 r4 r5 fq
            go_wp2_with fail
            refine bodyPost_ret (v := .tuple #[.agg #[.int .i64 0, .int .i64 0, .int .i64 0, .int .i64 0, .int .i64 0, .int .u32 0, .int .i64 0, .bool false, .slice none 0 0], .int .i64 203]) (by simp [results, Tryd.results25, go_sem, z0, z1, z2, z3, z4, z5, z6, z7, z8]) rfl ?_
            exact HP.out.1 (HJ.out.2.2.1 HO5.out) _ (HO.out.below HB.out (by simp) HB.out.size)
          | true =>
            clear fq
            go_wp2_with fail
            go_roundw
            case rel =>
              have e1 := HJ.out.2.2.2.2.1
              have e2 := HJ.out.2.2.2.1
              have e4 := HJ.out.2.2.2.2.2.2.2
              have e3 : i1 - 1 = j + 1 := by omega
              refine ⟨i1, by omega, by omega, rfl, ?_⟩
              rw [e3, HJ.out.1, HJ.out.2.1]
              exact ⟨HS5.out, HO5.out⟩
            case measure =>
              have e1 := HJ.out.2.2.2.2.1
              simp [natV]
              omega
        · have cq : wr.cell? ⟨w.heap.size + 1, 4, none⟩ = some (.int .i64 m.a) := HK.out.1.cell 4
          obtain ⟨O, hO⟩ : ∃ y, vlO lw = y := ⟨_, rfl⟩
          rw [hO] at hV
          have HO5 : Hid (lwO 97 lw = O) := hO
          obtain ⟨w5, hw5⟩ : ∃ y, wr.setCell ⟨w.heap.size + 1, 4, none⟩ (.int .i64 ((V : Nat) : Int)) = y := ⟨_, rfl⟩
          have HS5 : Hid (RdS w w5 (m.put 97 lw)) := by
            rw [← hw5, ← HJ.out.2.2.2.2.2.2.1]
            exact RdS.set 4 _ HK.out.1 HK.out.2.1 HK.out.2.2.1 HK.out.2.2.2.1 HK.out.2.2.2.2 rfl rfl rfl
          clear hO hBy
          go_wp2_with fail
          refine (hV _).mono ?_
          rintro r w' ⟨rfl, hw⟩
          rw [hw]
          clear hw hV
          go_upto_region 40 with fail
          try rw [hw5]
          clear hw5 cq s1
          cases O with
          | false =>
            obtain ⟨a5, c5, r1, r2, r3, r4, r5⟩ := HS5.out
            have z0 : w5.cell? ⟨w.heap.size, 0, none⟩ = some (.int .i64 0) := r4.cell 0
            have z1 : w5.cell? ⟨w.heap.size, 1, none⟩ = some (.int .i64 0) := r4.cell 1
            have z2 : w5.cell? ⟨w.heap.size, 2, none⟩ = some (.int .i64 0) := r4.cell 2
            have z3 : w5.cell? ⟨w.heap.size, 3, none⟩ = some (.int .i64 0) := r4.cell 3
            have z4 : w5.cell? ⟨w.heap.size, 4, none⟩ = some (.int .i64 0) := r4.cell 4
            have z5 : w5.cell? ⟨w.heap.size, 5, none⟩ = some (.int .u32 0) := r4.cell 5
            have z6 : w5.cell? ⟨w.heap.size, 6, none⟩ = some (.int .i64 0) := r4.cell 6
            have z7 : w5.cell? ⟨w.heap.size, 7, none⟩ = some (.bool false) := r4.cell 7
            have z8 : w5.cell? ⟨w.heap.size, 8, none⟩ = some (.slice none 0 0) := r4.cell 8
            have fz := r4.fz
            have HO : Hid (Off [w.heap.size] w5 (((((((((w5.setCell ⟨w.heap.size, 0, none⟩ (.int .i64 0)).setCell ⟨w.heap.size, 1, none⟩ (.int .i64 0)).setCell ⟨w.heap.size, 2, none⟩ (.int .i64 0)).setCell ⟨w.heap.size, 3, none⟩ (.int .i64 0)).setCell ⟨w.heap.size, 4, none⟩ (.int .i64 0)).setCell ⟨w.heap.size, 5, none⟩ (.int .u32 0)).setCell ⟨w.heap.size, 6, none⟩ (.int .i64 0)).setCell ⟨w.heap.size, 7, none⟩ (.bool false)).setCell ⟨w.heap.size, 8, none⟩ (.slice none 0 0))) := Off.trans (Off.trans (Off.trans (Off.trans (Off.trans (Off.trans (Off.trans (Off.trans (Off.trans (Off.refl [w.heap.size] w5) (Off.setCell w.heap.size 0 _ _)) (Off.setCell w.heap.size 1 _ _)) (Off.setCell w.heap.size 2 _ _)) (Off.setCell w.heap.size 3 _ _)) (Off.setCell w.heap.size 4 _ _)) (Off.setCell w.heap.size 5 _ _)) (Off.setCell w.heap.size 6 _ _)) (Off.setCell w.heap.size 7 _ _)) (Off.setCell w.heap.size 8 _ _)
            have HB : Hid (_) := r5
            clear r1 r2 r3 r4 r5 fq
            go_wp2_with fail
            refine bodyPost_ret (v := .tuple #[.agg #[.int .i64 0, .int .i64 0, .int .i64 0, .int .i64 0, .int .i64 0, .int .u32 0, .int .i64 0, .bool false, .slice none 0 0], .int .i64 203]) (by simp [results, Tryd.results25, go_sem, z0, z1, z2, z3, z4, z5, z6, z7, z8]) rfl ?_
            exact HP.out.1 (HJ.out.2.2.1 HO5.out) _ (HO.out.below HB.out (by simp) HB.out.size)
          | true =>
            clear fq
            go_wp2_with fail
            go_roundw
            case rel =>
              have e1 := HJ.out.2.2.2.2.1
              have e2 := HJ.out.2.2.2.1
              have e4 := HJ.out.2.2.2.2.2.2.2
              have e3 : i1 - 1 = j + 1 := by omega
              refine ⟨i1, by omega, by omega, rfl, ?_⟩
              rw [e3, HJ.out.1, HJ.out.2.1]
              exact ⟨HS5.out, HO5.out⟩
            case measure =>
              have e1 := HJ.out.2.2.2.2.1
              simp [natV]
              omega
        · have cq : wr.cell? ⟨w.heap.size + 1, 5, none⟩ = some (.int .u32 (m.w : Nat)) := HK.out.1.cell 5
          obtain ⟨O, hO⟩ : ∃ y, vlO lw = y := ⟨_, rfl⟩
          rw [hO] at hV
          have HO5 : Hid (lwO 119 lw = O) := hO
          obtain ⟨w5, hw5⟩ : ∃ y, wr.setCell ⟨w.heap.size + 1, 5, none⟩ (.int .u32 ((V : Nat) : Int)) = y := ⟨_, rfl⟩
          have HS5 : Hid (RdS w w5 (m.put 119 lw)) := by
            rw [← hw5, ← HJ.out.2.2.2.2.2.2.1]
            exact RdS.set 5 _ HK.out.1 HK.out.2.1 HK.out.2.2.1 HK.out.2.2.2.1 HK.out.2.2.2.2 rfl rfl rfl
          clear hO hBy
          go_wp2_with fail
          refine (hV _).mono ?_
          rintro r w' ⟨rfl, hw⟩
          rw [hw]
          clear hw hV
          go_upto_region 40 with fail
          try rw [hw5]
          clear hw5 cq s1
          cases O with
          | false =>
            obtain ⟨a5, c5, r1, r2, r3, r4, r5⟩ := HS5.out
            have z0 : w5.cell? ⟨w.heap.size, 0, none⟩ = some (.int .i64 0) := r4.cell 0
            have z1 : w5.cell? ⟨w.heap.size, 1, none⟩ = some (.int .i64 0) := r4.cell 1
            have z2 : w5.cell? ⟨w.heap.size, 2, none⟩ = some (.int .i64 0) := r4.cell 2
            have z3 : w5.cell? ⟨w.heap.size, 3, none⟩ = some (.int .i64 0) := r4.cell 3
            have z4 : w5.cell? ⟨w.heap.size, 4, none⟩ = some (.int .i64 0) := r4.cell 4
            have z5 : w5.cell? ⟨w.heap.size, 5, none⟩ = some (.int .u32 0) := r4.cell 5
            have z6 : w5.cell? ⟨w.heap.size, 6, none⟩ = some (.int .i64 0) := r4.cell 6
            have z7 : w5.cell? ⟨w.heap.size, 7, none⟩ = some (.bool false) := r4.cell 7
            have z8 : w5.cell? ⟨w.heap.size, 8, none⟩ = some (.slice none 0 0) := r4.cell 8
            have fz := r4.fz
            have HO : Hid (Off [w.heap.size] w5 (((((((((w5.setCell ⟨w.heap.size, 0, none⟩ (.int .i64 0)).setCell ⟨w.heap.size, 1, none⟩ (.int .i64 0)).setCell ⟨w.heap.size, 2, none⟩ (.int .i64 0)).setCell ⟨w.heap.size, 3, none⟩ (.int .i64 0)).setCell ⟨w.heap.size, 4, none⟩ (.int .i64 0)).setCell ⟨w.heap.size, 5, none⟩ (.int .u32 0)).setCell ⟨w.heap.size, 6, none⟩ (.int .i64 0)).setCell ⟨w.heap.size, 7, none⟩ (.bool false)).setCell ⟨w.heap.size, 8, none⟩ (.slice none 0 0))) := Off.trans (Off.trans (Off.trans (Off.trans (Off.trans (Off.trans (Off.trans (Off.trans (Off.trans (Off.refl [w.heap.size] w5) (Off.setCell w.heap.size 0 _ _)) (Off.setCell w.heap.size 1 _ _)) (Off.setCell w.heap.size 2 _ _)) (Off.setCell w.heap.size 3 _ _)) (Off.setCell w.heap.size 4 _ _)) (Off.setCell w.heap.size 5 _ _)) (Off.setCell w.heap.size 6 _ _)) (Off.setCell w.heap.size 7 _ _)) (Off.setCell w.heap.size 8 _ _)
            have HB : Hid (_) := r5
            clear r1 r2 r3 r4 r5 fq
            go_wp2_with fail
            refine bodyPost_ret (v := .tuple #[.agg #[.int .i64 0, .int .i64 0, .int .i64 0, .int .i64 0, .int .i64 0, .int .u32 0, .int .i64 0, .bool false, .slice none 0 0], .int .i64 203]) (by simp [results, Tryd.results25, go_sem, z0, z1, z2, z3, z4, z5, z6, z7, z8]) rfl ?_
            exact HP.out.1 (HJ.out.2.2.1 HO5.out) _ (HO.out.below HB.out (by simp) HB.out.size)
          | true =>
            clear fq
            go_wp2_with fail
            go_roundw
            case rel =>
              have e1 := HJ.out.2.2.2.2.1
              have e2 := HJ.out.2.2.2.1
              have e4 := HJ.out.2.2.2.2.2.2.2
              have e3 : i1 - 1 = j + 1 := by omega
              refine ⟨i1, by omega, by omega, rfl, ?_⟩
              rw [e3, HJ.out.1, HJ.out.2.1]
              exact ⟨HS5.out, HO5.out⟩
            case measure =>
              have e1 := HJ.out.2.2.2.2.1
              simp [natV]
              omega
        · have cq : wr.cell? ⟨w.heap.size + 1, 6, none⟩ = some (.int .i64 m.n) := HK.out.1.cell 6
          obtain ⟨O, hO⟩ : ∃ y, vlO lw = y := ⟨_, rfl⟩
          rw [hO] at hV
          have HO5 : Hid (lwO 110 lw = O) := hO
          obtain ⟨w5, hw5⟩ : ∃ y, wr.setCell ⟨w.heap.size + 1, 6, none⟩ (.int .i64 ((V : Nat) : Int)) = y := ⟨_, rfl⟩
          have HS5 : Hid (RdS w w5 (m.put 110 lw)) := by
            rw [← hw5, ← HJ.out.2.2.2.2.2.2.1]
            exact RdS.set 6 _ HK.out.1 HK.out.2.1 HK.out.2.2.1 HK.out.2.2.2.1 HK.out.2.2.2.2 rfl rfl rfl
          clear hO hBy
          go_wp2_with fail
          refine (hV _).mono ?_
          rintro r w' ⟨rfl, hw⟩
          rw [hw]
          clear hw hV
          go_upto_region 40 with fail
          try rw [hw5]
          clear hw5 cq s1
          cases O with
          | false =>
            obtain ⟨a5, c5, r1, r2, r3, r4, r5⟩ := HS5.out
            have z0 : w5.cell? ⟨w.heap.size, 0, none⟩ = some (.int .i64 0) := r4.cell 0
            have z1 : w5.cell? ⟨w.heap.size, 1, none⟩ = some (.int .i64 0) := r4.cell 1
            have z2 : w5.cell? ⟨w.heap.size, 2, none⟩ = some (.int .i64 0) := r4.cell 2
            have z3 : w5.cell? ⟨w.heap.size, 3, none⟩ = some (.int .i64 0) := r4.cell 3
            have z4 : w5.cell? ⟨w.heap.size, 4, none⟩ = some (.int .i64 0) := r4.cell 4
            have z5 : w5.cell? ⟨w.heap.size, 5, none⟩ = some (.int .u32 0) := r4.cell 5
            have z6 : w5.cell? ⟨w.heap.size, 6, none⟩ = some (.int .i64 0) := r4.cell 6
            have z7 : w5.cell? ⟨w.heap.size, 7, none⟩ = some (.bool false) := r4.cell 7
            have z8 : w5.cell? ⟨w.heap.size, 8, none⟩ = some (.slice none 0 0) := r4.cell 8
            have fz := r4.fz
            have HO : Hid (Off [w.heap.size] w5 (((((((((w5.setCell ⟨w.heap.size, 0, none⟩ (.int .i64 0)).setCell ⟨w.heap.size, 1, none⟩ (.int .i64 0)).setCell ⟨w.heap.size, 2, none⟩ (.int .i64 0)).setCell ⟨w.heap.size, 3, none⟩ (.int .i64 0)).setCell ⟨w.heap.size, 4, none⟩ (.int .i64 0)).setCell ⟨w.heap.size, 5, none⟩ (.int .u32 0)).setCell ⟨w.heap.size, 6, none⟩ (.int .i64 0)).setCell ⟨w.heap.size, 7, none⟩ (.bool false)).setCell ⟨w.heap.size, 8, none⟩ (.slice none 0 0))) := Off.trans (Off.trans (Off.trans (Off.trans (Off.trans (Off.trans (Off.trans (Off.trans (Off.trans (Off.refl [w.heap.size] w5) (Off.setCell w.heap.size 0 _ _)) (Off.setCell w.heap.size 1 _ _)) (Off.setCell w.heap.size 2 _ _)) (Off.setCell w.heap.size 3 _ _)) (Off.setCell w.heap.size 4 _ _)) (Off.setCell w.heap.size 5 _ _)) (Off.setCell w.heap.size 6 _ _)) (Off.setCell w.heap.size 7 _ _)) (Off.setCell w.heap.size 8 _ _)
            have HB : Hid (_) := r5
            clear r1 r2 r3 r4 r5 fq
            go_wp2_with fail
            refine bodyPost_ret (v := .tuple #[.agg #[.int .i64 0, .int .i64 0, .int .i64 0, .int .i64 0, .int .i64 0, .int .u32 0, .int .i64 0, .bool false, .slice none 0 0], .int .i64 203]) (by simp [results, Tryd.results25, go_sem, z0, z1, z2, z3, z4, z5, z6, z7, z8]) rfl ?_
            exact HP.out.1 (HJ.out.2.2.1 HO5.out) _ (HO.out.below HB.out (by simp) HB.out.size)
          | true =>
            clear fq
            go_wp2_with fail
            go_roundw
            case rel =>
              have e1 := HJ.out.2.2.2.2.1
              have e2 := HJ.out.2.2.2.1
              have e4 := HJ.out.2.2.2.2.2.2.2
              have e3 : i1 - 1 = j + 1 := by omega
              refine ⟨i1, by omega, by omega, rfl, ?_⟩
              rw [e3, HJ.out.1, HJ.out.2.1]
              exact ⟨HS5.out, HO5.out⟩
            case measure =>
              have e1 := HJ.out.2.2.2.2.1
              simp [natV]
              omega
        · have cq : wr.cell? ⟨w.heap.size + 1, 2, none⟩ = some (.int .i64 m.s) := HK.out.1.cell 2
          have cq1 : (wr.setCell ⟨w.heap.size + 1, 2, none⟩ (.int .i64 1)).cell? ⟨w.heap.size + 1, 2, none⟩ = some (.int .i64 1) := (HK.out.1.set 2 _).cell 2
          have fq1 := (HK.out.1.set 2 (.int .i64 1)).fz
          clear hBy
          obtain ⟨O1, hO1⟩ : ∃ y, vlO lw = y := ⟨_, rfl⟩
          rw [hO1] at hV
          clear hO1
          have key : ∃ O S : _, Hid (lwO 115 lw = O) ∧ ((lw == [104]) = true ∧ (lw == [100]) = false ∧ O = true ∧ S = false ∨ (lw == [104]) = false ∧ (lw == [100]) = true ∧ O = true ∧ S = true ∨ (lw == [104]) = false ∧ (lw == [100]) = false ∧ O = false ∧ S = false) := by
            by_cases e1 : lw = [104]
            · exact ⟨true, false, (show lwO 115 lw = true by rw [e1]; rfl), .inl ⟨by rw [e1]; rfl, by rw [e1]; rfl, rfl, rfl⟩⟩
            by_cases e2 : lw = [100]
            · exact ⟨true, true, (show lwO 115 lw = true by rw [e2]; rfl), .inr (.inl ⟨by rw [e2]; rfl, by rw [e2]; rfl, rfl, rfl⟩)⟩
            · exact ⟨false, false, (show lwO 115 lw = false by simp [lwO, e1, e2]), .inr (.inr ⟨by simpa using e1, by simpa using e2, rfl, rfl⟩)⟩
          obtain ⟨O, S, HO5, key⟩ := key
          have eX1 : ((tx lw).toList == [104]) = (lw == [104]) := by rw [tx_list]
          have eX2 : ((tx lw).toList == [100]) = (lw == [100]) := by rw [tx_list]
          have put2 : (lw == [100]) = true → m.put 115 lw = { m with s := 2 } := fun h => by
            have : lw = [100] := by simpa using h
            simp [Mv.put, this]
          have put1 : (lw == [100]) = false → m.put 115 lw = { m with s := 1 } := fun h => by
            have : ¬ lw = [100] := by simpa using h
            simp [Mv.put, this]
          have HPt : Hid (_) := And.intro put2 put1
          obtain ⟨X, hX⟩ : ∃ y, tx lw = y := ⟨_, rfl⟩
          rw [hX] at eX1 eX2 cW hV
          clear hX put1 put2
          rcases key with ⟨y1, y2, rfl, rfl⟩ | ⟨y1, y2, rfl, rfl⟩ | ⟨y1, y2, rfl, rfl⟩
          · rw [y1] at eX1
            rw [y2] at eX2
            obtain ⟨w5, hw5⟩ : ∃ y, wr.setCell ⟨w.heap.size + 1, 2, none⟩ (.int .i64 1) = y := ⟨_, rfl⟩
            have HS5 : Hid (RdS w w5 (m.put 115 lw)) := by
              rw [← hw5, HPt.out.2 y2]
              exact RdS.set (m' := { m with s := 1 }) 2 _ HK.out.1 HK.out.2.1 HK.out.2.2.1 HK.out.2.2.2.1 HK.out.2.2.2.2 rfl rfl rfl
            clear y1 y2
            go_wp2_with fail
            refine (hV _).mono ?_
            rintro r w' ⟨rfl, hw⟩
            rw [hw]
            clear hw hV
            go_upto_region 40 with fail
            try rw [hw5]
            clear hw5 cq s1 cq1 fq1
            clear fq
            go_wp2_with fail
            go_roundw
            case rel =>
              have e1 := HJ.out.2.2.2.2.1
              have e2 := HJ.out.2.2.2.1
              have e4 := HJ.out.2.2.2.2.2.2.2
              have e3 : i1 - 1 = j + 1 := by omega
              refine ⟨i1, by omega, by omega, rfl, ?_⟩
              rw [e3, HJ.out.1, HJ.out.2.1]
              exact ⟨HS5.out, HO5.out⟩
            case measure =>
              have e1 := HJ.out.2.2.2.2.1
              simp [natV]
              omega
          · rw [y1] at eX1
            rw [y2] at eX2
            obtain ⟨w5, hw5⟩ : ∃ y, (wr.setCell ⟨w.heap.size + 1, 2, none⟩ (.int .i64 1)).setCell ⟨w.heap.size + 1, 2, none⟩ (.int .i64 2) = y := ⟨_, rfl⟩
            have HS5 : Hid (RdS w w5 (m.put 115 lw)) := by
              rw [← hw5, HPt.out.1 y2]
              obtain ⟨a5, c5, r1, r2, r3, r4, r5⟩ := RdS.set (m' := { m with s := 1 }) 2 (.int .i64 1) HK.out.1 HK.out.2.1 HK.out.2.2.1 HK.out.2.2.2.1 HK.out.2.2.2.2 rfl rfl rfl
              exact RdS.set (m := { m with s := 1 }) 2 _ r1 r2 r3 r4 r5 rfl rfl rfl
            clear y1 y2
            go_wp2_with fail
            refine (hV _).mono ?_
            rintro r w' ⟨rfl, hw⟩
            rw [hw]
            clear hw hV
            go_upto_region 40 with fail
            try rw [hw5]
            clear hw5 cq s1 cq1 fq1
            clear fq
            go_wp2_with fail
            go_roundw
            case rel =>
              have e1 := HJ.out.2.2.2.2.1
              have e2 := HJ.out.2.2.2.1
              have e4 := HJ.out.2.2.2.2.2.2.2
              have e3 : i1 - 1 = j + 1 := by omega
              refine ⟨i1, by omega, by omega, rfl, ?_⟩
              rw [e3, HJ.out.1, HJ.out.2.1]
              exact ⟨HS5.out, HO5.out⟩
            case measure =>
              have e1 := HJ.out.2.2.2.2.1
              simp [natV]
              omega
          · rw [y1] at eX1
            rw [y2] at eX2
            obtain ⟨w5, hw5⟩ : ∃ y, wr.setCell ⟨w.heap.size + 1, 2, none⟩ (.int .i64 1) = y := ⟨_, rfl⟩
            have HS5 : Hid (RdS w w5 (m.put 115 lw)) := by
              rw [← hw5, HPt.out.2 y2]
              exact RdS.set (m' := { m with s := 1 }) 2 _ HK.out.1 HK.out.2.1 HK.out.2.2.1 HK.out.2.2.2.1 HK.out.2.2.2.2 rfl rfl rfl
            clear y1 y2
            go_wp2_with fail
            refine (hV _).mono ?_
            rintro r w' ⟨rfl, hw⟩
            rw [hw]
            clear hw hV
            go_upto_region 40 with fail
            try rw [hw5]
            clear hw5 cq s1 cq1 fq1
            obtain ⟨a5, c5, r1, r2, r3, r4, r5⟩ := HS5.out
            have z0 : w5.cell? ⟨w.heap.size, 0, none⟩ = some (.int .i64 0) := r4.cell 0
            have z1 : w5.cell? ⟨w.heap.size, 1, none⟩ = some (.int .i64 0) := r4.cell 1
            have z2 : w5.cell? ⟨w.heap.size, 2, none⟩ = some (.int .i64 0) := r4.cell 2
            have z3 : w5.cell? ⟨w.heap.size, 3, none⟩ = some (.int .i64 0) := r4.cell 3
            have z4 : w5.cell? ⟨w.heap.size, 4, none⟩ = some (.int .i64 0) := r4.cell 4
            have z5 : w5.cell? ⟨w.heap.size, 5, none⟩ = some (.int .u32 0) := r4.cell 5
            have z6 : w5.cell? ⟨w.heap.size, 6, none⟩ = some (.int .i64 0) := r4.cell 6
            have z7 : w5.cell? ⟨w.heap.size, 7, none⟩ = some (.bool false) := r4.cell 7
            have z8 : w5.cell? ⟨w.heap.size, 8, none⟩ = some (.slice none 0 0) := r4.cell 8
            have fz := r4.fz
            have HO : Hid (Off [w.heap.size] w5 (((((((((w5.setCell ⟨w.heap.size, 0, none⟩ (.int .i64 0)).setCell ⟨w.heap.size, 1, none⟩ (.int .i64 0)).setCell ⟨w.heap.size, 2, none⟩ (.int .i64 0)).setCell ⟨w.heap.size, 3, none⟩ (.int .i64 0)).setCell ⟨w.heap.size, 4, none⟩ (.int .i64 0)).setCell ⟨w.heap.size, 5, none⟩ (.int .u32 0)).setCell ⟨w.heap.size, 6, none⟩ (.int .i64 0)).setCell ⟨w.heap.size, 7, none⟩ (.bool false)).setCell ⟨w.heap.size, 8, none⟩ (.slice none 0 0))) := Off.trans (Off.trans (Off.trans (Off.trans (Off.trans (Off.trans (Off.trans (Off.trans (Off.trans (Off.refl [w.heap.size] w5) (Off.setCell w.heap.size 0 _ _)) (Off.setCell w.heap.size 1 _ _)) (Off.setCell w.heap.size 2 _ _)) (Off.setCell w.heap.size 3 _ _)) (Off.setCell w.heap.size 4 _ _)) (Off.setCell w.heap.size 5 _ _)) (Off.setCell w.heap.size 6 _ _)) (Off.setCell w.heap.size 7 _ _)) (Off.setCell w.heap.size 8 _ _)
            have HB : Hid (_) := r5
            clear r1 r2 r3 r4 r5 fq
            go_wp2_with fail
            refine bodyPost_ret (v := .tuple #[.agg #[.int .i64 0, .int .i64 0, .int .i64 0, .int .i64 0, .int .i64 0, .int .u32 0, .int .i64 0, .bool false, .slice none 0 0], .int .i64 203]) (by simp [results, Tryd.results25, go_sem, z0, z1, z2, z3, z4, z5, z6, z7, z8]) rfl ?_
            exact HP.out.1 (HJ.out.2.2.1 HO5.out) _ (HO.out.below HB.out (by simp) HB.out.size)
        · obtain ⟨O1, hO1⟩ : ∃ y, vlO lw = y := ⟨_, rfl⟩
          rw [hO1] at hV
          clear hO1
          obtain ⟨O, hO⟩ : ∃ y, dtO lw = y := ⟨_, rfl⟩
          obtain ⟨DN, hDN⟩ : ∃ y, dtN lw = y := ⟨_, rfl⟩
          obtain ⟨DB, hDB⟩ : ∃ y, dtB lw = y := ⟨_, rfl⟩
          rw [hO, hDN, hDB] at hBy
          have HO5 : Hid (lwO 120 lw = O) := hO
          have ep : m.put 120 lw = { m with l := DN, b := DB } := by rw [← hDN, ← hDB]; rfl
          have HEp : Hid (_) := ep
          clear hO hDN hDB ep
          go_wp2_with fail
          refine (hV _).mono ?_
          rintro r w' ⟨rfl, hw⟩
          rw [hw]
          clear hw hV
          go_wp2_with fail
          refine (hBy _).mono ?_
          rintro r wb ⟨v, rfl, Hb⟩
          obtain ⟨ab, cb, rfl, rb, nb⟩ := Hb.out.1
          have kb := HK.out.1.off (Off.of_below (l := []) Hb.out.2) (by simp)
          have fqb := kb.fz
          have cq : wb.cell? ⟨w.heap.size + 1, 8, none⟩ = some (.slice a m.l cc) := kb.cell 8
          obtain ⟨w5, hw5⟩ : ∃ y, wb.setCell ⟨w.heap.size + 1, 8, none⟩ (.slice ab DN cb) = y := ⟨_, rfl⟩
          have HS5 : Hid (RdS w w5 (m.put 120 lw)) := by
            rw [← hw5, HEp.out]
            have os := Off.setCell (w.heap.size + 1) 8 wb (.slice ab DN cb)
            have bb := HK.out.2.2.2.2.trans (Hb.out.2.mono HK.out.2.2.2.2.size)
            have lq := HK.out.1.lt
            refine ⟨ab, cb, kb.set 8 _, rb.offS os (fun y hy hn => ?_), fun y hy hn => ?_, (HK.out.2.2.2.1.off (Off.of_below (l := []) Hb.out.2) (by simp)).off os (by simp), os.below bb (by simp) bb.size⟩
            · have := nb y hy hn
              simp
              omega
            · have := nb y hy hn
              omega
          clear kb rb nb Hb hBy fq
          have fq := fqb
          clear fqb
          go_upto_region 40 with fail
          try rw [hw5]
          clear hw5 cq s1
          cases O with
          | false =>
            obtain ⟨a5, c5, r1, r2, r3, r4, r5⟩ := HS5.out
            have z0 : w5.cell? ⟨w.heap.size, 0, none⟩ = some (.int .i64 0) := r4.cell 0
            have z1 : w5.cell? ⟨w.heap.size, 1, none⟩ = some (.int .i64 0) := r4.cell 1
            have z2 : w5.cell? ⟨w.heap.size, 2, none⟩ = some (.int .i64 0) := r4.cell 2
            have z3 : w5.cell? ⟨w.heap.size, 3, none⟩ = some (.int .i64 0) := r4.cell 3
            have z4 : w5.cell? ⟨w.heap.size, 4, none⟩ = some (.int .i64 0) := r4.cell 4
            have z5 : w5.cell? ⟨w.heap.size, 5, none⟩ = some (.int .u32 0) := r4.cell 5
            have z6 : w5.cell? ⟨w.heap.size, 6, none⟩ = some (.int .i64 0) := r4.cell 6
            have z7 : w5.cell? ⟨w.heap.size, 7, none⟩ = some (.bool false) := r4.cell 7
            have z8 : w5.cell? ⟨w.heap.size, 8, none⟩ = some (.slice none 0 0) := r4.cell 8
            have fz := r4.fz
            have HO : Hid (Off [w.heap.size] w5 (((((((((w5.setCell ⟨w.heap.size, 0, none⟩ (.int .i64 0)).setCell ⟨w.heap.size, 1, none⟩ (.int .i64 0)).setCell ⟨w.heap.size, 2, none⟩ (.int .i64 0)).setCell ⟨w.heap.size, 3, none⟩ (.int .i64 0)).setCell ⟨w.heap.size, 4, none⟩ (.int .i64 0)).setCell ⟨w.heap.size, 5, none⟩ (.int .u32 0)).setCell ⟨w.heap.size, 6, none⟩ (.int .i64 0)).setCell ⟨w.heap.size, 7, none⟩ (.bool false)).setCell ⟨w.heap.size, 8, none⟩ (.slice none 0 0))) := Off.trans (Off.trans (Off.trans (Off.trans (Off.trans (Off.trans (Off.trans (Off.trans (Off.trans (Off.refl [w.heap.size] w5) (Off.setCell w.heap.size 0 _ _)) (Off.setCell w.heap.size 1 _ _)) (Off.setCell w.heap.size 2 _ _)) (Off.setCell w.heap.size 3 _ _)) (Off.setCell w.heap.size 4 _ _)) (Off.setCell w.heap.size 5 _ _)) (Off.setCell w.heap.size 6 _ _)) (Off.setCell w.heap.size 7 _ _)) (Off.setCell w.heap.size 8 _ _)
            have HB : Hid (_) := r5
            clear r1 r2 r3 r4 r5 fq
            go_wp2_with fail
            refine bodyPost_ret (v := .tuple #[.agg #[.int .i64 0, .int .i64 0, .int .i64 0, .int .i64 0, .int .i64 0, .int .u32 0, .int .i64 0, .bool false, .slice none 0 0], .int .i64 203]) (by simp [results, Tryd.results25, go_sem, z0, z1, z2, z3, z4, z5, z6, z7, z8]) rfl ?_
            exact HP.out.1 (HJ.out.2.2.1 HO5.out) _ (HO.out.below HB.out (by simp) HB.out.size)
          | true =>
            clear fq
            go_wp2_with fail
            go_roundw
            case rel =>
              have e1 := HJ.out.2.2.2.2.1
              have e2 := HJ.out.2.2.2.1
              have e4 := HJ.out.2.2.2.2.2.2.2
              have e3 : i1 - 1 = j + 1 := by omega
              refine ⟨i1, by omega, by omega, rfl, ?_⟩
              rw [e3, HJ.out.1, HJ.out.2.1]
              exact ⟨HS5.out, HO5.out⟩
            case measure =>
              have e1 := HJ.out.2.2.2.2.1
              simp [natV]
              omega
        · have cq : wr.cell? ⟨w.heap.size + 1, 7, none⟩ = some (.bool m.h) := HK.out.1.cell 7
          clear hBy
          obtain ⟨O1, hO1⟩ : ∃ y, vlO lw = y := ⟨_, rfl⟩
          rw [hO1] at hV
          clear hO1
          have eX : ((tx lw).toList == [104, 111, 108, 100]) = (lw == [104, 111, 108, 100]) := by rw [tx_list]
          obtain ⟨O, hO⟩ : ∃ y, (lw == [104, 111, 108, 100]) = y := ⟨_, rfl⟩
          have HO5 : Hid (lwO 104 lw = O) := hO
          obtain ⟨X, hX⟩ : ∃ y, tx lw = y := ⟨_, rfl⟩
          rw [hX] at eX cW hV
          rw [hO] at eX
          obtain ⟨w5, hw5⟩ : ∃ y, wr.setCell ⟨w.heap.size + 1, 7, none⟩ (.bool true) = y := ⟨_, rfl⟩
          have HS5 : Hid (RdS w w5 (m.put 104 lw)) := by
            rw [← hw5]
            exact RdS.set 7 _ HK.out.1 HK.out.2.1 HK.out.2.2.1 HK.out.2.2.2.1 HK.out.2.2.2.2 rfl rfl rfl
          clear hX hO
          go_wp2_with fail
          refine (hV _).mono ?_
          rintro r w' ⟨rfl, hw⟩
          rw [hw]
          clear hw hV
          go_upto_region 40 with fail
          try rw [hw5]
          clear hw5 cq s1
          cases O with
          | false =>
            obtain ⟨a5, c5, r1, r2, r3, r4, r5⟩ := HS5.out
            have z0 : w5.cell? ⟨w.heap.size, 0, none⟩ = some (.int .i64 0) := r4.cell 0
            have z1 : w5.cell? ⟨w.heap.size, 1, none⟩ = some (.int .i64 0) := r4.cell 1
            have z2 : w5.cell? ⟨w.heap.size, 2, none⟩ = some (.int .i64 0) := r4.cell 2
            have z3 : w5.cell? ⟨w.heap.size, 3, none⟩ = some (.int .i64 0) := r4.cell 3
            have z4 : w5.cell? ⟨w.heap.size, 4, none⟩ = some (.int .i64 0) := r4.cell 4
            have z5 : w5.cell? ⟨w.heap.size, 5, none⟩ = some (.int .u32 0) := r4.cell 5
            have z6 : w5.cell? ⟨w.heap.size, 6, none⟩ = some (.int .i64 0) := r4.cell 6
            have z7 : w5.cell? ⟨w.heap.size, 7, none⟩ = some (.bool false) := r4.cell 7
            have z8 : w5.cell? ⟨w.heap.size, 8, none⟩ = some (.slice none 0 0) := r4.cell 8
            have fz := r4.fz
            have HO : Hid (Off [w.heap.size] w5 (((((((((w5.setCell ⟨w.heap.size, 0, none⟩ (.int .i64 0)).setCell ⟨w.heap.size, 1, none⟩ (.int .i64 0)).setCell ⟨w.heap.size, 2, none⟩ (.int .i64 0)).setCell ⟨w.heap.size, 3, none⟩ (.int .i64 0)).setCell ⟨w.heap.size, 4, none⟩ (.int .i64 0)).setCell ⟨w.heap.size, 5, none⟩ (.int .u32 0)).setCell ⟨w.heap.size, 6, none⟩ (.int .i64 0)).setCell ⟨w.heap.size, 7, none⟩ (.bool false)).setCell ⟨w.heap.size, 8, none⟩ (.slice none 0 0))) := Off.trans (Off.trans (Off.trans (Off.trans (Off.trans (Off.trans (Off.trans (Off.trans (Off.trans (Off.refl [w.heap.size] w5) (Off.setCell w.heap.size 0 _ _)) (Off.setCell w.heap.size 1 _ _)) (Off.setCell w.heap.size 2 _ _)) (Off.setCell w.heap.size 3 _ _)) (Off.setCell w.heap.size 4 _ _)) (Off.setCell w.heap.size 5 _ _)) (Off.setCell w.heap.size 6 _ _)) (Off.setCell w.heap.size 7 _ _)) (Off.setCell w.heap.size 8 _ _)
            have HB : Hid (_) := r5
            clear r1 r2 r3 r4 r5 fq
            go_wp2_with fail
            refine bodyPost_ret (v := .tuple #[.agg #[.int .i64 0, .int .i64 0, .int .i64 0, .int .i64 0, .int .i64 0, .int .u32 0, .int .i64 0, .bool false, .slice none 0 0], .int .i64 203]) (by simp [results, Tryd.results25, go_sem, z0, z1, z2, z3, z4, z5, z6, z7, z8]) rfl ?_
            exact HP.out.1 (HJ.out.2.2.1 HO5.out) _ (HO.out.below HB.out (by simp) HB.out.size)
          | true =>
            clear fq
            go_wp2_with fail
            go_roundw
            case rel =>
              have e1 := HJ.out.2.2.2.2.1
              have e2 := HJ.out.2.2.2.1
              have e4 := HJ.out.2.2.2.2.2.2.2
              have e3 : i1 - 1 = j + 1 := by omega
              refine ⟨i1, by omega, by omega, rfl, ?_⟩
              rw [e3, HJ.out.1, HJ.out.2.1]
              exact ⟨HS5.out, HO5.out⟩
            case measure =>
              have e1 := HJ.out.2.2.2.2.1
              simp [natV]
              omega
      · obtain rfl : i = N := by omega
        have hlt' : ¬ ((i : Nat) : Int) < ((i : Nat) : Int) := by omega
        have ej : i - 1 = n := by have := HN.out; omega
        rw [ej] at HI
        have hgd := HP.out.2
        obtain ⟨m, hm⟩ : ∃ y, mvF FF R M0 n = y := ⟨_, rfl⟩
        rw [hm] at HI hgd
        have HGd : Hid (_) := hgd HI.out.2
        obtain ⟨a, cc, k1, k2, k3, k4, k5⟩ := HI.out.1
        have p0 : wr.cell? ⟨w.heap.size + 1, 0, none⟩ = some (.int .i64 m.k) := k1.cell 0
        have p1 : wr.cell? ⟨w.heap.size + 1, 1, none⟩ = some (.int .i64 m.c) := k1.cell 1
        have p2 : wr.cell? ⟨w.heap.size + 1, 2, none⟩ = some (.int .i64 m.s) := k1.cell 2
        have p3 : wr.cell? ⟨w.heap.size + 1, 3, none⟩ = some (.int .i64 m.f) := k1.cell 3
        have p4 : wr.cell? ⟨w.heap.size + 1, 4, none⟩ = some (.int .i64 m.a) := k1.cell 4
        have p5 : wr.cell? ⟨w.heap.size + 1, 5, none⟩ = some (.int .u32 (m.w : Nat)) := k1.cell 5
        have p6 : wr.cell? ⟨w.heap.size + 1, 6, none⟩ = some (.int .i64 m.n) := k1.cell 6
        have p7 : wr.cell? ⟨w.heap.size + 1, 7, none⟩ = some (.bool m.h) := k1.cell 7
        have p8 : wr.cell? ⟨w.heap.size + 1, 8, none⟩ = some (.slice a m.l cc) := k1.cell 8
        have z0 : wr.cell? ⟨w.heap.size, 0, none⟩ = some (.int .i64 0) := k4.cell 0
        have z1 : wr.cell? ⟨w.heap.size, 1, none⟩ = some (.int .i64 0) := k4.cell 1
        have z2 : wr.cell? ⟨w.heap.size, 2, none⟩ = some (.int .i64 0) := k4.cell 2
        have z3 : wr.cell? ⟨w.heap.size, 3, none⟩ = some (.int .i64 0) := k4.cell 3
        have z4 : wr.cell? ⟨w.heap.size, 4, none⟩ = some (.int .i64 0) := k4.cell 4
        have z5 : wr.cell? ⟨w.heap.size, 5, none⟩ = some (.int .u32 0) := k4.cell 5
        have z6 : wr.cell? ⟨w.heap.size, 6, none⟩ = some (.int .i64 0) := k4.cell 6
        have z7 : wr.cell? ⟨w.heap.size, 7, none⟩ = some (.bool false) := k4.cell 7
        have z8 : wr.cell? ⟨w.heap.size, 8, none⟩ = some (.slice none 0 0) := k4.cell 8
        have fz := k4.fz
        have HO : Hid (Off [w.heap.size] wr (((((((((wr.setCell ⟨w.heap.size, 0, none⟩ (.int .i64 m.k)).setCell ⟨w.heap.size, 1, none⟩ (.int .i64 m.c)).setCell ⟨w.heap.size, 2, none⟩ (.int .i64 m.s)).setCell ⟨w.heap.size, 3, none⟩ (.int .i64 m.f)).setCell ⟨w.heap.size, 4, none⟩ (.int .i64 m.a)).setCell ⟨w.heap.size, 5, none⟩ (.int .u32 (m.w : Nat))).setCell ⟨w.heap.size, 6, none⟩ (.int .i64 m.n)).setCell ⟨w.heap.size, 7, none⟩ (.bool m.h)).setCell ⟨w.heap.size, 8, none⟩ (.slice a m.l cc))) := Off.trans (Off.trans (Off.trans (Off.trans (Off.trans (Off.trans (Off.trans (Off.trans (Off.trans (Off.refl [w.heap.size] wr) (Off.setCell w.heap.size 0 _ _)) (Off.setCell w.heap.size 1 _ _)) (Off.setCell w.heap.size 2 _ _)) (Off.setCell w.heap.size 3 _ _)) (Off.setCell w.heap.size 4 _ _)) (Off.setCell w.heap.size 5 _ _)) (Off.setCell w.heap.size 6 _ _)) (Off.setCell w.heap.size 7 _ _)) (Off.setCell w.heap.size 8 _ _)
        have HB : Hid (_) := And.intro k5 (And.intro k2 k3)
        clear k1 k2 k3 k4 k5 hm hgd HI ej
        go_wp2_with fail
        refine bodyPost_ret (v := .tuple #[.agg #[.int .i64 m.k, .int .i64 m.c, .int .i64 m.s, .int .i64 m.f, .int .i64 m.a, .int .u32 (m.w : Nat), .int .i64 m.n, .bool m.h, .slice a m.l cc], .int .i64 0]) (by simp [results, Tryd.results25, go_sem, z0, z1, z2, z3, z4, z5, z6, z7, z8]) rfl ?_
        refine HGd.out a cc _ (HB.out.2.1.offS HO.out (fun y hy hn => ?_)) (HO.out.below HB.out.1 (by simp) HB.out.1.size) (fun y hy hn => by have := HB.out.2.2 y hy hn; omega)
        have := HB.out.2.2 y hy hn
        simp
        omega
  · have d6 : decide (((n : Nat) : Int) < ((FX.size : Nat) : Int)) = false := by simp; omega
    have d7 : decide (n < FX.size) = false := by simp; omega
    go_enter Tryd.func25, Tryd.ntmps25
    go_wp2_with fail
    refine (hfo _).mono ?_
    rintro r w' ⟨rfl, hw⟩
    rw [hw]
    clear hw
    go_wp2_with fail
    go_loopw [8, 9, 10, 11, 45, 46, 47, 48, 49, 50, 51, 52, 53, 54, 55, 56, 57, 58, 59, 60, 61, 62, 63, 64, 65, 66, 67, 68, 69, 70, 71, 72, 73, 74, 75, 76, 77, 78, 79, 80, 81, 82, 83, 84, 85, 86, 87, 88, 89, 90, 91, 92, 93, 94, 95, 96, 97, 98, 99, 100, 101, 102, 103, 104, 105, 106, 107, 108, 109, 110, 111, 112] (fun c _ _ _ _ _ _ _ _ _ _ _ _ _ _ _ _ _ _ _ _ _ _ _ _ _ _ _ _ _ _ _ _ _ _ _ _ _ _ _ _ _ _ _ _ _ _ _ _ _ _ _ _ _ _ _ _ _ _ _ _ _ _ _ _ _ _ _ _ _ _ _ wr => ∃ i : Nat, 1 ≤ i ∧ i ≤ N ∧ c = .int .i64 ((i : Nat) : Int) ∧ Hid (RdS w wr (mvF FF R M0 (i - 1)) ∧ okF FF R (i - 1) = true)) (fun c _ _ _ _ _ _ _ _ _ _ _ _ _ _ _ _ _ _ _ _ _ _ _ _ _ _ _ _ _ _ _ _ _ _ _ _ _ _ _ _ _ _ _ _ _ _ _ _ _ _ _ _ _ _ _ _ _ _ _ _ _ _ _ _ _ _ _ _ _ _ _ _ => N - natV c)
    case atStart => exact ⟨1, by omega, by have := HN.out; omega, rfl, HI0.out, rfl⟩
    case round =>
      obtain ⟨i, hi1, hi, rfl, HI⟩ := hrel
      clear hw0A hfo q0 q2 q4 HI0
      try clear q1
      by_cases hlt : i < N
      · have hlt' : ((i : Nat) : Int) < ((N : Nat) : Int) := by omega
        obtain ⟨j, hj⟩ : ∃ y, i - 1 = y := ⟨_, rfl⟩
        obtain ⟨i1, hi1'⟩ : ∃ y, i + 1 = y := ⟨_, rfl⟩
        have hsub : IntKind.i64.wrap (((i : Nat) : Int) - 1) = ((j : Nat) : Int) := by rw [IntKind.wrap_i64]; have := HN.out; omega
        have hadd : IntKind.i64.wrap (((i : Nat) : Int) + 1) = ((i1 : Nat) : Int) := by rw [IntKind.wrap_i64]; have := HN.out; omega
        have hnj : j < n := by have := HN.out; omega
        have cW0 := HC.out.1 i hi1 hlt
        have s1 : ∀ w, (Instr.index 9 (.string FX) (.int .i64 ((j : Nat) : Int))).run Tryd.prog w = .ok (.int .u8 ((ltr FF j : Nat) : Int)) w := HC.out.2.2 j (by have := HF.out; omega)
        have hl8 := HC.out.2.1 j (by have := HF.out; omega)
        rw [hj] at HI cW0
        obtain ⟨⟨a, cc, k1, k2, k3, k4, k5⟩, k6⟩ := HI.out
        have cW := cellB cW0 k5
        have hV := fun wx => rvalue (R j) wx
        have hBy : ∀ wx, Calls Tryd.prog 50 #[.string (tx (R j))] wx fun r w' => ∃ v, r = .returned (.tuple #[v, .bool (dtO (R j))]) ∧ Hid ((∃ a cc, v = .slice a (dtN (R j)) cc ∧ Row8 w' a (dtN (R j)) cc (dtB (R j)) ∧ ∀ y, a = some y → 0 < dtN (R j) → wx.heap.size ≤ y.block) ∧ Below wx.heap.size wx w') := fun wx => by
          refine (rbytes (R j) wx).mono ?_
          rintro r w' ⟨v, rfl, hv⟩
          exact ⟨v, rfl, data_row hv.out, hv.out.2.2⟩
        have vt := vlV_lt (R j)
        have eput : mvF FF R M0 (j + 1) = (mvF FF R M0 j).put (ltr FF j) (R j) := rfl
        have eok : okF FF R (j + 1) = (okF FF R j && lwO (ltr FF j) (R j)) := rfl
        have no : lwO (ltr FF j) (R j) = false → okF FF R n = false := okF_no n j hnj
        obtain ⟨m, hm⟩ : ∃ y, mvF FF R M0 j = y := ⟨_, rfl⟩
        obtain ⟨lc, hlc⟩ : ∃ y, ltr FF j = y := ⟨_, rfl⟩
        obtain ⟨lw, hlw⟩ : ∃ y, R j = y := ⟨_, rfl⟩
        rw [hm] at k1 k2 k3 eput
        rw [hlc] at s1 hl8 eput eok no
        rw [hlw] at cW hV hBy vt eput eok no
        rw [k6, Bool.true_and] at eok
        obtain ⟨V, hVe⟩ : ∃ y, vlV lw = y := ⟨_, rfl⟩
        rw [hVe] at hV vt
        have HJ : Hid (_) := And.intro eput (And.intro eok (And.intro no (And.intro hj (And.intro hi1' (And.intro hnj (And.intro hVe hi1))))))
        have HK : Hid (_) := And.intro k1 (And.intro k2 (And.intro k3 (And.intro k4 k5)))
        have fq := k1.fz
        clear k1 k2 k3 k4 k5 k6 hm hlc hlw hj hi1' hnj cW0 eput eok no hVe HI hi1 hi
        have wu : IntKind.u32.wrap ((V : Nat) : Int) = ((V : Nat) : Int) := by rw [IntKind.wrap_u32]; omega
        rcases hl8 with rfl | rfl | rfl | rfl | rfl | rfl | rfl | rfl
        · have cq : wr.cell? ⟨w.heap.size + 1, 1, none⟩ = some (.int .i64 m.c) := HK.out.1.cell 1
          obtain ⟨O, hO⟩ : ∃ y, vlO lw = y := ⟨_, rfl⟩
          rw [hO] at hV
          have HO5 : Hid (lwO 99 lw = O) := hO
          obtain ⟨w5, hw5⟩ : ∃ y, wr.setCell ⟨w.heap.size + 1, 1, none⟩ (.int .i64 ((V : Nat) : Int)) = y := ⟨_, rfl⟩
          have HS5 : Hid (RdS w w5 (m.put 99 lw)) := by
            rw [← hw5, ← HJ.out.2.2.2.2.2.2.1]
            exact RdS.set 1 _ HK.out.1 HK.out.2.1 HK.out.2.2.1 HK.out.2.2.2.1 HK.out.2.2.2.2 rfl rfl rfl
          clear hO hBy
          go_wp2_with fail
          refine (hV _).mono ?_
          rintro r w' ⟨rfl, hw⟩
          rw [hw]
          clear hw hV
          go_upto_region 40 with fail
          try rw [hw5]
          clear hw5 cq s1
          cases O with
          | false =>
            obtain ⟨a5, c5, r1, r2, r3, r4, r5⟩ := HS5.out
            have z0 : w5.cell? ⟨w.heap.size, 0, none⟩ = some (.int .i64 0) := r4.cell 0
            have z1 : w5.cell? ⟨w.heap.size, 1, none⟩ = some (.int .i64 0) := r4.cell 1
            have z2 : w5.cell? ⟨w.heap.size, 2, none⟩ = some (.int .i64 0) := r4.cell 2
            have z3 : w5.cell? ⟨w.heap.size, 3, none⟩ = some (.int .i64 0) := r4.cell 3
            have z4 : w5.cell? ⟨w.heap.size, 4, none⟩ = some (.int .i64 0) := r4.cell 4
            have z5 : w5.cell? ⟨w.heap.size, 5, none⟩ = some (.int .u32 0) := r4.cell 5
            have z6 : w5.cell? ⟨w.heap.size, 6, none⟩ = some (.int .i64 0) := r4.cell 6
            have z7 : w5.cell? ⟨w.heap.size, 7, none⟩ = some (.bool false) := r4.cell 7
            have z8 : w5.cell? ⟨w.heap.size, 8, none⟩ = some (.slice none 0 0) := r4.cell 8
            have fz := r4.fz
            have HO : Hid (Off [w.heap.size] w5 (((((((((w5.setCell ⟨w.heap.size, 0, none⟩ (.int .i64 0)).setCell ⟨w.heap.size, 1, none⟩ (.int .i64 0)).setCell ⟨w.heap.size, 2, none⟩ (.int .i64 0)).setCell ⟨w.heap.size, 3, none⟩ (.int .i64 0)).setCell ⟨w.heap.size, 4, none⟩ (.int .i64 0)).setCell ⟨w.heap.size, 5, none⟩ (.int .u32 0)).setCell ⟨w.heap.size, 6, none⟩ (.int .i64 0)).setCell ⟨w.heap.size, 7, none⟩ (.bool false)).setCell ⟨w.heap.size, 8, none⟩ (.slice none 0 0))) := Off.trans (Off.trans (Off.trans (Off.trans (Off.trans (Off.trans (Off.trans (Off.trans (Off.trans (Off.refl [w.heap.size] w5) (Off.setCell w.heap.size 0 _ _)) (Off.setCell w.heap.size 1 _ _)) (Off.setCell w.heap.size 2 _ _)) (Off.setCell w.heap.size 3 _ _)) (Off.setCell w.heap.size 4 _ _)) (Off.setCell w.heap.size 5 _ _)) (Off.setCell w.heap.size 6 _ _)) (Off.setCell w.heap.size 7 _ _)) (Off.setCell w.heap.size 8 _ _)
            have HB : Hid (_) := r5
            clear r1 r2 r3 r4 r5 fq
            go_wp2_with fail
            refine bodyPost_ret (v := .tuple #[.agg #[.int .i64 0, .int .i64 0, .int .i64 0, .int .i64 0, .int .i64 0, .int .u32 0, .int .i64 0, .bool false, .slice none 0 0], .int .i64 203]) (by simp [results, Tryd.results25, go_sem, z0, z1, z2, z3, z4, z5, z6, z7, z8]) rfl ?_
            exact HP.out.1 (HJ.out.2.2.1 HO5.out) _ (HO.out.below HB.out (by simp) HB.out.size)
          | true =>
            clear fq
            go_wp2_with fail
            go_roundw
            case rel =>
              have e1 := HJ.out.2.2.2.2.1
              have e2 := HJ.out.2.2.2.1
              have e4 := HJ.out.2.2.2.2.2.2.2
              have e3 : i1 - 1 = j + 1 := by omega
              refine ⟨i1, by omega, by omega, rfl, ?_⟩
              rw [e3, HJ.out.1, HJ.out.2.1]
              exact ⟨HS5.out, HO5.out⟩
            case measure =>
              have e1 := HJ.out.2.2.2.2.1
              simp [natV]
              omega
        · have cq : wr.cell? ⟨w.heap.size + 1, 3, none⟩ = some (.int .i64 m.f) := HK.out.1.cell 3
          obtain ⟨O, hO⟩ : ∃ y, vlO lw = y := ⟨_, rfl⟩
          rw [hO] at hV
          have HO5 : Hid (lwO 102 lw = O) := hO
          obtain ⟨w5, hw5⟩ : ∃ y, wr.setCell ⟨w.heap.size + 1, 3, none⟩ (.int .i64 ((V : Nat) : Int)) = y := ⟨_, rfl⟩
          have HS5 : Hid (RdS w w5 (m.put 102 lw)) := by
            rw [← hw5, ← HJ.out.2.2.2.2.2.2.1]
            exact RdS.set 3 _ HK.out.1 HK.out.2.1 HK.out.2.2.1 HK.out.2.2.2.1 HK.out.2.2.2.2 rfl rfl rfl
          clear hO hBy
          go_wp2_with fail
          refine (hV _).mono ?_
          rintro r w' ⟨rfl, hw⟩
          rw [hw]
          clear hw hV
          go_upto_region 40 with fail
          try rw [hw5]
          clear hw5 cq s1
          cases O with
          | false =>
            obtain ⟨a5, c5, r1, r2, r3, r4, r5⟩ := HS5.out
            have z0 : w5.cell? ⟨w.heap.size, 0, none⟩ = some (.int .i64 0) := r4.cell 0
            have z1 : w5.cell? ⟨w.heap.size, 1, none⟩ = some (.int .i64 0) := r4.cell 1
            have z2 : w5.cell? ⟨w.heap.size, 2, none⟩ = some (.int .i64 0) := r4.cell 2
            have z3 : w5.cell? ⟨w.heap.size, 3, none⟩ = some (.int .i64 0) := r4.cell 3
            have z4 : w5.cell? ⟨w.heap.size, 4, none⟩ = some (.int .i64 0) := r4.cell 4
            have z5 : w5.cell? ⟨w.heap.size, 5, none⟩ = some (.int .u32 0) := r4.cell 5
            have z6 : w5.cell? ⟨w.heap.size, 6, none⟩ = some (.int .i64 0) := r4.cell 6
            have z7 : w5.cell? ⟨w.heap.size, 7, none⟩ = some (.bool false) := r4.cell 7
            have z8 : w5.cell? ⟨w.heap.size, 8, none⟩ = some (.slice none 0 0) := r4.cell 8
            have fz := r4.fz
            have HO : Hid (Off [w.heap.size] w5 (((((((((w5.setCell ⟨w.heap.size, 0, none⟩ (.int .i64 0)).setCell ⟨w.heap.size, 1, none⟩ (.int .i64 0)).setCell ⟨w.heap.size, 2, none⟩ (.int .i64 0)).setCell ⟨w.heap.size, 3, none⟩ (.int .i64 0)).setCell ⟨w.heap.size, 4, none⟩ (.int .i64 0)).setCell ⟨w.heap.size, 5, none⟩ (.int .u32 0)).setCell ⟨w.heap.size, 6, none⟩ (.int .i64 0)).setCell ⟨w.heap.size, 7, none⟩ (.bool false)).setCell ⟨w.heap.size, 8, none⟩ (.slice none 0 0))) := Off.trans (Off.trans (Off.trans (Off.trans (Off.trans (Off.trans (Off.trans (Off.trans (Off.trans (Off.refl [w.heap.size] w5) (Off.setCell w.heap.size 0 _ _)) (Off.setCell w.heap.size 1 _ _)) (Off.setCell w.heap.size 2 _ _)) (Off.setCell w.heap.size 3 _ _)) (Off.setCell w.heap.size 4 _ _)) (Off.setCell w.heap.size 5 _ _)) (Off.setCell w.heap.size 6 _ _)) (Off.setCell w.heap.size 7 _ _)) (Off.setCell w.heap.size 8 _ _)
            have HB : Hid (_) := r5
            clear r1 r2 r3 r4 r5 fq
            go_wp2_with fail
            refine bodyPost_ret (v := .tuple #[.agg #[.int .i64 0, .int .i64 0, .int .i64 0, .int .i64 0, .int .i64 0, .int .u32 0, .int .i64 0, .bool false, .slice none 0 0], .int .i64 203]) (by simp [results, Tryd.results25, go_sem, z0, z1, z2, z3, z4, z5, z6, z7, z8]) rfl ?_
            exact HP.out.1 (HJ.out.2.2.1 HO5.out) _ (HO.out.below HB.out (by simp) HB.out.size)
          | true =>
            clear fq
            go_wp2_with fail
            go_roundw
            case rel =>
              have e1 := HJ.out.2.2.2.2.1
              have e2 := HJ.out.2.2.2.1
              have e4 := HJ.out.2.2.2.2.2.2.2
              have e3 : i1 - 1 = j + 1 := by omega
              refine ⟨i1, by omega, by omega, rfl, ?_⟩
              rw [e3, HJ.out.1, HJ.out.2.1]
              exact ⟨HS5.out, HO5.out⟩
            case measure =>
              have e1 := HJ.out.2.2.2.2.1
              simp [natV]
              omega
        · have cq : wr.cell? ⟨w.heap.size + 1, 4, none⟩ = some (.int .i64 m.a) := HK.out.1.cell 4
          obtain ⟨O, hO⟩ : ∃ y, vlO lw = y := ⟨_, rfl⟩
          rw [hO] at hV
          have HO5 : Hid (lwO 97 lw = O) := hO
          obtain ⟨w5, hw5⟩ : ∃ y, wr.setCell ⟨w.heap.size + 1, 4, none⟩ (.int .i64 ((V : Nat) : Int)) = y := ⟨_, rfl⟩
          have HS5 : Hid (RdS w w5 (m.put 97 lw)) := by
            rw [← hw5, ← HJ.out.2.2.2.2.2.2.1]
            exact RdS.set 4 _ HK.out.1 HK.out.2.1 HK.out.2.2.1 HK.out.2.2.2.1 HK.out.2.2.2.2 rfl rfl rfl
          clear hO hBy
          go_wp2_with fail
          refine (hV _).mono ?_
          rintro r w' ⟨rfl, hw⟩
          rw [hw]
          clear hw hV
          go_upto_region 40 with fail
          try rw [hw5]
          clear hw5 cq s1
          cases O with
          | false =>
            obtain ⟨a5, c5, r1, r2, r3, r4, r5⟩ := HS5.out
            have z0 : w5.cell? ⟨w.heap.size, 0, none⟩ = some (.int .i64 0) := r4.cell 0
            have z1 : w5.cell? ⟨w.heap.size, 1, none⟩ = some (.int .i64 0) := r4.cell 1
            have z2 : w5.cell? ⟨w.heap.size, 2, none⟩ = some (.int .i64 0) := r4.cell 2
            have z3 : w5.cell? ⟨w.heap.size, 3, none⟩ = some (.int .i64 0) := r4.cell 3
            have z4 : w5.cell? ⟨w.heap.size, 4, none⟩ = some (.int .i64 0) := r4.cell 4
            have z5 : w5.cell? ⟨w.heap.size, 5, none⟩ = some (.int .u32 0) := r4.cell 5
            have z6 : w5.cell? ⟨w.heap.size, 6, none⟩ = some (.int .i64 0) := r4.cell 6
            have z7 : w5.cell? ⟨w.heap.size, 7, none⟩ = some (.bool false) := r4.cell 7
            have z8 : w5.cell? ⟨w.heap.size, 8, none⟩ = some (.slice none 0 0) := r4.cell 8
            have fz := r4.fz
            have HO : Hid (Off [w.heap.size] w5 (((((((((w5.setCell ⟨w.heap.size, 0, none⟩ (.int .i64 0)).setCell ⟨w.heap.size, 1, none⟩ (.int .i64 0)).setCell ⟨w.heap.size, 2, none⟩ (.int .i64 0)).setCell ⟨w.heap.size, 3, none⟩ (.int .i64 0)).setCell ⟨w.heap.size, 4, none⟩ (.int .i64 0)).setCell ⟨w.heap.size, 5, none⟩ (.int .u32 0)).setCell ⟨w.heap.size, 6, none⟩ (.int .i64 0)).setCell ⟨w.heap.size, 7, none⟩ (.bool false)).setCell ⟨w.heap.size, 8, none⟩ (.slice none 0 0))) := Off.trans (Off.trans (Off.trans (Off.trans (Off.trans (Off.trans (Off.trans (Off.trans (Off.trans (Off.refl [w.heap.size] w5) (Off.setCell w.heap.size 0 _ _)) (Off.setCell w.heap.size 1 _ _)) (Off.setCell w.heap.size 2 _ _)) (Off.setCell w.heap.size 3 _ _)) (Off.setCell w.heap.size 4 _ _)) (Off.setCell w.heap.size 5 _ _)) (Off.setCell w.heap.size 6 _ _)) (Off.setCell w.heap.size 7 _ _)) (Off.setCell w.heap.size 8 _ _)
            have HB : Hid (_) := r5
            clear r1 r2 r3 r4 r5 fq
            go_wp2_with fail
            refine bodyPost_ret (v := .tuple #[.agg #[.int .i64 0, .int .i64 0, .int .i64 0, .int .i64 0, .int .i64 0, .int .u32 0, .int .i64 0, .bool false, .slice none 0 0], .int .i64 203]) (by simp [results, Tryd.results25, go_sem, z0, z1, z2, z3, z4, z5, z6, z7, z8]) rfl ?_
            exact HP.out.1 (HJ.out.2.2.1 HO5.out) _ (HO.out.below HB.out (by simp) HB.out.size)
          | true =>
            clear fq
            go_wp2_with fail
            go_roundw
            case rel =>
              have e1 := HJ.out.2.2.2.2.1
              have e2 := HJ.out.2.2.2.1
              have e4 := HJ.out.2.2.2.2.2.2.2
              have e3 : i1 - 1 = j + 1 := by omega
              refine ⟨i1, by omega, by omega, rfl, ?_⟩
              rw [e3, HJ.out.1, HJ.out.2.1]
              exact ⟨HS5.out, HO5.out⟩
            case measure =>
              have e1 := HJ.out.2.2.2.2.1
              simp [natV]
              omega
        · have cq : wr.cell? ⟨w.heap.size + 1, 5, none⟩ = some (.int .u32 (m.w : Nat)) := HK.out.1.cell 5
          obtain ⟨O, hO⟩ : ∃ y, vlO lw = y := ⟨_, rfl⟩
          rw [hO] at hV
          have HO5 : Hid (lwO 119 lw = O) := hO
          obtain ⟨w5, hw5⟩ : ∃ y, wr.setCell ⟨w.heap.size + 1, 5, none⟩ (.int .u32 ((V : Nat) : Int)) = y := ⟨_, rfl⟩
          have HS5 : Hid (RdS w w5 (m.put 119 lw)) := by
            rw [← hw5, ← HJ.out.2.2.2.2.2.2.1]
            exact RdS.set 5 _ HK.out.1 HK.out.2.1 HK.out.2.2.1 HK.out.2.2.2.1 HK.out.2.2.2.2 rfl rfl rfl
          clear hO hBy
          go_wp2_with fail
          refine (hV _).mono ?_
          rintro r w' ⟨rfl, hw⟩
          rw [hw]
          clear hw hV
          go_upto_region 40 with fail
          try rw [hw5]
          clear hw5 cq s1
          cases O with
          | false =>
            obtain ⟨a5, c5, r1, r2, r3, r4, r5⟩ := HS5.out
            have z0 : w5.cell? ⟨w.heap.size, 0, none⟩ = some (.int .i64 0) := r4.cell 0
            have z1 : w5.cell? ⟨w.heap.size, 1, none⟩ = some (.int .i64 0) := r4.cell 1
            have z2 : w5.cell? ⟨w.heap.size, 2, none⟩ = some (.int .i64 0) := r4.cell 2
            have z3 : w5.cell? ⟨w.heap.size, 3, none⟩ = some (.int .i64 0) := r4.cell 3
            have z4 : w5.cell? ⟨w.heap.size, 4, none⟩ = some (.int .i64 0) := r4.cell 4
            have z5 : w5.cell? ⟨w.heap.size, 5, none⟩ = some (.int .u32 0) := r4.cell 5
            have z6 : w5.cell? ⟨w.heap.size, 6, none⟩ = some (.int .i64 0) := r4.cell 6
            have z7 : w5.cell? ⟨w.heap.size, 7, none⟩ = some (.bool false) := r4.cell 7
            have z8 : w5.cell? ⟨w.heap.size, 8, none⟩ = some (.slice none 0 0) := r4.cell 8
            have fz := r4.fz
            have HO : Hid (Off [w.heap.size] w5 (((((((((w5.setCell ⟨w.heap.size, 0, none⟩ (.int .i64 0)).setCell ⟨w.heap.size, 1, none⟩ (.int .i64 0)).setCell ⟨w.heap.size, 2, none⟩ (.int .i64 0)).setCell ⟨w.heap.size, 3, none⟩ (.int .i64 0)).setCell ⟨w.heap.size, 4, none⟩ (.int .i64 0)).setCell ⟨w.heap.size, 5, none⟩ (.int .u32 0)).setCell ⟨w.heap.size, 6, none⟩ (.int .i64 0)).setCell ⟨w.heap.size, 7, none⟩ (.bool false)).setCell ⟨w.heap.size, 8, none⟩ (.slice none 0 0))) := Off.trans (Off.trans (Off.trans (Off.trans (Off.trans (Off.trans (Off.trans (Off.trans (Off.trans (Off.refl [w.heap.size] w5) (Off.setCell w.heap.size 0 _ _)) (Off.setCell w.heap.size 1 _ _)) (Off.setCell w.heap.size 2 _ _)) (Off.setCell w.heap.size 3 _ _)) (Off.setCell w.heap.size 4 _ _)) (Off.setCell w.heap.size 5 _ _)) (Off.setCell w.heap.size 6 _ _)) (Off.setCell w.heap.size 7 _ _)) (Off.setCell w.heap.size 8 _ _)
            have HB : Hid (_) := r5
            clear r1 r2 r3 r4 r5 fq
            go_wp2_with fail
            refine bodyPost_ret (v := .tuple #[.agg #[.int .i64 0, .int .i64 0, .int .i64 0, .int .i64 0, .int .i64 0, .int .u32 0, .int .i64 0, .bool false, .slice none 0 0], .int .i64 203]) (by simp [results, Tryd.results25, go_sem, z0, z1, z2, z3, z4, z5, z6, z7, z8]) rfl ?_
            exact HP.out.1 (HJ.out.2.2.1 HO5.out) _ (HO.out.below HB.out (by simp) HB.out.size)
          | true =>
            clear fq
            go_wp2_with fail
            go_roundw
            case rel =>
              have e1 := HJ.out.2.2.2.2.1
              have e2 := HJ.out.2.2.2.1
              have e4 := HJ.out.2.2.2.2.2.2.2
              have e3 : i1 - 1 = j + 1 := by omega
              refine ⟨i1, by omega, by omega, rfl, ?_⟩
              rw [e3, HJ.out.1, HJ.out.2.1]
              exact ⟨HS5.out, HO5.out⟩
            case measure =>
              have e1 := HJ.out.2.2.2.2.1
              simp [natV]
              omega
        · have cq : wr.cell? ⟨w.heap.size + 1, 6, none⟩ = some (.int .i64 m.n) := HK.out.1.cell 6
          obtain ⟨O, hO⟩ : ∃ y, vlO lw = y := ⟨_, rfl⟩
          rw [hO] at hV
          have HO5 : Hid (lwO 110 lw = O) := hO
          obtain ⟨w5, hw5⟩ : ∃ y, wr.setCell ⟨w.heap.size + 1, 6, none⟩ (.int .i64 ((V : Nat) : Int)) = y := ⟨_, rfl⟩
          have HS5 : Hid (RdS w w5 (m.put 110 lw)) := by
            rw [← hw5, ← HJ.out.2.2.2.2.2.2.1]
            exact RdS.set 6 _ HK.out.1 HK.out.2.1 HK.out.2.2.1 HK.out.2.2.2.1 HK.out.2.2.2.2 rfl rfl rfl
          clear hO hBy
          go_wp2_with fail
          refine (hV _).mono ?_
          rintro r w' ⟨rfl, hw⟩
          rw [hw]
          clear hw hV
          go_upto_region 40 with fail
          try rw [hw5]
          clear hw5 cq s1
          cases O with
          | false =>
            obtain ⟨a5, c5, r1, r2, r3, r4, r5⟩ := HS5.out
            have z0 : w5.cell? ⟨w.heap.size, 0, none⟩ = some (.int .i64 0) := r4.cell 0
            have z1 : w5.cell? ⟨w.heap.size, 1, none⟩ = some (.int .i64 0) := r4.cell 1
            have z2 : w5.cell? ⟨w.heap.size, 2, none⟩ = some (.int .i64 0) := r4.cell 2
            have z3 : w5.cell? ⟨w.heap.size, 3, none⟩ = some (.int .i64 0) := r4.cell 3
            have z4 : w5.cell? ⟨w.heap.size, 4, none⟩ = some (.int .i64 0) := r4.cell 4
            have z5 : w5.cell? ⟨w.heap.size, 5, none⟩ = some (.int .u32 0) := r4.cell 5
            have z6 : w5.cell? ⟨w.heap.size, 6, none⟩ = some (.int .i64 0) := r4.cell 6
            have z7 : w5.cell? ⟨w.heap.size, 7, none⟩ = some (.bool false) := r4.cell 7
            have z8 : w5.cell? ⟨w.heap.size, 8, none⟩ = some (.slice none 0 0) := r4.cell 8
            have fz := r4.fz
            have HO : Hid (Off [w.heap.size] w5 (((((((((w5.setCell ⟨w.heap.size, 0, none⟩ (.int .i64 0)).setCell ⟨w.heap.size, 1, none⟩ (.int .i64 0)).setCell ⟨w.heap.size, 2, none⟩ (.int .i64 0)).setCell ⟨w.heap.size, 3, none⟩ (.int .i64 0)).setCell ⟨w.heap.size, 4, none⟩ (.int .i64 0)).setCell ⟨w.heap.size, 5, none⟩ (.int .u32 0)).setCell ⟨w.heap.size, 6, none⟩ (.int .i64 0)).setCell ⟨w.heap.size, 7, none⟩ (.bool false)).setCell ⟨w.heap.size, 8, none⟩ (.slice none 0 0))) := Off.trans (Off.trans (Off.trans (Off.trans (Off.trans (Off.trans (Off.trans (Off.trans (Off.trans (Off.refl [w.heap.size] w5) (Off.setCell w.heap.size 0 _ _)) (Off.setCell w.heap.size 1 _ _)) (Off.setCell w.heap.size 2 _ _)) (Off.setCell w.heap.size 3 _ _)) (Off.setCell w.heap.size 4 _ _)) (Off.setCell w.heap.size 5 _ _)) (Off.setCell w.heap.size 6 _ _)) (Off.setCell w.heap.size 7 _ _)) (Off.setCell w.heap.size 8 _ _)
            have HB : Hid (_) := r5
            clear r1 r2 r3 r4 r5 fq
            go_wp2_with fail
            refine bodyPost_ret (v := .tuple #[.agg #[.int .i64 0, .int .i64 0, .int .i64 0, .int .i64 0, .int .i64 0, .int .u32 0, .int .i64 0, .bool false, .slice none 0 0], .int .i64 203]) (by simp [results, Tryd.results25, go_sem, z0, z1, z2, z3, z4, z5, z6, z7, z8]) rfl ?_
            exact HP.out.1 (HJ.out.2.2.1 HO5.out) _ (HO.out.below HB.out (by simp) HB.out.size)
          | true =>
            clear fq
            go_wp2_with fail
            go_roundw
            case rel =>
              have e1 := HJ.out.2.2.2.2.1
              have e2 := HJ.out.2.2.2.1
              have e4 := HJ.out.2.2.2.2.2.2.2
              have e3 : i1 - 1 = j + 1 := by omega
              refine ⟨i1, by omega, by omega, rfl, ?_⟩
              rw [e3, HJ.out.1, HJ.out.2.1]
              exact ⟨HS5.out, HO5.out⟩
            case measure =>
              have e1 := HJ.out.2.2.2.2.1
              simp [natV]
              omega
        · have cq : wr.cell? ⟨w.heap.size + 1, 2, none⟩ = some (.int .i64 m.s) := HK.out.1.cell 2
          have cq1 : (wr.setCell ⟨w.heap.size + 1, 2, none⟩ (.int .i64 1)).cell? ⟨w.heap.size + 1, 2, none⟩ = some (.int .i64 1) := (HK.out.1.set 2 _).cell 2
          have fq1 := (HK.out.1.set 2 (.int .i64 1)).fz
          clear hBy
          obtain ⟨O1, hO1⟩ : ∃ y, vlO lw = y := ⟨_, rfl⟩
          rw [hO1] at hV
          clear hO1
          have key : ∃ O S : _, Hid (lwO 115 lw = O) ∧ ((lw == [104]) = true ∧ (lw == [100]) = false ∧ O = true ∧ S = false ∨ (lw == [104]) = false ∧ (lw == [100]) = true ∧ O = true ∧ S = true ∨ (lw == [104]) = false ∧ (lw == [100]) = false ∧ O = false ∧ S = false) := by
            by_cases e1 : lw = [104]
            · exact ⟨true, false, (show lwO 115 lw = true by rw [e1]; rfl), .inl ⟨by rw [e1]; rfl, by rw [e1]; rfl, rfl, rfl⟩⟩
            by_cases e2 : lw = [100]
            · exact ⟨true, true, (show lwO 115 lw = true by rw [e2]; rfl), .inr (.inl ⟨by rw [e2]; rfl, by rw [e2]; rfl, rfl, rfl⟩)⟩
            · exact ⟨false, false, (show lwO 115 lw = false by simp [lwO, e1, e2]), .inr (.inr ⟨by simpa using e1, by simpa using e2, rfl, rfl⟩)⟩
          obtain ⟨O, S, HO5, key⟩ := key
          have eX1 : ((tx lw).toList == [104]) = (lw == [104]) := by rw [tx_list]
          have eX2 : ((tx lw).toList == [100]) = (lw == [100]) := by rw [tx_list]
          have put2 : (lw == [100]) = true → m.put 115 lw = { m with s := 2 } := fun h => by
            have : lw = [100] := by simpa using h
            simp [Mv.put, this]
          have put1 : (lw == [100]) = false → m.put 115 lw = { m with s := 1 } := fun h => by
            have : ¬ lw = [100] := by simpa using h
            simp [Mv.put, this]
          have HPt : Hid (_) := And.intro put2 put1
          obtain ⟨X, hX⟩ : ∃ y, tx lw = y := ⟨_, rfl⟩
          rw [hX] at eX1 eX2 cW hV
          clear hX put1 put2
          rcases key with ⟨y1, y2, rfl, rfl⟩ | ⟨y1, y2, rfl, rfl⟩ | ⟨y1, y2, rfl, rfl⟩
          · rw [y1] at eX1
            rw [y2] at eX2
            obtain ⟨w5, hw5⟩ : ∃ y, wr.setCell ⟨w.heap.size + 1, 2, none⟩ (.int .i64 1) = y := ⟨_, rfl⟩
            have HS5 : Hid (RdS w w5 (m.put 115 lw)) := by
              rw [← hw5, HPt.out.2 y2]
              exact RdS.set (m' := { m with s := 1 }) 2 _ HK.out.1 HK.out.2.1 HK.out.2.2.1 HK.out.2.2.2.1 HK.out.2.2.2.2 rfl rfl rfl
            clear y1 y2
            go_wp2_with fail
            refine (hV _).mono ?_
            rintro r w' ⟨rfl, hw⟩
            rw [hw]
            clear hw hV
            go_upto_region 40 with fail
            try rw [hw5]
            clear hw5 cq s1 cq1 fq1
            clear fq
            go_wp2_with fail
            go_roundw
            case rel =>
              have e1 := HJ.out.2.2.2.2.1
              have e2 := HJ.out.2.2.2.1
              have e4 := HJ.out.2.2.2.2.2.2.2
              have e3 : i1 - 1 = j + 1 := by omega
              refine ⟨i1, by omega, by omega, rfl, ?_⟩
              rw [e3, HJ.out.1, HJ.out.2.1]
              exact ⟨HS5.out, HO5.out⟩
            case measure =>
              have e1 := HJ.out.2.2.2.2.1
              simp [natV]
              omega
          · rw [y1] at eX1
            rw [y2] at eX2
            obtain ⟨w5, hw5⟩ : ∃ y, (wr.setCell ⟨w.heap.size + 1, 2, none⟩ (.int .i64 1)).setCell ⟨w.heap.size + 1, 2, none⟩ (.int .i64 2) = y := ⟨_, rfl⟩
            have HS5 : Hid (RdS w w5 (m.put 115 lw)) := by
              rw [← hw5, HPt.out.1 y2]
              obtain ⟨a5, c5, r1, r2, r3, r4, r5⟩ := RdS.set (m' := { m with s := 1 }) 2 (.int .i64 1) HK.out.1 HK.out.2.1 HK.out.2.2.1 HK.out.2.2.2.1 HK.out.2.2.2.2 rfl rfl rfl
              exact RdS.set (m := { m with s := 1 }) 2 _ r1 r2 r3 r4 r5 rfl rfl rfl
            clear y1 y2
            go_wp2_with fail
            refine (hV _).mono ?_
            rintro r w' ⟨rfl, hw⟩
            rw [hw]
            clear hw hV
            go_upto_region 40 with fail
            try rw [hw5]
            clear hw5 cq s1 cq1 fq1
            clear fq
            go_wp2_with fail
            go_roundw
            case rel =>
              have e1 := HJ.out.2.2.2.2.1
              have e2 := HJ.out.2.2.2.1
              have e4 := HJ.out.2.2.2.2.2.2.2
              have e3 : i1 - 1 = j + 1 := by omega
              refine ⟨i1, by omega, by omega, rfl, ?_⟩
              rw [e3, HJ.out.1, HJ.out.2.1]
              exact ⟨HS5.out, HO5.out⟩
            case measure =>
              have e1 := HJ.out.2.2.2.2.1
              simp [natV]
              omega
          · rw [y1] at eX1
            rw [y2] at eX2
            obtain ⟨w5, hw5⟩ : ∃ y, wr.setCell ⟨w.heap.size + 1, 2, none⟩ (.int .i64 1) = y := ⟨_, rfl⟩
            have HS5 : Hid (RdS w w5 (m.put 115 lw)) := by
              rw [← hw5, HPt.out.2 y2]
              exact RdS.set (m' := { m with s := 1 }) 2 _ HK.out.1 HK.out.2.1 HK.out.2.2.1 HK.out.2.2.2.1 HK.out.2.2.2.2 rfl rfl rfl
            clear y1 y2
            go_wp2_with fail
            refine (hV _).mono ?_
            rintro r w' ⟨rfl, hw⟩
            rw [hw]
            clear hw hV
            go_upto_region 40 with fail
            try rw [hw5]
            clear hw5 cq s1 cq1 fq1
            obtain ⟨a5, c5, r1, r2, r3, r4, r5⟩ := HS5.out
            have z0 : w5.cell? ⟨w.heap.size, 0, none⟩ = some (.int .i64 0) := r4.cell 0
            have z1 : w5.cell? ⟨w.heap.size, 1, none⟩ = some (.int .i64 0) := r4.cell 1
            have z2 : w5.cell? ⟨w.heap.size, 2, none⟩ = some (.int .i64 0) := r4.cell 2
            have z3 : w5.cell? ⟨w.heap.size, 3, none⟩ = some (.int .i64 0) := r4.cell 3
            have z4 : w5.cell? ⟨w.heap.size, 4, none⟩ = some (.int .i64 0) := r4.cell 4
            have z5 : w5.cell? ⟨w.heap.size, 5, none⟩ = some (.int .u32 0) := r4.cell 5
            have z6 : w5.cell? ⟨w.heap.size, 6, none⟩ = some (.int .i64 0) := r4.cell 6
            have z7 : w5.cell? ⟨w.heap.size, 7, none⟩ = some (.bool false) := r4.cell 7
            have z8 : w5.cell? ⟨w.heap.size, 8, none⟩ = some (.slice none 0 0) := r4.cell 8
            have fz := r4.fz
            have HO : Hid (Off [w.heap.size] w5 (((((((((w5.setCell ⟨w.heap.size, 0, none⟩ (.int .i64 0)).setCell ⟨w.heap.size, 1, none⟩ (.int .i64 0)).setCell ⟨w.heap.size, 2, none⟩ (.int .i64 0)).setCell ⟨w.heap.size, 3, none⟩ (.int .i64 0)).setCell ⟨w.heap.size, 4, none⟩ (.int .i64 0)).setCell ⟨w.heap.size, 5, none⟩ (.int .u32 0)).setCell ⟨w.heap.size, 6, none⟩ (.int .i64 0)).setCell ⟨w.heap.size, 7, none⟩ (.bool false)).setCell ⟨w.heap.size, 8, none⟩ (.slice none 0 0))) := Off.trans (Off.trans (Off.trans (Off.trans (Off.trans (Off.trans (Off.trans (Off.trans (Off.trans (Off.refl [w.heap.size] w5) (Off.setCell w.heap.size 0 _ _)) (Off.setCell w.heap.size 1 _ _)) (Off.setCell w.heap.size 2 _ _)) (Off.setCell w.heap.size 3 _ _)) (Off.setCell w.heap.size 4 _ _)) (Off.setCell w.heap.size 5 _ _)) (Off.setCell w.heap.size 6 _ _)) (Off.setCell w.heap.size 7 _ _)) (Off.setCell w.heap.size 8 _ _)
            have HB : Hid (_) := r5
            clear r1 r2 r3 r4 r5 fq
            go_wp2_with fail
            refine bodyPost_ret (v := .tuple #[.agg #[.int .i64 0, .int .i64 0, .int .i64 0, .int .i64 0, .int .i64 0, .int .u32 0, .int .i64 0, .bool false, .slice none 0 0], .int .i64 203]) (by simp [results, Tryd.results25, go_sem, z0, z1, z2, z3, z4, z5, z6, z7, z8]) rfl ?_
            exact HP.out.1 (HJ.out.2.2.1 HO5.out) _ (HO.out.below HB.out (by simp) HB.out.size)
        · obtain ⟨O1, hO1⟩ : ∃ y, vlO lw = y := ⟨_, rfl⟩
          rw [hO1] at hV
          clear hO1
          obtain ⟨O, hO⟩ : ∃ y, dtO lw = y := ⟨_, rfl⟩
          obtain ⟨DN, hDN⟩ : ∃ y, dtN lw = y := ⟨_, rfl⟩
          obtain ⟨DB, hDB⟩ : ∃ y, dtB lw = y := ⟨_, rfl⟩
          rw [hO, hDN, hDB] at hBy
          have HO5 : Hid (lwO 120 lw = O) := hO
          have ep : m.put 120 lw = { m with l := DN, b := DB } := by rw [← hDN, ← hDB]; rfl
          have HEp : Hid (_) := ep
          clear hO hDN hDB ep
          go_wp2_with fail
          refine (hV _).mono ?_
          rintro r w' ⟨rfl, hw⟩
          rw [hw]
          clear hw hV
          go_wp2_with fail
          refine (hBy _).mono ?_
          rintro r wb ⟨v, rfl, Hb⟩
          obtain ⟨ab, cb, rfl, rb, nb⟩ := Hb.out.1
          have kb := HK.out.1.off (Off.of_below (l := []) Hb.out.2) (by simp)
          have fqb := kb.fz
          have cq : wb.cell? ⟨w.heap.size + 1, 8, none⟩ = some (.slice a m.l cc) := kb.cell 8
          obtain ⟨w5, hw5⟩ : ∃ y, wb.setCell ⟨w.heap.size + 1, 8, none⟩ (.slice ab DN cb) = y := ⟨_, rfl⟩
          have HS5 : Hid (RdS w w5 (m.put 120 lw)) := by
            rw [← hw5, HEp.out]
            have os := Off.setCell (w.heap.size + 1) 8 wb (.slice ab DN cb)
            have bb := HK.out.2.2.2.2.trans (Hb.out.2.mono HK.out.2.2.2.2.size)
            have lq := HK.out.1.lt
            refine ⟨ab, cb, kb.set 8 _, rb.offS os (fun y hy hn => ?_), fun y hy hn => ?_, (HK.out.2.2.2.1.off (Off.of_below (l := []) Hb.out.2) (by simp)).off os (by simp), os.below bb (by simp) bb.size⟩
            · have := nb y hy hn
              simp
              omega
            · have := nb y hy hn
              omega
          clear kb rb nb Hb hBy fq
          have fq := fqb
          clear fqb
          go_upto_region 40 with fail
          try rw [hw5]
          clear hw5 cq s1
          cases O with
          | false =>
            obtain ⟨a5, c5, r1, r2, r3, r4, r5⟩ := HS5.out
            have z0 : w5.cell? ⟨w.heap.size, 0, none⟩ = some (.int .i64 0) := r4.cell 0
            have z1 : w5.cell? ⟨w.heap.size, 1, none⟩ = some (.int .i64 0) := r4.cell 1
            have z2 : w5.cell? ⟨w.heap.size, 2, none⟩ = some (.int .i64 0) := r4.cell 2
            have z3 : w5.cell? ⟨w.heap.size, 3, none⟩ = some (.int .i64 0) := r4.cell 3
            have z4 : w5.cell? ⟨w.heap.size, 4, none⟩ = some (.int .i64 0) := r4.cell 4
            have z5 : w5.cell? ⟨w.heap.size, 5, none⟩ = some (.int .u32 0) := r4.cell 5
            have z6 : w5.cell? ⟨w.heap.size, 6, none⟩ = some (.int .i64 0) := r4.cell 6
            have z7 : w5.cell? ⟨w.heap.size, 7, none⟩ = some (.bool false) := r4.cell 7
            have z8 : w5.cell? ⟨w.heap.size, 8, none⟩ = some (.slice none 0 0) := r4.cell 8
            have fz := r4.fz
            have HO : Hid (Off [w.heap.size] w5 (((((((((w5.setCell ⟨w.heap.size, 0, none⟩ (.int .i64 0)).setCell ⟨w.heap.size, 1, none⟩ (.int .i64 0)).setCell ⟨w.heap.size, 2, none⟩ (.int .i64 0)).setCell ⟨w.heap.size, 3, none⟩ (.int .i64 0)).setCell ⟨w.heap.size, 4, none⟩ (.int .i64 0)).setCell ⟨w.heap.size, 5, none⟩ (.int .u32 0)).setCell ⟨w.heap.size, 6, none⟩ (.int .i64 0)).setCell ⟨w.heap.size, 7, none⟩ (.bool false)).setCell ⟨w.heap.size, 8, none⟩ (.slice none 0 0))) := Off.trans (Off.trans (Off.trans (Off.trans (Off.trans (Off.trans (Off.trans (Off.trans (Off.trans (Off.refl [w.heap.size] w5) (Off.setCell w.heap.size 0 _ _)) (Off.setCell w.heap.size 1 _ _)) (Off.setCell w.heap.size 2 _ _)) (Off.setCell w.heap.size 3 _ _)) (Off.setCell w.heap.size 4 _ _)) (Off.setCell w.heap.size 5 _ _)) (Off.setCell w.heap.size 6 _ _)) (Off.setCell w.heap.size 7 _ _)) (Off.setCell w.heap.size 8 _ _)
            have HB : Hid (_) := r5
            clear r1 r2 r3 r4 r5 fq
            go_wp2_with fail
            refine bodyPost_ret (v := .tuple #[.agg #[.int .i64 0, .int .i64 0, .int .i64 0, .int .i64 0, .int .i64 0, .int .u32 0, .int .i64 0, .bool false, .slice none 0 0], .int .i64 203]) (by simp [results, Tryd.results25, go_sem, z0, z1, z2, z3, z4, z5, z6, z7, z8]) rfl ?_
            exact HP.out.1 (HJ.out.2.2.1 HO5.out) _ (HO.out.below HB.out (by simp) HB.out.size)
          | true =>
            clear fq
            go_wp2_with fail
            go_roundw
            case rel =>
              have e1 := HJ.out.2.2.2.2.1
              have e2 := HJ.out.2.2.2.1
              have e4 := HJ.out.2.2.2.2.2.2.2
              have e3 : i1 - 1 = j + 1 := by omega
              refine ⟨i1, by omega, by omega, rfl, ?_⟩
              rw [e3, HJ.out.1, HJ.out.2.1]
              exact ⟨HS5.out, HO5.out⟩
            case measure =>
              have e1 := HJ.out.2.2.2.2.1
              simp [natV]
              omega
        · have cq : wr.cell? ⟨w.heap.size + 1, 7, none⟩ = some (.bool m.h) := HK.out.1.cell 7
          clear hBy
          obtain ⟨O1, hO1⟩ : ∃ y, vlO lw = y := ⟨_, rfl⟩
          rw [hO1] at hV
          clear hO1
          have eX : ((tx lw).toList == [104, 111, 108, 100]) = (lw == [104, 111, 108, 100]) := by rw [tx_list]
          obtain ⟨O, hO⟩ : ∃ y, (lw == [104, 111, 108, 100]) = y := ⟨_, rfl⟩
          have HO5 : Hid (lwO 104 lw = O) := hO
          obtain ⟨X, hX⟩ : ∃ y, tx lw = y := ⟨_, rfl⟩
          rw [hX] at eX cW hV
          rw [hO] at eX
          obtain ⟨w5, hw5⟩ : ∃ y, wr.setCell ⟨w.heap.size + 1, 7, none⟩ (.bool true) = y := ⟨_, rfl⟩
          have HS5 : Hid (RdS w w5 (m.put 104 lw)) := by
            rw [← hw5]
            exact RdS.set 7 _ HK.out.1 HK.out.2.1 HK.out.2.2.1 HK.out.2.2.2.1 HK.out.2.2.2.2 rfl rfl rfl
          clear hX hO
          go_wp2_with fail
          refine (hV _).mono ?_
          rintro r w' ⟨rfl, hw⟩
          rw [hw]
          clear hw hV
          go_upto_region 40 with fail
          try rw [hw5]
          clear hw5 cq s1
          cases O with
          | false =>
            obtain ⟨a5, c5, r1, r2, r3, r4, r5⟩ := HS5.out
            have z0 : w5.cell? ⟨w.heap.size, 0, none⟩ = some (.int .i64 0) := r4.cell 0
            have z1 : w5.cell? ⟨w.heap.size, 1, none⟩ = some (.int .i64 0) := r4.cell 1
            have z2 : w5.cell? ⟨w.heap.size, 2, none⟩ = some (.int .i64 0) := r4.cell 2
            have z3 : w5.cell? ⟨w.heap.size, 3, none⟩ = some (.int .i64 0) := r4.cell 3
            have z4 : w5.cell? ⟨w.heap.size, 4, none⟩ = some (.int .i64 0) := r4.cell 4
            have z5 : w5.cell? ⟨w.heap.size, 5, none⟩ = some (.int .u32 0) := r4.cell 5
            have z6 : w5.cell? ⟨w.heap.size, 6, none⟩ = some (.int .i64 0) := r4.cell 6
            have z7 : w5.cell? ⟨w.heap.size, 7, none⟩ = some (.bool false) := r4.cell 7
            have z8 : w5.cell? ⟨w.heap.size, 8, none⟩ = some (.slice none 0 0) := r4.cell 8
            have fz := r4.fz
            have HO : Hid (Off [w.heap.size] w5 (((((((((w5.setCell ⟨w.heap.size, 0, none⟩ (.int .i64 0)).setCell ⟨w.heap.size, 1, none⟩ (.int .i64 0)).setCell ⟨w.heap.size, 2, none⟩ (.int .i64 0)).setCell ⟨w.heap.size, 3, none⟩ (.int .i64 0)).setCell ⟨w.heap.size, 4, none⟩ (.int .i64 0)).setCell ⟨w.heap.size, 5, none⟩ (.int .u32 0)).setCell ⟨w.heap.size, 6, none⟩ (.int .i64 0)).setCell ⟨w.heap.size, 7, none⟩ (.bool false)).setCell ⟨w.heap.size, 8, none⟩ (.slice none 0 0))) := Off.trans (Off.trans (Off.trans (Off.trans (Off.trans (Off.trans (Off.trans (Off.trans (Off.trans (Off.refl [w.heap.size] w5) (Off.setCell w.heap.size 0 _ _)) (Off.setCell w.heap.size 1 _ _)) (Off.setCell w.heap.size 2 _ _)) (Off.setCell w.heap.size 3 _ _)) (Off.setCell w.heap.size 4 _ _)) (Off.setCell w.heap.size 5 _ _)) (Off.setCell w.heap.size 6 _ _)) (Off.setCell w.heap.size 7 _ _)) (Off.setCell w.heap.size 8 _ _)
            have HB : Hid (_) := r5
            clear r1 r2 r3 r4 r5 fq
            go_wp2_with fail
            refine bodyPost_ret (v := .tuple #[.agg #[.int .i64 0, .int .i64 0, .int .i64 0, .int .i64 0, .int .i64 0, .int .u32 0, .int .i64 0, .bool false, .slice none 0 0], .int .i64 203]) (by simp [results, Tryd.results25, go_sem, z0, z1, z2, z3, z4, z5, z6, z7, z8]) rfl ?_
            exact HP.out.1 (HJ.out.2.2.1 HO5.out) _ (HO.out.below HB.out (by simp) HB.out.size)
          | true =>
            clear fq
            go_wp2_with fail
            go_roundw
            case rel =>
              have e1 := HJ.out.2.2.2.2.1
              have e2 := HJ.out.2.2.2.1
              have e4 := HJ.out.2.2.2.2.2.2.2
              have e3 : i1 - 1 = j + 1 := by omega
              refine ⟨i1, by omega, by omega, rfl, ?_⟩
              rw [e3, HJ.out.1, HJ.out.2.1]
              exact ⟨HS5.out, HO5.out⟩
            case measure =>
              have e1 := HJ.out.2.2.2.2.1
              simp [natV]
              omega
      · obtain rfl : i = N := by omega
        have hlt' : ¬ ((i : Nat) : Int) < ((i : Nat) : Int) := by omega
        have ej : i - 1 = n := by have := HN.out; omega
        rw [ej] at HI
        have hgd := HP.out.2
        obtain ⟨m, hm⟩ : ∃ y, mvF FF R M0 n = y := ⟨_, rfl⟩
        rw [hm] at HI hgd
        have HGd : Hid (_) := hgd HI.out.2
        obtain ⟨a, cc, k1, k2, k3, k4, k5⟩ := HI.out.1
        have p0 : wr.cell? ⟨w.heap.size + 1, 0, none⟩ = some (.int .i64 m.k) := k1.cell 0
        have p1 : wr.cell? ⟨w.heap.size + 1, 1, none⟩ = some (.int .i64 m.c) := k1.cell 1
        have p2 : wr.cell? ⟨w.heap.size + 1, 2, none⟩ = some (.int .i64 m.s) := k1.cell 2
        have p3 : wr.cell? ⟨w.heap.size + 1, 3, none⟩ = some (.int .i64 m.f) := k1.cell 3
        have p4 : wr.cell? ⟨w.heap.size + 1, 4, none⟩ = some (.int .i64 m.a) := k1.cell 4
        have p5 : wr.cell? ⟨w.heap.size + 1, 5, none⟩ = some (.int .u32 (m.w : Nat)) := k1.cell 5
        have p6 : wr.cell? ⟨w.heap.size + 1, 6, none⟩ = some (.int .i64 m.n) := k1.cell 6
        have p7 : wr.cell? ⟨w.heap.size + 1, 7, none⟩ = some (.bool m.h) := k1.cell 7
        have p8 : wr.cell? ⟨w.heap.size + 1, 8, none⟩ = some (.slice a m.l cc) := k1.cell 8
        have z0 : wr.cell? ⟨w.heap.size, 0, none⟩ = some (.int .i64 0) := k4.cell 0
        have z1 : wr.cell? ⟨w.heap.size, 1, none⟩ = some (.int .i64 0) := k4.cell 1
        have z2 : wr.cell? ⟨w.heap.size, 2, none⟩ = some (.int .i64 0) := k4.cell 2
        have z3 : wr.cell? ⟨w.heap.size, 3, none⟩ = some (.int .i64 0) := k4.cell 3
        have z4 : wr.cell? ⟨w.heap.size, 4, none⟩ = some (.int .i64 0) := k4.cell 4
        have z5 : wr.cell? ⟨w.heap.size, 5, none⟩ = some (.int .u32 0) := k4.cell 5
        have z6 : wr.cell? ⟨w.heap.size, 6, none⟩ = some (.int .i64 0) := k4.cell 6
        have z7 : wr.cell? ⟨w.heap.size, 7, none⟩ = some (.bool false) := k4.cell 7
        have z8 : wr.cell? ⟨w.heap.size, 8, none⟩ = some (.slice none 0 0) := k4.cell 8
        have fz := k4.fz
        have HO : Hid (Off [w.heap.size] wr (((((((((wr.setCell ⟨w.heap.size, 0, none⟩ (.int .i64 m.k)).setCell ⟨w.heap.size, 1, none⟩ (.int .i64 m.c)).setCell ⟨w.heap.size, 2, none⟩ (.int .i64 m.s)).setCell ⟨w.heap.size, 3, none⟩ (.int .i64 m.f)).setCell ⟨w.heap.size, 4, none⟩ (.int .i64 m.a)).setCell ⟨w.heap.size, 5, none⟩ (.int .u32 (m.w : Nat))).setCell ⟨w.heap.size, 6, none⟩ (.int .i64 m.n)).setCell ⟨w.heap.size, 7, none⟩ (.bool m.h)).setCell ⟨w.heap.size, 8, none⟩ (.slice a m.l cc))) := Off.trans (Off.trans (Off.trans (Off.trans (Off.trans (Off.trans (Off.trans (Off.trans (Off.trans (Off.refl [w.heap.size] wr) (Off.setCell w.heap.size 0 _ _)) (Off.setCell w.heap.size 1 _ _)) (Off.setCell w.heap.size 2 _ _)) (Off.setCell w.heap.size 3 _ _)) (Off.setCell w.heap.size 4 _ _)) (Off.setCell w.heap.size 5 _ _)) (Off.setCell w.heap.size 6 _ _)) (Off.setCell w.heap.size 7 _ _)) (Off.setCell w.heap.size 8 _ _)
        have HB : Hid (_) := And.intro k5 (And.intro k2 k3)
        clear k1 k2 k3 k4 k5 hm hgd HI ej
        go_wp2_with fail
        refine bodyPost_ret (v := .tuple #[.agg #[.int .i64 m.k, .int .i64 m.c, .int .i64 m.s, .int .i64 m.f, .int .i64 m.a, .int .u32 (m.w : Nat), .int .i64 m.n, .bool m.h, .slice a m.l cc], .int .i64 0]) (by simp [results, Tryd.results25, go_sem, z0, z1, z2, z3, z4, z5, z6, z7, z8]) rfl ?_
        refine HGd.out a cc _ (HB.out.2.1.offS HO.out (fun y hy hn => ?_)) (HO.out.below HB.out.1 (by simp) HB.out.1.size) (fun y hy hn => by have := HB.out.2.2 y hy hn; omega)
        have := HB.out.2.2 y hy hn
        simp
        omega
end Go.Proofs.YtnmnjcjfgbpkaaaDoor
