/- ParamAnswers of a lawful set (by genpans.py). -/
import Derived.Test.YtikdkbcekibakaaLawPAns
import Derived.Test.YtikdkbcekibakaaHold
namespace Go.Proofs.Ytikdkbcekibakaa
open Go.RowKit
theorem bytes4_row (x : Nat) (w : World) (hx : x < 4294967296) :
    Calls Try.prog 14 #[.int .u32 x] w fun e w' => ∃ g, e = .returned (.slice (some ⟨g, 0, none⟩) 4 4) ∧ Hid (Row8 w' (some ⟨g, 0, none⟩) 4 4 (PM.w4 x) ∧ Below w.heap.size w w') :=
  (bytes4_any x w hx).mono fun e w' q => ⟨_, q.1, by rw [q.2]; exact ⟨row4P w x hx, (Below.refl _ _).alloc (Nat.le_refl _) _⟩⟩
set_option maxRecDepth 100000 in
set_option maxHeartbeats 4000000 in
theorem paramAnswers_core (c O I T n k : Nat) (PE bs : Nat → Nat) (a : Option Addr) (len cap : Nat) (w : World) (hr : Row8 w a len cap bs) (h : len ≤ 1000) (hk : k < 4294967296) (hPE : ∀ j, j < 14 → PE j < 256)
    (fE : ∀ wx, Calls Try.prog 8 #[.agg #[.int .u32 c, .int .i64 O, .int .i64 I, .int .i64 T, .int .u32 n]] wx fun e w' => ∃ g, e = .returned (.tuple #[.slice (some ⟨g, 0, none⟩) 14 14, .int .i64 0]) ∧ Hid (wx.heap.size ≤ g ∧ w'.ownsRow wx.heap.size 5 1 (.slice (some ⟨g, 0, none⟩) 14 14) 14 (CB PE 14) ∧ Below wx.heap.size wx w'))
    (fR : ∀ wx, Calls Try.prog 9 #[.agg #[.int .u32 c, .int .i64 O, .int .i64 I, .int .i64 T, .int .u32 n]] wx fun e w' => ∃ a cap, e = .returned (.tuple #[.slice a 14 cap, .int .i64 0]) ∧ Hid (w'.ownsRow wx.heap.size 5 1 (.slice a 14 cap) 14 (CB PE 14) ∧ Below wx.heap.size wx w'))
    (fC : ∀ wx, Calls Try.prog 10 #[.agg #[.int .u32 c, .int .i64 O, .int .i64 I, .int .i64 T, .int .u32 n]] wx fun e w' => e = .returned (.int .i64 0) ∧ Below wx.heap.size wx w')
    (fS : ∀ wx, Calls Try.prog 11 #[.agg #[.int .u32 c, .int .i64 O, .int .i64 I, .int .i64 T, .int .u32 n]] wx fun e w' => e = .returned (.tuple #[.int .u32 k, .int .i64 0]) ∧ Below wx.heap.size wx w')
    (fG : ∀ wx, Calls Try.prog 12 #[.agg #[.int .u32 c, .int .i64 O, .int .i64 I, .int .i64 T, .int .u32 n]] wx fun e w' => ∃ g, e = .returned (.slice (some ⟨g, 0, none⟩) 4 4) ∧ Hid (Row8 w' (some ⟨g, 0, none⟩) 4 4 (PM.w4 k) ∧ Below wx.heap.size wx w'))
    (fM : ∀ a' l' c' f wx D, Row8 wx a' l' c' f → decide (BA f l' = BA (PM.w4 k) 4) = D → Calls Try.prog 13 #[.agg #[.int .u32 c, .int .i64 O, .int .i64 I, .int .i64 T, .int .u32 n], .slice a' l' c'] wx fun e w' => e = .returned (.tuple #[.bool D, .int .i64 0]) ∧ Below wx.heap.size wx w')
    (fB : ∀ a' c' wx, Row8 wx a' 14 c' PE → Calls Try.prog 15 #[.slice a' 14 c'] wx fun e w' => e = .returned (.int .u32 k) ∧ w' = wx) :
    Calls Try.prog 3 #[.agg #[.int .u32 c, .int .i64 O, .int .i64 I, .int .i64 T, .int .u32 n], .slice a len cap] w fun e w' => e = .returned (.bool true) ∧ Below w.heap.size w w' := by
  have hA : Below w.heap.size w (w.alloc (.cells #[.int .u32 c, .int .i64 O, .int .i64 I, .int .i64 T, .int .u32 n] 24)) := (Below.refl _ _).alloc (Nat.le_refl _) _
  have hAs : w.heap.size < (w.alloc (.cells #[.int .u32 c, .int .i64 O, .int .i64 I, .int .i64 T, .int .u32 n] 24)).heap.size := by simp
  have hrA := hr.below hA
  have hX := bx_new w c O I T n
  have hw := awake9 (w.alloc (.cells #[.int .u32 c, .int .i64 O, .int .i64 I, .int .i64 T, .int .u32 n] 24))
  have q : decide ((1000 : Int) < (len : Int)) = false := by simp; omega
  obtain ⟨D, hD⟩ : ∃ D, decide (BA bs len = BA (PM.w4 k) 4) = D := ⟨_, rfl⟩
  have hD' := hD
  rw [bytes_beq] at hD'
  clear hr
  go_enter Try.func3, Try.ntmps3
  go_wp2_with fail
  generalize w.alloc (.cells #[.int .u32 c, .int .i64 O, .int .i64 I, .int .i64 T, .int .u32 n] 24) = wa at *
  refine hw.mono ?_
  rintro e w1 ⟨rfl, hb1⟩
  obtain ⟨x0, x1, x2, x3, x4⟩ := hX w1 hb1
  clear hw
  go_wp2_with fail
  refine (fE w1).mono ?_
  rintro e w2 ⟨g, rfl, H2⟩
  obtain ⟨_, O2, hb2'⟩ := H2.out
  have R2 := own_slice8 O2 hPE
  have hb2 := below_all hb1 hb1.size hb2'
  clear x0 x1 x2 x3 x4 hb1 hb2' fE O2 H2
  obtain ⟨x0, x1, x2, x3, x4⟩ := hX w2 hb2
  go_wp2_with fail
  refine (fR w2).mono ?_
  rintro e w3 ⟨a3, c3, rfl, H3⟩
  obtain ⟨O3, hb3'⟩ := H3.out
  have R3 := own_slice8 O3 hPE
  have hb3 := below_all hb2 hb2.size hb3'
  have R23 := R2.below hb3'
  clear x0 x1 x2 x3 x4 hb2 hb3' fR O3 H3 R2
  obtain ⟨x0, x1, x2, x3, x4⟩ := hX w3 hb3
  have k1 := conv_any _ 14 _ PE w3 R23
  have k2 := conv_any _ 14 _ PE w3 R3
  generalize BA PE 14 = X at *
  go_wp2_with fail
  refine (fC w3).mono ?_
  rintro e w4 ⟨rfl, hb4'⟩
  have hb4 := below_all hb3 hb3.size hb4'
  have R24 := R23.below hb4'
  clear x0 x1 x2 x3 x4 hb3 hb4' fC k1 k2 R23 R3
  obtain ⟨x0, x1, x2, x3, x4⟩ := hX w4 hb4
  go_wp2_with fail
  refine (fS w4).mono ?_
  rintro e w5 ⟨rfl, hb5'⟩
  have hb5 := below_all hb4 hb4.size hb5'
  have R25 := R24.below hb5'
  clear x0 x1 x2 x3 x4 hb4 hb5' fS R24
  obtain ⟨x0, x1, x2, x3, x4⟩ := hX w5 hb5
  go_wp2_with fail
  refine (fG w5).mono ?_
  rintro e w6 ⟨gs, rfl, H6⟩
  obtain ⟨RS6, hb6'⟩ := H6.out
  have hb6 := below_all hb5 hb5.size hb6'
  have R26 := R25.below hb6'
  clear x0 x1 x2 x3 x4 hb5 hb6' fG R25 H6
  have HR6 : Hid (_) := And.intro RS6 R26
  clear RS6 R26
  obtain ⟨x0, x1, x2, x3, x4⟩ := hX w6 hb6
  have hx6 : ∀ wx, Below w6.heap.size w6 wx → wx.cell? ⟨w.heap.size, 0, none⟩ = some (.int .u32 c) ∧ wx.cell? ⟨w.heap.size, 1, none⟩ = some (.int .i64 O) ∧ wx.cell? ⟨w.heap.size, 2, none⟩ = some (.int .i64 I) ∧ wx.cell? ⟨w.heap.size, 3, none⟩ = some (.int .i64 T) ∧ wx.cell? ⟨w.heap.size, 4, none⟩ = some (.int .u32 n) := fun wx hb => by
    obtain ⟨y0, y1, y2, y3, y4⟩ := hX wx (below_all hb6 hb6.size hb)
    exact ⟨y0, y1, y2, y3, y4⟩
  have hr6 : ∀ wx, Below w6.heap.size w6 wx → Row8 wx a len cap bs := fun wx hb => hrA.below (below_all hb6 hb6.size hb)
  have hct : BA (PM.ct (fun _ => 0) bs 0) len = BA bs len := (BA_eq _ _ len (fun i hi => by unfold PM.ct; rw [if_neg (by omega)]; exact hrA.byte _ hi) hrA.byte).2 (fun i hi => by unfold PM.ct; rw [if_neg (by omega), Nat.sub_zero])
  have hD7 : decide (BA (PM.ct (fun _ => 0) bs 0) len = BA (PM.w4 k) 4) = D := by rw [hct]; exact hD
  have hbc : ∀ i, i < len → PM.ct (fun _ => 0) bs 0 i < 256 := fun i hi => by unfold PM.ct; rw [if_neg (by omega)]; exact hrA.byte _ hi
  clear hct
  go_wp2_with fail
  go_region_held3 (fun wx => wx.cell? ⟨w.heap.size, 0, none⟩ = some (.int .u32 c) ∧ wx.cell? ⟨w.heap.size, 1, none⟩ = some (.int .i64 O) ∧ wx.cell? ⟨w.heap.size, 2, none⟩ = some (.int .i64 I) ∧ wx.cell? ⟨w.heap.size, 3, none⟩ = some (.int .i64 T) ∧ wx.cell? ⟨w.heap.size, 4, none⟩ = some (.int .u32 n)) (first | assumption | exact hx6 _ (by repeat (first | with_reducible assumption | with_reducible refine below_drewN ?_ _ | with_reducible refine Below.drew ?_ | with_reducible refine belowA ?_ _ | with_reducible exact Below.refl _ _))) (first
    | (refine step_append8 rfl (.tmp 58) (.tmp 59) rfl w6.heap.size 0 len _ _ (fun _ hh => absurd hh (by omega)) rfl (own0P _ _ (Nat.le_refl _)) a len cap bs rfl (hr6 _ (by repeat (first | with_reducible assumption | with_reducible refine below_drewN ?_ _ | with_reducible refine Below.drew ?_ | with_reducible refine belowA ?_ _ | with_reducible exact Below.refl _ _))) (by omega) (by omega) w6 (by repeat (first | with_reducible assumption | with_reducible refine below_drewN ?_ _ | with_reducible refine Below.drew ?_ | with_reducible refine belowA ?_ _ | with_reducible exact Below.refl _ _)) (Nat.le_refl _) ?_; intro a7 c7 w7 H7 G7 hb7)
    | (refine step_call rfl 13 #[.tmp 57, .tmp 60] #[24, 25] rfl #[.agg #[.int .u32 c, .int .i64 O, .int .i64 I, .int .i64 T, .int .u32 n], .slice a7 len c7] _ (by kernel_rfl) (fM a7 len c7 _ w7 D (own_slice8 H7.out hbc) hD7) ?_; intro w8 hb8'; have hb8 := below_all hb7 hb7.size hb8'))
  have R8 := HR6.out.1.below hb8
  have HR8 : Hid (_) := And.intro R8 (HR6.out.2.below hb8)
  have hb8a := below_all hb6 hb6.size hb8
  clear x0 x1 x2 x3 x4 hx6 hr6 hb6 hb7 hb8 hb8' H7 G7 HR6 hD7 hbc
  obtain ⟨x0, x1, x2, x3, x4⟩ := hX w8 hb8a
  have M8 := fM _ 4 4 _ w8 true R8 (by simp)
  clear R8
  go_wp2_with fail
  refine M8.mono ?_
  rintro e w9 ⟨rfl, hb9'⟩
  have hb9 := below_all hb8a hb8a.size hb9'
  have HR9 : Hid (_) := And.intro (HR8.out.1.below hb9') (HR8.out.2.below hb9')
  clear x0 x1 x2 x3 x4 hb8a hb9' HR8 M8
  obtain ⟨x0, x1, x2, x3, x4⟩ := hX w9 hb9
  have hx9 : ∀ wx, Below w9.heap.size w9 wx → wx.cell? ⟨w.heap.size, 0, none⟩ = some (.int .u32 c) ∧ wx.cell? ⟨w.heap.size, 1, none⟩ = some (.int .i64 O) ∧ wx.cell? ⟨w.heap.size, 2, none⟩ = some (.int .i64 I) ∧ wx.cell? ⟨w.heap.size, 3, none⟩ = some (.int .i64 T) ∧ wx.cell? ⟨w.heap.size, 4, none⟩ = some (.int .u32 n) := fun wx hb => by
    obtain ⟨y0, y1, y2, y3, y4⟩ := hX wx (below_all hb9 hb9.size hb)
    exact ⟨y0, y1, y2, y3, y4⟩
  have hr9 : ∀ wx, Below w9.heap.size w9 wx → Row8 wx (some ⟨gs, 0, none⟩) 4 4 (PM.w4 k) := fun wx hb => HR9.out.1.below hb
  have hb45 : ∀ i, i < 4 → PM.ct (fun _ => 0) (PM.w4 k) 0 i < 256 := fun i _ => by unfold PM.ct; rw [if_neg (by omega)]; exact PM.w4_lt _ _
  have hb55 : ∀ i, i < 5 → PM.ct (PM.ct (fun _ => 0) (PM.w4 k) 0) (fun _ => 0) 4 i < 256 := PM.ct_lt (n := 4) (k := 1) hb45 (fun _ _ => by omega)
  have hD5 : decide (BA (PM.ct (PM.ct (fun _ => 0) (PM.w4 k) 0) (fun _ => 0) 4) 5 = BA (PM.w4 k) 4) = false := decide_eq_false (BA_ne _ _ 5 4 (by omega))
  have e1 : (w9.drew.alloc (.cells #[] 5)).heap.size = w9.heap.size + 1 := by simp
  have e2 : (w9.drew.alloc (.cells #[.int .u8 0] 5)).heap.size = w9.heap.size + 1 := by simp
  have own1 := (own0P w9.heap.size w9.drew (Nat.le_refl _)).alloc (.cells #[.int .u8 0] 5)
  have own2 := own0P w9.heap.size (w9.drew.alloc (.cells #[.int .u8 0] 5)) (by simp)
  have own3 := own0P w9.heap.size w9.drew (Nat.le_refl _)
  have hne1 : (some (w9.heap.size + 1) : Option Nat) ≠ (Value.slice (some ⟨w9.heap.size, 0, none⟩) 0 0).ownBlock := by simp [Value.ownBlock]
  have hne2 : (some w9.heap.size : Option Nat) ≠ (Value.slice (some ⟨w9.heap.size + 1, 0, none⟩) 0 0).ownBlock := by simp [Value.ownBlock]
  have rw1 := row1P (w9.drew.alloc (.cells #[] 5))
  have rw2 := (row1P w9.drew).below ((Below.refl _ _).alloc (Nat.le_refl _) (.cells #[] 5))
  rw [e1] at rw1
  rw [e2] at own2
  rw [show w9.drew.heap.size = w9.heap.size from rfl] at rw2 own1 own3
  clear e1 e2
  go_upto_region 17 with fail
  go_cut [16] (fun v wx => v = .bool false ∧ Hid (Below w9.heap.size w9 wx))
  case first =>
    go_region_held3 (fun wx => wx.cell? ⟨w.heap.size, 0, none⟩ = some (.int .u32 c) ∧ wx.cell? ⟨w.heap.size, 1, none⟩ = some (.int .i64 O) ∧ wx.cell? ⟨w.heap.size, 2, none⟩ = some (.int .i64 I) ∧ wx.cell? ⟨w.heap.size, 3, none⟩ = some (.int .i64 T) ∧ wx.cell? ⟨w.heap.size, 4, none⟩ = some (.int .u32 n)) (first | assumption | exact hx9 _ (by repeat (first | with_reducible assumption | with_reducible refine below_drewN ?_ _ | with_reducible refine Below.drew ?_ | with_reducible refine belowA ?_ _ | with_reducible exact Below.refl _ _))) (first
      | (refine step_append8 rfl (.tmp 88) (.tmp 89) rfl w9.heap.size 0 4 _ _ (fun _ hh => absurd hh (by omega)) rfl own1 _ 4 4 _ rfl (hr9 _ (by repeat (first | with_reducible assumption | with_reducible refine below_drewN ?_ _ | with_reducible refine Below.drew ?_ | with_reducible refine belowA ?_ _ | with_reducible exact Below.refl _ _))) (by omega) (by omega) w9 (by repeat (first | with_reducible assumption | with_reducible refine below_drewN ?_ _ | with_reducible refine Below.drew ?_ | with_reducible refine belowA ?_ _ | with_reducible exact Below.refl _ _)) (Nat.le_refl _) ?_; intro a7 c7 w7 H7 G7 hb7; have R91 := rw1.grown G7.out hne1)
      | (refine step_append8 rfl (.tmp 88) (.tmp 89) rfl w9.heap.size 0 4 _ _ (fun _ hh => absurd hh (by omega)) rfl own2 _ 4 4 _ rfl (hr9 _ (by repeat (first | with_reducible assumption | with_reducible refine below_drewN ?_ _ | with_reducible refine Below.drew ?_ | with_reducible refine belowA ?_ _ | with_reducible exact Below.refl _ _))) (by omega) (by omega) w9 (by repeat (first | with_reducible assumption | with_reducible refine below_drewN ?_ _ | with_reducible refine Below.drew ?_ | with_reducible refine belowA ?_ _ | with_reducible exact Below.refl _ _)) (Nat.le_refl _) ?_; intro a7 c7 w7 H7 G7 hb7; have R91 := rw2.grown G7.out hne2)
      | (refine step_append8 rfl (.tmp 88) (.tmp 89) rfl w9.heap.size 0 4 _ _ (fun _ hh => absurd hh (by omega)) rfl own3 _ 4 4 _ rfl (hr9 _ (by repeat (first | with_reducible assumption | with_reducible refine below_drewN ?_ _ | with_reducible refine Below.drew ?_ | with_reducible refine belowA ?_ _ | with_reducible exact Below.refl _ _))) (by omega) (by omega) w9 (by repeat (first | with_reducible assumption | with_reducible refine below_drewN ?_ _ | with_reducible refine Below.drew ?_ | with_reducible refine belowA ?_ _ | with_reducible exact Below.refl _ _)) (Nat.le_refl _) ?_; intro a7 c7 w7 H7 G7 hb7)
      | (refine step_append8 rfl (.tmp 90) (.tmp 91) rfl w9.heap.size 4 5 _ _ hb45 rfl H7.out _ 1 1 _ rfl R91 (by omega) (by omega) w9 (by repeat (first | with_reducible assumption | with_reducible refine below_drewN ?_ _ | with_reducible refine Below.drew ?_ | with_reducible refine belowA ?_ _ | with_reducible exact Below.refl _ _)) (Nat.le_refl _) ?_; intro a8 c8 w8 H8 G8 hb8)
      | (refine step_append8 rfl (.tmp 90) (.tmp 91) rfl w9.heap.size 4 5 _ _ hb45 rfl (H7.out.alloc (.cells #[.int .u8 0] 5)) _ 1 1 _ rfl (row1P w7) (by omega) (by omega) w9 (by repeat (first | with_reducible assumption | with_reducible refine below_drewN ?_ _ | with_reducible refine Below.drew ?_ | with_reducible refine belowA ?_ _ | with_reducible exact Below.refl _ _)) (Nat.le_refl _) ?_; intro a8 c8 w8 H8 G8 hb8)
      | (refine step_call rfl 13 #[.tmp 87, .tmp 92] #[24, 25] rfl #[.agg #[.int .u32 c, .int .i64 O, .int .i64 I, .int .i64 T, .int .u32 n], .slice a8 5 c8] _ (by kernel_rfl) (fM a8 5 c8 _ w8 false (own_slice8 H8.out hb55) hD5) ?_; intro w10 hb10'; have hb10 := below_all hb8 hb8.size hb10'))
    all_goals
      go_wp2_with fail
      go_meet
      exact ⟨rfl, hb10⟩
  case rest =>
    obtain ⟨rfl, H10⟩ := hcut
    obtain ⟨w10, rfl⟩ : ∃ x, x = wc := ⟨_, rfl⟩
    have hb10 := H10.out
    have hb10a := below_all hb9 hb9.size hb10
    have hR2 : ∀ wx, Below w10.heap.size w10 wx → Row8 wx (some ⟨g, 0, none⟩) 14 14 PE := fun wx hb => (HR9.out.2.below hb10).below hb
    have hBy := fun wx => bytes4_row k wx hk
    have hcv : ∀ g' wx, Row8 wx (some ⟨g', 0, none⟩) 4 4 (PM.w4 k) → _ := fun g' wx hr => conv_any (some ⟨g', 0, none⟩) 4 4 (PM.w4 k) wx hr
    have hSS : ∀ wx, Below w10.heap.size w10 wx → (convert 25 9 (.slice (some ⟨gs, 0, none⟩) 4 4)).run Try.prog wx = .ok (.string (BA (PM.w4 k) 4)) wx ∧ (convert 25 9 (.slice a len cap)).run Try.prog wx = .ok (.string (BA bs len)) wx ∧ (((BA bs len).toList == (BA (PM.w4 k) 4).toList) = D) := fun wx hb =>
      ⟨conv_any _ 4 4 _ wx ((HR9.out.1.below hb10).below hb), conv_any a len cap bs wx (hrA.below (below_all hb10a hb10a.size hb)), hD'⟩
    have HB : Hid (_) := hA.trans (hb10a.mono (Nat.le_of_lt hAs))
    have HW : ∀ wx, Below w10.heap.size w10 wx → Below w.heap.size w wx := fun wx hb => hA.trans ((below_all hb10a hb10a.size hb).mono (Nat.le_of_lt hAs))
    generalize BA bs len = Z at *
    generalize BA (PM.w4 k) 4 = Y at *
    clear x0 x1 x2 x3 x4 hx9 hr9 own1 own2 own3 hne1 hne2 rw1 rw2 hb45 hb55 hD5 H10 hb10 hb9 hb10a hX hrA hD fM HR9
    go_wp2_with fail
    have HS := hSS w10.drew (Below.refl _ _).drew
    refine wp_region_held_drew (S := fun wx => (convert 25 9 (.slice (some ⟨gs, 0, none⟩) 4 4)).run Try.prog wx = .ok (.string Y) wx ∧ (convert 25 9 (.slice a len cap)).run Try.prog wx = .ok (.string Z) wx ∧ ((Z.toList == Y.toList) = D)) (by kernel_rfl) HS (fun _ => ?_)
    refine held_at (a' := { tmps := #[Value.agg #[.int .u32 c, .int .i64 O, .int .i64 I, .int .i64 T, .int .u32 n], Value.slice a len cap, Value.pointer (some ⟨w.heap.size, 0, none⟩), undef, Value.bool false, Value.slice (some ⟨g, 0, none⟩) 14 14, Value.int .i64 0, Value.slice a3 14 c3, Value.int .i64 0, Value.int .u32 (k : Nat), Value.int .i64 0, Value.slice (some ⟨gs, 0, none⟩) 4 4, Value.bool D, Value.int .i64 0, Value.bool true, Value.int .i64 0, Value.bool false, u17, u18, u19, u20, u21, u22, u23, u24, u25, u26, u27, u28, u29, u30, u31, u32, u33, u34, u35, u36, u37, u38, u39, u40, u41, u42, u43, u44, u45, u46, u47, u48, u49, u50, u51, u52, u53, u54, u55, u56, u57, u58, u59, u60, u61, u62, u63, u64, u65, u66, u67, u68, u69, u70, u71, u72, u73, u74, u75, u76, u77, u78, u79, u80, u81, u82, u83, u84, u85, u86, u87, u88, u89, u90, u91, u92, u93, u94, u95, u96, u97, u98, u99, u100, u101, u102, u103, u104, u105, u106, u107, u108, u109, u110, u111, u112, u113, u114, u115, u116, u117, u118, u119, u120, u121, u122, u123], defers := [] }) (l' := #[false, false, false, false, false, false, false, false, false, false, false, false, false, false, false, false, false, false, false, false, false, false, false, false, false, false, false, false, false]) (by kernel_rfl) (by kernel_rfl) ?_
    refine wpAnyH_take (i := 0) (v := Value.int .u32 (k : Nat)) rfl (by kernel_rfl) (by kernel_rfl) (by kernel_rfl) (fun _ _ _ h => h) (Or.inl ⟨by kernel_rfl, fun w hSw => by go_simp⟩) (by assumption) ?_
    refine wpAnyH_take (i := 3) (v := Value.slice (some ⟨gs, 0, none⟩) 4 4) rfl (by kernel_rfl) (by kernel_rfl) (by kernel_rfl) (fun _ _ _ h => h) (Or.inl ⟨by kernel_rfl, fun w hSw => by go_simp⟩) (by assumption) ?_
    refine wpAnyH_take (i := 4) (v := Value.string Y) rfl (by kernel_rfl) (by kernel_rfl) (by kernel_rfl) (fun _ _ _ h => h) (Or.inl ⟨by kernel_rfl, fun w hSw => by go_simp⟩) (by assumption) ?_
    refine held_at (a' := { tmps := #[Value.agg #[.int .u32 c, .int .i64 O, .int .i64 I, .int .i64 T, .int .u32 n], Value.slice a len cap, Value.pointer (some ⟨w.heap.size, 0, none⟩), undef, Value.bool false, Value.slice (some ⟨g, 0, none⟩) 14 14, Value.int .i64 0, Value.slice a3 14 c3, Value.int .i64 0, Value.int .u32 (k : Nat), Value.int .i64 0, Value.slice (some ⟨gs, 0, none⟩) 4 4, Value.bool D, Value.int .i64 0, Value.bool true, Value.int .i64 0, Value.bool false, u17, u18, u19, u20, u21, u22, u23, u24, u25, u26, u27, u28, u29, u30, u31, u32, u33, u34, u35, u36, u37, u38, u39, u40, u41, u42, u43, u44, u45, u46, u47, u48, u49, u50, u51, u52, u53, u54, u55, u56, u57, u58, u59, u60, u61, u62, u63, u64, u65, u66, u67, u68, u69, u70, u71, u72, u73, u74, u75, u76, u77, u78, u79, u80, u81, u82, u83, u84, u85, u86, u87, u88, u89, u90, u91, u92, u93, u94, u95, Value.int .u32 (k : Nat), u97, u98, Value.slice (some ⟨gs, 0, none⟩) 4 4, Value.string Y, u101, u102, u103, u104, u105, u106, u107, u108, u109, u110, u111, u112, u113, u114, u115, u116, u117, u118, u119, u120, u121, u122, u123], defers := [] }) (l' := #[true, false, false, true, true, false, false, false, false, false, false, false, false, false, false, false, false, false, false, false, false, false, false, false, false, false, false, false, false]) (by kernel_rfl) (by kernel_rfl) ?_
    refine held_call (i := 1) 14 #[.int .u32 (k : Nat)] (by kernel_rfl) rfl (by kernel_rfl) (by go_simp) ?_
    refine (hBy w10.drew).mono ?_
    rintro e w11 ⟨g11, rfl, H11⟩
    have k98 := hcv g11 w11 H11.out.1
    have B12 : Hid (Below w10.heap.size w10 w11) := below_all (Below.refl _ _).drew (Nat.le_refl _) H11.out.2
    have HS11 := hSS w11 B12.out
    have fB11 := fB _ 14 w11 (hR2 w11 B12.out)
    clear H11 HS hSS hR2 fB hBy hcv
    refine ⟨_, rfl, HS11, ?_⟩
    refine held_at (a' := { tmps := #[Value.agg #[.int .u32 c, .int .i64 O, .int .i64 I, .int .i64 T, .int .u32 n], Value.slice a len cap, Value.pointer (some ⟨w.heap.size, 0, none⟩), undef, Value.bool false, Value.slice (some ⟨g, 0, none⟩) 14 14, Value.int .i64 0, Value.slice a3 14 c3, Value.int .i64 0, Value.int .u32 (k : Nat), Value.int .i64 0, Value.slice (some ⟨gs, 0, none⟩) 4 4, Value.bool D, Value.int .i64 0, Value.bool true, Value.int .i64 0, Value.bool false, u17, u18, u19, u20, u21, u22, u23, u24, u25, u26, u27, u28, u29, u30, u31, u32, u33, u34, u35, u36, u37, u38, u39, u40, u41, u42, u43, u44, u45, u46, u47, u48, u49, u50, u51, u52, u53, u54, u55, u56, u57, u58, u59, u60, u61, u62, u63, u64, u65, u66, u67, u68, u69, u70, u71, u72, u73, u74, u75, u76, u77, u78, u79, u80, u81, u82, u83, u84, u85, u86, u87, u88, u89, u90, u91, u92, u93, u94, u95, Value.int .u32 (k : Nat), Value.slice (some ⟨g11, 0, none⟩) 4 4, u98, Value.slice (some ⟨gs, 0, none⟩) 4 4, Value.string Y, u101, u102, u103, u104, u105, u106, u107, u108, u109, u110, u111, u112, u113, u114, u115, u116, u117, u118, u119, u120, u121, u122, u123], defers := [] }) (l' := #[true, true, false, true, true, false, false, false, false, false, false, false, false, false, false, false, false, false, false, false, false, false, false, false, false, false, false, false, false]) (by kernel_rfl) (by kernel_rfl) ?_
    refine held_val (i := 2) (Value.string Y) (by kernel_rfl) rfl (by kernel_rfl) (by go_simp) HS11 ?_
    refine held_at (a' := { tmps := #[Value.agg #[.int .u32 c, .int .i64 O, .int .i64 I, .int .i64 T, .int .u32 n], Value.slice a len cap, Value.pointer (some ⟨w.heap.size, 0, none⟩), undef, Value.bool false, Value.slice (some ⟨g, 0, none⟩) 14 14, Value.int .i64 0, Value.slice a3 14 c3, Value.int .i64 0, Value.int .u32 (k : Nat), Value.int .i64 0, Value.slice (some ⟨gs, 0, none⟩) 4 4, Value.bool D, Value.int .i64 0, Value.bool true, Value.int .i64 0, Value.bool false, u17, u18, u19, u20, u21, u22, u23, u24, u25, u26, u27, u28, u29, u30, u31, u32, u33, u34, u35, u36, u37, u38, u39, u40, u41, u42, u43, u44, u45, u46, u47, u48, u49, u50, u51, u52, u53, u54, u55, u56, u57, u58, u59, u60, u61, u62, u63, u64, u65, u66, u67, u68, u69, u70, u71, u72, u73, u74, u75, u76, u77, u78, u79, u80, u81, u82, u83, u84, u85, u86, u87, u88, u89, u90, u91, u92, u93, u94, u95, Value.int .u32 (k : Nat), Value.slice (some ⟨g11, 0, none⟩) 4 4, Value.string Y, Value.slice (some ⟨gs, 0, none⟩) 4 4, Value.string Y, u101, u102, u103, u104, u105, u106, u107, u108, u109, u110, u111, u112, u113, u114, u115, u116, u117, u118, u119, u120, u121, u122, u123], defers := [] }) (l' := #[true, true, true, true, true, false, false, false, false, false, false, false, false, false, false, false, false, false, false, false, false, false, false, false, false, false, false, false, false]) (by kernel_rfl) (by kernel_rfl) ?_
    refine wpAnyH_take (i := 5) (v := Value.bool true) rfl (by kernel_rfl) (by kernel_rfl) (by kernel_rfl) (fun _ _ _ h => h) (Or.inl ⟨by kernel_rfl, fun w hSw => by go_simp⟩) (by assumption) ?_
    refine wpAnyH_take (i := 6) (v := Value.bool true) rfl (by kernel_rfl) (by kernel_rfl) (by kernel_rfl) (fun _ _ _ h => h) (Or.inl ⟨by kernel_rfl, fun w hSw => by go_simp⟩) (by assumption) ?_
    refine wpAnyH_take (i := 7) (v := Value.int .u32 (k : Nat)) rfl (by kernel_rfl) (by kernel_rfl) (by kernel_rfl) (fun _ _ _ h => h) (Or.inl ⟨by kernel_rfl, fun w hSw => by go_simp⟩) (by assumption) ?_
    refine wpAnyH_take (i := 8) (v := Value.slice (some ⟨g, 0, none⟩) 14 14) rfl (by kernel_rfl) (by kernel_rfl) (by kernel_rfl) (fun _ _ _ h => h) (Or.inl ⟨by kernel_rfl, fun w hSw => by go_simp⟩) (by assumption) ?_
    refine held_at (a' := { tmps := #[Value.agg #[.int .u32 c, .int .i64 O, .int .i64 I, .int .i64 T, .int .u32 n], Value.slice a len cap, Value.pointer (some ⟨w.heap.size, 0, none⟩), undef, Value.bool false, Value.slice (some ⟨g, 0, none⟩) 14 14, Value.int .i64 0, Value.slice a3 14 c3, Value.int .i64 0, Value.int .u32 (k : Nat), Value.int .i64 0, Value.slice (some ⟨gs, 0, none⟩) 4 4, Value.bool D, Value.int .i64 0, Value.bool true, Value.int .i64 0, Value.bool false, u17, u18, u19, u20, u21, u22, u23, u24, u25, u26, u27, u28, u29, u30, u31, u32, u33, u34, u35, u36, u37, u38, u39, u40, u41, u42, u43, u44, u45, u46, u47, u48, u49, u50, u51, u52, u53, u54, u55, u56, u57, u58, u59, u60, u61, u62, u63, u64, u65, u66, u67, u68, u69, u70, u71, u72, u73, u74, u75, u76, u77, u78, u79, u80, u81, u82, u83, u84, u85, u86, u87, u88, u89, u90, u91, u92, u93, u94, u95, Value.int .u32 (k : Nat), Value.slice (some ⟨g11, 0, none⟩) 4 4, Value.string Y, Value.slice (some ⟨gs, 0, none⟩) 4 4, Value.string Y, Value.bool true, Value.bool true, Value.int .u32 (k : Nat), Value.slice (some ⟨g, 0, none⟩) 14 14, u105, u106, u107, u108, u109, u110, u111, u112, u113, u114, u115, u116, u117, u118, u119, u120, u121, u122, u123], defers := [] }) (l' := #[true, true, true, true, true, true, true, true, true, false, false, false, false, false, false, false, false, false, false, false, false, false, false, false, false, false, false, false, false]) (by kernel_rfl) (by kernel_rfl) ?_
    refine held_call (i := 9) 15 #[.slice (some ⟨g, 0, none⟩) 14 14] (by kernel_rfl) rfl (by kernel_rfl) (by go_simp) ?_
    refine (fB11).mono ?_
    rintro e w12 ⟨rfl, hw⟩
    subst hw
    refine ⟨_, rfl, HS11, ?_⟩
    refine held_at (a' := { tmps := #[Value.agg #[.int .u32 c, .int .i64 O, .int .i64 I, .int .i64 T, .int .u32 n], Value.slice a len cap, Value.pointer (some ⟨w.heap.size, 0, none⟩), undef, Value.bool false, Value.slice (some ⟨g, 0, none⟩) 14 14, Value.int .i64 0, Value.slice a3 14 c3, Value.int .i64 0, Value.int .u32 (k : Nat), Value.int .i64 0, Value.slice (some ⟨gs, 0, none⟩) 4 4, Value.bool D, Value.int .i64 0, Value.bool true, Value.int .i64 0, Value.bool false, u17, u18, u19, u20, u21, u22, u23, u24, u25, u26, u27, u28, u29, u30, u31, u32, u33, u34, u35, u36, u37, u38, u39, u40, u41, u42, u43, u44, u45, u46, u47, u48, u49, u50, u51, u52, u53, u54, u55, u56, u57, u58, u59, u60, u61, u62, u63, u64, u65, u66, u67, u68, u69, u70, u71, u72, u73, u74, u75, u76, u77, u78, u79, u80, u81, u82, u83, u84, u85, u86, u87, u88, u89, u90, u91, u92, u93, u94, u95, Value.int .u32 (k : Nat), Value.slice (some ⟨g11, 0, none⟩) 4 4, Value.string Y, Value.slice (some ⟨gs, 0, none⟩) 4 4, Value.string Y, Value.bool true, Value.bool true, Value.int .u32 (k : Nat), Value.slice (some ⟨g, 0, none⟩) 14 14, Value.int .u32 (k : Nat), u106, u107, u108, u109, u110, u111, u112, u113, u114, u115, u116, u117, u118, u119, u120, u121, u122, u123], defers := [] }) (l' := #[true, true, true, true, true, true, true, true, true, true, false, false, false, false, false, false, false, false, false, false, false, false, false, false, false, false, false, false, false]) (by kernel_rfl) (by kernel_rfl) ?_
    refine wpAnyH_take (i := 10) (v := Value.bool true) rfl (by kernel_rfl) (by kernel_rfl) (by kernel_rfl) (fun _ _ _ h => h) (Or.inl ⟨by kernel_rfl, fun w hSw => by go_simp⟩) (by assumption) ?_
    refine wpAnyH_take (i := 11) (v := Value.bool true) rfl (by kernel_rfl) (by kernel_rfl) (by kernel_rfl) (fun _ _ _ h => h) (Or.inl ⟨by kernel_rfl, fun w hSw => by go_simp⟩) (by assumption) ?_
    refine wpAnyH_take (i := 12) (v := Value.bool true) rfl (by kernel_rfl) (by kernel_rfl) (by kernel_rfl) (fun _ _ _ h => h) (Or.inl ⟨by kernel_rfl, fun w hSw => by go_simp⟩) (by assumption) ?_
    refine wpAnyH_take (i := 13) (v := Value.bool D) rfl (by kernel_rfl) (by kernel_rfl) (by kernel_rfl) (fun _ _ _ h => h) (Or.inl ⟨by kernel_rfl, fun w hSw => by go_simp⟩) (by assumption) ?_
    refine wpAnyH_take (i := 14) (v := Value.slice a len cap) rfl (by kernel_rfl) (by kernel_rfl) (by kernel_rfl) (fun _ _ _ h => h) (Or.inl ⟨by kernel_rfl, fun w hSw => by go_simp⟩) (by assumption) ?_
    refine wpAnyH_take (i := 15) (v := Value.string Z) rfl (by kernel_rfl) (by kernel_rfl) (by kernel_rfl) (fun _ _ _ h => h) (Or.inl ⟨by kernel_rfl, fun w hSw => by go_simp⟩) (by assumption) ?_
    refine wpAnyH_take (i := 16) (v := Value.slice (some ⟨gs, 0, none⟩) 4 4) rfl (by kernel_rfl) (by kernel_rfl) (by kernel_rfl) (fun _ _ _ h => h) (Or.inl ⟨by kernel_rfl, fun w hSw => by go_simp⟩) (by assumption) ?_
    refine wpAnyH_take (i := 17) (v := Value.string Y) rfl (by kernel_rfl) (by kernel_rfl) (by kernel_rfl) (fun _ _ _ h => h) (Or.inl ⟨by kernel_rfl, fun w hSw => by go_simp⟩) (by assumption) ?_
    refine wpAnyH_take (i := 18) (v := Value.bool D) rfl (by kernel_rfl) (by kernel_rfl) (by kernel_rfl) (fun _ _ _ h => h) (Or.inl ⟨by kernel_rfl, fun w hSw => by go_simp⟩) (by assumption) ?_
    refine wpAnyH_take (i := 19) (v := Value.bool true) rfl (by kernel_rfl) (by kernel_rfl) (by kernel_rfl) (fun _ _ _ h => h) (Or.inl ⟨by kernel_rfl, fun w hSw => by go_simp⟩) (by assumption) ?_
    refine wpAnyH_take (i := 20) (v := Value.bool true) rfl (by kernel_rfl) (by kernel_rfl) (by kernel_rfl) (fun _ _ _ h => h) (Or.inl ⟨by kernel_rfl, fun w hSw => by go_simp⟩) (by assumption) ?_
    refine wpAnyH_take (i := 21) (v := Value.bool true) rfl (by kernel_rfl) (by kernel_rfl) (by kernel_rfl) (fun _ _ _ h => h) (Or.inl ⟨by kernel_rfl, fun w hSw => by go_simp⟩) (by assumption) ?_
    refine wpAnyH_take (i := 22) (v := Value.bool true) rfl (by kernel_rfl) (by kernel_rfl) (by kernel_rfl) (fun _ _ _ h => h) (Or.inl ⟨by kernel_rfl, fun w hSw => by go_simp⟩) (by assumption) ?_
    refine wpAnyH_take (i := 23) (v := Value.bool true) rfl (by kernel_rfl) (by kernel_rfl) (by kernel_rfl) (fun _ _ _ h => h) (Or.inl ⟨by kernel_rfl, fun w hSw => by go_simp⟩) (by assumption) ?_
    refine wpAnyH_take (i := 24) (v := Value.bool true) rfl (by kernel_rfl) (by kernel_rfl) (by kernel_rfl) (fun _ _ _ h => h) (Or.inl ⟨by kernel_rfl, fun w hSw => by go_simp⟩) (by assumption) ?_
    refine wpAnyH_take (i := 25) (v := Value.bool false) rfl (by kernel_rfl) (by kernel_rfl) (by kernel_rfl) (fun _ _ _ h => h) (Or.inl ⟨by kernel_rfl, fun w hSw => by go_simp⟩) (by assumption) ?_
    refine wpAnyH_take (i := 26) (v := Value.bool true) rfl (by kernel_rfl) (by kernel_rfl) (by kernel_rfl) (fun _ _ _ h => h) (Or.inl ⟨by kernel_rfl, fun w hSw => by go_simp⟩) (by assumption) ?_
    refine wpAnyH_take (i := 27) (v := Value.bool true) rfl (by kernel_rfl) (by kernel_rfl) (by kernel_rfl) (fun _ _ _ h => h) (Or.inl ⟨by kernel_rfl, fun w hSw => by go_simp⟩) (by assumption) ?_
    refine wpAnyH_take (i := 28) (v := Value.bool true) rfl (by kernel_rfl) (by kernel_rfl) (by kernel_rfl) (fun _ _ _ h => h) (Or.inl ⟨by kernel_rfl, fun w hSw => by go_simp⟩) (by assumption) ?_
    refine held_at (a' := { tmps := #[Value.agg #[.int .u32 c, .int .i64 O, .int .i64 I, .int .i64 T, .int .u32 n], Value.slice a len cap, Value.pointer (some ⟨w.heap.size, 0, none⟩), undef, Value.bool true, Value.slice (some ⟨g, 0, none⟩) 14 14, Value.int .i64 0, Value.slice a3 14 c3, Value.int .i64 0, Value.int .u32 (k : Nat), Value.int .i64 0, Value.slice (some ⟨gs, 0, none⟩) 4 4, Value.bool D, Value.int .i64 0, Value.bool true, Value.int .i64 0, Value.bool false, u17, u18, u19, u20, u21, u22, u23, u24, u25, u26, u27, u28, u29, u30, u31, u32, u33, u34, u35, u36, u37, u38, u39, u40, u41, u42, u43, u44, u45, u46, u47, u48, u49, u50, u51, u52, u53, u54, u55, u56, u57, u58, u59, u60, u61, u62, u63, u64, u65, u66, u67, u68, u69, u70, u71, u72, u73, u74, u75, u76, u77, u78, u79, u80, u81, u82, u83, u84, u85, u86, u87, u88, u89, u90, u91, u92, u93, u94, u95, Value.int .u32 (k : Nat), Value.slice (some ⟨g11, 0, none⟩) 4 4, Value.string Y, Value.slice (some ⟨gs, 0, none⟩) 4 4, Value.string Y, Value.bool true, Value.bool true, Value.int .u32 (k : Nat), Value.slice (some ⟨g, 0, none⟩) 14 14, Value.int .u32 (k : Nat), Value.bool true, Value.bool true, Value.bool true, Value.bool D, Value.slice a len cap, Value.string Z, Value.slice (some ⟨gs, 0, none⟩) 4 4, Value.string Y, Value.bool D, Value.bool true, Value.bool true, Value.bool true, Value.bool true, Value.bool true, Value.bool true, Value.bool false, Value.bool true, Value.bool true], defers := [] }) (l' := #[true, true, true, true, true, true, true, true, true, true, true, true, true, true, true, true, true, true, true, true, true, true, true, true, true, true, true, true, true]) (by kernel_rfl) (by kernel_rfl) ?_
    refine wpAnyH_done (by kernel_rfl) ?_ _
    go_wp2_with fail
    go_ret
    exact ⟨rfl, HW _ (B12.out)⟩
theorem paramAnswers_good (c O I T n : Nat) (a : Option Addr) (len cap : Nat) (bs : Nat → Nat) (w : World) (hr : Row8 w a len cap bs) (h : len ≤ 1000) (hc : c < 4294967296) (hn : n < 4294967296) (hE : okP c O I T n) :
    Calls Try.prog 3 #[.agg #[.int .u32 c, .int .i64 O, .int .i64 I, .int .i64 T, .int .u32 n], .slice a len cap] w fun e w' => e = .returned (.bool true) ∧ Below w.heap.size w w' := by
  obtain ⟨_, hO, hI, _, _⟩ := id hE
  exact paramAnswers_core c O I T n _ _ bs a len cap w hr h (PM.K_lt (pe c O I T n) 14) (fun j _ => pe_lt (by omega) (by omega) j) (fun wx => pencode_good c O I T n wx hc hn hE) (fun wx => rencode_good c O I T n wx hc hn hE)
    (fun wx => check_any c O I T n wx 0 (if_pos hE)) (fun wx => psig_good c O I T n wx hc hn hE) (fun wx => rsign_good c O I T n wx hc hn hE) (fun a' l' c' f wx D hr hD => pmatch_good c O I T n a' l' c' f wx hr hc hn hE D hD)
    (fun a' c' wx hr => cbits_row a' 14 c' _ wx hr (by omega))
theorem paramAnswers_walk (a0_0 : Int) (a0_1 : Int) (a0_2 : Int) (a0_3 : Int) (a0_4 : Int) (a1 : Option Addr) (len1 cap1 : Nat) (z1 : List Int) (w : World) (w0_0 : (Lit.int .u32 a0_0).wf = true) (_ : (Lit.int .i64 a0_1).wf = true) (_ : (Lit.int .i64 a0_2).wf = true) (_ : (Lit.int .i64 a0_3).wf = true) (w0_4 : (Lit.int .u32 a0_4).wf = true) (w1 : BRow .u8 w a1 len1 cap1 z1) :
    Calls Try.prog 3 #[.agg #[.int .u32 a0_0, .int .i64 a0_1, .int .i64 a0_2, .int .i64 a0_3, .int .u32 a0_4], .slice a1 len1 cap1] w fun e w' => e = .returned (.bool true) ∧ Below w.heap.size w w' := by
  obtain ⟨c, rfl, hc⟩ := nat32P w0_0
  obtain ⟨n, rfl, hn⟩ := nat32P w0_4
  by_cases h : len1 ≤ 1000
  · by_cases hE : okP c a0_1 a0_2 a0_3 n
    · obtain ⟨_, hO, hI, hT, _⟩ := id hE
      obtain ⟨O, rfl⟩ : ∃ K : Nat, a0_1 = K := ⟨a0_1.toNat, by omega⟩
      obtain ⟨I, rfl⟩ : ∃ K : Nat, a0_2 = K := ⟨a0_2.toNat, by omega⟩
      obtain ⟨T, rfl⟩ : ∃ K : Nat, a0_3 = K := ⟨a0_3.toNat, by omega⟩
      exact paramAnswers_good c O I T n a1 len1 cap1 _ w w1.row8 h hc hn hE
    · exact paramAnswers_bad c a0_1 a0_2 a0_3 n a1 len1 cap1 _ w w1.row8 h hE
  · exact paramAnswers_long c a0_1 a0_2 a0_3 n a1 len1 cap1 w (by omega)

end Go.Proofs.Ytikdkbcekibakaa
