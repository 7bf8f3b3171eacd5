/- The walk of the statement ParamAnswers. -/
import Derived.Test.YtikdkbcekibakaaPar7
namespace Go.Proofs.Ytikdkbcekibakaa
open Go.RowKit
set_option maxRecDepth 100000 in
set_option maxHeartbeats 1000000 in
theorem paramAnswers_long (c : Nat) (o i t : Int) (n : Nat) (a : Option Addr) (len cap : Nat) (w : World) (h : 1000 < len) :
    Calls Try.prog 3 #[.agg #[.int .u32 c, .int .i64 o, .int .i64 i, .int .i64 t, .int .u32 n], .slice a len cap] w fun e w' => e = .returned (.bool true) ∧ Below w.heap.size w w' := by
  have hA : Below w.heap.size w (w.alloc (.cells #[.int .u32 c, .int .i64 o, .int .i64 i, .int .i64 t, .int .u32 n] 24)) := (Below.refl _ _).alloc (Nat.le_refl _) _
  have hw := awake9 (w.alloc (.cells #[.int .u32 c, .int .i64 o, .int .i64 i, .int .i64 t, .int .u32 n] 24))
  have q : decide ((1000 : Int) < (len : Int)) = true := by simp; omega
  clear h
  go_enter Try.func3, Try.ntmps3
  go_wp2_with fail
  refine hw.mono ?_
  rintro e w1 ⟨rfl, hb1⟩
  have hb2 := below_all hA hA.size hb1
  clear hw hA hb1
  go_wp2_with fail
  go_ret
  exact ⟨rfl, hb2⟩
set_option maxRecDepth 100000 in
set_option maxHeartbeats 2000000 in
theorem paramAnswers_bad (c : Nat) (o i t : Int) (n : Nat) (a : Option Addr) (len cap : Nat) (bs : Nat → Nat) (w : World) (hr : Row8 w a len cap bs) (h : len ≤ 1000) (hE : ¬ okP c o i t n) :
    Calls Try.prog 3 #[.agg #[.int .u32 c, .int .i64 o, .int .i64 i, .int .i64 t, .int .u32 n], .slice a len cap] w fun e w' => e = .returned (.bool true) ∧ Below w.heap.size w w' := by
  have hA : Below w.heap.size w (w.alloc (.cells #[.int .u32 c, .int .i64 o, .int .i64 i, .int .i64 t, .int .u32 n] 24)) := (Below.refl _ _).alloc (Nat.le_refl _) _
  have hAs : w.heap.size < (w.alloc (.cells #[.int .u32 c, .int .i64 o, .int .i64 i, .int .i64 t, .int .u32 n] 24)).heap.size := by simp
  have hrA := hr.below hA
  have hX := bx_new w c o i t n
  have hw := awake9 (w.alloc (.cells #[.int .u32 c, .int .i64 o, .int .i64 i, .int .i64 t, .int .u32 n] 24))
  have q : decide ((1000 : Int) < (len : Int)) = false := by simp; omega
  have fE := fun wx => pencode_bad c o i t n wx hE
  have fR := fun wx => rencode_bad c o i t n wx hE
  have fC := fun wx => check_any c o i t n wx 90 (if_neg hE)
  have fS := fun wx => psig_bad c o i t n wx hE
  have fG := fun wx => rsign_bad c o i t n wx hE
  have fM := fun a' l' c' wx => pmatch_bad c o i t n a' l' c' wx hE
  clear hE hr
  go_enter Try.func3, Try.ntmps3
  go_wp2_with fail
  generalize w.alloc (.cells #[.int .u32 c, .int .i64 o, .int .i64 i, .int .i64 t, .int .u32 n] 24) = wa at *
  refine hw.mono ?_
  rintro e w1 ⟨rfl, hb1⟩
  obtain ⟨x0, x1, x2, x3, x4⟩ := hX w1 hb1
  clear hw
  go_wp2_with fail
  refine (fE w1).mono ?_
  rintro e w2 ⟨rfl, hb2'⟩
  have hb2 := below_all hb1 hb1.size hb2'
  clear x0 x1 x2 x3 x4 hb1 hb2' fE
  obtain ⟨x0, x1, x2, x3, x4⟩ := hX w2 hb2
  go_wp2_with fail
  refine (fR w2).mono ?_
  rintro e w3 ⟨rfl, hb3'⟩
  have hb3 := below_all hb2 hb2.size hb3'
  clear x0 x1 x2 x3 x4 hb2 hb3' fR
  obtain ⟨x0, x1, x2, x3, x4⟩ := hX w3 hb3
  have k1 := conv_any none 0 0 (fun _ => 0) w3 ⟨fun i hi => by omega, fun _ => ⟨rfl, rfl⟩, (fun x hx => by cases hx), Nat.le_refl _⟩
  generalize BA (fun _ => 0) 0 = X at *
  go_wp2_with fail
  refine (fC w3).mono ?_
  rintro e w4 ⟨rfl, hb4'⟩
  have hb4 := below_all hb3 hb3.size hb4'
  clear x0 x1 x2 x3 x4 hb3 hb4' fC k1
  obtain ⟨x0, x1, x2, x3, x4⟩ := hX w4 hb4
  go_wp2_with fail
  refine (fS w4).mono ?_
  rintro e w5 ⟨rfl, hb5'⟩
  have hb5 := below_all hb4 hb4.size hb5'
  clear x0 x1 x2 x3 x4 hb4 hb5' fS
  obtain ⟨x0, x1, x2, x3, x4⟩ := hX w5 hb5
  go_wp2_with fail
  refine (fG w5).mono ?_
  rintro e w6 ⟨rfl, hb6'⟩
  have hb6 := below_all hb5 hb5.size hb6'
  clear x0 x1 x2 x3 x4 hb5 hb6' fG
  have X6 := hX w6 hb6
  obtain ⟨x0, x1, x2, x3, x4⟩ := id X6
  have hx6 : ∀ wx, Below w6.heap.size w6 wx → wx.cell? ⟨w.heap.size, 0, none⟩ = some (.int .u32 c) ∧ wx.cell? ⟨w.heap.size, 1, none⟩ = some (.int .i64 o) ∧ wx.cell? ⟨w.heap.size, 2, none⟩ = some (.int .i64 i) ∧ wx.cell? ⟨w.heap.size, 3, none⟩ = some (.int .i64 t) ∧ wx.cell? ⟨w.heap.size, 4, none⟩ = some (.int .u32 n) := fun wx hb => by
    obtain ⟨y0, y1, y2, y3, y4⟩ := hX wx (below_all hb6 hb6.size hb)
    exact ⟨y0, y1, y2, y3, y4⟩
  have hr6 : ∀ wx, Below w6.heap.size w6 wx → Row8 wx a len cap bs := fun wx hb => hrA.below (below_all hb6 hb6.size hb)
  go_wp2_with fail
  go_region_held3 (fun w' => w'.cell? ⟨w.heap.size, 0, none⟩ = some (.int .u32 c) ∧ w'.cell? ⟨w.heap.size, 1, none⟩ = some (.int .i64 o) ∧ w'.cell? ⟨w.heap.size, 2, none⟩ = some (.int .i64 i) ∧ w'.cell? ⟨w.heap.size, 3, none⟩ = some (.int .i64 t) ∧ w'.cell? ⟨w.heap.size, 4, none⟩ = some (.int .u32 n)) (first | assumption | exact hx6 _ (by repeat (first | with_reducible assumption | with_reducible refine below_drewN ?_ _ | with_reducible refine Below.drew ?_ | with_reducible refine belowA ?_ _ | with_reducible exact Below.refl _ _))) (first
    | (refine step_append8 rfl (.tmp 58) (.tmp 59) rfl w6.heap.size 0 len _ _ (fun _ hh => absurd hh (by omega)) rfl (own0P _ _ (Nat.le_refl _)) a len cap bs rfl (hr6 _ (by repeat (first | with_reducible assumption | with_reducible refine below_drewN ?_ _ | with_reducible refine Below.drew ?_ | with_reducible refine belowA ?_ _ | with_reducible exact Below.refl _ _))) (by omega) (by omega) w6 (by repeat (first | with_reducible assumption | with_reducible refine below_drewN ?_ _ | with_reducible refine Below.drew ?_ | with_reducible refine belowA ?_ _ | with_reducible exact Below.refl _ _)) (Nat.le_refl _) ?_; intro a7 c7 w7 H7 G7 hb7)
    | (refine step_call rfl 13 #[.tmp 57, .tmp 60] #[24, 25] rfl #[.agg #[.int .u32 c, .int .i64 o, .int .i64 i, .int .i64 t, .int .u32 n], .slice a7 len c7] _ (by kernel_rfl) (fM a7 len c7 w7) ?_; intro w8 hb8'; have hb8 := below_all hb7 hb7.size hb8'))
  have HB : Hid (_) := hA.trans ((below_all hb6 hb6.size hb8).mono (Nat.le_of_lt hAs))
  clear x0 x1 x2 x3 x4 hx6 hr6 hb6 hb7 hb8 hb8' H7 G7 fM X6 hX hA hrA hAs
  go_wp2_with fail
  go_ret
  exact ⟨rfl, HB.out⟩

end Go.Proofs.Ytikdkbcekibakaa
