/- A unit with its own data. -/
import Derived.Test.YthddomhlkljlkaaUEnc2
namespace Go.Proofs.Ythddomhlkljlkaa
open Go.RowKit
theorem box_zero (w : World) (wx : World) (hb : Below (w.alloc (.cells #[.int .i64 0, .int .u32 0, .int .u32 0, .int .u32 0, .int .i64 0, .slice none 0 0] 29)).heap.size (w.alloc (.cells #[.int .i64 0, .int .u32 0, .int .u32 0, .int .u32 0, .int .i64 0, .slice none 0 0] 29)) wx) :
    Box wx w.heap.size 0 0 0 0 0 (.slice none 0 0) := box_new w 0 0 0 0 0 _ wx hb
theorem unit_frozen (w : World) (o : Array Value) (i : Nat) (wx : World) (hb : Below (w.alloc (.cells o 29)).heap.size (w.alloc (.cells o 29)) wx) : wx.frozen? ⟨w.heap.size, i, none⟩ = false := by
  rw [hb.frozen (p := ⟨w.heap.size, i, none⟩) (by simp)]
  simp
set_option maxRecDepth 100000 in
set_option maxHeartbeats 1000000 in
theorem copied_any (k : Int) (c s n : Nat) (f : Int) (a : Option Addr) (len cap : Nat) (bs : Nat → Nat) (w : World) (hr : Row8 w a len cap bs) (hlen : len ≤ 1000000) :
    Calls Try.prog 15 #[.agg #[.int .i64 k, .int .u32 c, .int .u32 s, .int .u32 n, .int .i64 f, .slice a len cap]] w fun e w' => ∃ a' cap', e = .returned (.agg #[.int .i64 k, .int .u32 c, .int .u32 s, .int .u32 n, .int .i64 f, .slice a' len cap']) ∧
      Hid (Row8 w' a' len cap' bs ∧ Below w.heap.size w w') := by
  obtain ⟨i0, hi, hz0, hz1, hz2⟩ := info_parts info_u8
  have hbd := build0
  have hX := box_new w k c s n f (.slice a len cap)
  have hXf := fun i wx hb => unit_frozen w #[.int .i64 k, .int .u32 c, .int .u32 s, .int .u32 n, .int .i64 f, .slice a len cap] i wx hb
  obtain ⟨wa, hwa⟩ : ∃ x, x = w.alloc (.cells #[.int .i64 k, .int .u32 c, .int .u32 s, .int .u32 n, .int .i64 f, .slice a len cap] 29) := ⟨_, rfl⟩
  rw [← hwa] at hX hXf
  have hA : Below w.heap.size w wa := by rw [hwa]; exact (Below.refl _ _).alloc (Nat.le_refl _) _
  have hAs : wa.heap.size = w.heap.size + 1 := by rw [hwa]; simp
  have hY := box_zero wa
  have hYf := fun i wx hb => unit_frozen wa #[.int .i64 0, .int .u32 0, .int .u32 0, .int .u32 0, .int .i64 0, .slice none 0 0] i wx hb
  obtain ⟨wb, hwb⟩ : ∃ x, x = wa.alloc (.cells #[.int .i64 0, .int .u32 0, .int .u32 0, .int .u32 0, .int .i64 0, .slice none 0 0] 29) := ⟨_, rfl⟩
  rw [← hwb] at hY hYf
  have hB : Below wa.heap.size wa wb := by rw [hwb]; exact (Below.refl _ _).alloc (Nat.le_refl _) _
  have hBs : wb.heap.size = w.heap.size + 1 + 1 := by rw [hwb, hwa]; simp
  have hC : Below wb.heap.size wb (wb.alloc (.cells #[] 5)) := (Below.refl _ _).alloc (Nat.le_refl _) _
  have O0 : (wb.alloc (.cells #[] 5)).ownsRow wb.heap.size 5 1 (.slice (some ⟨wb.heap.size, 0, none⟩) 0 0) 0 (CB bs 0) := World.ownsRow_made wb #[] 0 (Nat.le_refl _) (Nat.zero_le _) rfl
  have hszC := hC.size
  have R0 := ((hr.below hA).below hB).below hC
  rw [hAs] at hY hYf
  go_enter Try.func15, Try.ntmps15
  go_upto_region 1 with fail
  rw [← hwa, ← hwb]
  have H0 : Hid (_) := And.intro hwa (And.intro hwb (And.intro hAs hBs))
  clear hwa hwb
  have x5 := (hX (wb.alloc (.cells #[] 5)) ((hB.trans (hC.mono (by omega))))).c5
  clear hAs hBs
  go_wp2_with (at_builtin; refine wpList_append_row8 rfl (.tmp 3) (.tmp 5) 27 rfl wb.heap.size 5 i0 (.int .u8 0) Try.underlying27 hi hz0 hz1 hz2 rfl _ 0 _ rfl O0 a len cap bs rfl R0 (by unfold maxLen; omega) (by omega) hszC ?_)
  intro v2 w2 hown2 hgrow2
  have hbel2 : Below wb.heap.size wb w2 := hC.grown hgrow2 hszC (fun j hj => (O0.lt j hj).1)
  rw [show CB bs 0 = [] from rfl, List.nil_append] at hown2
  have hlt : w.heap.size < wb.heap.size ∧ w.heap.size + 1 < wb.heap.size := by have := H0.out; omega
  have hbelA : Below wa.heap.size wa w2 := hB.trans (hbel2.mono (by have := H0.out; omega))
  have X2 := hX w2 hbelA
  have Y2 := hY w2 hbel2
  have xf := fun i => hXf i w2 hbelA
  have yf := fun i => hYf i w2 hbel2
  obtain ⟨x0, x1, x2, x3, x4, x5'⟩ := X2
  obtain ⟨y0, y1, y2, y3, y4, y5⟩ := Y2
  obtain ⟨a2, c2, rfl, R2⟩ := own_row8 hown2 hr.byte
  have HR : Hid (w2.ownsRow wb.heap.size 5 1 (.slice a2 len c2) len (CB bs len) ∧ Below wb.heap.size wb w2) := ⟨hown2, hbel2⟩
  clear hgrow2 O0 R0 hC hszC hX hY hXf hYf x5 hown2 R2 hbel2 hbelA hbd
  go_wp2_with fail
  refine bodyPost_ret (v := .agg #[.int .i64 k, .int .u32 c, .int .u32 s, .int .u32 n, .int .i64 f, .slice a2 len c2]) (by simp [results, Try.results15, go_sem, y0, y1, y2, y3, y4, y5]) rfl ⟨a2, c2, rfl, ?_, ?_⟩
  · obtain ⟨a3, c3, e, R3⟩ := own_row8 (ownsRow_setCell_below (ownsRow_setCell_below (ownsRow_setCell_below (ownsRow_setCell_below (ownsRow_setCell_below (ownsRow_setCell_below (ownsRow_setCell_below HR.out.1 (a := ⟨w.heap.size, 5, none⟩) hlt.1 _) (a := ⟨w.heap.size + 1, 0, none⟩) hlt.2 _) (a := ⟨w.heap.size + 1, 1, none⟩) hlt.2 _) (a := ⟨w.heap.size + 1, 2, none⟩) hlt.2 _) (a := ⟨w.heap.size + 1, 3, none⟩) hlt.2 _) (a := ⟨w.heap.size + 1, 4, none⟩) hlt.2 _) (a := ⟨w.heap.size + 1, 5, none⟩) hlt.2 _) hr.byte
    simp only [Value.slice.injEq, true_and] at e
    obtain ⟨rfl, rfl⟩ := e
    exact R3
  · have hb : Below w.heap.size w w2 := (hA.trans (hB.mono (by have := H0.out; omega))).trans (HR.out.2.mono (by omega))
    exact ((((((hb.setCell (p := ⟨w.heap.size, 5, none⟩) (Nat.le_refl _) _).setCell (p := ⟨w.heap.size + 1, 0, none⟩) (Nat.le_succ _) _).setCell (p := ⟨w.heap.size + 1, 1, none⟩) (Nat.le_succ _) _).setCell (p := ⟨w.heap.size + 1, 2, none⟩) (Nat.le_succ _) _).setCell (p := ⟨w.heap.size + 1, 3, none⟩) (Nat.le_succ _) _).setCell (p := ⟨w.heap.size + 1, 4, none⟩) (Nat.le_succ _) _).setCell (p := ⟨w.heap.size + 1, 5, none⟩) (Nat.le_succ _) _

end Go.Proofs.Ythddomhlkljlkaa
