/- Part 6 of the texts on which the proofs of layer 13 rest: contracts of Go functions. -/
import Derived.Test.YtpgdghjlfdehjaaGreatProg
import Derived.WalkKit
import Derived.WalkSpells
import Derived.OpenShut
import Derived.Laws.BitsAllLaws
import Derived.Laws.Pointers
import Derived.Laws.LoneSync
import Derived.Laws.NewBlocks
import Derived.Lib.Builder
import Derived.RegionTactic
import Derived.RegionCalls
import Derived.Deep.DeepCutAuto
import Derived.Deep.RegionWith
import Derived.Deep.QuietTactic
import Derived.Test.YtpgdghjlfdehjaaGreatPkH02
import Derived.Test.YtpgdghjlfdehjaaGreatPkH04
namespace Go.Proofs.YtpgdghjlfdehjaaGreat
set_option maxRecDepth 100000
open Go.RowKit
def RV (m mx v : Nat) (dead : Bool) : Array Value := #[.pointer (some ⟨m, 0, none⟩), .int .u32 (mx : Nat), .int .u32 (v : Nat), .bool dead]
structure RX (w : World) (d m mx v : Nat) (dead : Bool) : Prop where
  at_ : w.heap[d]? = some (.cells (RV m mx v dead) 191 (0, 0))
section
variable {w w' : World} {d m mx v : Nat} {dead : Bool}
theorem RX.lt (h : RX w d m mx v dead) : d < w.heap.size := (Array.getElem?_eq_some_iff.1 h.at_).1
theorem RX.off {l : List Nat} (h : RX w d m mx v dead) (q : Off l w w') (hd : d ∉ l) : RX w' d m mx v dead := ⟨(q.block d h.lt hd).trans h.at_⟩
theorem RX.cells (h : RX w d m mx v dead) : w.cell? ⟨d, 0, none⟩ = some (.pointer (some ⟨m, 0, none⟩)) ∧ w.cell? ⟨d, 1, none⟩ = some (.int .u32 (mx : Nat)) ∧ w.cell? ⟨d, 2, none⟩ = some (.int .u32 (v : Nat)) ∧ w.cell? ⟨d, 3, none⟩ = some (.bool dead) ∧ ∀ j, w.frozen? ⟨d, j, none⟩ = false :=
  ⟨cell_of_row w d 0 _ _ _ h.at_, cell_of_row w d 1 _ _ _ h.at_, cell_of_row w d 2 _ _ _ h.at_, cell_of_row w d 3 _ _ _ h.at_, fun j => frozen_of_row w d j _ _ h.at_⟩
theorem RX.drewN (h : RX w d m mx v dead) (k : Nat) : RX (w.drewN k) d m mx v dead := h.off (Off.drewN [] _ k) (by simp)
end
end Go.Proofs.YtpgdghjlfdehjaaGreat
namespace Go.Proofs.YtpgdghjlfdehjaaGreat
set_option maxRecDepth 100000
open Go.RowKit
end Go.Proofs.YtpgdghjlfdehjaaGreat
namespace Go.Proofs.YtpgdghjlfdehjaaGreat
set_option maxRecDepth 100000
open Go.RowKit
def opE (mx n : Nat) (s : Ms) : Int := if mx = 0 ∨ n < 10 then 2 else if s.off then 70 else sqE n (mend s.bs) s
def opS (mx n : Nat) (s : Ms) : Ms := if mx = 0 ∨ n < 10 then s else if s.off then s else sqS n (mend s.bs) s
structure Nx where
  v : Nat
  e : Int
  s : Ms
  z : Nat → Nat
  c : Bool
def nx (mx n : Nat) (z : Nat → Nat) (cut : Bool) (s : Ms) : Nx :=
  if cut = true ∨ s.off = true then ⟨0, 70, s, z, cut⟩ else if mx ≤ vz z then ⟨0, 80, s, z, cut⟩ else
  if sqE n (six (tg z) (vz z + 1)) s = 0 then ⟨vz z + 1, 0, sqS n (six (tg z) (vz z + 1)) s, (sqS n (six (tg z) (vz z + 1)) s).bs, false⟩ else ⟨0, 70, sqS n (six (tg z) (vz z + 1)) s, z, true⟩
theorem sqE_val {n : Nat} {l : List (Nat × Nat)} {s : Ms} (hin : ∀ x, x ∈ l → x.1 < n ∧ x.2 < 256) (ho : s.off = false) (hl : 0 ≤ s.l) : sqE n l s = 0 ∨ sqE n l s = 70 := by
  rcases sq_all n l s (fun x hx => (hin x hx).1) ho hl with ⟨h, _⟩ | ⟨h, _⟩
  · exact .inl h
  · exact .inr h
theorem popen (m g n mx : Nat) (s : Ms) (w : World) (hM : MR w m g n s) (ht : s.t < 9223372036854774000) :
    Calls Tryz.prog 57 #[.pointer (some ⟨m, 0, none⟩), .int .u32 (mx : Nat)] w fun e w' => ∃ p, e = .returned (.tuple #[.pointer p, .int .i64 (opE mx n s)]) ∧ Hid (Off [m, g] w w' ∧ MR w' m g n (opS mx n s) ∧
      (opE mx n s = 0 → ∃ c, p = some ⟨c, 0, none⟩ ∧ w.heap.size ≤ c ∧ CS w' c m mx (opS mx n s).bs false) ∧ (¬ opE mx n s = 0 → p = none)) := by
  unfold opE opS
  by_cases h1 : mx = 0 ∨ n < 10
  · rw [if_pos h1, if_pos h1]
    refine (open_no m g n mx s w hM h1).mono ?_
    rintro e w' ⟨rfl, rfl⟩
    exact ⟨_, rfl, Off.refl _ _, hM, fun h => by omega, fun _ => rfl⟩
  · rw [if_neg h1, if_neg h1]
    by_cases ho : s.off = true
    · rw [if_pos ho, if_pos ho]
      refine (open_off m g n mx s w hM (by omega) (by omega) ho).mono ?_
      rintro e w' ⟨rfl, o, M⟩
      exact ⟨_, rfl, o, M, fun h => by omega, fun _ => rfl⟩
    · rw [if_neg ho, if_neg ho]
      refine (open_go m g n mx s w hM (by omega) (by omega) (by simpa using ho) (by omega)).mono ?_
      rintro e w' ⟨p, rfl, H⟩
      obtain ⟨o, M, C, D⟩ := H.out
      exact ⟨p, rfl, o, M, fun h => ⟨_, (C h).1, Nat.le_refl _, (C h).2⟩, D⟩
theorem opened (m g n mx : Nat) (s : Ms) (w : World) (hM : MR w m g n s) (h : opE mx n s = 0) : mx ≠ 0 ∧ 10 ≤ n ∧ vz (opS mx n s).bs = vz s.bs := by
  unfold opE at h
  unfold opS
  by_cases h1 : mx = 0 ∨ n < 10
  · rw [if_pos h1] at h; omega
  · rw [if_neg h1] at h ⊢
    by_cases ho : s.off = true
    · rw [if_pos ho] at h; omega
    · rw [if_neg ho] at h ⊢
      refine ⟨by omega, by omega, ?_⟩
      rw [sq_bs (mend_in s.bs n (by omega)) (by simpa using ho) hM.l0 h]
      have q := vz_mend s.bs 6 (fun i hi => hM.byte i (by omega))
      rwa [List.take_of_length_le (mend_len s.bs)] at q
theorem pnext (c m g n mx : Nat) (z : Nat → Nat) (cut : Bool) (s : Ms) (w : World) (hM : MR w m g n s) (hC : CS w c m mx z cut) (hz : Bz z) (hzs : cut = false → z = s.bs) (hcm : c ≠ m) (hcg : c ≠ g) (hn : 10 ≤ n) (hx : mx < 4294967296) (ht : s.t < 9223372036854774000) :
    Calls Tryz.prog 252 #[.pointer (some ⟨c, 0, none⟩)] w fun e w' => e = .returned (.tuple #[.int .u32 ((nx mx n z cut s).v : Nat), .int .i64 (nx mx n z cut s).e]) ∧
      (Off [m, g, c] w w' ∧ MR w' m g n (nx mx n z cut s).s ∧ CS w' c m mx (nx mx n z cut s).z (nx mx n z cut s).c) := by
  unfold nx
  by_cases h1 : cut = true ∨ s.off = true
  · rw [if_pos h1]
    refine (next_cut c m g n mx z cut s w hM hC h1).mono ?_
    rintro e w' ⟨rfl, rfl⟩
    exact ⟨rfl, Off.refl _ _, hM, hC⟩
  · rw [if_neg h1]
    have hc : cut = false := by cases cut <;> simp at h1 ⊢
    have ho : s.off = false := by cases hh : s.off <;> simp [hh] at h1 ⊢
    subst hc
    by_cases h2 : mx ≤ vz z
    · rw [if_pos h2]
      refine (next_full c m g n mx z s w hM hC hz ho h2).mono ?_
      rintro e w' ⟨rfl, rfl⟩
      exact ⟨rfl, Off.refl _ _, hM, hC⟩
    · rw [if_neg h2]
      obtain rfl := hzs rfl
      have q := next_go c m g n mx s w hM hC hcm hcg hn hx ho (by omega) (by omega)
      by_cases h3 : sqE n (six (tg s.bs) (vz s.bs + 1)) s = 0
      · rw [if_pos h3]
        rw [if_pos h3] at q
        refine q.mono ?_
        rintro e w' ⟨rfl, o, M, C, _⟩
        exact ⟨by rw [h3], o, M, C h3⟩
      · rw [if_neg h3]
        rw [if_neg h3] at q
        have h4 := (sqE_val (six_in (tg s.bs) (vz s.bs + 1) n (tg_lt _) hn) ho hM.l0).resolve_left h3
        refine q.mono ?_
        rintro e w' ⟨rfl, o, M, _, C⟩
        exact ⟨by rw [h4], o, M, C h3⟩
end Go.Proofs.YtpgdghjlfdehjaaGreat
namespace Go.Proofs.YtpgdghjlfdehjaaGreat
set_option maxRecDepth 100000
open Go.RowKit
section
variable {P : Program} {f : FuncId} {fn : Func}
end
theorem u64_load (a : Addr) (d : Int) (w : World) (h0 : w.cell? a = some (.int .u64 d)) :
    Calls Tryz.prog 202 #[.pointer (some a)] w fun e w' => e = .returned (.int .u64 d) ∧ w' = w := by
  have hl := run_call_load (P := Tryz.prog) Tryz.func233 (by kernel_rfl) (by kernel_rfl) (by kernel_rfl) .u64 (by kernel_rfl) h0
  go_enter Tryz.func202, Tryz.ntmps202
  go_wp2
  go_ret
  exact ⟨rfl, rfl⟩
theorem u64_cas (a : Addr) (x y : Int) (w : World) (h0 : w.cell? a = some (.int .u64 x)) (hz : w.frozen? a = false) :
    Calls Tryz.prog 230 #[.pointer (some a), .int .u64 x, .int .u64 y] w fun e w' => e = .returned (.bool true) ∧ w' = w.setCell a (.int .u64 y) := by
  have hl := run_call_cas_hit (P := Tryz.prog) Tryz.func253 (by kernel_rfl) (by kernel_rfl) (by kernel_rfl) .u64 (by kernel_rfl) (y := y) h0 hz
  go_enter Tryz.func230, Tryz.ntmps230
  go_wp2
  go_ret
  exact ⟨rfl, rfl⟩
theorem i64_load (a : Addr) (d : Int) (w : World) (h0 : w.cell? a = some (.int .i64 d)) :
    Calls Tryz.prog 125 #[.pointer (some a)] w fun e w' => e = .returned (.int .i64 d) ∧ w' = w := by
  have hl := run_call_load (P := Tryz.prog) Tryz.func180 (by kernel_rfl) (by kernel_rfl) (by kernel_rfl) .i64 (by kernel_rfl) h0
  go_enter Tryz.func125, Tryz.ntmps125
  go_wp2
  go_ret
  exact ⟨rfl, rfl⟩
theorem i64_store (a : Addr) (x y : Int) (w : World) (h0 : w.cell? a = some (.int .i64 x)) (hz : w.frozen? a = false) :
    Calls Tryz.prog 236 #[.pointer (some a), .int .i64 y] w fun e w' => e = .returned (.tuple #[]) ∧ w' = w.setCell a (.int .i64 y) := by
  have hl := run_call_store (P := Tryz.prog) Tryz.func254 (by kernel_rfl) (by kernel_rfl) (by kernel_rfl) (by kernel_rfl) (k := .i64) (y := y) h0 hz
  go_enter Tryz.func236, Tryz.ntmps236
  go_wp2
  go_end0
  exact ⟨rfl, rfl⟩
end Go.Proofs.YtpgdghjlfdehjaaGreat
namespace Go.Proofs.YtpgdghjlfdehjaaGreat
set_option maxRecDepth 100000
open Go.RowKit
def DC (l c : Nat) : Array Value := #[.int .i64 l, .int .i64 c]
structure DR (w : World) (b l c : Nat) : Prop where
  at_ : w.heap[b]? = some (.cells (DC l c) 199 (0, 0))
  lo : 1 ≤ l
  hi : l ≤ 1048576
  le : c ≤ l
section
variable {w w' : World} {b l c : Nat}
theorem DR.lt (h : DR w b l c) : b < w.heap.size := (Array.getElem?_eq_some_iff.1 h.at_).1
theorem DR.c0 (h : DR w b l c) : w.cell? ⟨b, 0, none⟩ = some (.int .i64 l) := cell_of_row w b 0 _ _ _ h.at_
theorem DR.c1 (h : DR w b l c) : w.cell? ⟨b, 1, none⟩ = some (.int .i64 c) := cell_of_row w b 1 _ _ _ h.at_
theorem DR.fz (h : DR w b l c) (j : Nat) : w.frozen? ⟨b, j, none⟩ = false := frozen_of_row w b j _ _ h.at_
theorem DR.off {m : List Nat} (h : DR w b l c) (q : Off m w w') (hb : b ∉ m) : DR w' b l c := ⟨(q.block b h.lt hb).trans h.at_, h.lo, h.hi, h.le⟩
theorem DR.set (h : DR w b l c) (x : Nat) (hx : x ≤ l) : DR (w.setCell ⟨b, 1, none⟩ (.int .i64 x)) b l x := ⟨heap_setCell_same _ _ _ _ _ _ h.at_, h.lo, h.hi, hx⟩
theorem DR.drewN (h : DR w b l c) (k : Nat) : DR (w.drewN k) b l c := h.off (Off.drewN [] _ k) (by simp)
end
def tk (l c n : Nat) : Nat := c + min n (l - c)
def told (l c n : Nat) : Bool := decide (c < l ∧ l ≤ c + n)
theorem wnew_ok (l : Nat) (w : World) (h1 : 1 ≤ l) (h2 : l ≤ 1048576) :
    Calls Tryz.prog 118 #[.int .i64 l] w fun e w' => e = .returned (.tuple #[.pointer (some ⟨w.heap.size, 0, none⟩), .int .i64 0]) ∧ (Off [] w w' ∧ DR w' w.heap.size l 0) := by
  go_enter Tryz.func118, Tryz.ntmps118
  go_wp2
  go_ret2
  exact ⟨rfl, Off.alloc _ _ _, ⟨heap_alloc_new w _, h1, h2, Nat.zero_le _⟩⟩
theorem wfeed_any (l c b : Nat) (w : World) (h : DR w b l c) :
    Calls Tryz.prog 210 #[.pointer (some ⟨b, 0, none⟩)] w fun e w' => e = .returned (.tuple #[]) ∧ (Off [b] w w' ∧ DR w' b l 0) := by
  have hs := i64_store ⟨b, 1, none⟩ c 0 w h.c1 (h.fz 1)
  have hk : Hid (Off [b] w (w.setCell ⟨b, 1, none⟩ (.int .i64 ((0 : Nat) : Int))) ∧ DR (w.setCell ⟨b, 1, none⟩ (.int .i64 ((0 : Nat) : Int))) b l 0) := ⟨Off.setCell _ _ _ _, h.set _ (Nat.zero_le _)⟩
  clear h
  go_enter Tryz.func210, Tryz.ntmps210
  go_wp2_with fail
  refine hs.mono ?_
  rintro e w' ⟨rfl, hw⟩
  have hj : Hid (Off [b] w w' ∧ DR w' b l 0) := by rw [hw]; exact hk
  clear hk hs hw
  go_wp2_with fail
  go_end0
  exact ⟨rfl, hj.out⟩
theorem wsince_any (l c b : Nat) (w : World) (h : DR w b l c) :
    Calls Tryz.prog 63 #[.pointer (some ⟨b, 0, none⟩)] w fun e w' => e = .returned (.int .i64 c) ∧ w' = w := by
  have hl := i64_load _ _ w h.c1
  clear h
  go_enter Tryz.func63, Tryz.ntmps63
  go_wp2_with (go_at_call 125; refine hl.mono ?_; rintro e w' ⟨rfl, rfl⟩)
  go_ret
  exact ⟨rfl, rfl⟩
end Go.Proofs.YtpgdghjlfdehjaaGreat
