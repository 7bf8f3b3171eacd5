/- Layer 8: the fixed fact; a nil cell, a nil memory. -/
import Derived.Test.YtmleiemlfogffaaGreatCell5
import Derived.Test.YtmleiemlfogffaaGreatMm3
import Derived.Test.YtmleiemlfogffaaGreatStrs
namespace Go.Proofs.YtmleiemlfogffaaGreat
set_option maxRecDepth 100000
open Go.RowKit

/-- Writes in a row into a memory that isn't armed. -/
theorem sq_free {n : Nat} {l : List (Nat × Nat)} {s : Ms} (hin : ∀ x, x ∈ l → x.1 < n ∧ x.2 < 256) (ho : s.off = false) (ha : s.ar = false) (hl : 0 ≤ s.l) :
    sqE n l s = 0 ∧ sqS n l s = ⟨lays l s.bs, false, false, s.l, s.t + l.length⟩ := by
  rcases sq_all n l s (fun x hx => (hin x hx).1) ho hl with ⟨h1, h2, _⟩ | ⟨_, _, h3, _⟩
  · rw [ha] at h2
    exact ⟨h1, by rw [h2]; simp⟩
  · rw [ha] at h3
    simp at h3
theorem next_free (c m g n mx : Nat) (z : Nat → Nat) (l t : Int) (w : World) (hM : MR w m g n ⟨z, false, false, l, t⟩) (hC : CS w c m mx z false) (hcm : c ≠ m) (hcg : c ≠ g) (hn : 10 ≤ n) (hx : mx < 4294967296) (h : vz z < mx) (ht : t < 9223372036854775000) :
    Calls Tryz.prog 197 #[.pointer (some ⟨c, 0, none⟩)] w fun e w' => e = .returned (.tuple #[.int .u32 ((vz z + 1 : Nat) : Int), .int .i64 0]) ∧
      (Off [m, g, c] w w' ∧ MR w' m g n ⟨lays (six (tg z) (vz z + 1)) z, false, false, l, t + 6⟩ ∧ CS w' c m mx (lays (six (tg z) (vz z + 1)) z) false) := by
  have q := next_go c m g n mx _ w hM hC hcm hcg hn hx rfl h ht
  obtain ⟨hE, hS⟩ := sq_free (six_in (tg z) (vz z + 1) n (tg_lt z) hn) (s := ⟨z, false, false, l, t⟩) rfl rfl hM.l0
  simp only at hE hS q
  rw [hE, hS, if_pos rfl] at q
  refine q.mono ?_
  rintro e w' ⟨rfl, o, M, C, _⟩
  exact ⟨rfl, o, M, C rfl⟩
theorem open_free (m g n mx : Nat) (z : Nat → Nat) (l t : Int) (w : World) (hM : MR w m g n ⟨z, false, false, l, t⟩) (hn : 10 ≤ n) (h0 : mx ≠ 0) (ht : t < 9223372036854775000) :
    Calls Tryz.prog 36 #[.pointer (some ⟨m, 0, none⟩), .int .u32 (mx : Nat)] w fun e w' =>
      e = .returned (.tuple #[.pointer (some ⟨w.heap.size, 0, none⟩), .int .i64 0]) ∧ (Off [m, g] w w' ∧ MR w' m g n ⟨lays (mend z) z, false, false, l, t + (mend z).length⟩ ∧ CS w' w.heap.size m mx (lays (mend z) z) false) := by
  have q := open_go m g n mx _ w hM hn h0 rfl ht
  obtain ⟨hE, hS⟩ := sq_free (mend_in z n hn) (s := ⟨z, false, false, l, t⟩) rfl rfl hM.l0
  simp only at hE hS q
  rw [hE, hS] at q
  refine q.mono ?_
  rintro e w' ⟨p, rfl, H⟩
  obtain ⟨o, M, C, _⟩ := H.out
  obtain ⟨rfl, C2⟩ := C rfl
  exact ⟨rfl, o, M, C2⟩
/-- Value of a cell that goes by z. -/
theorem value_z (c m mx : Nat) (z : Nat → Nat) (cut : Bool) (w : World) (hC : CS w c m mx z cut) (hz : Bz z) :
    Calls Tryz.prog 214 #[.pointer (some ⟨c, 0, none⟩)] w fun e w' => e = .returned (.int .u32 (vz z : Nat)) ∧ w' = w := by
  have q := value_any c m mx _ _ cut w hC (fun j hj => wz_lt hz j hj)
  rwa [vp_vz] at q
def Z1 : Nat → Nat := lays (six 0 1) (fun _ => 0)
def Z2 : Nat → Nat := lays (six 1 2) Z1

end Go.Proofs.YtmleiemlfogffaaGreat
