/- Layer 6: the document's gate; one call on both. -/
import Derived.Test.YtodopnconlgghaaGate3
namespace Go.Proofs.Ytodopnconlgghaa
open Go.RowKit

/-- The block of the document's gate. -/
structure RG (w : World) (v : Nat) (c t : Int) : Prop where
  at_ : w.heap[v]? = some (.cells #[.int .i64 c, .int .i64 t] 28 (0, 0))
section
variable {w w' : World} {v : Nat} {c t : Int}
theorem RG.lt (h : RG w v c t) : v < w.heap.size := (Array.getElem?_eq_some_iff.1 h.at_).1
theorem RG.c0 (h : RG w v c t) : w.cell? ⟨v, 0, none⟩ = some (.int .i64 c) := cell_of_row w v 0 _ _ _ h.at_
theorem RG.c1 (h : RG w v c t) : w.cell? ⟨v, 1, none⟩ = some (.int .i64 t) := cell_of_row w v 1 _ _ _ h.at_
theorem RG.fz (h : RG w v c t) (j : Nat) : w.frozen? ⟨v, j, none⟩ = false := frozen_of_row w v j _ _ h.at_
theorem RG.off {l : List Nat} (h : RG w v c t) (q : Off l w w') (hb : v ∉ l) : RG w' v c t := ⟨(q.block v h.lt hb).trans h.at_⟩
theorem RG.s0 (h : RG w v c t) (x : Int) : RG (w.setCell ⟨v, 0, none⟩ (.int .i64 x)) v x t := ⟨heap_setCell_same _ _ _ _ _ _ h.at_⟩
theorem RG.s1 (h : RG w v c t) (x : Int) : RG (w.setCell ⟨v, 1, none⟩ (.int .i64 x)) v c x := ⟨heap_setCell_same _ _ _ _ _ _ h.at_⟩
end

def dn (c : Int) : Int := if c = 0 then 0 else 1
theorem dn0 : dn 0 = 0 := rfl
theorem dn1 {c : Int} (h : ¬ c = 0) : dn c = 1 := if_neg h
/-- Does it fall by this? The code and the count behind it. -/
def fl (c x : Int) : Bool := decide (c = 0) && !decide (x = 0)
def nc (c x : Int) : Int := if c = 0 then x else c
def nt (t x : Int) : Int := if x = 0 then t else wrap64 (t + 1)
theorem trip_all (b : Nat) (c t x : Int) (w : World) (h : GR w b 0 (dn c) 0 c t) :
    Calls Try.prog 12 #[.pointer (some ⟨b, 0, none⟩), .int .i64 x] w fun e w' => e = .returned (.bool (fl c x)) ∧ (Off [b] w w' ∧ GR w' b 0 (dn (nc c x)) 0 (nc c x) (nt t x)) := by
  by_cases hx : x = 0
  · subst hx
    have e1 : nc c 0 = c := by unfold nc; split <;> simp_all
    have e2 : fl c 0 = false := by simp [fl]
    rw [e1, e2, show nt t 0 = t from rfl]
    exact trip_ok b 0 _ 0 c t w h
  · have e3 : nt t x = wrap64 (t + 1) := if_neg hx
    rw [e3]
    by_cases hc : c = 0
    · subst hc
      rw [show nc 0 x = x from rfl, dn1 hx, show fl 0 x = true by simp [fl, hx]]
      exact trip_first b x t hx w h
    · rw [show nc c x = c from if_neg hc, dn1 hc, show fl c x = false by simp [fl, hc]]
      rw [dn1 hc] at h
      exact trip_again b x c t hx w h
theorem rtrip_all (v : Nat) (c t x : Int) (w : World) (h : RG w v c t) :
    Calls Try.prog 13 #[.pointer (some ⟨v, 0, none⟩), .int .i64 x] w fun e w' => e = .returned (.bool (fl c x)) ∧ (Off [v] w w' ∧ RG w' v (nc c x) (nt t x)) := by
  have h0 := h.c0
  have h1 := h.c1
  have z0 := h.fz 0
  have z1 := h.fz 1
  by_cases hx : x = 0
  · subst hx
    have e1 : nc c 0 = c := by unfold nc; split <;> simp_all
    have e2 : fl c 0 = false := by simp [fl]
    rw [e1, e2, show nt t 0 = t from rfl]
    go_enter Try.func13, Try.ntmps13
    go_wp2_with fail
    go_ret
    exact ⟨rfl, Off.refl _ _, h⟩
  · have e3 : nt t x = wrap64 (t + 1) := if_neg hx
    rw [e3]
    by_cases hc : c = 0
    · subst hc
      rw [show nc 0 x = x from rfl, show fl 0 x = true by simp [fl, hx]]
      go_enter Try.func13, Try.ntmps13
      go_wp2_with fail
      go_ret
      exact ⟨rfl, (Off.setCell v 1 _ _).trans (Off.setCell v 0 _ _), (h.s1 _).s0 _⟩
    · rw [show nc c x = c from if_neg hc, show fl c x = false by simp [fl, hc]]
      go_enter Try.func13, Try.ntmps13
      go_wp2_with fail
      go_ret
      exact ⟨rfl, Off.setCell v 1 _ _, h.s1 _⟩
theorem rlift_any (v : Nat) (c t : Int) (w : World) (h : RG w v c t) :
    Calls Try.prog 11 #[.pointer (some ⟨v, 0, none⟩)] w fun e w' => e = .returned (.int .i64 c) ∧ (Off [v] w w' ∧ RG w' v 0 0) := by
  have h0 := h.c0
  have h1 := h.c1
  have z0 := h.fz 0
  have z1 := h.fz 1
  go_enter Try.func11, Try.ntmps11
  go_wp2_with fail
  go_ret
  exact ⟨rfl, (Off.setCell v 0 _ _).trans (Off.setCell v 1 _ _), (h.s0 _).s1 _⟩
/-- A gate and the document's, which say the same. -/
structure Pr (w : World) (b v : Nat) : Prop where
  pr : ∃ c t, GR w b 0 (dn c) 0 c t ∧ RG w v c t
theorem Pr.off {l : List Nat} {w w' : World} {b v : Nat} (h : Pr w b v) (q : Off l w w') (hb : b ∉ l) (hv : v ∉ l) : Pr w' b v := by
  obtain ⟨c, t, g, r⟩ := h.pr
  exact ⟨c, t, g.off q hb, r.off q hv⟩
/-- Inside the step: which of the two has been tripped already. -/
structure Ph (wa : World) (p x : Nat) (c t z : Int) (rb ro : Nat) (i j : Bool) (wx : World) : Prop where
  off : Off [p, x] wa wx
  gr : GR wx p 0 (dn (if i then nc c z else c)) 0 (if i then nc c z else c) (if i then nt t z else t)
  rg : RG wx x (if j then nc c z else c) (if j then nt t z else t)
  op : wx.cell? ⟨rb, ro, none⟩ = some (.int .i64 z)
  ne : p ≠ x
  np : rb ≠ p
  nx : rb ≠ x
section
variable {wa wx : World} {p x rb ro : Nat} {c t z : Int} {i j : Bool}
theorem Ph.drewN (h : Ph wa p x c t z rb ro i j wx) (n : Nat) : Ph wa p x c t z rb ro i j (wx.drewN n) :=
  ⟨h.off.trans (Off.drewN _ _ _), h.gr.off (Off.drewN [] _ _) (by simp), h.rg.off (Off.drewN [] _ _) (by simp), h.op, h.ne, h.np, h.nx⟩
theorem Ph.drew (h : Ph wa p x c t z rb ro i j wx) : Ph wa p x c t z rb ro i j wx.drew :=
  ⟨h.off.trans (Off.drew _ _), h.gr.off (Off.drew [] _) (by simp), h.rg.off (Off.drew [] _) (by simp), h.op, h.ne, h.np, h.nx⟩
end
theorem ph_gate {wa : World} {p x rb ro : Nat} {c t z : Int} (j : Bool) (wx : World) (h : Ph wa p x c t z rb ro false j wx) :
    Calls Try.prog 12 #[.pointer (some ⟨p, 0, none⟩), .int .i64 z] wx fun e w' => e = .returned (.bool (fl c z)) ∧ Ph wa p x c t z rb ro true j w' := by
  refine (trip_all p c t z wx h.gr).mono ?_
  rintro e w' ⟨rfl, o, g⟩
  refine ⟨rfl, h.off.trans (o.more (by simp)), g, h.rg.off o (by simpa using h.ne.symm), ?_, h.ne, h.np, h.nx⟩
  rw [World.cell?_of_block (w := wx) (o.block rb (World.block_lt_of_cell? wx _ h.op) (by simpa using h.np))]
  exact h.op
theorem ph_ref {wa : World} {p x rb ro : Nat} {c t z : Int} (i : Bool) (wx : World) (h : Ph wa p x c t z rb ro i false wx) :
    Calls Try.prog 13 #[.pointer (some ⟨x, 0, none⟩), .int .i64 z] wx fun e w' => e = .returned (.bool (fl c z)) ∧ Ph wa p x c t z rb ro i true w' := by
  refine (rtrip_all x c t z wx h.rg).mono ?_
  rintro e w' ⟨rfl, o, g⟩
  refine ⟨rfl, h.off.trans (o.more (by simp)), h.gr.off o (by simpa using h.ne), g, ?_, h.ne, h.np, h.nx⟩
  rw [World.cell?_of_block (w := wx) (o.block rb (World.block_lt_of_cell? wx _ h.op) (by simpa using h.nx))]
  exact h.op

end Go.Proofs.Ytodopnconlgghaa
