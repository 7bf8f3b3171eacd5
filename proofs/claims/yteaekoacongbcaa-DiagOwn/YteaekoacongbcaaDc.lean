/- Codes: the keys of the map, rising. -/
import Derived.Test.YteaekoacongbcaaDg
import Derived.Test.YteaekoacongbcaaShl
import Derived.Shelf.AbstractIn
namespace Go.Proofs.Yteaekoacongbcaa
open Go.RowKit Go.Maps Go.Sort Go.Shelf

/-- slices.Sort's two contracts, at the fence that asks nothing. -/
theorem sortsA (m : Nat) : AnyZI.SortsIn Try.prog sortedA_ren Fence.wide m :=
  ⟨fun blk off cap ss W hH hblk hsz => callsIn_wide.2 (AnyM.slices_Sort_int sortA blk off cap ss W hH hblk hsz),
   fun p cap W => callsIn_wide.2 (AnyM.slices_Sort_int_none sortA p cap W)⟩

/-- The codes are the map's keys. -/
theorem DH.keys {w : World} {b : Nat} {U : List Nat} {L : List R4} {mA mb nn : Nat} {D : DataW Unit} {mt : Int → Option Nat} (h : DH w b U L mA mb nn D mt) : (cds L).Perm (intKeys D) :=
  CollectedI.perm (left := fun _ => false) ⟨nodup_cds L, fun x => by rw [mem_cds, h.has_]; simp⟩ h.map key_i64 Try.underlying29 (fun _ => rfl)
theorem DH.sized {w : World} {b : Nat} {U : List Nat} {L : List R4} {mA mb nn : Nat} {D : DataW Unit} {mt : Int → Option Nat} (h : DH w b U L mA mb nn D mt) : Maps.size D ≤ L.length := by
  obtain ⟨es, clock, _, _, hs, hD⟩ := h.map
  subst hD
  rw [size_eq, length_sorted]
  have := h.nle
  simp; omega

set_option maxHeartbeats 1000000 in
theorem codes_any (b : Nat) (U : List Nat) (L : List R4) (w : World) (h : DG w b U L) (hn : L.length < 1000000) :
    Calls Try.prog 17 #[.pointer (some ⟨b, 0, none⟩)] w fun e w' => ∃ v, e = .returned v ∧ Hid (w'.ownsRow w.heap.size 29 1 v (cds L).length ((cds L).map encZ) ∧ (v = .slice none 0 0 ↔ cds L = []) ∧ Below w.heap.size w w') := by
  obtain ⟨mA, mb, nn, D, mt, h⟩ := h
  have hsz := h.sized
  have hmax : Maps.size D ≤ maxLen := by unfold maxLen; omega
  have hbytes : Maps.size D * 8 ≤ 140737488355328 := by omega
  have hkeys := h.keys
  have h1 := h.blk.c1
  refine (callsIn_wide (n := 6)).1 ?_
  have hbl := h.map.lt
  have hseq : SeqGives Fence.wide 2 Try.prog 35 #[.pointer (some ⟨w.heap.size, 0, none⟩)] encZ (fun ss => ss.Perm (intKeys D)) (Maps.size D) (w.alloc (.cells #[.map (some mb)] 55)) :=
    AnyZI.keys_gives (ρ := keysA_ren) { keysA with } Fence.wide _ trivial rfl (by omega) w.heap.size mb nn D _ (by simp) (by simp) (by
      obtain ⟨es, clock, hb, Ft, hs, hD⟩ := h.map
      exact ⟨es, clock, (Below.heap_alloc _ _ mb hbl).trans hb, Ft, hs, hD⟩)
  have cK : ∀ mb W, CallsIn Fence.wide 5 Try.prog 29 #[.map mb] W fun e w' => e = .returned (.func (.func 35) #[] #[.pointer (some ⟨W.heap.size, 0, none⟩)]) ∧ w' = W.alloc (.cells #[.map mb] 55) := fun mb W => AnyZI.keys_in keysA Fence.wide 5 trivial rfl mb W
  have cS := AnyZI.sorted_in sortedA Fence.wide 5 trivial trivial trivial trivial rfl (by omega) (sortsA _) (enters_of Try.func34 (by kernel_rfl) rfl) 35 #[.pointer (some ⟨w.heap.size, 0, none⟩)] trivial (enters_of Try.func35 (by kernel_rfl) rfl) _ _ hmax hbytes _ hseq
  change CallsIn _ _ Try.prog 28 _ _ _ at cS
  have hfK : Fence.wide.fn 29 := trivial
  have hfS : Fence.wide.fn 28 := trivial
  refine callsIn_of_wp Try.func17 rfl trivial ?_ rfl
  simp only [Try.ntmps17, List.size_toArray, List.length_cons, List.length_nil, Nat.reduceAdd, Nat.reduceSub, Array.replicate_succ, Array.replicate_zero, List.push_toArray, List.append_toArray, List.nil_append, List.cons_append]
  gi_wp2_with (first
    | (gi_at_call 29; refine (cK _ _).mono ?_; rintro e w' ⟨rfl, rfl⟩)
    | (gi_at_call 28; refine cS.mono ?_; rintro e w' ⟨v, ss, rfl, hS, hrow, hnil, hb⟩))
  go_ret
  have hp : ss.Perm (cds L) := hS.trans hkeys.symm
  have e1 := sorted_up (up_cds L) hp
  rw [e1, hp.length_eq] at hrow
  have hss : ss = [] ↔ cds L = [] := by
    constructor
    · rintro rfl; exact hp.symm.eq_nil
    · intro e; rw [e] at hp; exact hp.eq_nil
  exact ⟨v, rfl, ⟨ownsRow_base_a hrow (by simp), hnil.trans hss, ((Below.refl _ w).alloc (Nat.le_refl _) _).trans (hb.mono (by simp))⟩⟩
theorem codes_nil (w : World) : Calls Try.prog 17 #[.pointer none] w fun e w' => e = .returned (.slice none 0 0) ∧ w' = w := by
  go_enter Try.func17, Try.ntmps17
  go_wp2_with fail
  go_ret
  exact ⟨rfl, rfl⟩
end Go.Proofs.Yteaekoacongbcaa
