/- Layer 18: Awake, pure: the chapter's facts. -/
import Derived.Test.YtaeamogagaaodaaGh17
import Derived.Test.YtaeamogagaaodaaGp
namespace Go.Proofs.Ytaeamogagaaodaa
open Go.RowKit Go.Maps
set_option maxRecDepth 100000

def awF : Nat → Fa
  | 0 => ⟨3, 0, 2, 1, 0, false, 0, 0, fun _ => 0⟩
  | 1 => ⟨1, 0, 1, 1, 1, false, 0, 1, fun _ => 5⟩
  | 2 => ⟨2, 0, 2, 1, 1, false, 0, 1, fun _ => 5⟩
  | _ => ⟨8, 0, 2, 0, 0, true, 0, 1, fun _ => 5⟩
def awG (i : Nat) : Fa := awF (i + 2)
def awJ : Ju := ju0 1 (fun _ => 10) (fun _ => 10)
theorem aw_bad : (sees awJ awG 2).r = 2 ∧ (sees awJ awG 2).a = 0 := by
  have h1 : awJ.rule (awG 0) = 2 := by
    simp [awJ, awG, awF, Ju.rule, Ju.bad, Ju.rul, Ju.tak, takR, ju0, coN, enN, isK, isS]
  have h2 : sees awJ awG 1 = { awJ with r := 2, a := 0 } := by
    unfold sees sees Ju.see
    rw [h1]
    simp [awJ, ju0]
  unfold sees
  rw [h2]
  unfold Ju.see
  simp
theorem aw_good : (sees awJ awF 4).r = 0 ∧ (sees awJ awF 4).a = 0 := by
  have hb : (BA (fun _ => 5) 1).toList.isEmpty = false := by kernel_rfl
  have h1 : awJ.see (awF 0) = { awJ with cs := [{ coN 10 10 with s := 1 }], S := fun t n x => False, n := 1 } := by
    simp [awJ, awF, Ju.see, Ju.rule, Ju.bad, Ju.rul, Ju.lrn, ju0, coN, enN, isK, isS]
  have h2 : ({ awJ with cs := [{ coN 10 10 with s := 1 }], S := fun t n x => False, n := 1 } : Ju).see (awF 1) = { awJ with cs := [{ coN 10 10 with s := 1 }], S := fun t n x => t = ⟨0, 1, 1⟩ ∧ n = 1 ∧ x = BA (fun _ => 5) 1, n := 2 } := by
    simp [awJ, awF, Ju.see, Ju.rule, Ju.bad, Ju.rul, Ju.lrn, ju0, coN, enN, isK, isS, Fa.x]
  have h3 : ({ awJ with cs := [{ coN 10 10 with s := 1 }], S := fun t n x => t = ⟨0, 1, 1⟩ ∧ n = 1 ∧ x = BA (fun _ => 5) 1, n := 2 } : Ju).see (awF 2) = { awJ with cs := [{ coN 10 10 with d := { enN 10 with took := true, ls := 1, ln := 1, v := BA (fun _ => 5) 1 }, s := 1 }], S := fun t n x => t = ⟨0, 1, 1⟩ ∧ n = 1 ∧ x = BA (fun _ => 5) 1, n := 3 } := by
    simp [awJ, awF, Ju.see, Ju.rule, Ju.bad, Ju.rul, Ju.lrn, ju0, coN, enN, isK, isS, Fa.x, Ju.tak, takR, Co.at_, Co.put, En.tak, oth, abv]
  have h4 : ({ awJ with cs := [{ coN 10 10 with d := { enN 10 with took := true, ls := 1, ln := 1, v := BA (fun _ => 5) 1 }, s := 1 }], S := fun t n x => t = ⟨0, 1, 1⟩ ∧ n = 1 ∧ x = BA (fun _ => 5) 1, n := 3 } : Ju).rule (awF 3) = 0 := by
    simp [awF, Ju.rule, Ju.bad, Ju.rul, coN, enN, isK, isS, Fa.x, Co.out, outR, Co.may, Co.at_, En.ovr, hb]
  have e : sees awJ awF 3 = { awJ with cs := [{ coN 10 10 with d := { enN 10 with took := true, ls := 1, ln := 1, v := BA (fun _ => 5) 1 }, s := 1 }], S := fun t n x => t = ⟨0, 1, 1⟩ ∧ n = 1 ∧ x = BA (fun _ => 5) 1, n := 3 } := by
    rw [← h3, ← h2, ← h1]
    rfl
  have hr : (sees awJ awF 4).r = 0 := by
    rw [sees, e, Ju.see, h4]
    simp [awJ, ju0, Ju.lrn, awF]
  exact ⟨hr, (sees_good rfl rfl awF 4 hr).1⟩
end Go.Proofs.Ytaeamogagaaodaa
