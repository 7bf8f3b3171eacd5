/- Part 28 of the texts on which the proof rests: contracts of Go functions. -/
import Derived.Test.YthlgahkoignnkaaPkG22
import Derived.Test.YthlgahkoignnkaaPkG23
import Derived.Test.YthlgahkoignnkaaPkG24
import Derived.Test.YthlgahkoignnkaaPkG25
import Derived.Test.YthlgahkoignnkaaPkG26
namespace Go.Proofs.Ythlgahkoignnkaa
open Go.RowKit Go.Maps Go.Sort
set_option maxRecDepth 100000
theorem tck_ok {x : Ex} (h : x.Ok) (n : Int) : Ex.Ok ⟨x.e.tck n, x.has, x.inn⟩ := by
  have e1 : (x.e.tck n).ls = x.e.ls := by unfold En.tck; split <;> rfl
  have e2 : (x.e.tck n).v = x.e.v := by unfold En.tck; split <;> rfl
  exact ⟨fun q => (h.a q).trans e1.symm, fun q => e2.trans (h.b q)⟩
theorem rst_ok (e : En) (s : Int) : Ex.Ok ⟨e.rst s, false, 0⟩ := by
  have e2 : (e.rst s).v = ByteArray.mk #[] := by unfold En.rst; split <;> rfl
  exact ⟨(fun q => by cases q), fun _ => e2⟩
section
variable {w w' : World} {p ge ec gs sc k : Nat} {b : Nat → Nat} {c : Nat → RC} {sa : Option Addr} {m sx : Nat} {F : Nat → Fa} {A : Nat → Option Addr} {C : Nat → Nat} {Bs n : Nat} {r a : Int} {J : Ju}
theorem rr4_1 (h : RJ w p ge ec gs sc k b c sa m sx F A C Bs n r a) (hS : SJ J k c m F) {i : Nat} (hi : i < k) (fss fnn : Nat) (fon : Bool) (fcd : Int) (fn : Nat) (fb : Nat → Nat) (d : Option Addr) (cap : Nat) : Calls Try.prog 21 #[.pointer (some ⟨p, 0, none⟩), .agg #[.int .i64 4, .int .i64 ((i : Nat) : Int), .int .i64 1, .int .u32 (fss : Nat), .int .u32 (fnn : Nat), .bool fon, .int .i64 fcd, .slice d fn cap]] w fun r' w' => r' = .returned (.int .i64 0) ∧ Hid (RR w w' p ge ec gs sc k b sa m sx F A n r a (J.lrn ⟨4, ((i : Nat) : Int), 1, fss, fnn, fon, fcd, fn, fb⟩)) := by
  refine (rule4_1 p ge ec k i (b i) (c i).h fss fnn fon fcd fn d cap w (h.j0 (by omega)) (h.out i hi) hi (h.eh i hi)).mono ?_
  rintro r' w' ⟨rfl, t, hx⟩
  refine ⟨rfl, ?_⟩
  have e : J.lrn ⟨4, ((i : Nat) : Int), 1, fss, fnn, fon, fcd, fn, fb⟩ = { J with cs := J.cs.set i ((c i).co.put 1 (c i).h.e.rfr) } := by
    unfold Ju.lrn
    rw [hS.get hi rfl, Int.toNat_natCast]
    rfl
  rw [e]
  exact RR.endT (s := 1) (x' := ⟨(c i).h.e.rfr, (c i).h.has, (c i).h.inn⟩) h hS hi t hx (⟨((h.ok i hi).1).a, ((h.ok i hi).1).b⟩)
theorem rr4_2 (h : RJ w p ge ec gs sc k b c sa m sx F A C Bs n r a) (hS : SJ J k c m F) {i : Nat} (hi : i < k) (fss fnn : Nat) (fon : Bool) (fcd : Int) (fn : Nat) (fb : Nat → Nat) (d : Option Addr) (cap : Nat) : Calls Try.prog 21 #[.pointer (some ⟨p, 0, none⟩), .agg #[.int .i64 4, .int .i64 ((i : Nat) : Int), .int .i64 2, .int .u32 (fss : Nat), .int .u32 (fnn : Nat), .bool fon, .int .i64 fcd, .slice d fn cap]] w fun r' w' => r' = .returned (.int .i64 0) ∧ Hid (RR w w' p ge ec gs sc k b sa m sx F A n r a (J.lrn ⟨4, ((i : Nat) : Int), 2, fss, fnn, fon, fcd, fn, fb⟩)) := by
  refine (rule4_2 p ge ec k i (b i) (c i).d fss fnn fon fcd fn d cap w (h.j0 (by omega)) (h.out i hi) hi (h.ed i hi)).mono ?_
  rintro r' w' ⟨rfl, t, hx⟩
  refine ⟨rfl, ?_⟩
  have e : J.lrn ⟨4, ((i : Nat) : Int), 2, fss, fnn, fon, fcd, fn, fb⟩ = { J with cs := J.cs.set i ((c i).co.put 2 (c i).d.e.rfr) } := by
    unfold Ju.lrn
    rw [hS.get hi rfl, Int.toNat_natCast]
    rfl
  rw [e]
  exact RR.endT (s := 2) (x' := ⟨(c i).d.e.rfr, (c i).d.has, (c i).d.inn⟩) h hS hi t hx (⟨((h.ok i hi).2).a, ((h.ok i hi).2).b⟩)
theorem rr5_1 (h : RJ w p ge ec gs sc k b c sa m sx F A C Bs n r a) (hS : SJ J k c m F) {i : Nat} (hi : i < k) (fss fnn : Nat) (fon : Bool) (fcd : Int) (fn : Nat) (fb : Nat → Nat) (d : Option Addr) (cap : Nat) (hnn : fnn < 4294967296) : Calls Try.prog 21 #[.pointer (some ⟨p, 0, none⟩), .agg #[.int .i64 5, .int .i64 ((i : Nat) : Int), .int .i64 1, .int .u32 (fss : Nat), .int .u32 (fnn : Nat), .bool fon, .int .i64 fcd, .slice d fn cap]] w fun r' w' => r' = .returned (.int .i64 0) ∧ Hid (RR w w' p ge ec gs sc k b sa m sx F A n r a (J.lrn ⟨5, ((i : Nat) : Int), 1, fss, fnn, fon, fcd, fn, fb⟩)) := by
  refine (rule5_1 p ge ec k i (b i) (c i).h fss fnn fon fcd fn d cap w (h.j0 (by omega)) (h.out i hi) hi (h.eh i hi) hnn).mono ?_
  rintro r' w' ⟨rfl, t, hx⟩
  refine ⟨rfl, ?_⟩
  have e : J.lrn ⟨5, ((i : Nat) : Int), 1, fss, fnn, fon, fcd, fn, fb⟩ = { J with cs := J.cs.set i ((c i).co.put 1 ((c i).h.e.tck ((fnn : Nat) : Int))) } := by
    unfold Ju.lrn
    rw [hS.get hi rfl, Int.toNat_natCast]
    rfl
  rw [e]
  exact RR.endT (s := 1) (x' := ⟨(c i).h.e.tck ((fnn : Nat) : Int), (c i).h.has, (c i).h.inn⟩) h hS hi t hx (tck_ok ((h.ok i hi).1) _)
theorem rr5_2 (h : RJ w p ge ec gs sc k b c sa m sx F A C Bs n r a) (hS : SJ J k c m F) {i : Nat} (hi : i < k) (fss fnn : Nat) (fon : Bool) (fcd : Int) (fn : Nat) (fb : Nat → Nat) (d : Option Addr) (cap : Nat) (hnn : fnn < 4294967296) : Calls Try.prog 21 #[.pointer (some ⟨p, 0, none⟩), .agg #[.int .i64 5, .int .i64 ((i : Nat) : Int), .int .i64 2, .int .u32 (fss : Nat), .int .u32 (fnn : Nat), .bool fon, .int .i64 fcd, .slice d fn cap]] w fun r' w' => r' = .returned (.int .i64 0) ∧ Hid (RR w w' p ge ec gs sc k b sa m sx F A n r a (J.lrn ⟨5, ((i : Nat) : Int), 2, fss, fnn, fon, fcd, fn, fb⟩)) := by
  refine (rule5_2 p ge ec k i (b i) (c i).d fss fnn fon fcd fn d cap w (h.j0 (by omega)) (h.out i hi) hi (h.ed i hi) hnn).mono ?_
  rintro r' w' ⟨rfl, t, hx⟩
  refine ⟨rfl, ?_⟩
  have e : J.lrn ⟨5, ((i : Nat) : Int), 2, fss, fnn, fon, fcd, fn, fb⟩ = { J with cs := J.cs.set i ((c i).co.put 2 ((c i).d.e.tck ((fnn : Nat) : Int))) } := by
    unfold Ju.lrn
    rw [hS.get hi rfl, Int.toNat_natCast]
    rfl
  rw [e]
  exact RR.endT (s := 2) (x' := ⟨(c i).d.e.tck ((fnn : Nat) : Int), (c i).d.has, (c i).d.inn⟩) h hS hi t hx (tck_ok ((h.ok i hi).2) _)
theorem rr6_1 (h : RJ w p ge ec gs sc k b c sa m sx F A C Bs n r a) (hS : SJ J k c m F) {i : Nat} (hi : i < k) (fss fnn : Nat) (fon : Bool) (fcd : Int) (fn : Nat) (fb : Nat → Nat) (d : Option Addr) (cap : Nat) : Calls Try.prog 21 #[.pointer (some ⟨p, 0, none⟩), .agg #[.int .i64 6, .int .i64 ((i : Nat) : Int), .int .i64 1, .int .u32 (fss : Nat), .int .u32 (fnn : Nat), .bool fon, .int .i64 fcd, .slice d fn cap]] w fun r' w' => r' = .returned (.int .i64 0) ∧ Hid (RR w w' p ge ec gs sc k b sa m sx F A n r a (J.lrn ⟨6, ((i : Nat) : Int), 1, fss, fnn, fon, fcd, fn, fb⟩)) := by
  refine (rule6_1 p ge ec k i (b i) (c i).h fss fnn fon fcd fn d cap w (h.j0 (by omega)) (h.out i hi) hi (h.eh i hi)).mono ?_
  rintro r' w' ⟨rfl, t, hx⟩
  refine ⟨rfl, ?_⟩
  have e : J.lrn ⟨6, ((i : Nat) : Int), 1, fss, fnn, fon, fcd, fn, fb⟩ = { J with cs := J.cs.set i ((c i).co.put 1 (c i).h.e.ack) } := by
    unfold Ju.lrn
    rw [hS.get hi rfl, Int.toNat_natCast]
    rfl
  rw [e]
  exact RR.endT (s := 1) (x' := ⟨(c i).h.e.ack, (c i).h.has, (c i).h.inn⟩) h hS hi t hx (⟨((h.ok i hi).1).a, ((h.ok i hi).1).b⟩)
theorem rr6_2 (h : RJ w p ge ec gs sc k b c sa m sx F A C Bs n r a) (hS : SJ J k c m F) {i : Nat} (hi : i < k) (fss fnn : Nat) (fon : Bool) (fcd : Int) (fn : Nat) (fb : Nat → Nat) (d : Option Addr) (cap : Nat) : Calls Try.prog 21 #[.pointer (some ⟨p, 0, none⟩), .agg #[.int .i64 6, .int .i64 ((i : Nat) : Int), .int .i64 2, .int .u32 (fss : Nat), .int .u32 (fnn : Nat), .bool fon, .int .i64 fcd, .slice d fn cap]] w fun r' w' => r' = .returned (.int .i64 0) ∧ Hid (RR w w' p ge ec gs sc k b sa m sx F A n r a (J.lrn ⟨6, ((i : Nat) : Int), 2, fss, fnn, fon, fcd, fn, fb⟩)) := by
  refine (rule6_2 p ge ec k i (b i) (c i).d fss fnn fon fcd fn d cap w (h.j0 (by omega)) (h.out i hi) hi (h.ed i hi)).mono ?_
  rintro r' w' ⟨rfl, t, hx⟩
  refine ⟨rfl, ?_⟩
  have e : J.lrn ⟨6, ((i : Nat) : Int), 2, fss, fnn, fon, fcd, fn, fb⟩ = { J with cs := J.cs.set i ((c i).co.put 2 (c i).d.e.ack) } := by
    unfold Ju.lrn
    rw [hS.get hi rfl, Int.toNat_natCast]
    rfl
  rw [e]
  exact RR.endT (s := 2) (x' := ⟨(c i).d.e.ack, (c i).d.has, (c i).d.inn⟩) h hS hi t hx (⟨((h.ok i hi).2).a, ((h.ok i hi).2).b⟩)
theorem rr7_1 (h : RJ w p ge ec gs sc k b c sa m sx F A C Bs n r a) (hS : SJ J k c m F) {i : Nat} (hi : i < k) (fss fnn : Nat) (fon : Bool) (fcd : Int) (fn : Nat) (fb : Nat → Nat) (d : Option Addr) (cap : Nat) : Calls Try.prog 21 #[.pointer (some ⟨p, 0, none⟩), .agg #[.int .i64 7, .int .i64 ((i : Nat) : Int), .int .i64 1, .int .u32 (fss : Nat), .int .u32 (fnn : Nat), .bool fon, .int .i64 fcd, .slice d fn cap]] w fun r' w' => r' = .returned (.int .i64 0) ∧ Hid (RR w w' p ge ec gs sc k b sa m sx F A n r a (J.lrn ⟨7, ((i : Nat) : Int), 1, fss, fnn, fon, fcd, fn, fb⟩)) := by
  refine (rule7_1 p ge ec k i (b i) (c i).h fss fnn fon fcd fn d cap w (h.j0 (by omega)) (h.out i hi) hi (h.eh i hi)).mono ?_
  rintro r' w' ⟨rfl, t, hx⟩
  refine ⟨rfl, ?_⟩
  have e : J.lrn ⟨7, ((i : Nat) : Int), 1, fss, fnn, fon, fcd, fn, fb⟩ = { J with cs := J.cs.set i ((c i).co.put 1 ((c i).h.e.rst 1)) } := by
    unfold Ju.lrn
    rw [hS.get hi rfl, Int.toNat_natCast]
    rfl
  rw [e]
  exact RR.endT (s := 1) (x' := ⟨(c i).h.e.rst 1, false, 0⟩) h hS hi t hx (rst_ok _ _)
theorem rr7_2 (h : RJ w p ge ec gs sc k b c sa m sx F A C Bs n r a) (hS : SJ J k c m F) {i : Nat} (hi : i < k) (fss fnn : Nat) (fon : Bool) (fcd : Int) (fn : Nat) (fb : Nat → Nat) (d : Option Addr) (cap : Nat) : Calls Try.prog 21 #[.pointer (some ⟨p, 0, none⟩), .agg #[.int .i64 7, .int .i64 ((i : Nat) : Int), .int .i64 2, .int .u32 (fss : Nat), .int .u32 (fnn : Nat), .bool fon, .int .i64 fcd, .slice d fn cap]] w fun r' w' => r' = .returned (.int .i64 0) ∧ Hid (RR w w' p ge ec gs sc k b sa m sx F A n r a (J.lrn ⟨7, ((i : Nat) : Int), 2, fss, fnn, fon, fcd, fn, fb⟩)) := by
  refine (rule7_2 p ge ec k i (b i) (c i).d fss fnn fon fcd fn d cap w (h.j0 (by omega)) (h.out i hi) hi (h.ed i hi)).mono ?_
  rintro r' w' ⟨rfl, t, hx⟩
  refine ⟨rfl, ?_⟩
  have e : J.lrn ⟨7, ((i : Nat) : Int), 2, fss, fnn, fon, fcd, fn, fb⟩ = { J with cs := J.cs.set i ((c i).co.put 2 ((c i).d.e.rst 2)) } := by
    unfold Ju.lrn
    rw [hS.get hi rfl, Int.toNat_natCast]
    rfl
  rw [e]
  exact RR.endT (s := 2) (x' := ⟨(c i).d.e.rst 2, false, 0⟩) h hS hi t hx (rst_ok _ _)
end
end Go.Proofs.Ythlgahkoignnkaa
