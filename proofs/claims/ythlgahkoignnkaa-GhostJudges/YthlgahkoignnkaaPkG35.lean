/- Part 36 of the texts on which the proof rests: contracts of Go functions. -/
import Derived.Test.YthlgahkoignnkaaPkG27
import Derived.Test.YthlgahkoignnkaaPkG32
import Derived.Test.YthlgahkoignnkaaPkG33
import Derived.Test.YthlgahkoignnkaaPkG34
namespace Go.Proofs.Ythlgahkoignnkaa
open Go.RowKit Go.Maps Go.Sort
set_option maxRecDepth 100000
theorem put_same (c : RC) (s : Int) : c.co.put s (c.at_ s).e = c.co := by
  unfold Co.put RC.at_ RC.co
  split <;> rfl
theorem SJ.same {J : Ju} {k : Nat} {c : Nat → RC} {m : Nat} {F : Nat → Fa} (h : SJ J k c m F) {i : Nat} (hi : i < k) (s : Int) : { J with cs := J.cs.set i ((c i).co.put s ((c i).at_ s).e) } = J := by
  rw [put_same]
  have e := h.con i hi
  have : J.cs.set i (c i).co = J.cs := by
    apply List.ext_getElem?
    intro q
    by_cases hq : q = i
    · subst hq
      rw [List.getElem?_set_self (by have := h.len; omega), e]
    · rw [List.getElem?_set_ne (Ne.symm hq)]
  rw [this]
theorem shw_ok {x : Ex} (h : x.Ok) (n : Int) : Ex.Ok ⟨x.e.shw n, x.has, x.inn⟩ := by
  have e1 : (x.e.shw n).ls = x.e.ls := by unfold En.shw; split <;> rfl
  have e2 : (x.e.shw n).v = x.e.v := by unfold En.shw; split <;> rfl
  exact ⟨fun q => (h.a q).trans e1.symm, fun q => e2.trans (h.b q)⟩
theorem orl_co {c : RC} (ok : c.h.Ok ∧ c.d.Ok) {f : Fa} (hs : f.s = 1 ∨ f.s = 2) : (c.at_ f.s).orl f (f.s == 2) c.s = c.co.out f := by
  unfold Ex.orl Co.out
  rw [may_co ok.1 ok.2 hs, RC.co_at]
section
variable {w w' : World} {p ge ec gs sc k : Nat} {b : Nat → Nat} {c : Nat → RC} {sa : Option Addr} {m sx : Nat} {F : Nat → Fa} {A : Nat → Option Addr} {C : Nat → Nat} {Bs n : Nat} {r a : Int} {J : Ju}
theorem rr8_1 (h : RJ w p ge ec gs sc k b c sa m sx F A C Bs n r a) (hS : SJ J k c m F) {i : Nat} (hi : i < k) (fss fnn : Nat) (fon : Bool) (fcd : Int) (fn : Nat) (fb : Nat → Nat) (d : Option Addr) (cap : Nat) (hr : Row8 w d fn cap fb) (hn : fn ≤ 140737488351232) : Calls Try.prog 21 #[.pointer (some ⟨p, 0, none⟩), .agg #[.int .i64 8, .int .i64 ((i : Nat) : Int), .int .i64 1, .int .u32 (fss : Nat), .int .u32 (fnn : Nat), .bool fon, .int .i64 fcd, .slice d fn cap]] w fun r' w' => r' = .returned (.int .i64 (J.rule ⟨8, ((i : Nat) : Int), 1, fss, fnn, fon, fcd, fn, fb⟩)) ∧ Hid (RR w w' p ge ec gs sc k b sa m sx F A n r a (if J.rule ⟨8, ((i : Nat) : Int), 1, fss, fnn, fon, fcd, fn, fb⟩ = 0 then J.lrn ⟨8, ((i : Nat) : Int), 1, fss, fnn, fon, fcd, fn, fb⟩ else J)) := by
  have hru : J.rule ⟨8, ((i : Nat) : Int), 1, fss, fnn, fon, fcd, fn, fb⟩ = (c i).h.orl ⟨8, ((i : Nat) : Int), 1, fss, fnn, fon, fcd, fn, fb⟩ false (c i).s := by
    rw [hS.rule hi rfl rfl rfl]
    exact (orl_co (h.ok i hi) (f := ⟨8, ((i : Nat) : Int), 1, fss, fnn, fon, fcd, fn, fb⟩) (.inl rfl)).symm
  refine (rule8_1 p ge ec k i (b i) (c i).h fss fnn fon fcd fn d cap w (h.j0 (by omega)) (h.out i hi) hi (h.eh i hi) gs sc (c i).s fb (h.j1 (by omega)) (h.ses i hi) hr hn (Ne.symm (h.nb i hi).1) (Ne.symm (h.nb i hi).2.2)).mono ?_
  rintro r' w' ⟨rfl, t, hx⟩
  refine ⟨by rw [hru], ?_⟩
  by_cases h0 : (c i).h.orl ⟨8, ((i : Nat) : Int), 1, fss, fnn, fon, fcd, fn, fb⟩ false (c i).s = 0
  · rw [Ex.shw_go h0] at hx
    have e : J.lrn ⟨8, ((i : Nat) : Int), 1, fss, fnn, fon, fcd, fn, fb⟩ = { J with cs := J.cs.set i ((c i).co.put 1 ((c i).h.e.shw fcd)) } := by
      unfold Ju.lrn
      rw [hS.get hi rfl, Int.toNat_natCast]
      rfl
    rw [if_pos (hru.trans h0), e]
    exact RR.endT (s := 1) (x' := ⟨(c i).h.e.shw fcd, (c i).h.has, (c i).h.inn⟩) h hS hi t hx (shw_ok (h.ok i hi).1 _)
  · rw [Ex.shw_no h0] at hx
    rw [if_neg (fun e => h0 (hru.symm.trans e))]
    have q := RR.endT (s := 1) (x' := (c i).h) h hS hi t hx (h.ok i hi).1
    have e := hS.same hi 1
    rw [show ((c i).at_ 1).e = (c i).h.e from rfl] at e
    rwa [e] at q
open Classical in
theorem rr2_1 (h : RJ w p ge ec gs sc k b c sa m sx F A C Bs n r a) (hS : SJ J k c m F) {i : Nat} (hi : i < k) (fss fnn : Nat) (fon : Bool) (fcd : Int) (fn : Nat) (fb : Nat → Nat) (d : Option Addr) (cap : Nat) (hr : Row8 w d fn cap fb) (hd : ∀ y, d = some y → 0 < fn → y.block ≠ b i) (hm : m ≤ 1000000) : Calls Try.prog 21 #[.pointer (some ⟨p, 0, none⟩), .agg #[.int .i64 2, .int .i64 ((i : Nat) : Int), .int .i64 1, .int .u32 (fss : Nat), .int .u32 (fnn : Nat), .bool fon, .int .i64 fcd, .slice d fn cap]] w fun r' w' => r' = .returned (.int .i64 (J.rule ⟨2, ((i : Nat) : Int), 1, fss, fnn, fon, fcd, fn, fb⟩)) ∧ Hid (RR w w' p ge ec gs sc k b sa m sx F A n r a (if J.rule ⟨2, ((i : Nat) : Int), 1, fss, fnn, fon, fcd, fn, fb⟩ = 0 then J.lrn ⟨2, ((i : Nat) : Int), 1, fss, fnn, fon, fcd, fn, fb⟩ else J)) := by
  have hwas : decide (∃ j, j < m ∧ mtF (F j) ⟨2, ((i : Nat) : Int), 1, fss, fnn, fon, fcd, fn, fb⟩) = decide (J.S ⟨((i : Nat) : Int), oth 1, fss⟩ fnn (Fa.x ⟨2, ((i : Nat) : Int), 1, fss, fnn, fon, fcd, fn, fb⟩)) := by
    have := hS.was (f := ⟨2, ((i : Nat) : Int), 1, fss, fnn, fon, fcd, fn, fb⟩) (.inl rfl)
    exact decide_eq_decide.2 this
  have hru : J.rule ⟨2, ((i : Nat) : Int), 1, fss, fnn, fon, fcd, fn, fb⟩ = takR (decide (J.S ⟨((i : Nat) : Int), oth 1, fss⟩ fnn (Fa.x ⟨2, ((i : Nat) : Int), 1, fss, fnn, fon, fcd, fn, fb⟩))) false (fss != (c i).s) (c i).h.e.took (abv fss fnn (c i).h.e.ls (c i).h.e.ln) := by
    rw [hS.rule hi rfl rfl rfl]
    rfl
  refine (rule2_1 p ge ec k i (b i) (c i).h fss fnn fon fcd fn d cap w (h.j0 (by omega)) (h.out i hi) hi (h.eh i hi) gs sc (c i).s fb (h.j1 (by omega)) (h.ses i hi) hr hd sa m sx F h.j2 h.frow hm _ hwas).mono ?_
  rintro r' w' ⟨rfl, t, hx⟩
  refine ⟨by rw [hru], ?_⟩
  rw [← hru] at hx
  by_cases h0 : J.rule ⟨2, ((i : Nat) : Int), 1, fss, fnn, fon, fcd, fn, fb⟩ = 0
  · rw [if_pos h0] at hx ⊢
    have e : J.lrn ⟨2, ((i : Nat) : Int), 1, fss, fnn, fon, fcd, fn, fb⟩ = { J with cs := J.cs.set i ((c i).co.put 1 ((c i).h.e.tak ⟨2, ((i : Nat) : Int), 1, fss, fnn, fon, fcd, fn, fb⟩)) } := by
      unfold Ju.lrn
      rw [hS.get hi rfl, Int.toNat_natCast]
      rfl
    rw [e]
    exact RR.endT (s := 1) (x' := ⟨(c i).h.e.tak ⟨2, ((i : Nat) : Int), 1, fss, fnn, fon, fcd, fn, fb⟩, true, fss⟩) h hS hi t hx ⟨fun _ => rfl, fun q => by cases q⟩
  · rw [if_neg h0] at hx ⊢
    have q := RR.endT (s := 1) (x' := (c i).h) h hS hi t hx (h.ok i hi).1
    have e := hS.same hi 1
    rw [show ((c i).at_ 1).e = (c i).h.e from rfl] at e
    rwa [e] at q
theorem rr8_2 (h : RJ w p ge ec gs sc k b c sa m sx F A C Bs n r a) (hS : SJ J k c m F) {i : Nat} (hi : i < k) (fss fnn : Nat) (fon : Bool) (fcd : Int) (fn : Nat) (fb : Nat → Nat) (d : Option Addr) (cap : Nat) (hr : Row8 w d fn cap fb) (hn : fn ≤ 140737488351232) : Calls Try.prog 21 #[.pointer (some ⟨p, 0, none⟩), .agg #[.int .i64 8, .int .i64 ((i : Nat) : Int), .int .i64 2, .int .u32 (fss : Nat), .int .u32 (fnn : Nat), .bool fon, .int .i64 fcd, .slice d fn cap]] w fun r' w' => r' = .returned (.int .i64 (J.rule ⟨8, ((i : Nat) : Int), 2, fss, fnn, fon, fcd, fn, fb⟩)) ∧ Hid (RR w w' p ge ec gs sc k b sa m sx F A n r a (if J.rule ⟨8, ((i : Nat) : Int), 2, fss, fnn, fon, fcd, fn, fb⟩ = 0 then J.lrn ⟨8, ((i : Nat) : Int), 2, fss, fnn, fon, fcd, fn, fb⟩ else J)) := by
  have hru : J.rule ⟨8, ((i : Nat) : Int), 2, fss, fnn, fon, fcd, fn, fb⟩ = (c i).d.orl ⟨8, ((i : Nat) : Int), 2, fss, fnn, fon, fcd, fn, fb⟩ true (c i).s := by
    rw [hS.rule hi rfl rfl rfl]
    exact (orl_co (h.ok i hi) (f := ⟨8, ((i : Nat) : Int), 2, fss, fnn, fon, fcd, fn, fb⟩) (.inr rfl)).symm
  refine (rule8_2 p ge ec k i (b i) (c i).d fss fnn fon fcd fn d cap w (h.j0 (by omega)) (h.out i hi) hi (h.ed i hi) gs sc (c i).s fb (h.j1 (by omega)) (h.ses i hi) hr hn (Ne.symm (h.nb i hi).1) (Ne.symm (h.nb i hi).2.2)).mono ?_
  rintro r' w' ⟨rfl, t, hx⟩
  refine ⟨by rw [hru], ?_⟩
  by_cases h0 : (c i).d.orl ⟨8, ((i : Nat) : Int), 2, fss, fnn, fon, fcd, fn, fb⟩ true (c i).s = 0
  · rw [Ex.shw_go h0] at hx
    have e : J.lrn ⟨8, ((i : Nat) : Int), 2, fss, fnn, fon, fcd, fn, fb⟩ = { J with cs := J.cs.set i ((c i).co.put 2 ((c i).d.e.shw fcd)) } := by
      unfold Ju.lrn
      rw [hS.get hi rfl, Int.toNat_natCast]
      rfl
    rw [if_pos (hru.trans h0), e]
    exact RR.endT (s := 2) (x' := ⟨(c i).d.e.shw fcd, (c i).d.has, (c i).d.inn⟩) h hS hi t hx (shw_ok (h.ok i hi).2 _)
  · rw [Ex.shw_no h0] at hx
    rw [if_neg (fun e => h0 (hru.symm.trans e))]
    have q := RR.endT (s := 2) (x' := (c i).d) h hS hi t hx (h.ok i hi).2
    have e := hS.same hi 2
    rw [show ((c i).at_ 2).e = (c i).d.e from rfl] at e
    rwa [e] at q
open Classical in
theorem rr2_2 (h : RJ w p ge ec gs sc k b c sa m sx F A C Bs n r a) (hS : SJ J k c m F) {i : Nat} (hi : i < k) (fss fnn : Nat) (fon : Bool) (fcd : Int) (fn : Nat) (fb : Nat → Nat) (d : Option Addr) (cap : Nat) (hr : Row8 w d fn cap fb) (hd : ∀ y, d = some y → 0 < fn → y.block ≠ b i) (hm : m ≤ 1000000) : Calls Try.prog 21 #[.pointer (some ⟨p, 0, none⟩), .agg #[.int .i64 2, .int .i64 ((i : Nat) : Int), .int .i64 2, .int .u32 (fss : Nat), .int .u32 (fnn : Nat), .bool fon, .int .i64 fcd, .slice d fn cap]] w fun r' w' => r' = .returned (.int .i64 (J.rule ⟨2, ((i : Nat) : Int), 2, fss, fnn, fon, fcd, fn, fb⟩)) ∧ Hid (RR w w' p ge ec gs sc k b sa m sx F A n r a (if J.rule ⟨2, ((i : Nat) : Int), 2, fss, fnn, fon, fcd, fn, fb⟩ = 0 then J.lrn ⟨2, ((i : Nat) : Int), 2, fss, fnn, fon, fcd, fn, fb⟩ else J)) := by
  have hwas : decide (∃ j, j < m ∧ mtF (F j) ⟨2, ((i : Nat) : Int), 2, fss, fnn, fon, fcd, fn, fb⟩) = decide (J.S ⟨((i : Nat) : Int), oth 2, fss⟩ fnn (Fa.x ⟨2, ((i : Nat) : Int), 2, fss, fnn, fon, fcd, fn, fb⟩)) := by
    have := hS.was (f := ⟨2, ((i : Nat) : Int), 2, fss, fnn, fon, fcd, fn, fb⟩) (.inr rfl)
    exact decide_eq_decide.2 this
  have hru : J.rule ⟨2, ((i : Nat) : Int), 2, fss, fnn, fon, fcd, fn, fb⟩ = takR (decide (J.S ⟨((i : Nat) : Int), oth 2, fss⟩ fnn (Fa.x ⟨2, ((i : Nat) : Int), 2, fss, fnn, fon, fcd, fn, fb⟩))) true (fss != (c i).s) (c i).d.e.took (abv fss fnn (c i).d.e.ls (c i).d.e.ln) := by
    rw [hS.rule hi rfl rfl rfl]
    rfl
  refine (rule2_2 p ge ec k i (b i) (c i).d fss fnn fon fcd fn d cap w (h.j0 (by omega)) (h.out i hi) hi (h.ed i hi) gs sc (c i).s fb (h.j1 (by omega)) (h.ses i hi) hr hd sa m sx F h.j2 h.frow hm _ hwas).mono ?_
  rintro r' w' ⟨rfl, t, hx⟩
  refine ⟨by rw [hru], ?_⟩
  rw [← hru] at hx
  by_cases h0 : J.rule ⟨2, ((i : Nat) : Int), 2, fss, fnn, fon, fcd, fn, fb⟩ = 0
  · rw [if_pos h0] at hx ⊢
    have e : J.lrn ⟨2, ((i : Nat) : Int), 2, fss, fnn, fon, fcd, fn, fb⟩ = { J with cs := J.cs.set i ((c i).co.put 2 ((c i).d.e.tak ⟨2, ((i : Nat) : Int), 2, fss, fnn, fon, fcd, fn, fb⟩)) } := by
      unfold Ju.lrn
      rw [hS.get hi rfl, Int.toNat_natCast]
      rfl
    rw [e]
    exact RR.endT (s := 2) (x' := ⟨(c i).d.e.tak ⟨2, ((i : Nat) : Int), 2, fss, fnn, fon, fcd, fn, fb⟩, true, fss⟩) h hS hi t hx ⟨fun _ => rfl, fun q => by cases q⟩
  · rw [if_neg h0] at hx ⊢
    have q := RR.endT (s := 2) (x' := (c i).d) h hS hi t hx (h.ok i hi).2
    have e := hS.same hi 2
    rw [show ((c i).at_ 2).e = (c i).d.e from rfl] at e
    rwa [e] at q
end
end Go.Proofs.Ythlgahkoignnkaa
