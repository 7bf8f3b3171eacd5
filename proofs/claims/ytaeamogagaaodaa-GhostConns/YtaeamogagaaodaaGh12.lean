/- Layer 18: Verdict, See. (gengh12.py) -/
import Derived.Test.YtaeamogagaaodaaGh11
import Derived.Test.YtaeamogagaaodaaGh9
namespace Go.Proofs.Ytaeamogagaaodaa
open Go.RowKit Go.Maps
set_option maxRecDepth 100000

/-- A fact as facts are. -/
structure Fa.Ok (f : Fa) : Prop where
  c : (Lit.int .i64 f.c).wf = true
  s : (Lit.int .i64 f.s).wf = true
  ss : f.ss < 4294967296
  nn : f.nn < 4294967296
  n : f.n ≤ 140737488351232
theorem BA_size (b : Nat → Nat) (n : Nat) : (BA b n).size = n := by
  have key : ∀ (l : List Int) (r : ByteArray), (l.foldl (fun r m => r.push (UInt8.ofNat m.toNat)) r).size = r.size + l.length := by
    intro l
    induction l with
    | nil => intro r; rfl
    | cons x l ih =>
      intro r
      rw [List.foldl_cons, ih, ByteArray.size_push, List.length_cons]
      omega
  unfold BA
  rw [key]
  simp
/-- No such kind, connection or side. -/
def Ju.bad (J : Ju) (f : Fa) : Prop := isK f.k = false ∨ f.c < 0 ∨ (J.cs.length : Int) ≤ f.c ∨ isS f.s = false
theorem Ju.good {J : Ju} {f : Fa} (h : ¬ J.bad f) : isK f.k = true ∧ isS f.s = true ∧ ∃ (i : Nat) (c : Co), f.c = ((i : Nat) : Int) ∧ J.cs[i]? = some c := by
  unfold Ju.bad at h
  have h1 : isK f.k = true := by cases e : isK f.k with
    | true => rfl
    | false => exact absurd (.inl e) h
  have h2 : isS f.s = true := by cases e : isS f.s with
    | true => rfl
    | false => exact absurd (.inr (.inr (.inr e))) h
  have h3 : 0 ≤ f.c := by
    apply Int.not_lt.1
    intro e
    exact h (.inr (.inl e))
  have h4 : f.c < (J.cs.length : Int) := by
    apply Int.not_le.1
    intro e
    exact h (.inr (.inr (.inl e)))
  refine ⟨h1, h2, f.c.toNat, J.cs[f.c.toNat]'(by omega), by omega, List.getElem?_eq_getElem _⟩
open Classical in
/-- The rule that a fact breaks. -/
noncomputable def Ju.rule (J : Ju) (f : Fa) : Int := if J.bad f then 1 else match J.cs[f.c.toNat]? with
  | some c => J.rul c f
  | none => 1
/-- What it learns of a fact. -/
noncomputable def Ju.lrn (J : Ju) (f : Fa) : Ju := match J.cs[f.c.toNat]? with
  | none => J
  | some c =>
    if f.k = 1 then { J with S := fun t n x => J.S t n x ∨ (t = ⟨f.c, f.s, f.ss⟩ ∧ n = f.nn ∧ x = f.x) }
    else if f.k = 2 then { J with cs := J.cs.set f.c.toNat (c.put f.s ((c.at_ f.s).tak f)) }
    else if f.k = 3 then { J with cs := J.cs.set f.c.toNat { c with s := f.ss }, S := fun t n x => J.S t n x ∧ t ≠ ⟨f.c, 1, f.ss⟩ }
    else if f.k = 4 then { J with cs := J.cs.set f.c.toNat (c.put f.s (c.at_ f.s).rfr) }
    else if f.k = 5 then { J with cs := J.cs.set f.c.toNat (c.put f.s ((c.at_ f.s).tck ((f.nn : Nat) : Int))) }
    else if f.k = 6 then { J with cs := J.cs.set f.c.toNat (c.put f.s (c.at_ f.s).ack) }
    else if f.k = 7 then { J with cs := J.cs.set f.c.toNat (c.put f.s ((c.at_ f.s).rst f.s)) }
    else { J with cs := J.cs.set f.c.toNat (c.put f.s ((c.at_ f.s).shw f.cd)) }
open Classical in
noncomputable def Ju.see (J : Ju) (f : Fa) : Ju := if J.r ≠ 0 then J else if J.rule f ≠ 0 then { J with r := J.rule f, a := ((J.n : Nat) : Int) } else { J.lrn f with n := J.n + 1 }
open Classical in
theorem glearn (jb g cap0 ob N : Nat) (M : TK → Option Nat) (J : Ju) (f : Fa) (a : Option Addr) (cap : Nat) (w : World) (h : GJ w jb g cap0 ob N M J) (hN : N + 1 < maxLen) (hf : f.Ok) (hb : ¬ J.bad f) (hr : Row8 w a f.n cap f.b) :
    Calls Try.prog 20 #[.pointer (some ⟨jb, 0, none⟩), .agg (faC f a cap)] w fun r w' => r = .returned (.tuple #[]) ∧ Hid (∃ M' N', N' ≤ N + 2 ∧ (∀ t b, t.ok → M' t = some b → M t = some b ∨ w.heap.size ≤ b) ∧ GJ w' jb g cap0 ob N' M' (J.lrn f) ∧ ∀ l, Ft jb g ob M l → Off l w w') := by
  obtain ⟨hk, hs, i, c, hc, hi⟩ := Ju.good hb
  obtain ⟨o1, o2, o3, o4, o5⟩ := hf
  obtain ⟨fk, fc, fs, fss, fnn, fon, fcd, fn, fb⟩ := f
  dsimp only at hc hk hs o1 o2 o3 o4 o5 hr
  subst hc
  have hx : (BA fb fn).size ≤ maxLen := by rw [BA_size]; unfold maxLen; omega
  unfold isK at hk
  simp only [Bool.and_eq_true, decide_eq_true_eq] at hk
  unfold faC
  show Calls Try.prog _ #[.pointer (some ⟨jb, 0, none⟩), .agg #[.int .i64 fk, .int .i64 ((i : Nat) : Int), .int .i64 fs, .int .u32 (fss : Nat), .int .u32 (fnn : Nat), .bool fon, .int .i64 fcd, .slice a fn cap]] w _
  have eL : ∀ J', J.lrn ⟨fk, ((i : Nat) : Int), fs, fss, fnn, fon, fcd, fn, fb⟩ = J' → J.lrn ⟨fk, ((i : Nat) : Int), fs, fss, fnn, fon, fcd, fn, fb⟩ = J' := fun _ h => h
  have hk : fk = 1 ∨ fk = 2 ∨ fk = 3 ∨ fk = 4 ∨ fk = 5 ∨ fk = 6 ∨ fk = 7 ∨ fk = 8 := by omega
  unfold Ju.lrn
  simp only [Int.toNat_natCast, hi]
  rcases hk with rfl | rfl | rfl | rfl | rfl | rfl | rfl | rfl
  · refine (glearn1 jb g cap0 ob N M J i c fs fss fnn fon fcd fn fb a cap w h hi hr hN ⟨o1, o2, o3⟩ o4 hx).mono ?_
    rintro r w' ⟨rfl, hh⟩
    obtain ⟨M', h1, h2, h3⟩ := hh.out
    exact ⟨rfl, M', N + 2, Nat.le_refl _, h1, by simpa [Fa.x] using h2, h3⟩
  · refine (glearn2 jb g cap0 ob N M J i c fs fss fnn fon fcd fn fb a cap w h hi hr).mono ?_
    rintro r w' ⟨rfl, hh⟩
    exact ⟨rfl, M, N, by omega, fun _ _ _ hm => .inl hm, by simpa using hh.out.1, hh.out.2⟩
  · refine (glearn3 jb g cap0 ob N M J i c fs fss fnn fon fcd fn fb a cap w h hi hr ⟨o1, (show (Lit.int .i64 1).wf = true by decide), o3⟩).mono ?_
    rintro r w' ⟨rfl, hh⟩
    obtain ⟨M', h1, h2, h3⟩ := hh.out
    exact ⟨rfl, M', N, by omega, h1, by simpa using h2, h3⟩
  · refine (glearn4 jb g cap0 ob N M J i c fs fss fnn fon fcd fn fb a cap w h hi hr).mono ?_
    rintro r w' ⟨rfl, hh⟩
    exact ⟨rfl, M, N, by omega, fun _ _ _ hm => .inl hm, by simpa using hh.out.1, hh.out.2⟩
  · refine (glearn5 jb g cap0 ob N M J i c fs fss fnn fon fcd fn fb a cap w h hi hr o4).mono ?_
    rintro r w' ⟨rfl, hh⟩
    exact ⟨rfl, M, N, by omega, fun _ _ _ hm => .inl hm, by simpa using hh.out.1, hh.out.2⟩
  · refine (glearn6 jb g cap0 ob N M J i c fs fss fnn fon fcd fn fb a cap w h hi hr).mono ?_
    rintro r w' ⟨rfl, hh⟩
    exact ⟨rfl, M, N, by omega, fun _ _ _ hm => .inl hm, by simpa using hh.out.1, hh.out.2⟩
  · refine (glearn7 jb g cap0 ob N M J i c fs fss fnn fon fcd fn fb a cap w h hi hr).mono ?_
    rintro r w' ⟨rfl, hh⟩
    exact ⟨rfl, M, N, by omega, fun _ _ _ hm => .inl hm, by simpa using hh.out.1, hh.out.2⟩
  · refine (glearn8 jb g cap0 ob N M J i c fs fss fnn fon fcd fn fb a cap w h hi hr).mono ?_
    rintro r w' ⟨rfl, hh⟩
    exact ⟨rfl, M, N, by omega, fun _ _ _ hm => .inl hm, by simpa using hh.out.1, hh.out.2⟩
open Classical in
theorem grule (jb g cap0 ob N : Nat) (M : TK → Option Nat) (J : Ju) (f : Fa) (a : Option Addr) (cap : Nat) (w : World) (h : GJ w jb g cap0 ob N M J) (hf : f.Ok) (hr : Row8 w a f.n cap f.b) :
    Calls Try.prog 19 #[.pointer (some ⟨jb, 0, none⟩), .agg (faC f a cap)] w fun r w' => r = .returned (.int .i64 (J.rule f)) ∧ Below w.heap.size w w' := by
  unfold Ju.rule
  by_cases hb : J.bad f
  · rw [if_pos hb]
    exact grule_bad jb g cap0 ob N M J f.k f.c f.s f.ss f.nn f.on f.cd f.n a cap w h hb
  · rw [if_neg hb]
    obtain ⟨hk, hs, i, c, hc, hi⟩ := Ju.good hb
    obtain ⟨o1, o2, o3, o4, o5⟩ := hf
    obtain ⟨fk, fc, fs, fss, fnn, fon, fcd, fn, fb⟩ := f
    dsimp only at hc hk hs o1 o2 o3 o4 o5 hr
    subst hc
    have hx : (BA fb fn).size ≤ maxLen := by rw [BA_size]; unfold maxLen; omega
    simp only [Int.toNat_natCast, hi]
    exact grule_ok jb g cap0 ob N M J i c fk fs fss fnn fon fcd fn fb a cap w h hi hr hk hs o3 o1 o4 hx o5
end Go.Proofs.Ytaeamogagaaodaa
