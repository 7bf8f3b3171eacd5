/- Part 35 of the texts on which the proofs of layer 13 rest: contracts of Go functions. -/
import Derived.Test.YtpgdghjlfdehjaaGreatPkR30
import Derived.Test.YtpgdghjlfdehjaaGreatPkR32
import Derived.Test.YtpgdghjlfdehjaaGreatPkR33
namespace Go.Proofs.YtpgdghjlfdehjaaGreat
set_option maxRecDepth 100000
open Go.RowKit
theorem Row8.off0 {l : List Nat} {w w' : World} {a : Option Addr} {len cap : Nat} {bs : Nat → Nat} (h : Row8 w a len cap bs) (q : Off l w w') (hl : ∀ x, a = some x → 0 < len → x.block ∉ l) : Row8 w' a len cap bs := by
  by_cases h0 : 0 < len
  · exact h.off q (fun x hx => hl x hx h0)
  · exact ⟨h.byte, h.nil, fun x hx i hi => absurd hi (by omega), h.le⟩
theorem Off.set {l : List Nat} {w w' : World} (h : Off l w w') {b o : Nat} {v : Value} (hb : b ∈ l) : Off l w (w'.setCell ⟨b, o, none⟩ v) :=
  h.trans ((Off.setCell b o w' v).more (fun k hk => by simp at hk; rw [hk]; exact hb))
theorem row8_of4 {w : World} {g b0 b1 b2 b3 : Nat} {bs : Nat → Nat} (hb : ∀ i, i < 4 → bs i < 256) (e0 : bs 0 = b0) (e1 : bs 1 = b1) (e2 : bs 2 = b2) (e3 : bs 3 = b3) (h0 : w.cell? ⟨g, 0, none⟩ = some (.int .u8 (b0 : Nat))) (h1 : w.cell? ⟨g, 1, none⟩ = some (.int .u8 (b1 : Nat))) (h2 : w.cell? ⟨g, 2, none⟩ = some (.int .u8 (b2 : Nat))) (h3 : w.cell? ⟨g, 3, none⟩ = some (.int .u8 (b3 : Nat))) :
    Row8 w (some ⟨g, 0, none⟩) 4 4 bs := by
  subst e0 e1 e2 e3
  refine ⟨hb, (fun h => by cases h), fun x hx i hi => ?_, Nat.le_refl _⟩
  cases hx
  have c : i = 0 ∨ i = 1 ∨ i = 2 ∨ i = 3 := by omega
  rcases c with rfl | rfl | rfl | rfl
  · exact h0
  · exact h1
  · exact h2
  · exact h3
set_option maxRecDepth 100000 in
set_option maxHeartbeats 1000000 in
theorem rsign_own (P : Pm) (hP : Pok P) (w : World) :
    Calls Tryz.prog 55 #[.agg #[.int .u32 (P.c : Nat), .int .i64 (P.o : Nat), .int .i64 (P.i : Nat), .int .i64 (P.t : Nat), .int .u32 (P.n : Nat)]] w fun e w' => ∃ g, e = .returned (.slice (some ⟨g, 0, none⟩) 4 4) ∧
      Hid (w'.heap[g]? = some (.cells #[.int .u8 (dsg P 0 : Nat), .int .u8 (dsg P 1 : Nat), .int .u8 (dsg P 2 : Nat), .int .u8 (dsg P 3 : Nat)] 5 (0, 0)) ∧ w.heap.size ≤ g ∧ Below w.heap.size w w') := by
  unfold dsg
  have hE := hP.ok
  have hc := hP.c
  have hn := hP.n
  generalize P.c = c at *
  generalize P.o = O at *
  generalize P.i = I at *
  generalize P.t = T at *
  generalize P.n = n at *
  have hb : Below w.heap.size w (w.alloc (.cells #[.int .u32 c, .int .i64 O, .int .i64 I, .int .i64 T, .int .u32 n] 26)) := (Below.refl _ _).alloc (Nat.le_refl _) _
  have hF := rencode_good c O I T n (w.alloc (.cells #[.int .u32 c, .int .i64 O, .int .i64 I, .int .i64 T, .int .u32 n] 26)) hc hn hE
  obtain ⟨_, hO, hI, _, _⟩ := hE
  have hby := pe_lt (c := c) (o := O) (i := I) (t := T) (n := n) (by omega) (by omega)
  have hk := PM.K_lt (pe c O I T n) 14
  have hB0 := fun a cap w1 (R1 : Row8 w1 a 14 cap (pe c O I T n)) => refSum_row a 14 cap (pe c O I T n) w1 R1 (by omega)
  obtain ⟨k, hkd⟩ : ∃ k, k = PM.K (pe c O I T n) 14 := ⟨_, rfl⟩
  rw [← hkd] at hk hB0 ⊢
  clear hO hI hkd hP
  go_enter Tryz.func55, Tryz.ntmps55
  go_wp2_with fail
  refine hF.mono ?_
  rintro e w1 ⟨a, cap, rfl, H1⟩
  obtain ⟨O1, hb1⟩ := H1.out
  have hb2 := below_all hb hb.size hb1
  obtain ⟨a1, c1, e1, R1⟩ := own_row8 O1 (fun k _ => hby k)
  simp only [Value.slice.injEq, true_and] at e1
  obtain ⟨rfl, rfl⟩ := e1
  have hB := hB0 _ _ w1 R1
  clear hb hF hb1 H1 O1 R1 hby hB0
  go_wp2_with fail
  refine hB.mono ?_
  rintro e w2 ⟨rfl, hb3'⟩
  have hb3 := below_all hb2 hb2.size hb3'
  clear hB hb3' hb2
  go_wp2_with fail
  refine (refWord_any k _ hk).mono ?_
  rintro e w4 ⟨rfl, rfl⟩
  have HB : Hid (_) := And.intro (heap_alloc_new w2 (.cells #[.int .u8 ((k : Int) / 16777216), .int .u8 ((k : Int) / 65536 % 256), .int .u8 ((k : Int) / 256 % 256), .int .u8 ((k : Int) % 256)] 5)) (And.intro hb3.size (hb3.alloc hb3.size (.cells #[.int .u8 ((k : Int) / 16777216), .int .u8 ((k : Int) / 65536 % 256), .int .u8 ((k : Int) / 256 % 256), .int .u8 ((k : Int) % 256)] 5)))
  have HK : Hid (_) := hk
  clear hb3 hk
  go_wp2_with fail
  go_ret
  have hk := HK.out
  have e0 : (k : Int) / 16777216 = ((PM.w4 k 0 : Nat) : Int) := by show _ = ((k / 16777216 % 256 : Nat) : Int); omega
  have e1 : (k : Int) / 65536 % 256 = ((PM.w4 k 1 : Nat) : Int) := by show _ = ((k / 65536 % 256 : Nat) : Int); omega
  have e2 : (k : Int) / 256 % 256 = ((PM.w4 k 2 : Nat) : Int) := by show _ = ((k / 256 % 256 : Nat) : Int); omega
  have e3 : (k : Int) % 256 = ((PM.w4 k 3 : Nat) : Int) := by show _ = ((k % 256 : Nat) : Int); omega
  have h := HB.out
  rw [← e0, ← e1, ← e2, ← e3]
  exact ⟨_, rfl, h⟩
def osig (P : Pm) (odd : Bool) : Nat → Nat := if odd = true then (fun i => if i = 0 then dsg P 0 ^^^ 1 else dsg P i) else dsg P
def oses (s : Sd) (odd : Bool) : Nat := if odd = true then (s.ss + 1) % 4294967296 else s.ss
def onum (s : Sd) (N : Int) : Nat := (s.nm + (N % 4294967296).toNat) % 4294967296
def Fo (P : Pm) (s : Sd) (k N fl : Int) (odd : Bool) (len : Nat) (bs : Nat → Nat) (x : Nat) (f : Fm) : Prop :=
  (k = 1 → f = encI 1 P.c 0 0 0 4 (osig P odd)) ∧ (k = 2 → odd = false → f = encI 2 P.c s.ss 0 0 4 (dsg P)) ∧ (k = 3 → f = encI 3 P.c (oses s odd) 0 0 0 (fun _ => 0)) ∧
  (k = 4 → f = encI 4 P.c (oses s odd) (onum s N) fl len bs) ∧ (k = 5 → f = encI 5 P.c (oses s odd) P.n 0 0 (fun _ => 0)) ∧
  (k = 2 → ∃ so sg, f = encI 2 P.c so 0 0 4 sg) ∧ (k = 6 → f = (len, bs)) ∧ (k = 7 → (x ≠ 0 ∧ PM.bl x ≤ 8 * (encI 4 P.c (oses s odd) (onum s N) fl len bs).1) → DE f.2 f.1 = 42) ∧
  (k = 7 → ¬ (x ≠ 0 ∧ PM.bl x ≤ 8 * (encI 4 P.c (oses s odd) (onum s N) fl len bs).1) → f = encI 4 P.c (oses s odd) (onum s N) fl len bs)
theorem osig_f (P : Pm) : osig P false = dsg P := by unfold osig; rw [if_neg (by simp)]
theorem osig_false (P : Pm) (i : Nat) : osig P false i = dsg P i := by unfold osig; rw [if_neg (by simp)]
theorem osig_zero (P : Pm) {x0 : Nat} (h : dsg P 0 ^^^ 1 = x0) : osig P true 0 = x0 := by unfold osig; rw [if_pos rfl, if_pos rfl, h]
theorem osig_succ (P : Pm) (i : Nat) (h : i ≠ 0) : osig P true i = dsg P i := by unfold osig; rw [if_pos rfl, if_neg h]
theorem xor1 (x : Nat) (h : x < 256) : bits .xor .u8 (x : Int) 1 = ((x ^^^ 1 : Nat) : Int) := u8_xor_nat x 1 h (by omega)
theorem so_facts (ss : Nat) : ∃ so : Nat, (ss + 1) % 4294967296 = so ∧ IntKind.u32.wrap ((ss : Int) + 1) = (so : Int) ∧ ((ss : Int) + 1) % 4294967296 = (so : Int) :=
  ⟨_, rfl, by rw [IntKind.wrap_u32]; omega, by omega⟩
theorem x0_facts (P : Pm) : ∃ x0 : Nat, dsg P 0 ^^^ 1 = x0 ∧ bits .xor .u8 (dsg P 0 : Int) 1 = (x0 : Int) := ⟨_, rfl, xor1 _ (dsg_byte P 0 (by omega))⟩
theorem nu_facts (s : Sd) (N : Int) : ∃ nN nu : Nat, onum s N = nu ∧ nu < 4294967296 ∧ IntKind.u32.wrap N = (nN : Int) ∧ N % 4294967296 = (nN : Int) ∧ IntKind.u32.wrap ((s.nm : Int) + (nN : Int)) = (nu : Int) ∧ ((s.nm : Int) + (nN : Int)) % 4294967296 = (nu : Int) := by
  refine ⟨(N % 4294967296).toNat, onum s N, rfl, by unfold onum; omega, by rw [IntKind.wrap_u32]; omega, by omega, ?_, ?_⟩
  · rw [IntKind.wrap_u32]; unfold onum; omega
  · unfold onum; omega
theorem oses_false (s : Sd) : oses s false = s.ss := by unfold oses; rw [if_neg (by simp)]
theorem oses_lt {s : Sd} (h : s.ss < 4294967296) (odd : Bool) : oses s odd < 4294967296 := by
  unfold oses
  split
  · omega
  · exact h
theorem onum_lt (s : Sd) (N : Int) : onum s N < 4294967296 := by unfold onum; omega
theorem encI_byte (k c s n : Nat) (f : Int) (len : Nat) (bs : Nat → Nat) (hb : ∀ i, i < len → bs i < 256) : ∀ i, i < (encI k c s n f len bs).1 → (encI k c s n f len bs).2 i < 256 := by
  unfold encI
  by_cases h : LW k c s n f len len = 0
  · have hf := (LW_zero h).2.2.2.2
    obtain ⟨F, rfl⟩ : ∃ F : Nat, f = (F : Int) := ⟨f.toNat, by omega⟩
    exact encF_byte k c s n F len bs hb
  · rw [if_neg h]; intro i hi; exact absurd hi (Nat.not_lt_zero i)
theorem encI_len (k c s n : Nat) (f : Int) (len : Nat) (bs : Nat → Nat) : (encI k c s n f len bs).1 ≤ 27 := by
  unfold encI
  by_cases h : LW k c s n f len len = 0
  · rw [if_pos h]
    have := (LW_zero h).2.2.2.1
    show 15 + len + 4 ≤ 27
    omega
  · rw [if_neg h]; show 0 ≤ 27; omega
theorem osig_byte (P : Pm) (odd : Bool) : ∀ i, i < 4 → osig P odd i < 256 := by
  intro i hi
  have h := dsg_byte P
  unfold osig
  cases odd
  · exact h i hi
  · show (if i = 0 then dsg P 0 ^^^ 1 else dsg P i) < 256
    split
    · exact Nat.xor_lt_two_pow (n := 8) (h 0 (by omega)) (by omega)
    · exact h i hi
theorem spoilt_DE {k c s n : Nat} {f : Int} {len : Nat} {bs f7 : Nat → Nat} {x d : Nat} (hx : x < 4294967296) (h0 : x ≠ 0) (hroom : PM.bl x ≤ 8 * (encI k c s n f len bs).1) (hV : PM.V (PM.fb f7) (8 * (encI k c s n f len bs).1) = PM.V (PM.fb (encI k c s n f len bs).2) (8 * (encI k c s n f len bs).1) ^^^ PM.C x (2 ^ d)) :
    DE f7 (encI k c s n f len bs).1 = 42 := by
  unfold encI at *
  by_cases hE : LW k c s n f len len = 0
  · rw [if_pos hE] at *
    have hz := LW_zero hE
    refine DE_check (by show 19 ≤ 15 + len + 4; omega) (by show 15 + len + 4 ≤ 27; omega) (fun h => ?_)
    have hS : PM.R PM.g 32 (PM.V (PM.fb (PM.sl (fr k c s n f.toNat len bs) (15 + len))) (8 * (15 + len + 4))) = 0 := PM.V_sl _ _
    unfold vld at h
    rw [hV, PM.R_xor] at h
    rw [show PM.R PM.g 32 (PM.V (PM.fb (15 + len + 4, PM.sl (fr k c s n f.toNat len bs) (15 + len)).2) (8 * (15 + len + 4, PM.sl (fr k c s n f.toNat len bs) (15 + len)).1)) = 0 from hS, Nat.zero_xor] at h
    exact h0 (PM.burst x d hx h)
  · rw [if_neg hE] at hroom
    exfalso
    have : PM.bl x ≤ 0 := hroom
    rw [PM.bl_pos h0] at this
    omega
theorem spoilt_f {k c s n : Nat} {f : Int} {len : Nat} {bs f7 : Nat → Nat} {x d : Nat} {F : Fm} (e : encI k c s n f len bs = F) (hx : x < 4294967296) (h0 : x ≠ 0) (hroom : PM.bl x ≤ 8 * F.1) (hV : PM.V (PM.fb f7) (8 * F.1) = PM.V (PM.fb F.2) (8 * F.1) ^^^ PM.C x (2 ^ d)) : DE f7 F.1 = 42 := by
  subst e
  exact spoilt_DE hx h0 hroom hV
end Go.Proofs.YtpgdghjlfdehjaaGreat
namespace Go.Proofs.YtpgdghjlfdehjaaGreat
set_option maxRecDepth 100000
open Go.RowKit
section
variable {w w' : World} {d m g n mx : Nat} {P : Pm} {U l : List Nat} {s : Sd}
theorem DX.off {B : Bk} {A : Prop} (h : DX w d m g n mx P U s B A) (q : Off l w w') (hl : ∀ k, k ∈ U → k ∉ l) : DX w' d m g n mx P U s B A :=
  ⟨(q.block d h.dlt (hl _ h.kd.2)).trans h.dev, h.mem.off q (hl _ h.km.2) (hl _ h.kg.2), fun hs => ⟨(h.cel hs).1, (h.cel hs).2.1.off q (hl _ h.kc.2), (h.cel hs).2.2⟩, h.dog.off q (hl _ h.kb.2), h.val.off q (hl _ h.kv.2) (hl _ h.kw.2) (fun k hk hM => hl k (h.kM k hM).2 hk), h.log.off q (fun k hk => hl _ (h.kl k hk).2), own_offk h.app q (fun k hk => hl _ (h.ka k hk).2), h.apb, fun k hk => Nat.lt_of_lt_of_le (h.ltU k hk) q.size, h.kd, h.km, h.kg, h.kc, h.kb, h.kv, h.kw, h.kM, h.kl, h.ka, h.pok, h.n10, h.mx0, h.mxl⟩
theorem RB.off {B : Bk2} {A : Prop} (h : RB w d m g n mx P U s B A) (q : Off l w w') (hl : ∀ k, k ∈ U → k ∉ l) : RB w' d m g n mx P U s B A :=
  ⟨(q.block d h.dlt (hl _ h.kd.2)).trans h.dev, h.mem.off q (hl _ h.km.2) (hl _ h.kg.2), fun hs => ⟨(h.cel hs).1, (h.cel hs).2.1.off q (hl _ h.kc.2), (h.cel hs).2.2⟩, h.val.off q (fun k hk hM => hl k (h.kM k hM).2 hk), own_offk h.log q (fun k hk => hl _ (h.kl k hk).2), own_offk h.app q (fun k hk => hl _ (h.ka k hk).2), h.apb, h.vok, h.dcl, fun k hk => Nat.lt_of_lt_of_le (h.ltU k hk) q.size, h.kd, h.km, h.kg, h.kc, h.kM, h.kl, h.ka, h.pok, h.n10, h.mx0, h.mxl, h.nl⟩
theorem DV.off (h : DV w d m g n mx P U s) (q : Off l w w') (hl : ∀ k, k ∈ U → k ∉ l) : DV w' d m g n mx P U s := by
  obtain ⟨B, h⟩ := h
  exact ⟨B, h.off q hl⟩
theorem RW.off (h : RW w d m g n mx P U s) (q : Off l w w') (hl : ∀ k, k ∈ U → k ∉ l) : RW w' d m g n mx P U s := by
  obtain ⟨B, h⟩ := h
  exact ⟨B, h.off q hl⟩
end
structure Pl where
  d : Nat
  m : Nat
  g : Nat
  e : Nat
  r : Nat
  q : Nat
  n : Nat
  mx : Nat
  P : Pm
  K : List (Nat × Option Obj)
structure Bt (w0 w : World) (L : Pl) (s t : Sd) (F : List Nat) (U V : List Nat) : Prop where
  bel : Below w0.heap.size w0 w
  dv : DV w L.d L.m L.g L.n L.mx L.P U s
  rw : RW w L.e L.r L.q L.n L.mx L.P V t
  uv : ∀ k, k ∈ U → w0.heap.size ≤ k ∧ k ∉ V
  vb : ∀ k, k ∈ V → w0.heap.size ≤ k
  fr : ∀ k, k ∈ F → k < w.heap.size ∧ k ∉ U ∧ k ∉ V
  kp : ∀ x, x ∈ L.K → (x.1 < w.heap.size ∧ x.1 ∉ U ∧ x.1 ∉ V) ∧ w.heap[x.1]? = x.2
section
variable {w0 w w' : World} {L : Pl} {s t s' : Sd} {F U V U' : List Nat}
theorem Bt.dev (h : Bt w0 w L s t F U V) (g : Gr U w U' w') (x : DV w' L.d L.m L.g L.n L.mx L.P U' s') : Bt w0 w' L s' t F U' V :=
  ⟨g.off.below h.bel (fun k hk => (h.uv k hk).1) h.bel.size, x, h.rw.off g.off (fun k hk hU => (h.uv k hU).2 hk), fun k hk => by
    rcases g.new k hk with h1 | h1
    · exact h.uv k h1
    · exact ⟨Nat.le_trans h.bel.size h1, fun hV => by have := h.rw.ult k hV; omega⟩, h.vb, fun k hk => ⟨Nat.lt_of_lt_of_le (h.fr k hk).1 g.off.size, g.out (h.fr k hk).1 (h.fr k hk).2.1, (h.fr k hk).2.2⟩, fun x hx => ⟨⟨Nat.lt_of_lt_of_le (h.kp x hx).1.1 g.off.size, g.out (h.kp x hx).1.1 (h.kp x hx).1.2.1, (h.kp x hx).1.2.2⟩, (g.off.block _ (h.kp x hx).1.1 (h.kp x hx).1.2.1).trans (h.kp x hx).2⟩⟩
theorem Bt.ref (h : Bt w0 w L s t F U V) (g : Gr V w U' w') (x : RW w' L.e L.r L.q L.n L.mx L.P U' s') : Bt w0 w' L s s' F U U' :=
  ⟨g.off.below h.bel h.vb h.bel.size, h.dv.off g.off (fun k hk hV => (h.uv k hk).2 hV), x, fun k hk => ⟨(h.uv k hk).1, g.out (h.dv.ult k hk) (h.uv k hk).2⟩, fun k hk => by
    rcases g.new k hk with h1 | h1
    · exact h.vb k h1
    · exact Nat.le_trans h.bel.size h1, fun k hk => ⟨Nat.lt_of_lt_of_le (h.fr k hk).1 g.off.size, (h.fr k hk).2.1, g.out (h.fr k hk).1 (h.fr k hk).2.2⟩, fun x hx => ⟨⟨Nat.lt_of_lt_of_le (h.kp x hx).1.1 g.off.size, (h.kp x hx).1.2.1, g.out (h.kp x hx).1.1 (h.kp x hx).1.2.2⟩, (g.off.block _ (h.kp x hx).1.1 (h.kp x hx).1.2.2).trans (h.kp x hx).2⟩⟩
theorem Bt.below (h : Bt w0 w L s t F U V) (b : Below w.heap.size w w') : Bt w0 w' L s t F U V :=
  ⟨h.bel.trans (b.mono h.bel.size), h.dv.below b, h.rw.below b, h.uv, h.vb, fun k hk => ⟨Nat.lt_of_lt_of_le (h.fr k hk).1 b.size, (h.fr k hk).2⟩, fun x hx => ⟨⟨Nat.lt_of_lt_of_le (h.kp x hx).1.1 b.size, (h.kp x hx).1.2⟩, (b.block _ (h.kp x hx).1.1).trans (h.kp x hx).2⟩⟩
theorem Bt.more (h : Bt w0 w L s t F U V) (b : Below w.heap.size w w') {k : Nat} (h1 : w.heap.size ≤ k) (h2 : k < w'.heap.size) : Bt w0 w' L s t (k :: F) U V := by
  have h' := h.below b
  refine ⟨h'.bel, h'.dv, h'.rw, h'.uv, h'.vb, fun j hj => ?_, h'.kp⟩
  rcases List.mem_cons.1 hj with e | hj
  · subst e
    exact ⟨h2, fun hm => by have := h.dv.ult _ hm; omega, fun hm => by have := h.rw.ult _ hm; omega⟩
  · exact h'.fr j hj
theorem Bt.kept (h : Bt w0 w L s t F U V) (g : Gr U w U' w') {k : Nat} (hk : k ∈ F) : w'.heap[k]? = w.heap[k]? := g.off.block k (h.fr k hk).1 (h.fr k hk).2.1
theorem Bt.keptR (h : Bt w0 w L s t F U V) (g : Gr V w U' w') {k : Nat} (hk : k ∈ F) : w'.heap[k]? = w.heap[k]? := g.off.block k (h.fr k hk).1 (h.fr k hk).2.2
theorem Bt.less (h : Bt w0 w L s t F U V) {F' : List Nat} (hf : ∀ k, k ∈ F' → k ∈ F) : Bt w0 w L s t F' U V := ⟨h.bel, h.dv, h.rw, h.uv, h.vb, fun k hk => h.fr k (hf k hk), h.kp⟩
theorem Bt.tell (h : Bt w0 w L s t F U V) (K : List (Nat × Option Obj)) (hk : ∀ x, x ∈ K → (x.1 < w.heap.size ∧ x.1 ∉ U ∧ x.1 ∉ V) ∧ w.heap[x.1]? = x.2) : Bt w0 w { L with K := K } s t F U V := ⟨h.bel, h.dv, h.rw, h.uv, h.vb, h.fr, hk⟩
theorem Bt.far (h : Bt w0 w L s t F U V) {k : Nat} (hk : w.heap.size ≤ k) : k ∉ U ∧ k ∉ V := ⟨fun hm => by have := h.dv.ult _ hm; omega, fun hm => by have := h.rw.ult _ hm; omega⟩
end
theorem Row8.blk {w w' : World} {a : Option Addr} {len cap : Nat} {bs : Nat → Nat} (h : Row8 w a len cap bs) (hb : ∀ x, a = some x → w'.heap[x.block]? = w.heap[x.block]?) : Row8 w' a len cap bs :=
  ⟨h.byte, h.nil, fun x hx i hi => (World.cell?_of_block (a := x.add i) (by
    have e : (x.add i).block = x.block := by unfold Addr.add; split <;> rfl
    rw [e]; exact hb x hx)).trans (h.src x hx i hi), h.le⟩
structure Ph (w0 w : World) (L : Pl) (s t : Sd) (b : Nat) (O : Array Value) (a : Option Addr) (len cap : Nat) (bs : Nat → Nat) : Prop where
  bt : ∃ U V, Bt w0 w L s t [b] U V
  bx : w.heap[b]? = some (.cells O 49 (0, 0))
  row : Row8 w a len cap bs
  low : ∀ y, a = some y → 0 < len → y.block < w0.heap.size
section
variable {w0 w w' : World} {L : Pl} {s t : Sd} {b : Nat} {O : Array Value} {a : Option Addr} {len cap : Nat} {bs : Nat → Nat}
theorem Ph.dev (h : Ph w0 w L s t b O a len cap bs) : ∃ U, DV w L.d L.m L.g L.n L.mx L.P U s ∧ ∀ U' w' s', Gr U w U' w' → DV w' L.d L.m L.g L.n L.mx L.P U' s' → Ph w0 w' L s' t b O a len cap bs := by
  obtain ⟨U, V, T⟩ := h.bt
  exact ⟨U, T.dv, fun U' w' s' g x => ⟨⟨U', V, T.dev g x⟩, (T.kept g (by simp)).trans h.bx, h.row.off0 g.off (fun y hy h0 hm => by have := h.low y hy h0; have := (T.uv _ hm).1; omega), h.low⟩⟩
theorem Ph.ref (h : Ph w0 w L s t b O a len cap bs) : ∃ V, RW w L.e L.r L.q L.n L.mx L.P V t ∧ ∀ V' w' t', Gr V w V' w' → RW w' L.e L.r L.q L.n L.mx L.P V' t' → Ph w0 w' L s t' b O a len cap bs := by
  obtain ⟨U, V, T⟩ := h.bt
  exact ⟨V, T.rw, fun V' w' t' g x => ⟨⟨U, V', T.ref g x⟩, (T.keptR g (by simp)).trans h.bx, h.row.off0 g.off (fun y hy h0 hm => by have := h.low y hy h0; have := T.vb _ hm; omega), h.low⟩⟩
theorem Ph.below (h : Ph w0 w L s t b O a len cap bs) (q : Below w.heap.size w w') : Ph w0 w' L s t b O a len cap bs := by
  obtain ⟨U, V, T⟩ := h.bt
  exact ⟨⟨U, V, T.below q⟩, (q.block b (T.fr b (by simp)).1).trans h.bx, h.row.below q, h.low⟩
theorem Ph.drew (h : Ph w0 w L s t b O a len cap bs) : Ph w0 w.drew L s t b O a len cap bs := h.below (Below.drew (Below.refl _ _))
theorem Ph.lt (h : Ph w0 w L s t b O a len cap bs) : b < w.heap.size := by
  obtain ⟨U, V, T⟩ := h.bt
  exact (T.fr b (by simp)).1
end
def Two (w0 w : World) (L : Pl) (s : Sd) : Prop := ∃ U V, Bt w0 w L s s [] U V
theorem Two.ph {w0 w : World} {L : Pl} {s : Sd} {a : Option Addr} {len cap : Nat} {bs : Nat → Nat} (h : Two w0 w L s) (O : Array Value) (hr : Row8 w a len cap bs) (hl : ∀ y, a = some y → 0 < len → y.block < w0.heap.size) : Ph w0 (w.alloc (.cells O 49)) L s s w.heap.size O a len cap bs := by
  obtain ⟨U, V, T⟩ := h
  have b : Below w.heap.size w (w.alloc (.cells O 49)) := (Below.refl _ _).alloc (Nat.le_refl _) _
  exact ⟨⟨U, V, T.more b (Nat.le_refl _) (by simp)⟩, heap_alloc_new w _, hr.below b, hl⟩
theorem Ph.two {w0 w : World} {L : Pl} {s : Sd} {b : Nat} {O : Array Value} {a : Option Addr} {len cap : Nat} {bs : Nat → Nat} (h : Ph w0 w L s s b O a len cap bs) : Two w0 w L s := by
  obtain ⟨U, V, T⟩ := h.bt
  exact ⟨U, V, T.less (by simp)⟩
theorem Two.below {w0 w w' : World} {L : Pl} {s : Sd} (h : Two w0 w L s) (b : Below w.heap.size w w') : Two w0 w' L s := by
  obtain ⟨U, V, T⟩ := h
  exact ⟨U, V, T.below b⟩
end Go.Proofs.YtpgdghjlfdehjaaGreat
