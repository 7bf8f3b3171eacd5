/- Part 41 of the texts on which the proofs of layer 13 rest: contracts of Go functions. -/
import Derived.Deep.RegionHeld3
import Derived.Test.YtndjepeolamedaaGreatPkA16
import Derived.Test.YtndjepeolamedaaGreatPkA18
import Derived.Test.YtndjepeolamedaaGreatPkA19
import Derived.Test.YtndjepeolamedaaGreatPkA20
import Derived.Test.YtndjepeolamedaaGreatPkA29
import Derived.Test.YtndjepeolamedaaGreatPkA35
import Derived.Test.YtndjepeolamedaaGreatPkA38
import Derived.Test.YtndjepeolamedaaGreatPkA39
namespace Go.Proofs.YtndjepeolamedaaGreat
set_option maxRecDepth 100000
open Go.RowKit
section
variable {w w' : World} {d : Nat} {P : Pm} {U l : List Nat} {s : Sh}
theorem RH.off {B : Bk3} (h : RH w d P U s B) (q : Off l w w') (hl : ∀ k, k ∈ U → k ∉ l) : RH w' d P U s B :=
  ⟨(q.block d h.dlt (hl _ h.kd.2)).trans h.dev, h.val.off q (fun k hk hM => hl k (h.kM k hM).2 hk), own_offk h.log q (fun k hk => hl _ (h.kl k hk).2), own_offk h.app q (fun k hk => hl _ (h.ka k hk).2), h.apb, h.vok, h.dcl, fun k hk => Nat.lt_of_lt_of_le (h.ltU k hk) q.size, h.kd, h.kM, h.kl, h.ka, h.pok, h.nl⟩
theorem RVh.off (h : RVh w d P U s) (q : Off l w w') (hl : ∀ k, k ∈ U → k ∉ l) : RVh w' d P U s := by
  obtain ⟨B, h⟩ := h
  exact ⟨B, h.off q hl⟩
end
structure Plh where
  d : Nat
  e : Nat
  P : Pm
  K : List (Nat × Option Obj)
structure Bth (w0 w : World) (L : Plh) (s t : Sh) (F : List Nat) (U V : List Nat) : Prop where
  bel : Below w0.heap.size w0 w
  dv : HV w L.d L.P U s
  rw : RVh w L.e L.P V t
  uv : ∀ k, k ∈ U → w0.heap.size ≤ k ∧ k ∉ V
  vb : ∀ k, k ∈ V → w0.heap.size ≤ k
  fr : ∀ k, k ∈ F → k < w.heap.size ∧ k ∉ U ∧ k ∉ V
  kp : ∀ x, x ∈ L.K → (x.1 < w.heap.size ∧ x.1 ∉ U ∧ x.1 ∉ V) ∧ w.heap[x.1]? = x.2
section
variable {w0 w w' : World} {L : Plh} {s t s' : Sh} {F U V U' : List Nat}
theorem Bth.dev (h : Bth w0 w L s t F U V) (g : Gr U w U' w') (x : HV w' L.d L.P U' s') : Bth w0 w' L s' t F U' V :=
  ⟨g.off.below h.bel (fun k hk => (h.uv k hk).1) h.bel.size, x, h.rw.off g.off (fun k hk hU => (h.uv k hU).2 hk), fun k hk => by
    rcases g.new k hk with h1 | h1
    · exact h.uv k h1
    · exact ⟨Nat.le_trans h.bel.size h1, fun hV => by have := h.rw.ult k hV; omega⟩, h.vb, fun k hk => ⟨Nat.lt_of_lt_of_le (h.fr k hk).1 g.off.size, g.out (h.fr k hk).1 (h.fr k hk).2.1, (h.fr k hk).2.2⟩, fun x hx => ⟨⟨Nat.lt_of_lt_of_le (h.kp x hx).1.1 g.off.size, g.out (h.kp x hx).1.1 (h.kp x hx).1.2.1, (h.kp x hx).1.2.2⟩, (g.off.block _ (h.kp x hx).1.1 (h.kp x hx).1.2.1).trans (h.kp x hx).2⟩⟩
theorem Bth.ref (h : Bth w0 w L s t F U V) (g : Gr V w U' w') (x : RVh w' L.e L.P U' s') : Bth w0 w' L s s' F U U' :=
  ⟨g.off.below h.bel h.vb h.bel.size, h.dv.off g.off (fun k hk hV => (h.uv k hk).2 hV), x, fun k hk => ⟨(h.uv k hk).1, g.out (h.dv.ult k hk) (h.uv k hk).2⟩, fun k hk => by
    rcases g.new k hk with h1 | h1
    · exact h.vb k h1
    · exact Nat.le_trans h.bel.size h1, fun k hk => ⟨Nat.lt_of_lt_of_le (h.fr k hk).1 g.off.size, (h.fr k hk).2.1, g.out (h.fr k hk).1 (h.fr k hk).2.2⟩, fun x hx => ⟨⟨Nat.lt_of_lt_of_le (h.kp x hx).1.1 g.off.size, (h.kp x hx).1.2.1, g.out (h.kp x hx).1.1 (h.kp x hx).1.2.2⟩, (g.off.block _ (h.kp x hx).1.1 (h.kp x hx).1.2.2).trans (h.kp x hx).2⟩⟩
theorem Bth.below (h : Bth w0 w L s t F U V) (b : Below w.heap.size w w') : Bth w0 w' L s t F U V :=
  ⟨h.bel.trans (b.mono h.bel.size), h.dv.below b, h.rw.below b, h.uv, h.vb, fun k hk => ⟨Nat.lt_of_lt_of_le (h.fr k hk).1 b.size, (h.fr k hk).2⟩, fun x hx => ⟨⟨Nat.lt_of_lt_of_le (h.kp x hx).1.1 b.size, (h.kp x hx).1.2⟩, (b.block _ (h.kp x hx).1.1).trans (h.kp x hx).2⟩⟩
theorem Bth.more (h : Bth w0 w L s t F U V) (b : Below w.heap.size w w') {k : Nat} (h1 : w.heap.size ≤ k) (h2 : k < w'.heap.size) : Bth w0 w' L s t (k :: F) U V := by
  have h' := h.below b
  refine ⟨h'.bel, h'.dv, h'.rw, h'.uv, h'.vb, fun j hj => ?_, h'.kp⟩
  rcases List.mem_cons.1 hj with e | hj
  · subst e
    exact ⟨h2, fun hm => by have := h.dv.ult _ hm; omega, fun hm => by have := h.rw.ult _ hm; omega⟩
  · exact h'.fr j hj
theorem Bth.kept (h : Bth w0 w L s t F U V) (g : Gr U w U' w') {k : Nat} (hk : k ∈ F) : w'.heap[k]? = w.heap[k]? := g.off.block k (h.fr k hk).1 (h.fr k hk).2.1
theorem Bth.keptR (h : Bth w0 w L s t F U V) (g : Gr V w U' w') {k : Nat} (hk : k ∈ F) : w'.heap[k]? = w.heap[k]? := g.off.block k (h.fr k hk).1 (h.fr k hk).2.2
theorem Bth.less (h : Bth w0 w L s t F U V) {F' : List Nat} (hf : ∀ k, k ∈ F' → k ∈ F) : Bth w0 w L s t F' U V := ⟨h.bel, h.dv, h.rw, h.uv, h.vb, fun k hk => h.fr k (hf k hk), h.kp⟩
theorem Bth.tell (h : Bth w0 w L s t F U V) (K : List (Nat × Option Obj)) (hk : ∀ x, x ∈ K → (x.1 < w.heap.size ∧ x.1 ∉ U ∧ x.1 ∉ V) ∧ w.heap[x.1]? = x.2) : Bth w0 w { L with K := K } s t F U V := ⟨h.bel, h.dv, h.rw, h.uv, h.vb, h.fr, hk⟩
theorem Bth.far (h : Bth w0 w L s t F U V) {k : Nat} (hk : w.heap.size ≤ k) : k ∉ U ∧ k ∉ V := ⟨fun hm => by have := h.dv.ult _ hm; omega, fun hm => by have := h.rw.ult _ hm; omega⟩
end
theorem Row8.blkH {w w' : World} {a : Option Addr} {len cap : Nat} {bs : Nat → Nat} (h : Row8 w a len cap bs) (hb : ∀ x, a = some x → w'.heap[x.block]? = w.heap[x.block]?) : Row8 w' a len cap bs :=
  ⟨h.byte, h.nil, fun x hx i hi => (World.cell?_of_block (a := x.add i) (by
    have e : (x.add i).block = x.block := by unfold Addr.add; split <;> rfl
    rw [e]; exact hb x hx)).trans (h.src x hx i hi), h.le⟩
structure Phh (w0 w : World) (L : Plh) (s t : Sh) (b : Nat) (O : Array Value) (a : Option Addr) (len cap : Nat) (bs : Nat → Nat) : Prop where
  bt : ∃ U V, Bth w0 w L s t [b] U V
  bx : w.heap[b]? = some (.cells O 80 (0, 0))
  row : Row8 w a len cap bs
  low : ∀ y, a = some y → 0 < len → y.block < w0.heap.size
section
variable {w0 w w' : World} {L : Plh} {s t : Sh} {b : Nat} {O : Array Value} {a : Option Addr} {len cap : Nat} {bs : Nat → Nat}
theorem Phh.dev (h : Phh w0 w L s t b O a len cap bs) : ∃ U, HV w L.d L.P U s ∧ ∀ U' w' s', Gr U w U' w' → HV w' L.d L.P U' s' → Phh w0 w' L s' t b O a len cap bs := by
  obtain ⟨U, V, T⟩ := h.bt
  exact ⟨U, T.dv, fun U' w' s' g x => ⟨⟨U', V, T.dev g x⟩, (T.kept g (by simp)).trans h.bx, h.row.off0 g.off (fun y hy h0 hm => by have := h.low y hy h0; have := (T.uv _ hm).1; omega), h.low⟩⟩
theorem Phh.ref (h : Phh w0 w L s t b O a len cap bs) : ∃ V, RVh w L.e L.P V t ∧ ∀ V' w' t', Gr V w V' w' → RVh w' L.e L.P V' t' → Phh w0 w' L s t' b O a len cap bs := by
  obtain ⟨U, V, T⟩ := h.bt
  exact ⟨V, T.rw, fun V' w' t' g x => ⟨⟨U, V', T.ref g x⟩, (T.keptR g (by simp)).trans h.bx, h.row.off0 g.off (fun y hy h0 hm => by have := h.low y hy h0; have := T.vb _ hm; omega), h.low⟩⟩
theorem Phh.below (h : Phh w0 w L s t b O a len cap bs) (q : Below w.heap.size w w') : Phh w0 w' L s t b O a len cap bs := by
  obtain ⟨U, V, T⟩ := h.bt
  exact ⟨⟨U, V, T.below q⟩, (q.block b (T.fr b (by simp)).1).trans h.bx, h.row.below q, h.low⟩
theorem Phh.drew (h : Phh w0 w L s t b O a len cap bs) : Phh w0 w.drew L s t b O a len cap bs := h.below (Below.drew (Below.refl _ _))
theorem Phh.lt (h : Phh w0 w L s t b O a len cap bs) : b < w.heap.size := by
  obtain ⟨U, V, T⟩ := h.bt
  exact (T.fr b (by simp)).1
end
def Twh (w0 w : World) (L : Plh) (s : Sh) : Prop := ∃ U V, Bth w0 w L s s [] U V
theorem Twh.ph {w0 w : World} {L : Plh} {s : Sh} {a : Option Addr} {len cap : Nat} {bs : Nat → Nat} (h : Twh w0 w L s) (O : Array Value) (hr : Row8 w a len cap bs) (hl : ∀ y, a = some y → 0 < len → y.block < w0.heap.size) : Phh w0 (w.alloc (.cells O 80)) L s s w.heap.size O a len cap bs := by
  obtain ⟨U, V, T⟩ := h
  have b : Below w.heap.size w (w.alloc (.cells O 80)) := (Below.refl _ _).alloc (Nat.le_refl _) _
  exact ⟨⟨U, V, T.more b (Nat.le_refl _) (by simp)⟩, heap_alloc_new w _, hr.below b, hl⟩
theorem Phh.two {w0 w : World} {L : Plh} {s : Sh} {b : Nat} {O : Array Value} {a : Option Addr} {len cap : Nat} {bs : Nat → Nat} (h : Phh w0 w L s s b O a len cap bs) : Twh w0 w L s := by
  obtain ⟨U, V, T⟩ := h.bt
  exact ⟨U, V, T.less (by simp)⟩
theorem Twh.below {w0 w w' : World} {L : Plh} {s : Sh} (h : Twh w0 w L s) (b : Below w.heap.size w w') : Twh w0 w' L s := by
  obtain ⟨U, V, T⟩ := h
  exact ⟨U, V, T.below b⟩
end Go.Proofs.YtndjepeolamedaaGreat
namespace Go.Proofs.YtndjepeolamedaaGreat
set_option maxRecDepth 100000
open Go.RowKit
theorem hrresetW (d : Nat) (P : Pm) (U : List Nat) (s : Sh) (w : World) (h : RVh w d P U s) :
    Calls Tryz.prog 79 #[.pointer (some ⟨d, 0, none⟩)] w fun e w' => e = .returned (.tuple #[]) ∧ Hid (∃ U', Gr U w U' w' ∧ RVh w' d P U' (hlife s)) := by
  obtain ⟨B, x⟩ := h
  refine (hrreset_any d P U s B w x).mono ?_
  rintro e w' ⟨rfl, h5⟩
  obtain ⟨U', B', g5, x5⟩ := h5.out
  exact ⟨rfl, U', g5, B', x5⟩
set_option maxHeartbeats 6400000 in
theorem kstep8_any (w0 w : World) (L : Plh) (s : Sh) (N fl : Int) (odd : Bool) (a : Option Addr) (len cap : Nat) (bs : Nat → Nat) (p : Int) (x : Nat) (h : Twh w0 w L s) (hr : Row8 w a len cap bs) (hl : ∀ y, a = some y → 0 < len → y.block < w0.heap.size) (hss : s.ss < 4294967296) (hN : N ≤ 9223372036854775807) (hL : s.L.length < 800000) :
    Calls Tryz.prog 35 #[.pointer (some ⟨L.d, 0, none⟩), .pointer (some ⟨L.e, 0, none⟩), .agg #[.int .i64 8, .int .i64 N, .int .i64 fl, .bool odd, .slice a len cap, .int .i64 p, .int .u32 (x : Nat)]] w fun e w' => e = .returned (.bool true) ∧ Hid (Twh w0 w' L (htickS L.P s N)) := by
  have P0 := h.ph #[.int .i64 8, .int .i64 N, .int .i64 fl, .bool odd, .slice a len cap, .int .i64 p, .int .u32 (x : Nat)] hr hl
  obtain ⟨V, rv, _⟩ := P0.ref
  have hFr := hframeN_any L.e L.P V s 8 N fl odd a len cap bs p x (w.alloc (.cells #[.int .i64 8, .int .i64 N, .int .i64 fl, .bool odd, .slice a len cap, .int .i64 p, .int .u32 (x : Nat)] 80)) rv P0.row (fun y hy h0 => by
    obtain ⟨U', V', T⟩ := P0.bt
    have := hl y hy h0; have := T.bel.size; omega) hss (by omega)
  have HP : Hid (_) := P0
  have HB : Hid (_) := And.intro hN hL
  clear hN hL
  clear h hr hl hss P0 rv
  go_enter Tryz.func35, Tryz.ntmps35
  go_wp2_with (go_at_call 37; refine hFr.mono ?_; rintro e w2 ⟨rfl, b2⟩; have P2 := HP.out.below b2; have c0 : w2.cell? ⟨w.heap.size, 0, none⟩ = some (.int .i64 8) := cell_of_row w2 _ 0 _ _ _ P2.bx; have c1 : w2.cell? ⟨w.heap.size, 1, none⟩ = some (.int .i64 N) := cell_of_row w2 _ 1 _ _ _ P2.bx; have H2 : Hid (_) := P2; clear P2 b2 hFr HP)
  clear c0
  have cA := fun t wx (hx : Phh w0 wx L s t w.heap.size #[.int .i64 8, .int .i64 N, .int .i64 fl, .bool odd, .slice a len cap, .int .i64 p, .int .u32 (x : Nat)] a len cap bs) => (by
    obtain ⟨U, hd, hk⟩ := hx.dev
    refine (htick_any L.d L.P U s N wx hd HB.out.1 HB.out.2).mono ?_
    rintro e w' ⟨rfl, h5⟩
    obtain ⟨U', g5, x5⟩ := h5.out
    exact ⟨rfl, hk U' w' _ g5 x5⟩ : Calls Tryz.prog 84 #[.pointer (some ⟨L.d, 0, none⟩), .int .i64 N] wx fun e w' => e = .returned (.int .i64 (htickE N)) ∧ Phh w0 w' L (htickS L.P s N) t w.heap.size #[.int .i64 8, .int .i64 N, .int .i64 fl, .bool odd, .slice a len cap, .int .i64 p, .int .u32 (x : Nat)] a len cap bs)
  have cB := fun t wx (hx : Phh w0 wx L t s w.heap.size #[.int .i64 8, .int .i64 N, .int .i64 fl, .bool odd, .slice a len cap, .int .i64 p, .int .u32 (x : Nat)] a len cap bs) => (by
    obtain ⟨U, hd, hk⟩ := hx.ref
    refine (hrtick_any L.e L.P U s N wx hd HB.out.1 HB.out.2).mono ?_
    rintro e w' ⟨rfl, h5⟩
    obtain ⟨U', g5, x5⟩ := h5.out
    exact ⟨rfl, hk U' w' _ g5 x5⟩ : Calls Tryz.prog 85 #[.pointer (some ⟨L.e, 0, none⟩), .int .i64 N] wx fun e w' => e = .returned (.int .i64 (htickE N)) ∧ Phh w0 w' L t (htickS L.P s N) w.heap.size #[.int .i64 8, .int .i64 N, .int .i64 fl, .bool odd, .slice a len cap, .int .i64 p, .int .u32 (x : Nat)] a len cap bs)
  have P1 : Hid (_) := H2.out.drew
  have HS : w2.drew.cell? ⟨w.heap.size, 1, none⟩ = some (.int .i64 N) := cell_of_row w2.drew _ 1 _ _ _ P1.out.bx
  clear c1 H2
  obtain ⟨s2, hs2⟩ : ∃ S, (htickS L.P s N) = S := ⟨_, rfl⟩
  obtain ⟨r, hr2⟩ : ∃ S, (htickE N) = S := ⟨_, rfl⟩
  rw [hs2, hr2] at cA cB
  have HE : Hid (_) := hs2
  clear hs2 hr2
  go_region_held3 (fun w' => w'.cell? ⟨w.heap.size, 1, none⟩ = some (.int .i64 N)) (assumption) (first
    | (go_at_call 84; (first | refine (cA _ _ h1.out).mono ?_ | refine (cA _ _ P1.out).mono ?_); rintro e w1 ⟨rfl, h2⟩; have HT : w1.cell? ⟨w.heap.size, 1, none⟩ = some (.int .i64 N) := cell_of_row w1 _ 1 _ _ _ h2.bx; have h1 : Hid (_) := h2; clear h2)
    | (go_at_call 85; (first | refine (cB _ _ h1.out).mono ?_ | refine (cB _ _ P1.out).mono ?_); rintro e w1 ⟨rfl, h2⟩; have HT : w1.cell? ⟨w.heap.size, 1, none⟩ = some (.int .i64 N) := cell_of_row w1 _ 1 _ _ _ h2.bx; have h1 : Hid (_) := h2; clear h2))
  all_goals
    go_wp2_with fail
    go_ret
    rw [HE.out]
    exact ⟨by simp, h1.out.two⟩
set_option maxHeartbeats 6400000 in
theorem kstepN_any (w0 w : World) (L : Plh) (s : Sh) (K N fl : Int) (odd : Bool) (a : Option Addr) (len cap : Nat) (bs : Nat → Nat) (p : Int) (x : Nat) (h : Twh w0 w L s) (hr : Row8 w a len cap bs) (hl : ∀ y, a = some y → 0 < len → y.block < w0.heap.size) (hss : s.ss < 4294967296) (hK : ¬ (1 ≤ K ∧ K ≤ 12)) :
    Calls Tryz.prog 35 #[.pointer (some ⟨L.d, 0, none⟩), .pointer (some ⟨L.e, 0, none⟩), .agg #[.int .i64 K, .int .i64 N, .int .i64 fl, .bool odd, .slice a len cap, .int .i64 p, .int .u32 (x : Nat)]] w fun e w' => e = .returned (.bool true) ∧ Hid (Twh w0 w' L s) := by
  have P0 := h.ph #[.int .i64 K, .int .i64 N, .int .i64 fl, .bool odd, .slice a len cap, .int .i64 p, .int .u32 (x : Nat)] hr hl
  obtain ⟨V, rv, _⟩ := P0.ref
  have hFr := hframeN_any L.e L.P V s K N fl odd a len cap bs p x (w.alloc (.cells #[.int .i64 K, .int .i64 N, .int .i64 fl, .bool odd, .slice a len cap, .int .i64 p, .int .u32 (x : Nat)] 80)) rv P0.row (fun y hy h0 => by
    obtain ⟨U', V', T⟩ := P0.bt
    have := hl y hy h0; have := T.bel.size; omega) hss (by omega)
  have HP : Hid (_) := P0
  have HK : Hid (_) := hK
  have k8 : (K == 8) = false := by simp; omega
  have k8' : (K = 8) = False := by simp; omega
  have k9 : (K == 9) = false := by simp; omega
  have k9' : (K = 9) = False := by simp; omega
  have k10 : (K == 10) = false := by simp; omega
  have k10' : (K = 10) = False := by simp; omega
  have k11 : (K == 11) = false := by simp; omega
  have k11' : (K = 11) = False := by simp; omega
  have k12 : (K == 12) = false := by simp; omega
  have k12' : (K = 12) = False := by simp; omega
  clear hK
  clear h hr hl hss P0 rv
  go_enter Tryz.func35, Tryz.ntmps35
  go_wp2_with (go_at_call 37; refine hFr.mono ?_; rintro e w2 ⟨rfl, b2⟩; have P2 := HP.out.below b2; have c0 : w2.cell? ⟨w.heap.size, 0, none⟩ = some (.int .i64 K) := cell_of_row w2 _ 0 _ _ _ P2.bx; have H2 : Hid (_) := P2; clear P2 b2 hFr HP)
  go_ret
  exact ⟨rfl, H2.out.two⟩
set_option maxHeartbeats 6400000 in
theorem kstep10_any (w0 w : World) (L : Plh) (s : Sh) (N fl : Int) (odd : Bool) (a : Option Addr) (len cap : Nat) (bs : Nat → Nat) (p : Int) (x : Nat) (h : Twh w0 w L s) (hr : Row8 w a len cap bs) (hl : ∀ y, a = some y → 0 < len → y.block < w0.heap.size) (hss : s.ss < 4294967296) :
    Calls Tryz.prog 35 #[.pointer (some ⟨L.d, 0, none⟩), .pointer (some ⟨L.e, 0, none⟩), .agg #[.int .i64 10, .int .i64 N, .int .i64 fl, .bool odd, .slice a len cap, .int .i64 p, .int .u32 (x : Nat)]] w fun e w' => e = .returned (.bool true) ∧ Hid (Twh w0 w' L (hackS s)) := by
  have P0 := h.ph #[.int .i64 10, .int .i64 N, .int .i64 fl, .bool odd, .slice a len cap, .int .i64 p, .int .u32 (x : Nat)] hr hl
  obtain ⟨V, rv, _⟩ := P0.ref
  have hFr := hframeN_any L.e L.P V s 10 N fl odd a len cap bs p x (w.alloc (.cells #[.int .i64 10, .int .i64 N, .int .i64 fl, .bool odd, .slice a len cap, .int .i64 p, .int .u32 (x : Nat)] 80)) rv P0.row (fun y hy h0 => by
    obtain ⟨U', V', T⟩ := P0.bt
    have := hl y hy h0; have := T.bel.size; omega) hss (by omega)
  have HP : Hid (_) := P0
  clear h hr hl hss P0 rv
  go_enter Tryz.func35, Tryz.ntmps35
  go_wp2_with (go_at_call 37; refine hFr.mono ?_; rintro e w2 ⟨rfl, b2⟩; have P2 := HP.out.below b2; have c0 : w2.cell? ⟨w.heap.size, 0, none⟩ = some (.int .i64 10) := cell_of_row w2 _ 0 _ _ _ P2.bx; have H2 : Hid (_) := P2; clear P2 b2 hFr HP)
  have cA := fun t wx (hx : Phh w0 wx L s t w.heap.size #[.int .i64 10, .int .i64 N, .int .i64 fl, .bool odd, .slice a len cap, .int .i64 p, .int .u32 (x : Nat)] a len cap bs) => (by
    obtain ⟨U, hd, hk⟩ := hx.dev
    refine (hack_any L.d L.P U s wx hd).mono ?_
    rintro e w' ⟨rfl, h5⟩
    obtain ⟨U', g5, x5⟩ := h5.out
    exact ⟨rfl, hk U' w' _ g5 x5⟩ : Calls Tryz.prog 86 #[.pointer (some ⟨L.d, 0, none⟩)] wx fun e w' => e = .returned (.int .i64 (hackE s)) ∧ Phh w0 w' L (hackS s) t w.heap.size #[.int .i64 10, .int .i64 N, .int .i64 fl, .bool odd, .slice a len cap, .int .i64 p, .int .u32 (x : Nat)] a len cap bs)
  have cB := fun t wx (hx : Phh w0 wx L t s w.heap.size #[.int .i64 10, .int .i64 N, .int .i64 fl, .bool odd, .slice a len cap, .int .i64 p, .int .u32 (x : Nat)] a len cap bs) => (by
    obtain ⟨U, hd, hk⟩ := hx.ref
    refine (hrack_any L.e L.P U s wx hd).mono ?_
    rintro e w' ⟨rfl, h5⟩
    obtain ⟨U', g5, x5⟩ := h5.out
    exact ⟨rfl, hk U' w' _ g5 x5⟩ : Calls Tryz.prog 87 #[.pointer (some ⟨L.e, 0, none⟩)] wx fun e w' => e = .returned (.int .i64 (hackE s)) ∧ Phh w0 w' L t (hackS s) w.heap.size #[.int .i64 10, .int .i64 N, .int .i64 fl, .bool odd, .slice a len cap, .int .i64 p, .int .u32 (x : Nat)] a len cap bs)
  refine (cA _ _ H2.out).mono ?_
  rintro e w3 ⟨rfl, h3⟩
  have H3 : Hid (_) := h3
  have cC := cB _ _ h3
  clear cA cB H2 c0 h3
  go_wp2_with fail
  refine cC.mono ?_
  rintro e w4 ⟨rfl, h4⟩
  clear cC H3
  have H4 : Hid (_) := h4
  clear h4
  go_wp2_with fail
  go_ret
  exact ⟨by simp, H4.out.two⟩
set_option maxHeartbeats 6400000 in
theorem kstep11_any (w0 w : World) (L : Plh) (s : Sh) (N fl : Int) (odd : Bool) (a : Option Addr) (len cap : Nat) (bs : Nat → Nat) (p : Int) (x : Nat) (h : Twh w0 w L s) (hr : Row8 w a len cap bs) (hl : ∀ y, a = some y → 0 < len → y.block < w0.heap.size) (hss : s.ss < 4294967296) :
    Calls Tryz.prog 35 #[.pointer (some ⟨L.d, 0, none⟩), .pointer (some ⟨L.e, 0, none⟩), .agg #[.int .i64 11, .int .i64 N, .int .i64 fl, .bool odd, .slice a len cap, .int .i64 p, .int .u32 (x : Nat)]] w fun e w' => e = .returned (.bool true) ∧ Hid (Twh w0 w' L (hlife s)) := by
  have P0 := h.ph #[.int .i64 11, .int .i64 N, .int .i64 fl, .bool odd, .slice a len cap, .int .i64 p, .int .u32 (x : Nat)] hr hl
  obtain ⟨V, rv, _⟩ := P0.ref
  have hFr := hframeN_any L.e L.P V s 11 N fl odd a len cap bs p x (w.alloc (.cells #[.int .i64 11, .int .i64 N, .int .i64 fl, .bool odd, .slice a len cap, .int .i64 p, .int .u32 (x : Nat)] 80)) rv P0.row (fun y hy h0 => by
    obtain ⟨U', V', T⟩ := P0.bt
    have := hl y hy h0; have := T.bel.size; omega) hss (by omega)
  have HP : Hid (_) := P0
  clear h hr hl hss P0 rv
  go_enter Tryz.func35, Tryz.ntmps35
  go_wp2_with (go_at_call 37; refine hFr.mono ?_; rintro e w2 ⟨rfl, b2⟩; have P2 := HP.out.below b2; have c0 : w2.cell? ⟨w.heap.size, 0, none⟩ = some (.int .i64 11) := cell_of_row w2 _ 0 _ _ _ P2.bx; have H2 : Hid (_) := P2; clear P2 b2 hFr HP)
  have cA := fun t wx (hx : Phh w0 wx L s t w.heap.size #[.int .i64 11, .int .i64 N, .int .i64 fl, .bool odd, .slice a len cap, .int .i64 p, .int .u32 (x : Nat)] a len cap bs) => (by
    obtain ⟨U, hd, hk⟩ := hx.dev
    refine (hreset_any L.d L.P U s wx hd).mono ?_
    rintro e w' ⟨rfl, h5⟩
    obtain ⟨U', g5, x5⟩ := h5.out
    exact ⟨rfl, hk U' w' _ g5 x5⟩ : Calls Tryz.prog 88 #[.pointer (some ⟨L.d, 0, none⟩)] wx fun e w' => e = .returned (.int .i64 0) ∧ Phh w0 w' L (hlife s) t w.heap.size #[.int .i64 11, .int .i64 N, .int .i64 fl, .bool odd, .slice a len cap, .int .i64 p, .int .u32 (x : Nat)] a len cap bs)
  have cB := fun t wx (hx : Phh w0 wx L t s w.heap.size #[.int .i64 11, .int .i64 N, .int .i64 fl, .bool odd, .slice a len cap, .int .i64 p, .int .u32 (x : Nat)] a len cap bs) => (by
    obtain ⟨U, hd, hk⟩ := hx.ref
    refine (hrresetW L.e L.P U s wx hd).mono ?_
    rintro e w' ⟨rfl, h5⟩
    obtain ⟨U', g5, x5⟩ := h5.out
    exact ⟨rfl, hk U' w' _ g5 x5⟩ : Calls Tryz.prog 79 #[.pointer (some ⟨L.e, 0, none⟩)] wx fun e w' => e = .returned (.tuple #[]) ∧ Phh w0 w' L t (hlife s) w.heap.size #[.int .i64 11, .int .i64 N, .int .i64 fl, .bool odd, .slice a len cap, .int .i64 p, .int .u32 (x : Nat)] a len cap bs)
  refine (cB _ _ H2.out).mono ?_
  rintro e w3 ⟨rfl, h3⟩
  have H3 : Hid (_) := h3
  have cC := cA _ _ h3
  clear cA cB H2 c0 h3
  go_wp2_with fail
  refine cC.mono ?_
  rintro e w4 ⟨rfl, h4⟩
  clear cC H3
  have H4 : Hid (_) := h4
  clear h4
  go_wp2_with fail
  go_ret
  exact ⟨by simp, H4.out.two⟩
end Go.Proofs.YtndjepeolamedaaGreat
namespace Go.Proofs.YtndjepeolamedaaGreat
set_option maxRecDepth 100000
open Go.RowKit
theorem RB.made {w : World} {d m g n mx c ga : Nat} {P : Pm} {ms : Ms} (hP : Pok P) (hn : 10 ≤ n) (hx0 : mx ≠ 0) (hx : mx < 4294967296) (hM : RR w m g n ms) (hC : RX w c m mx (vz ms.bs) false) (hoff : ms.off = false) (hm : m < c) (hg : g < c) (hc : c < d) (hd : d < ga) (hga : ga < w.heap.size)
    (hdev : w.heap[d]? = some (.cells (RDC P m mx (.pointer (some ⟨c, 0, none⟩)) (.slice none 0 0) (.slice none 0 0) (dnew ms) (.slice (some ⟨ga, 0, none⟩) P.i P.i)) 128 (0, 0))) (hown : w.ownsRow 0 5 1 (.slice (some ⟨ga, 0, none⟩) P.i P.i) P.i (CB (fun _ => 0) P.i)) :
    RW w d m g n mx P [d, m, g, c, ga] (dnew ms) := by
  refine ⟨⟨c, [], .pointer (some ⟨c, 0, none⟩), .slice none 0 0, .slice none 0 0, .slice (some ⟨ga, 0, none⟩) P.i P.i, fun k => if k = d then 0 else if k = m ∨ k = g then 1 else if k = c then 2 else 6⟩, hdev, hM, fun _ => ⟨rfl, hC, hoff⟩, .inl ⟨rfl, rfl⟩, World.ownsRow_nil w _ _ _, hown, fun i _ => (by show 0 < 256; omega), Vok.new, Nat.zero_le _, ?_, ?_, ?_, ?_, ?_, fun k hk => (by simp at hk), fun k hk => (by cases hk), ?_, hP, hn, hx0, hx, fun _ => rfl⟩
  · intro k hk
    simp at hk
    omega
  · exact ⟨if_pos rfl, by simp⟩
  · exact ⟨by dsimp only; rw [if_neg (by omega), if_pos (.inl rfl)], by simp⟩
  · exact ⟨by dsimp only; rw [if_neg (by omega), if_pos (.inr rfl)], by simp⟩
  · exact ⟨by dsimp only; rw [if_neg (by omega), if_neg (by omega), if_pos rfl], by simp⟩
  · intro k hk
    cases hk
    exact ⟨by dsimp only; rw [if_neg (by omega), if_neg (by omega), if_neg (by omega)], by simp⟩
end Go.Proofs.YtndjepeolamedaaGreat
namespace Go.Proofs.YtndjepeolamedaaGreat
set_option maxRecDepth 100000
open Go.RowKit
section
variable {w w' : World} {d m g n mx : Nat} {P : Pm} {U l : List Nat} {s : Sd}
theorem DX.off {B : Bk} {A : Prop} (h : DX w d m g n mx P U s B A) (q : Off l w w') (hl : ∀ k, k ∈ U → k ∉ l) : DX w' d m g n mx P U s B A :=
  ⟨(q.block d h.dlt (hl _ h.kd.2)).trans h.dev, h.mem.off q (hl _ h.km.2) (hl _ h.kg.2), fun hs => ⟨(h.cel hs).1, (h.cel hs).2.1.off q (hl _ h.kc.2), (h.cel hs).2.2⟩, h.dog.off q (hl _ h.kb.2), h.val.off q (hl _ h.kv.2) (hl _ h.kw.2) (fun k hk hM => hl k (h.kM k hM).2 hk), h.log.off q (fun k hk => hl _ (h.kl k hk).2), own_offk h.app q (fun k hk => hl _ (h.ka k hk).2), h.apb, fun k hk => Nat.lt_of_lt_of_le (h.ltU k hk) q.size, h.kd, h.km, h.kg, h.kc, h.kb, h.kv, h.kw, h.kM, h.kl, h.ka, h.pok, h.n10, h.mx0, h.mxl⟩
theorem RB.off {B : Bk2} {A : Prop} (h : RB w d m g n mx P U s B A) (q : Off l w w') (hl : ∀ k, k ∈ U → k ∉ l) : RB w' d m g n mx P U s B A :=
  ⟨(q.block d h.dlt (hl _ h.kd.2)).trans h.dev, h.mem.off q (hl _ h.km.2) (hl _ h.kg.2), fun hs => ⟨(h.cel hs).1, (h.cel hs).2.1.off q (hl _ h.kc.2), (h.cel hs).2.2⟩, h.val.off q (fun k hk hM => hl k (h.kM k hM).2 hk), own_offk h.log q (fun k hk => hl _ (h.kl k hk).2), own_offk h.app q (fun k hk => hl _ (h.ka k hk).2), h.apb, h.vok, h.dcl, fun k hk => Nat.lt_of_lt_of_le (h.ltU k hk) q.size, h.kd, h.km, h.kg, h.kc, h.kM, h.kl, h.ka, h.pok, h.n10, h.mx0, h.mxl, h.nl⟩
theorem DV.off (h : DV w d m g n mx P U s) (q : Off l w w') (hl : ∀ k, k ∈ U → k ∉ l) : DV w' d m g n mx P U s := by
  obtain ⟨B, h⟩ := h
  exact ⟨B, h.off q hl⟩
theorem RW.off (h : RW w d m g n mx P U s) (q : Off l w w') (hl : ∀ k, k ∈ U → k ∉ l) : RW w' d m g n mx P U s := by
  obtain ⟨B, h⟩ := h
  exact ⟨B, h.off q hl⟩
end
structure Pl where
  d : Nat
  m : Nat
  g : Nat
  e : Nat
  r : Nat
  q : Nat
  n : Nat
  mx : Nat
  P : Pm
  K : List (Nat × Option Obj)
structure Bt (w0 w : World) (L : Pl) (s t : Sd) (F : List Nat) (U V : List Nat) : Prop where
  bel : Below w0.heap.size w0 w
  dv : DV w L.d L.m L.g L.n L.mx L.P U s
  rw : RW w L.e L.r L.q L.n L.mx L.P V t
  uv : ∀ k, k ∈ U → w0.heap.size ≤ k ∧ k ∉ V
  vb : ∀ k, k ∈ V → w0.heap.size ≤ k
  fr : ∀ k, k ∈ F → k < w.heap.size ∧ k ∉ U ∧ k ∉ V
  kp : ∀ x, x ∈ L.K → (x.1 < w.heap.size ∧ x.1 ∉ U ∧ x.1 ∉ V) ∧ w.heap[x.1]? = x.2
section
variable {w0 w w' : World} {L : Pl} {s t s' : Sd} {F U V U' : List Nat}
theorem Bt.dev (h : Bt w0 w L s t F U V) (g : Gr U w U' w') (x : DV w' L.d L.m L.g L.n L.mx L.P U' s') : Bt w0 w' L s' t F U' V :=
  ⟨g.off.below h.bel (fun k hk => (h.uv k hk).1) h.bel.size, x, h.rw.off g.off (fun k hk hU => (h.uv k hU).2 hk), fun k hk => by
    rcases g.new k hk with h1 | h1
    · exact h.uv k h1
    · exact ⟨Nat.le_trans h.bel.size h1, fun hV => by have := h.rw.ult k hV; omega⟩, h.vb, fun k hk => ⟨Nat.lt_of_lt_of_le (h.fr k hk).1 g.off.size, g.out (h.fr k hk).1 (h.fr k hk).2.1, (h.fr k hk).2.2⟩, fun x hx => ⟨⟨Nat.lt_of_lt_of_le (h.kp x hx).1.1 g.off.size, g.out (h.kp x hx).1.1 (h.kp x hx).1.2.1, (h.kp x hx).1.2.2⟩, (g.off.block _ (h.kp x hx).1.1 (h.kp x hx).1.2.1).trans (h.kp x hx).2⟩⟩
theorem Bt.ref (h : Bt w0 w L s t F U V) (g : Gr V w U' w') (x : RW w' L.e L.r L.q L.n L.mx L.P U' s') : Bt w0 w' L s s' F U U' :=
  ⟨g.off.below h.bel h.vb h.bel.size, h.dv.off g.off (fun k hk hV => (h.uv k hk).2 hV), x, fun k hk => ⟨(h.uv k hk).1, g.out (h.dv.ult k hk) (h.uv k hk).2⟩, fun k hk => by
    rcases g.new k hk with h1 | h1
    · exact h.vb k h1
    · exact Nat.le_trans h.bel.size h1, fun k hk => ⟨Nat.lt_of_lt_of_le (h.fr k hk).1 g.off.size, (h.fr k hk).2.1, g.out (h.fr k hk).1 (h.fr k hk).2.2⟩, fun x hx => ⟨⟨Nat.lt_of_lt_of_le (h.kp x hx).1.1 g.off.size, (h.kp x hx).1.2.1, g.out (h.kp x hx).1.1 (h.kp x hx).1.2.2⟩, (g.off.block _ (h.kp x hx).1.1 (h.kp x hx).1.2.2).trans (h.kp x hx).2⟩⟩
theorem Bt.below (h : Bt w0 w L s t F U V) (b : Below w.heap.size w w') : Bt w0 w' L s t F U V :=
  ⟨h.bel.trans (b.mono h.bel.size), h.dv.below b, h.rw.below b, h.uv, h.vb, fun k hk => ⟨Nat.lt_of_lt_of_le (h.fr k hk).1 b.size, (h.fr k hk).2⟩, fun x hx => ⟨⟨Nat.lt_of_lt_of_le (h.kp x hx).1.1 b.size, (h.kp x hx).1.2⟩, (b.block _ (h.kp x hx).1.1).trans (h.kp x hx).2⟩⟩
theorem Bt.more (h : Bt w0 w L s t F U V) (b : Below w.heap.size w w') {k : Nat} (h1 : w.heap.size ≤ k) (h2 : k < w'.heap.size) : Bt w0 w' L s t (k :: F) U V := by
  have h' := h.below b
  refine ⟨h'.bel, h'.dv, h'.rw, h'.uv, h'.vb, fun j hj => ?_, h'.kp⟩
  rcases List.mem_cons.1 hj with e | hj
  · subst e
    exact ⟨h2, fun hm => by have := h.dv.ult _ hm; omega, fun hm => by have := h.rw.ult _ hm; omega⟩
  · exact h'.fr j hj
theorem Bt.kept (h : Bt w0 w L s t F U V) (g : Gr U w U' w') {k : Nat} (hk : k ∈ F) : w'.heap[k]? = w.heap[k]? := g.off.block k (h.fr k hk).1 (h.fr k hk).2.1
theorem Bt.keptR (h : Bt w0 w L s t F U V) (g : Gr V w U' w') {k : Nat} (hk : k ∈ F) : w'.heap[k]? = w.heap[k]? := g.off.block k (h.fr k hk).1 (h.fr k hk).2.2
theorem Bt.less (h : Bt w0 w L s t F U V) {F' : List Nat} (hf : ∀ k, k ∈ F' → k ∈ F) : Bt w0 w L s t F' U V := ⟨h.bel, h.dv, h.rw, h.uv, h.vb, fun k hk => h.fr k (hf k hk), h.kp⟩
theorem Bt.tell (h : Bt w0 w L s t F U V) (K : List (Nat × Option Obj)) (hk : ∀ x, x ∈ K → (x.1 < w.heap.size ∧ x.1 ∉ U ∧ x.1 ∉ V) ∧ w.heap[x.1]? = x.2) : Bt w0 w { L with K := K } s t F U V := ⟨h.bel, h.dv, h.rw, h.uv, h.vb, h.fr, hk⟩
theorem Bt.far (h : Bt w0 w L s t F U V) {k : Nat} (hk : w.heap.size ≤ k) : k ∉ U ∧ k ∉ V := ⟨fun hm => by have := h.dv.ult _ hm; omega, fun hm => by have := h.rw.ult _ hm; omega⟩
end
theorem Row8.blk {w w' : World} {a : Option Addr} {len cap : Nat} {bs : Nat → Nat} (h : Row8 w a len cap bs) (hb : ∀ x, a = some x → w'.heap[x.block]? = w.heap[x.block]?) : Row8 w' a len cap bs :=
  ⟨h.byte, h.nil, fun x hx i hi => (World.cell?_of_block (a := x.add i) (by
    have e : (x.add i).block = x.block := by unfold Addr.add; split <;> rfl
    rw [e]; exact hb x hx)).trans (h.src x hx i hi), h.le⟩
structure Ph (w0 w : World) (L : Pl) (s t : Sd) (b : Nat) (O : Array Value) (a : Option Addr) (len cap : Nat) (bs : Nat → Nat) : Prop where
  bt : ∃ U V, Bt w0 w L s t [b] U V
  bx : w.heap[b]? = some (.cells O 50 (0, 0))
  row : Row8 w a len cap bs
  low : ∀ y, a = some y → 0 < len → y.block < w0.heap.size
section
variable {w0 w w' : World} {L : Pl} {s t : Sd} {b : Nat} {O : Array Value} {a : Option Addr} {len cap : Nat} {bs : Nat → Nat}
theorem Ph.dev (h : Ph w0 w L s t b O a len cap bs) : ∃ U, DV w L.d L.m L.g L.n L.mx L.P U s ∧ ∀ U' w' s', Gr U w U' w' → DV w' L.d L.m L.g L.n L.mx L.P U' s' → Ph w0 w' L s' t b O a len cap bs := by
  obtain ⟨U, V, T⟩ := h.bt
  exact ⟨U, T.dv, fun U' w' s' g x => ⟨⟨U', V, T.dev g x⟩, (T.kept g (by simp)).trans h.bx, h.row.off0 g.off (fun y hy h0 hm => by have := h.low y hy h0; have := (T.uv _ hm).1; omega), h.low⟩⟩
theorem Ph.ref (h : Ph w0 w L s t b O a len cap bs) : ∃ V, RW w L.e L.r L.q L.n L.mx L.P V t ∧ ∀ V' w' t', Gr V w V' w' → RW w' L.e L.r L.q L.n L.mx L.P V' t' → Ph w0 w' L s t' b O a len cap bs := by
  obtain ⟨U, V, T⟩ := h.bt
  exact ⟨V, T.rw, fun V' w' t' g x => ⟨⟨U, V', T.ref g x⟩, (T.keptR g (by simp)).trans h.bx, h.row.off0 g.off (fun y hy h0 hm => by have := h.low y hy h0; have := T.vb _ hm; omega), h.low⟩⟩
theorem Ph.below (h : Ph w0 w L s t b O a len cap bs) (q : Below w.heap.size w w') : Ph w0 w' L s t b O a len cap bs := by
  obtain ⟨U, V, T⟩ := h.bt
  exact ⟨⟨U, V, T.below q⟩, (q.block b (T.fr b (by simp)).1).trans h.bx, h.row.below q, h.low⟩
theorem Ph.drew (h : Ph w0 w L s t b O a len cap bs) : Ph w0 w.drew L s t b O a len cap bs := h.below (Below.drew (Below.refl _ _))
theorem Ph.lt (h : Ph w0 w L s t b O a len cap bs) : b < w.heap.size := by
  obtain ⟨U, V, T⟩ := h.bt
  exact (T.fr b (by simp)).1
end
def Two (w0 w : World) (L : Pl) (s : Sd) : Prop := ∃ U V, Bt w0 w L s s [] U V
theorem Two.ph {w0 w : World} {L : Pl} {s : Sd} {a : Option Addr} {len cap : Nat} {bs : Nat → Nat} (h : Two w0 w L s) (O : Array Value) (hr : Row8 w a len cap bs) (hl : ∀ y, a = some y → 0 < len → y.block < w0.heap.size) : Ph w0 (w.alloc (.cells O 50)) L s s w.heap.size O a len cap bs := by
  obtain ⟨U, V, T⟩ := h
  have b : Below w.heap.size w (w.alloc (.cells O 50)) := (Below.refl _ _).alloc (Nat.le_refl _) _
  exact ⟨⟨U, V, T.more b (Nat.le_refl _) (by simp)⟩, heap_alloc_new w _, hr.below b, hl⟩
theorem Ph.two {w0 w : World} {L : Pl} {s : Sd} {b : Nat} {O : Array Value} {a : Option Addr} {len cap : Nat} {bs : Nat → Nat} (h : Ph w0 w L s s b O a len cap bs) : Two w0 w L s := by
  obtain ⟨U, V, T⟩ := h.bt
  exact ⟨U, V, T.less (by simp)⟩
theorem Two.below {w0 w w' : World} {L : Pl} {s : Sd} (h : Two w0 w L s) (b : Below w.heap.size w w') : Two w0 w' L s := by
  obtain ⟨U, V, T⟩ := h
  exact ⟨U, V, T.below b⟩
end Go.Proofs.YtndjepeolamedaaGreat
namespace Go.Proofs.YtndjepeolamedaaGreat
set_option maxRecDepth 100000
open Go.RowKit
theorem step_append8L {ops : Array Oper} {o : Oper} {a : Act} {w : World} {K : Act → World → Prop} {Q : Exit → Act → World → Prop} {E : Prop}
    (hg : o.guard = none) (s x : Operand) (hop : o.op = Op.call { callee := Callee.builtin Builtin.append, args := #[s, x], argTypes := #[22, 22] })
    (B : Nat) (v : Value) (hs : a.eval s = v) (hown : w.ownsRow B 5 1 v 0 [])
    (ao : Option Addr) (m c : Nat) (bs : Nat → Nat) (hx : a.eval x = .slice ao m c) (hrow : Row8 w ao m c bs) (hm : m ≤ 140737488351232)
    (w0 : World) (hb : Below B w0 w) (hB0 : B ≤ w0.heap.size)
    (hK : ∀ a' c' w', Hid (w'.ownsRow B 5 1 (.slice a' m c') m (CB bs m)) → Below B w0 w' → K (a.put o.dst (.slice a' m c')) w') :
    if Region.wanted o (yielded ops a.tmps) = true then Oper.wp Tryz.prog o a w K Q else E := by
  obtain ⟨i0, hi, hz0, hz1, hz2⟩ := info_parts info_u8
  have hw : Region.wanted o (yielded ops a.tmps) = true := by simp [Region.wanted, hg]
  rw [if_pos hw]
  have hBw : B ≤ w.heap.size := Nat.le_trans hB0 hb.size
  have fin : ∀ v' w', w'.ownsRow B 5 1 v' m (CB bs m) → w.grownBy w' v.ownBlock → K (a.put o.dst v') w' := by
    intro v' w' h1 h2
    have h3 := hb.grown h2 hBw (fun j hj => (hown.lt j hj).1)
    obtain ⟨a', c', rfl, _⟩ := own_row8 h1 hrow.byte
    exact hK a' c' w' h1 h3
  cases ao with
  | none =>
    obtain ⟨rfl, rfl⟩ := hrow.nil rfl
    have hrun := run_append_owned_none (P := Tryz.prog) (w := w) B 22 o.type 5 i0 1 Tryz.underlying22 hi v 0 [] hown
    have hk := fin v w hown ⟨rfl, rfl, rfl, Nat.le_refl _, fun _ _ _ => rfl⟩
    unfold Oper.wp
    simp [execOp, hop, resolve, invoke, builtin, hs, hx, hrun, Result.andThen]
    exact hk
  | some ad =>
    refine wp_append_own w s x _ hop B 5 i0 (.int .u8 0) 1 1 Tryz.underlying22 hi hz0 hz1 hz2 rfl (by decide) v 0 [] hs hown ad m c (CB bs m) hx (by rw [CB_length, Nat.mul_one]) ?_ (CB_one bs m) (by unfold maxLen; omega) (by omega) hBw (fun v' w' h1 h2 _ => fin v' w' (by simpa using h1) h2)
    intro j u hj
    by_cases hlt : j < m
    · rw [CB_get bs m j hlt] at hj
      cases hj
      exact hrow.src ad rfl j hlt
    · rw [CB_none bs m j (by omega)] at hj; cases hj
theorem own0L (B : Nat) (w : World) (h : B ≤ w.heap.size) : (w.alloc (.cells #[] 5)).ownsRow B 5 1 (.slice (some ⟨w.heap.size, 0, none⟩) 0 0) 0 [] := World.ownsRow_made w #[] 0 h (Nat.zero_le _) rfl
theorem own0Ld (B : Nat) (w : World) (h : B ≤ w.heap.size) : (w.alloc (.cells #[] 5)).drew.ownsRow B 5 1 (.slice (some ⟨w.heap.size, 0, none⟩) 0 0) 0 [] := own0L B w h
end Go.Proofs.YtndjepeolamedaaGreat
namespace Go.Proofs.YtndjepeolamedaaGreat
set_option maxRecDepth 100000
open Go.RowKit
set_option maxHeartbeats 6400000 in
theorem kstep9_any (w0 w : World) (L : Plh) (s : Sh) (N fl : Int) (odd : Bool) (a : Option Addr) (len cap : Nat) (bs : Nat → Nat) (p : Int) (x : Nat) (h : Twh w0 w L s) (hr : Row8 w a len cap bs) (hl : ∀ y, a = some y → 0 < len → y.block < w0.heap.size) (hss : s.ss < 4294967296) (hlen : len ≤ 140737488351232) :
    Calls Tryz.prog 35 #[.pointer (some ⟨L.d, 0, none⟩), .pointer (some ⟨L.e, 0, none⟩), .agg #[.int .i64 9, .int .i64 N, .int .i64 fl, .bool odd, .slice a len cap, .int .i64 p, .int .u32 (x : Nat)]] w fun e w' => e = .returned (.bool true) ∧ Hid (Twh w0 w' L (hwriteS L.P s len bs odd)) := by
  have P0 := h.ph #[.int .i64 9, .int .i64 N, .int .i64 fl, .bool odd, .slice a len cap, .int .i64 p, .int .u32 (x : Nat)] hr hl
  obtain ⟨V, rv, _⟩ := P0.ref
  have hFr := hframeN_any L.e L.P V s 9 N fl odd a len cap bs p x (w.alloc (.cells #[.int .i64 9, .int .i64 N, .int .i64 fl, .bool odd, .slice a len cap, .int .i64 p, .int .u32 (x : Nat)] 80)) rv P0.row (fun y hy h0 => by
    obtain ⟨U', V', T⟩ := P0.bt
    have := hl y hy h0; have := T.bel.size; omega) hss (by omega)
  have HP : Hid (_) := P0
  have HL : Hid (_) := hlen
  clear h hr hl hss P0 rv hlen
  go_enter Tryz.func35, Tryz.ntmps35
  go_wp2_with (go_at_call 37; refine hFr.mono ?_; rintro e w2 ⟨rfl, b2⟩; have P2 := HP.out.below b2; have c0 : w2.cell? ⟨w.heap.size, 0, none⟩ = some (.int .i64 9) := cell_of_row w2 _ 0 _ _ _ P2.bx; have H2 : Hid (_) := P2; clear P2 b2 hFr HP)
  clear c0
  have hbd := build0D
  have cA := fun t wx (hx : Phh w0 wx L s t w.heap.size #[.int .i64 9, .int .i64 N, .int .i64 fl, .bool odd, .slice a len cap, .int .i64 p, .int .u32 (x : Nat)] a len cap bs) a' c' (hr' : Row8 wx a' len c' bs) => (by
    obtain ⟨U, hd, hk⟩ := hx.dev
    refine (hwrite_any L.d L.P U s a' len c' bs odd wx hd hr').mono ?_
    rintro e w' ⟨rfl, h5⟩
    obtain ⟨U', g5, x5⟩ := h5.out
    exact ⟨rfl, hk U' w' _ g5 x5⟩ : Calls Tryz.prog 44 #[.pointer (some ⟨L.d, 0, none⟩), .slice a' len c', .bool odd] wx fun e w' => e = .returned (.int .i64 (hwriteE L.P len)) ∧ Phh w0 w' L (hwriteS L.P s len bs odd) t w.heap.size #[.int .i64 9, .int .i64 N, .int .i64 fl, .bool odd, .slice a len cap, .int .i64 p, .int .u32 (x : Nat)] a len cap bs)
  have cB := fun t wx (hx : Phh w0 wx L t s w.heap.size #[.int .i64 9, .int .i64 N, .int .i64 fl, .bool odd, .slice a len cap, .int .i64 p, .int .u32 (x : Nat)] a len cap bs) => (by
    obtain ⟨U, hd, hk⟩ := hx.ref
    refine (hrwrite_any L.e L.P U s a len cap bs odd wx hd hx.row).mono ?_
    rintro e w' ⟨rfl, h5⟩
    obtain ⟨U', g5, x5⟩ := h5.out
    exact ⟨rfl, hk U' w' _ g5 x5⟩ : Calls Tryz.prog 45 #[.pointer (some ⟨L.e, 0, none⟩), .slice a len cap, .bool odd] wx fun e w' => e = .returned (.int .i64 (hwriteE L.P len)) ∧ Phh w0 w' L t (hwriteS L.P s len bs odd) w.heap.size #[.int .i64 9, .int .i64 N, .int .i64 fl, .bool odd, .slice a len cap, .int .i64 p, .int .u32 (x : Nat)] a len cap bs)
  have HSall : ∀ wx, Below w2.heap.size w2 wx → wx.cell? ⟨w.heap.size, 3, none⟩ = some (.bool odd) ∧ wx.cell? ⟨w.heap.size, 4, none⟩ = some (.slice a len cap) := fun wx b => ⟨cell_of_row wx _ 3 _ _ _ (H2.out.below b).bx, cell_of_row wx _ 4 _ _ _ (H2.out.below b).bx⟩
  have hRw : ∀ wx, Below w2.heap.size w2 wx → Row8 wx a len cap bs := fun wx b => H2.out.row.below b
  have HS := HSall w2.drew (Below.drew (Below.refl _ _))
  obtain ⟨s2, hs2⟩ : ∃ S, hwriteS L.P s len bs odd = S := ⟨_, rfl⟩
  obtain ⟨r, hr2⟩ : ∃ S, hwriteE L.P len = S := ⟨_, rfl⟩
  rw [hs2, hr2] at cA cB
  have HE : Hid (_) := hs2
  have hlen := HL.out
  clear hs2 hr2
  go_region_held3 (fun w' => w'.cell? ⟨w.heap.size, 3, none⟩ = some (.bool odd) ∧ w'.cell? ⟨w.heap.size, 4, none⟩ = some (.slice a len cap)) (first | with_reducible assumption | exact HSall _ (by repeat (first | with_reducible assumption | with_reducible refine below_drewN ?_ _ | with_reducible refine Below.drew ?_ | with_reducible refine belowA ?_ _ | with_reducible exact Below.refl _ _))) (first
    | (refine step_append8L rfl (.tmp 45) (.tmp 47) rfl w2.heap.size _ rfl (by first | exact own0L _ _ (Nat.le_refl _) | exact own0Ld _ _ (Nat.le_refl _)) a len cap bs rfl (hRw _ (by repeat (first | with_reducible assumption | with_reducible refine below_drewN ?_ _ | with_reducible refine Below.drew ?_ | with_reducible refine belowA ?_ _ | with_reducible exact Below.refl _ _))) hlen w2 (by repeat (first | with_reducible assumption | with_reducible refine below_drewN ?_ _ | with_reducible refine Below.drew ?_ | with_reducible refine belowA ?_ _ | with_reducible exact Below.refl _ _)) (Nat.le_refl _) ?_; intro a3 c3 w3 H3 b3; have cC := cA _ w3 (H2.out.below b3) a3 c3 (own_slice8 H3.out H2.out.row.byte))
    | (go_at_call 44; refine cC.mono ?_; rintro e w4 ⟨rfl, h4⟩; have HT4 : w4.cell? ⟨w.heap.size, 3, none⟩ = some (.bool odd) ∧ w4.cell? ⟨w.heap.size, 4, none⟩ = some (.slice a len cap) := ⟨cell_of_row w4 _ 3 _ _ _ h4.bx, cell_of_row w4 _ 4 _ _ _ h4.bx⟩; have cD := cB _ w4 h4)
    | (go_at_call 45; refine cD.mono ?_; rintro e w5 ⟨rfl, h5⟩; have HT5 : w5.cell? ⟨w.heap.size, 3, none⟩ = some (.bool odd) ∧ w5.cell? ⟨w.heap.size, 4, none⟩ = some (.slice a len cap) := ⟨cell_of_row w5 _ 3 _ _ _ h5.bx, cell_of_row w5 _ 4 _ _ _ h5.bx⟩; have H5 : Hid (_) := h5; clear h5))
  all_goals
    go_wp2_with fail
    go_ret
    rw [HE.out]
    exact ⟨by simp, H5.out.two⟩
end Go.Proofs.YtndjepeolamedaaGreat
namespace Go.Proofs.YtndjepeolamedaaGreat
set_option maxRecDepth 100000
open Go.RowKit
end Go.Proofs.YtndjepeolamedaaGreat
namespace Go.Proofs.YtndjepeolamedaaGreat
set_option maxRecDepth 100000
open Go.RowKit
end Go.Proofs.YtndjepeolamedaaGreat
namespace Go.Proofs.YtndjepeolamedaaGreat
set_option maxRecDepth 100000
open Go.RowKit
end Go.Proofs.YtndjepeolamedaaGreat
namespace Go.Proofs.YtndjepeolamedaaGreat
set_option maxRecDepth 100000
open Go.RowKit
end Go.Proofs.YtndjepeolamedaaGreat
namespace Go.Proofs.YtndjepeolamedaaGreat
set_option maxRecDepth 100000
open Go.RowKit
end Go.Proofs.YtndjepeolamedaaGreat
namespace Go.Proofs.YtndjepeolamedaaGreat
set_option maxRecDepth 100000
open Go.RowKit
end Go.Proofs.YtndjepeolamedaaGreat
