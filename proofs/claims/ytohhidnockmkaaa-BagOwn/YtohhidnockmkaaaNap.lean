/- Apart, for lists of which some may be nil: lists that share no memory may each be written over and grown. (The text Apart is its elder, for lists that all lie in memory.) -/
import Derived.Test.YtohhidnockmkaaaOwn
import Derived.Deep.RegionWith
import Derived.RegionTactic
namespace Go.Proofs.Ytohhidnockmkaaa
open Go.RowKit

/-- A list's address: nil, or the head of a block. -/
def sa (o : Option Nat) : Option Addr := o.map fun b => ⟨b, 0, none⟩
/-- The blocks of U are kept. -/
structure Kp (U : Nat → Prop) (w w' : World) : Prop where
  os : w'.os = w.os
  tape : w'.tape = w.tape
  output : w'.output = w.output
  size : w.heap.size ≤ w'.heap.size
  block : ∀ k, U k → w'.heap[k]? = w.heap[k]?
theorem Kp.trans {U : Nat → Prop} {u v w : World} (h : Kp U u v) (k : Kp U v w) : Kp U u w :=
  ⟨k.os.trans h.os, k.tape.trans h.tape, k.output.trans h.output, Nat.le_trans h.size k.size, fun i hi => (k.block i hi).trans (h.block i hi)⟩
theorem Kp.refl (U : Nat → Prop) (w : World) : Kp U w w := ⟨rfl, rfl, rfl, Nat.le_refl _, fun _ _ => rfl⟩
theorem Kp.drew {U : Nat → Prop} {w w' : World} (h : Kp U w w') : Kp U w w'.drew := h.trans ⟨rfl, rfl, rfl, Nat.le_refl _, fun _ _ => rfl⟩
theorem Kp.setCell {U : Nat → Prop} {w w' : World} (h : Kp U w w') {p : Addr} (hp : ¬ U p.block) (v : Value) : Kp U w (w'.setCell p v) :=
  h.trans ⟨rfl, rfl, rfl, by simp [World.setCell], fun k hk => heap_setCell_other w' _ k v (fun e => hp (e ▸ hk))⟩
theorem Kp.alloc {U : Nat → Prop} {w w' : World} (h : Kp U w w') (hU : ∀ k, U k → k < w'.heap.size) (o : Obj) : Kp U w (w'.alloc o) :=
  h.trans ⟨rfl, rfl, rfl, by simp, fun k hk => heap_alloc_old w' o (hU k hk)⟩
theorem Kp.ofBelow {B : Nat} {w w' : World} (h : Below B w w') : Kp (fun k => k < B) w w' := ⟨h.os, h.tape, h.output, h.size, fun k hk => h.block k hk⟩
theorem Kp.below {B : Nat} {w w' : World} (h : Kp (fun k => k < B) w w') : Below B w w' := ⟨h.os, h.tape, h.output, h.size, fun k hk => h.block k hk⟩
/-- Lists of bytes that are nil, or each lie at the head of a block of their own. -/
structure Fx (U : Nat → Prop) (m gl : Nat) (g : Nat → Option Nat) (n c : Nat → Nat) : Prop where
  le : ∀ i, i < m → n i ≤ c i
  small : ∀ i, i < m → n i ≤ 1000000
  cmax : ∀ i, i < m → c i ≤ maxLen
  nil : ∀ i, i < m → g i = none → n i = 0 ∧ c i = 0
  inj : ∀ i j, i < m → j < m → i ≠ j → ∀ x, g i = some x → g j ≠ some x
  ngl : ∀ i, i < m → g i ≠ some gl
  base : ∀ i, i < m → ∀ x, g i = some x → ¬ U x
/-- The list of them, and how far each bears its marks. -/
structure Ls (wr : World) (m gl : Nat) (g : Nat → Option Nat) (n c t : Nat → Nat) : Prop where
  cells : ∀ i, i < m → wr.cell? ⟨gl, i, none⟩ = some (.slice (sa (g i)) (n i) (c i))
  rows : ∀ i, i < m → ∀ x, g i = some x → ∃ cur, wr.heap[x]? = some (.cells cur 5 (0, 0)) ∧ cur.size = c i ∧ ∀ k, k < t i → cur[k]? = some (.int .u8 (mrk i k : Nat))
theorem Ls.put {wr : World} {U : Nat → Prop} {m gl : Nat} {g : Nat → Option Nat} {n c t : Nat → Nat} (F : Fx U m gl g n c) (h : Ls wr m gl g n c t) {i : Nat} (hi : i < m) (hk : t i < c i) {b : Nat} (hb : g i = some b) :
    Ls (wr.setCell ⟨b, t i, none⟩ (.int .u8 (mrk i (t i) : Nat))) m gl g n c (fun j => if j = i then t i + 1 else t j) := by
  refine ⟨fun j hj => ?_, fun j hj x hx => ?_⟩
  · rw [World.cell?_setCell_other _ _ _ _ (by intro e; have := congrArg Addr.block e; simp at this; exact F.ngl i hi (by rw [hb, this]))]
    exact h.cells j hj
  · obtain ⟨cur, h1, h2, h3⟩ := h.rows j hj x hx
    by_cases e : j = i
    · subst e
      rw [hb] at hx
      cases hx
      refine ⟨_, heap_setCell_same _ _ _ _ _ _ h1, by simpa using h2, fun k hk2 => ?_⟩
      rw [if_pos rfl] at hk2
      rw [Array.getElem?_setIfInBounds]
      by_cases e2 : t j = k
      · rw [if_pos e2, if_pos (by omega), e2]
      · rw [if_neg e2]; exact h3 k (by omega)
    · have hne : x ≠ b := fun hxb => F.inj j i hj hi e x hx (by rw [hb, hxb])
      refine ⟨cur, by rw [heap_setCell_other _ _ _ _ hne]; exact h1, h2, fun k hk2 => ?_⟩
      rw [if_neg e] at hk2
      exact h3 k hk2
theorem Ls.drew {wr : World} {m gl : Nat} {g : Nat → Option Nat} {n c t : Nat → Nat} (h : Ls wr m gl g n c t) : Ls wr.drew m gl g n c t := ⟨h.cells, h.rows⟩
/-- 'append(v, x)', v nil or an owned row of bytes at the head of its block: within its room only its own block turns; else nothing that was there does, and the answer lies in new memory. -/
theorem app1s (w : World) (B ty : Nat) (b N cap : Nat) (f : Nat → Nat) (x : Nat) (ad : Addr) (hx : w.cell? ad = some (.int .u8 (x : Nat))) (hBw : B ≤ w.heap.size) (hN : N + 1 ≤ 1000000000)
    (hown : w.ownsRow B 5 1 (.slice (some ⟨b, 0, none⟩) N cap) N (CB f N)) :
    ∃ b' cap' w', (Builtin.append_ #[31, 31] ty #[.slice (some ⟨b, 0, none⟩) N cap, .slice (some ad) 1 1]).run Try.prog w = .ok (.slice (some ⟨b', 0, none⟩) (N + 1) cap') w' ∧
      w'.ownsRow B 5 1 (.slice (some ⟨b', 0, none⟩) (N + 1) cap') (N + 1) (CB (fun i => if i < N then f i else x) (N + 1)) ∧ w'.os = w.os ∧ w'.tape = w.tape ∧ w'.output = w.output ∧ w.heap.size ≤ w'.heap.size ∧
      ((b' = b ∧ ∀ k, k < w.heap.size → k ≠ b → w'.heap[k]? = w.heap[k]?) ∨ (w.heap.size ≤ b' ∧ ∀ k, k < w.heap.size → w'.heap[k]? = w.heap[k]?)) := by
  obtain ⟨i, hi, hz0, hz1, hz2⟩ := info_parts info_u8
  have hcb : CB f N ++ [Value.int .u8 (x : Nat)] = CB (fun i => if i < N then f i else x) (N + 1) := by
    have h := CB_append f (fun _ => x) N 1
    rw [← h]; rfl
  have hnews : ∀ j u, [Value.int .u8 (x : Nat)][j]? = some u → w.cell? (ad.add j) = some u := by
    intro j u hj
    match j, hj with
    | 0, hj =>
      simp at hj
      rw [← hj]
      have : ad.add 0 = ad := by unfold Addr.add; simp
      rw [this]; exact hx
  by_cases hroom : N + 1 ≤ cap
  · obtain ⟨w', h1, h2, h3⟩ := run_append_fits (P := Try.prog) w B 31 ty 5 i 1 Try.underlying31 hi hz1 b N cap (CB f N) hown ad 1 1 [.int .u8 (x : Nat)] rfl hnews (by intro u hu; simp at hu; subst hu; rfl) hroom
    rw [hcb] at h2
    exact ⟨b, cap, w', h1, h2, h3.os, h3.tape, h3.output, h3.size, .inl ⟨rfl, fun k hkl hk => h3.block k hkl (fun e => hk (by simpa using e))⟩⟩
  · have hlen : (CB f N ++ [Value.int .u8 (x : Nat)]).length = (N + 1) * 1 := by rw [List.length_append, CB_length]; simp
    have holds : ∀ j u, (CB f N)[j]? = some u → w.cell? ((⟨b, 0, none⟩ : Addr).add j) = some u := hown.cells (g := b) rfl
    have hr := run_append_grow (P := Try.prog) w 31 ty 5 i (.int .u8 0) Try.underlying31 hi hz0 ⟨b, 0, none⟩ N cap (CB f N) (by rw [CB_length, hz1]; omega) holds ad 1 1 [.int .u8 (x : Nat)] (by rw [hz1]; rfl) hnews (by omega) (by omega) (growslice_fits (by omega) (by rw [hz2]; omega))
    refine ⟨w.heap.size, _, _, hr, ⟨by rw [CB_length]; omega, .inr ⟨w.heap.size, _, _, rfl, hBw, heap_alloc_new w.drew _, grownCap_ge w (N + 1) cap _, grownCap_le_maxLen w (N + 1) cap _ (by unfold maxLen; omega), ?_, ?_⟩⟩, rfl, rfl, rfl, by simp, .inr ⟨Nat.le_refl _, fun k hk => heap_alloc_old w.drew _ hk⟩⟩
    · have hge := grownCap_ge w (N + 1) cap 5
      simp only [Array.size_append, List.size_toArray, size_zeroCells, CB_length]
      simp [Value.cells]
      omega
    · simp only [Array.toList_append, List.append_assoc]
      rw [← List.append_assoc, ← hlen, ← hcb]
      exact List.take_left
theorem app1 (w : World) (B ty : Nat) (o : Option Nat) (N cap : Nat) (f : Nat → Nat) (x : Nat) (ad : Addr) (hx : w.cell? ad = some (.int .u8 (x : Nat))) (hBw : B ≤ w.heap.size) (hN : N + 1 ≤ 1000000000)
    (hown : w.ownsRow B 5 1 (.slice (sa o) N cap) N (CB f N)) :
    ∃ b' cap' w', (Builtin.append_ #[31, 31] ty #[.slice (sa o) N cap, .slice (some ad) 1 1]).run Try.prog w = .ok (.slice (some ⟨b', 0, none⟩) (N + 1) cap') w' ∧
      w'.ownsRow B 5 1 (.slice (some ⟨b', 0, none⟩) (N + 1) cap') (N + 1) (CB (fun i => if i < N then f i else x) (N + 1)) ∧ w'.os = w.os ∧ w'.tape = w.tape ∧ w'.output = w.output ∧ w.heap.size ≤ w'.heap.size ∧
      ((o = some b' ∧ ∀ k, k < w.heap.size → k ≠ b' → w'.heap[k]? = w.heap[k]?) ∨ (w.heap.size ≤ b' ∧ ∀ k, k < w.heap.size → w'.heap[k]? = w.heap[k]?)) := by
  cases o with
  | some b =>
    obtain ⟨b', cap', w', h1, h2, h3, h4, h5, h6, h7⟩ := app1s w B ty b N cap f x ad hx hBw hN hown
    refine ⟨b', cap', w', h1, h2, h3, h4, h5, h6, ?_⟩
    rcases h7 with ⟨e, q⟩ | q
    · subst e
      exact .inl ⟨rfl, q⟩
    · exact .inr q
  | none =>
    obtain ⟨i, hi, hz0, hz1, hz2⟩ := info_parts info_u8
    have hnil : N = 0 ∧ cap = 0 := by
      rcases hown.2 with ⟨e, _⟩ | ⟨g, cp, cur, e, _⟩
      · simp only [Value.slice.injEq] at e; exact ⟨e.2.1, e.2.2⟩
      · simp [sa] at e
    obtain ⟨rfl, rfl⟩ := hnil
    have hnews : ∀ j u, [Value.int .u8 (x : Nat)][j]? = some u → w.cell? (ad.add j) = some u := by
      intro j u hj
      match j, hj with
      | 0, hj =>
        simp at hj
        rw [← hj]
        have : ad.add 0 = ad := by unfold Addr.add; simp
        rw [this]; exact hx
    have hown0 : w.ownsRow w.heap.size 5 1 (.slice none 0 0) 0 [] := World.ownsRow_nil _ _ _ _
    obtain ⟨v', w', hr, h2, h3, _⟩ := run_append_own (P := Try.prog) w w.heap.size 31 ty 5 i (.int .u8 0) 1 1 Try.underlying31 hi hz0 hz1 hz2 rfl (by decide) (.slice none 0 0) 0 [] hown0 ad 1 1 [.int .u8 (x : Nat)] rfl hnews (by intro u hu; simp at hu; subst hu; rfl) (by unfold maxLen; omega) (by omega) (Nat.le_refl _)
    have hcb : [] ++ [Value.int .u8 (x : Nat)] = CB (fun i => if i < 0 then f i else x) (0 + 1) := rfl
    rw [hcb] at h2
    have h2B := own_base h2 hBw
    rcases h2.2 with ⟨_, e⟩ | ⟨g, cp, cur, rfl, hg, _⟩
    · omega
    · exact ⟨g, cp, w', hr, h2B, h3.os, h3.tape, h3.output, h3.size, .inr ⟨hg, fun k hk => h3.block k hk (by simp [Value.ownBlock])⟩⟩
/-- While the lists are grown: what the list of them holds, what they hold, what the grown ones hold and where they lie. -/
structure G2 (U : Nat → Prop) (m gl gg F0 : Nat) (g : Nat → Option Nat) (n c : Nat → Nat) (w0 wr : World) (tau : Nat → Nat) (bb : Nat → Option Nat) (cc : Nat → Nat) : Prop where
  lists : ∀ i, i < m → wr.cell? ⟨gl, i, none⟩ = some (.slice (sa (g i)) (n i) (c i))
  old : ∀ i, i < m → ∀ x, g i = some x → ∀ k, k < n i → wr.cell? ⟨x, k, none⟩ = some (.int .u8 (mrk i k : Nat))
  cells : ∀ i, i < m → wr.cell? ⟨gg, i, none⟩ = some (.slice (sa (bb i)) (n i + tau i) (cc i))
  fro : ∀ i, i < m → wr.frozen? ⟨gg, i, none⟩ = false
  own : ∀ i, i < m → wr.ownsRow 0 5 1 (.slice (sa (bb i)) (n i + tau i) (cc i)) (n i + tau i) (CB (mrk i) (n i + tau i))
  at_ : ∀ i, i < m → ∀ x, bb i = some x → g i = some x ∨ F0 ≤ x
  inj : ∀ i j, i < m → j < m → i ≠ j → ∀ x, bb i = some x → bb j ≠ some x
  below : Kp U w0 wr
  size : F0 ≤ wr.heap.size
  bw : ∀ k, U k → k < wr.heap.size
/-- Where the blocks lie. -/
structure Pl (U : Nat → Prop) (m gl gg F0 : Nat) (g : Nat → Option Nat) : Prop where
  g_inj : ∀ i j, i < m → j < m → i ≠ j → ∀ x, g i = some x → g j ≠ some x
  g_gl : ∀ i, i < m → g i ≠ some gl
  g_gg : ∀ i, i < m → g i ≠ some gg
  gl_gg : gl ≠ gg
  g_lt : ∀ i, i < m → ∀ x, g i = some x → x < F0
  gl_lt : gl < F0
  gg_lt : gg < F0
  g_B : ∀ i, i < m → ∀ x, g i = some x → ¬ U x
  gg_B : ¬ U gg
  k_lt : ∀ k, U k → k < F0
theorem own_heap {w w' : World} {B e n cap : Nat} {o : Option Nat} {xs : List Value} (h : w.ownsRow B e 1 (.slice (sa o) n cap) n xs) (hb : ∀ b, o = some b → w'.heap[b]? = w.heap[b]?) : w'.ownsRow B e 1 (.slice (sa o) n cap) n xs := by
  refine ⟨h.1, ?_⟩
  rcases h.2 with hn | ⟨g', cap', cur, he, hg, hgg, rest⟩
  · exact .inl hn
  · cases o with
    | none => simp [sa] at he
    | some b =>
      simp only [sa, Option.map_some, Value.slice.injEq, Option.some.injEq, Addr.mk.injEq, and_true, true_and] at he
      obtain ⟨rfl, rfl⟩ := he
      exact .inr ⟨b, cap, cur, rfl, hg, (hb b rfl).trans hgg, rest⟩
theorem own_lt {w : World} {B e n cap : Nat} {o : Option Nat} {xs : List Value} (h : w.ownsRow B e 1 (.slice (sa o) n cap) n xs) {b : Nat} (hb : o = some b) : b < w.heap.size ∧ B ≤ b := by
  subst hb
  have := h.lt b rfl
  exact ⟨this.2, this.1⟩
set_option maxHeartbeats 1000000 in
/-- One byte more behind list i. -/
theorem G2.step {U : Nat → Prop} {m gl gg F0 : Nat} {g : Nat → Option Nat} {n c : Nat → Nat} {w0 wr u' : World} {tau : Nat → Nat} {bb : Nat → Option Nat} {cc : Nat → Nat} (P : Pl U m gl gg F0 g) (h : G2 U m gl gg F0 g n c w0 wr tau bb cc) {i : Nat} (hi : i < m) {b' cap' : Nat}
    (hown : u'.ownsRow 0 5 1 (.slice (some ⟨b', 0, none⟩) (n i + tau i + 1) cap') (n i + tau i + 1) (CB (mrk i) (n i + tau i + 1)))
    (hos : u'.os = wr.os) (htape : u'.tape = wr.tape) (hout : u'.output = wr.output) (hsz : wr.heap.size ≤ u'.heap.size)
    (hcase : (bb i = some b' ∧ ∀ k, k < wr.heap.size → k ≠ b' → u'.heap[k]? = wr.heap[k]?) ∨ (wr.heap.size ≤ b' ∧ ∀ k, k < wr.heap.size → u'.heap[k]? = wr.heap[k]?)) :
    G2 U m gl gg F0 g n c w0 (u'.setCell ⟨gg, i, none⟩ (.slice (some ⟨b', 0, none⟩) (n i + tau i + 1) cap')) (fun j => if j = i then tau i + 1 else tau j) (fun j => if j = i then some b' else bb j) (fun j => if j = i then cap' else cc j) := by
  have hs := h.size
  have keep : ∀ k, k < wr.heap.size → bb i ≠ some k → u'.heap[k]? = wr.heap[k]? := fun k hk hne => by
    rcases hcase with ⟨e, q⟩ | ⟨_, q⟩
    · exact q k hk (fun x => hne (by rw [e, x]))
    · exact q k hk
  have hggb : bb i ≠ some gg := fun e => by
    rcases h.at_ i hi gg e with e2 | e2
    · exact P.g_gg i hi e2
    · have := P.gg_lt; omega
  have hglb : bb i ≠ some gl := fun e => by
    rcases h.at_ i hi gl e with e2 | e2
    · exact P.g_gl i hi e2
    · have := P.gl_lt; omega
  have hb'gg : b' ≠ gg := by
    rcases hcase with ⟨e, _⟩ | ⟨e, _⟩
    · exact fun x => hggb (by rw [e, x])
    · have := P.gg_lt; omega
  have hggl := P.gg_lt
  have hgll := P.gl_lt
  have set_other : ∀ (p : Addr), p.block ≠ gg → (u'.setCell ⟨gg, i, none⟩ (.slice (some ⟨b', 0, none⟩) (n i + tau i + 1) cap')).cell? p = u'.cell? p := fun p hp =>
    World.cell?_of_block (w := u') (heap_setCell_other u' _ p.block _ hp)
  have cellgg : ∀ j, u'.cell? ⟨gg, j, none⟩ = wr.cell? ⟨gg, j, none⟩ := fun j => World.cell?_of_block (w := wr) (keep gg (by omega) hggb)
  refine ⟨fun j hj => ?_, fun j hj x hx k hk => ?_, fun j hj => ?_, fun j hj => ?_, fun j hj => ?_, fun j hj x hx => ?_, fun j k hj hk hne x hx => ?_, ?_, ?_, ?_⟩
  · rw [set_other _ P.gl_gg, World.cell?_of_block (w := wr) (keep gl (by omega) hglb)]
    exact h.lists j hj
  · have hxg : x ≠ gg := fun e => P.g_gg j hj (by rw [hx, e])
    have hxl := P.g_lt j hj x hx
    rw [set_other _ hxg]
    by_cases e : bb i = some x
    · have hji : j = i := by
        rcases h.at_ i hi x e with e2 | e2
        · by_cases q : j = i
          · exact q
          · exact absurd e2 (P.g_inj j i hj hi q x hx)
        · omega
      subst hji
      rcases hcase with ⟨eb, _⟩ | ⟨eb, q⟩
      · have hbx : b' = x := by rw [eb] at e; exact Option.some.inj e
        have := hown.cellAt k (by omega)
        rw [CB_get _ _ k (by omega), hbx] at this
        exact this
      · rw [World.cell?_of_block (w := wr) (q x (by omega))]
        exact h.old j hj x hx k hk
    · rw [World.cell?_of_block (w := wr) (keep x (by omega) e)]
      exact h.old j hj x hx k hk
  · by_cases e : j = i
    · subst e
      simp only [↓reduceIte]
      have hx := (cellgg j).trans (h.cells j hj)
      have := World.cell?_setCell_same u' ⟨gg, j, none⟩ (.slice (some ⟨b', 0, none⟩) (n j + tau j + 1) cap') hx
      rw [this, Nat.add_assoc]
      rfl
    · simp only [if_neg e]
      rw [World.cell?_setCell_other _ _ _ _ (by intro q; have := congrArg Addr.off q; simp at this; omega), cellgg]
      exact h.cells j hj
  · rw [World.frozen?_setCell]
    rw [World.frozen?_of_block (w := wr) (a := ⟨gg, j, none⟩) (keep gg (by omega) hggb)]
    exact h.fro j hj
  · by_cases e : j = i
    · subst e
      simp only [↓reduceIte]
      rw [show n j + (tau j + 1) = n j + tau j + 1 by omega]
      exact own_heap (o := some b') hown (fun b hb => by cases hb; exact heap_setCell_other u' _ _ _ hb'gg)
    · simp only [if_neg e]
      refine own_heap (h.own j hj) (fun b hb => ?_)
      have hbj := own_lt (h.own j hj) hb
      have hbg : b ≠ gg := fun q => by
        rcases h.at_ j hj b hb with e2 | e2
        · exact P.g_gg j hj (by rw [e2, q])
        · omega
      rw [heap_setCell_other u' _ _ _ hbg]
      exact keep b hbj.1 (h.inj j i hj hi e b hb)
  · by_cases e : j = i
    · subst e
      simp only [↓reduceIte] at hx
      cases hx
      rcases hcase with ⟨eb, _⟩ | ⟨eb, _⟩
      · exact h.at_ j hj b' eb
      · exact .inr (by omega)
    · simp only [if_neg e] at hx; exact h.at_ j hj x hx
  · by_cases ej : j = i
    · by_cases ek : k = i
      · omega
      · simp only [if_pos ej] at hx
        simp only [if_neg ek]
        cases hx
        rcases hcase with ⟨eb, _⟩ | ⟨eb, _⟩
        · exact h.inj i k hi hk (by omega) b' eb
        · intro q
          have := (own_lt (h.own k hk) q).1
          omega
    · by_cases ek : k = i
      · simp only [if_neg ej] at hx
        simp only [if_pos ek]
        intro q
        cases q
        rcases hcase with ⟨eb, _⟩ | ⟨eb, _⟩
        · exact h.inj j i hj hi ej b' hx eb
        · have := (own_lt (h.own j hj) hx).1
          omega
      · simp only [if_neg ej] at hx
        simp only [if_neg ek]
        exact h.inj j k hj hk hne x hx
  · have hb1 : Kp U w0 u' := h.below.trans ⟨hos, htape, hout, hsz, fun k hk => keep k (h.bw k hk) (fun e => by
      rcases h.at_ i hi k e with e2 | e2
      · exact P.g_B i hi k e2 hk
      · have := P.k_lt k hk; omega)⟩
    exact hb1.setCell (p := ⟨gg, i, none⟩) P.gg_B _
  · have : (u'.setCell ⟨gg, i, none⟩ (.slice (some ⟨b', 0, none⟩) (n i + tau i + 1) cap')).heap.size = u'.heap.size := by simp [World.setCell]
    omega
  · have : (u'.setCell ⟨gg, i, none⟩ (.slice (some ⟨b', 0, none⟩) (n i + tau i + 1) cap')).heap.size = u'.heap.size := by simp [World.setCell]
    intro k hk
    have := h.bw k hk
    omega

end Go.Proofs.Ytohhidnockmkaaa
