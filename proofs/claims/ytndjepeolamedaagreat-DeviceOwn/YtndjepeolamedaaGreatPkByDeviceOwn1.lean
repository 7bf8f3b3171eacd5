/- Part 1 of the texts of DeviceOwn beside the packed ones: lists of lists, Apart, the law itself. -/
import Derived.Deep.RegionWith
import Derived.RegionTactic
import Derived.Deep.RegionLaw
import Derived.Maps.AppendAt
import Derived.Test.YtndjepeolamedaaGreatPkB09
import Derived.Test.YtndjepeolamedaaGreatPkB00
import Derived.Test.YtndjepeolamedaaGreatPkB01
namespace Go.Proofs.YtndjepeolamedaaGreat
set_option maxRecDepth 100000
open Go.RowKit
def mrk (i k : Nat) : Nat := (17 * i + 5 * k + 3) % 256
set_option maxHeartbeats 400000 in
theorem mark_any (i k : Nat) (w : World) (hi : i ≤ 1000000) (hk : k ≤ 1000000000) :
    Calls Tryz.prog 66 #[.int .i64 i, .int .i64 k] w fun e w' => e = .returned (.int .u8 (mrk i k : Nat)) ∧ w' = w := by
  go_enter Tryz.func66, Tryz.ntmps66
  go_wp2
  go_ret
  exact ⟨congrArg (fun x => Ending.returned (Value.int .u8 x)) (by unfold mrk; omega), rfl⟩
def sp (bs : Nat → Nat) (n i : Nat) : Nat := if i < n then bs i else (201 + i) % 256
set_option maxRecDepth 100000 in
set_option maxHeartbeats 1000000 in
theorem spare_row (a : Option Addr) (len cap : Nat) (bs : Nat → Nat) (w : World) (hr : Row8 w a len cap bs) (hlen : len ≤ 140737488351232) :
    Calls Tryz.prog 19 #[.slice a len cap] w fun e w' => e = .returned (.tuple #[.slice (some ⟨w.heap.size, 0, none⟩) len (len + 9), .slice (some ⟨w.heap.size, 0, none⟩) (len + 9) (len + 9)]) ∧
      Hid (w'.ownsRow w.heap.size 5 1 (.slice (some ⟨w.heap.size, 0, none⟩) (len + 9) (len + 9)) (len + 9) (CB (sp bs len) (len + 9)) ∧ Below w.heap.size w w') := by
  obtain ⟨i0, hi, hz0, hz1, hz2⟩ := info_parts info_u8
  go_enter Tryz.func19, Tryz.ntmps19
  go_wp2_with (at_make; refine wpList_make8 _ rfl (.tmp 8) (.tmp 8) 22 rfl w.heap.size 5 i0 Tryz.underlying22 hi hz0 hz1 hz2 _ _ _ _ (len + 9) (len + 9) rfl rfl ?b0 ?b1 (Nat.le_refl _) (by omega) (Nat.le_refl _) ?_)
  case b0 => omega
  case b1 => omega
  intro w1 hown1 hbel1
  have R1 := hr.below hbel1
  go_wp2_with (refine wpList_copy8 rfl (.tmp 10) (.tmp 11) 22 22 rfl 5 Tryz.underlying22 size_u8 w.heap.size w.heap.size (len + 9) (len + 9) _ rfl hown1 a len cap bs rfl R1 w hbel1 ?_)
  intro w2 hown2 hbel2
  have hbs := hr.byte
  clear hown1 hbel1 R1 hr
  go_wp2_with fail
  go_loopw [5] (fun c wr => ∃ j, j ≤ 9 ∧ c = .int .i64 ((len + j : Nat) : Int) ∧ wr.ownsRow w.heap.size 5 1 (.slice (some ⟨w.heap.size, 0, none⟩) (len + 9) (len + 9)) (len + 9) (CB (fun i => if i < len + j then sp bs len i else 0) (len + 9)) ∧ Below w.heap.size w wr) (fun c _ => (len + 9) - (intOf c).toNat)
  case atStart => exact ⟨0, by omega, by simp, by
    rw [CB_congr _ (fun i => if i < len then bs i else 0) (len + 9) (fun i _ => by
      rw [Nat.add_zero]
      by_cases e : i < len
      · rw [if_pos e, if_pos e]; unfold sp; rw [if_pos e]
      · rw [if_neg e, if_neg e])]
    exact hown2, hbel2⟩
  case round =>
    clear hown2 hbel2
    obtain ⟨j, hj, rfl, hown, hbel⟩ := hrel
    obtain ⟨p, hp⟩ : ∃ p, p = len + j := ⟨_, rfl⟩
    rw [← hp] at hown ⊢
    by_cases hlt : j < 9
    · have hpl : p < len + 9 := by omega
      have hplI : (p : Int) < (len : Int) + 9 := by omega
      have hcx := hown.cellAt p (by omega)
      rw [CB_get _ _ p hpl] at hcx
      have hfx := hown.frozenAt p
      have hv : ((201 : Int) + (p : Int)) % 256 = ((sp bs len p : Nat) : Int) := by
        unfold sp
        rw [if_neg (by omega)]
        omega
      have hown3 := (hown.stored p (.int .u8 ((sp bs len p : Nat) : Int))).1
      rw [CB_set, CB_congr _ (fun i => if i < len + (j + 1) then sp bs len i else 0) (len + 9) (fun i _ => by
        by_cases e : i = p
        · rw [if_pos e, if_pos (by omega), e]
        · rw [if_neg e]
          by_cases e2 : i < p
          · rw [if_pos e2, if_pos (by omega)]
          · rw [if_neg e2, if_neg (by omega)])] at hown3
      have hbel3 := hbel.setCell (p := ⟨w.heap.size, p, none⟩) (Nat.le_refl _) (.int .u8 ((sp bs len p : Nat) : Int))
      have H3 : Hid (_) := And.intro hown3 hbel3
      have HP : Hid (p = len + j) := hp
      clear hown hbel hown3 hbel3 hp
      generalize sp bs len p = y at *
      go_wp2
      go_roundw
      case rel => exact ⟨j + 1, by omega, by rw [HP.out]; go_num, H3.out.1, H3.out.2⟩
      case measure => simp [intOf] <;> omega
    · obtain rfl : j = 9 := by omega
      have H3 : Hid (_) := And.intro hown hbel
      have hpl : ¬ p < len + 9 := by omega
      have hplI : ¬ (p : Int) < (len : Int) + 9 := by omega
      have HP : Hid (p = len + 9) := hp
      clear hown hbel hp
      go_wp2
      go_ret2
      refine ⟨rfl, ?_, H3.out.2⟩
      have h := H3.out.1
      rw [CB_congr _ (sp bs len) (len + 9) (fun i hi => by rw [HP.out]; exact if_pos hi)] at h
      exact h
set_option maxRecDepth 100000 in
set_option maxHeartbeats 1000000 in
theorem kept_row (g : Nat) (a : Option Addr) (len cap : Nat) (bs : Nat → Nat) (w : World) (hr : Row8 w a len cap bs) (hlen : len ≤ 140737488351232) (hW : Row8 w (some ⟨g, 0, none⟩) (len + 9) (len + 9) (sp bs len)) :
    Calls Tryz.prog 22 #[.slice (some ⟨g, 0, none⟩) (len + 9) (len + 9), .slice a len cap] w fun e w' => e = .returned (.bool true) ∧ ∃ m, w' = w.drewN m := by
  have hc1 : ∀ k, (convert 22 9 (.slice (some ⟨g, 0, none⟩) len (len + 9))).run Tryz.prog (w.drewN k) = .ok (.string (BA bs len)) (w.drewN k) := fun k =>
    conv_any _ len (len + 9) bs _ (((hW.drewN k).upto len (by omega)).congr (fun i hi => by unfold sp; rw [if_pos hi]))
  have hc2 : ∀ k, (convert 22 9 (.slice a len cap)).run Tryz.prog (w.drewN k) = .ok (.string (BA bs len)) (w.drewN k) := fun k => conv_any _ len cap bs _ (hr.drewN k)
  have hcell : ∀ i, i < len + 9 → w.cell? ⟨g, i, none⟩ = some (.int .u8 (sp bs len i : Nat)) := fun i hi => by
    have := hW.src _ rfl i hi
    rwa [Go.WideShapes.add_plain, Nat.zero_add] at this
  have hlI : (len : Int) ≤ (len : Int) + 9 := by omega
  generalize BA bs len = X at *
  clear hW hr
  go_enter Tryz.func22, Tryz.ntmps22
  go_wp2_with fail
  go_quiet (fail)
  clear hc1 hc2
  go_wp2_with fail
  go_loop [4, 5] (fun _ c => ∃ j, j ≤ 9 ∧ c = .int .i64 ((len + j : Nat) : Int)) (fun _ c => (len + 9) - (intOf c).toNat)
  case atStart => exact ⟨0, by omega, by simp⟩
  case round =>
    obtain ⟨j, hj, rfl⟩ := hrel
    obtain ⟨p, hp⟩ : ∃ p, p = len + j := ⟨_, rfl⟩
    rw [← hp]
    by_cases hlt : j < 9
    · have hpl : p < len + 9 := by omega
      have hplI : (p : Int) < (len : Int) + 9 := by omega
      have hcx := hcell p hpl
      have hv : ((201 : Int) + (p : Int)) % 256 = ((sp bs len p : Nat) : Int) := by
        unfold sp
        rw [if_neg (by omega)]
        omega
      have HP : Hid (p = len + j) := hp
      clear hp hcell
      generalize sp bs len p = y at *
      go_wp2
      go_round
      case rel => exact ⟨j + 1, by omega, by rw [HP.out]; go_num⟩
      case measure => simp [intOf] <;> omega
    · have hpl : ¬ p < len + 9 := by omega
      have hplI : ¬ (p : Int) < (len : Int) + 9 := by omega
      clear hp hcell
      go_wp2
      go_ret
      exact ⟨rfl, _, rfl⟩
end Go.Proofs.YtndjepeolamedaaGreat
namespace Go.Proofs.YtndjepeolamedaaGreat
set_option maxRecDepth 100000
open Go.RowKit
def sa (o : Option Nat) : Option Addr := o.map fun b => ⟨b, 0, none⟩
structure Kp (U : Nat → Prop) (w w' : World) : Prop where
  os : w'.os = w.os
  tape : w'.tape = w.tape
  output : w'.output = w.output
  size : w.heap.size ≤ w'.heap.size
  block : ∀ k, U k → w'.heap[k]? = w.heap[k]?
theorem Kp.trans {U : Nat → Prop} {u v w : World} (h : Kp U u v) (k : Kp U v w) : Kp U u w :=
  ⟨k.os.trans h.os, k.tape.trans h.tape, k.output.trans h.output, Nat.le_trans h.size k.size, fun i hi => (k.block i hi).trans (h.block i hi)⟩
theorem Kp.refl (U : Nat → Prop) (w : World) : Kp U w w := ⟨rfl, rfl, rfl, Nat.le_refl _, fun _ _ => rfl⟩
theorem Kp.drew {U : Nat → Prop} {w w' : World} (h : Kp U w w') : Kp U w w'.drew := h.trans ⟨rfl, rfl, rfl, Nat.le_refl _, fun _ _ => rfl⟩
theorem Kp.setCell {U : Nat → Prop} {w w' : World} (h : Kp U w w') {p : Addr} (hp : ¬ U p.block) (v : Value) : Kp U w (w'.setCell p v) :=
  h.trans ⟨rfl, rfl, rfl, by simp [World.setCell], fun k hk => heap_setCell_other w' _ k v (fun e => hp (e ▸ hk))⟩
theorem Kp.alloc {U : Nat → Prop} {w w' : World} (h : Kp U w w') (hU : ∀ k, U k → k < w'.heap.size) (o : Obj) : Kp U w (w'.alloc o) :=
  h.trans ⟨rfl, rfl, rfl, by simp, fun k hk => heap_alloc_old w' o (hU k hk)⟩
theorem Kp.below {B : Nat} {w w' : World} (h : Kp (fun k => k < B) w w') : Below B w w' := ⟨h.os, h.tape, h.output, h.size, fun k hk => h.block k hk⟩
structure Fx (U : Nat → Prop) (m gl : Nat) (g : Nat → Option Nat) (n c : Nat → Nat) : Prop where
  le : ∀ i, i < m → n i ≤ c i
  small : ∀ i, i < m → n i ≤ 1000000
  cmax : ∀ i, i < m → c i ≤ maxLen
  nil : ∀ i, i < m → g i = none → n i = 0 ∧ c i = 0
  inj : ∀ i j, i < m → j < m → i ≠ j → ∀ x, g i = some x → g j ≠ some x
  ngl : ∀ i, i < m → g i ≠ some gl
  base : ∀ i, i < m → ∀ x, g i = some x → ¬ U x
structure Ls (wr : World) (m gl : Nat) (g : Nat → Option Nat) (n c t : Nat → Nat) : Prop where
  cells : ∀ i, i < m → wr.cell? ⟨gl, i, none⟩ = some (.slice (sa (g i)) (n i) (c i))
  rows : ∀ i, i < m → ∀ x, g i = some x → ∃ cur, wr.heap[x]? = some (.cells cur 5 (0, 0)) ∧ cur.size = c i ∧ ∀ k, k < t i → cur[k]? = some (.int .u8 (mrk i k : Nat))
theorem Ls.put {wr : World} {U : Nat → Prop} {m gl : Nat} {g : Nat → Option Nat} {n c t : Nat → Nat} (F : Fx U m gl g n c) (h : Ls wr m gl g n c t) {i : Nat} (hi : i < m) (hk : t i < c i) {b : Nat} (hb : g i = some b) :
    Ls (wr.setCell ⟨b, t i, none⟩ (.int .u8 (mrk i (t i) : Nat))) m gl g n c (fun j => if j = i then t i + 1 else t j) := by
  refine ⟨fun j hj => ?_, fun j hj x hx => ?_⟩
  · rw [World.cell?_setCell_other _ _ _ _ (by intro e; have := congrArg Addr.block e; simp at this; exact F.ngl i hi (by rw [hb, this]))]
    exact h.cells j hj
  · obtain ⟨cur, h1, h2, h3⟩ := h.rows j hj x hx
    by_cases e : j = i
    · subst e
      rw [hb] at hx
      cases hx
      refine ⟨_, heap_setCell_same _ _ _ _ _ _ h1, by simpa using h2, fun k hk2 => ?_⟩
      rw [if_pos rfl] at hk2
      rw [Array.getElem?_setIfInBounds]
      by_cases e2 : t j = k
      · rw [if_pos e2, if_pos (by omega), e2]
      · rw [if_neg e2]; exact h3 k (by omega)
    · have hne : x ≠ b := fun hxb => F.inj j i hj hi e x hx (by rw [hb, hxb])
      refine ⟨cur, by rw [heap_setCell_other _ _ _ _ hne]; exact h1, h2, fun k hk2 => ?_⟩
      rw [if_neg e] at hk2
      exact h3 k hk2
theorem Ls.drew {wr : World} {m gl : Nat} {g : Nat → Option Nat} {n c t : Nat → Nat} (h : Ls wr m gl g n c t) : Ls wr.drew m gl g n c t := ⟨h.cells, h.rows⟩
theorem app1s (w : World) (B ty : Nat) (b N cap : Nat) (f : Nat → Nat) (x : Nat) (ad : Addr) (hx : w.cell? ad = some (.int .u8 (x : Nat))) (hBw : B ≤ w.heap.size) (hN : N + 1 ≤ 1000000000)
    (hown : w.ownsRow B 5 1 (.slice (some ⟨b, 0, none⟩) N cap) N (CB f N)) :
    ∃ b' cap' w', (Builtin.append_ #[22, 22] ty #[.slice (some ⟨b, 0, none⟩) N cap, .slice (some ad) 1 1]).run Tryz.prog w = .ok (.slice (some ⟨b', 0, none⟩) (N + 1) cap') w' ∧
      w'.ownsRow B 5 1 (.slice (some ⟨b', 0, none⟩) (N + 1) cap') (N + 1) (CB (fun i => if i < N then f i else x) (N + 1)) ∧ w'.os = w.os ∧ w'.tape = w.tape ∧ w'.output = w.output ∧ w.heap.size ≤ w'.heap.size ∧
      ((b' = b ∧ ∀ k, k < w.heap.size → k ≠ b → w'.heap[k]? = w.heap[k]?) ∨ (w.heap.size ≤ b' ∧ ∀ k, k < w.heap.size → w'.heap[k]? = w.heap[k]?)) := by
  obtain ⟨i, hi, hz0, hz1, hz2⟩ := info_parts info_u8
  have hcb : CB f N ++ [Value.int .u8 (x : Nat)] = CB (fun i => if i < N then f i else x) (N + 1) := by
    have h := CB_append f (fun _ => x) N 1
    rw [← h]; rfl
  have hnews : ∀ j u, [Value.int .u8 (x : Nat)][j]? = some u → w.cell? (ad.add j) = some u := by
    intro j u hj
    match j, hj with
    | 0, hj =>
      simp at hj
      rw [← hj]
      have : ad.add 0 = ad := by unfold Addr.add; simp
      rw [this]; exact hx
  by_cases hroom : N + 1 ≤ cap
  · obtain ⟨w', h1, h2, h3⟩ := run_append_fits (P := Tryz.prog) w B 22 ty 5 i 1 Tryz.underlying22 hi hz1 b N cap (CB f N) hown ad 1 1 [.int .u8 (x : Nat)] rfl hnews (by intro u hu; simp at hu; subst hu; rfl) hroom
    rw [hcb] at h2
    exact ⟨b, cap, w', h1, h2, h3.os, h3.tape, h3.output, h3.size, .inl ⟨rfl, fun k hkl hk => h3.block k hkl (fun e => hk (by simpa using e))⟩⟩
  · have hlen : (CB f N ++ [Value.int .u8 (x : Nat)]).length = (N + 1) * 1 := by rw [List.length_append, CB_length]; simp
    have holds : ∀ j u, (CB f N)[j]? = some u → w.cell? ((⟨b, 0, none⟩ : Addr).add j) = some u := hown.cells (g := b) rfl
    have hr := run_append_grow (P := Tryz.prog) w 22 ty 5 i (.int .u8 0) Tryz.underlying22 hi hz0 ⟨b, 0, none⟩ N cap (CB f N) (by rw [CB_length, hz1]; omega) holds ad 1 1 [.int .u8 (x : Nat)] (by rw [hz1]; rfl) hnews (by omega) (by omega) (growslice_fits (by omega) (by rw [hz2]; omega))
    refine ⟨w.heap.size, _, _, hr, ⟨by rw [CB_length]; omega, .inr ⟨w.heap.size, _, _, rfl, hBw, heap_alloc_new w.drew _, grownCap_ge w (N + 1) cap _, grownCap_le_maxLen w (N + 1) cap _ (by unfold maxLen; omega), ?_, ?_⟩⟩, rfl, rfl, rfl, by simp, .inr ⟨Nat.le_refl _, fun k hk => heap_alloc_old w.drew _ hk⟩⟩
    · have hge := grownCap_ge w (N + 1) cap 5
      simp only [Array.size_append, List.size_toArray, size_zeroCells, CB_length]
      simp [Value.cells]
      omega
    · simp only [Array.toList_append, List.append_assoc]
      rw [← List.append_assoc, ← hlen, ← hcb]
      exact List.take_left
theorem app1 (w : World) (B ty : Nat) (o : Option Nat) (N cap : Nat) (f : Nat → Nat) (x : Nat) (ad : Addr) (hx : w.cell? ad = some (.int .u8 (x : Nat))) (hBw : B ≤ w.heap.size) (hN : N + 1 ≤ 1000000000)
    (hown : w.ownsRow B 5 1 (.slice (sa o) N cap) N (CB f N)) :
    ∃ b' cap' w', (Builtin.append_ #[22, 22] ty #[.slice (sa o) N cap, .slice (some ad) 1 1]).run Tryz.prog w = .ok (.slice (some ⟨b', 0, none⟩) (N + 1) cap') w' ∧
      w'.ownsRow B 5 1 (.slice (some ⟨b', 0, none⟩) (N + 1) cap') (N + 1) (CB (fun i => if i < N then f i else x) (N + 1)) ∧ w'.os = w.os ∧ w'.tape = w.tape ∧ w'.output = w.output ∧ w.heap.size ≤ w'.heap.size ∧
      ((o = some b' ∧ ∀ k, k < w.heap.size → k ≠ b' → w'.heap[k]? = w.heap[k]?) ∨ (w.heap.size ≤ b' ∧ ∀ k, k < w.heap.size → w'.heap[k]? = w.heap[k]?)) := by
  cases o with
  | some b =>
    obtain ⟨b', cap', w', h1, h2, h3, h4, h5, h6, h7⟩ := app1s w B ty b N cap f x ad hx hBw hN hown
    refine ⟨b', cap', w', h1, h2, h3, h4, h5, h6, ?_⟩
    rcases h7 with ⟨e, q⟩ | q
    · subst e
      exact .inl ⟨rfl, q⟩
    · exact .inr q
  | none =>
    obtain ⟨i, hi, hz0, hz1, hz2⟩ := info_parts info_u8
    have hnil : N = 0 ∧ cap = 0 := by
      rcases hown.2 with ⟨e, _⟩ | ⟨g, cp, cur, e, _⟩
      · simp only [Value.slice.injEq] at e; exact ⟨e.2.1, e.2.2⟩
      · simp [sa] at e
    obtain ⟨rfl, rfl⟩ := hnil
    have hnews : ∀ j u, [Value.int .u8 (x : Nat)][j]? = some u → w.cell? (ad.add j) = some u := by
      intro j u hj
      match j, hj with
      | 0, hj =>
        simp at hj
        rw [← hj]
        have : ad.add 0 = ad := by unfold Addr.add; simp
        rw [this]; exact hx
    have hown0 : w.ownsRow w.heap.size 5 1 (.slice none 0 0) 0 [] := World.ownsRow_nil _ _ _ _
    obtain ⟨v', w', hr, h2, h3, _⟩ := run_append_own (P := Tryz.prog) w w.heap.size 22 ty 5 i (.int .u8 0) 1 1 Tryz.underlying22 hi hz0 hz1 hz2 rfl (by decide) (.slice none 0 0) 0 [] hown0 ad 1 1 [.int .u8 (x : Nat)] rfl hnews (by intro u hu; simp at hu; subst hu; rfl) (by unfold maxLen; omega) (by omega) (Nat.le_refl _)
    have hcb : [] ++ [Value.int .u8 (x : Nat)] = CB (fun i => if i < 0 then f i else x) (0 + 1) := rfl
    rw [hcb] at h2
    have h2B := own_base h2 hBw
    rcases h2.2 with ⟨_, e⟩ | ⟨g, cp, cur, rfl, hg, _⟩
    · omega
    · exact ⟨g, cp, w', hr, h2B, h3.os, h3.tape, h3.output, h3.size, .inr ⟨hg, fun k hk => h3.block k hk (by simp [Value.ownBlock])⟩⟩
structure G2 (U : Nat → Prop) (m gl gg F0 : Nat) (g : Nat → Option Nat) (n c : Nat → Nat) (w0 wr : World) (tau : Nat → Nat) (bb : Nat → Option Nat) (cc : Nat → Nat) : Prop where
  lists : ∀ i, i < m → wr.cell? ⟨gl, i, none⟩ = some (.slice (sa (g i)) (n i) (c i))
  old : ∀ i, i < m → ∀ x, g i = some x → ∀ k, k < n i → wr.cell? ⟨x, k, none⟩ = some (.int .u8 (mrk i k : Nat))
  cells : ∀ i, i < m → wr.cell? ⟨gg, i, none⟩ = some (.slice (sa (bb i)) (n i + tau i) (cc i))
  fro : ∀ i, i < m → wr.frozen? ⟨gg, i, none⟩ = false
  own : ∀ i, i < m → wr.ownsRow 0 5 1 (.slice (sa (bb i)) (n i + tau i) (cc i)) (n i + tau i) (CB (mrk i) (n i + tau i))
  at_ : ∀ i, i < m → ∀ x, bb i = some x → g i = some x ∨ F0 ≤ x
  inj : ∀ i j, i < m → j < m → i ≠ j → ∀ x, bb i = some x → bb j ≠ some x
  below : Kp U w0 wr
  size : F0 ≤ wr.heap.size
  bw : ∀ k, U k → k < wr.heap.size
structure Plc (U : Nat → Prop) (m gl gg F0 : Nat) (g : Nat → Option Nat) : Prop where
  g_inj : ∀ i j, i < m → j < m → i ≠ j → ∀ x, g i = some x → g j ≠ some x
  g_gl : ∀ i, i < m → g i ≠ some gl
  g_gg : ∀ i, i < m → g i ≠ some gg
  gl_gg : gl ≠ gg
  g_lt : ∀ i, i < m → ∀ x, g i = some x → x < F0
  gl_lt : gl < F0
  gg_lt : gg < F0
  g_B : ∀ i, i < m → ∀ x, g i = some x → ¬ U x
  gg_B : ¬ U gg
  k_lt : ∀ k, U k → k < F0
theorem own_heap {w w' : World} {B e n cap : Nat} {o : Option Nat} {xs : List Value} (h : w.ownsRow B e 1 (.slice (sa o) n cap) n xs) (hb : ∀ b, o = some b → w'.heap[b]? = w.heap[b]?) : w'.ownsRow B e 1 (.slice (sa o) n cap) n xs := by
  refine ⟨h.1, ?_⟩
  rcases h.2 with hn | ⟨g', cap', cur, he, hg, hgg, rest⟩
  · exact .inl hn
  · cases o with
    | none => simp [sa] at he
    | some b =>
      simp only [sa, Option.map_some, Value.slice.injEq, Option.some.injEq, Addr.mk.injEq, and_true, true_and] at he
      obtain ⟨rfl, rfl⟩ := he
      exact .inr ⟨b, cap, cur, rfl, hg, (hb b rfl).trans hgg, rest⟩
theorem own_lt {w : World} {B e n cap : Nat} {o : Option Nat} {xs : List Value} (h : w.ownsRow B e 1 (.slice (sa o) n cap) n xs) {b : Nat} (hb : o = some b) : b < w.heap.size ∧ B ≤ b := by
  subst hb
  have := h.lt b rfl
  exact ⟨this.2, this.1⟩
set_option maxHeartbeats 1000000 in
theorem G2.step {U : Nat → Prop} {m gl gg F0 : Nat} {g : Nat → Option Nat} {n c : Nat → Nat} {w0 wr u' : World} {tau : Nat → Nat} {bb : Nat → Option Nat} {cc : Nat → Nat} (P : Plc U m gl gg F0 g) (h : G2 U m gl gg F0 g n c w0 wr tau bb cc) {i : Nat} (hi : i < m) {b' cap' : Nat}
    (hown : u'.ownsRow 0 5 1 (.slice (some ⟨b', 0, none⟩) (n i + tau i + 1) cap') (n i + tau i + 1) (CB (mrk i) (n i + tau i + 1)))
    (hos : u'.os = wr.os) (htape : u'.tape = wr.tape) (hout : u'.output = wr.output) (hsz : wr.heap.size ≤ u'.heap.size)
    (hcase : (bb i = some b' ∧ ∀ k, k < wr.heap.size → k ≠ b' → u'.heap[k]? = wr.heap[k]?) ∨ (wr.heap.size ≤ b' ∧ ∀ k, k < wr.heap.size → u'.heap[k]? = wr.heap[k]?)) :
    G2 U m gl gg F0 g n c w0 (u'.setCell ⟨gg, i, none⟩ (.slice (some ⟨b', 0, none⟩) (n i + tau i + 1) cap')) (fun j => if j = i then tau i + 1 else tau j) (fun j => if j = i then some b' else bb j) (fun j => if j = i then cap' else cc j) := by
  have hs := h.size
  have keep : ∀ k, k < wr.heap.size → bb i ≠ some k → u'.heap[k]? = wr.heap[k]? := fun k hk hne => by
    rcases hcase with ⟨e, q⟩ | ⟨_, q⟩
    · exact q k hk (fun x => hne (by rw [e, x]))
    · exact q k hk
  have hggb : bb i ≠ some gg := fun e => by
    rcases h.at_ i hi gg e with e2 | e2
    · exact P.g_gg i hi e2
    · have := P.gg_lt; omega
  have hglb : bb i ≠ some gl := fun e => by
    rcases h.at_ i hi gl e with e2 | e2
    · exact P.g_gl i hi e2
    · have := P.gl_lt; omega
  have hb'gg : b' ≠ gg := by
    rcases hcase with ⟨e, _⟩ | ⟨e, _⟩
    · exact fun x => hggb (by rw [e, x])
    · have := P.gg_lt; omega
  have hggl := P.gg_lt
  have hgll := P.gl_lt
  have set_other : ∀ (p : Addr), p.block ≠ gg → (u'.setCell ⟨gg, i, none⟩ (.slice (some ⟨b', 0, none⟩) (n i + tau i + 1) cap')).cell? p = u'.cell? p := fun p hp =>
    World.cell?_of_block (w := u') (heap_setCell_other u' _ p.block _ hp)
  have cellgg : ∀ j, u'.cell? ⟨gg, j, none⟩ = wr.cell? ⟨gg, j, none⟩ := fun j => World.cell?_of_block (w := wr) (keep gg (by omega) hggb)
  refine ⟨fun j hj => ?_, fun j hj x hx k hk => ?_, fun j hj => ?_, fun j hj => ?_, fun j hj => ?_, fun j hj x hx => ?_, fun j k hj hk hne x hx => ?_, ?_, ?_, ?_⟩
  · rw [set_other _ P.gl_gg, World.cell?_of_block (w := wr) (keep gl (by omega) hglb)]
    exact h.lists j hj
  · have hxg : x ≠ gg := fun e => P.g_gg j hj (by rw [hx, e])
    have hxl := P.g_lt j hj x hx
    rw [set_other _ hxg]
    by_cases e : bb i = some x
    · have hji : j = i := by
        rcases h.at_ i hi x e with e2 | e2
        · by_cases q : j = i
          · exact q
          · exact absurd e2 (P.g_inj j i hj hi q x hx)
        · omega
      subst hji
      rcases hcase with ⟨eb, _⟩ | ⟨eb, q⟩
      · have hbx : b' = x := by rw [eb] at e; exact Option.some.inj e
        have := hown.cellAt k (by omega)
        rw [CB_get _ _ k (by omega), hbx] at this
        exact this
      · rw [World.cell?_of_block (w := wr) (q x (by omega))]
        exact h.old j hj x hx k hk
    · rw [World.cell?_of_block (w := wr) (keep x (by omega) e)]
      exact h.old j hj x hx k hk
  · by_cases e : j = i
    · subst e
      simp only [↓reduceIte]
      have hx := (cellgg j).trans (h.cells j hj)
      have := World.cell?_setCell_same u' ⟨gg, j, none⟩ (.slice (some ⟨b', 0, none⟩) (n j + tau j + 1) cap') hx
      rw [this, Nat.add_assoc]
      rfl
    · simp only [if_neg e]
      rw [World.cell?_setCell_other _ _ _ _ (by intro q; have := congrArg Addr.off q; simp at this; omega), cellgg]
      exact h.cells j hj
  · rw [World.frozen?_setCell]
    rw [World.frozen?_of_block (w := wr) (a := ⟨gg, j, none⟩) (keep gg (by omega) hggb)]
    exact h.fro j hj
  · by_cases e : j = i
    · subst e
      simp only [↓reduceIte]
      rw [show n j + (tau j + 1) = n j + tau j + 1 by omega]
      exact own_heap (o := some b') hown (fun b hb => by cases hb; exact heap_setCell_other u' _ _ _ hb'gg)
    · simp only [if_neg e]
      refine own_heap (h.own j hj) (fun b hb => ?_)
      have hbj := own_lt (h.own j hj) hb
      have hbg : b ≠ gg := fun q => by
        rcases h.at_ j hj b hb with e2 | e2
        · exact P.g_gg j hj (by rw [e2, q])
        · omega
      rw [heap_setCell_other u' _ _ _ hbg]
      exact keep b hbj.1 (h.inj j i hj hi e b hb)
  · by_cases e : j = i
    · subst e
      simp only [↓reduceIte] at hx
      cases hx
      rcases hcase with ⟨eb, _⟩ | ⟨eb, _⟩
      · exact h.at_ j hj b' eb
      · exact .inr (by omega)
    · simp only [if_neg e] at hx; exact h.at_ j hj x hx
  · by_cases ej : j = i
    · by_cases ek : k = i
      · omega
      · simp only [if_pos ej] at hx
        simp only [if_neg ek]
        cases hx
        rcases hcase with ⟨eb, _⟩ | ⟨eb, _⟩
        · exact h.inj i k hi hk (by omega) b' eb
        · intro q
          have := (own_lt (h.own k hk) q).1
          omega
    · by_cases ek : k = i
      · simp only [if_neg ej] at hx
        simp only [if_pos ek]
        intro q
        cases q
        rcases hcase with ⟨eb, _⟩ | ⟨eb, _⟩
        · exact h.inj j i hj hi ej b' hx eb
        · have := (own_lt (h.own j hj) hx).1
          omega
      · simp only [if_neg ej] at hx
        simp only [if_neg ek]
        exact h.inj j k hj hk hne x hx
  · have hb1 : Kp U w0 u' := h.below.trans ⟨hos, htape, hout, hsz, fun k hk => keep k (h.bw k hk) (fun e => by
      rcases h.at_ i hi k e with e2 | e2
      · exact P.g_B i hi k e2 hk
      · have := P.k_lt k hk; omega)⟩
    exact hb1.setCell (p := ⟨gg, i, none⟩) P.gg_B _
  · have : (u'.setCell ⟨gg, i, none⟩ (.slice (some ⟨b', 0, none⟩) (n i + tau i + 1) cap')).heap.size = u'.heap.size := by simp [World.setCell]
    omega
  · have : (u'.setCell ⟨gg, i, none⟩ (.slice (some ⟨b', 0, none⟩) (n i + tau i + 1) cap')).heap.size = u'.heap.size := by simp [World.setCell]
    intro k hk
    have := h.bw k hk
    omega
end Go.Proofs.YtndjepeolamedaaGreat
namespace Go.Proofs.YtndjepeolamedaaGreat
set_option maxRecDepth 100000
open Go.RowKit
def LSl (g : Nat → Option Nat) (n c : Nat → Nat) (m : Nat) : List Value := (List.range m).map fun i => Value.slice (sa (g i)) (n i) (c i)
theorem LSl_length (g : Nat → Option Nat) (n c : Nat → Nat) (m : Nat) : (LSl g n c m).length = m := by simp [LSl]
theorem LSl_get (g : Nat → Option Nat) (n c : Nat → Nat) (m i : Nat) (h : i < m) : (LSl g n c m)[i]? = some (.slice (sa (g i)) (n i) (c i)) := by simp [LSl, h]
theorem LSl_none (g : Nat → Option Nat) (n c : Nat → Nat) (m i : Nat) (h : m ≤ i) : (LSl g n c m)[i]? = none := by simp [LSl, h]
theorem LSl_one (g : Nat → Option Nat) (n c : Nat → Nat) (m : Nat) : ∀ u ∈ LSl g n c m, u.oneCell' = true := by
  intro u hu
  simp only [LSl, List.mem_map, List.mem_range] at hu
  obtain ⟨i, _, rfl⟩ := hu
  rfl
theorem Ls.src {wr wx : World} {m gl : Nat} {g : Nat → Option Nat} {n c t : Nat → Nat} (h : Ls wr m gl g n c t) (hc : ∀ i, wx.cell? ⟨gl, i, none⟩ = wr.cell? ⟨gl, i, none⟩) :
    ∀ j u, (LSl g n c m)[j]? = some u → wx.cell? ((⟨gl, 0, none⟩ : Addr).add j) = some u := by
  intro j u hj
  by_cases hlt : j < m
  · rw [LSl_get _ _ _ _ _ hlt] at hj
    cases hj
    have : (⟨gl, 0, none⟩ : Addr).add j = ⟨gl, j, none⟩ := by unfold Addr.add; simp; omega
    rw [this, hc]
    exact h.cells j hlt
  · rw [LSl_none _ _ _ _ _ (by omega)] at hj; cases hj
theorem info_bs : (Tryz.prog.info? 22).map (fun i => (i.zero, i.size, i.bytes)) = some (some (.slice none 0 0), 1, 24) := by kernel_rfl
theorem G2.start {U : Nat → Prop} {m gl : Nat} {g : Nat → Option Nat} {n c t : Nat → Nat} {w0 wr w2 : World} {v : Value} (F : Fx U m gl g n c) (h : Ls wr m gl g n c t) (ht : ∀ j, j < m → t j = n j) (hm : 0 < m) (hb : Kp U w0 wr) (hB : ∀ k, U k → k < wr.heap.size)
    (hown : w2.ownsRow wr.heap.size 22 1 v m (LSl g n c m)) (hg : ∀ k, k < wr.heap.size → w2.heap[k]? = wr.heap[k]?) (hos : w2.os = wr.os) (htape : w2.tape = wr.tape) (hout : w2.output = wr.output) (hsz : wr.heap.size ≤ w2.heap.size) :
    ∃ gg cap, v = .slice (some ⟨gg, 0, none⟩) m cap ∧ Plc U m gl gg w2.heap.size g ∧ G2 U m gl gg w2.heap.size g n c w0 w2 (fun _ => 0) g c := by
  rcases hown.2 with ⟨_, e⟩ | ⟨gg, cap, cur, rfl, hgb, hgg, hmc, hcm, hcs, htk⟩
  · omega
  have hgl : gl < wr.heap.size := World.block_lt_of_cell? wr _ (h.cells 0 hm)
  have hgi : ∀ i, i < m → ∀ x, g i = some x → x < wr.heap.size := fun i hi x hx => by
    obtain ⟨cur, h1, _⟩ := h.rows i hi x hx
    exact (Array.getElem?_eq_some_iff.mp h1).1
  have hggl : gg < w2.heap.size := (Array.getElem?_eq_some_iff.mp hgg).1
  refine ⟨gg, cap, rfl, ⟨F.inj, F.ngl, fun i hi e => ?_, ?_, fun i hi x hx => ?_, ?_, hggl, F.base, (fun hk => by have := hB gg hk; omega), fun k hk => by have := hB k hk; omega⟩, fun i hi => ?_, fun i hi x hx k hk => ?_, fun i hi => ?_, fun i hi => ?_, fun i hi => ?_, fun i hi x hx => .inl hx, F.inj, ?_, Nat.le_refl _, fun k hk => by have := hB k hk; omega⟩
  · have := hgi i hi gg e; omega
  · omega
  · have := hgi i hi x hx; omega
  · omega
  · rw [World.cell?_of_block (w := wr) (hg gl hgl)]; exact h.cells i hi
  · obtain ⟨cur, h1, h2, h3⟩ := h.rows i hi x hx
    rw [World.cell?_of_block (w := wr) (hg x (hgi i hi x hx)), cell_of_row _ _ _ _ _ _ h1]
    exact h3 k (by rw [ht i hi]; exact hk)
  · have := hown.cellAt i (by omega)
    rw [LSl_get _ _ _ _ _ hi] at this
    exact this
  · exact frozen_of_row _ _ _ _ _ hgg
  · cases hgo : g i with
    | none =>
      obtain ⟨e1, e2⟩ := F.nil i hi hgo
      rw [e1, e2]
      exact ⟨rfl, .inl ⟨rfl, rfl⟩⟩
    | some b =>
      obtain ⟨cur, h1, h2, h3⟩ := h.rows i hi b hgo
      have hle := F.le i hi
      refine ⟨by rw [CB_length]; omega, .inr ⟨b, c i, cur, rfl, Nat.zero_le _, (hg b (hgi i hi b hgo)).trans h1, by omega, F.cmax i hi, by omega, ?_⟩⟩
      apply List.ext_getElem?
      intro k
      by_cases hk : k < n i
      · rw [CB_get _ _ _ (by omega), List.getElem?_take_of_lt (by omega)]
        have := h3 k (by rw [ht i hi]; exact hk)
        simpa using this
      · rw [CB_none _ _ _ (by omega)]
        apply List.getElem?_eq_none
        simp; omega
  · exact hb.trans ⟨hos, htape, hout, hsz, fun k hk => hg k (hB k hk)⟩
theorem G2.drew {U : Nat → Prop} {m gl gg F0 : Nat} {g : Nat → Option Nat} {n c : Nat → Nat} {w0 wr : World} {tau : Nat → Nat} {bb : Nat → Option Nat} {cc : Nat → Nat} (h : G2 U m gl gg F0 g n c w0 wr tau bb cc) : G2 U m gl gg F0 g n c w0 wr.drew tau bb cc :=
  ⟨h.lists, h.old, h.cells, h.fro, h.own, h.at_, h.inj, h.below.drew, h.size, h.bw⟩
theorem step_app1 {ops : Array Oper} {o : Oper} {a : Act} {w : World} {K : Act → World → Prop} {Q : Exit → Act → World → Prop} {E : Prop}
    (hg : o.guard = none) (s x : Operand) (hop : o.op = Op.call { callee := Callee.builtin Builtin.append, args := #[s, x], argTypes := #[22, 22] })
    (B : Nat) (b : Option Nat) (N cap : Nat) (f : Nat → Nat) (y : Nat) (ad : Addr) (hs : a.eval s = .slice (sa b) N cap) (hx : a.eval x = .slice (some ad) 1 1) (hc : w.cell? ad = some (.int .u8 (y : Nat))) (hBw : B ≤ w.heap.size) (hN : N + 1 ≤ 1000000000)
    (hown : w.ownsRow B 5 1 (.slice (sa b) N cap) N (CB f N))
    (hK : ∀ b' cap' w', w'.ownsRow B 5 1 (.slice (some ⟨b', 0, none⟩) (N + 1) cap') (N + 1) (CB (fun i => if i < N then f i else y) (N + 1)) → w'.os = w.os → w'.tape = w.tape → w'.output = w.output → w.heap.size ≤ w'.heap.size →
      ((b = some b' ∧ ∀ k, k < w.heap.size → k ≠ b' → w'.heap[k]? = w.heap[k]?) ∨ (w.heap.size ≤ b' ∧ ∀ k, k < w.heap.size → w'.heap[k]? = w.heap[k]?)) → K (a.put o.dst (.slice (some ⟨b', 0, none⟩) (N + 1) cap')) w') :
    if Region.wanted o (yielded ops a.tmps) = true then Oper.wp Tryz.prog o a w K Q else E := by
  have hw : Region.wanted o (yielded ops a.tmps) = true := by simp [Region.wanted, hg]
  rw [if_pos hw]
  obtain ⟨b', cap', w', h1, h2, h3, h4, h5, h6, h7⟩ := app1 w B o.type b N cap f y ad hc hBw hN hown
  unfold Oper.wp
  simp [execOp, hop, resolve, invoke, builtin, hs, hx, h1, Result.andThen]
  exact hK b' cap' w' h2 h3 h4 h5 h6 h7
theorem G2.mem {U : Nat → Prop} {m gl gg F0 : Nat} {g : Nat → Option Nat} {n c : Nat → Nat} {w0 wr wx : World} {tau : Nat → Nat} {bb : Nat → Option Nat} {cc : Nat → Nat} (h : G2 U m gl gg F0 g n c w0 wr tau bb cc) (hh : ∀ k, k < wr.heap.size → wx.heap[k]? = wr.heap[k]?) (hos : wx.os = wr.os) (htape : wx.tape = wr.tape) (hout : wx.output = wr.output) (hsz : wr.heap.size ≤ wx.heap.size) :
    G2 U m gl gg F0 g n c w0 wx tau bb cc := by
  have hs := h.size
  have hbw := h.bw
  refine ⟨fun i hi => ?_, fun i hi x hx k hk => ?_, fun i hi => ?_, fun i hi => ?_, fun i hi => ?_, h.at_, h.inj, ?_, by omega, fun k hk => by have := hbw k hk; omega⟩
  · have q := h.lists i hi
    rw [World.cell?_of_block (w := wr) (hh _ (World.block_lt_of_cell? wr _ q))]; exact q
  · have q := h.old i hi x hx k hk
    rw [World.cell?_of_block (w := wr) (hh _ (World.block_lt_of_cell? wr _ q))]; exact q
  · have q := h.cells i hi
    rw [World.cell?_of_block (w := wr) (hh _ (World.block_lt_of_cell? wr _ q))]; exact q
  · have q := h.cells i hi
    rw [World.frozen?_of_block (w := wr) (hh _ (World.block_lt_of_cell? wr _ q))]; exact h.fro i hi
  · exact own_heap (h.own i hi) (fun b hb => hh _ (own_lt (h.own i hi) hb).1)
  · exact h.below.trans ⟨hos, htape, hout, hsz, fun k hk => hh k (hbw k hk)⟩
theorem G2.at_r {U : Nat → Prop} {m gl gg F0 : Nat} {g : Nat → Option Nat} {n c : Nat → Nat} {w0 wr : World} {tau : Nat → Nat} {bb : Nat → Option Nat} {cc : Nat → Nat} (h : G2 U m gl gg F0 g n c w0 wr tau bb cc) {r : Nat} (ht : ∀ j, j < m → tau j = r) : G2 U m gl gg F0 g n c w0 wr (fun _ => r) bb cc :=
  ⟨h.lists, h.old, fun i hi => by have := h.cells i hi; rw [ht i hi] at this; exact this, h.fro, fun i hi => by have := h.own i hi; rw [ht i hi] at this; exact this, h.at_, h.inj, h.below, h.size, h.bw⟩
theorem CB_more (f : Nat → Nat) (N : Nat) : CB (fun i => if i < N then f i else f N) (N + 1) = CB f (N + 1) := by
  unfold CB
  apply List.map_congr_left
  intro k hk
  rw [List.mem_range] at hk
  show Value.int IntKind.u8 ((if k < N then f k else f N : Nat) : Int) = _
  by_cases e : k < N
  · rw [if_pos e]
  · rw [if_neg e, show k = N by omega]
theorem step_same {P : Program} {ops : Array Oper} {o : Oper} {a : Act} {w : World} {K : Act → World → Prop} {Q : Exit → Act → World → Prop} {E : Prop}
    (hg : o.guard = none) (f : FuncId) (args : Array Value) (v : Value) (hc : Calls P f args w fun e w' => e = .returned v ∧ w' = w) (hrun : (execOp a.eval o).run P w = .ok (.enter f args) w) (hK : K (a.put o.dst v) w) :
    if Region.wanted o (yielded ops a.tmps) = true then Oper.wp P o a w K Q else E := by
  have hw : Region.wanted o (yielded ops a.tmps) = true := by simp [Region.wanted, hg]
  rw [if_pos hw]
  unfold Oper.wp
  rw [hrun]
  refine hc.mono ?_
  rintro e w'' ⟨rfl, rfl⟩
  exact hK
theorem step_grow {ops : Array Oper} {o : Oper} {a : Act} {K : Act → World → Prop} {Q : Exit → Act → World → Prop} {E : Prop} {U : Nat → Prop} {m gl gg F0 : Nat} {g : Nat → Option Nat} {n c : Nat → Nat} {w0 wr : World} {tau : Nat → Nat} {bb : Nat → Option Nat} {cc : Nat → Nat}
    (i : Nat) (N : Nat) (b : Option Nat) (cap y : Nat) (HH : Hid (i < m ∧ Plc U m gl gg F0 g ∧ G2 U m gl gg F0 g n c w0 wr tau bb cc ∧ N = n i + tau i ∧ b = bb i ∧ cap = cc i ∧ y = mrk i N ∧ N + 1 ≤ 1000000000))
    (hg : o.guard = none) (s x : Operand) (hop : o.op = Op.call { callee := Callee.builtin Builtin.append, args := #[s, x], argTypes := #[22, 22] })
    (hs : a.eval s = .slice (sa b) N cap) (hx : a.eval x = .slice (some ⟨wr.heap.size, 0, none⟩) 1 1)
    (hK : ∀ b' cap' w', w'.cell? ⟨gg, i, none⟩ = some (.slice (sa b) N cap) → w'.frozen? ⟨gg, i, none⟩ = false →
      Hid (G2 U m gl gg F0 g n c w0 (w'.setCell ⟨gg, i, none⟩ (.slice (some ⟨b', 0, none⟩) (N + 1) cap')) (fun j => if j = i then tau i + 1 else tau j) (fun j => if j = i then some b' else bb j) (fun j => if j = i then cap' else cc j)) →
      K (a.put o.dst (.slice (some ⟨b', 0, none⟩) (N + 1) cap')) w') :
    if Region.wanted o (yielded ops a.tmps) = true then Oper.wp Tryz.prog o a (wr.drew.alloc (.cells #[.int .u8 (y : Nat)] 5)) K Q else E := by
  obtain ⟨hi, P, G, rfl, rfl, rfl, hy, hN⟩ := HH.out
  have G1 : G2 U m gl gg F0 g n c w0 (wr.drew.alloc (.cells #[.int .u8 (y : Nat)] 5)) tau bb cc :=
    G.mem (fun k hk => heap_alloc_old wr.drew _ hk) rfl rfl rfl (by simp)
  have hown := G1.own i hi
  have hc : (wr.drew.alloc (.cells #[.int .u8 (y : Nat)] 5)).cell? ⟨wr.heap.size, 0, none⟩ = some (.int .u8 (y : Nat)) := by
    have := cell_of_row _ wr.heap.size 0 _ _ _ (heap_alloc_new wr.drew (.cells #[.int .u8 (y : Nat)] 5))
    exact this
  refine step_app1 hg s x hop 0 (bb i) (n i + tau i) (cc i) (mrk i) y _ hs hx hc (Nat.zero_le _) hN hown ?_
  intro b' cap' w' h1 h2 h3 h4 h5 h6
  subst hy
  rw [CB_more] at h1
  have hst := G1.step P hi h1 h2 h3 h4 h5 h6
  have hggb : bb i ≠ some gg := fun e => by
    rcases G1.at_ i hi gg e with e2 | e2
    · exact P.g_gg i hi e2
    · have := P.gg_lt; omega
  have hgs : gg < (wr.drew.alloc (.cells #[.int .u8 (mrk i (n i + tau i) : Nat)] 5)).heap.size := World.block_lt_of_cell? _ _ (G1.cells i hi)
  have hh : w'.heap[gg]? = (wr.drew.alloc (.cells #[.int .u8 (mrk i (n i + tau i) : Nat)] 5)).heap[gg]? := by
    rcases h6 with ⟨e, q⟩ | ⟨_, q⟩
    · exact q gg hgs (fun x => hggb (by rw [e, x]))
    · exact q gg hgs
  exact hK b' cap' w' ((World.cell?_of_block (a := ⟨gg, i, none⟩) hh).trans (G1.cells i hi)) ((World.frozen?_of_block (a := ⟨gg, i, none⟩) hh).trans (G1.fro i hi)) hst
end Go.Proofs.YtndjepeolamedaaGreat
namespace Go.Proofs.YtndjepeolamedaaGreat
set_option maxRecDepth 100000
open Go.RowKit
structure Lst (B : Nat) (w : World) (o : Option Nat) (n c : Nat) : Prop where
  le : n ≤ c
  small : n ≤ 1000000
  cmax : c ≤ maxLen
  nil : o = none → n = 0 ∧ c = 0
  row : ∀ x, o = some x → B ≤ x ∧ ∃ cur, w.heap[x]? = some (.cells cur 5 (0, 0)) ∧ cur.size = c
theorem Lst.lt {B n c : Nat} {w : World} {o : Option Nat} (h : Lst B w o n c) {x : Nat} (hx : o = some x) : B ≤ x ∧ x < w.heap.size := by
  obtain ⟨h1, cur, h2, _⟩ := h.row x hx
  exact ⟨h1, (Array.getElem?_eq_some_iff.mp h2).1⟩
theorem Lst.below {B n c : Nat} {w w' : World} {o : Option Nat} (h : Lst B w o n c) (hb : Below w.heap.size w w') : Lst B w' o n c :=
  ⟨h.le, h.small, h.cmax, h.nil, fun x hx => by
    obtain ⟨h1, cur, h2, h3⟩ := h.row x hx
    exact ⟨h1, cur, (hb.block x (Array.getElem?_eq_some_iff.mp h2).1).trans h2, h3⟩⟩
theorem Lst.base {B B' n c : Nat} {w : World} {o : Option Nat} (h : Lst B w o n c) (hb : B' ≤ B) : Lst B' w o n c :=
  ⟨h.le, h.small, h.cmax, h.nil, fun x hx => ⟨Nat.le_trans hb (h.row x hx).1, (h.row x hx).2⟩⟩
theorem Lst.ofNil (B : Nat) (w : World) : Lst B w none 0 0 := ⟨Nat.le_refl _, by omega, by unfold maxLen; omega, fun _ => ⟨rfl, rfl⟩, fun x hx => by cases hx⟩
theorem Lst.ofOwn {B n : Nat} {w : World} {v : Value} {xs : List Value} (h : w.ownsRow B 5 1 v n xs) (hn : n ≤ 1000000) : ∃ o c, v = .slice (sa o) n c ∧ Hid (Lst B w o n c) := by
  rcases h.2 with ⟨rfl, rfl⟩ | ⟨g, cap, cur, rfl, h1, h2, h3, h4, h5, _⟩
  · exact ⟨none, 0, rfl, Lst.ofNil B w⟩
  · exact ⟨some g, cap, rfl, h3, hn, h4, (fun e => by cases e), fun x hx => by cases hx; exact ⟨h1, cur, h2, by omega⟩⟩
end Go.Proofs.YtndjepeolamedaaGreat
namespace Go.Proofs.YtndjepeolamedaaGreat
set_option maxRecDepth 100000
open Go.RowKit
set_option maxRecDepth 100000 in
set_option maxHeartbeats 2000000 in
set_option linter.unusedSimpArgs false in
theorem apart_cap (U : Nat → Prop) (m mc gl : Nat) (g : Nat → Option Nat) (n c : Nat → Nat) (w0 w : World) (F : Fx U m gl g n c) (hL : Ls w m gl g n c (fun _ => 0)) (hm : m ≤ 1000) (hm0 : 0 < m) (hbel : Kp U w0 w) (hB0 : ∀ k, U k → k < w0.heap.size) :
    Calls Tryz.prog 27 #[.slice (some ⟨gl, 0, none⟩) m mc] w fun e w' => e = .returned (.bool true) ∧ Kp U w0 w' := by
  go_enter Tryz.func27, Tryz.ntmps27
  go_wp2_with fail
  go_loopw [3, 4] (fun ci _ wr => ∃ i t, i ≤ m ∧ ci = .int .i64 ((i : Nat) : Int) ∧ Ls wr m gl g n c t ∧ (∀ j, j < i → t j = n j) ∧ (∀ j, i ≤ j → t j = 0) ∧ Kp U w0 wr) (fun ci _ _ => m - (intOf ci).toNat)
  case atStart => exact ⟨0, (fun _ => 0), by omega, rfl, hL, (fun j hj => by omega), (fun j _ => rfl), hbel⟩
  case round =>
    clear hL hbel
    obtain ⟨i, t, hi, rfl, L, hdone, hzero, hb⟩ := hrel
    by_cases hlt : i < m
    · have hdI : decide ((i : Int) < (m : Int)) = true := by simp; omega
      have HL : Hid (_) := And.intro L (And.intro hdone (And.intro hzero hb))
      clear L hdone hzero hb
      go_wp2_with fail
      go_loopw [4] (fun ck wr => ∃ k t, k ≤ n i ∧ ck = .int .i64 ((k : Nat) : Int) ∧ Ls wr m gl g n c t ∧ (∀ j, j < i → t j = n j) ∧ (∀ j, i < j → t j = 0) ∧ t i = k ∧ Kp U w0 wr) (fun ck _ => n i - (intOf ck).toNat)
      case atStart => exact ⟨0, t, by omega, rfl, HL.out.1, HL.out.2.1, (fun j hj => HL.out.2.2.1 j (by omega)), HL.out.2.2.1 i (by omega), HL.out.2.2.2⟩
      case round =>
        clear HL
        obtain ⟨k, t, hk, rfl, L, hdone, hzero, htk, hb⟩ := hrel
        have hcl := L.cells i hlt
        have hns := F.small i hlt
        by_cases hlt2 : k < n i
        · obtain ⟨gi, hgi⟩ : ∃ b, g i = some b := by
            cases hgo : g i with
            | none => have := F.nil i hlt hgo; omega
            | some b => exact ⟨b, rfl⟩
          rw [show sa (g i) = some ⟨gi, 0, none⟩ by rw [hgi]; rfl] at hcl
          obtain ⟨cur, q1, q2, q3⟩ := L.rows i hlt gi hgi
          have hkc : k < c i := Nat.lt_of_lt_of_le hlt2 (F.le i hlt)
          have hcell : wr.cell? ⟨gi, k, none⟩ = some (cur[k]'(by omega)) := by rw [cell_of_row _ _ _ _ _ _ q1, Array.getElem?_eq_getElem (by omega)]
          have hfro : wr.frozen? ⟨gi, k, none⟩ = false := frozen_of_row _ _ _ _ _ q1
          have hM := mark_any i k wr.drew (by omega) (by omega)
          have hP := L.drew.put F hlt (by rw [htk]; exact hkc) hgi
          rw [htk] at hP
          have hb2 := hb.drew.setCell (p := ⟨gi, k, none⟩) (F.base i hlt gi hgi) (.int .u8 (mrk i k : Nat))
          have H2 : Hid (_) := And.intro hP (And.intro (fun j (hj : j < i) => show (if j = i then k + 1 else t j) = n j by rw [if_neg (by omega)]; exact hdone j hj) (And.intro (fun j (hj : i < j) => show (if j = i then k + 1 else t j) = 0 by rw [if_neg (by omega)]; exact hzero j hj) hb2))
          generalize cur[k]'(by omega) = old at *
          clear L hdone hzero htk hb q1 q2 q3 hP hb2 hgi
          generalize mrk i k = y at *
          generalize n i = ni at *
          generalize c i = cc at *
          go_wp2_with fail
          go_region_with (go_at_call 66; refine hM.mono ?_; rintro e w2 ⟨rfl, rfl⟩)
          all_goals go_wp2_with fail
          all_goals go_roundw
          all_goals first | exact ⟨k + 1, _, by omega, by go_num, H2.out.1, H2.out.2.1, H2.out.2.2.1, by simp, H2.out.2.2.2⟩ | (simp [intOf]; omega)
        · have hkn : t i = n i := by omega
          have H2 : Hid (_) := And.intro L (And.intro (fun j (hj : j < i + 1) => show t j = n j by
            by_cases e : j = i
            · rw [e]; exact hkn
            · exact hdone j (by omega)) (And.intro (fun j (hj : i + 1 ≤ j) => hzero j (by omega)) hb))
          clear L hdone hzero htk hb hkn
          generalize sa (g i) = ai at *
          generalize n i = ni at *
          go_wp2
          go_roundw
          case rel => exact ⟨i + 1, t, by omega, by go_num, H2.out.1, H2.out.2.1, H2.out.2.2.1, H2.out.2.2.2⟩
          case measure => simp [intOf] <;> omega
    · obtain rfl : m = i := by omega
      obtain ⟨i0, hi0, hz0, hz1, hz2⟩ := info_parts info_bs
      have hBr : ∀ k, U k → k < wr.heap.size := fun k hk => Nat.lt_of_lt_of_le (hB0 k hk) hb.size
      have hgl : gl < wr.heap.size := World.block_lt_of_cell? wr _ (L.cells 0 hm0)
      have hsrc := L.src (wx := wr.alloc (.cells #[] 22)) (fun i => World.cell?_of_block (w := wr) (heap_alloc_old wr _ hgl))
      have hown0 : (wr.alloc (.cells #[] 22)).ownsRow wr.heap.size 22 1 (.slice (some ⟨wr.heap.size, 0, none⟩) 0 0) 0 [] := ⟨rfl, .inr ⟨wr.heap.size, 0, #[], rfl, Nat.le_refl _, heap_alloc_new wr _, Nat.le_refl _, by unfold maxLen; omega, rfl, rfl⟩⟩
      have HL : Hid (_) := And.intro L (And.intro hdone hb)
      clear L hdone hzero hb
      go_wp2_with (at_builtin; refine wpList_append_own _ rfl (.tmp 35) (.tmp 36) 46 rfl wr.heap.size 22 i0 (.slice none 0 0) 1 24 Tryz.underlying46 hi0 hz0 hz1 hz2 rfl (by decide) _ 0 [] rfl hown0 ⟨gl, 0, none⟩ m mc (LSl g n c m) rfl (by rw [LSl_length]; omega) hsrc (LSl_one g n c m) (by unfold maxLen; omega) (by omega) (by simp) ?_)
      intro v2 w2 hown2 hgrow2 _
      obtain ⟨gg, cap, rfl, P, G⟩ := G2.start F HL.out.1 HL.out.2.1 hm0 HL.out.2.2 hBr (by simpa using hown2) (fun k hk => (hgrow2.block k (by simp; omega) (by simp [Value.ownBlock]; omega)).trans (heap_alloc_old wr _ hk)) hgrow2.os hgrow2.tape hgrow2.output (Nat.le_trans (by simp) hgrow2.size)
      generalize w2.heap.size = F0 at P G
      have HF : Hid (Fx U m gl g n c) := F
      have HP : Hid (Plc U m gl gg F0 g) := P
      clear hown2 hgrow2 hown0 hsrc HL hi0 hz0 hz1 hz2 i0 hgl hBr P
      go_wp2_with fail
      go_loopw [6, 7] (fun cn _ wr => ∃ r tau bb cc, r ≤ 40 ∧ cn = .int .i64 ((r : Nat) : Int) ∧ G2 U m gl gg F0 g n c w0 wr tau bb cc ∧ (∀ j, j < m → tau j = r)) (fun cn _ _ => 40 - (intOf cn).toNat)
      case atStart => exact ⟨0, _, _, _, by omega, rfl, G, fun _ _ => rfl⟩
      case round =>
        clear G
        obtain ⟨r, tau, bb, cc, hr, rfl, G, htau⟩ := hrel
        by_cases hlt3 : r < 40
        · have hd3 : decide ((r : Int) < 40) = true := by simp; omega
          have HG : Hid (_) := And.intro G htau
          clear G htau
          go_wp2_with fail
          go_loopw [7] (fun ci wr => ∃ i tau bb cc, i ≤ m ∧ ci = .int .i64 ((i : Nat) : Int) ∧ G2 U m gl gg F0 g n c w0 wr tau bb cc ∧ (∀ j, j < i → tau j = r + 1) ∧ (∀ j, i ≤ j → j < m → tau j = r)) (fun ci _ => m - (intOf ci).toNat)
          case atStart => exact ⟨0, tau, bb, cc, by omega, rfl, HG.out.1, (fun j hj => by omega), (fun j _ hj => HG.out.2 j hj)⟩
          case round =>
            clear HG
            obtain ⟨i, tau, bb, cc, hi, rfl, G, hdone, hrest⟩ := hrel
            by_cases hlt4 : i < m
            · have hd4 : decide ((i : Int) < (m : Int)) = true := by simp; omega
              have hti := hrest i (Nat.le_refl _) hlt4
              have hsm := HF.out.small i hlt4
              obtain ⟨N, hNe⟩ : ∃ N, N = n i + tau i := ⟨_, rfl⟩
              obtain ⟨bi, hbe⟩ : ∃ b, b = bb i := ⟨_, rfl⟩
              obtain ⟨ci, hce⟩ : ∃ b, b = cc i := ⟨_, rfl⟩
              obtain ⟨y, hye⟩ : ∃ y, y = mrk i N := ⟨_, rfl⟩
              have hN : N + 1 ≤ 1000000000 := by omega
              have hN2 : N ≤ 100000000 := by omega
              have hcl := G.cells i hlt4
              rw [← hNe, ← hbe, ← hce] at hcl
              have hM := mark_any i N wr.drew (by omega) (by omega)
              rw [← hye] at hM
              have hgs := World.block_lt_of_cell? _ _ hcl
              have hcl2 : (wr.drew.alloc (.cells #[.int .u8 (y : Nat)] 5)).cell? ⟨gg, i, none⟩ = some (.slice (sa bi) N ci) := (World.cell?_of_block (w := wr) (a := ⟨gg, i, none⟩) (heap_alloc_old wr.drew _ hgs)).trans hcl
              have HH : Hid (_) := And.intro hlt4 (And.intro HP.out (And.intro G (And.intro hNe (And.intro hbe (And.intro hce (And.intro hye hN))))))
              have HT : Hid ((∀ j, j < i + 1 → (if j = i then tau i + 1 else tau j) = r + 1) ∧ (∀ j, i + 1 ≤ j → j < m → (if j = i then tau i + 1 else tau j) = r)) := ⟨fun j hj => by
                by_cases e : j = i
                · rw [if_pos e, hti]
                · rw [if_neg e]; exact hdone j (by omega), fun j h1 h2 => by rw [if_neg (by omega)]; exact hrest j (by omega) h2⟩
              clear hNe hbe hce hye hN G hdone hrest hti hsm
              go_wp2_with fail
              go_region_law (first | (refine step_grow i N bi ci y HH rfl (.tmp 53) (.tmp 61) rfl (by simp [Act.eval, Act.put]) (by simp [Act.eval, Act.put]) ?_; intro b2 cap2 w3 hcl3 hfr3 HG3) | (refine step_same rfl 66 #[.int .i64 i, .int .i64 N] (.int .u8 (y : Nat)) hM (by kernel_rfl) ?_))
              all_goals go_wp2_with fail
              all_goals go_roundw
              all_goals first | exact ⟨i + 1, _, _, _, by omega, by go_num, HG3.out, HT.out.1, HT.out.2⟩ | (simp [intOf]; omega)
            · obtain rfl : m = i := by omega
              have HG : Hid (_) := And.intro G hdone
              clear G hdone hrest
              go_wp2
              go_roundw
              case rel => exact ⟨r + 1, tau, bb, cc, by omega, by go_num, HG.out.1, HG.out.2⟩
              case measure => simp [intOf] <;> omega
        · have G4 := G.at_r (r := 40) (fun j hj => (htau j hj).trans (by omega))
          clear G htau
          have HG : Hid (_) := G4
          clear G4
          go_wp2_with fail
          go_loopw [2, 8, 9, 10] (fun _ ci _ _ wr => ∃ i bb cc, i ≤ m ∧ ci = .int .i64 ((i : Nat) : Int) ∧ G2 U m gl gg F0 g n c w0 wr (fun _ => 40) bb cc) (fun _ ci _ _ _ => m - (intOf ci).toNat)
          case atStart => exact ⟨0, bb, cc, by omega, rfl, HG.out⟩
          case round =>
            clear HG
            obtain ⟨i, bb, cc, hi, rfl, G⟩ := hrel
            by_cases hlt5 : i < m
            · have hd5 : decide ((i : Int) < (m : Int)) = true := by simp; omega
              have hsm := HF.out.small i hlt5
              have HG : Hid (_) := G
              clear G
              go_wp2_with fail
              go_loopw [2, 9] (fun _ ck wr => ∃ k bb cc, k ≤ n i + 40 ∧ ck = .int .i64 ((k : Nat) : Int) ∧ G2 U m gl gg F0 g n c w0 wr (fun _ => 40) bb cc) (fun _ ck _ => n i + 40 - (intOf ck).toNat)
              case atStart => exact ⟨0, bb, cc, by omega, rfl, HG.out⟩
              case round =>
                clear HG
                obtain ⟨k, bb, cc, hk, rfl, G⟩ := hrel
                have hcl := G.cells i hlt5
                by_cases hlt6 : k < n i + 40
                · obtain ⟨N, hNe⟩ : ∃ N, N = n i + 40 := ⟨_, rfl⟩
                  have hOw := G.own i hlt5
                  obtain ⟨bi, hbi⟩ : ∃ b, bb i = some b := by
                    cases hbo : bb i with
                    | none =>
                      rw [hbo] at hOw
                      rcases hOw.2 with ⟨e, _⟩ | ⟨_, _, _, e, _⟩
                      · simp only [Value.slice.injEq] at e; omega
                      · simp [sa] at e
                    | some b => exact ⟨b, rfl⟩
                  rw [show sa (bb i) = some ⟨bi, 0, none⟩ by rw [hbi]; rfl] at hcl hOw
                  have hcell := hOw.cellAt k (by omega)
                  rw [CB_get _ _ _ hlt6] at hcell
                  rw [← hNe] at hcl hlt6
                  have hd6 : decide ((k : Int) < (N : Int)) = true := by simp; omega
                  have hM := mark_any i k wr.drew (by omega) (by omega)
                  have HN : Hid (N = n i + 40) := hNe
                  have HG : Hid (_) := G.drew
                  clear G hNe hOw hbi
                  generalize mrk i k = y at *
                  generalize cc i = ci at *
                  go_wp2_with fail
                  go_region_with (go_at_call 66; refine hM.mono ?_; rintro e w2 ⟨rfl, rfl⟩)
                  all_goals go_wp2_with fail
                  all_goals go_roundw
                  all_goals have hNe := HN.out
                  all_goals first | exact ⟨k + 1, _, _, by omega, by go_num, HG.out⟩ | (simp [intOf]; omega)
                · obtain ⟨N, hNe⟩ : ∃ N, N = n i + 40 := ⟨_, rfl⟩
                  rw [← hNe] at hcl hlt6
                  have HG : Hid (_) := G
                  clear G hNe
                  generalize sa (bb i) = ab at *
                  go_wp2_with fail
                  go_loopw [2, 10] (fun _ ck wr => ∃ k bb cc, k ≤ n i ∧ ck = .int .i64 ((k : Nat) : Int) ∧ G2 U m gl gg F0 g n c w0 wr (fun _ => 40) bb cc) (fun _ ck _ => n i - (intOf ck).toNat)
                  case atStart => exact ⟨0, bb, cc, by omega, rfl, HG.out⟩
                  case round =>
                    clear HG
                    obtain ⟨k, bb, cc, hk, rfl, G⟩ := hrel
                    have hcl := G.lists i hlt5
                    by_cases hlt7 : k < n i
                    · obtain ⟨gi, hgi⟩ : ∃ b, g i = some b := by
                        cases hgo : g i with
                        | none => have := HF.out.nil i hlt5 hgo; omega
                        | some b => exact ⟨b, rfl⟩
                      rw [show sa (g i) = some ⟨gi, 0, none⟩ by rw [hgi]; rfl] at hcl
                      have hcell := G.old i hlt5 gi hgi k hlt7
                      obtain ⟨N, hNe⟩ : ∃ N, N = n i := ⟨_, rfl⟩
                      rw [← hNe] at hcl hlt7
                      have hd7 : decide ((k : Int) < (N : Int)) = true := by simp; omega
                      have hM := mark_any i k wr.drew (by omega) (by omega)
                      have HN : Hid (N = n i) := hNe
                      have HG : Hid (_) := G.drew
                      clear G hNe hgi
                      generalize mrk i k = y at *
                      generalize c i = ci at *
                      go_wp2_with fail
                      go_region_with (go_at_call 66; refine hM.mono ?_; rintro e w2 ⟨rfl, rfl⟩)
                      all_goals go_wp2_with fail
                      all_goals go_roundw
                      all_goals have hNe := HN.out
                      all_goals first | exact ⟨k + 1, _, _, by omega, by go_num, HG.out⟩ | (simp [intOf]; omega)
                    · obtain ⟨N, hNe⟩ : ∃ N, N = n i := ⟨_, rfl⟩
                      rw [← hNe] at hcl hlt7
                      have HG : Hid (_) := G
                      clear G hNe
                      generalize sa (g i) = ag at *
                      go_wp2
                      go_roundw
                      case rel => exact ⟨i + 1, bb, cc, by omega, by go_num, HG.out⟩
                      case measure => simp [intOf] <;> omega
            · obtain rfl : m = i := by omega
              have HG : Hid (_) := G.below
              clear G
              go_wp2
              go_ret
              exact ⟨rfl, HG.out⟩
end Go.Proofs.YtndjepeolamedaaGreat
namespace Go.Proofs.YtndjepeolamedaaGreat
set_option maxRecDepth 100000
open Go.RowKit Go.Maps
abbrev El := Option Nat × Nat × Nat
def elv (e : El) : Value := .slice (sa e.1) e.2.1 e.2.2
theorem elv_one (e : El) : (elv e).oneCell' = true := rfl
theorem cell_atO {w : World} {b i t : Nat} {cur : Array Value} {u : Value} (h : w.heap[b]? = some (.cells cur t (0, 0))) (hu : cur[i]? = some u) : w.cell? ⟨b, i, none⟩ = some u := by
  unfold World.cell?
  simp [h, hu]
structure Olist (w : World) (v : Value) (es : List El) : Prop where
  row : w.ownsRow 0 22 1 v es.length (es.map elv)
  el : ∀ e, e ∈ es → Lst 0 w e.1 e.2.1 e.2.2
  pw : es.Pairwise (fun a b => ∀ x, a.1 = some x → b.1 ≠ some x)
def obl (v : Value) (es : List El) : List Nat := v.ownBlock.toList ++ es.filterMap (·.1)
theorem obl_v {v : Value} {es : List El} {k : Nat} (h : v.ownBlock = some k) : k ∈ obl v es := by simp [obl, h]
theorem obl_e {v : Value} {es : List El} {e : El} (he : e ∈ es) {k : Nat} (h : e.1 = some k) : k ∈ obl v es := by
  unfold obl
  refine List.mem_append_right _ (List.mem_filterMap.2 ⟨e, he, h⟩)
section
variable {w w' : World} {v : Value} {es : List El}
theorem own_keep {B t size n : Nat} {xs : List Value} (h : w.ownsRow B t size v n xs) (hk : ∀ k, v.ownBlock = some k → w'.heap[k]? = w.heap[k]?) : w'.ownsRow B t size v n xs := by
  refine ⟨h.1, ?_⟩
  rcases h.2 with hn | ⟨g, cap, cur, rfl, hg, hgg, rest⟩
  · exact .inl hn
  · exact .inr ⟨g, cap, cur, rfl, hg, (hk g rfl).trans hgg, rest⟩
theorem Lst.keepO {o : Option Nat} {n c : Nat} (h : Lst 0 w o n c) (hk : ∀ x, o = some x → w'.heap[x]? = w.heap[x]?) : Lst 0 w' o n c :=
  ⟨h.le, h.small, h.cmax, h.nil, fun x hx => by
    obtain ⟨h1, cur, h2, h3⟩ := h.row x hx
    exact ⟨h1, cur, (hk x hx).trans h2, h3⟩⟩
theorem Olist.keep (h : Olist w v es) (hk : ∀ k, k ∈ obl v es → w'.heap[k]? = w.heap[k]?) : Olist w' v es :=
  ⟨own_keep h.row (fun k hv => hk k (obl_v hv)), fun e he => (h.el e he).keepO (fun x hx => hk x (obl_e he hx)), h.pw⟩
theorem Olist.lt (h : Olist w v es) : ∀ k, k ∈ obl v es → k < w.heap.size := by
  intro k hk
  unfold obl at hk
  rcases List.mem_append.1 hk with h1 | h1
  · have hv : v.ownBlock = some k := by simpa using h1
    exact (h.row.lt k hv).2
  · obtain ⟨e, he, hx⟩ := List.mem_filterMap.1 h1
    exact ((h.el e he).lt hx).2
theorem Olist.nl (h : Olist w v es) {e : El} (he : e ∈ es) {x : Nat} (hx : e.1 = some x) : v.ownBlock ≠ some x := by
  intro hv
  obtain ⟨_, cur, h2, _⟩ := (h.el e he).row x hx
  rcases h.row.2 with ⟨hn, _⟩ | ⟨g, cap, cur', hve, hg, hgg, _⟩
  · rw [hn] at hv; cases hv
  · rw [hve] at hv
    have : g = x := by simpa [Value.ownBlock] using hv
    subst this
    rw [h2] at hgg
    simp only [Option.some.injEq, Obj.cells.injEq] at hgg
    exact absurd hgg.2.1 (by decide)
theorem Olist.one (e : El) (h : Lst 0 w e.1 e.2.1 e.2.2) : Olist (w.alloc (.cells #[elv e] 22)) (.slice (some ⟨w.heap.size, 0, none⟩) 1 1) [e] := by
  refine ⟨⟨rfl, .inr ⟨w.heap.size, 1, #[elv e], rfl, Nat.zero_le _, heap_alloc_new w _, Nat.le_refl _, by unfold maxLen; omega, rfl, rfl⟩⟩, fun x hx => ?_, List.pairwise_singleton _ _⟩
  simp at hx
  subst hx
  exact h.keepO (fun x hx => heap_alloc_old w _ (h.lt hx).2)
theorem Olist.two {a b : El} {v' : Value} (h : Olist w v es) (ha : Lst 0 w a.1 a.2.1 a.2.2) (hb : Lst 0 w b.1 b.2.1 b.2.2) (hab : ∀ x, a.1 = some x → b.1 ≠ some x) (hae : ∀ e, e ∈ es → ∀ x, e.1 = some x → a.1 ≠ some x ∧ b.1 ≠ some x)
    (hav : ∀ x, v.ownBlock = some x → a.1 ≠ some x ∧ b.1 ≠ some x) (hown : w'.ownsRow 0 22 1 v' (es.length + 2) (es.map elv ++ [elv a, elv b])) (hg : ∀ k, k < w.heap.size → some k ≠ v.ownBlock → w'.heap[k]? = w.heap[k]?) : Olist w' v' (es ++ [a, b]) := by
  refine ⟨by simpa using hown, fun e he => ?_, ?_⟩
  · rcases List.mem_append.1 he with h1 | h1
    · exact (h.el e h1).keepO (fun x hx => hg x ((h.el e h1).lt hx).2 (fun hq => h.nl h1 hx hq.symm))
    · simp at h1
      rcases h1 with rfl | rfl
      · exact ha.keepO (fun x hx => hg x (ha.lt hx).2 (fun hq => (hav x hq.symm).1 hx))
      · exact hb.keepO (fun x hx => hg x (hb.lt hx).2 (fun hq => (hav x hq.symm).2 hx))
  · refine List.pairwise_append.2 ⟨h.pw, ?_, fun e he f hf => ?_⟩
    · exact List.pairwise_cons.2 ⟨fun f hf => by simp at hf; subst hf; exact hab, List.pairwise_singleton _ _⟩
    · simp at hf
      rcases hf with rfl | rfl
      · exact fun x hx => (hae e he x hx).1
      · exact fun x hx => (hae e he x hx).2
end
theorem wpList_appS {ops : Array Oper} {rest : List Oper} {o : Oper} {a : Act} {w : World} {Q : Exit → Act → World → Prop} (hgd : o.guard = none) (s x : Operand)
    (hop : o.op = .call { callee := .builtin .append, args := #[s, x], argTypes := #[46, 46] }) (n g : Nat) (vs : List Value) (y z v : Value) (hs : a.eval s = v) (hown : w.ownsRow 0 22 1 v n vs) (hx : a.eval x = .slice (some ⟨g, 0, none⟩) 2 2)
    (hgc : w.cell? ⟨g, 0, none⟩ = some y) (hgd2 : w.cell? ⟨g, 1, none⟩ = some z) (hy : y.oneCell' = true) (hz : z.oneCell' = true) (hn : n < 1000000)
    (h : ∀ v' w', w'.ownsRow 0 22 1 v' (n + 2) (vs ++ [y, z]) → w.grownBy w' v.ownBlock → (v'.ownBlock = v.ownBlock ∨ v'.ownBlock = some w.heap.size) → wpList Tryz.prog ops Q rest (a.put o.dst v') w') : wpList Tryz.prog ops Q (o :: rest) a w :=
  wpList_plain hgd fun K hK => by
    obtain ⟨i, hi, h0, h1, h2⟩ := info_parts info_bs
    obtain ⟨v', w', hrun, h3, h4, _, h5⟩ := run_append_own_at (P := Tryz.prog) (w := w) 0 46 o.type 22 i _ 1 24 Tryz.underlying46 hi h0 h1 h2 rfl (by decide) v n vs hown ⟨g, 0, none⟩ 2 2 [y, z] rfl (by
      intro j u hj
      match j with
      | 0 => simp at hj; subst hj; simpa [Addr.add] using hgc
      | 1 => simp at hj; subst hj; simpa [Addr.add] using hgd2
      | j + 2 => simp at hj) (by intro u hu; simp at hu; rcases hu with rfl | rfl; · exact hy
                                 · exact hz) (by unfold maxLen; omega) (by omega) (Nat.zero_le _)
    unfold Oper.wp execOp
    simp only [hop, resolve, invoke, builtin, Sem.run_bind, Sem.run_pure, Result.andThen_ok, List.map_toArray, List.map_cons, List.map_nil, hs, hx, hrun]
    exact hK _ _ (h v' w' h3 h4 h5)
theorem apart_els (es : List El) (gl mc : Nat) (w : World) (h : Olist w (.slice (some ⟨gl, 0, none⟩) es.length mc) es) (hm : es.length ≤ 1000) (hm0 : 0 < es.length) :
    Calls Tryz.prog 27 #[.slice (some ⟨gl, 0, none⟩) es.length mc] w fun e w' => e = .returned (.bool true) ∧ Kp (fun k => k < w.heap.size ∧ k ∉ es.filterMap (·.1)) w w' := by
  have hget : ∀ i, i < es.length → ∃ e, es[i]? = some e ∧ e ∈ es := fun i hi => ⟨es[i], List.getElem?_eq_getElem hi, List.getElem_mem hi⟩
  have gd : ∀ i e, es[i]? = some e → es.getD i (none, 0, 0) = e := fun i e he => by rw [List.getD_eq_getElem?_getD, he]; rfl
  refine apart_cap (fun k => k < w.heap.size ∧ k ∉ es.filterMap (·.1)) es.length mc gl (fun i => (es.getD i (none, 0, 0)).1) (fun i => (es.getD i (none, 0, 0)).2.1) (fun i => (es.getD i (none, 0, 0)).2.2) w w ⟨fun i hi => ?_, fun i hi => ?_, fun i hi => ?_, fun i hi => ?_, fun i j hi hj hne => ?_, fun i hi => ?_, fun i hi => ?_⟩ ⟨fun i hi => ?_, fun i hi x hx => ?_⟩ hm hm0 (Kp.refl _ _) (fun k hk => hk.1)
  · obtain ⟨e, he, hm⟩ := hget i hi
    rw [gd i e he]; exact (h.el e hm).le
  · obtain ⟨e, he, hm⟩ := hget i hi
    rw [gd i e he]; exact (h.el e hm).small
  · obtain ⟨e, he, hm⟩ := hget i hi
    rw [gd i e he]; exact (h.el e hm).cmax
  · obtain ⟨e, he, hm⟩ := hget i hi
    rw [gd i e he]; exact (h.el e hm).nil
  · obtain ⟨e, he, hme⟩ := hget i hi
    obtain ⟨f, hf, hmf⟩ := hget j hj
    rw [gd i e he, gd j f hf]
    have pw := List.pairwise_iff_getElem.1 h.pw
    have ei : es[i] = e := by rw [List.getElem?_eq_getElem hi] at he; exact Option.some.inj he
    have ej : es[j] = f := by rw [List.getElem?_eq_getElem hj] at hf; exact Option.some.inj hf
    rcases Nat.lt_or_gt_of_ne hne with hlt | hlt
    · have q := pw i j hi hj hlt
      rw [ei, ej] at q
      exact q
    · have q := pw j i hj hi hlt
      rw [ei, ej] at q
      exact fun x hx hy => q x hy hx
  · obtain ⟨e, he, hm⟩ := hget i hi
    rw [gd i e he]
    exact fun hx => h.nl hm hx rfl
  · obtain ⟨e, he, hm⟩ := hget i hi
    rw [gd i e he]
    exact fun x hx hU => hU.2 (List.mem_filterMap.2 ⟨e, hm, hx⟩)
  · obtain ⟨e, he, hm⟩ := hget i hi
    rw [gd i e he]
    rcases h.row.2 with ⟨hn, _⟩ | ⟨g, cap, cur, hv, hg, hgg, h1, h2, h3, h4⟩
    · cases hn
    · simp only [Value.slice.injEq, Option.some.injEq, Addr.mk.injEq, and_true, true_and] at hv
      obtain ⟨rfl, rfl⟩ := hv
      refine cell_atO hgg ?_
      have : (cur.toList.take (es.length * 1))[i]? = (es.map elv)[i]? := by rw [h4]
      rw [List.getElem?_take_of_lt (by omega)] at this
      rw [List.getElem?_map, he] at this
      simpa [elv] using this
  · obtain ⟨e, he, hm⟩ := hget i hi
    rw [gd i e he] at hx ⊢
    obtain ⟨_, cur, h2, h3⟩ := (h.el e hm).row x hx
    exact ⟨cur, h2, h3, fun k hk => absurd hk (Nat.not_lt_zero _)⟩
end Go.Proofs.YtndjepeolamedaaGreat
