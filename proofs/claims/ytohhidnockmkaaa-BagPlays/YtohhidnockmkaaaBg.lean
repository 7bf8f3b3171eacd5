/- Layer 15: a bag in memory: its block, its list, its frames, its meter; New, Len, Bytes, Put, Get. -/
import Derived.Test.YtohhidnockmkaaaBMake2
import Derived.Test.YtohhidnockmkaaaMeter2
import Derived.Test.YtohhidnockmkaaaOwn
import Derived.Deep.RegionHeld3
import Derived.Maps.AppendAt
namespace Go.Proofs.Ytohhidnockmkaaa
open Go.RowKit Go.Maps

/-- A frame: how many bytes, and which. -/
abbrev Bfm := Nat × (Nat → Nat)
def tots (L : List Bfm) : Nat := L.foldl (fun n f => n + f.1) 0
def pkf (L : List Bfm) : Option Int := L.foldl (fun q f => if q.all (fun x => decide (x < (f.1 : Int))) then some (f.1 : Int) else q) none
theorem tots_app (L : List Bfm) (f : Bfm) : tots (L ++ [f]) = tots L + f.1 := by simp [tots]
theorem pkf_app (L : List Bfm) (f : Bfm) : pkf (L ++ [f]) = if (pkf L).all (fun x => decide (x < (f.1 : Int))) then some (f.1 : Int) else pkf L := by unfold pkf; rw [List.foldl_append]; rfl
theorem tots_le {L : List Bfm} (h : ∀ f, f ∈ L → f.1 ≤ 27) : tots L ≤ 27 * L.length := by
  have key : ∀ (M : List Bfm) (n : Nat), (∀ f, f ∈ M → f.1 ≤ 27) → M.foldl (fun n f => n + f.1) n ≤ n + 27 * M.length := by
    intro M
    induction M with
    | nil => intro n _; simp
    | cons f M ih =>
      intro n hM
      have h1 := hM f (List.mem_cons_self ..)
      have h2 := ih (n + f.1) (fun g hg => hM g (List.mem_cons_of_mem _ hg))
      simp only [List.foldl_cons, List.length_cons]
      omega
  have := key L 0 h
  unfold tots
  omega
theorem own_keep {w w' : World} {B e s n : Nat} {v : Value} {xs : List Value} (h : w.ownsRow B e s v n xs) (hk : ∀ g, v.ownBlock = some g → w'.heap[g]? = w.heap[g]?) : w'.ownsRow B e s v n xs := by
  obtain ⟨h0, h1 | ⟨g, cap, cur, rfl, hg, hgg, rest⟩⟩ := h
  · exact ⟨h0, .inl h1⟩
  · exact ⟨h0, .inr ⟨g, cap, cur, rfl, hg, (hk g rfl).trans hgg, rest⟩⟩
theorem own_type {w : World} {B e s n : Nat} {v : Value} {xs : List Value} (h : w.ownsRow B e s v n xs) {g : Nat} (hg : v.ownBlock = some g) : ∃ c, w.heap[g]? = some (.cells c e (0, 0)) := by
  obtain ⟨h0, ⟨rfl, _⟩ | ⟨g', cap, cur, rfl, _, hgg, rest⟩⟩ := h
  · cases hg
  · simp only [Value.ownBlock, Option.some.injEq] at hg
    subst hg
    exact ⟨cur, hgg⟩
theorem own_some1 {w : World} {B e size n : Nat} {v : Value} {xs : List Value} (h : w.ownsRow B e size v (n + 1) xs) : ∃ g cap, v = .slice (some ⟨g, 0, none⟩) (n + 1) cap ∧ B ≤ g ∧ g < w.heap.size := by
  rcases h.2 with ⟨_, hn⟩ | ⟨g, cap, cur, rfl, hg, hgg, rest⟩
  · omega
  · exact ⟨g, cap, rfl, hg, (Array.getElem?_eq_some_iff.1 hgg).1⟩
theorem own_shape {w : World} {B e s n : Nat} {v : Value} {xs : List Value} (h : w.ownsRow B e s v n xs) : ∃ a cap, v = .slice a n cap := by
  obtain ⟨h0, ⟨rfl, rfl⟩ | ⟨g', cap, cur, rfl, rest⟩⟩ := h
  · exact ⟨_, _, rfl⟩
  · exact ⟨_, _, rfl⟩
theorem tdiff {w : World} {k j : Nat} {c c' : Array Value} {e e' : TypeId} {f f' : Nat × Nat} (h : w.heap[k]? = some (.cells c e f)) (h' : w.heap[j]? = some (.cells c' e' f')) (ne : e ≠ e') : k ≠ j := by
  rintro rfl
  rw [h] at h'
  simp only [Option.some.injEq, Obj.cells.injEq] at h'
  exact ne h'.2.1
/-- The list of frames: its rows, and each frame's bytes. -/
structure Fl (B : Nat) (w : World) (v : Value) (vs : List Value) (L : List Bfm) : Prop where
  rows : w.ownsRow B 31 1 v L.length vs
  frs : ∀ (i : Nat) (f : Bfm), L[i]? = some f → ∃ x, vs[i]? = some x ∧ w.ownsRow B 5 1 x f.1 (CB f.2 f.1)
  small : ∀ (f : Bfm), f ∈ L → f.1 ≤ 27 ∧ ∀ i, i < f.1 → f.2 i < 256
  len : L.length ≤ 4096
theorem Fl.keep {B : Nat} {w w' : World} {v : Value} {vs : List Value} {L : List Bfm} (h : Fl B w v vs L) {l : List Nat} (k : Off l w w') (hl : ∀ x, x ∈ l → x < w.heap.size → v.ownBlock ≠ some x ∧ ∀ c f, w.heap[x]? ≠ some (.cells c 5 f)) : Fl B w' v vs L := by
  have kk : ∀ {e : TypeId} {s n : Nat} {x : Value} {xs : List Value}, w.ownsRow B e s x n xs → (∀ g, x.ownBlock = some g → g ∉ l) → w'.ownsRow B e s x n xs := by
    intro e s n x xs ho hg
    refine own_keep ho fun g eg => ?_
    obtain ⟨c, hc⟩ := own_type ho eg
    exact k.block g (Array.getElem?_eq_some_iff.1 hc).1 (hg g eg)
  refine ⟨kk h.rows fun g eg hm => ?_, fun i f hi => ?_, h.small, h.len⟩
  · obtain ⟨c, hc⟩ := own_type h.rows eg
    exact (hl g hm (Array.getElem?_eq_some_iff.1 hc).1).1 eg
  · obtain ⟨x, hx, ho⟩ := h.frs i f hi
    refine ⟨x, hx, kk ho fun g eg hm => ?_⟩
    obtain ⟨c, hc⟩ := own_type ho eg
    exact (hl g hm (Array.getElem?_eq_some_iff.1 hc).1).2 _ _ hc
theorem Fl.below {B : Nat} {w w' : World} {v : Value} {vs : List Value} {L : List Bfm} (h : Fl B w v vs L) (k : Below w.heap.size w w') : Fl B w' v vs L := h.keep (l := []) (Off.of_below k) (fun x hx => by cases hx)
/-- One frame more. -/
theorem Fl.more {B : Nat} {w wx wy : World} {v v' : Value} {vs : List Value} {L : List Bfm} {x : Value} {n : Nat} {bs : Nat → Nat} (h : Fl B w v vs L) (hx : Below w.heap.size w wx) (ho : wx.ownsRow B 5 1 x n (CB bs n)) (h27 : n ≤ 27) (hb : ∀ i, i < n → bs i < 256) (hn : L.length < 4096)
    (hr : wy.ownsRow B 31 1 v' (L.length + 1) (vs ++ [x])) (hg : wx.grownBy wy v.ownBlock) : Fl B wy v' (vs ++ [x]) (L ++ [(n, bs)]) := by
  have hvl : vs.length = L.length := by have := h.rows.1; omega
  have kk : ∀ {n : Nat} {y : Value} {xs : List Value}, wx.ownsRow B 5 1 y n xs → wy.ownsRow B 5 1 y n xs := by
    intro n y xs hy
    refine own_keep hy fun g eg => ?_
    obtain ⟨c, hc⟩ := own_type hy eg
    refine hg.block g (Array.getElem?_eq_some_iff.1 hc).1 fun e => ?_
    obtain ⟨c', hc'⟩ := own_type (h.below hx).rows e.symm
    exact tdiff hc hc' (by decide) rfl
  refine ⟨by simpa using hr, fun i f hi => ?_, fun f hf => ?_, by simp; omega⟩
  · by_cases hlt : i < L.length
    · rw [List.getElem?_append_left hlt] at hi
      obtain ⟨y, hy, hoy⟩ := (h.below hx).frs i f hi
      exact ⟨y, by rw [List.getElem?_append_left (by omega)]; exact hy, kk hoy⟩
    · have hi' := (List.getElem?_eq_some_iff.1 hi).1
      simp only [List.length_append, List.length_cons, List.length_nil] at hi'
      obtain rfl : i = L.length := by omega
      simp only [List.getElem?_append_right (Nat.le_refl _), Nat.sub_self, List.getElem?_cons_zero, Option.some.injEq] at hi
      subst hi
      refine ⟨x, ?_, kk ho⟩
      rw [← hvl, List.getElem?_append_right (Nat.le_refl _), Nat.sub_self]
      rfl
  · rcases List.mem_append.1 hf with hf | hf
    · exact h.small f hf
    · simp only [List.mem_singleton] at hf
      subst hf
      exact ⟨h27, hb⟩
/-- A frame as a row of bytes. -/
theorem Fl.at_ {B : Nat} {w : World} {v : Value} {vs : List Value} {L : List Bfm} (h : Fl B w v vs L) {i : Nat} {f : Bfm} (hi : L[i]? = some f) : ∃ a cap, vs[i]? = some (.slice a f.1 cap) ∧ Row8 w a f.1 cap f.2 := by
  obtain ⟨x, hx, ho⟩ := h.frs i f hi
  have hm : f ∈ L := List.mem_of_getElem? hi
  obtain ⟨a, cap, rfl, R⟩ := own_row8 ho (h.small f hm).2
  exact ⟨a, cap, hx, R⟩
theorem Fl.cell {B : Nat} {w : World} {g cap : Nat} {vs : List Value} {L : List Bfm} (h : Fl B w (.slice (some ⟨g, 0, none⟩) L.length cap) vs L) {i : Nat} (hi : i < L.length) : w.cell? ⟨g, i, none⟩ = vs[i]? := h.rows.cellAt i (by omega)
/-- A bag: b its block, m its meter's. -/
structure Bg (B : Nat) (w : World) (b m : Nat) (v : Value) (vs : List Value) (p : Option Addr) (L : List Bfm) : Prop where
  at_ : w.heap[b]? = some (.cells #[v, .pointer (some ⟨m, 0, none⟩)] 61 (0, 0))
  fl : Fl B w v vs L
  met : Met w m (tots L : Nat) p 0 0 none
  pk : Pk 0 w p (pkf L)
  bB : B ≤ b
  mB : B ≤ m
theorem Bg.lt {B : Nat} {w : World} {b m : Nat} {v : Value} {vs : List Value} {p : Option Addr} {L : List Bfm} (h : Bg B w b m v vs p L) : b < w.heap.size := (Array.getElem?_eq_some_iff.1 h.at_).1
theorem Bg.off {B : Nat} {w w' : World} {b m : Nat} {v : Value} {vs : List Value} {p : Option Addr} {L : List Bfm} (h : Bg B w b m v vs p L) {l : List Nat} (k : Off l w w') (hl : ∀ x, x ∈ l → x < w.heap.size → x ≠ b ∧ x ≠ m ∧ v.ownBlock ≠ some x ∧ ∀ c f, w.heap[x]? ≠ some (.cells c 5 f) ∧ w.heap[x]? ≠ some (.cells c 2 f)) : Bg B w' b m v vs p L := by
  refine ⟨(k.block b h.lt fun hm => (hl b hm h.lt).1 rfl).trans h.at_, h.fl.keep k fun x hx hs => ⟨(hl x hx hs).2.2.1, fun c f => ((hl x hx hs).2.2.2 c f).1⟩, h.met.off k fun hm => (hl m hm h.met.lt).2.1 rfl, ?_, h.bB, h.mB⟩
  have hp := h.pk
  generalize pkf L = q at hp
  cases hp with
  | none => exact .none
  | some c v' h' hc => exact .some c v' h' ((k.block c (Array.getElem?_eq_some_iff.1 hc).1 fun hm => ((hl c hm (Array.getElem?_eq_some_iff.1 hc).1).2.2.2 _ _).2 hc).trans hc)
theorem Bg.below {B : Nat} {w w' : World} {b m : Nat} {v : Value} {vs : List Value} {p : Option Addr} {L : List Bfm} (h : Bg B w b m v vs p L) (k : Below w.heap.size w w') : Bg B w' b m v vs p L := h.off (l := []) (Off.of_below k) (fun x hx => by cases hx)
theorem Bg.c0 {B : Nat} {w : World} {b m : Nat} {v : Value} {vs : List Value} {p : Option Addr} {L : List Bfm} (h : Bg B w b m v vs p L) : w.cell? ⟨b, 0, none⟩ = some v := cell_of_row w b 0 _ _ _ h.at_
theorem Bg.c1 {B : Nat} {w : World} {b m : Nat} {v : Value} {vs : List Value} {p : Option Addr} {L : List Bfm} (h : Bg B w b m v vs p L) : w.cell? ⟨b, 1, none⟩ = some (.pointer (some ⟨m, 0, none⟩)) := cell_of_row w b 1 _ _ _ h.at_
theorem bnew_any (w : World) :
    Calls Try.prog 9 #[] w fun e w' => e = .returned (.pointer (some ⟨w.heap.size + 1, 0, none⟩)) ∧ Hid (Below w.heap.size w w' ∧ Bg w.heap.size w' (w.heap.size + 1) w.heap.size (.slice none 0 0) [] none [] ∧ w'.heap.size = w.heap.size + 2) := by
  have hN := new_any w
  go_enter Try.func9, Try.ntmps9
  go_wp2_with (go_at_call 24; refine hN.mono ?_; rintro e w' ⟨rfl, rfl⟩)
  go_ret
  have hs : (w.alloc (.cells (MtC 0 none 0 0 none) 91)).heap.size = w.heap.size + 1 := World.size_alloc _ _
  refine ⟨rfl, ((Below.refl _ _).alloc (Nat.le_refl _) _).alloc (by rw [hs]; omega) _, ⟨?_, ⟨⟨rfl, .inl ⟨rfl, rfl⟩⟩, fun i f hi => by simp at hi, fun f hf => by simp at hf, by simp⟩, ?_, .none, by omega, Nat.le_refl _⟩, by rw [World.size_alloc, hs]⟩
  · have := heap_alloc_new (w.alloc (.cells (MtC 0 none 0 0 none) 91)) (.cells #[.slice none 0 0, .pointer (some ⟨w.heap.size, 0, none⟩)] 61)
    rw [hs] at this
    exact this
  · exact (new_met w).off (Off.alloc [] _ _) (by simp)
theorem blen_any (B : Nat) (b m : Nat) (v : Value) (vs : List Value) (p : Option Addr) (L : List Bfm) (w : World) (h : Bg B w b m v vs p L) :
    Calls Try.prog 16 #[.pointer (some ⟨b, 0, none⟩)] w fun e w' => e = .returned (.int .i64 (L.length : Nat)) ∧ w' = w := by
  have c0 := h.c0
  obtain ⟨a, cap, rfl⟩ := own_shape h.fl.rows
  generalize L.length = n at *
  clear h
  go_enter Try.func16, Try.ntmps16
  go_wp2_with fail
  go_ret
  exact ⟨rfl, rfl⟩
theorem blen_nil (w : World) : Calls Try.prog 16 #[.pointer none] w fun e w' => e = .returned (.int .i64 0) ∧ w' = w := by
  go_enter Try.func16, Try.ntmps16
  go_wp2_with fail
  go_ret
  exact ⟨rfl, rfl⟩
theorem bbytes_any (B : Nat) (b m : Nat) (v : Value) (vs : List Value) (p : Option Addr) (L : List Bfm) (w : World) (h : Bg B w b m v vs p L) :
    Calls Try.prog 17 #[.pointer (some ⟨b, 0, none⟩)] w fun e w' => e = .returned (.tuple #[.int .i64 (tots L : Nat), .int .i64 ((pkf L).getD 0)]) ∧ w' = w := by
  have c1 := h.c1
  have hP := peak_any 0 _ m p none _ 0 0 w h.met h.pk
  have hT := total_any _ m p none 0 0 w h.met
  have hle := tots_le fun f hf => (h.fl.small f hf).1
  have hlen := h.fl.len
  have hw : IntKind.i64.wrap ((tots L : Nat) : Int) = ((tots L : Nat) : Int) := by rw [IntKind.wrap_i64]; omega
  generalize tots L = t at *
  generalize (pkf L).getD 0 = q at *
  generalize (pkf L).isSome = y at *
  clear h
  go_enter Try.func17, Try.ntmps17
  go_wp2_with (first | (go_at_call 32; refine hP.mono ?_; rintro e w' ⟨rfl, rfl⟩) | (go_at_call 33; refine hT.mono ?_; rintro e w' ⟨rfl, rfl⟩))
  go_ret2
  refine ⟨?_, rfl⟩
  first | rfl | (rw [hw]) | simp_all
theorem bbytes_nil (w : World) : Calls Try.prog 17 #[.pointer none] w fun e w' => e = .returned (.tuple #[.int .i64 0, .int .i64 0]) ∧ w' = w := by
  go_enter Try.func17, Try.ntmps17
  go_wp2_with fail
  go_ret2
  exact ⟨rfl, rfl⟩
theorem build0B (w : World) : (Instr.buildSlice 31 0 #[]).run Try.prog w = .ok (.slice (some ⟨w.heap.size, 0, none⟩) 0 0) (w.alloc (.cells #[] 5)) := by kernel_rfl
theorem own0B (B : Nat) (bs : Nat → Nat) (w : World) (h : B ≤ w.heap.size) : (w.alloc (.cells #[] 5)).ownsRow B 5 1 (.slice (some ⟨w.heap.size, 0, none⟩) 0 0) 0 (CB bs 0) := World.ownsRow_made w #[] 0 h (Nat.zero_le _) rfl
set_option maxRecDepth 100000 in
set_option maxHeartbeats 1000000 in
theorem clone_any (a : Option Addr) (n cap : Nat) (bs : Nat → Nat) (w : World) (R : Row8 w a n cap bs) (hn : n ≤ 1000000) :
    Calls Try.prog 27 #[.slice a n cap] w fun e w' => ∃ a' cap', e = .returned (.slice a' n cap') ∧ Hid (Below w.heap.size w w' ∧ w'.ownsRow w.heap.size 5 1 (.slice a' n cap') n (CB bs n)) := by
  cases a with
  | none =>
    obtain ⟨rfl, rfl⟩ := R.nil rfl
    have he : ∀ w : World, (binOp .eql 31 (.slice none 0 0) (.slice none 0 0)).run Try.prog w = .ok (.bool true) w := fun _ => rfl
    go_enter Try.func27, Try.ntmps27
    go_wp2_with fail
    go_ret
    exact ⟨_, _, rfl, Below.refl _ _, ⟨rfl, .inl ⟨rfl, rfl⟩⟩⟩
  | some x =>
    obtain ⟨i0, hi, hz0, hz1, hz2⟩ := info_parts info_u8
    have hbd := build0B
    have he : ∀ w : World, (binOp .eql 31 (.slice (some x) n cap) (.slice none 0 0)).run Try.prog w = .ok (.bool false) w := fun _ => rfl
    have hbelA : Below w.heap.size w (w.alloc (.cells #[] 5)) := (Below.refl _ _).alloc (Nat.le_refl _) _
    have R0 := R.below hbelA
    have O0 := own0B w.heap.size bs w (Nat.le_refl _)
    have hszA := hbelA.size
    have hby := R.byte
    go_enter Try.func27, Try.ntmps27
    go_wp2_with (at_builtin; refine wpList_append_row8 rfl (.tmp 5) (.tmp 6) 31 rfl w.heap.size 5 i0 (.int .u8 0) Try.underlying31 hi hz0 hz1 hz2 rfl _ 0 _ rfl O0 (some x) n cap bs rfl R0 (by unfold maxLen; omega) (by omega) hszA ?_)
    intro v2 w2 hown2 hgrow2
    have hbel2 : Below w.heap.size w w2 := hbelA.grown hgrow2 hszA (fun k hk => (O0.lt k hk).1)
    replace hown2 : w2.ownsRow w.heap.size 5 1 v2 n (CB bs n) := by simpa [CB] using hown2
    obtain ⟨a2, k2, rfl, _⟩ := own_row8 hown2 hby
    have H : Hid (Below w.heap.size w w2 ∧ w2.ownsRow w.heap.size 5 1 (.slice a2 n k2) n (CB bs n)) := ⟨hbel2, hown2⟩
    clear hown2 hbel2 hgrow2 O0 R0 R hbelA hby
    go_wp2_with fail
    go_ret
    exact ⟨_, _, rfl, H.out⟩
set_option maxHeartbeats 1000000 in
theorem bget_any (B : Nat) (b m : Nat) (v : Value) (vs : List Value) (p : Option Addr) (L : List Bfm) (i : Nat) (f : Bfm) (w : World) (h : Bg B w b m v vs p L) (hi : L[i]? = some f) :
    Calls Try.prog 12 #[.pointer (some ⟨b, 0, none⟩), .int .i64 (i : Nat)] w fun e w' => ∃ a' cap', e = .returned (.tuple #[.slice a' f.1 cap', .int .i64 0]) ∧ Hid (Below w.heap.size w w' ∧ w'.ownsRow w.heap.size 5 1 (.slice a' f.1 cap') f.1 (CB f.2 f.1)) := by
  have hlt := (List.getElem?_eq_some_iff.1 hi).1
  have hlen := h.fl.len
  obtain ⟨a, cap, hv, R⟩ := h.fl.at_ hi
  have h27 := (h.fl.small f (List.mem_of_getElem? hi)).1
  have c0 := h.c0
  have hr := h.fl.rows
  obtain ⟨n, en⟩ : ∃ n, n = L.length := ⟨_, rfl⟩
  rw [← en] at hlt hlen hr
  cases n with
  | zero => omega
  | succ n =>
    obtain ⟨g, capv, rfl, _, _⟩ := own_some1 hr
    have cv : w.cell? ⟨g, i, none⟩ = some (.slice a f.1 cap) := (hr.cellAt i (by omega)).trans hv
    have hC := clone_any a f.1 cap f.2 w R (by omega)
    have h0 : ¬ ((i : Int) < 0) := by omega
    have h1 : ¬ (((n + 1 : Nat) : Int) ≤ (i : Int)) := by omega
    clear h hr hv R hi
    go_enter Try.func12, Try.ntmps12
    go_wp2_with (go_at_call 27; refine hC.mono ?_; rintro e w' ⟨a', cap', rfl, H⟩)
    go_ret2
    exact ⟨_, _, rfl, H⟩
theorem bget_out (B : Nat) (b m : Nat) (v : Value) (vs : List Value) (p : Option Addr) (L : List Bfm) (i : Int) (w : World) (h : Bg B w b m v vs p L) (hi : i < 0 ∨ (L.length : Int) ≤ i) :
    Calls Try.prog 12 #[.pointer (some ⟨b, 0, none⟩), .int .i64 i] w fun e w' => e = .returned (.tuple #[.slice none 0 0, .int .i64 151]) ∧ w' = w := by
  have c0 := h.c0
  obtain ⟨a, cap, rfl⟩ := own_shape h.fl.rows
  generalize L.length = n at *
  clear h
  by_cases h0 : i < 0
  · clear hi
    go_enter Try.func12, Try.ntmps12
    go_wp2_with fail
    go_ret2
    exact ⟨rfl, rfl⟩
  · have h1 : (n : Int) ≤ i := by omega
    clear hi
    go_enter Try.func12, Try.ntmps12
    go_wp2_with fail
    go_ret2
    exact ⟨rfl, rfl⟩
theorem bget_nil (i : Int) (w : World) : Calls Try.prog 12 #[.pointer none, .int .i64 i] w fun e w' => e = .returned (.tuple #[.slice none 0 0, .int .i64 1]) ∧ w' = w := by
  go_enter Try.func12, Try.ntmps12
  go_wp2_with fail
  go_ret2
  exact ⟨rfl, rfl⟩
theorem bput_nil (a : Option Addr) (n cap : Nat) (w : World) : Calls Try.prog 10 #[.pointer none, .slice a n cap] w fun e w' => e = .returned (.tuple #[.int .i64 0, .int .i64 1]) ∧ w' = w := by
  go_enter Try.func10, Try.ntmps10
  go_wp2_with fail
  go_ret2
  exact ⟨rfl, rfl⟩
theorem bput_long (b : Nat) (a : Option Addr) (n cap : Nat) (w : World) (hn : 27 < n) : Calls Try.prog 10 #[.pointer (some ⟨b, 0, none⟩), .slice a n cap] w fun e w' => e = .returned (.tuple #[.int .i64 0, .int .i64 41]) ∧ w' = w := by
  have h1 : (27 : Int) < (n : Int) := by omega
  go_enter Try.func10, Try.ntmps10
  go_wp2_with fail
  go_ret2
  exact ⟨rfl, rfl⟩
theorem bput_full (B : Nat) (b m : Nat) (v : Value) (vs : List Value) (p : Option Addr) (L : List Bfm) (a : Option Addr) (n cap : Nat) (w : World) (h : Bg B w b m v vs p L) (hn : n ≤ 27) (hL : L.length = 4096) :
    Calls Try.prog 10 #[.pointer (some ⟨b, 0, none⟩), .slice a n cap] w fun e w' => e = .returned (.tuple #[.int .i64 0, .int .i64 150]) ∧ w' = w := by
  have c0 := h.c0
  obtain ⟨a1, cap1, rfl⟩ := own_shape h.fl.rows
  have h1 : ¬ (27 : Int) < (n : Int) := by omega
  rw [hL] at c0
  clear h
  go_enter Try.func10, Try.ntmps10
  go_wp2_with fail
  go_ret2
  exact ⟨rfl, rfl⟩
end Go.Proofs.Ytohhidnockmkaaa
