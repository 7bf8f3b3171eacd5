/- Part 8 of the texts on which the proof rests: contracts of Go functions. -/
import Derived.Test.YthlgahkoignnkaaPkG06
namespace Go.Proofs.Ythlgahkoignnkaa
open Go.RowKit Go.Maps
set_option maxRecDepth 100000
theorem step_make {P : Program} {ops : Array Oper} {o : Oper} {a : Act} {w : World} {K : Act → World → Prop} {Q : Exit → Act → World → Prop} {E : Prop}
    (t : TypeId) (hop : o.op = .makeMap t none) (hw : Region.wanted o (yielded ops a.tmps) = true) (hK : K (a.put o.dst (.map (some w.heap.size))) (w.alloc (.map #[] 0))) :
    if Region.wanted o (yielded ops a.tmps) = true then Oper.wp P o a w K Q else E := by
  rw [if_pos hw]
  unfold Oper.wp
  simp [execOp, hop, run_makeMap, Result.andThen]
  exact hK
theorem inn_ne (b : Nat) (w : World) : (binOp BinOp.eql 95 (.map (some b)) (.map none)).run Try.prog w = .ok (.bool false) w := by kernel_rfl
theorem inn_nil (w : World) : (binOp BinOp.eql 95 (.map none) (.map none)).run Try.prog w = .ok (.bool true) w := by kernel_rfl
theorem belowG {w0 w : World} (h : Below w0.heap.size w0 w) (o : Obj) : Below w0.heap.size w0 (w.alloc o) := h.alloc h.size o
theorem cell_belowJ {w w' : World} {b i : Nat} {v : Value} (h : w.cell? ⟨b, i, none⟩ = some v) (hb : Below w.heap.size w w') : w'.cell? ⟨b, i, none⟩ = some v := (World.cell?_of_block (a := ⟨b, i, none⟩) (hb.block b (World.block_lt_of_cell? w _ h))).trans h
theorem cell_map {w : World} {a : Addr} {es : Array MapEntry} {c : Nat} {v : Value} (h : w.heap[a.block]? = some (.map es c)) : w.cell? a ≠ some v := by
  unfold World.cell?
  rw [h]
  simp
theorem Sm.nob {w : World} {ob N : Nat} {M : TK → Option Nat} {S : Snt} (h : Sm w ob M S N) {a : Addr} {v : Value} (hc : w.cell? a = some v) : a.block ≠ ob := fun e => by
  obtain ⟨D, ⟨es, c, hb, _⟩, _⟩ := h.out
  rw [← e] at hb
  exact cell_map hb hc
theorem Sm.nin {w : World} {ob N : Nat} {M : TK → Option Nat} {S : Snt} (h : Sm w ob M S N) {t : TK} {b : Nat} (ht : t.ok) (hm : M t = some b) {a : Addr} {v : Value} (hc : w.cell? a = some v) : a.block ≠ b := fun e => by
  obtain ⟨D, ⟨es, c, hb, _⟩, _⟩ := h.inn t b ht hm
  rw [← e] at hb
  exact cell_map hb hc
theorem Sm.lt0 {w : World} {ob N : Nat} {M : TK → Option Nat} {S : Snt} (h : Sm w ob M S N) : ob < w.heap.size := by
  obtain ⟨D, h, _⟩ := h.out
  exact h.lt
theorem Sm.lt1 {w : World} {ob N : Nat} {M : TK → Option Nat} {S : Snt} (h : Sm w ob M S N) {t : TK} {b : Nat} (ht : t.ok) (hm : M t = some b) : b < w.heap.size := by
  obtain ⟨D, h, _⟩ := h.inn t b ht hm
  exact h.lt
theorem row8_off1 {w w' : World} {a : Option Addr} {len cap r : Nat} {bs : Nat → Nat} (h : Row8 w a len cap bs) (q : Off [r] w w') (hl : ∀ (x : Addr) (v : Value), w.cell? x = some v → x.block ≠ r) : Row8 w' a len cap bs := by
  refine ⟨h.byte, h.nil, fun x hx i hi => ?_, h.le⟩
  have h1 := h.src x hx i hi
  have hlt := World.block_lt_of_cell? w _ h1
  have he : w'.heap[(x.add i).block]? = w.heap[(x.add i).block]? := q.block _ hlt (by simpa using hl _ _ h1)
  rw [← h1]
  unfold World.cell?
  rw [he]
theorem Sm.below {w w' : World} {ob N : Nat} {M : TK → Option Nat} {S : Snt} (h : Sm w ob M S N) (b : Below w.heap.size w w') : Sm w' ob M S N := h.off (l := []) (Off.of_below b) (by simp) (fun _ _ _ _ => by simp)
open Classical in
set_option maxHeartbeats 8000000 in
theorem gwas (jb ob N : Nat) (M : TK → Option Nat) (S : Snt) (by_ : Int) (f : Fa) (a : Option Addr) (cap : Nat) (w : World) (hj : w.cell? ⟨jb, 1, none⟩ = some (.map (some ob))) (h : Sm w ob M S N) (hr : Row8 w a f.n cap f.b) (ht : (TK.mk f.c by_ f.ss).ok) (hn : f.nn < 4294967296) (hx : f.x.size ≤ maxLen) :
    Calls Try.prog 38 #[.pointer (some ⟨jb, 0, none⟩), .int .i64 by_, .agg (faC f a cap)] w fun r w' => r = .returned (.bool (decide (S ⟨f.c, by_, f.ss⟩ f.nn f.x))) ∧ Below w.heap.size w w' := by
  have hI := fun wx hr => gitem wx f a cap hr
  unfold faC at hI
  unfold faC
  have b1 : Below w.heap.size w (w.alloc (.cells #[.int .i64 f.k, .int .i64 f.c, .int .i64 f.s, .int .u32 (f.ss : Nat), .int .u32 (f.nn : Nat), .bool f.on, .int .i64 f.cd, .slice a f.n cap] 43)) := (Below.refl _ _).alloc (Nat.le_refl _) _
  have hk : (w.alloc (.cells #[.int .i64 f.k, .int .i64 f.c, .int .i64 f.s, .int .u32 (f.ss : Nat), .int .u32 (f.nn : Nat), .bool f.on, .int .i64 f.cd, .slice a f.n cap] 43)).heap[w.heap.size]? = _ := heap_alloc_new w _
  have h1 := h.below b1
  have j1 := cell_belowJ hj b1
  have r1 := hr.below b1
  have HB : Hid (_) := b1
  obtain ⟨X, hX⟩ : ∃ X, f.x = X := ⟨_, rfl⟩
  obtain ⟨m, hm⟩ : ∃ m, M ⟨f.c, by_, f.ss⟩ = m := ⟨_, rfl⟩
  obtain ⟨is, his⟩ : ∃ b, decide (S ⟨f.c, by_, f.ss⟩ f.nn f.x) = b := ⟨_, rfl⟩
  rw [his]
  have hS : ∀ wx, Below (w.alloc (.cells #[.int .i64 f.k, .int .i64 f.c, .int .i64 f.s, .int .u32 (f.ss : Nat), .int .u32 (f.nn : Nat), .bool f.on, .int .i64 f.cd, .slice a f.n cap] 43)).heap.size (w.alloc (.cells #[.int .i64 f.k, .int .i64 f.c, .int .i64 f.s, .int .u32 (f.ss : Nat), .int .u32 (f.nn : Nat), .bool f.on, .int .i64 f.cd, .slice a f.n cap] 43)) wx → wx.cell? ⟨w.heap.size, 0, none⟩ = some (.int .i64 f.k) ∧ wx.cell? ⟨w.heap.size, 1, none⟩ = some (.int .i64 f.c) ∧ wx.cell? ⟨w.heap.size, 2, none⟩ = some (.int .i64 f.s) ∧ wx.cell? ⟨w.heap.size, 3, none⟩ = some (.int .u32 (f.ss : Nat)) ∧ wx.cell? ⟨w.heap.size, 4, none⟩ = some (.int .u32 (f.nn : Nat)) ∧ wx.cell? ⟨w.heap.size, 5, none⟩ = some (.bool f.on) ∧ wx.cell? ⟨w.heap.size, 6, none⟩ = some (.int .i64 f.cd) ∧ wx.cell? ⟨w.heap.size, 7, none⟩ = some (.slice a f.n cap) ∧ wx.cell? ⟨jb, 1, none⟩ = some (.map (some ob)) ∧ (Instr.lookup 56 (.map (some ob)) (.agg #[.int .i64 f.c, .int .i64 by_, .int .u32 (f.ss : Nat)]) false).run Try.prog wx = .ok (.map m) wx ∧ (Instr.lookup 95 (.map m) (.agg #[.int .u32 (f.nn : Nat), .string X]) true).run Try.prog wx = .ok (.tuple #[.agg #[], .bool is]) wx := fun wx bx => by
    have hq := (bx.block w.heap.size (Array.getElem?_eq_some_iff.1 hk).1).trans hk
    have s1 := (h1.below bx).look _ ht
    have s2 := (h1.below bx).look2 _ ht f.nn f.x hn hx
    rw [hm] at s1 s2
    rw [his, hX] at s2
    exact ⟨cell_of_row wx _ 0 _ _ _ hq, cell_of_row wx _ 1 _ _ _ hq, cell_of_row wx _ 2 _ _ _ hq, cell_of_row wx _ 3 _ _ _ hq, cell_of_row wx _ 4 _ _ _ hq, cell_of_row wx _ 5 _ _ _ hq, cell_of_row wx _ 6 _ _ _ hq, cell_of_row wx _ 7 _ _ _ hq, cell_belowJ j1 bx, s1, s2⟩
  have hI2 : ∀ wx, Below (w.alloc (.cells #[.int .i64 f.k, .int .i64 f.c, .int .i64 f.s, .int .u32 (f.ss : Nat), .int .u32 (f.nn : Nat), .bool f.on, .int .i64 f.cd, .slice a f.n cap] 43)).heap.size (w.alloc (.cells #[.int .i64 f.k, .int .i64 f.c, .int .i64 f.s, .int .u32 (f.ss : Nat), .int .u32 (f.nn : Nat), .bool f.on, .int .i64 f.cd, .slice a f.n cap] 43)) wx → Calls Try.prog 45 #[.agg #[.int .i64 f.k, .int .i64 f.c, .int .i64 f.s, .int .u32 (f.ss : Nat), .int .u32 (f.nn : Nat), .bool f.on, .int .i64 f.cd, .slice a f.n cap]] wx fun r w' => r = .returned (.agg #[.int .u32 (f.nn : Nat), .string X]) ∧ Below (w.alloc (.cells #[.int .i64 f.k, .int .i64 f.c, .int .i64 f.s, .int .u32 (f.ss : Nat), .int .u32 (f.nn : Nat), .bool f.on, .int .i64 f.cd, .slice a f.n cap] 43)).heap.size (w.alloc (.cells #[.int .i64 f.k, .int .i64 f.c, .int .i64 f.s, .int .u32 (f.ss : Nat), .int .u32 (f.nn : Nat), .bool f.on, .int .i64 f.cd, .slice a f.n cap] 43)) w' := fun wx bx => by
    have := hI wx (r1.below bx)
    rw [hX] at this
    exact this.mono fun _ _ ⟨e, b⟩ => ⟨e, bx.trans (b.mono bx.size)⟩
  have HS := hS _ (Below.drew (Below.refl _ _))
  clear hI h1 j1 r1 hj h hr ht hn hx hm his hX b1 hk
  go_enter Try.func38, Try.ntmps38
  go_wp2_with fail
  go_region_held3 (fun wx => wx.cell? ⟨w.heap.size, 0, none⟩ = some (.int .i64 f.k) ∧ wx.cell? ⟨w.heap.size, 1, none⟩ = some (.int .i64 f.c) ∧ wx.cell? ⟨w.heap.size, 2, none⟩ = some (.int .i64 f.s) ∧ wx.cell? ⟨w.heap.size, 3, none⟩ = some (.int .u32 (f.ss : Nat)) ∧ wx.cell? ⟨w.heap.size, 4, none⟩ = some (.int .u32 (f.nn : Nat)) ∧ wx.cell? ⟨w.heap.size, 5, none⟩ = some (.bool f.on) ∧ wx.cell? ⟨w.heap.size, 6, none⟩ = some (.int .i64 f.cd) ∧ wx.cell? ⟨w.heap.size, 7, none⟩ = some (.slice a f.n cap) ∧ wx.cell? ⟨jb, 1, none⟩ = some (.map (some ob)) ∧ (Instr.lookup 56 (.map (some ob)) (.agg #[.int .i64 f.c, .int .i64 by_, .int .u32 (f.ss : Nat)]) false).run Try.prog wx = .ok (.map m) wx ∧ (Instr.lookup 95 (.map m) (.agg #[.int .u32 (f.nn : Nat), .string X]) true).run Try.prog wx = .ok (.tuple #[.agg #[], .bool is]) wx) (first | with_reducible assumption | exact hS _ (by repeat (first | with_reducible assumption | with_reducible exact Below.refl _ _ | with_reducible refine belowN ?_ _ | with_reducible refine Below.drew ?_ | with_reducible refine belowG ?_ _))) (first
    | (go_at_call 45; refine (hI2 _ (by repeat (first | with_reducible assumption | with_reducible exact Below.refl _ _ | with_reducible refine belowN ?_ _ | with_reducible refine Below.drew ?_ | with_reducible refine belowG ?_ _))).mono ?_; rintro r w2 ⟨rfl, b2⟩))
  all_goals
    clear hI2 hS HS
    go_wp2_with fail
    go_ret
    refine ⟨rfl, HB.out.trans (Below.mono (B := _) ?_ HB.out.size)⟩
    first | exact (by repeat (first | with_reducible assumption | with_reducible exact Below.refl _ _ | with_reducible refine belowN ?_ _ | with_reducible refine Below.drew ?_ | with_reducible refine belowG ?_ _)) | trace_state
open Classical in
set_option maxHeartbeats 8000000 in
theorem gkeep (jb ob N : Nat) (M : TK → Option Nat) (S : Snt) (f : Fa) (a : Option Addr) (cap : Nat) (w : World) (hj : w.cell? ⟨jb, 1, none⟩ = some (.map (some ob))) (h : Sm w ob M S N) (hN : N + 1 < maxLen) (hr : Row8 w a f.n cap f.b) (ht : (TK.mk f.c f.s f.ss).ok) (hn : f.nn < 4294967296) (hx : f.x.size ≤ maxLen) :
    Calls Try.prog 28 #[.pointer (some ⟨jb, 0, none⟩), .agg (faC f a cap)] w fun r w' => r = .returned (.tuple #[]) ∧ Hid (∃ M', (∀ t b, t.ok → M' t = some b → M t = some b ∨ w.heap.size ≤ b) ∧ (∀ l, ob ∈ l → (∀ t b, t.ok → M t = some b → b ∈ l) → Off l w w') ∧ Sm w' ob M' (fun t n x => S t n x ∨ (t = ⟨f.c, f.s, f.ss⟩ ∧ n = f.nn ∧ x = f.x)) (N + 2)) := by
  have hI := fun wx hr => gitem wx f a cap hr
  unfold faC at hI
  unfold faC
  have b1 : Below w.heap.size w (w.alloc (.cells #[.int .i64 f.k, .int .i64 f.c, .int .i64 f.s, .int .u32 (f.ss : Nat), .int .u32 (f.nn : Nat), .bool f.on, .int .i64 f.cd, .slice a f.n cap] 43)) := (Below.refl _ _).alloc (Nat.le_refl _) _
  have b2 : Below w.heap.size w ((w.alloc (.cells #[.int .i64 f.k, .int .i64 f.c, .int .i64 f.s, .int .u32 (f.ss : Nat), .int .u32 (f.nn : Nat), .bool f.on, .int .i64 f.cd, .slice a f.n cap] 43)).alloc (.cells #[.int .i64 f.c, .int .i64 f.s, .int .u32 (f.ss : Nat)] 83)) := belowG b1 _
  have hk : ((w.alloc (.cells #[.int .i64 f.k, .int .i64 f.c, .int .i64 f.s, .int .u32 (f.ss : Nat), .int .u32 (f.nn : Nat), .bool f.on, .int .i64 f.cd, .slice a f.n cap] 43)).alloc (.cells #[.int .i64 f.c, .int .i64 f.s, .int .u32 (f.ss : Nat)] 83)).heap[w.heap.size]? = some (.cells #[.int .i64 f.k, .int .i64 f.c, .int .i64 f.s, .int .u32 (f.ss : Nat), .int .u32 (f.nn : Nat), .bool f.on, .int .i64 f.cd, .slice a f.n cap] 43 (0, 0)) := (((Below.refl _ _).alloc (Nat.le_refl _) (.cells #[.int .i64 f.c, .int .i64 f.s, .int .u32 (f.ss : Nat)] 83)).block w.heap.size (by simp)).trans (heap_alloc_new w _)
  have hk2 : ((w.alloc (.cells #[.int .i64 f.k, .int .i64 f.c, .int .i64 f.s, .int .u32 (f.ss : Nat), .int .u32 (f.nn : Nat), .bool f.on, .int .i64 f.cd, .slice a f.n cap] 43)).alloc (.cells #[.int .i64 f.c, .int .i64 f.s, .int .u32 (f.ss : Nat)] 83)).heap[w.heap.size + 1]? = some (.cells #[.int .i64 f.c, .int .i64 f.s, .int .u32 (f.ss : Nat)] 83 (0, 0)) := by
    have := heap_alloc_new (w.alloc (.cells #[.int .i64 f.k, .int .i64 f.c, .int .i64 f.s, .int .u32 (f.ss : Nat), .int .u32 (f.nn : Nat), .bool f.on, .int .i64 f.cd, .slice a f.n cap] 43)) (.cells #[.int .i64 f.c, .int .i64 f.s, .int .u32 (f.ss : Nat)] 83)
    simpa using this
  have h2 := h.below b2
  have j2 := cell_belowJ hj b2
  have r2 := hr.below b2
  have HB : Hid (_) := b2
  obtain ⟨X, hX⟩ : ∃ X, f.x = X := ⟨_, rfl⟩
  obtain ⟨m, hm⟩ : ∃ m, M ⟨f.c, f.s, f.ss⟩ = m := ⟨_, rfl⟩
  have HP : Hid (_) := And.intro h (And.intro ht (And.intro hn (And.intro hx (And.intro hX (And.intro hm (And.intro hN hj))))))
  clear hj h hr hn hx hX hN b1 b2
  go_enter Try.func28, Try.ntmps28
  go_wp2_with fail
  generalize hw2 : ((w.alloc (.cells #[.int .i64 f.k, .int .i64 f.c, .int .i64 f.s, .int .u32 (f.ss : Nat), .int .u32 (f.nn : Nat), .bool f.on, .int .i64 f.cd, .slice a f.n cap] 43)).alloc (.cells #[.int .i64 f.c, .int .i64 f.s, .int .u32 (f.ss : Nat)] 83)) = w2 at *
  have hS : ∀ wx, Below w2.heap.size w2 wx → wx.cell? ⟨w.heap.size + 1, 0, none⟩ = some (.int .i64 f.c) ∧ wx.cell? ⟨w.heap.size + 1, 1, none⟩ = some (.int .i64 f.s) ∧ wx.cell? ⟨w.heap.size + 1, 2, none⟩ = some (.int .u32 (f.ss : Nat)) ∧ wx.cell? ⟨jb, 1, none⟩ = some (.map (some ob)) ∧ (Instr.lookup 56 (.map (some ob)) (.agg #[.int .i64 f.c, .int .i64 f.s, .int .u32 (f.ss : Nat)]) false).run Try.prog wx = .ok (.map m) wx := fun wx bx => by
    have hq := (bx.block (w.heap.size + 1) (Array.getElem?_eq_some_iff.1 hk2).1).trans hk2
    have s1 := (h2.below bx).look _ ht
    rw [hm] at s1
    exact ⟨cell_of_row wx _ 0 _ _ _ hq, cell_of_row wx _ 1 _ _ _ hq, cell_of_row wx _ 2 _ _ _ hq, cell_belowJ j2 bx, s1⟩
  have HS := hS _ (Below.drew (Below.refl _ _))
  have HR : Hid (_) := And.intro r2 (And.intro h2 (And.intro j2 (And.intro hk hk2)))
  clear hm r2 h2 j2 hk hk2
  cases m with
  | none =>
    have e0 := inn_nil
    go_region_held3 (fun wx => wx.cell? ⟨w.heap.size + 1, 0, none⟩ = some (.int .i64 f.c) ∧ wx.cell? ⟨w.heap.size + 1, 1, none⟩ = some (.int .i64 f.s) ∧ wx.cell? ⟨w.heap.size + 1, 2, none⟩ = some (.int .u32 (f.ss : Nat)) ∧ wx.cell? ⟨jb, 1, none⟩ = some (.map (some ob)) ∧ (Instr.lookup 56 (.map (some ob)) (.agg #[.int .i64 f.c, .int .i64 f.s, .int .u32 (f.ss : Nat)]) false).run Try.prog wx = .ok (.map none) wx) (first | with_reducible assumption | exact hS _ (by repeat (first | with_reducible assumption | with_reducible exact Below.refl _ _ | with_reducible refine belowN ?_ _ | with_reducible refine Below.drew ?_ | with_reducible refine belowG ?_ _))) (fail)
    have hjo : jb ≠ ob := HR.out.2.1.nob HR.out.2.2.1
    have bA : Below w2.heap.size w2 (w2.alloc (.map #[] 0)).drew.drew := Below.drew (Below.drew (belowG (Below.refl _ _) _))
    have hnb : (w2.alloc (.map #[] 0)).drew.drew.heap[w2.heap.size]? = some (.map #[] 0) := (MapKept.heap_alloc w2 (.map #[] 0)).1
    have hU : ∃ w', (Instr.mapUpdate 56 (.map (some ob)) (.agg #[.int .i64 f.c, .int .i64 f.s, .int .u32 (f.ss : Nat)]) (.map (some w2.heap.size))).run Try.prog (w2.alloc (.map #[] 0)).drew.drew = .ok () w' ∧ Hid (Off [ob] (w2.alloc (.map #[] 0)).drew.drew w' ∧ Sm w' ob (fun t => if t = ⟨f.c, f.s, f.ss⟩ then some w2.heap.size else M t) S (N + 1)) := by
      exact (HR.out.2.1.below bA).new_ (by have := HP.out.2.2.2.2.2.2.1; omega) _ ht HP.out.2.2.2.2.2.1 w2.heap.size hnb (fun t b ht hm => by have := HR.out.2.1.lt1 ht hm; omega) (by have := HR.out.2.1.lt0; omega)
    have hT : ∀ wx, Below w2.heap.size w2 wx → wx.cell? ⟨w.heap.size + 1, 0, none⟩ = some (.int .i64 f.c) ∧ wx.cell? ⟨w.heap.size + 1, 1, none⟩ = some (.int .i64 f.s) ∧ wx.cell? ⟨w.heap.size + 1, 2, none⟩ = some (.int .u32 (f.ss : Nat)) ∧ wx.cell? ⟨jb, 1, none⟩ = some (.map (some ob)) := fun wx bx => by
      obtain ⟨t0, t1, t2, t3, _⟩ := hS wx bx
      exact ⟨t0, t1, t2, t3⟩
    have HT0 := hT _ (Below.drew (Below.drew (Below.refl _ _)))
    have hmk : ∀ w : World, (Instr.makeMap 95 none).run Try.prog w = .ok (.map (some w.heap.size)) (w.alloc (.map #[] 0)) := fun w => rfl
    obtain ⟨w5, hrun5, H5⟩ := hU
    have T5 : w5.cell? ⟨w.heap.size + 1, 0, none⟩ = some (.int .i64 f.c) ∧ w5.cell? ⟨w.heap.size + 1, 1, none⟩ = some (.int .i64 f.s) ∧ w5.cell? ⟨w.heap.size + 1, 2, none⟩ = some (.int .u32 (f.ss : Nat)) ∧ w5.cell? ⟨jb, 1, none⟩ = some (.map (some ob)) := by
      obtain ⟨o5, _⟩ := H5.out
      obtain ⟨r2, h2, j2, k1, k2⟩ := HR.out
      have l2 := (Array.getElem?_eq_some_iff.1 k2).1
      have l0 := HP.out.1.lt0
      have hq2 := (o5.block (w.heap.size + 1) (Nat.lt_of_lt_of_le l2 bA.size) (by simp; omega)).trans ((bA.block _ l2).trans k2)
      have l3 := World.block_lt_of_cell? _ _ j2
      have hq3 := (World.cell?_of_block (a := ⟨jb, 1, none⟩) (o5.block jb (Nat.lt_of_lt_of_le l3 bA.size) (by simpa using hjo))).trans (cell_belowJ j2 bA)
      exact ⟨cell_of_row w5 _ 0 _ _ _ hq2, cell_of_row w5 _ 1 _ _ _ hq2, cell_of_row w5 _ 2 _ _ _ hq2, hq3⟩
    go_wp2_with fail
    go_region_held3 (fun wx => wx.cell? ⟨w.heap.size + 1, 0, none⟩ = some (.int .i64 f.c) ∧ wx.cell? ⟨w.heap.size + 1, 1, none⟩ = some (.int .i64 f.s) ∧ wx.cell? ⟨w.heap.size + 1, 2, none⟩ = some (.int .u32 (f.ss : Nat)) ∧ wx.cell? ⟨jb, 1, none⟩ = some (.map (some ob))) (first | with_reducible assumption | exact hT _ (by repeat (first | with_reducible assumption | with_reducible exact Below.refl _ _ | with_reducible refine belowN ?_ _ | with_reducible refine Below.drew ?_ | with_reducible refine belowG ?_ _))) (first
      | fail)
    all_goals
      have HW5 : Hid (Sm w5 ob (fun t => if t = ⟨f.c, f.s, f.ss⟩ then some w2.heap.size else M t) S (N + 1) ∧ (fun t => if t = ⟨f.c, f.s, f.ss⟩ then some w2.heap.size else M t) ⟨f.c, f.s, f.ss⟩ = some w2.heap.size) := ⟨H5.out.2, if_pos rfl⟩
      have HC5 : Hid (w5.heap[w.heap.size]? = some (.cells #[.int .i64 f.k, .int .i64 f.c, .int .i64 f.s, .int .u32 (f.ss : Nat), .int .u32 (f.nn : Nat), .bool f.on, .int .i64 f.cd, .slice a f.n cap] 43 (0, 0)) ∧ w5.heap[w.heap.size + 1]? = some (.cells #[.int .i64 f.c, .int .i64 f.s, .int .u32 (f.ss : Nat)] 83 (0, 0)) ∧ w5.cell? ⟨jb, 1, none⟩ = some (.map (some ob))) := by
        obtain ⟨o5, _⟩ := H5.out
        obtain ⟨r2, h2, j2, k1, k2⟩ := HR.out
        have l1 := (Array.getElem?_eq_some_iff.1 k1).1
        have l2 := (Array.getElem?_eq_some_iff.1 k2).1
        have l0 := HP.out.1.lt0
        exact ⟨(o5.block _ (Nat.lt_of_lt_of_le l1 bA.size) (by simp; omega)).trans ((bA.block _ l1).trans k1), (o5.block _ (Nat.lt_of_lt_of_le l2 bA.size) (by simp; omega)).trans ((bA.block _ l2).trans k2), T5.2.2.2⟩
      have HR5 : Hid (Row8 w5 a f.n cap f.b) := row8_off1 (HR.out.1.below bA) H5.out.1 (fun x v hc => (HR.out.2.1.below bA).nob hc)
      have HD5 : Hid (w.heap.size ≠ w2.heap.size ∧ w.heap.size + 1 ≠ w2.heap.size ∧ jb ≠ w2.heap.size) := by
        have l2 := (Array.getElem?_eq_some_iff.1 HR.out.2.2.2.2).1
        have l3 := World.block_lt_of_cell? _ _ HR.out.2.2.1
        exact ⟨by omega, by omega, by simp at l3; omega⟩
      have HA : Hid (_) := bA
      clear hS HS hT HT0 T5 hmk hrun5 bA hnb hjo
      have hS4 : ∀ wx, Below w5.heap.size w5 wx → wx.cell? ⟨w.heap.size, 0, none⟩ = some (.int .i64 f.k) ∧ wx.cell? ⟨w.heap.size, 1, none⟩ = some (.int .i64 f.c) ∧ wx.cell? ⟨w.heap.size, 2, none⟩ = some (.int .i64 f.s) ∧ wx.cell? ⟨w.heap.size, 3, none⟩ = some (.int .u32 (f.ss : Nat)) ∧ wx.cell? ⟨w.heap.size, 4, none⟩ = some (.int .u32 (f.nn : Nat)) ∧ wx.cell? ⟨w.heap.size, 5, none⟩ = some (.bool f.on) ∧ wx.cell? ⟨w.heap.size, 6, none⟩ = some (.int .i64 f.cd) ∧ wx.cell? ⟨w.heap.size, 7, none⟩ = some (.slice a f.n cap) ∧ wx.cell? ⟨w.heap.size + 1, 0, none⟩ = some (.int .i64 f.c) ∧ wx.cell? ⟨w.heap.size + 1, 1, none⟩ = some (.int .i64 f.s) ∧ wx.cell? ⟨w.heap.size + 1, 2, none⟩ = some (.int .u32 (f.ss : Nat)) ∧ wx.cell? ⟨jb, 1, none⟩ = some (.map (some ob)) ∧ (Instr.lookup 56 (.map (some ob)) (.agg #[.int .i64 f.c, .int .i64 f.s, .int .u32 (f.ss : Nat)]) false).run Try.prog wx = .ok (.map (some w2.heap.size)) wx := fun wx bx => by
        obtain ⟨k1, k2, k3⟩ := HC5.out
        have hq := (bx.block w.heap.size (Array.getElem?_eq_some_iff.1 k1).1).trans k1
        have hq2 := (bx.block (w.heap.size + 1) (Array.getElem?_eq_some_iff.1 k2).1).trans k2
        have s1 := (HW5.out.1.below bx).look _ ht
        rw [if_pos rfl] at s1
        exact ⟨cell_of_row wx _ 0 _ _ _ hq, cell_of_row wx _ 1 _ _ _ hq, cell_of_row wx _ 2 _ _ _ hq, cell_of_row wx _ 3 _ _ _ hq, cell_of_row wx _ 4 _ _ _ hq, cell_of_row wx _ 5 _ _ _ hq, cell_of_row wx _ 6 _ _ _ hq, cell_of_row wx _ 7 _ _ _ hq, cell_of_row wx _ 0 _ _ _ hq2, cell_of_row wx _ 1 _ _ _ hq2, cell_of_row wx _ 2 _ _ _ hq2, cell_belowJ k3 bx, s1⟩
      have hV : ∀ wx, Below w5.heap.size w5 wx → ∃ w', (Instr.mapUpdate 95 (.map (some w2.heap.size)) (.agg #[.int .u32 (f.nn : Nat), .string X]) (.agg #[])).run Try.prog wx = .ok () w' ∧ Hid (Off [w2.heap.size] wx w' ∧ Sm w' ob (fun t => if t = ⟨f.c, f.s, f.ss⟩ then some w2.heap.size else M t) (fun t n x => S t n x ∨ (t = ⟨f.c, f.s, f.ss⟩ ∧ n = f.nn ∧ x = X)) (N + 1 + 1)) := fun wx bx => by
        obtain ⟨h, ht, hn, hx, hX, hm, hN, hj⟩ := HP.out
        rw [hX] at hx
        exact (HW5.out.1.below bx).add (by omega) _ ht w2.heap.size HW5.out.2 f.nn X hn hx
      have hI4 : ∀ wx, Below w5.heap.size w5 wx → Calls Try.prog 45 #[.agg #[.int .i64 f.k, .int .i64 f.c, .int .i64 f.s, .int .u32 (f.ss : Nat), .int .u32 (f.nn : Nat), .bool f.on, .int .i64 f.cd, .slice a f.n cap]] wx fun r w' => r = .returned (.agg #[.int .u32 (f.nn : Nat), .string X]) ∧ Below w5.heap.size w5 w' := fun wx bx => by
        have := hI wx (HR5.out.below bx)
        rw [HP.out.2.2.2.2.1] at this
        exact this.mono fun _ _ ⟨e, b⟩ => ⟨e, bx.trans (b.mono bx.size)⟩
      have HS4 := hS4 _ (Below.drew (Below.refl _ _))
      have hT7 : ∀ wx w', Below w5.heap.size w5 wx → Off [w2.heap.size] wx w' → Sm w' ob (fun t => if t = ⟨f.c, f.s, f.ss⟩ then some w2.heap.size else M t) (fun t n x => S t n x ∨ (t = ⟨f.c, f.s, f.ss⟩ ∧ n = f.nn ∧ x = X)) (N + 1 + 1) → w'.cell? ⟨w.heap.size, 0, none⟩ = some (.int .i64 f.k) ∧ w'.cell? ⟨w.heap.size, 1, none⟩ = some (.int .i64 f.c) ∧ w'.cell? ⟨w.heap.size, 2, none⟩ = some (.int .i64 f.s) ∧ w'.cell? ⟨w.heap.size, 3, none⟩ = some (.int .u32 (f.ss : Nat)) ∧ w'.cell? ⟨w.heap.size, 4, none⟩ = some (.int .u32 (f.nn : Nat)) ∧ w'.cell? ⟨w.heap.size, 5, none⟩ = some (.bool f.on) ∧ w'.cell? ⟨w.heap.size, 6, none⟩ = some (.int .i64 f.cd) ∧ w'.cell? ⟨w.heap.size, 7, none⟩ = some (.slice a f.n cap) ∧ w'.cell? ⟨w.heap.size + 1, 0, none⟩ = some (.int .i64 f.c) ∧ w'.cell? ⟨w.heap.size + 1, 1, none⟩ = some (.int .i64 f.s) ∧ w'.cell? ⟨w.heap.size + 1, 2, none⟩ = some (.int .u32 (f.ss : Nat)) ∧ w'.cell? ⟨jb, 1, none⟩ = some (.map (some ob)) ∧ (Instr.lookup 56 (.map (some ob)) (.agg #[.int .i64 f.c, .int .i64 f.s, .int .u32 (f.ss : Nat)]) false).run Try.prog w' = .ok (.map (some w2.heap.size)) w' := fun wx w' bx o h7 => by
        obtain ⟨k1, k2, k3⟩ := HC5.out
        have l1 := (Array.getElem?_eq_some_iff.1 k1).1
        have l2 := (Array.getElem?_eq_some_iff.1 k2).1
        have hq := (o.block w.heap.size (Nat.lt_of_lt_of_le l1 bx.size) (by simpa using HD5.out.1)).trans ((bx.block w.heap.size l1).trans k1)
        have hq2 := (o.block (w.heap.size + 1) (Nat.lt_of_lt_of_le l2 bx.size) (by simpa using HD5.out.2.1)).trans ((bx.block (w.heap.size + 1) l2).trans k2)
        have s1 := h7.look _ ht
        rw [if_pos rfl] at s1
        have l3 := World.block_lt_of_cell? _ _ k3
        have hq3 := (World.cell?_of_block (a := ⟨jb, 1, none⟩) (o.block jb (Nat.lt_of_lt_of_le l3 bx.size) (by simpa using HD5.out.2.2))).trans (cell_belowJ k3 bx)
        exact ⟨cell_of_row w' _ 0 _ _ _ hq, cell_of_row w' _ 1 _ _ _ hq, cell_of_row w' _ 2 _ _ _ hq, cell_of_row w' _ 3 _ _ _ hq, cell_of_row w' _ 4 _ _ _ hq, cell_of_row w' _ 5 _ _ _ hq, cell_of_row w' _ 6 _ _ _ hq, cell_of_row w' _ 7 _ _ _ hq, cell_of_row w' _ 0 _ _ _ hq2, cell_of_row w' _ 1 _ _ _ hq2, cell_of_row w' _ 2 _ _ _ hq2, hq3, s1⟩
      have HT7 : Hid (_) := hT7
      clear hI hT7
      go_wp2_with fail
      go_region_held3 (fun wx => wx.cell? ⟨w.heap.size, 0, none⟩ = some (.int .i64 f.k) ∧ wx.cell? ⟨w.heap.size, 1, none⟩ = some (.int .i64 f.c) ∧ wx.cell? ⟨w.heap.size, 2, none⟩ = some (.int .i64 f.s) ∧ wx.cell? ⟨w.heap.size, 3, none⟩ = some (.int .u32 (f.ss : Nat)) ∧ wx.cell? ⟨w.heap.size, 4, none⟩ = some (.int .u32 (f.nn : Nat)) ∧ wx.cell? ⟨w.heap.size, 5, none⟩ = some (.bool f.on) ∧ wx.cell? ⟨w.heap.size, 6, none⟩ = some (.int .i64 f.cd) ∧ wx.cell? ⟨w.heap.size, 7, none⟩ = some (.slice a f.n cap) ∧ wx.cell? ⟨w.heap.size + 1, 0, none⟩ = some (.int .i64 f.c) ∧ wx.cell? ⟨w.heap.size + 1, 1, none⟩ = some (.int .i64 f.s) ∧ wx.cell? ⟨w.heap.size + 1, 2, none⟩ = some (.int .u32 (f.ss : Nat)) ∧ wx.cell? ⟨jb, 1, none⟩ = some (.map (some ob)) ∧ (Instr.lookup 56 (.map (some ob)) (.agg #[.int .i64 f.c, .int .i64 f.s, .int .u32 (f.ss : Nat)]) false).run Try.prog wx = .ok (.map (some w2.heap.size)) wx) (first | with_reducible assumption | exact hS4 _ (by repeat (first | with_reducible assumption | with_reducible exact Below.refl _ _ | with_reducible refine belowN ?_ _ | with_reducible refine Below.drew ?_ | with_reducible refine belowG ?_ _))) (first
        | (go_at_call 45; refine (hI4 _ (by repeat (first | with_reducible assumption | with_reducible exact Below.refl _ _ | with_reducible refine belowN ?_ _ | with_reducible refine Below.drew ?_ | with_reducible refine belowG ?_ _))).mono ?_; rintro r w6 ⟨rfl, b6⟩; obtain ⟨w7, hrun7, H7⟩ := hV _ b6; have T7 := HT7.out _ w7 b6 H7.out.1 H7.out.2))
      all_goals
        clear hS4 hI4 HS4 T7
        go_wp2_with fail
        go_end0
        refine ⟨rfl, ?_⟩
        rw [HP.out.2.2.2.2.1]
        refine ⟨(fun t => if t = ⟨f.c, f.s, f.ss⟩ then some w2.heap.size else M t), fun t b ht2 hm => ?_, fun l h0 hl => ?_, H7.out.2⟩
        · have hm2 : (if t = ⟨f.c, f.s, f.ss⟩ then some w2.heap.size else M t) = some b := hm
          split at hm2
          · cases hm2; exact .inr HB.out.size
          · exact .inl hm2
        · have o1 : Off l w w6 := ((Off.of_below HB.out).trans ((Off.of_below HA.out).trans (H5.out.1.more (fun k hk => by simp at hk; subst hk; exact h0)))).trans (Off.of_below b6)
          have o2 : Off (w2.heap.size :: l) w w7 := (o1.more (fun k hk => by simp [hk])).trans (H7.out.1.more (fun k hk => by simp at hk; subst hk; simp))
          exact o2.only (fun k hk hlt => by
            rcases List.mem_cons.1 hk with rfl | h
            · have := HB.out.size; omega
            · exact h)
  | some b0 =>
    have e0 := inn_ne b0
    go_region_held3 (fun wx => wx.cell? ⟨w.heap.size + 1, 0, none⟩ = some (.int .i64 f.c) ∧ wx.cell? ⟨w.heap.size + 1, 1, none⟩ = some (.int .i64 f.s) ∧ wx.cell? ⟨w.heap.size + 1, 2, none⟩ = some (.int .u32 (f.ss : Nat)) ∧ wx.cell? ⟨jb, 1, none⟩ = some (.map (some ob)) ∧ (Instr.lookup 56 (.map (some ob)) (.agg #[.int .i64 f.c, .int .i64 f.s, .int .u32 (f.ss : Nat)]) false).run Try.prog wx = .ok (.map (some b0)) wx) (first | with_reducible assumption | exact hS _ (by repeat (first | with_reducible assumption | with_reducible exact Below.refl _ _ | with_reducible refine belowN ?_ _ | with_reducible refine Below.drew ?_ | with_reducible refine belowG ?_ _))) (fail)
    have HW5 : Hid (Sm w2.drew ob M S N ∧ M ⟨f.c, f.s, f.ss⟩ = some b0) := ⟨HR.out.2.1.below (Below.drew (Below.refl _ _)), HP.out.2.2.2.2.2.1⟩
    have HC5 : Hid (w2.drew.heap[w.heap.size]? = some (.cells #[.int .i64 f.k, .int .i64 f.c, .int .i64 f.s, .int .u32 (f.ss : Nat), .int .u32 (f.nn : Nat), .bool f.on, .int .i64 f.cd, .slice a f.n cap] 43 (0, 0)) ∧ w2.drew.heap[w.heap.size + 1]? = some (.cells #[.int .i64 f.c, .int .i64 f.s, .int .u32 (f.ss : Nat)] 83 (0, 0)) ∧ w2.drew.cell? ⟨jb, 1, none⟩ = some (.map (some ob))) := ⟨HR.out.2.2.2.1, HR.out.2.2.2.2, HR.out.2.2.1⟩
    have HR5 : Hid (Row8 w2.drew a f.n cap f.b) := HR.out.1.below (Below.drew (Below.refl _ _))
    have HD5 : Hid (w.heap.size ≠ b0 ∧ w.heap.size + 1 ≠ b0 ∧ jb ≠ b0) := by
      have l := HP.out.1.lt1 ht HP.out.2.2.2.2.2.1
      exact ⟨by omega, by omega, HR.out.2.1.nin ht HP.out.2.2.2.2.2.1 HR.out.2.2.1⟩
    clear hS HS
    have hS4 : ∀ wx, Below w2.drew.heap.size w2.drew wx → wx.cell? ⟨w.heap.size, 0, none⟩ = some (.int .i64 f.k) ∧ wx.cell? ⟨w.heap.size, 1, none⟩ = some (.int .i64 f.c) ∧ wx.cell? ⟨w.heap.size, 2, none⟩ = some (.int .i64 f.s) ∧ wx.cell? ⟨w.heap.size, 3, none⟩ = some (.int .u32 (f.ss : Nat)) ∧ wx.cell? ⟨w.heap.size, 4, none⟩ = some (.int .u32 (f.nn : Nat)) ∧ wx.cell? ⟨w.heap.size, 5, none⟩ = some (.bool f.on) ∧ wx.cell? ⟨w.heap.size, 6, none⟩ = some (.int .i64 f.cd) ∧ wx.cell? ⟨w.heap.size, 7, none⟩ = some (.slice a f.n cap) ∧ wx.cell? ⟨w.heap.size + 1, 0, none⟩ = some (.int .i64 f.c) ∧ wx.cell? ⟨w.heap.size + 1, 1, none⟩ = some (.int .i64 f.s) ∧ wx.cell? ⟨w.heap.size + 1, 2, none⟩ = some (.int .u32 (f.ss : Nat)) ∧ wx.cell? ⟨jb, 1, none⟩ = some (.map (some ob)) ∧ (Instr.lookup 56 (.map (some ob)) (.agg #[.int .i64 f.c, .int .i64 f.s, .int .u32 (f.ss : Nat)]) false).run Try.prog wx = .ok (.map (some b0)) wx := fun wx bx => by
      obtain ⟨k1, k2, k3⟩ := HC5.out
      have hq := (bx.block w.heap.size (Array.getElem?_eq_some_iff.1 k1).1).trans k1
      have hq2 := (bx.block (w.heap.size + 1) (Array.getElem?_eq_some_iff.1 k2).1).trans k2
      have s1 := (HW5.out.1.below bx).look _ ht
      rw [HW5.out.2] at s1
      exact ⟨cell_of_row wx _ 0 _ _ _ hq, cell_of_row wx _ 1 _ _ _ hq, cell_of_row wx _ 2 _ _ _ hq, cell_of_row wx _ 3 _ _ _ hq, cell_of_row wx _ 4 _ _ _ hq, cell_of_row wx _ 5 _ _ _ hq, cell_of_row wx _ 6 _ _ _ hq, cell_of_row wx _ 7 _ _ _ hq, cell_of_row wx _ 0 _ _ _ hq2, cell_of_row wx _ 1 _ _ _ hq2, cell_of_row wx _ 2 _ _ _ hq2, cell_belowJ k3 bx, s1⟩
    have hV : ∀ wx, Below w2.drew.heap.size w2.drew wx → ∃ w', (Instr.mapUpdate 95 (.map (some b0)) (.agg #[.int .u32 (f.nn : Nat), .string X]) (.agg #[])).run Try.prog wx = .ok () w' ∧ Hid (Off [b0] wx w' ∧ Sm w' ob M (fun t n x => S t n x ∨ (t = ⟨f.c, f.s, f.ss⟩ ∧ n = f.nn ∧ x = X)) (N + 1)) := fun wx bx => by
      obtain ⟨h, ht, hn, hx, hX, hm, hN, hj⟩ := HP.out
      rw [hX] at hx
      exact (HW5.out.1.below bx).add (by omega) _ ht b0 HW5.out.2 f.nn X hn hx
    have hI4 : ∀ wx, Below w2.drew.heap.size w2.drew wx → Calls Try.prog 45 #[.agg #[.int .i64 f.k, .int .i64 f.c, .int .i64 f.s, .int .u32 (f.ss : Nat), .int .u32 (f.nn : Nat), .bool f.on, .int .i64 f.cd, .slice a f.n cap]] wx fun r w' => r = .returned (.agg #[.int .u32 (f.nn : Nat), .string X]) ∧ Below w2.drew.heap.size w2.drew w' := fun wx bx => by
      have := hI wx (HR5.out.below bx)
      rw [HP.out.2.2.2.2.1] at this
      exact this.mono fun _ _ ⟨e, b⟩ => ⟨e, bx.trans (b.mono bx.size)⟩
    have HS4 := hS4 _ (Below.drew (Below.refl _ _))
    have hT7 : ∀ wx w', Below w2.drew.heap.size w2.drew wx → Off [b0] wx w' → Sm w' ob M (fun t n x => S t n x ∨ (t = ⟨f.c, f.s, f.ss⟩ ∧ n = f.nn ∧ x = X)) (N + 1) → w'.cell? ⟨w.heap.size, 0, none⟩ = some (.int .i64 f.k) ∧ w'.cell? ⟨w.heap.size, 1, none⟩ = some (.int .i64 f.c) ∧ w'.cell? ⟨w.heap.size, 2, none⟩ = some (.int .i64 f.s) ∧ w'.cell? ⟨w.heap.size, 3, none⟩ = some (.int .u32 (f.ss : Nat)) ∧ w'.cell? ⟨w.heap.size, 4, none⟩ = some (.int .u32 (f.nn : Nat)) ∧ w'.cell? ⟨w.heap.size, 5, none⟩ = some (.bool f.on) ∧ w'.cell? ⟨w.heap.size, 6, none⟩ = some (.int .i64 f.cd) ∧ w'.cell? ⟨w.heap.size, 7, none⟩ = some (.slice a f.n cap) ∧ w'.cell? ⟨w.heap.size + 1, 0, none⟩ = some (.int .i64 f.c) ∧ w'.cell? ⟨w.heap.size + 1, 1, none⟩ = some (.int .i64 f.s) ∧ w'.cell? ⟨w.heap.size + 1, 2, none⟩ = some (.int .u32 (f.ss : Nat)) ∧ w'.cell? ⟨jb, 1, none⟩ = some (.map (some ob)) ∧ (Instr.lookup 56 (.map (some ob)) (.agg #[.int .i64 f.c, .int .i64 f.s, .int .u32 (f.ss : Nat)]) false).run Try.prog w' = .ok (.map (some b0)) w' := fun wx w' bx o h7 => by
      obtain ⟨k1, k2, k3⟩ := HC5.out
      have l1 := (Array.getElem?_eq_some_iff.1 k1).1
      have l2 := (Array.getElem?_eq_some_iff.1 k2).1
      have hq := (o.block w.heap.size (Nat.lt_of_lt_of_le l1 bx.size) (by simpa using HD5.out.1)).trans ((bx.block w.heap.size l1).trans k1)
      have hq2 := (o.block (w.heap.size + 1) (Nat.lt_of_lt_of_le l2 bx.size) (by simpa using HD5.out.2.1)).trans ((bx.block (w.heap.size + 1) l2).trans k2)
      have s1 := h7.look _ ht
      rw [HW5.out.2] at s1
      have l3 := World.block_lt_of_cell? _ _ k3
      have hq3 := (World.cell?_of_block (a := ⟨jb, 1, none⟩) (o.block jb (Nat.lt_of_lt_of_le l3 bx.size) (by simpa using HD5.out.2.2))).trans (cell_belowJ k3 bx)
      exact ⟨cell_of_row w' _ 0 _ _ _ hq, cell_of_row w' _ 1 _ _ _ hq, cell_of_row w' _ 2 _ _ _ hq, cell_of_row w' _ 3 _ _ _ hq, cell_of_row w' _ 4 _ _ _ hq, cell_of_row w' _ 5 _ _ _ hq, cell_of_row w' _ 6 _ _ _ hq, cell_of_row w' _ 7 _ _ _ hq, cell_of_row w' _ 0 _ _ _ hq2, cell_of_row w' _ 1 _ _ _ hq2, cell_of_row w' _ 2 _ _ _ hq2, hq3, s1⟩
    have HT7 : Hid (_) := hT7
    clear hI hT7
    go_wp2_with fail
    go_region_held3 (fun wx => wx.cell? ⟨w.heap.size, 0, none⟩ = some (.int .i64 f.k) ∧ wx.cell? ⟨w.heap.size, 1, none⟩ = some (.int .i64 f.c) ∧ wx.cell? ⟨w.heap.size, 2, none⟩ = some (.int .i64 f.s) ∧ wx.cell? ⟨w.heap.size, 3, none⟩ = some (.int .u32 (f.ss : Nat)) ∧ wx.cell? ⟨w.heap.size, 4, none⟩ = some (.int .u32 (f.nn : Nat)) ∧ wx.cell? ⟨w.heap.size, 5, none⟩ = some (.bool f.on) ∧ wx.cell? ⟨w.heap.size, 6, none⟩ = some (.int .i64 f.cd) ∧ wx.cell? ⟨w.heap.size, 7, none⟩ = some (.slice a f.n cap) ∧ wx.cell? ⟨w.heap.size + 1, 0, none⟩ = some (.int .i64 f.c) ∧ wx.cell? ⟨w.heap.size + 1, 1, none⟩ = some (.int .i64 f.s) ∧ wx.cell? ⟨w.heap.size + 1, 2, none⟩ = some (.int .u32 (f.ss : Nat)) ∧ wx.cell? ⟨jb, 1, none⟩ = some (.map (some ob)) ∧ (Instr.lookup 56 (.map (some ob)) (.agg #[.int .i64 f.c, .int .i64 f.s, .int .u32 (f.ss : Nat)]) false).run Try.prog wx = .ok (.map (some b0)) wx) (first | with_reducible assumption | exact hS4 _ (by repeat (first | with_reducible assumption | with_reducible exact Below.refl _ _ | with_reducible refine belowN ?_ _ | with_reducible refine Below.drew ?_ | with_reducible refine belowG ?_ _))) (first
      | (go_at_call 45; refine (hI4 _ (by repeat (first | with_reducible assumption | with_reducible exact Below.refl _ _ | with_reducible refine belowN ?_ _ | with_reducible refine Below.drew ?_ | with_reducible refine belowG ?_ _))).mono ?_; rintro r w6 ⟨rfl, b6⟩; obtain ⟨w7, hrun7, H7⟩ := hV _ b6; have T7 := HT7.out _ w7 b6 H7.out.1 H7.out.2))
    all_goals
      clear hS4 hI4 HS4 T7
      go_wp2_with fail
      go_end0
      refine ⟨rfl, ?_⟩
      rw [HP.out.2.2.2.2.1]
      refine ⟨M, fun t b _ hm => .inl hm, fun l h0 hl => ?_, H7.out.2.mono (by omega)⟩
      exact ((Off.of_below HB.out).trans ((Off.of_below (Below.drew (Below.refl _ _))).trans (Off.of_below b6))).trans (H7.out.1.more (fun k hk => by simp at hk; subst hk; exact hl _ _ ht HP.out.2.2.2.2.2.1))
end Go.Proofs.Ythlgahkoignnkaa
