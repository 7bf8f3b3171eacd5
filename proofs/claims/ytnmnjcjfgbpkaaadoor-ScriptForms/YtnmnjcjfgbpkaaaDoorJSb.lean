/- Layer 20: what the package-level variables hold; decimals. -/
import Derived.Test.YtnmnjcjfgbpkaaaDoorJRowv
import Derived.Test.YtnmnjcjfgbpkaaaDoorJShelf
import Derived.Maps.AppendAt
import Derived.WalkSmall
import Derived.Deep.RegionHeld3
namespace Go.Proofs.YtnmnjcjfgbpkaaaDoor
set_option maxRecDepth 100000
open Go.RowKit Go.Maps
set_option maxRecDepth 100000
theorem belA {w0 w : World} (h : Below w0.heap.size w0 w) (o : Obj) : Below w0.heap.size w0 (w.alloc o) := h.alloc h.size o
theorem cellB {w w' : World} {b i : Nat} {v : Value} (h : w.cell? ⟨b, i, none⟩ = some v) (hb : Below w.heap.size w w') : w'.cell? ⟨b, i, none⟩ = some v := (World.cell?_of_block (a := ⟨b, i, none⟩) (hb.block b (World.block_lt_of_cell? w _ h))).trans h
theorem ownB {w w' : World} {B e sz n : Nat} {v : Value} {xs : List Value} (h : w.ownsRow B e sz v n xs) (b : Below w.heap.size w w') : w'.ownsRow B e sz v n xs := by
  refine ⟨h.1, ?_⟩
  rcases h.2 with e | ⟨g, cap, cur, e, hg, hgg, rest⟩
  · exact .inl e
  · exact .inr ⟨g, cap, cur, e, hg, (b.block g (Array.getElem?_eq_some_iff.1 hgg).1).trans hgg, rest⟩
theorem own_slcS {w : World} {B e size n : Nat} {v : Value} {xs : List Value} (h : w.ownsRow B e size v (n + 1) xs) : ∃ g cap, v = .slice (some ⟨g, 0, none⟩) (n + 1) cap ∧ B ≤ g := by
  rcases h.2 with ⟨_, hn⟩ | ⟨g, cap, cur, rfl, hg, hgg, rest⟩
  · omega
  · exact ⟨g, cap, rfl, hg⟩
theorem below_grow (w : World) (k : Nat) (os : Array Obj) : Below w.heap.size w (Sort.grow (w.drewN k) os) :=
  ⟨rfl, rfl, rfl, by simp [Sort.grow], fun q hq => by
    show (w.heap ++ os)[q]? = _
    rw [Array.getElem?_append_left hq]⟩
theorem varB {P : Program} {w w' : World} {n : String} {cs : Array Value} (h : w.var? P n = some cs) (hb : Below w.heap.size w w') : w'.var? P n = some cs := by
  unfold World.var? at h ⊢
  cases e : P.globalNamed n with
  | none => rw [e] at h; cases h
  | some g =>
    rw [e] at h
    simp only [Option.bind_some] at h ⊢
    have hg : g < w.heap.size := by
      by_cases q : g < w.heap.size
      · exact q
      · rw [Array.getElem?_eq_none (by omega)] at h
        cases h
    rw [hb.block g hg]
    exact h
/-- The moves' words. -/
def kws : List (List UInt8) := [[], [119, 114, 105, 116, 101], [115, 101, 110, 100], [100, 101, 108, 105, 118, 101, 114], [103, 97, 114, 98, 108, 101], [116, 105, 99, 107], [97, 99, 107], [114, 101, 115, 101, 116], [99, 117, 116]]
/-- The table that decimal numbers are written with. -/
structure Lp (w : World) : Prop where
  pow : Lib.TabIs Tryd.prog w "internal/strconv.uint64pow10" .u64 Lib.pow10Tab
/-- .. and the moves' words. -/
structure Lk (w : World) : Prop where
  pow : Lib.TabIs Tryd.prog w "internal/strconv.uint64pow10" .u64 Lib.pow10Tab
  kw : w.var? Tryd.prog "parapet/script.kindWords" = some (kws.map fun l => Value.string (tx l)).toArray
/-- The variables hold what their initialisers laid. -/
structure Lw (w : World) : Prop where
  pow : Lib.TabIs Tryd.prog w "internal/strconv.uint64pow10" .u64 Lib.pow10Tab
  kw : w.var? Tryd.prog "parapet/script.kindWords" = some (kws.map fun l => Value.string (tx l)).toArray
  es : ∃ tp p, w.var? Tryd.prog "strconv.ErrSyntax" = some #[.iface tp p]
  er : ∃ tp p, w.var? Tryd.prog "strconv.ErrRange" = some #[.iface tp p]
theorem Lp.below {w w' : World} (h : Lp w) (b : Below w.heap.size w w') : Lp w' := ⟨varB h.pow b⟩
theorem Lk.below {w w' : World} (h : Lk w) (b : Below w.heap.size w w') : Lk w' := ⟨varB h.pow b, varB h.kw b⟩
theorem Lw.below {w w' : World} (h : Lw w) (b : Below w.heap.size w w') : Lw w' := by
  obtain ⟨t1, p1, e1⟩ := h.es
  obtain ⟨t2, p2, e2⟩ := h.er
  exact ⟨varB h.pow b, varB h.kw b, ⟨t1, p1, varB e1 b⟩, ⟨t2, p2, varB e2 b⟩⟩
theorem Lk.p {w : World} (h : Lk w) : Lp w := ⟨h.pow⟩
theorem Lw.k {w : World} (h : Lw w) : Lk w := ⟨h.pow, h.kw⟩
theorem Lw.p {w : World} (h : Lw w) : Lp w := ⟨h.pow⟩
instance {w : World} : Coe (Lk w) (Lp w) := ⟨Lk.p⟩
instance {w : World} : Coe (Lw w) (Lk w) := ⟨Lw.k⟩
instance {w : World} : Coe (Lw w) (Lp w) := ⟨Lw.p⟩
theorem gKw : Tryd.prog.globalNamed "parapet/script.kindWords" = some 0 := by kernel_rfl
theorem Lk.word {w : World} (h : Lk w) (i : Nat) {l : List UInt8} (hi : kws[i]? = some l) : w.cell? ⟨0, i, none⟩ = some (.string (tx l)) := by
  have := World.var?_cell gKw h.kw i
  rw [this]
  simp [hi]
theorem Lw.word {w : World} (h : Lw w) (i : Nat) {l : List UInt8} (hi : kws[i]? = some l) : w.cell? ⟨0, i, none⟩ = some (.string (tx l)) := h.k.word i hi
theorem pitoa (n : Int) (h0 : -9223372036854775808 ≤ n) (h1 : n ≤ 9223372036854775807) (w : World) (L : Lp w) : Calls Tryd.prog 28 #[.int .i64 n] w fun r w' => r = .returned (.string (tx (Lib.itoa n))) ∧ Below w.heap.size w w' := by
  refine (Tryd.strconv_Itoa n h0 h1 w L.pow).mono ?_
  rintro r w' ⟨rfl, k, os, rfl⟩
  exact ⟨rfl, below_grow _ _ _⟩
/-- A list of numbers that is read. -/
def NRow (w : World) (a : Option Addr) (len : Nat) (z : Nat → Int) : Prop := ∀ i, i < len → ∃ q off, a = some ⟨q, off, none⟩ ∧ w.cell? ⟨q, off + i, none⟩ = some (.int .i64 (z i))
theorem NRow.below {w w' : World} {a : Option Addr} {len : Nat} {z : Nat → Int} (h : NRow w a len z) (b : Below w.heap.size w w') : NRow w' a len z := fun i hi => by
  obtain ⟨q, off, e, c⟩ := h i hi
  exact ⟨q, off, e, cellB c b⟩
/-- Numbers' words. -/
def sL (n : Nat) (z : Nat → Int) : List Value := (List.range n).map fun i => .string (tx (Lib.itoa (z i)))
theorem sL_succ (n : Nat) (z : Nat → Int) : sL n z ++ [.string (tx (Lib.itoa (z n)))] = sL (n + 1) z := by
  unfold sL
  rw [List.range_succ, List.map_append]
  rfl
theorem info_str : (Tryd.prog.info? 9).map (fun i => (i.zero, i.size, i.bytes)) = some (some (.string (ByteArray.mk #[])), 1, 16) := by kernel_rfl
theorem one_str (w : World) (x : ByteArray) : ∀ j u, ([.string x] : List Value)[j]? = some u → (w.alloc (.cells #[.string x] 9)).cell? ((⟨w.heap.size, 0, none⟩ : Addr).add j) = some u := fun j u hu => by
  have e : (Addr.add ⟨w.heap.size, 0, none⟩ j) = ⟨w.heap.size, j, none⟩ := by unfold Addr.add; simp; omega
  rw [e, cell_of_row _ w.heap.size j _ _ _ (heap_alloc_new w (.cells #[.string x] 9))]
  simpa using hu
theorem one_strO (x : ByteArray) : ∀ u ∈ ([.string x] : List Value), u.oneCell' = true := fun u hu => by rw [List.mem_singleton.1 hu]; rfl
set_option maxHeartbeats 1000000 in
theorem pdecimals (a : Option Addr) (len cap : Nat) (z : Nat → Int) (w : World) (hr : NRow w a len z) (hz : ∀ i, i < len → -9223372036854775808 ≤ z i ∧ z i ≤ 9223372036854775807) (hlen : len ≤ 100) (L : Lp w) :
    Calls Tryd.prog 36 #[.slice a len cap] w fun r w' => ∃ v, r = .returned v ∧ Hid (w'.ownsRow w.heap.size 9 1 v len (sL len z) ∧ (len = 0 → v = .slice none 0 0) ∧ Below w.heap.size w w') := by
  have HW : Hid (_) := And.intro hr (And.intro hz L)
  clear hr hz L
  go_enter Tryd.func36, Tryd.ntmps36
  go_wp2_with fail
  go_loopw [3, 5, 8, 9, 10, 11, 12, 13, 14, 15, 16, 17] (fun v _ c _ _ _ _ _ _ _ _ _ wr => ∃ i : Nat, i ≤ len ∧ c = .int .i64 ((i : Nat) : Int) ∧ Hid (wr.ownsRow w.heap.size 9 1 v i (sL i z) ∧ (i = 0 → v = .slice none 0 0) ∧ Below w.heap.size w wr)) (fun _ _ c _ _ _ _ _ _ _ _ _ _ => len - natV c)
  case atStart => exact ⟨0, by omega, rfl, ⟨rfl, .inl ⟨rfl, rfl⟩⟩, fun _ => rfl, Below.refl _ _⟩
  case round =>
    obtain ⟨i, hi, rfl, HI⟩ := hrel
    by_cases hlt : i < len
    · have hlt' : ((i : Nat) : Int) < ((len : Nat) : Int) := by omega
      obtain ⟨o1, o2, b1⟩ := HI.out
      obtain ⟨hr, hz, L⟩ := HW.out
      obtain ⟨q, off, ea, c0⟩ := (hr.below b1) i hlt
      subst ea
      have hI := pitoa (z i) (hz i hlt).1 (hz i hlt).2 wr (L.below b1)
      have hw1 : IntKind.i64.wrap (((i : Nat) : Int) + 1) = ((i + 1 : Nat) : Int) := by rw [IntKind.wrap_i64]; omega
      clear hr hz L o1 o2 b1
      go_wp2_with fail
      refine hI.mono ?_
      rintro r w2 ⟨rfl, b2⟩
      obtain ⟨o1, o2, b1⟩ := HI.out
      obtain ⟨X, hX⟩ : ∃ X, tx (Lib.itoa (z i)) = X := ⟨_, rfl⟩
      have O3 := ownB o1 (belA b2 (.cells #[.string X] 9))
      have B3 : w.heap.size ≤ (w2.alloc (.cells #[.string X] 9)).heap.size := Nat.le_trans b1.size (belA b2 (.cells #[.string X] 9)).size
      have N3 := one_str w2 X
      have M3 := one_strO X
      obtain ⟨i0, hIn, hz0, hz1, hz2⟩ := info_parts info_str
      have HK : Hid (Below w.heap.size w (w2.alloc (.cells #[.string X] 9)) ∧ tx (Lib.itoa (z i)) = X) := ⟨b1.trans ((belA b2 _).mono b1.size), hX⟩
      rw [hX]
      clear hI o1 o2 b1 b2 hX c0
      go_wp2_with (at_builtin; refine wpList_append_own_at _ rfl _ _ 51 rfl w.heap.size 9 i0 (.string (ByteArray.mk #[])) 1 16 Tryd.underlying51 hIn hz0 hz1 hz2 rfl (by decide) u3 i (sL i z) rfl O3 ⟨w2.heap.size, 0, none⟩ 1 1 [.string X] rfl rfl N3 M3 (by unfold maxLen; omega) (by omega) B3 ?_)
      intro v7 w7 O7 G7 _ _
      obtain ⟨x7, y7, rfl, _⟩ := own_slcS O7
      have HF : Hid (w7.ownsRow w.heap.size 9 1 (.slice (some ⟨x7, 0, none⟩) (i + 1) y7) (i + 1) (sL (i + 1) z) ∧ (i + 1 = 0 → (Value.slice (some ⟨x7, 0, none⟩) (i + 1) y7) = .slice none 0 0) ∧ Below w.heap.size w w7) := by
        refine ⟨?_, fun h => by omega, HK.out.1.grown G7 HK.out.1.size (fun k hk => (O3.lt k hk).1)⟩
        rw [← sL_succ, HK.out.2]
        exact O7
      clear O7 G7 O3 B3 N3 M3 HI hIn hz0 hz1 hz2
      go_wp2_with fail
      go_roundw
      case rel => exact ⟨i + 1, by omega, by first | rfl | go_num, HF⟩
      case measure => simp [natV] <;> omega
    · obtain rfl : i = len := by omega
      have hlt' : ¬ ((i : Nat) : Int) < ((i : Nat) : Int) := by omega
      go_wp2_with fail
      go_ret
      exact ⟨_, rfl, HI⟩
end Go.Proofs.YtnmnjcjfgbpkaaaDoor
namespace Go.Proofs.YtnmnjcjfgbpkaaaDoor
set_option maxRecDepth 100000
open Go.RowKit Go.Maps
set_option maxRecDepth 100000
theorem own_cellsS {w : World} {B e n g c : Nat} {xs : List Value} (h : w.ownsRow B e 1 (.slice (some ⟨g, 0, none⟩) n c) n xs) : (∀ j u, xs[j]? = some u → w.cell? ⟨g, j, none⟩ = some u) ∧ g < w.heap.size ∧ n ≤ c ∧ xs.length = n := by
  have hl := h.1
  rcases h.2 with ⟨e, _⟩ | ⟨g', cap, cur, e, hg, hgg, h1, h2, h3, h4⟩
  · cases e
  · simp only [Value.slice.injEq, Option.some.injEq, Addr.mk.injEq] at e
    obtain ⟨⟨rfl, _⟩, _, rfl⟩ := e
    refine ⟨fun j u hu => ?_, (Array.getElem?_eq_some_iff.1 hgg).1, h1, by simpa using hl⟩
    have hj : j < n := by
      have := (List.getElem?_eq_some_iff.1 hu).1
      simp at hl
      omega
    rw [cell_of_row w g j _ _ _ hgg, ← hu, ← h4, List.getElem?_take_of_lt (by omega), Array.getElem?_toList]
/-- Join of words of our own, a text between two. -/
theorem pjoinS {w : World} {B g n c : Nat} (ls : List (List UInt8)) (s : List UInt8) (o : w.ownsRow B 9 1 (.slice (some ⟨g, 0, none⟩) n c) n (ls.map fun l => .string (tx l))) (hn : n ≤ 1000000) (hL : (Lib.join ls s).length ≤ 140737488355328) :
    Calls Tryd.prog 38 #[.slice (some ⟨g, 0, none⟩) n c, .string (tx s)] w fun r w' => r = .returned (.string (tx (Lib.join ls s))) ∧ Below w.heap.size w w' := by
  obtain ⟨hc, hg, hnc, hl⟩ := own_cellsS o
  have hl' : ls.length = n := by simpa using hl
  have e1 : (ls.map tx).length = n := by simpa using hl'
  have e2 : (ls.map tx).map (·.data.toList) = ls := by
    rw [List.map_map]
    have : ((fun x : ByteArray => x.data.toList) ∘ tx) = id := by
      funext l
      simp [tx]
    rw [this, List.map_id]
  have e3 : (tx s).data.toList = s := by simp [tx]
  have h := Tryd.strings_Join g 0 c (ls.map tx) (tx s) w (fun j x hx => by
    rw [Nat.zero_add]
    refine hc j _ ?_
    rw [List.getElem?_map] at hx ⊢
    cases e : ls[j]? with
    | none => rw [e] at hx; cases hx
    | some l => rw [e] at hx; simp at hx; rw [← hx]; rfl) hg (by omega) (by omega) (by rw [e2, e3]; exact hL)
  rw [e1, e2, e3] at h
  exact h
/-- Join of words of our own, a blank between two. -/
theorem pjoin {w : World} {B g n c : Nat} (ls : List (List UInt8)) (o : w.ownsRow B 9 1 (.slice (some ⟨g, 0, none⟩) n c) n (ls.map fun l => .string (tx l))) (hn : n ≤ 1000000) (hL : (Lib.join ls [32]).length ≤ 140737488355328) :
    Calls Tryd.prog 38 #[.slice (some ⟨g, 0, none⟩) n c, .string (ByteArray.mk #[32])] w fun r w' => r = .returned (.string (tx (Lib.join ls [32]))) ∧ Below w.heap.size w w' := pjoinS ls [32] o hn hL
/-- A set. -/
structure Ps where
  c : Nat
  o : Int
  i : Int
  t : Int
  n : Nat
structure Ps.Ok (p : Ps) : Prop where
  c : p.c < 4294967296
  n : p.n < 4294967296
  o : -9223372036854775808 ≤ p.o ∧ p.o ≤ 9223372036854775807
  i : -9223372036854775808 ≤ p.i ∧ p.i ≤ 9223372036854775807
  t : -9223372036854775808 ≤ p.t ∧ p.t ≤ 9223372036854775807
/-- A set's words. -/
def Ps.ws (p : Ps) : List (List UInt8) := [Lib.itoa ((p.c : Nat) : Int), Lib.itoa p.o, Lib.itoa p.i, Lib.itoa p.t, Lib.itoa ((p.n : Nat) : Int)]
def Ps.line (p : Ps) : List UInt8 := Lib.join p.ws [32]
theorem Ps.line_eq (p : Ps) : p.line = Lib.itoa ((p.c : Nat) : Int) ++ [32] ++ Lib.itoa p.o ++ [32] ++ Lib.itoa p.i ++ [32] ++ Lib.itoa p.t ++ [32] ++ Lib.itoa ((p.n : Nat) : Int) := by
  simp [Ps.line, Ps.ws, Lib.join, List.intercalate]
theorem Ps.len {p : Ps} (h : p.Ok) : p.line.length ≤ 104 := by
  rw [p.line_eq]
  have h1 := itoa_len (n := ((p.c : Nat) : Int)) (by omega) (by have := h.c; omega)
  have h2 := itoa_len h.o.1 h.o.2
  have h3 := itoa_len h.i.1 h.i.2
  have h4 := itoa_len h.t.1 h.t.2
  have h5 := itoa_len (n := ((p.n : Nat) : Int)) (by omega) (by have := h.n; omega)
  simp
  omega
def Ps.z (p : Ps) (i : Nat) : Int := [((p.c : Nat) : Int), p.o, p.i, p.t, ((p.n : Nat) : Int)].getD i 0
theorem Ps.sL (p : Ps) : sL 5 p.z = p.ws.map fun l => .string (tx l) := rfl
set_option maxHeartbeats 1000000 in
theorem pparam (p : Ps) (hp : p.Ok) (w : World) (L : Lp w) : Calls Tryd.prog 29 #[.agg #[.int .u32 (p.c : Nat), .int .i64 p.o, .int .i64 p.i, .int .i64 p.t, .int .u32 (p.n : Nat)]] w fun r w' => r = .returned (.string (tx p.line)) ∧ Below w.heap.size w w' := by
  obtain ⟨W, hW⟩ : ∃ W : World, (w.alloc (.cells #[.int .u32 (p.c : Nat), .int .i64 p.o, .int .i64 p.i, .int .i64 p.t, .int .u32 (p.n : Nat)] 50)).alloc (.cells #[.int .i64 ((p.c : Nat) : Int), .int .i64 p.o, .int .i64 p.i, .int .i64 p.t, .int .i64 ((p.n : Nat) : Int)] 3) = W := ⟨_, rfl⟩
  have bW : Below w.heap.size w W := by rw [← hW]; exact belA (belA (Below.refl _ _) _) _
  have eW : W.heap[w.heap.size + 1]? = some (.cells #[.int .i64 ((p.c : Nat) : Int), .int .i64 p.o, .int .i64 p.i, .int .i64 p.t, .int .i64 ((p.n : Nat) : Int)] 3 (0, 0)) := by
    rw [← hW]
    have := heap_alloc_new (w.alloc (.cells #[.int .u32 (p.c : Nat), .int .i64 p.o, .int .i64 p.i, .int .i64 p.t, .int .u32 (p.n : Nat)] 50)) (.cells #[.int .i64 ((p.c : Nat) : Int), .int .i64 p.o, .int .i64 p.i, .int .i64 p.t, .int .i64 ((p.n : Nat) : Int)] 3)
    simpa using this
  have hR : NRow W (some ⟨w.heap.size + 1, 0, none⟩) 5 p.z := fun i hi => by
    refine ⟨_, _, rfl, ?_⟩
    rw [Nat.zero_add, cell_of_row W _ i _ _ _ eW]
    have : i = 0 ∨ i = 1 ∨ i = 2 ∨ i = 3 ∨ i = 4 := by omega
    rcases this with rfl | rfl | rfl | rfl | rfl <;> rfl
  have hz : ∀ i, i < 5 → -9223372036854775808 ≤ p.z i ∧ p.z i ≤ 9223372036854775807 := fun i hi => by
    have : i = 0 ∨ i = 1 ∨ i = 2 ∨ i = 3 ∨ i = 4 := by omega
    have h1 := hp.c
    have h2 := hp.n
    rcases this with rfl | rfl | rfl | rfl | rfl
    · show -9223372036854775808 ≤ ((p.c : Nat) : Int) ∧ ((p.c : Nat) : Int) ≤ 9223372036854775807
      omega
    · exact hp.o
    · exact hp.i
    · exact hp.t
    · show -9223372036854775808 ≤ ((p.n : Nat) : Int) ∧ ((p.n : Nat) : Int) ≤ 9223372036854775807
      omega
  have hD := pdecimals (some ⟨w.heap.size + 1, 0, none⟩) 5 5 p.z W hR hz (by omega) (L.below bW)
  have hlen := p.len hp
  have w1 : IntKind.i64.wrap ((p.c : Nat) : Int) = ((p.c : Nat) : Int) := by have := hp.c; rw [IntKind.wrap_i64]; omega
  have w2 : IntKind.i64.wrap ((p.n : Nat) : Int) = ((p.n : Nat) : Int) := by have := hp.n; rw [IntKind.wrap_i64]; omega
  have HB : Hid (_) := bW
  clear hR hz L bW eW hp
  go_enter Tryd.func29, Tryd.ntmps29
  go_wp2_with fail
  try rw [hW]
  clear hW
  refine hD.mono ?_
  clear hD
  rintro r w2' ⟨v, rfl, h⟩
  obtain ⟨o, _, b2⟩ := h.out
  obtain ⟨g, cap, rfl, _⟩ := own_slcS o
  rw [p.sL] at o
  have hJ := pjoin p.ws o (by omega) (by show p.line.length ≤ _; omega)
  have HB2 : Hid (Below w.heap.size w w2') := HB.out.trans (b2.mono HB.out.size)
  clear o b2 h HB
  go_wp2_with fail
  refine hJ.mono ?_
  clear hJ
  rintro r w3 ⟨rfl, b3⟩
  have HB3 : Hid (Below w.heap.size w w3) := HB2.out.trans (b3.mono HB2.out.size)
  go_wp2_with fail
  go_ret
  exact ⟨rfl, HB3.out⟩
end Go.Proofs.YtnmnjcjfgbpkaaaDoor
namespace Go.Proofs.YtnmnjcjfgbpkaaaDoor
set_option maxRecDepth 100000
open Go.RowKit Go.Maps
set_option maxRecDepth 100000
theorem step_callS {P : Program} {ops : Array Oper} {o : Oper} {a : Act} {w : World} {K : Act → World → Prop} {Q : Exit → Act → World → Prop} {E : Prop} {R : Value → World → Prop}
    (f : FuncId) (ts : Array Operand) (ty : Array TypeId) (_ : o.op = .call { callee := .value (.func f), args := ts, argTypes := ty }) (hw : Region.wanted o (yielded ops a.tmps) = true) (args : Array Value) (hrun : (execOp a.eval o).run P w = .ok (.enter f args) w) (hc : Calls P f args w fun e w' => ∃ v, e = .returned v ∧ R v w') (hK : ∀ v w', R v w' → K (a.put o.dst v) w') :
    if Region.wanted o (yielded ops a.tmps) = true then Oper.wp P o a w K Q else E := by
  rw [if_pos hw]
  unfold Oper.wp
  rw [hrun]
  refine hc.mono ?_
  rintro e w'' ⟨v, rfl, hr⟩
  exact hK _ _ hr
theorem belTS {W wx w' : World} (b : Below wx.heap.size wx w') (h : Below W.heap.size W wx) : Below W.heap.size W w' := h.trans (b.mono h.size)
/-- A piece of a text that is short. -/
theorem sz_app (a b : ByteArray) : (a ++ b).size = a.size + b.size := by
  show (a ++ b).data.size = a.data.size + b.data.size
  rw [ByteArray.data_append]
  simp
/-- Two texts, one behind the other. -/
theorem cat_run (a b : ByteArray) (h : a.size + b.size ≤ 9223372036854775807) : ∀ w, (binOp .add 9 (.string a) (.string b)).run Tryd.prog w = .ok (.string (a ++ b)) w := fun w => by
  have h' : ¬ 9223372036854775807 < a.size + b.size := by omega
  go_simp
end Go.Proofs.YtnmnjcjfgbpkaaaDoor
namespace Go.Proofs.YtnmnjcjfgbpkaaaDoor
set_option maxRecDepth 100000
open Go.RowKit Go.Maps
set_option maxRecDepth 100000
/-- A move. -/
structure Mv where
  k : Int
  c : Int
  s : Int
  f : Int
  a : Int
  w : Nat
  n : Int
  h : Bool
  l : Nat
  b : Nat → Nat
/-- Its cells, its data at d. -/
def Mv.cs (m : Mv) (d : Option Addr) (e : Nat) : Array Value := #[.int .i64 m.k, .int .i64 m.c, .int .i64 m.s, .int .i64 m.f, .int .i64 m.a, .int .u32 (m.w : Nat), .int .i64 m.n, .bool m.h, .slice d m.l e]
structure Mv.Ok (m : Mv) : Prop where
  k : -9223372036854775808 ≤ m.k ∧ m.k ≤ 9223372036854775807
  c : -9223372036854775808 ≤ m.c ∧ m.c ≤ 9223372036854775807
  s : -9223372036854775808 ≤ m.s ∧ m.s ≤ 9223372036854775807
  f : -9223372036854775808 ≤ m.f ∧ m.f ≤ 9223372036854775807
  a : -9223372036854775808 ≤ m.a ∧ m.a ≤ 9223372036854775807
  w : m.w < 4294967296
  n : -9223372036854775808 ≤ m.n ∧ m.n ≤ 9223372036854775807
/-- The numbers behind the connection and the side. -/
def Mv.ns (m : Mv) : List Int := if m.k = 3 then [m.f] else if m.k = 4 then [m.f, m.a, ((m.w : Nat) : Int)] else if m.k = 5 ∨ m.k = 7 ∨ m.k = 8 then [m.n] else []
def fitI (z : Int) : Bool := decide (0 ≤ z) && decide (z < 4294967296)
def sided (k : Int) : Bool := (k != 2) && (k != 8)
/-- Why it has no line; 0. -/
def Mv.err (m : Mv) : Int := if fitI m.c = false ∨ m.ns.all fitI = false then 2 else if sided m.k = true ∧ m.s ≠ 1 ∧ m.s ≠ 2 then 172 else if m.k = 1 ∧ 8 < m.l then 45 else if m.k < 1 ∨ 8 < m.k then 170 else 0
theorem Mv.ns_ok {m : Mv} (h : m.Ok) : ∀ z ∈ m.ns, -9223372036854775808 ≤ z ∧ z ≤ 9223372036854775807 := by
  intro z hz
  have hw := h.w
  unfold Mv.ns at hz
  repeat' split at hz
  all_goals simp at hz
  · subst hz; exact h.f
  · rcases hz with rfl | rfl | rfl
    · exact h.f
    · exact h.a
    · omega
  · subst hz; exact h.n
theorem Mv.ns_len (m : Mv) : m.ns.length ≤ 3 := by
  unfold Mv.ns
  repeat' split
  all_goals simp
/-- Numbers of a list as a function. -/
def zf (l : List Int) (i : Nat) : Int := l.getD i 0
theorem puses (k : Int) (w : World) : Calls Tryd.prog 33 #[.int .i64 k] w fun r w' => r = .returned (.bool (sided k)) ∧ w' = w := by
  unfold sided
  by_cases h2 : k = 2
  · subst h2
    go_enter Tryd.func33, Tryd.ntmps33
    go_wp2_with fail
    go_ret
    exact ⟨rfl, rfl⟩
  · have g2 : (k != 2) = true := by simpa using h2
    have g2' : ¬ k = 2 := h2
    rw [g2]
    go_enter Tryd.func33, Tryd.ntmps33
    go_wp2_with fail
    go_ret
    exact ⟨rfl, rfl⟩
theorem pside (s : Int) (w : World) : Calls Tryd.prog 34 #[.int .i64 s] w fun r w' => r = .returned (.string (tx (if s = 1 then [104] else [100]))) ∧ w' = w := by
  by_cases h : s = 1
  · subst h
    go_enter Tryd.func34, Tryd.ntmps34
    go_wp2_with fail
    go_ret
    exact ⟨rfl, rfl⟩
  · rw [if_neg h]
    have g : (s == 1) = false := by simpa using h
    go_enter Tryd.func34, Tryd.ntmps34
    go_wp2_with fail
    go_ret
    exact ⟨rfl, rfl⟩
theorem pfit (l : List Int) (a : Option Addr) (cap : Nat) (w : World) (hr : NRow w a l.length (zf l)) (hl : l.length ≤ 100) : Calls Tryd.prog 54 #[.slice a l.length cap] w fun r w' => r = .returned (.bool (l.all fitI)) ∧ w' = w := by
  obtain ⟨n, hn⟩ : ∃ n, l.length = n := ⟨_, rfl⟩
  rw [hn] at hr ⊢
  have HN : Hid (l.length = n) := hn
  have hn100 : n ≤ 100 := by omega
  clear hn hl
  go_enter Tryd.func54, Tryd.ntmps54
  go_wp2_with fail
  go_loop [2, 4, 7, 8, 9, 10, 11, 12, 13, 14, 15, 16, 17] (fun _ _ c _ _ _ _ _ _ _ _ _ _ => ∃ i : Nat, i ≤ n ∧ c = .int .i64 ((i : Nat) : Int) ∧ Hid (∀ j, j < i → fitI (zf l j) = true)) (fun _ _ c _ _ _ _ _ _ _ _ _ _ => n - natV c)
  case atStart => exact ⟨0, by omega, rfl, fun j hj => by omega⟩
  case round =>
    obtain ⟨i, hi, rfl, HI⟩ := hrel
    by_cases hlt : i < n
    · have hlt' : ((i : Nat) : Int) < ((n : Nat) : Int) := by omega
      obtain ⟨q, off, ea, c0⟩ := hr i hlt
      subst ea
      obtain ⟨z, hz⟩ : ∃ z, zf l i = z := ⟨_, rfl⟩
      rw [hz] at c0
      have hw1 : IntKind.i64.wrap (((i : Nat) : Int) + 1) = ((i + 1 : Nat) : Int) := by rw [IntKind.wrap_i64]; omega
      have bad : fitI z = false → Hid (l.all fitI = false) := fun h => by
        refine Bool.eq_false_iff.2 (fun q => ?_)
        have hm : z ∈ l := by
          rw [← hz]
          unfold zf
          rw [List.getD_eq_getElem?_getD, List.getElem?_eq_getElem (by have := HN.out; omega)]
          exact List.getElem_mem _
        have := List.all_eq_true.1 q z hm
        rw [h] at this
        cases this
      have good : fitI z = true → Hid (∀ j, j < i + 1 → fitI (zf l j) = true) := fun h j hj => by
        by_cases e : j = i
        · subst e; rw [hz]; exact h
        · exact HI.out j (by omega)
      clear hz
      by_cases h0 : z < 0
      · have HB := bad (by unfold fitI; rw [decide_eq_false (by omega)]; rfl)
        clear bad good
        go_wp2_with fail
        go_ret
        exact ⟨by rw [HB.out]; rfl, rfl⟩
      · by_cases h4 : 4294967296 ≤ z
        · have HB := bad (by unfold fitI; rw [decide_eq_false (p := z < 4294967296) (by omega), Bool.and_false])
          have h4' : z ≥ 4294967296 := h4
          clear bad good
          go_wp2_with fail
          go_ret
          exact ⟨by rw [HB.out]; rfl, rfl⟩
        · have HG := good (by unfold fitI; rw [decide_eq_true (p := 0 ≤ z) (by omega), decide_eq_true (p := z < 4294967296) (by omega)]; rfl)
          have h4' : ¬ z ≥ 4294967296 := h4
          clear bad good
          go_wp2_with fail
          refine ⟨⟨i + 1, by omega, by first | rfl | go_num, HG⟩, ?_⟩
          simp [natV] <;> omega
    · obtain rfl : i = n := by omega
      have hlt' : ¬ ((i : Nat) : Int) < ((i : Nat) : Int) := by omega
      have e : Hid (l.all fitI = true) := by
        refine List.all_eq_true.2 (fun z hz => ?_)
        obtain ⟨j, hj, he⟩ := List.getElem_of_mem hz
        have := HI.out j (by have := HN.out; omega)
        unfold zf at this
        rw [List.getD_eq_getElem?_getD, List.getElem?_eq_getElem hj] at this
        rw [← he]
        exact this
      clear HI
      go_wp2_with fail
      go_ret
      exact ⟨by rw [e.out]; rfl, rfl⟩
end Go.Proofs.YtnmnjcjfgbpkaaaDoor
namespace Go.Proofs.YtnmnjcjfgbpkaaaDoor
set_option maxRecDepth 100000
open Go.RowKit Go.Maps
set_option maxRecDepth 100000
set_option maxHeartbeats 1000000 in
theorem plast (m : Mv) (hm : m.Ok) (d : Option Addr) (e : Nat) (w : World) : Calls Tryd.prog 37 #[.agg #[.int .i64 m.k, .int .i64 m.c, .int .i64 m.s, .int .i64 m.f, .int .i64 m.a, .int .u32 (m.w : Nat), .int .i64 m.n, .bool m.h, .slice d m.l e]] w fun r w' => ∃ a cap, r = .returned (.slice a m.ns.length cap) ∧ Hid (NRow w' a m.ns.length (zf m.ns) ∧ Below w.heap.size w w') := by
  have w1 : IntKind.i64.wrap ((m.w : Nat) : Int) = ((m.w : Nat) : Int) := by have := hm.w; rw [IntKind.wrap_i64]; omega
  clear hm
  by_cases h3 : m.k = 3
  · have en : m.ns = [m.f] := by unfold Mv.ns; rw [if_pos h3]
    rw [en, h3]
    clear en h3
    have HR : Hid (NRow ((w.alloc (.cells #[.int .i64 3, .int .i64 m.c, .int .i64 m.s, .int .i64 m.f, .int .i64 m.a, .int .u32 (m.w : Nat), .int .i64 m.n, .bool m.h, .slice d m.l e] 45)).alloc (.cells #[.int .i64 m.f] 3)) (some ⟨w.heap.size + 1, 0, none⟩) 1 (zf [m.f]) ∧ Below w.heap.size w ((w.alloc (.cells #[.int .i64 3, .int .i64 m.c, .int .i64 m.s, .int .i64 m.f, .int .i64 m.a, .int .u32 (m.w : Nat), .int .i64 m.n, .bool m.h, .slice d m.l e] 45)).alloc (.cells #[.int .i64 m.f] 3))) := by
      refine ⟨fun i hi => ⟨_, _, rfl, ?_⟩, belA (belA (Below.refl _ _) _) _⟩
      have e := heap_alloc_new (w.alloc (.cells #[.int .i64 3, .int .i64 m.c, .int .i64 m.s, .int .i64 m.f, .int .i64 m.a, .int .u32 (m.w : Nat), .int .i64 m.n, .bool m.h, .slice d m.l e] 45)) (.cells #[.int .i64 m.f] 3)
      simp only [World.size_alloc] at e
      rw [Nat.zero_add, cell_of_row _ _ i _ _ _ e]
      have : i = 0 := by omega
      subst this
      all_goals rfl
    go_enter Tryd.func37, Tryd.ntmps37
    go_wp2_with fail
    go_ret
    exact ⟨_, _, rfl, HR⟩
  · by_cases h4 : m.k = 4
    · have en : m.ns = [m.f, m.a, ((m.w : Nat) : Int)] := by unfold Mv.ns; rw [if_neg h3, if_pos h4]
      rw [en, h4]
      clear en h3 h4
      have HR : Hid (NRow ((w.alloc (.cells #[.int .i64 4, .int .i64 m.c, .int .i64 m.s, .int .i64 m.f, .int .i64 m.a, .int .u32 (m.w : Nat), .int .i64 m.n, .bool m.h, .slice d m.l e] 45)).alloc (.cells #[.int .i64 m.f, .int .i64 m.a, .int .i64 ((m.w : Nat) : Int)] 3)) (some ⟨w.heap.size + 1, 0, none⟩) 3 (zf [m.f, m.a, ((m.w : Nat) : Int)]) ∧ Below w.heap.size w ((w.alloc (.cells #[.int .i64 4, .int .i64 m.c, .int .i64 m.s, .int .i64 m.f, .int .i64 m.a, .int .u32 (m.w : Nat), .int .i64 m.n, .bool m.h, .slice d m.l e] 45)).alloc (.cells #[.int .i64 m.f, .int .i64 m.a, .int .i64 ((m.w : Nat) : Int)] 3))) := by
        refine ⟨fun i hi => ⟨_, _, rfl, ?_⟩, belA (belA (Below.refl _ _) _) _⟩
        have e := heap_alloc_new (w.alloc (.cells #[.int .i64 4, .int .i64 m.c, .int .i64 m.s, .int .i64 m.f, .int .i64 m.a, .int .u32 (m.w : Nat), .int .i64 m.n, .bool m.h, .slice d m.l e] 45)) (.cells #[.int .i64 m.f, .int .i64 m.a, .int .i64 ((m.w : Nat) : Int)] 3)
        simp only [World.size_alloc] at e
        rw [Nat.zero_add, cell_of_row _ _ i _ _ _ e]
        have : i = 0 ∨ i = 1 ∨ i = 2 := by omega
        rcases this with rfl | rfl | rfl
        all_goals rfl
      go_enter Tryd.func37, Tryd.ntmps37
      go_wp2_with fail
      go_ret
      exact ⟨_, _, rfl, HR⟩
    · by_cases h5 : m.k = 5
      · have en : m.ns = [m.n] := by unfold Mv.ns; rw [if_neg h3, if_neg h4, if_pos (.inl h5)]
        rw [en, h5]
        clear en h3 h4 h5
        have HR : Hid (NRow ((w.alloc (.cells #[.int .i64 5, .int .i64 m.c, .int .i64 m.s, .int .i64 m.f, .int .i64 m.a, .int .u32 (m.w : Nat), .int .i64 m.n, .bool m.h, .slice d m.l e] 45)).alloc (.cells #[.int .i64 m.n] 3)) (some ⟨w.heap.size + 1, 0, none⟩) 1 (zf [m.n]) ∧ Below w.heap.size w ((w.alloc (.cells #[.int .i64 5, .int .i64 m.c, .int .i64 m.s, .int .i64 m.f, .int .i64 m.a, .int .u32 (m.w : Nat), .int .i64 m.n, .bool m.h, .slice d m.l e] 45)).alloc (.cells #[.int .i64 m.n] 3))) := by
          refine ⟨fun i hi => ⟨_, _, rfl, ?_⟩, belA (belA (Below.refl _ _) _) _⟩
          have e := heap_alloc_new (w.alloc (.cells #[.int .i64 5, .int .i64 m.c, .int .i64 m.s, .int .i64 m.f, .int .i64 m.a, .int .u32 (m.w : Nat), .int .i64 m.n, .bool m.h, .slice d m.l e] 45)) (.cells #[.int .i64 m.n] 3)
          simp only [World.size_alloc] at e
          rw [Nat.zero_add, cell_of_row _ _ i _ _ _ e]
          have : i = 0 := by omega
          subst this
          all_goals rfl
        go_enter Tryd.func37, Tryd.ntmps37
        go_wp2_with fail
        go_ret
        exact ⟨_, _, rfl, HR⟩
      · by_cases h7 : m.k = 7
        · have en : m.ns = [m.n] := by unfold Mv.ns; rw [if_neg h3, if_neg h4, if_pos (.inr (.inl h7))]
          rw [en, h7]
          clear en h3 h4 h5 h7
          have HR : Hid (NRow ((w.alloc (.cells #[.int .i64 7, .int .i64 m.c, .int .i64 m.s, .int .i64 m.f, .int .i64 m.a, .int .u32 (m.w : Nat), .int .i64 m.n, .bool m.h, .slice d m.l e] 45)).alloc (.cells #[.int .i64 m.n] 3)) (some ⟨w.heap.size + 1, 0, none⟩) 1 (zf [m.n]) ∧ Below w.heap.size w ((w.alloc (.cells #[.int .i64 7, .int .i64 m.c, .int .i64 m.s, .int .i64 m.f, .int .i64 m.a, .int .u32 (m.w : Nat), .int .i64 m.n, .bool m.h, .slice d m.l e] 45)).alloc (.cells #[.int .i64 m.n] 3))) := by
            refine ⟨fun i hi => ⟨_, _, rfl, ?_⟩, belA (belA (Below.refl _ _) _) _⟩
            have e := heap_alloc_new (w.alloc (.cells #[.int .i64 7, .int .i64 m.c, .int .i64 m.s, .int .i64 m.f, .int .i64 m.a, .int .u32 (m.w : Nat), .int .i64 m.n, .bool m.h, .slice d m.l e] 45)) (.cells #[.int .i64 m.n] 3)
            simp only [World.size_alloc] at e
            rw [Nat.zero_add, cell_of_row _ _ i _ _ _ e]
            have : i = 0 := by omega
            subst this
            all_goals rfl
          go_enter Tryd.func37, Tryd.ntmps37
          go_wp2_with fail
          go_ret
          exact ⟨_, _, rfl, HR⟩
        · by_cases h8 : m.k = 8
          · have en : m.ns = [m.n] := by unfold Mv.ns; rw [if_neg h3, if_neg h4, if_pos (.inr (.inr h8))]
            rw [en, h8]
            clear en h3 h4 h5 h7 h8
            have HR : Hid (NRow ((w.alloc (.cells #[.int .i64 8, .int .i64 m.c, .int .i64 m.s, .int .i64 m.f, .int .i64 m.a, .int .u32 (m.w : Nat), .int .i64 m.n, .bool m.h, .slice d m.l e] 45)).alloc (.cells #[.int .i64 m.n] 3)) (some ⟨w.heap.size + 1, 0, none⟩) 1 (zf [m.n]) ∧ Below w.heap.size w ((w.alloc (.cells #[.int .i64 8, .int .i64 m.c, .int .i64 m.s, .int .i64 m.f, .int .i64 m.a, .int .u32 (m.w : Nat), .int .i64 m.n, .bool m.h, .slice d m.l e] 45)).alloc (.cells #[.int .i64 m.n] 3))) := by
              refine ⟨fun i hi => ⟨_, _, rfl, ?_⟩, belA (belA (Below.refl _ _) _) _⟩
              have e := heap_alloc_new (w.alloc (.cells #[.int .i64 8, .int .i64 m.c, .int .i64 m.s, .int .i64 m.f, .int .i64 m.a, .int .u32 (m.w : Nat), .int .i64 m.n, .bool m.h, .slice d m.l e] 45)) (.cells #[.int .i64 m.n] 3)
              simp only [World.size_alloc] at e
              rw [Nat.zero_add, cell_of_row _ _ i _ _ _ e]
              have : i = 0 := by omega
              subst this
              all_goals rfl
            go_enter Tryd.func37, Tryd.ntmps37
            go_wp2_with fail
            go_ret
            exact ⟨_, _, rfl, HR⟩
          · have en : m.ns = [] := by
              unfold Mv.ns
              rw [if_neg h3, if_neg h4, if_neg (by rintro (h | h | h); exact h5 h; exact h7 h; exact h8 h)]
            rw [en]
            have g3 : (m.k == 3) = false := by simpa using h3
            have g4 : (m.k == 4) = false := by simpa using h4
            have g5 : (m.k == 5) = false := by simpa using h5
            have g7 : (m.k == 7) = false := by simpa using h7
            have g8 : (m.k == 8) = false := by simpa using h8
            clear en
            have HR : Hid (NRow (w.alloc (.cells #[.int .i64 m.k, .int .i64 m.c, .int .i64 m.s, .int .i64 m.f, .int .i64 m.a, .int .u32 (m.w : Nat), .int .i64 m.n, .bool m.h, .slice d m.l e] 45)) none 0 (zf []) ∧ Below w.heap.size w (w.alloc (.cells #[.int .i64 m.k, .int .i64 m.c, .int .i64 m.s, .int .i64 m.f, .int .i64 m.a, .int .u32 (m.w : Nat), .int .i64 m.n, .bool m.h, .slice d m.l e] 45))) := by
              exact ⟨fun i hi => by omega, belA (Below.refl _ _) _⟩
            go_enter Tryd.func37, Tryd.ntmps37
            go_wp2_with fail
            go_ret
            exact ⟨_, _, rfl, HR⟩

end Go.Proofs.YtnmnjcjfgbpkaaaDoor
