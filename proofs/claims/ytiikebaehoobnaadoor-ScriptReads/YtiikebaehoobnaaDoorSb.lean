/- Layer 20: what the package-level variables hold; decimals. -/
import Derived.Test.YtiikebaehoobnaaDoorSa
import Derived.Test.YtiikebaehoobnaaDoorShelf
import Derived.Maps.AppendAt
import Derived.WalkSmall
namespace Go.Proofs.YtiikebaehoobnaaDoor
set_option maxRecDepth 100000
open Go.RowKit Go.Maps
set_option maxRecDepth 100000
theorem belA {w0 w : World} (h : Below w0.heap.size w0 w) (o : Obj) : Below w0.heap.size w0 (w.alloc o) := h.alloc h.size o
theorem cellB {w w' : World} {b i : Nat} {v : Value} (h : w.cell? ⟨b, i, none⟩ = some v) (hb : Below w.heap.size w w') : w'.cell? ⟨b, i, none⟩ = some v := (World.cell?_of_block (a := ⟨b, i, none⟩) (hb.block b (World.block_lt_of_cell? w _ h))).trans h
theorem ownB {w w' : World} {B e sz n : Nat} {v : Value} {xs : List Value} (h : w.ownsRow B e sz v n xs) (b : Below w.heap.size w w') : w'.ownsRow B e sz v n xs := by
  refine ⟨h.1, ?_⟩
  rcases h.2 with e | ⟨g, cap, cur, e, hg, hgg, rest⟩
  · exact .inl e
  · exact .inr ⟨g, cap, cur, e, hg, (b.block g (Array.getElem?_eq_some_iff.1 hgg).1).trans hgg, rest⟩
theorem own_slcS {w : World} {B e size n : Nat} {v : Value} {xs : List Value} (h : w.ownsRow B e size v (n + 1) xs) : ∃ g cap, v = .slice (some ⟨g, 0, none⟩) (n + 1) cap ∧ B ≤ g := by
  rcases h.2 with ⟨_, hn⟩ | ⟨g, cap, cur, rfl, hg, hgg, rest⟩
  · omega
  · exact ⟨g, cap, rfl, hg⟩
theorem below_grow (w : World) (k : Nat) (os : Array Obj) : Below w.heap.size w (Sort.grow (w.drewN k) os) :=
  ⟨rfl, rfl, rfl, by simp [Sort.grow], fun q hq => by
    show (w.heap ++ os)[q]? = _
    rw [Array.getElem?_append_left hq]⟩
theorem varB {P : Program} {w w' : World} {n : String} {cs : Array Value} (h : w.var? P n = some cs) (hb : Below w.heap.size w w') : w'.var? P n = some cs := by
  unfold World.var? at h ⊢
  cases e : P.globalNamed n with
  | none => rw [e] at h; cases h
  | some g =>
    rw [e] at h
    simp only [Option.bind_some] at h ⊢
    have hg : g < w.heap.size := by
      by_cases q : g < w.heap.size
      · exact q
      · rw [Array.getElem?_eq_none (by omega)] at h
        cases h
    rw [hb.block g hg]
    exact h
/-- The moves' words. -/
def kws : List (List UInt8) := [[], [119, 114, 105, 116, 101], [115, 101, 110, 100], [100, 101, 108, 105, 118, 101, 114], [103, 97, 114, 98, 108, 101], [116, 105, 99, 107], [97, 99, 107], [114, 101, 115, 101, 116], [99, 117, 116]]
/-- The table that decimal numbers are written with. -/
structure Lp (w : World) : Prop where
  pow : Lib.TabIs Tryd.prog w "internal/strconv.uint64pow10" .u64 Lib.pow10Tab
/-- .. and the moves' words. -/
structure Lk (w : World) : Prop where
  pow : Lib.TabIs Tryd.prog w "internal/strconv.uint64pow10" .u64 Lib.pow10Tab
  kw : w.var? Tryd.prog "parapet/script.kindWords" = some (kws.map fun l => Value.string (tx l)).toArray
/-- The variables hold what their initialisers laid. -/
structure Lw (w : World) : Prop where
  pow : Lib.TabIs Tryd.prog w "internal/strconv.uint64pow10" .u64 Lib.pow10Tab
  kw : w.var? Tryd.prog "parapet/script.kindWords" = some (kws.map fun l => Value.string (tx l)).toArray
  es : ∃ tp p, w.var? Tryd.prog "strconv.ErrSyntax" = some #[.iface tp p]
  er : ∃ tp p, w.var? Tryd.prog "strconv.ErrRange" = some #[.iface tp p]
theorem Lp.below {w w' : World} (h : Lp w) (b : Below w.heap.size w w') : Lp w' := ⟨varB h.pow b⟩
theorem Lk.below {w w' : World} (h : Lk w) (b : Below w.heap.size w w') : Lk w' := ⟨varB h.pow b, varB h.kw b⟩
theorem Lw.below {w w' : World} (h : Lw w) (b : Below w.heap.size w w') : Lw w' := by
  obtain ⟨t1, p1, e1⟩ := h.es
  obtain ⟨t2, p2, e2⟩ := h.er
  exact ⟨varB h.pow b, varB h.kw b, ⟨t1, p1, varB e1 b⟩, ⟨t2, p2, varB e2 b⟩⟩
theorem Lk.p {w : World} (h : Lk w) : Lp w := ⟨h.pow⟩
theorem Lw.k {w : World} (h : Lw w) : Lk w := ⟨h.pow, h.kw⟩
theorem Lw.p {w : World} (h : Lw w) : Lp w := ⟨h.pow⟩
instance {w : World} : Coe (Lk w) (Lp w) := ⟨Lk.p⟩
instance {w : World} : Coe (Lw w) (Lk w) := ⟨Lw.k⟩
instance {w : World} : Coe (Lw w) (Lp w) := ⟨Lw.p⟩
theorem gKw : Tryd.prog.globalNamed "parapet/script.kindWords" = some 0 := by kernel_rfl
theorem Lk.word {w : World} (h : Lk w) (i : Nat) {l : List UInt8} (hi : kws[i]? = some l) : w.cell? ⟨0, i, none⟩ = some (.string (tx l)) := by
  have := World.var?_cell gKw h.kw i
  rw [this]
  simp [hi]
theorem Lw.word {w : World} (h : Lw w) (i : Nat) {l : List UInt8} (hi : kws[i]? = some l) : w.cell? ⟨0, i, none⟩ = some (.string (tx l)) := h.k.word i hi
theorem pitoa (n : Int) (h0 : -9223372036854775808 ≤ n) (h1 : n ≤ 9223372036854775807) (w : World) (L : Lp w) : Calls Tryd.prog 47 #[.int .i64 n] w fun r w' => r = .returned (.string (tx (Lib.itoa n))) ∧ Below w.heap.size w w' := by
  refine (Tryd.strconv_Itoa n h0 h1 w L.pow).mono ?_
  rintro r w' ⟨rfl, k, os, rfl⟩
  exact ⟨rfl, below_grow _ _ _⟩
/-- A list of numbers that is read. -/
def NRow (w : World) (a : Option Addr) (len : Nat) (z : Nat → Int) : Prop := ∀ i, i < len → ∃ q off, a = some ⟨q, off, none⟩ ∧ w.cell? ⟨q, off + i, none⟩ = some (.int .i64 (z i))
theorem NRow.below {w w' : World} {a : Option Addr} {len : Nat} {z : Nat → Int} (h : NRow w a len z) (b : Below w.heap.size w w') : NRow w' a len z := fun i hi => by
  obtain ⟨q, off, e, c⟩ := h i hi
  exact ⟨q, off, e, cellB c b⟩
/-- Numbers' words. -/
def sL (n : Nat) (z : Nat → Int) : List Value := (List.range n).map fun i => .string (tx (Lib.itoa (z i)))
theorem sL_succ (n : Nat) (z : Nat → Int) : sL n z ++ [.string (tx (Lib.itoa (z n)))] = sL (n + 1) z := by
  unfold sL
  rw [List.range_succ, List.map_append]
  rfl
theorem info_str : (Tryd.prog.info? 9).map (fun i => (i.zero, i.size, i.bytes)) = some (some (.string (ByteArray.mk #[])), 1, 16) := by kernel_rfl
theorem one_str (w : World) (x : ByteArray) : ∀ j u, ([.string x] : List Value)[j]? = some u → (w.alloc (.cells #[.string x] 9)).cell? ((⟨w.heap.size, 0, none⟩ : Addr).add j) = some u := fun j u hu => by
  have e : (Addr.add ⟨w.heap.size, 0, none⟩ j) = ⟨w.heap.size, j, none⟩ := by unfold Addr.add; simp; omega
  rw [e, cell_of_row _ w.heap.size j _ _ _ (heap_alloc_new w (.cells #[.string x] 9))]
  simpa using hu
theorem one_strO (x : ByteArray) : ∀ u ∈ ([.string x] : List Value), u.oneCell' = true := fun u hu => by rw [List.mem_singleton.1 hu]; rfl
set_option maxHeartbeats 1000000 in
theorem pdecimals (a : Option Addr) (len cap : Nat) (z : Nat → Int) (w : World) (hr : NRow w a len z) (hz : ∀ i, i < len → -9223372036854775808 ≤ z i ∧ z i ≤ 9223372036854775807) (hlen : len ≤ 100) (L : Lp w) :
    Calls Tryd.prog 55 #[.slice a len cap] w fun r w' => ∃ v, r = .returned v ∧ Hid (w'.ownsRow w.heap.size 9 1 v len (sL len z) ∧ (len = 0 → v = .slice none 0 0) ∧ Below w.heap.size w w') := by
  have HW : Hid (_) := And.intro hr (And.intro hz L)
  clear hr hz L
  go_enter Tryd.func55, Tryd.ntmps55
  go_wp2_with fail
  go_loopw [3, 5, 8, 9, 10, 11, 12, 13, 14, 15, 16, 17] (fun v _ c _ _ _ _ _ _ _ _ _ wr => ∃ i : Nat, i ≤ len ∧ c = .int .i64 ((i : Nat) : Int) ∧ Hid (wr.ownsRow w.heap.size 9 1 v i (sL i z) ∧ (i = 0 → v = .slice none 0 0) ∧ Below w.heap.size w wr)) (fun _ _ c _ _ _ _ _ _ _ _ _ _ => len - natV c)
  case atStart => exact ⟨0, by omega, rfl, ⟨rfl, .inl ⟨rfl, rfl⟩⟩, fun _ => rfl, Below.refl _ _⟩
  case round =>
    obtain ⟨i, hi, rfl, HI⟩ := hrel
    by_cases hlt : i < len
    · have hlt' : ((i : Nat) : Int) < ((len : Nat) : Int) := by omega
      obtain ⟨o1, o2, b1⟩ := HI.out
      obtain ⟨hr, hz, L⟩ := HW.out
      obtain ⟨q, off, ea, c0⟩ := (hr.below b1) i hlt
      subst ea
      have hI := pitoa (z i) (hz i hlt).1 (hz i hlt).2 wr (L.below b1)
      have hw1 : IntKind.i64.wrap (((i : Nat) : Int) + 1) = ((i + 1 : Nat) : Int) := by rw [IntKind.wrap_i64]; omega
      clear hr hz L o1 o2 b1
      go_wp2_with fail
      refine hI.mono ?_
      rintro r w2 ⟨rfl, b2⟩
      obtain ⟨o1, o2, b1⟩ := HI.out
      obtain ⟨X, hX⟩ : ∃ X, tx (Lib.itoa (z i)) = X := ⟨_, rfl⟩
      have O3 := ownB o1 (belA b2 (.cells #[.string X] 9))
      have B3 : w.heap.size ≤ (w2.alloc (.cells #[.string X] 9)).heap.size := Nat.le_trans b1.size (belA b2 (.cells #[.string X] 9)).size
      have N3 := one_str w2 X
      have M3 := one_strO X
      obtain ⟨i0, hIn, hz0, hz1, hz2⟩ := info_parts info_str
      have HK : Hid (Below w.heap.size w (w2.alloc (.cells #[.string X] 9)) ∧ tx (Lib.itoa (z i)) = X) := ⟨b1.trans ((belA b2 _).mono b1.size), hX⟩
      rw [hX]
      clear hI o1 o2 b1 b2 hX c0
      go_wp2_with (at_builtin; refine wpList_append_own_at _ rfl _ _ 27 rfl w.heap.size 9 i0 (.string (ByteArray.mk #[])) 1 16 Tryd.underlying27 hIn hz0 hz1 hz2 rfl (by decide) u3 i (sL i z) rfl O3 ⟨w2.heap.size, 0, none⟩ 1 1 [.string X] rfl rfl N3 M3 (by unfold maxLen; omega) (by omega) B3 ?_)
      intro v7 w7 O7 G7 _ _
      obtain ⟨x7, y7, rfl, _⟩ := own_slcS O7
      have HF : Hid (w7.ownsRow w.heap.size 9 1 (.slice (some ⟨x7, 0, none⟩) (i + 1) y7) (i + 1) (sL (i + 1) z) ∧ (i + 1 = 0 → (Value.slice (some ⟨x7, 0, none⟩) (i + 1) y7) = .slice none 0 0) ∧ Below w.heap.size w w7) := by
        refine ⟨?_, fun h => by omega, HK.out.1.grown G7 HK.out.1.size (fun k hk => (O3.lt k hk).1)⟩
        rw [← sL_succ, HK.out.2]
        exact O7
      clear O7 G7 O3 B3 N3 M3 HI hIn hz0 hz1 hz2
      go_wp2_with fail
      go_roundw
      case rel => exact ⟨i + 1, by omega, by first | rfl | go_num, HF⟩
      case measure => simp [natV] <;> omega
    · obtain rfl : i = len := by omega
      have hlt' : ¬ ((i : Nat) : Int) < ((i : Nat) : Int) := by omega
      go_wp2_with fail
      go_ret
      exact ⟨_, rfl, HI⟩
end Go.Proofs.YtiikebaehoobnaaDoor
