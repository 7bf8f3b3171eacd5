/- The valve of layer 11: its block, its gate's, and its value's; Latched, Request, Output. -/
import Derived.Test.YtmleiemlfogffaaGreatGate2
import Derived.Test.YtmleiemlfogffaaGreatRowo
namespace Go.Proofs.YtmleiemlfogffaaGreat
set_option maxRecDepth 100000
open Go.RowKit

/-- What a valve holds: running, held, fresh, the latched fault, is there a value, the value. -/
structure Vs where
  run : Bool
  held : Bool
  fr : Bool
  lat : Int
  sm : Bool
  bs : Nat → Nat
def vnew : Vs := ⟨false, false, false, 0, false, fun _ => 0⟩
def vtrip (s : Vs) (x : Int) : Vs := if x = 0 then s else { s with fr := false, sm := false, lat := if s.lat = 0 then x else s.lat }
def vrun (s : Vs) (o : Bool) : Vs := if s.run = o then s else { s with run := o, held := false, sm := false }
def vhold (s : Vs) (o : Bool) : Vs := { s with held := o && s.run }
def vfresh (s : Vs) : Vs := { s with fr := s.lat != 0 }
def vtake (s : Vs) (bs : Nat → Nat) : Vs := if s.run = true ∧ s.lat = 0 then { s with sm := true, bs := bs } else s
def vreq (s : Vs) : Bool := s.run && (s.lat != 0 && s.fr)
def vack (s : Vs) : Vs := if vreq s = true then { s with lat := 0, fr := false } else s
def von (s : Vs) : Bool := s.run && (!s.held && s.sm)
/-- The bytes that it tells. -/
def vout (s : Vs) : Nat → Nat := if von s = true then s.bs else fun _ => 0

/-- A row of its own, where only blocks ahead of it turn. -/
theorem own_off {l : List Nat} {w w' : World} {M e size n : Nat} {v : Value} {xs : List Value} (h : w.ownsRow M e size v n xs) (q : Off l w w') (hl : ∀ k, k ∈ l → k < M) : w'.ownsRow M e size v n xs := by
  refine ⟨h.1, ?_⟩
  rcases h.2 with hn | ⟨g, cap, cur, rfl, hg, hgg, rest⟩
  · exact .inl hn
  · exact .inr ⟨g, cap, cur, rfl, hg, by rw [q.block g (Array.getElem?_eq_some_iff.1 hgg).1 (fun hm => by have := hl g hm; omega)]; exact hgg, rest⟩
/-- A row read, where only other blocks turn. -/
theorem Row8.off {l : List Nat} {w w' : World} {a : Option Addr} {len cap : Nat} {bs : Nat → Nat} (h : Row8 w a len cap bs) (q : Off l w w') (hl : ∀ x, a = some x → x.block ∉ l) : Row8 w' a len cap bs := by
  refine ⟨h.byte, h.nil, fun x hx i hi => ?_, h.le⟩
  have h1 := h.src x hx i hi
  have hlt := World.block_lt_of_cell? w _ h1
  have hb : (x.add i).block = x.block := by unfold Addr.add; split <;> rfl
  have he : w'.heap[(x.add i).block]? = w.heap[(x.add i).block]? := q.block _ hlt (by rw [hb]; exact hl x hx)
  rw [← h1]
  unfold World.cell?
  rw [he]

/-- The block of a valve. -/
def VC (n : Nat) (s : Vs) (g : Nat) (v : Value) : Array Value := #[.int .i64 (n : Nat), .bool s.run, .bool s.held, .pointer (some ⟨g, 0, none⟩), .bool s.fr, v]
/-- The value's slice: nothing, or a row of its own in one of the blocks of M. -/
def VV (w : World) (M : List Nat) (n : Nat) (s : Vs) (v : Value) : Prop := (s.sm = false ∧ v = .slice none 0 0) ∨ (s.sm = true ∧ (w.ownsRow 0 5 1 v n (CB s.bs n) ∧ ∀ k, v.ownBlock = some k → k ∈ M) ∧ ∀ i, i < n → s.bs i < 256)
/-- A row of its own, where its block isn't turned. -/
theorem own_offk {l : List Nat} {w w' : World} {B e size n : Nat} {v : Value} {xs : List Value} (h : w.ownsRow B e size v n xs) (q : Off l w w') (hl : ∀ k, v.ownBlock = some k → k ∉ l) : w'.ownsRow B e size v n xs := by
  refine ⟨h.1, ?_⟩
  rcases h.2 with hn | ⟨g, cap, cur, rfl, hg, hgg, rest⟩
  · exact .inl hn
  · exact .inr ⟨g, cap, cur, rfl, hg, by rw [q.block g (Array.getElem?_eq_some_iff.1 hgg).1 (hl g rfl)]; exact hgg, rest⟩
theorem VV.off {l : List Nat} {w w' : World} {M : List Nat} {n : Nat} {s : Vs} {v : Value} (h : VV w M n s v) (q : Off l w w') (hl : ∀ k, k ∈ l → k ∉ M) : VV w' M n s v := by
  rcases h with h | ⟨h1, h2, h3⟩
  · exact .inl h
  · exact .inr ⟨h1, ⟨own_offk h2.1 q (fun k hk hm => hl k hm (h2.2 k hk)), h2.2⟩, h3⟩
structure VR (w : World) (b g : Nat) (M : List Nat) (n : Nat) (s : Vs) : Prop where
  ex : ∃ v t, w.heap[b]? = some (.cells (VC n s g v) 160 (0, 0)) ∧ GR w g 0 (if s.lat = 0 then 0 else 1) 0 s.lat t ∧ VV w M n s v
  bM : b ∉ M
  gM : g ∉ M
  ne : g ≠ b
  n1 : 1 ≤ n
  n8 : n ≤ 8
section
variable {w w' : World} {b g : Nat} {M : List Nat} {n : Nat} {s : Vs}
theorem VR.lt (h : VR w b g M n s) : b < w.heap.size := by
  obtain ⟨v, t, h1, _⟩ := h.ex
  exact (Array.getElem?_eq_some_iff.1 h1).1
theorem VR.off {l : List Nat} (h : VR w b g M n s) (q : Off l w w') (hb : b ∉ l) (hg : g ∉ l) (hl : ∀ k, k ∈ l → k ∉ M) : VR w' b g M n s := by
  obtain ⟨v, t, h1, h2, h3⟩ := h.ex
  exact ⟨⟨v, t, (q.block b h.lt hb).trans h1, h2.off q hg, h3.off q hl⟩, h.bM, h.gM, h.ne, h.n1, h.n8⟩
theorem VR.new_ (h : VR w b g M n s) (q : Off [] w w') : VR w' b g M n s := h.off q (by simp) (by simp) (by simp)
/-- What a call reads of it. -/
theorem VR.cells (h : VR w b g M n s) : ∃ v t, w.cell? ⟨b, 0, none⟩ = some (.int .i64 (n : Nat)) ∧ w.cell? ⟨b, 1, none⟩ = some (.bool s.run) ∧ w.cell? ⟨b, 2, none⟩ = some (.bool s.held) ∧ w.cell? ⟨b, 3, none⟩ = some (.pointer (some ⟨g, 0, none⟩)) ∧
    w.cell? ⟨b, 4, none⟩ = some (.bool s.fr) ∧ w.cell? ⟨b, 5, none⟩ = some v ∧ (∀ j, w.frozen? ⟨b, j, none⟩ = false) ∧ GR w g 0 (if s.lat = 0 then 0 else 1) 0 s.lat t ∧ VV w M n s v ∧ w.heap[b]? = some (.cells (VC n s g v) 160 (0, 0)) := by
  obtain ⟨v, t, e, h2, h3⟩ := h.ex
  exact ⟨v, t, cell_of_row w b 0 _ _ _ e, cell_of_row w b 1 _ _ _ e, cell_of_row w b 2 _ _ _ e, cell_of_row w b 3 _ _ _ e, cell_of_row w b 4 _ _ _ e, cell_of_row w b 5 _ _ _ e, fun j => frozen_of_row w b j _ _ e, h2, h3, e⟩
end
theorem latched_any (b g : Nat) (M : List Nat) (n : Nat) (s : Vs) (w : World) (h : VR w b g M n s) :
    Calls Tryz.prog 95 #[.pointer (some ⟨b, 0, none⟩)] w fun e w' => e = .returned (.bool (s.lat != 0)) ∧ w' = w := by
  obtain ⟨v, t, c0, c1, c2, c3, c4, c5, fz, G, V, hb⟩ := h.cells
  have H : Hid (_) := G
  clear G V hb h
  by_cases hl : s.lat = 0
  · rw [hl]
    go_enter Tryz.func95, Tryz.ntmps95
    go_wp2_with fail
    refine (code_same g _ _ t w H.out).mono ?_
    rintro e w2 ⟨rfl, rfl⟩
    rw [hl]
    go_wp2_with fail
    go_ret
    exact ⟨rfl, rfl⟩
  · have hl' : (s.lat != 0) = true := by simpa using hl
    rw [hl']
    go_enter Tryz.func95, Tryz.ntmps95
    go_wp2_with fail
    refine (code_same g _ _ t w H.out).mono ?_
    rintro e w2 ⟨rfl, rfl⟩
    go_wp2_with fail
    go_ret
    exact ⟨rfl, rfl⟩
theorem vlat_any (b g : Nat) (M : List Nat) (n : Nat) (s : Vs) (w : World) (h : VR w b g M n s) :
    Calls Tryz.prog 53 #[.pointer (some ⟨b, 0, none⟩)] w fun e w' => e = .returned (.int .i64 s.lat) ∧ w' = w := by
  obtain ⟨v, t, c0, c1, c2, c3, c4, c5, fz, G, V, hb⟩ := h.cells
  have H : Hid (_) := G
  clear G V hb h
  go_enter Tryz.func53, Tryz.ntmps53
  go_wp2_with fail
  refine (code_same g _ _ t w H.out).mono ?_
  rintro e w2 ⟨rfl, rfl⟩
  go_wp2_with fail
  go_ret
  exact ⟨rfl, rfl⟩
theorem vlat_nil (w : World) :
    Calls Tryz.prog 53 #[.pointer none] w fun e w' => e = .returned (.int .i64 0) ∧ w' = w := by
  go_enter Tryz.func53, Tryz.ntmps53
  go_wp2_with fail
  go_ret
  exact ⟨rfl, rfl⟩
theorem vreq_any (b g : Nat) (M : List Nat) (n : Nat) (s : Vs) (w : World) (h : VR w b g M n s) :
    Calls Tryz.prog 54 #[.pointer (some ⟨b, 0, none⟩)] w fun e w' => e = .returned (.bool (vreq s)) ∧ w' = w := by
  obtain ⟨v, t, c0, c1, c2, c3, c4, c5, fz, G, V, hb⟩ := h.cells
  have hl := latched_any b g M n s w h
  clear G V hb h
  unfold vreq
  cases hr : s.run
  · rw [hr] at c1
    go_enter Tryz.func54, Tryz.ntmps54
    go_wp2_with fail
    go_ret
    exact ⟨rfl, rfl⟩
  · rw [hr] at c1
    generalize (s.lat != 0) = q at hl ⊢
    cases q
    · go_enter Tryz.func54, Tryz.ntmps54
      go_wp2_with (go_at_call 95; refine hl.mono ?_; rintro e w' ⟨rfl, rfl⟩)
      go_ret
      exact ⟨rfl, rfl⟩
    · go_enter Tryz.func54, Tryz.ntmps54
      go_wp2_with (go_at_call 95; refine hl.mono ?_; rintro e w' ⟨rfl, rfl⟩)
      go_ret
      exact ⟨rfl, rfl⟩
theorem vreq_nil (w : World) :
    Calls Tryz.prog 54 #[.pointer none] w fun e w' => e = .returned (.bool false) ∧ w' = w := by
  go_enter Tryz.func54, Tryz.ntmps54
  go_wp2_with fail
  go_ret
  exact ⟨rfl, rfl⟩
set_option maxHeartbeats 1000000 in
theorem vout_off (b n : Nat) (r hd : Bool) (x : Value) (w : World) (c0 : w.cell? ⟨b, 0, none⟩ = some (.int .i64 (n : Nat))) (c1 : w.cell? ⟨b, 1, none⟩ = some (.bool r)) (c2 : w.cell? ⟨b, 2, none⟩ = some (.bool hd)) (c5 : w.cell? ⟨b, 5, none⟩ = some x) (h8 : n ≤ 8)
    (hx : r = false ∨ hd = true ∨ x = .slice none 0 0) :
    Calls Tryz.prog 51 #[.pointer (some ⟨b, 0, none⟩)] w fun e w' => ∃ v, e = .returned (.tuple #[v, .bool false]) ∧ Hid (w'.ownsRow w.heap.size 5 1 v n (CB (fun _ => 0) n) ∧ Below w.heap.size w w') := by
  obtain ⟨i0, hi, hz0, hz1, hz2⟩ := info_parts info_u8
  cases r
  · go_enter Tryz.func51, Tryz.ntmps51
    go_wp2_with (at_make; refine wpList_make8 _ rfl (.tmp 27) (.tmp 27) 25 rfl w.heap.size 5 i0 Tryz.underlying25 hi hz0 hz1 hz2 _ _ _ _ n n rfl rfl rfl rfl (Nat.le_refl _) (by omega) (Nat.le_refl _) ?_)
    intro w1 hown1 hbel1
    have H : Hid (_) := And.intro hown1 hbel1
    clear hown1 hbel1
    go_wp2_with fail
    go_ret2
    exact ⟨_, rfl, H⟩
  · cases hd
    · have e : x = .slice none 0 0 := by rcases hx with h | h | h <;> simp_all
      subst e
      have he : ∀ w : World, (binOp .eql 25 (.slice none 0 0) (.slice none 0 0)).run Tryz.prog w = .ok (.bool true) w := fun _ => by kernel_rfl
      go_enter Tryz.func51, Tryz.ntmps51
      go_wp2_with (at_make; refine wpList_make8 _ rfl (.tmp 27) (.tmp 27) 25 rfl w.heap.size 5 i0 Tryz.underlying25 hi hz0 hz1 hz2 _ _ _ _ n n rfl rfl rfl rfl (Nat.le_refl _) (by omega) (Nat.le_refl _) ?_)
      intro w1 hown1 hbel1
      have H : Hid (_) := And.intro hown1 hbel1
      clear hown1 hbel1
      go_wp2_with fail
      go_ret2
      exact ⟨_, rfl, H⟩
    · go_enter Tryz.func51, Tryz.ntmps51
      go_wp2_with (at_make; refine wpList_make8 _ rfl (.tmp 27) (.tmp 27) 25 rfl w.heap.size 5 i0 Tryz.underlying25 hi hz0 hz1 hz2 _ _ _ _ n n rfl rfl rfl rfl (Nat.le_refl _) (by omega) (Nat.le_refl _) ?_)
      intro w1 hown1 hbel1
      have H : Hid (_) := And.intro hown1 hbel1
      clear hown1 hbel1
      go_wp2_with fail
      go_ret2
      exact ⟨_, rfl, H⟩
set_option maxHeartbeats 1000000 in
theorem vout_on (b n : Nat) (ad : Addr) (cap : Nat) (bs : Nat → Nat) (w : World) (c1 : w.cell? ⟨b, 1, none⟩ = some (.bool true)) (c2 : w.cell? ⟨b, 2, none⟩ = some (.bool false)) (c5 : w.cell? ⟨b, 5, none⟩ = some (.slice (some ad) n cap)) (h8 : n ≤ 8)
    (R : Row8 w (some ad) n cap bs) :
    Calls Tryz.prog 51 #[.pointer (some ⟨b, 0, none⟩)] w fun e w' => ∃ v, e = .returned (.tuple #[v, .bool true]) ∧ Hid (w'.ownsRow w.heap.size 5 1 v n (CB bs n) ∧ Below w.heap.size w w') := by
  obtain ⟨i0, hi, hz0, hz1, hz2⟩ := info_parts info_u8
  have O0 := World.ownsRow_nil w w.heap.size 5 1
  have he : ∀ w : World, (binOp .eql 25 (.slice (some ad) n cap) (.slice none 0 0)).run Tryz.prog w = .ok (.bool false) w := fun _ => by kernel_rfl
  go_enter Tryz.func51, Tryz.ntmps51
  go_wp2_with (at_builtin; refine wpList_append_row8 rfl (.const (.slice none 0 0)) (.tmp 32) 25 rfl w.heap.size 5 i0 (.int .u8 0) Tryz.underlying25 hi hz0 hz1 hz2 rfl _ 0 _ rfl O0 (some ad) n cap bs rfl R (by unfold maxLen; omega) (by omega) (Nat.le_refl _) ?_)
  intro v2 w2 hown2 hgrow2
  have hbel2 : Below w.heap.size w w2 := (Below.refl _ _).grown hgrow2 (Nat.le_refl _) (fun j hj => by cases hj)
  have H : Hid (_) := And.intro hown2 hbel2
  clear hown2 hbel2 hgrow2 O0 R
  go_wp2_with fail
  go_ret2
  exact ⟨_, rfl, H⟩
theorem vout_any (b g : Nat) (M : List Nat) (n : Nat) (s : Vs) (w : World) (h : VR w b g M n s) :
    Calls Tryz.prog 51 #[.pointer (some ⟨b, 0, none⟩)] w fun e w' => ∃ v, e = .returned (.tuple #[v, .bool (von s)]) ∧ Hid (w'.ownsRow w.heap.size 5 1 v n (CB (vout s) n) ∧ Below w.heap.size w w') := by
  obtain ⟨v, t, c0, c1, c2, c3, c4, c5, fz, G, V, hb⟩ := h.cells
  by_cases ho : von s = true
  · unfold vout
    rw [if_pos ho, ho]
    simp only [von, Bool.and_eq_true, Bool.not_eq_true'] at ho
    obtain ⟨o1, o2, o3⟩ := ho
    rcases V with ⟨e, _⟩ | ⟨_, ⟨V, _⟩, hby⟩
    · rw [o3] at e; cases e
    obtain ⟨a, cap, rfl, R⟩ := own_row8 V hby
    have n1 := h.n1
    obtain ⟨hb', off', rfl, _⟩ := R.plain (by omega)
    exact vout_on b n _ cap s.bs w (o1 ▸ c1) (o2 ▸ c2) c5 h.n8 R
  · have ho' : von s = false := by simpa using ho
    unfold vout
    rw [if_neg ho, ho']
    refine vout_off b n s.run s.held v w c0 c1 c2 c5 h.n8 ?_
    rcases V with ⟨_, rfl⟩ | ⟨e, _⟩
    · exact .inr (.inr rfl)
    · unfold von at ho'
      rw [e] at ho'
      cases hr : s.run
      · exact .inl rfl
      · rw [hr] at ho'
        cases hh : s.held
        · rw [hh] at ho'; cases ho'
        · exact .inr (.inl rfl)
theorem vout_nil (w : World) :
    Calls Tryz.prog 51 #[.pointer none] w fun e w' => e = .returned (.tuple #[.slice none 0 0, .bool false]) ∧ w' = w := by
  go_enter Tryz.func51, Tryz.ntmps51
  go_wp2_with fail
  go_ret2
  exact ⟨rfl, rfl⟩

end Go.Proofs.YtmleiemlfogffaaGreat
