/- The document's log: the last sixteen. -/
import Derived.Test.YteaekoacongbcaaRf2
import Derived.Laws.AppendOwnNone
namespace Go.Proofs.Yteaekoacongbcaa
open Go.RowKit Go.Maps

theorem lst_cells {w : World} {g s : Nat} {a : Option Addr} {L : List R4} (h : ∀ i (hi : i < L.length), ∃ g, a = some ⟨g, 0, none⟩ ∧ 0 ≤ g ∧ g < w.heap.size ∧
    w.cell? ⟨g, i * 4, none⟩ = some (.int .i64 L[i].1) ∧ w.cell? ⟨g, i * 4 + 1, none⟩ = some (.int .i64 L[i].2.1) ∧ w.cell? ⟨g, i * 4 + 2, none⟩ = some (.int .u32 L[i].2.2.1) ∧ w.cell? ⟨g, i * 4 + 3, none⟩ = some (.int .u32 L[i].2.2.2)) (ha : a = some ⟨g, 0, none⟩) :
    ∀ j u, (rvs (L.drop s))[j]? = some u → w.cell? ((⟨g, s * 4, none⟩ : Addr).add j) = some u := by
  intro j u hu
  have hj : j < (rvs (L.drop s)).length := (List.getElem?_eq_some_iff.1 hu).1
  rw [rvs_len, List.length_drop] at hj
  have e : j = j / 4 * 4 + j % 4 := by omega
  have hf : j % 4 < 4 := by omega
  have hi : j / 4 < (L.drop s).length := by rw [List.length_drop]; omega
  have hi2 : s + j / 4 < L.length := by omega
  rw [e, rvs_at (L.drop s) (j / 4) (j % 4) hf hi] at hu
  obtain ⟨g', e1, _, _, p0, p1, p2, p3⟩ := h (s + j / 4) hi2
  obtain rfl : g = g' := by rw [ha] at e1; simpa using e1
  have hd : (L.drop s)[j / 4] = L[s + j / 4] := by simp
  rw [hd] at hu
  generalize L[s + j / 4] = x at *
  have c : j % 4 = 0 ∨ j % 4 = 1 ∨ j % 4 = 2 ∨ j % 4 = 3 := by omega
  rw [Go.WideShapes.add_plain]
  rcases c with c | c | c | c
  · rw [c] at hu; simp [rv] at hu; subst hu; rw [show s * 4 + j = (s + j / 4) * 4 from by omega]; exact p0
  · rw [c] at hu; simp [rv] at hu; subst hu; rw [show s * 4 + j = (s + j / 4) * 4 + 1 from by omega]; exact p1
  · rw [c] at hu; simp [rv] at hu; subst hu; rw [show s * 4 + j = (s + j / 4) * 4 + 2 from by omega]; exact p2
  · rw [c] at hu; simp [rv] at hu; subst hu; rw [show s * 4 + j = (s + j / 4) * 4 + 3 from by omega]; exact p3
set_option maxHeartbeats 1600000 in
set_option maxRecDepth 100000 in
theorem rrecords_any (p : Nat) (V : List Nat) (v : Value) (L : List R4) (w : World) (h : RG w p V v L) (hn : L.length < 1000000) :
    Calls Try.prog 15 #[.pointer (some ⟨p, 0, none⟩)] w fun e w' => ∃ v', e = .returned v' ∧ Hid (w'.ownsRow w.heap.size 32 4 v' (lst L).length (rvs (lst L)) ∧ Below w.heap.size w w') := by
  have HG : Hid (RG w p V v L) := h
  have c0 := h.c0
  have hpl : p < w.heap.size := h.lt p h.pV
  obtain ⟨a, cap, rfl, _, hcs⟩ := own_cells4 h.own
  have HC : Hid (_) := hcs
  have hcap : L.length ≤ cap := by
    rcases h.own.2 with ⟨e, hz⟩ | ⟨_, _, _, e, _, _, h1, _⟩
    · omega
    · simp only [Value.slice.injEq] at e; obtain ⟨_, _, rfl⟩ := e; exact h1
  obtain ⟨n, en⟩ : ∃ n, n = L.length := ⟨_, rfl⟩
  obtain ⟨s, es⟩ : ∃ s, s = n - 16 := ⟨_, rfl⟩
  have HN : Hid (n = L.length ∧ s = n - 16 ∧ (lst L).length = n - s ∧ lst L = L.drop s) := ⟨en, es, by rw [lst_len]; omega, by rw [lst, ← en, ← es]⟩
  rw [← en] at c0 hn hcap
  clear en es hcs h
  have e1 : IntKind.i64.wrap ((n : Int) - 16) = (n : Int) - 16 := by rw [IntKind.wrap_i64]; omega
  go_enter Try.func15, Try.ntmps15
  go_upto_if 11 with fail
  go_cut [3] (fun x wx => x = .int .i64 ((s : Nat) : Int) ∧ wx = w)
  case first =>
    by_cases h16 : n < 16
    · obtain rfl : s = 0 := by have := HN.out.2.1; omega
      have : (n : Int) - 16 < 0 := by omega
      go_wp2_with fail
      go_meet
      exact ⟨rfl, rfl⟩
    · have hs : (n : Int) - 16 = (s : Int) := by have := HN.out.2.1; omega
      have : ¬ (n : Int) - 16 < 0 := by omega
      go_wp2_with fail
      go_meet
      exact ⟨by simp, rfl⟩
  case rest =>
    obtain ⟨rfl, rfl⟩ := hcut
    have hsn : s ≤ n := by have := HN.out.2.1; omega
    have ca1 : (wc.alloc (.cells #[] 32)).cell? ⟨p, 0, none⟩ = some (.slice a n cap) := (World.cell?_of_block ((Off.alloc [] wc _).block p hpl (by simp))).trans c0
    obtain ⟨i0, hi, hz0, hz1, hz2⟩ := info_parts info_rec
    have hown : (wc.alloc (.cells #[] 32)).ownsRow wc.heap.size 32 4 (.slice (some ⟨wc.heap.size, 0, none⟩) 0 0) 0 [] := World.ownsRow_made wc #[] 0 (Nat.le_refl _) (Nat.zero_le _) rfl
    have hbl : Below wc.heap.size wc (wc.alloc (.cells #[] 32)) := (Below.refl _ _).alloc (Nat.le_refl _) _
    have hsz : wc.heap.size ≤ (wc.alloc (.cells #[] 32)).heap.size := by simp
    by_cases h0 : n = 0
    · have h00 : a = none ∧ cap = 0 := by have := HG.out.nl (by have := HN.out.1; omega); simp only [Value.slice.injEq] at this; exact ⟨this.1, this.2.2⟩
      obtain ⟨rfl, rfl⟩ := h00
      obtain rfl : s = 0 := by omega
      have HL : Hid (lst L = []) := by
        show _ = _
        rw [HN.out.2.2.2, List.drop_eq_nil_of_le (by have := HN.out.1; omega)]
      subst h0
      have HO : Hid ((wc.alloc (.cells #[] 32)).ownsRow wc.heap.size 32 4 (.slice (some ⟨wc.heap.size, 0, none⟩) 0 0) (lst L).length (rvs (lst L)) ∧ Below wc.heap.size wc (wc.alloc (.cells #[] 32))) := by
        rw [HL.out]; exact ⟨hown, hbl⟩
      clear hown hbl
      go_wp2_with fail
      go_ret
      exact ⟨_, rfl, HO⟩
    · obtain ⟨g, rfl, _, hgl, _⟩ := HC.out 0 (by have := HN.out.1; omega)
      have hnews : ∀ j u, (rvs (L.drop s))[j]? = some u → (wc.alloc (.cells #[] 32)).cell? ((⟨g, s * 4, none⟩ : Addr).add j) = some u := by
        intro j u hu
        have h1 := lst_cells HC.out rfl j u hu
        rw [Go.WideShapes.add_plain] at h1 ⊢
        exact (World.cell?_of_block ((Off.alloc [] wc _).block g hgl (by simp))).trans h1
      have hcs : ¬ cap = s := by have := HN.out.2.1; omega
      have hl4 : (rvs (L.drop s)).length = (n - s) * 4 := by rw [rvs_len, List.length_drop, ← HN.out.1]
      go_wp2_with (at_builtin; refine wpList_append_own _ rfl (.tmp 12) (.tmp 18) 22 rfl wc.heap.size 32 i0 _ 4 24 Try.underlying22 hi hz0 hz1 hz2 rfl (by decide) _ 0 [] rfl hown ⟨g, s * 4, none⟩ (n - s) (cap - s) (rvs (L.drop s)) rfl hl4 hnews (rvs_one' _) (by unfold maxLen; omega) (by omega) hsz ?_)
      intro v3 w3 hown3 hgrow3 _
      have HO : Hid (w3.ownsRow wc.heap.size 32 4 v3 (lst L).length (rvs (lst L)) ∧ Below wc.heap.size wc w3) := by
        refine ⟨?_, hbl.grown hgrow3 hsz (fun j hj => (hown.lt j hj).1)⟩
        rw [HN.out.2.2.1, HN.out.2.2.2]
        exact hown3
      clear hown3 hgrow3 hown hnews hl4 hbl
      go_wp2_with fail
      go_ret
      exact ⟨_, rfl, HO⟩
end Go.Proofs.Yteaekoacongbcaa
