/- What a diag says, as lists alone: all records, the last sixteen, how often a code was noted, the codes rising. -/
import Derived.Lib.SlKeysI
namespace Go.Proofs.YtmleiemlfogffaaGreat
set_option maxRecDepth 100000

abbrev R4 := Int × Int × Int × Int
def rv (x : R4) : List Value := [.int .i64 x.1, .int .i64 x.2.1, .int .u32 x.2.2.1, .int .u32 x.2.2.2]
def rvs (L : List R4) : List Value := L.flatMap rv
theorem rv_len (x : R4) : (rv x).length = 4 := rfl
theorem rvs_nil : rvs [] = [] := rfl
theorem rvs_cons (x : R4) (L : List R4) : rvs (x :: L) = rv x ++ rvs L := rfl
theorem rvs_append (L K : List R4) : rvs (L ++ K) = rvs L ++ rvs K := by simp [rvs]
theorem rvs_one (x : R4) : rvs [x] = rv x := by simp [rvs]
theorem rvs_len (L : List R4) : (rvs L).length = L.length * 4 := by
  induction L with
  | nil => rfl
  | cons x L ih => rw [rvs_cons, List.length_append, rv_len, ih, List.length_cons]; omega
theorem rvs_at : ∀ (L : List R4) (i f : Nat), f < 4 → (h : i < L.length) → (rvs L)[i * 4 + f]? = (rv L[i])[f]?
  | [], i, f, _, h => by simp at h
  | x :: L, 0, f, hf, _ => by rw [rvs_cons, List.getElem?_append_left (by rw [rv_len]; omega)]; simp
  | x :: L, i + 1, f, hf, h => by
    have h' : i < L.length := by simpa using h
    rw [rvs_cons, List.getElem?_append_right (by rw [rv_len]; omega), rv_len, show (i + 1) * 4 + f - 4 = i * 4 + f from by omega, rvs_at L i f hf h']
    simp
theorem rvs_inj : ∀ (L K : List R4), rvs L = rvs K → L = K
  | [], [], _ => rfl
  | [], y :: K, h => by have := congrArg List.length h; rw [rvs_len, rvs_len] at this; simp at this
  | x :: L, [], h => by have := congrArg List.length h; rw [rvs_len, rvs_len] at this; simp at this
  | x :: L, y :: K, h => by
    rw [rvs_cons, rvs_cons] at h
    obtain ⟨h1, h2⟩ := List.append_inj h rfl
    rw [rvs_inj L K h2]
    obtain ⟨a, b, c, d⟩ := x
    obtain ⟨a', b', c', d'⟩ := y
    simp [rv] at h1
    simp [h1]

/-- The last sixteen. -/
def lst (L : List R4) : List R4 := L.drop (L.length - 16)
theorem lst_len (L : List R4) : (lst L).length = min L.length 16 := by rw [lst, List.length_drop]; omega
theorem lst_at (L : List R4) (i : Nat) (h : i < (lst L).length) : (lst L)[i] = L[L.length - 16 + i]'(by rw [lst_len] at h; omega) := by
  simp [lst]

/-- Each record bears its number. -/
def Nmb (L : List R4) : Prop := ∀ i (h : i < L.length), (L[i]).1 = i + 1
theorem Nmb.nil : Nmb [] := fun i h => by simp at h
theorem Nmb.snoc {L : List R4} (h : Nmb L) (c s n : Int) : Nmb (L ++ [(((L.length + 1 : Nat) : Int), c, s, n)]) := by
  intro i hi
  by_cases hl : i < L.length
  · rw [List.getElem_append_left hl]; exact h i hl
  · have : i = L.length := by simp at hi; omega
    subst this
    simp

/-- How often a code was noted. -/
def cnt (L : List R4) (c : Int) : Nat := L.countP (fun r => decide (r.2.1 = c))
theorem cnt_nil (c : Int) : cnt [] c = 0 := rfl
theorem cnt_snoc (L : List R4) (r : R4) (c : Int) : cnt (L ++ [r]) c = cnt L c + if r.2.1 = c then 1 else 0 := by
  simp [cnt, List.countP_append, List.countP_cons]
theorem cnt_cons (L : List R4) (r : R4) (c : Int) : cnt (r :: L) c = cnt L c + if r.2.1 = c then 1 else 0 := by
  simp [cnt, List.countP_cons]
theorem cnt_le (L : List R4) (c : Int) : cnt L c ≤ L.length := List.countP_le_length

/-- A code among others, rising. -/
def ins (c : Int) : List Int → List Int
  | [] => [c]
  | x :: l => if x < c then x :: ins c l else if x = c then x :: l else c :: x :: l
def cds (L : List R4) : List Int := L.foldl (fun a r => ins r.2.1 a) []
theorem cds_nil : cds [] = [] := rfl
theorem cds_snoc (L : List R4) (r : R4) : cds (L ++ [r]) = ins r.2.1 (cds L) := by simp [cds, List.foldl_append]
theorem mem_ins (c x : Int) : ∀ l : List Int, x ∈ ins c l ↔ x = c ∨ x ∈ l
  | [] => by simp [ins]
  | y :: l => by
    unfold ins
    by_cases h1 : y < c
    · rw [if_pos h1]; simp [mem_ins c x l]; constructor <;> (rintro (h | h | h) <;> simp [h])
    · rw [if_neg h1]
      by_cases h2 : y = c
      · rw [if_pos h2]; subst h2; simp
      · rw [if_neg h2]; simp
theorem up_ins (c : Int) : ∀ l : List Int, l.Pairwise (· < ·) → (ins c l).Pairwise (· < ·)
  | [], _ => by simp [ins]
  | y :: l, h => by
    obtain ⟨hy, hl⟩ := List.pairwise_cons.1 h
    unfold ins
    by_cases h1 : y < c
    · rw [if_pos h1]
      refine List.pairwise_cons.2 ⟨fun x hx => ?_, up_ins c l hl⟩
      rcases (mem_ins c x l).1 hx with rfl | hx
      · exact h1
      · exact hy x hx
    · rw [if_neg h1]
      by_cases h2 : y = c
      · rw [if_pos h2]; exact h
      · rw [if_neg h2]
        refine List.pairwise_cons.2 ⟨fun x hx => ?_, h⟩
        rcases List.mem_cons.1 hx with rfl | hx
        · omega
        · have := hy x hx; omega
/-- The places: as many as are less stand ahead of it. -/
def lo (c : Int) : List Int → Nat
  | [] => 0
  | x :: l => if x < c then lo c l + 1 else 0
theorem lo_le (c : Int) : ∀ l : List Int, lo c l ≤ l.length
  | [] => Nat.le_refl _
  | x :: l => by
    have := lo_le c l
    by_cases hx : x < c
    · rw [lo, if_pos hx]; simp; omega
    · rw [lo, if_neg hx]; simp
theorem lo_less (c : Int) : ∀ (l : List Int) (i : Nat) (h : i < l.length), i < lo c l → l[i] < c
  | [], i, h, _ => by simp at h
  | x :: l, i, h, hi => by
    unfold lo at hi
    split at hi
    · cases i with
      | zero => simpa
      | succ i => simpa using lo_less c l i (by simpa using h) (by omega)
    · omega
theorem lo_stop (c : Int) : ∀ (l : List Int) (h : lo c l < l.length), ¬ l[lo c l] < c
  | [], h => by simp [lo] at h
  | x :: l, h => by
    by_cases hx : x < c
    · have e : lo c (x :: l) = lo c l + 1 := by rw [lo, if_pos hx]
      have h' : lo c l < l.length := by rw [e] at h; simpa using h
      have := lo_stop c l h'
      simpa [e] using this
    · have e : lo c (x :: l) = 0 := by rw [lo, if_neg hx]
      simpa [e] using hx
theorem ins_lo (c : Int) : ∀ l : List Int, ins c l = if h : lo c l < l.length then (if l[lo c l] = c then l else l.take (lo c l) ++ [c] ++ l.drop (lo c l)) else l ++ [c]
  | [] => by simp [ins, lo]
  | x :: l => by
    by_cases hx : x < c
    · have e : lo c (x :: l) = lo c l + 1 := by rw [lo, if_pos hx]
      have hi : ins c (x :: l) = x :: ins c l := by rw [ins, if_pos hx]
      rw [hi, ins_lo c l]
      by_cases h : lo c l < l.length
      · rw [dif_pos h, dif_pos (by rw [e]; simpa using h)]
        by_cases h2 : l[lo c l] = c
        · rw [if_pos h2, if_pos (by simpa [e] using h2)]
        · rw [if_neg h2, if_neg (by simpa [e] using h2)]
          simp [e]
      · rw [dif_neg h, dif_neg (by rw [e]; simpa using h)]
        simp
    · have e : lo c (x :: l) = 0 := by rw [lo, if_neg hx]
      rw [dif_pos (by rw [e]; simp), ins, if_neg hx]
      by_cases h2 : x = c
      · rw [if_pos h2, if_pos (by simpa [e] using h2)]
      · rw [if_neg h2, if_neg (by simpa [e] using h2)]
        simp [e]
theorem up_cds_rev (L : List R4) : ∀ a : List Int, a.Pairwise (· < ·) → (L.foldl (fun a r => ins r.2.1 a) a).Pairwise (· < ·) := by
  induction L with
  | nil => intro a h; exact h
  | cons x L ih => intro a h; exact ih _ (up_ins _ _ h)
theorem up_cds (L : List R4) : (cds L).Pairwise (· < ·) := up_cds_rev L [] List.Pairwise.nil
theorem mem_fold (L : List R4) (c : Int) : ∀ a : List Int, c ∈ L.foldl (fun a r => ins r.2.1 a) a ↔ 0 < cnt L c ∨ c ∈ a := by
  induction L with
  | nil => intro a; simp [cnt]
  | cons x L ih =>
    intro a
    rw [List.foldl_cons, ih, mem_ins, cnt_cons]
    by_cases h : x.2.1 = c
    · rw [if_pos h]; constructor
      · intro _; left; omega
      · intro _; right; left; exact h.symm
    · rw [if_neg h]; constructor
      · rintro (h1 | rfl | h1)
        · left; omega
        · exact absurd rfl h
        · right; exact h1
      · rintro (h1 | h1)
        · left; omega
        · right; right; exact h1
theorem mem_cds (L : List R4) (c : Int) : c ∈ cds L ↔ 0 < cnt L c := by rw [cds, mem_fold]; simp
theorem nodup_cds (L : List R4) : (cds L).Nodup := (up_cds L).imp (fun h => by omega)
theorem cds_len (L : List R4) : (cds L).length ≤ L.length := by
  have : ∀ (c : Int) (l : List Int), (ins c l).length ≤ l.length + 1 := by
    intro c l
    induction l with
    | nil => simp [ins]
    | cons x l ih =>
      by_cases h1 : x < c
      · rw [ins, if_pos h1]; simp; omega
      · rw [ins, if_neg h1]
        by_cases h2 : x = c
        · rw [if_pos h2]; simp
        · rw [if_neg h2]; simp
  have key : ∀ (L : List R4) (a : List Int), (L.foldl (fun a r => ins r.2.1 a) a).length ≤ a.length + L.length := by
    intro L
    induction L with
    | nil => intro a; simp
    | cons x L ih => intro a; have h1 := ih (ins x.2.1 a); have h2 := this x.2.1 a; simp only [List.foldl_cons, List.length_cons]; omega
  have := key L []
  simpa [cds] using this
/-- A rising list sorted is itself. -/
theorem sorted_up {l ss : List Int} (hu : l.Pairwise (· < ·)) (hp : ss.Perm l) : ss.mergeSort (fun x y => decide (x ≤ y)) = l := by
  rw [mergeSort_of_perm_i hp]
  refine List.mergeSort_of_pairwise (hu.imp fun h => ?_)
  simp only [decide_eq_true_eq]; omega
/-- Over the codes the counts sum up. -/
theorem sum_cnt (S : List Int) (hS : S.Nodup) : ∀ L : List R4, (∀ r ∈ L, r.2.1 ∈ S) → (S.map (cnt L)).sum = L.length
  | [], _ => by
    have : ∀ S : List Int, (S.map (cnt [])).sum = 0 := by
      intro S
      induction S with
      | nil => rfl
      | cons x S ih => rw [List.map_cons, List.sum_cons, ih]; rfl
    rw [this]; rfl
  | x :: L, h => by
    have ih := sum_cnt S hS L (fun r hr => h r (List.mem_cons_of_mem _ hr))
    have hx : x.2.1 ∈ S := h x (List.mem_cons_self ..)
    have key : ∀ S : List Int, S.Nodup → (S.map (cnt (x :: L))).sum = (S.map (cnt L)).sum + if x.2.1 ∈ S then 1 else 0 := by
      intro S
      induction S with
      | nil => intro _; simp
      | cons y S ih =>
        intro hn
        obtain ⟨hy, hn⟩ := List.nodup_cons.1 hn
        rw [List.map_cons, List.sum_cons, List.map_cons, List.sum_cons, ih hn, cnt_cons]
        by_cases e : x.2.1 = y
        · rw [if_pos e, if_neg (by rw [e]; exact hy), if_pos (by simp [e])]; omega
        · rw [if_neg e]
          by_cases h2 : x.2.1 ∈ S
          · rw [if_pos h2, if_pos (List.mem_cons_of_mem _ h2)]; omega
          · rw [if_neg h2, if_neg (by simp [e, h2])]; omega
    rw [key S hS, ih, if_pos hx, List.length_cons]
theorem cds_sum (L : List R4) : ((cds L).map (cnt L)).sum = L.length :=
  sum_cnt _ (nodup_cds L) L fun r hr => (mem_cds L _).2 (List.countP_pos_iff.2 ⟨r, hr, by simp⟩)
theorem take_sum (f : Int → Nat) : ∀ (l : List Int) (i : Nat) (h : i < l.length), ((l.take (i + 1)).map f).sum = ((l.take i).map f).sum + f l[i]
  | [], i, h => by simp at h
  | x :: l, 0, _ => by simp
  | x :: l, i + 1, h => by
    have := take_sum f l i (by simpa using h)
    simp only [List.take_succ_cons, List.map_cons, List.sum_cons, List.getElem_cons_succ] at *
    omega
end Go.Proofs.YtmleiemlfogffaaGreat
