/- The greatest number of a client's; places that rise: plain. -/
import Derived.Test.YtkalpdfigdaalaaUAskA
namespace Go.Proofs.Ytkalpdfigdaalaa
open Go.RowKit

/-- the greatest Seq of a client's, 0 where there is none above it. -/
def topOf (c : Int) (es : List En) : Int := es.foldl (fun m e => if e.client = c then max m e.seq else m) 0
theorem topOf_nil (c : Int) : topOf c [] = 0 := rfl
theorem topOf_snoc (c : Int) (es : List En) (e : En) : topOf c (es ++ [e]) = if e.client = c then max (topOf c es) e.seq else topOf c es := by
  unfold topOf; rw [List.foldl_append]; rfl
theorem topOf_take {c : Int} {es : List En} {k : Nat} {e : En} (h : es[k]? = some e) : topOf c (es.take (k + 1)) = if e.client = c then max (topOf c (es.take k)) e.seq else topOf c (es.take k) := by
  rw [List.take_add_one, h]; exact topOf_snoc c _ e
theorem rev_rec {P : List En → Prop} (h0 : P []) (h1 : ∀ es e, P es → P (es ++ [e])) (es : List En) : P es := by
  have : ∀ n, ∀ l : List En, l.length = n → P l := fun n => by
    induction n with
    | zero => intro l hl; rw [List.eq_nil_of_length_eq_zero hl]; exact h0
    | succ n ih =>
      intro l hl
      have hne : l ≠ [] := fun e => by rw [e] at hl; simp at hl
      have := h1 l.dropLast (l.getLast hne) (ih _ (by simp [hl]))
      rwa [List.dropLast_concat_getLast] at this
  exact this _ es rfl
theorem topOf_lt (c s : Int) (es : List En) : topOf c es < s ↔ 0 < s ∧ ∀ x ∈ sq c es, x < s := by
  refine rev_rec (P := fun es => topOf c es < s ↔ 0 < s ∧ ∀ x ∈ sq c es, x < s) ?_ ?_ es
  · simp [topOf_nil, sq]
  · intro es e ih
    rw [topOf_snoc, sq_snoc]
    by_cases h : e.client = c
    · rw [if_pos h, if_pos h, Int.max_lt, ih]
      constructor
      · rintro ⟨⟨a, b⟩, d⟩
        refine ⟨a, fun x hx => ?_⟩
        rw [List.mem_append] at hx
        rcases hx with hx | hx
        · exact b x hx
        · simp at hx; omega
      · rintro ⟨a, b⟩
        exact ⟨⟨a, fun x hx => b x (List.mem_append_left _ hx)⟩, b _ (by simp)⟩
    · rw [if_neg h, if_neg h, List.append_nil]; exact ih
theorem topOf_nonneg (c : Int) (es : List En) : 0 ≤ topOf c es := by
  refine rev_rec (P := fun es => 0 ≤ topOf c es) (by simp [topOf_nil]) ?_ es
  intro es e ih
  rw [topOf_snoc]
  split
  · omega
  · exact ih
/-- when an entry is placed, told by the greatest number. -/
theorem mayPut_top {es : List En} (hr : Rise es) (e : En) : mayPut es e ↔ isReq e.kind ∧ 1 ≤ e.client ∧ topOf e.client es < e.seq := by
  unfold mayPut
  rw [findOf_two hr, topOf_lt]
  constructor
  · rintro ⟨a, b, d⟩; exact ⟨a, by omega, by omega, d⟩
  · rintro ⟨a, b, d, f⟩; exact ⟨a, by omega, f⟩
theorem topOf_put_le (c : Int) (es : List En) (f : En) : topOf c es ≤ topOf c (putOf es f) := by
  unfold putOf
  split
  · rw [topOf_snoc]; split <;> omega
  · omega
/-- what was asked once is not placed again. -/
theorem mayPut_again {es : List En} (hr : Rise es) (e : En) : ¬ mayPut (putOf es e) e := fun h => by
  rw [mayPut_top (hr.put e)] at h
  unfold putOf at h
  by_cases hm : mayPut es e
  · rw [if_pos hm, topOf_snoc, if_pos rfl] at h; omega
  · rw [if_neg hm] at h; exact hm ((mayPut_top hr e).2 h)
theorem mayPut_less {es : List En} (hr : Rise es) (e f : En) (h : ¬ mayPut es e) : ¬ mayPut (putOf es f) e := fun h2 => by
  rw [mayPut_top (hr.put f)] at h2
  have := topOf_put_le e.client es f
  exact h ((mayPut_top hr e).2 ⟨h2.1, h2.2.1, by omega⟩)
def putAll (es : List En) (fs : List En) : List En := fs.foldl putOf es
theorem putAll_nil (es : List En) : putAll es [] = es := rfl
theorem putAll_snoc (es fs : List En) (f : En) : putAll es (fs ++ [f]) = putOf (putAll es fs) f := by
  unfold putAll; rw [List.foldl_append]; rfl
theorem putAll_take {es fs : List En} {k : Nat} {f : En} (h : fs[k]? = some f) : putAll es (fs.take (k + 1)) = putOf (putAll es (fs.take k)) f := by
  rw [List.take_add_one, h]; exact putAll_snoc es _ f
theorem putAll_rise {es : List En} (hr : Rise es) (fs : List En) : Rise (putAll es fs) := by
  refine rev_rec (P := fun fs => Rise (putAll es fs)) hr ?_ fs
  intro fs f ih
  rw [putAll_snoc]; exact ih.put f
theorem putAll_len (es fs : List En) : (putAll es fs).length ≤ es.length + fs.length := by
  refine rev_rec (P := fun fs => (putAll es fs).length ≤ es.length + fs.length) (by simp [putAll_nil]) ?_ fs
  intro fs f ih
  rw [putAll_snoc]
  unfold putOf
  split <;> simp <;> omega
/-- of entries that were all put none is placed again. -/
theorem putAll_again {es : List En} (hr : Rise es) (fs : List En) : ∀ e ∈ fs, ¬ mayPut (putAll es fs) e := by
  refine rev_rec (P := fun fs => ∀ e ∈ fs, ¬ mayPut (putAll es fs) e) (by simp) ?_ fs
  intro fs f ih e he
  rw [putAll_snoc]
  rw [List.mem_append] at he
  rcases he with he | he
  · exact mayPut_less (putAll_rise hr fs) e f (ih e he)
  · simp at he; subst he
    exact mayPut_again (putAll_rise hr fs) e
/-- a client's places rise with its numbers. -/
theorem findOf_rise {es : List En} (hr : Rise es) {c s t : Int} (hst : s < t) (hs : 0 < (findOf es c s).1) (ht : 0 < (findOf es c t).1) : (findOf es c s).1 < (findOf es c t).1 := by
  have key : ∀ u : Int, 0 < (findOf es c u).1 → ¬ (c < 1 ∨ u < 1) ∧ ∃ (i : Nat) (e : En), es[i]? = some e ∧ e.client = c ∧ e.seq = u ∧ findOf es c u = ((i : Int) + 1, 0) := fun u hu => by
    have hb : ¬ (c < 1 ∨ u < 1) := fun hb => by rw [findOf_bad hb] at hu; simp at hu
    have hm := (findOf_mem hr hb).1 (findOf_pos hu)
    obtain ⟨i, e, hi, hc, hse⟩ := mem_sq.1 hm
    exact ⟨hb, i, e, hi, hc, hse, findOf_at hr hb hi hc hse⟩
  obtain ⟨-, i, e, hi, hc, he, hfs⟩ := key s hs
  obtain ⟨-, j, f, hj, hc2, hf, hft⟩ := key t ht
  rw [hfs, hft]
  simp only
  by_cases hij : i < j
  · omega
  · have hne : i ≠ j := fun x => by subst x; rw [hi] at hj; cases hj; omega
    have hp := hr c
    have hp2 : (es.take (j + 1) ++ es.drop (j + 1)) = es := List.take_append_drop _ _
    rw [← hp2] at hp
    unfold sq at hp
    rw [List.filter_append, List.map_append, List.pairwise_append] at hp
    have a1 : t ∈ ((es.take (j + 1)).filter fun e => decide (e.client = c)).map (·.seq) := by
      simp only [List.mem_map, List.mem_filter, decide_eq_true_eq]
      exact ⟨f, ⟨List.mem_of_getElem? (i := j) (by rw [List.getElem?_take_of_lt (by omega)]; exact hj), hc2⟩, hf⟩
    have a2 : s ∈ ((es.drop (j + 1)).filter fun e => decide (e.client = c)).map (·.seq) := by
      simp only [List.mem_map, List.mem_filter, decide_eq_true_eq]
      exact ⟨e, ⟨List.mem_of_getElem? (i := i - (j + 1)) (by rw [List.getElem?_drop, show j + 1 + (i - (j + 1)) = i by omega]; exact hi), hc⟩, he⟩
    have := hp.2.2 t a1 s a2
    omega
theorem findOf_iff (es : List En) (c s : Int) : (findOf es c s).2 = 0 ↔ 0 < (findOf es c s).1 := ⟨fun h => (findOf_ok h).1, findOf_pos⟩
theorem findOf_nonneg (es : List En) (c s : Int) : 0 ≤ (findOf es c s).1 := by
  by_cases h : (findOf es c s).2 = 0
  · exact Int.le_of_lt (findOf_ok h).1
  · rw [findOf_zero h]; exact Int.le_refl _
end Go.Proofs.Ytkalpdfigdaalaa
