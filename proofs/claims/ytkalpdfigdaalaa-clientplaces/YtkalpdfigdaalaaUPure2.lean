/- Requests and where they stand: plain, more. -/
import Derived.Test.YtkalpdfigdaalaaUKnown
namespace Go.Proofs.Ytkalpdfigdaalaa
open Go.RowKit

theorem findOf_two {es : List En} (hr : Rise es) (c s : Int) : (findOf es c s).2 = 2 ↔ ¬ (c < 1 ∨ s < 1) ∧ ∀ x ∈ sq c es, x < s :=
  ⟨fun h => findOf_new h hr, fun h => by rw [findOf_new_mk h.1 h.2]⟩
theorem findOf_pos {es : List En} {c s : Int} (h : 0 < (findOf es c s).1) : (findOf es c s).2 = 0 := by
  unfold findOf at h ⊢
  split
  · rename_i hb; rw [if_pos hb] at h; simp at h
  · rename_i hb
    rw [if_neg hb] at h
    split
    · rfl
    · rename_i hf
      rw [hf] at h
      simp only at h
      split at h <;> simp at h
theorem findOf_ok {es : List En} {c s : Int} (h : (findOf es c s).2 = 0) : 0 < (findOf es c s).1 ∧ (findOf es c s).1 ≤ es.length := by
  unfold findOf at h ⊢
  split
  · rename_i hb; rw [if_pos hb] at h; simp at h
  · rename_i hb
    rw [if_neg hb] at h
    split
    · rename_i i hf
      have := (List.findIdx?_eq_some_iff_getElem.1 hf).1
      simp; omega
    · rename_i hf
      rw [hf] at h
      simp only at h
      split at h <;> simp at h
/-- where a request stands, it is in the log. -/
theorem findOf_mem {es : List En} {c s : Int} (hr : Rise es) (hb : ¬ (c < 1 ∨ s < 1)) : (findOf es c s).2 = 0 ↔ s ∈ sq c es := by
  constructor
  · intro h
    by_cases hm : s ∈ sq c es
    · exact hm
    · rw [findOf_none hb hm] at h
      split at h <;> simp at h
  · intro h
    obtain ⟨i, e, hi, hc, hs⟩ := mem_sq.1 h
    rw [findOf_at hr hb hi hc hs]
theorem findOf_stale {es : List En} {c s : Int} (hb : ¬ (c < 1 ∨ s < 1)) (hm : s ∉ sq c es) : findOf es c s = if ∃ x ∈ sq c es, s < x then (0, 19) else (0, 2) := findOf_none hb hm
theorem findOf_zero {es : List En} {c s : Int} (h : ¬ (findOf es c s).2 = 0) : (findOf es c s).1 = 0 := by
  unfold findOf at h ⊢
  split
  · rfl
  · rename_i hb
    rw [if_neg hb] at h
    split
    · rename_i i hf
      rw [hf] at h
      exact absurd rfl h
    · split <;> rfl
/-- what is told behind one entry more. -/
theorem findOf_snoc {es : List En} (hr : Rise es) {e : En} (hm : mayPut es e) (c s : Int) : (findOf (es ++ [e]) c s).1 = if c = e.client ∧ s = e.seq then (es.length : Int) + 1 else (findOf es c s).1 := by
  have hn := findOf_new hm.2 hr
  have hr' : Rise (es ++ [e]) := hr.snoc hn.2
  by_cases hb : c < 1 ∨ s < 1
  · rw [findOf_bad hb, findOf_bad hb, if_neg]
    rintro ⟨rfl, rfl⟩; exact hn.1 hb
  · by_cases hx : c = e.client ∧ s = e.seq
    · rw [if_pos hx, findOf_at hr' hb (i := es.length) (e := e) (by simp) hx.1.symm hx.2.symm]
    · rw [if_neg hx]
      by_cases hs : s ∈ sq c es
      · obtain ⟨i, f, hi, hc, hse⟩ := mem_sq.1 hs
        rw [findOf_at hr hb hi hc hse, findOf_at hr' hb (i := i) (e := f) (by rw [List.getElem?_append_left (List.getElem?_eq_some_iff.1 hi).1]; exact hi) hc hse]
      · have hs' : s ∉ sq c (es ++ [e]) := by
          rw [sq_snoc]
          by_cases hc : e.client = c
          · rw [if_pos hc]
            simp only [List.mem_append, List.mem_singleton, not_or]
            exact ⟨hs, fun h => hx ⟨hc.symm, h⟩⟩
          · rw [if_neg hc]; simpa using hs
        rw [findOf_zero (by rw [findOf_mem hr' hb]; exact hs'), findOf_zero (by rw [findOf_mem hr hb]; exact hs)]
/-- one client's numbers, up to a greatest one. -/
structure Top (c : Int) (es : List En) (top : Int) : Prop where
  rise : Rise es
  le : ∀ x ∈ sq c es, x ≤ top
  mem : (top = 0 ∧ sq c es = []) ∨ top ∈ sq c es
theorem Top.nil (c : Int) : Top c [] 0 := ⟨Rise.nil, by simp [sq], Or.inl ⟨rfl, rfl⟩⟩
theorem Top.two {c top : Int} {es : List En} (h : Top c es top) (hc : 1 ≤ c) {s : Int} (hs : 1 ≤ s) : (findOf es c s).2 = 2 ↔ top < s := by
  rw [findOf_two h.rise]
  constructor
  · rintro ⟨-, h2⟩
    rcases h.mem with ⟨rfl, -⟩ | hm
    · omega
    · exact h2 _ hm
  · intro h2
    exact ⟨by omega, fun x hx => by have := h.le x hx; omega⟩
theorem Top.snoc {c top : Int} {es : List En} (h : Top c es top) {e : En} (hm : mayPut es e) (hc : e.client = c) : Top c (es ++ [e]) e.seq := by
  have hn := findOf_new hm.2 h.rise
  rw [hc] at hn
  refine ⟨h.rise.snoc (by rw [hc]; exact hn.2), fun x hx => ?_, Or.inr ?_⟩
  · rw [sq_snoc, if_pos hc, List.mem_append] at hx
    rcases hx with hx | hx
    · have := hn.2 x hx; omega
    · simp at hx; omega
  · rw [sq_snoc, if_pos hc]; simp
theorem Top.stale {c top : Int} {es : List En} (h : Top c es top) (hc : 1 ≤ c) {s : Int} (hs : 1 ≤ s) (h0 : ¬ 0 < (findOf es c s).1) : findOf es c s = if s < top then (0, 19) else (0, 2) := by
  have hb : ¬ (c < 1 ∨ s < 1) := by omega
  have hm : s ∉ sq c es := fun hm => h0 (findOf_ok ((findOf_mem h.rise hb).2 hm)).1
  rw [findOf_none hb hm]
  by_cases hlt : s < top
  · rw [if_pos hlt, if_pos]
    rcases h.mem with ⟨rfl, -⟩ | hm'
    · omega
    · exact ⟨top, hm', hlt⟩
  · rw [if_neg hlt, if_neg]
    rintro ⟨x, hx, hx2⟩
    have := h.le x hx; omega
end Go.Proofs.Ytkalpdfigdaalaa
