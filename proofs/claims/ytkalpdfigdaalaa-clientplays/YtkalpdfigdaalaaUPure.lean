/- Requests and where they stand: plain. -/
import Derived.Test.YtkalpdfigdaalaaUBase
namespace Go.Proofs.Ytkalpdfigdaalaa
open Go.RowKit

/-- the places of a client's entries, of rows that begin behind k others. -/
def plcN (c : Int) : Nat → List En → List Nat
  | _, [] => []
  | k, e :: es => if e.client = c then (k + 1) :: plcN c (k + 1) es else plcN c (k + 1) es
def plc (c : Int) (es : List En) : List Nat := plcN c 0 es
/-- the Seqs of a client's entries. -/
def sq (c : Int) (es : List En) : List Int := (es.filter fun e => decide (e.client = c)).map (·.seq)
theorem plcN_snoc (c : Int) (es : List En) (e : En) (k : Nat) : plcN c k (es ++ [e]) = plcN c k es ++ (if e.client = c then [k + es.length + 1] else []) := by
  induction es generalizing k with
  | nil => by_cases h : e.client = c <;> simp [plcN, h]
  | cons x es ih =>
    by_cases h : x.client = c
    · simp only [List.cons_append, plcN, if_pos h, ih, List.length_cons]
      by_cases h2 : e.client = c
      · simp [h2]; omega
      · simp [h2]
    · simp only [List.cons_append, plcN, if_neg h, ih, List.length_cons]
      by_cases h2 : e.client = c
      · simp [h2]; omega
      · simp [h2]
theorem plc_snoc (c : Int) (es : List En) (e : En) : plc c (es ++ [e]) = plc c es ++ (if e.client = c then [es.length + 1] else []) := by
  unfold plc; rw [plcN_snoc]; simp
theorem sq_snoc (c : Int) (es : List En) (e : En) : sq c (es ++ [e]) = sq c es ++ (if e.client = c then [e.seq] else []) := by
  unfold sq; rw [List.filter_append]
  by_cases h : e.client = c <;> simp [h]
theorem plcN_at (c : Int) (es : List En) (k h p : Nat) (hp : (plcN c k es)[h]? = some p) : ∃ i e, p = k + i + 1 ∧ es[i]? = some e ∧ e.client = c ∧ (sq c es)[h]? = some e.seq := by
  induction es generalizing k h with
  | nil => simp [plcN] at hp
  | cons x es ih =>
    by_cases hx : x.client = c
    · simp only [plcN, if_pos hx] at hp
      cases h with
      | zero =>
        simp at hp
        exact ⟨0, x, by omega, rfl, hx, by simp [sq, hx]⟩
      | succ h =>
        simp at hp
        obtain ⟨i, e, h1, h2, h3, h4⟩ := ih (k + 1) h hp
        exact ⟨i + 1, e, by omega, h2, h3, by simp [sq, hx] at h4 ⊢; exact h4⟩
    · simp only [plcN, if_neg hx] at hp
      obtain ⟨i, e, h1, h2, h3, h4⟩ := ih (k + 1) h hp
      exact ⟨i + 1, e, by omega, h2, h3, by simp [sq, hx] at h4 ⊢; exact h4⟩
theorem plcN_len (c : Int) (es : List En) (k : Nat) : (plcN c k es).length = (sq c es).length := by
  induction es generalizing k with
  | nil => rfl
  | cons x es ih =>
    by_cases hx : x.client = c
    · simp [plcN, sq, hx] at ih ⊢; exact ih (k + 1)
    · simp [plcN, sq, hx] at ih ⊢; exact ih (k + 1)
theorem plc_len (c : Int) (es : List En) : (plc c es).length = (sq c es).length := plcN_len c es 0
theorem sq_le (c : Int) (es : List En) : (sq c es).length ≤ es.length := by
  unfold sq; rw [List.length_map]; exact List.length_filter_le _ _
/-- a place of a client's. -/
theorem plc_at {c : Int} {es : List En} {h p : Nat} (hp : (plc c es)[h]? = some p) : ∃ i e, p = i + 1 ∧ es[i]? = some e ∧ e.client = c ∧ (sq c es)[h]? = some e.seq := by
  obtain ⟨i, e, h1, h2⟩ := plcN_at c es 0 h p hp
  exact ⟨i, e, by omega, h2⟩
theorem mem_sq {c s : Int} {es : List En} : s ∈ sq c es ↔ ∃ (i : Nat) (e : En), es[i]? = some e ∧ e.client = c ∧ e.seq = s := by
  unfold sq
  simp only [List.mem_map, List.mem_filter, decide_eq_true_eq]
  constructor
  · rintro ⟨e, ⟨h1, h2⟩, h3⟩
    obtain ⟨i, hi⟩ := List.getElem?_of_mem h1
    exact ⟨i, e, hi, h2, h3⟩
  · rintro ⟨i, e, h1, h2, h3⟩
    exact ⟨e, ⟨List.mem_of_getElem? h1, h2⟩, h3⟩
/-- each client's Seqs rise. -/
def Rise (es : List En) : Prop := ∀ c, (sq c es).Pairwise (· < ·)
theorem Rise.nil : Rise [] := fun c => by simp [sq]
theorem Rise.snoc {es : List En} (h : Rise es) {e : En} (hn : ∀ s ∈ sq e.client es, s < e.seq) : Rise (es ++ [e]) := fun c => by
  rw [sq_snoc]
  by_cases hc : e.client = c
  · subst hc
    rw [if_pos rfl, List.pairwise_append]
    exact ⟨h _, by simp, fun a ha b hb => by simp at hb; subst hb; exact hn a ha⟩
  · rw [if_neg hc, List.append_nil]; exact h c

/-- what Ask tells: the place (0: none), the number. -/
def findOf (es : List En) (c s : Int) : Int × Int :=
  if c < 1 ∨ s < 1 then (0, 1) else
    match es.findIdx? (fun e => decide (e.client = c ∧ e.seq = s)) with
    | some i => ((i : Int) + 1, 0)
    | none => if (es.any fun e => decide (e.client = c ∧ s < e.seq)) = true then (0, 19) else (0, 2)
abbrev isReq (k : Int) : Prop := k = 1 ∨ k = 2 ∨ k = 3
/-- whether an entry is placed. -/
abbrev mayPut (es : List En) (e : En) : Prop := isReq e.kind ∧ (findOf es e.client e.seq).2 = 2
def putOf (es : List En) (e : En) : List En := if mayPut es e then es ++ [e] else es
theorem findOf_bad {es : List En} {c s : Int} (h : c < 1 ∨ s < 1) : findOf es c s = (0, 1) := by unfold findOf; rw [if_pos h]
/-- the request stands at a place. -/
theorem findOf_at {es : List En} (hr : Rise es) {c s : Int} (h : ¬ (c < 1 ∨ s < 1)) {i : Nat} {e : En} (hi : es[i]? = some e) (hc : e.client = c) (hs : e.seq = s) : findOf es c s = ((i : Int) + 1, 0) := by
  have hu : ∀ (j : Nat) (f : En), es[j]? = some f → j < i → f.client = c → f.seq = s → False := fun j f hj hlt h1 h2 => by
    have hp : (es.take (j + 1) ++ es.drop (j + 1)) = es := List.take_append_drop _ _
    have hr' := hr c
    rw [← hp] at hr'
    unfold sq at hr'
    rw [List.filter_append, List.map_append, List.pairwise_append] at hr'
    have a1 : s ∈ ((es.take (j + 1)).filter fun e => decide (e.client = c)).map (·.seq) := by
      simp only [List.mem_map, List.mem_filter, decide_eq_true_eq]
      refine ⟨f, ⟨?_, h1⟩, h2⟩
      exact List.mem_of_getElem? (i := j) (by rw [List.getElem?_take_of_lt (by omega)]; exact hj)
    have a2 : s ∈ ((es.drop (j + 1)).filter fun e => decide (e.client = c)).map (·.seq) := by
      simp only [List.mem_map, List.mem_filter, decide_eq_true_eq]
      refine ⟨e, ⟨?_, hc⟩, hs⟩
      exact List.mem_of_getElem? (i := i - (j + 1)) (by rw [List.getElem?_drop, show j + 1 + (i - (j + 1)) = i by omega]; exact hi)
    exact absurd (hr'.2.2 s a1 s a2) (by omega)
  have hf : es.findIdx? (fun e => decide (e.client = c ∧ e.seq = s)) = some i := by
    rw [List.findIdx?_eq_some_iff_getElem]
    have hlt := (List.getElem?_eq_some_iff.1 hi).1
    have hge := (List.getElem?_eq_some_iff.1 hi).2
    refine ⟨hlt, by rw [hge]; simp [hc, hs], fun j hj => ?_⟩
    simp only [decide_eq_true_eq]
    intro hh
    exact hu j es[j] (List.getElem?_eq_getElem (by omega)) hj hh.1 hh.2
  unfold findOf
  rw [if_neg h, hf]
theorem findOf_none {es : List En} {c s : Int} (h : ¬ (c < 1 ∨ s < 1)) (hn : s ∉ sq c es) : findOf es c s = if ∃ x ∈ sq c es, s < x then (0, 19) else (0, 2) := by
  have hf : es.findIdx? (fun e => decide (e.client = c ∧ e.seq = s)) = none := by
    rw [List.findIdx?_eq_none_iff]
    intro e he
    simp only [decide_eq_false_iff_not]
    intro hh
    obtain ⟨i, hi⟩ := List.getElem?_of_mem he
    exact hn (mem_sq.2 ⟨i, e, hi, hh.1, hh.2⟩)
  unfold findOf
  rw [if_neg h, hf]
  have : ((es.any fun e => decide (e.client = c ∧ s < e.seq)) = true) ↔ ∃ x ∈ sq c es, s < x := by
    simp only [List.any_eq_true, decide_eq_true_eq]
    constructor
    · rintro ⟨e, h1, h2, h3⟩
      obtain ⟨i, hi⟩ := List.getElem?_of_mem h1
      exact ⟨e.seq, mem_sq.2 ⟨i, e, hi, h2, rfl⟩, h3⟩
    · rintro ⟨x, h1, h2⟩
      obtain ⟨i, e, hi, h3, h4⟩ := mem_sq.1 h1
      exact ⟨e, List.mem_of_getElem? hi, h3, by omega⟩
  simp only [this]
/-- what is greater than all may be placed. -/
theorem findOf_new {es : List En} {c s : Int} (h : (findOf es c s).2 = 2) (hr : Rise es) : ¬ (c < 1 ∨ s < 1) ∧ ∀ x ∈ sq c es, x < s := by
  by_cases hb : c < 1 ∨ s < 1
  · rw [findOf_bad hb] at h; cases h
  · refine ⟨hb, fun x hx => ?_⟩
    by_cases hm : s ∈ sq c es
    · obtain ⟨i, e, hi, hc, hs⟩ := mem_sq.1 hm
      rw [findOf_at hr hb hi hc hs] at h; cases h
    · rw [findOf_none hb hm] at h
      by_cases hg : ∃ x ∈ sq c es, s < x
      · rw [if_pos hg] at h; cases h
      · have h1 : ¬ s < x := fun hlt => hg ⟨x, hx, hlt⟩
        have h2 : x ≠ s := fun e => hm (e ▸ hx)
        omega
theorem findOf_new_mk {es : List En} {c s : Int} (hb : ¬ (c < 1 ∨ s < 1)) (ha : ∀ x ∈ sq c es, x < s) : findOf es c s = (0, 2) := by
  have hm : s ∉ sq c es := fun h => absurd (ha s h) (by omega)
  rw [findOf_none hb hm, if_neg (by rintro ⟨x, hx, hlt⟩; have := ha x hx; omega)]
theorem Rise.put {es : List En} (h : Rise es) (e : En) : Rise (putOf es e) := by
  unfold putOf
  by_cases hp : mayPut es e
  · rw [if_pos hp]; exact h.snoc (findOf_new hp.2 h).2
  · rw [if_neg hp]; exact h
end Go.Proofs.Ytkalpdfigdaalaa
