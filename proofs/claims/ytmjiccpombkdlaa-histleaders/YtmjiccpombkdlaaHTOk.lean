/- Terms do not fall along a log: plain lists. -/
import Derived.Test.YtmjiccpombkdlaaHApp
import Derived.Test.YtmjiccpombkdlaaHPut
namespace Go.Proofs.Ytmjiccpombkdlaa

structure TOk (b : Int) (rs : List Rw) : Prop where
  lo : ∀ r ∈ rs, 1 ≤ r.1
  up : rs.Pairwise (fun a c => a.1 ≤ c.1)
  hi : b + (rs.length : Int) ≤ 64
theorem termOf_get {b : Int} {rs : List Rw} {i : Nat} {r : Rw} (h : rs[i]? = some r) : termOf b rs (b + (i : Int) + 1) = r.1 := by
  unfold termOf rowAt
  rw [if_pos (by omega), show (b + (i : Int) + 1 - b - 1).toNat = i by omega, h]
theorem TOk.le {b : Int} {rs : List Rw} (h : TOk b rs) {i j : Nat} {r q : Rw} (hi : rs[i]? = some r) (hj : rs[j]? = some q) (hij : i ≤ j) : r.1 ≤ q.1 := by
  obtain ⟨h1, rfl⟩ := List.getElem?_eq_some_iff.1 hi
  obtain ⟨h2, rfl⟩ := List.getElem?_eq_some_iff.1 hj
  by_cases e : i = j
  · subst e; exact Int.le_refl _
  · exact List.pairwise_iff_getElem.1 h.up i j h1 h2 (by omega)
theorem TOk.last {b : Int} {rs : List Rw} (h : TOk b rs) {r : Rw} (hr : r ∈ rs) : r.1 ≤ termOf b rs (b + (rs.length : Int)) := by
  obtain ⟨i, hi, rfl⟩ := List.getElem_of_mem hr
  have hl : rs.length - 1 < rs.length := by omega
  have e := termOf_get (b := b) (List.getElem?_eq_getElem hl)
  rw [show b + ((rs.length - 1 : Nat) : Int) + 1 = b + (rs.length : Int) by omega] at e
  rw [e]
  exact h.le (List.getElem?_eq_getElem hi) (List.getElem?_eq_getElem hl) (by omega)
theorem TOk.app {b : Int} {rs : List Rw} (h : TOk b rs) (t : Int) (es : List En) : TOk b (appRows b rs t es) := by
  unfold appRows
  split
  · rename_i h0
    unfold appNo at h0
    split at h0
    · rename_i h1
      split at h0
      · rename_i h2
        refine ⟨fun r hr => ?_, ?_, ?_⟩
        · rcases List.mem_append.1 hr with q | q
          · exact h.lo r q
          · obtain ⟨e, _, rfl⟩ := List.mem_map.1 q; exact h1.1
        · rw [List.pairwise_append]
          refine ⟨h.up, ?_, fun a ha c hc => ?_⟩
          · rw [List.pairwise_map]
            exact List.pairwise_of_forall (fun _ _ => Int.le_refl _)
          · obtain ⟨e, _, rfl⟩ := List.mem_map.1 hc
            have := h.last ha
            show a.1 ≤ t; omega
        · rw [List.length_append, List.length_map]; omega
      · omega
    · omega
  · exact h
theorem take_mem {rs : List Rw} {k : Nat} {r : Rw} (h : r ∈ rs.take k) : ∃ i, i < k ∧ rs[i]? = some r := by
  obtain ⟨i, hi, rfl⟩ := List.getElem_of_mem h
  rw [List.length_take] at hi
  exact ⟨i, by omega, by rw [List.getElem_take]; exact List.getElem?_eq_getElem (by omega)⟩
/-- one entry is placed, the terms ahead of it being no greater. -/
theorem tok_placed {b : Int} {rs : List Rw} (h : TOk b rs) {k : Nat} (hk : k ≤ rs.length) (h64 : b + (k : Int) + 1 ≤ 64) {t : Int} (ht : 1 ≤ t) (hp : ∀ r ∈ rs.take k, r.1 ≤ t) (e : En) :
    TOk b (placed b rs (b + (k : Int) + 1) t e) ∧ k + 1 ≤ (placed b rs (b + (k : Int) + 1) t e).length ∧ ∀ r ∈ (placed b rs (b + (k : Int) + 1) t e).take (k + 1), r.1 ≤ t := by
  unfold placed
  split
  · rename_i he
    cases hq : rs[k]? with
    | none =>
      have : termOf b rs (b + (k : Int) + 1) = 0 := by
        unfold termOf rowAt
        rw [if_pos (by omega), show (b + (k : Int) + 1 - b - 1).toNat = k by omega, hq]
      omega
    | some q =>
      have hq1 : q.1 = t := by rw [← he, termOf_get hq]
      have hkl := (List.getElem?_eq_some_iff.1 hq).1
      refine ⟨h, by omega, fun r hr => ?_⟩
      obtain ⟨i, hi, hri⟩ := take_mem hr
      rw [← hq1]
      exact h.le hri hq (by omega)
  · have ha : aheadOf b rs (b + (k : Int) + 1) = k := by
      unfold aheadOf
      rw [if_neg (by omega)]; omega
    rw [ha]
    have hl : (rs.take k).length = k := by rw [List.length_take]; omega
    refine ⟨⟨fun r hr => ?_, ?_, ?_⟩, ?_, fun r hr => ?_⟩
    · rcases List.mem_append.1 hr with q | q
      · exact h.lo r (List.mem_of_mem_take q)
      · simp at q; subst q; exact ht
    · rw [List.pairwise_append]
      refine ⟨h.up.sublist (List.take_sublist _ _), List.pairwise_singleton _ _, fun a ha c hc => ?_⟩
      simp at hc; subst hc
      exact hp a ha
    · rw [List.length_append, hl, List.length_singleton]; omega
    · rw [List.length_append, hl, List.length_singleton]; omega
    · rcases List.mem_append.1 (List.mem_of_mem_take hr) with q | q
      · exact hp r q
      · simp at q; subst q; exact Int.le_refl _
theorem TOk.go {b : Int} : ∀ (ts : List Int) (es : List En) (rs : List Rw) (k : Nat) (prev : Int), TOk b rs → k ≤ rs.length → b + (k : Int) + (es.length : Int) ≤ 64 → climbsOf prev ts = true → (∀ r ∈ rs.take k, r.1 ≤ prev) → ts.length = es.length →
    TOk b (putGo b rs (b + (k : Int) + 1) ts es)
  | [], _, rs, k, _, h, _, _, _, _, _ => by rw [putGo]; exact h
  | t :: ts, [], rs, k, _, h, _, _, _, _, _ => by rw [putGo]; exact h
  | t :: ts, e :: es, rs, k, prev, h, hk, h64, hc, hp, hl => by
    rw [putGo]
    unfold climbsOf at hc
    rw [Bool.and_eq_true, decide_eq_true_eq] at hc
    rw [List.length_cons] at h64
    obtain ⟨p1, p2, p3⟩ := tok_placed h hk (by omega) (t := t) (by omega) (fun r hr => by have := hp r hr; omega) e
    have := TOk.go ts es (placed b rs (b + (k : Int) + 1) t e) (k + 1) t p1 p2 (by omega) hc.2 p3 (by simpa using hl)
    rw [show b + ((k + 1 : Nat) : Int) + 1 = b + (k : Int) + 1 + 1 by omega] at this
    exact this
theorem TOk.put {b : Int} {rs : List Rw} (h : TOk b rs) (i t : Int) (ts : List Int) (es : List En) : TOk b (putRows b rs i t ts es) := by
  unfold putRows
  split
  · rename_i h0
    obtain ⟨q1, q2, q3, q4, q5, q6⟩ := putNo_zero h0
    obtain ⟨k, hk⟩ : ∃ k : Nat, i = b + (k : Int) := ⟨(i - b).toNat, by omega⟩
    subst hk
    refine TOk.go ts es rs k t h (by omega) (by omega) q2 (fun r hr => ?_) q1
    obtain ⟨j, hj, hrj⟩ := take_mem hr
    have hbt := q5 (by omega)
    have hl : k - 1 < rs.length := by omega
    have e := termOf_get (b := b) (List.getElem?_eq_getElem hl)
    rw [show b + ((k - 1 : Nat) : Int) + 1 = b + (k : Int) by omega, hbt] at e
    rw [e]
    exact h.le hrj (List.getElem?_eq_getElem hl) (by omega)
  · exact h
theorem TOk.at {rs : List Rw} (h : TOk 0 rs) {k : Int} (h1 : 1 ≤ k) (h2 : k ≤ (rs.length : Int)) : 1 ≤ termOf 0 rs k ∧ termOf 0 rs (k - 1) ≤ termOf 0 rs k ∧ k ≤ 64 := by
  obtain ⟨m, hm⟩ : ∃ m : Nat, k = 0 + (m : Int) + 1 := ⟨(k - 1).toNat, by omega⟩
  have hml : m < rs.length := by omega
  have e := termOf_get (b := 0) (List.getElem?_eq_getElem hml)
  rw [← hm] at e
  have l1 := h.lo _ (List.getElem_mem hml)
  refine ⟨by omega, ?_, by have := h.hi; omega⟩
  by_cases h0 : m = 0
  · have : termOf 0 rs (k - 1) = 0 := by
      unfold termOf rowAt
      rw [if_neg (by omega)]
    omega
  · have e2 := termOf_get (b := 0) (List.getElem?_eq_getElem (show m - 1 < rs.length by omega))
    rw [show (0 : Int) + ((m - 1 : Nat) : Int) + 1 = k - 1 by omega] at e2
    rw [e, e2]
    exact h.le (List.getElem?_eq_getElem (show m - 1 < rs.length by omega)) (List.getElem?_eq_getElem hml) (by omega)
end Go.Proofs.Ytmjiccpombkdlaa
