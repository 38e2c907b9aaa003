/- Logs of the same leaders match: plain lists. -/
import Derived.Test.YtmjiccpombkdlaaHTOk
import Derived.Test.YtmjiccpombkdlaaHMatch
namespace Go.Proofs.Ytmjiccpombkdlaa

theorem Matches.refl (X : List Rw) : Matches X X := fun _ _ _ _ _ _ => rfl
theorem Matches.symm {X Y : List Rw} (h : Matches X Y) : Matches Y X := fun k r q hr hq e => (h k q r hq hr e.symm).symm
/-- a leader appends entries of a term that nobody has. -/
theorem Matches.grow {X Y Z : List Rw} (h : Matches X Y) {t : Int} (hZ : ∀ r ∈ Z, r.1 = t) (hY : ∀ r ∈ Y, r.1 < t) : Matches (X ++ Z) Y := fun k r q hr hq e => by
  by_cases hk : k < X.length
  · rw [List.getElem?_append_left hk] at hr
    rw [List.take_append_of_le_length (by omega)]
    exact h k r q hr hq e
  · rw [List.getElem?_append_right (by omega)] at hr
    have h1 := hZ r (List.mem_of_getElem? hr)
    have h2 := hY q (List.mem_of_getElem? hq)
    omega
theorem take_snoc {X : List Rw} {k : Nat} {r : Rw} (h : X[k]? = some r) : X.take k ++ [r] = X.take (k + 1) := by
  rw [List.take_add_one, h]; rfl
/-- put behind its own front, a log is whole. -/
theorem go_front {X : List Rw} (h1 : ∀ r ∈ X, 1 ≤ r.1) : ∀ (n k : Nat), X.length - k = n → k ≤ X.length → putGo 0 (X.take k) ((k : Int) + 1) ((X.drop k).map (·.1)) ((X.drop k).map (·.2)) = X := by
  intro n
  induction n with
  | zero =>
    intro k hn hk
    rw [List.drop_of_length_le (by omega), List.map_nil, putGo, List.take_of_length_le (by omega)]
  | succ n ih =>
    intro k hn hk
    have hkl : k < X.length := by omega
    obtain ⟨r, hr⟩ : ∃ r, X[k]? = some r := ⟨_, List.getElem?_eq_getElem hkl⟩
    have hd : X.drop k = r :: X.drop (k + 1) := by
      rw [List.drop_eq_getElem_cons hkl]; congr 1
      rw [List.getElem?_eq_getElem hkl] at hr; exact Option.some.inj hr
    rw [hd, List.map_cons, List.map_cons, putGo]
    have hlen : (X.take k).length = k := by rw [List.length_take]; omega
    have hpl : placed 0 (X.take k) ((k : Int) + 1) r.1 r.2 = X.take (k + 1) := by
      unfold placed
      have ht : termOf 0 (X.take k) ((k : Int) + 1) = 0 := by unfold termOf; rw [rowAt_none (by rw [hlen]; omega)]
      have h0 := h1 r (List.mem_of_getElem? hr)
      rw [if_neg (by omega)]
      have ha : aheadOf 0 (X.take k) ((k : Int) + 1) = k := by unfold aheadOf; rw [if_neg (by omega), hlen]; omega
      rw [ha, List.take_take, Nat.min_self]
      exact take_snoc hr
    rw [hpl]
    have := ih (k + 1) (by omega) (by omega)
    rw [show ((k + 1 : Nat) : Int) + 1 = (k : Int) + 1 + 1 by omega] at this
    exact this
theorem go_match {X : List Rw} (h1 : ∀ r ∈ X, 1 ≤ r.1) {Y : List Rw} (hm : Matches Y X) : ∀ (n k : Nat), X.length - k = n → k ≤ X.length → k ≤ Y.length → Y.take k = X.take k →
    putGo 0 Y ((k : Int) + 1) ((X.drop k).map (·.1)) ((X.drop k).map (·.2)) = Y ∨ putGo 0 Y ((k : Int) + 1) ((X.drop k).map (·.1)) ((X.drop k).map (·.2)) = X := by
  intro n
  induction n with
  | zero =>
    intro k hn hk _ _
    left
    rw [List.drop_of_length_le (by omega), List.map_nil, putGo]
  | succ n ih =>
    intro k hn hk hky ht
    have hkl : k < X.length := by omega
    obtain ⟨r, hr⟩ : ∃ r, X[k]? = some r := ⟨_, List.getElem?_eq_getElem hkl⟩
    have hd : X.drop k = r :: X.drop (k + 1) := by
      rw [List.drop_eq_getElem_cons hkl]; congr 1
      rw [List.getElem?_eq_getElem hkl] at hr; exact Option.some.inj hr
    have h0 := h1 r (List.mem_of_getElem? hr)
    rw [hd, List.map_cons, List.map_cons, putGo]
    by_cases he : termOf 0 Y ((k : Int) + 1) = r.1
    · have hpl : placed 0 Y ((k : Int) + 1) r.1 r.2 = Y := by unfold placed; rw [if_pos he]
      rw [hpl]
      cases hq : Y[k]? with
      | none =>
        have : termOf 0 Y ((k : Int) + 1) = 0 := by
          unfold termOf rowAt
          rw [if_pos (by omega), show ((k : Int) + 1 - 0 - 1).toNat = k by omega, hq]
        omega
      | some q =>
        have e1 : termOf 0 Y ((k : Int) + 1) = q.1 := by
          unfold termOf rowAt
          rw [if_pos (by omega), show ((k : Int) + 1 - 0 - 1).toNat = k by omega, hq]
        have hkl2 := (List.getElem?_eq_some_iff.1 hq).1
        have := ih (k + 1) (by omega) (by omega) (by omega) (hm k q r hq hr (by omega))
        rw [show ((k + 1 : Nat) : Int) + 1 = (k : Int) + 1 + 1 by omega] at this
        exact this
    · right
      have hpl : placed 0 Y ((k : Int) + 1) r.1 r.2 = X.take (k + 1) := by
        unfold placed
        rw [if_neg he]
        have ha : aheadOf 0 Y ((k : Int) + 1) = k := by unfold aheadOf; rw [if_neg (by omega)]; omega
        rw [ha, ht]
        exact take_snoc hr
      rw [hpl]
      have := go_front h1 (X.length - (k + 1)) (k + 1) rfl (by omega)
      rw [show ((k + 1 : Nat) : Int) + 1 = (k : Int) + 1 + 1 by omega] at this
      exact this
/-- what is put of one log's entries into another one leaves that as it is, or makes it the same as the first. -/
theorem put_match {X Y : List Rw} (h1 : ∀ r ∈ X, 1 ≤ r.1) (hm : Matches Y X) {f : Nat} (hf : f ≤ X.length) : putRows 0 Y (f : Int) (termOf 0 X (f : Int)) ((X.drop f).map (·.1)) ((X.drop f).map (·.2)) = Y ∨ putRows 0 Y (f : Int) (termOf 0 X (f : Int)) ((X.drop f).map (·.1)) ((X.drop f).map (·.2)) = X := by
  unfold putRows
  split
  · rename_i h0
    obtain ⟨_, _, _, q4, q5, _⟩ := putNo_zero h0
    refine go_match h1 hm (X.length - f) f rfl hf (by omega) ?_
    by_cases hf0 : f = 0
    · subst hf0; simp
    · exact hm.at (by omega) (by omega) hf (q5 (by omega))
  · exact Or.inl rfl
/-- what holds of the three logs. -/
structure LM (R : Nat → List Rw) (t : Int) : Prop where
  ok : ∀ j, TOk 0 (R j)
  le : ∀ j, ∀ r ∈ R j, r.1 ≤ t
  eq : ∀ i j, Matches (R i) (R j)
  len : ∀ j, (R j).length ≤ 40
def upd {α : Type} (f : Nat → α) (a : Nat) (x : α) (j : Nat) : α := if j = a then x else f j
theorem LM.app {R : Nat → List Rw} {t : Int} (h : LM R t) (a : Nat) (es : List En) (h1 : 0 ≤ t) (hl : (R a).length + es.length ≤ 40) : appNo 0 (R a) (t + 1) es.length = 0 ∧ appRows 0 (R a) (t + 1) es = R a ++ es.map (fun e => (t + 1, e)) ∧ LM (upd R a (R a ++ es.map (fun e => (t + 1, e)))) (t + 1) := by
  have hno : appNo 0 (R a) (t + 1) es.length = 0 := by
    unfold appNo
    have ht : termOf 0 (R a) (0 + ((R a).length : Int)) ≤ t := by
      unfold termOf rowAt
      split
      · rename_i r hr
        split at hr
        · exact h.le a r (List.mem_of_getElem? hr)
        · cases hr
      · exact h1
    rw [if_pos ⟨by omega, by omega⟩, if_pos (by omega)]
  have hrw : appRows 0 (R a) (t + 1) es = R a ++ es.map (fun e => (t + 1, e)) := by unfold appRows; rw [if_pos hno]
  have hZ : ∀ r ∈ es.map (fun e => (t + 1, e)), r.1 = t + 1 := fun r hr => by obtain ⟨e, _, rfl⟩ := List.mem_map.1 hr; rfl
  have hlt : ∀ j, ∀ r ∈ R j, r.1 < t + 1 := fun j r hr => by have := h.le j r hr; omega
  refine ⟨hno, hrw, ⟨fun j => ?_, fun j r hr => ?_, fun i j => ?_, fun j => ?_⟩⟩
  · unfold upd; split
    · rw [← hrw]; exact (h.ok a).app _ _
    · exact h.ok j
  · unfold upd at hr; split at hr
    · rcases List.mem_append.1 hr with q | q
      · have := h.le a r q; omega
      · rw [hZ r q]; exact Int.le_refl _
    · have := h.le j r hr; omega
  · unfold upd; split
    · split
      · exact Matches.refl _
      · exact (h.eq a j).grow hZ (hlt j)
    · split
      · exact ((h.eq a i).grow hZ (hlt i)).symm
      · exact h.eq i j
  · unfold upd; split
    · rw [List.length_append, List.length_map]; exact hl
    · exact h.len j
theorem LM.copy {R : Nat → List Rw} {t : Int} (h : LM R t) (a b : Nat) : LM (upd R b (R a)) t := by
  refine ⟨fun j => ?_, fun j r hr => ?_, fun i j => ?_, fun j => ?_⟩
  · unfold upd; split
    · exact h.ok a
    · exact h.ok j
  · unfold upd at hr; split at hr
    · exact h.le a r hr
    · exact h.le j r hr
  · unfold upd; split
    · split
      · exact Matches.refl _
      · exact h.eq a j
    · split
      · exact h.eq i a
      · exact h.eq i j
  · unfold upd; split
    · exact h.len a
    · exact h.len j
theorem upd_self {α : Type} (f : Nat → α) (a : Nat) : upd f a (f a) = f := by
  funext j; unfold upd; split
  · rename_i e; rw [e]
  · rfl
theorem LM.put {R : Nat → List Rw} {t : Int} (h : LM R t) (a b : Nat) {f : Nat} (hf : f ≤ (R a).length) : LM (upd R b (putRows 0 (R b) (f : Int) (termOf 0 (R a) (f : Int)) (((R a).drop f).map (·.1)) (((R a).drop f).map (·.2)))) t := by
  rcases put_match (fun r hr => (h.ok a).lo r hr) (h.eq b a) hf with e | e
  · rw [e, upd_self]; exact h
  · rw [e]; exact h.copy a b
end Go.Proofs.Ytmjiccpombkdlaa
