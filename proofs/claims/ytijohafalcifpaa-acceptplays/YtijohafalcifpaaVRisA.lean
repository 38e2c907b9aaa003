/- AcceptRises: what is kept of ballots. Plain. -/
import Derived.Test.YtijohafalcifpaaVTelA
namespace Go.Proofs.Ytijohafalcifpaa
open Go.RowKit Go.Maps

theorem noOf_zero {P b : Int} {bad : Bool} (h : noOf P b bad = 0) : 1 ≤ b ∧ bad = false ∧ P ≤ b := by
  unfold noOf at h
  split at h
  · cases h
  · split at h
    · cases h
    · rename_i h1 h2
      cases bad
      · exact ⟨by simp at h1; omega, rfl, by omega⟩
      · simp at h1
/-- no vote is above what is promised, nor below what the row says. -/
structure Rok (P : Int) (f : Vf) (h : Nat → Int) : Prop where
  pos : 0 ≤ P
  vote : ∀ (s b : Int) (e : En), f s = some (b, e) → 1 ≤ s ∧ s ≤ 64 ∧ h s.toNat ≤ b ∧ b ≤ P
  top : ∀ j, h j ≤ P
theorem Rok.start : Rok 0 Vf.none (fun _ => 0) := ⟨Int.le_refl _, fun s b e hs => (by cases hs), fun _ => Int.le_refl _⟩
theorem Rok.promise {P b : Int} {f : Vf} {h : Nat → Int} (r : Rok P f h) (hb : P ≤ b) : Rok b f h :=
  ⟨Int.le_trans r.pos hb, fun s b' e hs => by obtain ⟨h1, h2, h3, h4⟩ := r.vote s b' e hs; exact ⟨h1, h2, h3, Int.le_trans h4 hb⟩, fun j => Int.le_trans (r.top j) hb⟩
theorem Rok.put {P b s : Int} {f : Vf} {h : Nat → Int} (e : En) (r : Rok P f h) (hb : P ≤ b) (h1 : 1 ≤ s) (h2 : s ≤ 64) : Rok b (f.put s b e) h := by
  refine ⟨Int.le_trans r.pos hb, fun x b' e' hs => ?_, fun j => Int.le_trans (r.top j) hb⟩
  unfold Vf.put at hs
  by_cases hx : x = s
  · rw [if_pos hx] at hs
    cases hs
    exact ⟨by omega, by omega, Int.le_trans (r.top _) hb, Int.le_refl _⟩
  · rw [if_neg hx] at hs
    obtain ⟨k1, k2, k3, k4⟩ := r.vote x b' e' hs
    exact ⟨k1, k2, k3, Int.le_trans k4 hb⟩
theorem Rok.set {P b s : Int} {f : Vf} {h : Nat → Int} {e : En} (r : Rok P f h) (hs : f s = some (b, e)) : Rok P f (setN h s.toNat b) := by
  obtain ⟨k1, k2, k3, k4⟩ := r.vote s b e hs
  refine ⟨r.pos, fun x b' e' hx => ?_, fun j => ?_⟩
  · obtain ⟨q1, q2, q3, q4⟩ := r.vote x b' e' hx
    refine ⟨q1, q2, ?_, q4⟩
    unfold setN
    by_cases e0 : x.toNat = s.toNat
    · rw [if_pos e0]
      obtain rfl : x = s := by omega
      rw [hs] at hx; cases hx; exact Int.le_refl _
    · rw [if_neg e0]; exact q3
  · unfold setN
    split
    · exact k4
    · exact r.top j
/-- slots rise. -/
theorem told_rise (f : Vf) (a : Int) (n : Nat) : (toldN f a n).Pairwise (fun u v => u.slot < v.slot) := by
  induction n with
  | zero => exact List.Pairwise.nil
  | succ n ih =>
    rw [toldN, List.pairwise_append]
    refine ⟨ih, ?_, fun u hu v hv => ?_⟩
    · unfold Vf.at
      split
      · exact List.pairwise_singleton _ _
      · exact List.Pairwise.nil
    · have h1 := toldN_slot hu
      have h2 := at_slot hv
      omega
theorem all_rise {f : Vf} {k : Nat} {u v : Vt} (hu : (allOf f)[k]? = some u) (hv : (allOf f)[k + 1]? = some v) : u.slot < v.slot := by
  have h := told_rise f 1 64
  rw [List.pairwise_iff_getElem] at h
  obtain ⟨h1, e1⟩ := List.getElem?_eq_some_iff.1 hu
  obtain ⟨h2, e2⟩ := List.getElem?_eq_some_iff.1 hv
  have := h k (k + 1) h1 h2 (by omega)
  have e1' : (toldN f 1 64)[k] = u := e1
  have e2' : (toldN f 1 64)[k + 1] = v := e2
  rw [e1', e2'] at this; exact this
theorem all_mem {f : Vf} {k : Nat} {v : Vt} (hv : (allOf f)[k]? = some v) : f v.slot = some (v.ballot, v.e) := (toldN_slot (List.mem_of_getElem? hv)).2.2
end Go.Proofs.Ytijohafalcifpaa
