/- AcceptChosen: ballots, promises, votes of some acceptors, in one slot. Plain. -/
import Derived.Test.YtiibedgobhhikaaVPick
import Derived.Test.YtiibedgobhhikaaVRisA
namespace Go.Proofs.Ytiibedgobhhikaa
open Go.RowKit Go.Maps

/-! ### how many -/
def cntB (S : Nat → Bool) : Nat → Nat
  | 0 => 0
  | n + 1 => cntB S n + if S n then 1 else 0
theorem cntB_le (S : Nat → Bool) (n : Nat) : cntB S n ≤ n := by
  induction n with
  | zero => exact Nat.le_refl _
  | succ n ih => unfold cntB; split <;> omega
theorem cntB_both (S T : Nat → Bool) (n : Nat) : cntB S n + cntB T n ≤ n + cntB (fun i => S i && T i) n := by
  induction n with
  | zero => exact Nat.le_refl _
  | succ n ih =>
    unfold cntB
    cases hS : S n <;> cases hT : T n <;> simp <;> omega
theorem cntB_some {S : Nat → Bool} {n : Nat} (h : 0 < cntB S n) : ∃ i, i < n ∧ S i = true := by
  induction n with
  | zero => simp [cntB] at h
  | succ n ih =>
    unfold cntB at h
    by_cases hS : S n = true
    · exact ⟨n, by omega, hS⟩
    · rw [if_neg hS] at h
      obtain ⟨i, h1, h2⟩ := ih (by omega)
      exact ⟨i, by omega, h2⟩
/-- two majorities meet. -/
theorem maj_meet {S T : Nat → Bool} {n : Nat} (h1 : n < 2 * cntB S n) (h2 : n < 2 * cntB T n) : ∃ i, i < n ∧ S i = true ∧ T i = true := by
  have := cntB_both S T n
  obtain ⟨i, hi, h⟩ := cntB_some (S := fun i => S i && T i) (n := n) (by omega)
  simp at h
  exact ⟨i, hi, h.1, h.2⟩
theorem cntB_congr {S T : Nat → Bool} {n : Nat} (h : ∀ i, i < n → S i = T i) : cntB S n = cntB T n := by
  induction n with
  | zero => rfl
  | succ n ih =>
    unfold cntB
    rw [ih (fun i hi => h i (by omega)), h n (by omega)]

/-! ### votes in slot 1 -/
def entS (s : Int) : En := ⟨1, 1, s, ⟨#[]⟩, [], 0⟩
def fOf : Option (Int × Int) → Vf
  | none => Vf.none
  | some bs => Vf.none.put 1 bs.1 (entS bs.2)
theorem fOf_put (o : Option (Int × Int)) (b s : Int) : (fOf o).put 1 b (entS s) = fOf (some (b, s)) := by
  funext x
  cases o with
  | none => rfl
  | some bs =>
    simp only [fOf, Vf.put]
    split <;> rfl
def rowOf : Option (Int × Int) → List Vt
  | none => []
  | some bs => [⟨1, bs.1, entS bs.2⟩]
theorem told_nil' (a : Int) (n : Nat) : toldN Vf.none a n = [] := by
  induction n with
  | zero => rfl
  | succ n ih => simp [toldN, ih, Vf.at, Vf.none]
theorem all_fOf (o : Option (Int × Int)) : allOf (fOf o) = rowOf o := by
  cases o with
  | none => exact told_nil' 1 64
  | some bs =>
    simp only [fOf]
    rw [all_put _ (by decide) (by decide), told_nil', told_nil']; rfl
/-- what was told by those who promised, up to one. -/
def heardUp (S : Nat → Bool) (v : Nat → Option (Int × Int)) : Nat → List Vt
  | 0 => []
  | n + 1 => heardUp S v n ++ if S n then rowOf (v n) else []
theorem heardUp_len (S : Nat → Bool) (v : Nat → Option (Int × Int)) (n : Nat) : (heardUp S v n).length ≤ n := by
  induction n with
  | zero => exact Nat.le_refl _
  | succ n ih =>
    unfold heardUp
    rw [List.length_append]
    have : (if S n then rowOf (v n) else []).length ≤ 1 := by
      split
      · cases v n <;> simp [rowOf]
      · simp
    omega
theorem heardUp_mem {S : Nat → Bool} {v : Nat → Option (Int × Int)} {n : Nat} {x : Vt} (h : x ∈ heardUp S v n) : ∃ i b s, i < n ∧ S i = true ∧ v i = some (b, s) ∧ x = ⟨1, b, entS s⟩ := by
  induction n with
  | zero => simp [heardUp] at h
  | succ n ih =>
    unfold heardUp at h
    rcases List.mem_append.1 h with h | h
    · obtain ⟨i, b, s, h1, h2, h3, h4⟩ := ih h
      exact ⟨i, b, s, by omega, h2, h3, h4⟩
    · by_cases hS : S n = true
      · rw [if_pos hS] at h
        cases hv : v n with
        | none => rw [hv] at h; simp [rowOf] at h
        | some bs =>
          rw [hv] at h
          simp [rowOf] at h
          exact ⟨n, bs.1, bs.2, by omega, hS, hv, h⟩
      · rw [if_neg hS] at h; simp at h
theorem heardUp_in {S : Nat → Bool} {v : Nat → Option (Int × Int)} {n i : Nat} {b s : Int} (hi : i < n) (hS : S i = true) (hv : v i = some (b, s)) : (⟨1, b, entS s⟩ : Vt) ∈ heardUp S v n := by
  induction n with
  | zero => omega
  | succ n ih =>
    unfold heardUp
    by_cases e : i = n
    · subst e
      rw [if_pos hS, hv]
      exact List.mem_append_right _ (by simp [rowOf])
    · exact List.mem_append_left _ (ih (by omega))

/-! ### what holds between the rounds -/
structure Cst (N k : Nat) (P : Nat → Int) (v : Nat → Option (Int × Int)) (c : Int) : Prop where
  nn : 0 ≤ c
  vote : ∀ i b s, i < N → v i = some (b, s) → b ≤ P i ∧ 1 ≤ s ∧ b % 26 < k
  maj : ∀ i b s, i < N → v i = some (b, s) → ∃ Q, N < 2 * cntB Q N ∧ ∀ j, j < N → Q j = true → b ≤ P j
  ch : 0 < c → ∃ B Q, N < 2 * cntB Q N ∧ (∀ j, j < N → Q j = true → ∃ b s, v j = some (b, s) ∧ B ≤ b) ∧ ∀ j b s, j < N → v j = some (b, s) → B ≤ b → s = c
theorem Cst.start (N : Nat) : Cst N 0 (fun _ => 0) (fun _ => none) 0 := ⟨Int.le_refl _, fun i b s _ h => (by cases h), fun i b s _ h => (by cases h), fun h => absurd h (by decide)⟩
/-- promises that rise. -/
theorem Cst.rise {N k : Nat} {P P' : Nat → Int} {v : Nat → Option (Int × Int)} {c : Int} (h : Cst N k P v c) (hP : ∀ i, i < N → P i ≤ P' i) : Cst N k P' v c :=
  ⟨h.nn, fun i b s hi hv => by obtain ⟨h1, h2, h3⟩ := h.vote i b s hi hv; exact ⟨Int.le_trans h1 (hP i hi), h2, h3⟩, fun i b s hi hv => by
    obtain ⟨Q, h1, h2⟩ := h.maj i b s hi hv
    exact ⟨Q, h1, fun j hj hq => Int.le_trans (h2 j hj hq) (hP j hj)⟩, h.ch⟩
theorem Cst.more {N k : Nat} {P : Nat → Int} {v : Nat → Option (Int × Int)} {c : Int} (h : Cst N k P v c) : Cst N (k + 1) P v c :=
  ⟨h.nn, fun i b s hi hv => by obtain ⟨h1, h2, h3⟩ := h.vote i b s hi hv; exact ⟨h1, h2, by omega⟩, h.maj, h.ch⟩
/-- who promises a ballot. -/
def okB (bit : Nat → Bool) (P : Nat → Int) (b : Int) (i : Nat) : Bool := bit i && decide (P i ≤ b)
def promB (bit : Nat → Bool) (P : Nat → Int) (b : Int) (i : Nat) : Int := if okB bit P b i then b else P i
def voteB (bit : Nat → Bool) (P : Nat → Int) (b X : Int) (v : Nat → Option (Int × Int)) (i : Nat) : Option (Int × Int) := if okB bit P b i then some (b, X) else v i
theorem prom_le (bit : Nat → Bool) (P : Nat → Int) (b : Int) (i : Nat) : P i ≤ promB bit P b i := by
  unfold promB
  split
  · rename_i h
    unfold okB at h
    simp at h; exact h.2
  · exact Int.le_refl _
/-- what is proposed: the picked one's number, or a new one. -/
def propX (S : Nat → Bool) (v : Nat → Option (Int × Int)) (N : Nat) (new : Int) : Int := match pickOf (heardUp S v N) 1 with
  | some u => u.e.seq
  | none => new
theorem pick_some {l : List Vt} {u : Vt} (h : pickOf l 1 = some u) : u ∈ l ∧ ∀ x ∈ l, x.slot = 1 → x.ballot ≤ u.ballot := by
  unfold pickOf at h
  split at h
  · rename_i b hb
    obtain ⟨u', h1, h2, h3⟩ := best_some hb
    rw [h] at h1; cases h1
    refine ⟨List.mem_of_getElem? h, fun x hx hs => ?_⟩
    obtain ⟨i, hi, e⟩ := List.getElem_of_mem hx
    exact h3 i x hi (by rw [List.getElem?_eq_getElem hi, e]) hs
  · cases h
theorem pick_none {l : List Vt} (h : pickOf l 1 = none) : ∀ x ∈ l, x.slot ≠ 1 := by
  unfold pickOf at h
  split at h
  · rename_i b hb
    obtain ⟨u', h1, _⟩ := best_some hb
    rw [h] at h1; cases h1
  · rename_i hb
    intro x hx
    obtain ⟨i, hi, e⟩ := List.getElem_of_mem hx
    exact best_none hb i x hi (by rw [List.getElem?_eq_getElem hi, e])
section
variable {N k : Nat} {P : Nat → Int} {v : Nat → Option (Int × Int)} {c b : Int} {bit : Nat → Bool}
theorem Cst.prop_pos (h : Cst N k P v c) (new : Int) (hn : 1 ≤ new) : 1 ≤ propX (okB bit P b) v N new := by
  unfold propX
  split
  · rename_i u hu
    obtain ⟨i, b', s, hi, _, hv, rfl⟩ := heardUp_mem (pick_some hu).1
    exact (h.vote i b' s hi hv).2.1
  · exact hn
/-- what was chosen is proposed again. -/
theorem Cst.prop_same (h : Cst N k P v c) (hc : 0 < c) (hm : N < 2 * cntB (okB bit P b) N) (new : Int) : propX (okB bit P b) v N new = c := by
  obtain ⟨B, Q, h1, h2, h3⟩ := h.ch hc
  obtain ⟨i, hi, hS, hQ⟩ := maj_meet hm h1
  obtain ⟨bi, si, hv, hB⟩ := h2 i hi hQ
  have hin := heardUp_in hi hS hv
  unfold propX
  split
  · rename_i u hu
    obtain ⟨hu1, hu2⟩ := pick_some hu
    have hle := hu2 _ hin rfl
    obtain ⟨j, bj, sj, hj, _, hvj, rfl⟩ := heardUp_mem hu1
    exact h3 j bj sj hj hvj (Int.le_trans hB hle)
  · rename_i hu
    exact absurd rfl (pick_none hu _ hin)
/-- where a majority promised, all votes are elder. -/
theorem Cst.elder (h : Cst N k P v c) (hm : N < 2 * cntB (okB bit P b) N) (hb : b % 26 = k) {i : Nat} {b' s : Int} (hi : i < N) (hv : v i = some (b', s)) : b' < b := by
  obtain ⟨Q, h1, h2⟩ := h.maj i b' s hi hv
  obtain ⟨j, hj, hS, hQ⟩ := maj_meet hm h1
  have := h2 j hj hQ
  unfold okB at hS
  simp at hS
  have h4 := (h.vote i b' s hi hv).2.2
  have : b' ≤ b := by omega
  have hne : b' ≠ b := fun e => by rw [e, hb] at h4; omega
  omega
/-- a round that comes to its votes. -/
theorem Cst.round (h : Cst N k P v c) (hm : N < 2 * cntB (okB bit P b) N) (hb : b % 26 = k) (bit2 : Nat → Bool) (X : Int) (hX : 1 ≤ X) (hXc : 0 < c → X = c) :
    Cst N (k + 1) (promB bit2 (promB bit P b) b) (voteB bit2 (promB bit P b) b X v) (if N < 2 * cntB (okB bit2 (promB bit P b) b) N then X else c) := by
  have hle : ∀ i, P i ≤ promB bit2 (promB bit P b) b i := fun i => Int.le_trans (prom_le bit P b i) (prom_le bit2 _ b i)
  have hS : ∀ j, okB bit P b j = true → b ≤ promB bit2 (promB bit P b) b j := fun j hj => by
    have : promB bit P b j = b := by unfold promB; rw [if_pos hj]
    have h2 := prom_le bit2 (promB bit P b) b j
    omega
  have hval : ∀ j b' s, voteB bit2 (promB bit P b) b X v j = some (b', s) → (b' = b ∧ s = X ∧ okB bit2 (promB bit P b) b j = true) ∨ v j = some (b', s) := fun j b' s hv => by
    unfold voteB at hv
    split at hv
    · rename_i ho
      cases hv; exact Or.inl ⟨rfl, rfl, ho⟩
    · exact Or.inr hv
  have hnn := h.nn
  refine ⟨by split <;> omega, fun i b' s hi hv => ?_, fun i b' s hi hv => ?_, fun hc => ?_⟩
  · rcases hval i b' s hv with ⟨rfl, rfl, ho⟩ | hv'
    · refine ⟨?_, hX, by omega⟩
      unfold promB
      rw [if_pos (by unfold promB at ho; exact ho)]; exact Int.le_refl _
    · obtain ⟨h1, h2, h3⟩ := h.vote i b' s hi hv'
      exact ⟨Int.le_trans h1 (hle i), h2, by omega⟩
  · rcases hval i b' s hv with ⟨rfl, rfl, ho⟩ | hv'
    · exact ⟨okB bit P b', hm, fun j _ hq => hS j hq⟩
    · obtain ⟨Q, h1, h2⟩ := h.maj i b' s hi hv'
      exact ⟨Q, h1, fun j hj hq => Int.le_trans (h2 j hj hq) (hle j)⟩
  · by_cases hc0 : 0 < c
    · have hXe := hXc hc0
      have hce : (if N < 2 * cntB (okB bit2 (promB bit P b) b) N then X else c) = c := by split <;> omega
      rw [hce]
      obtain ⟨B, Q, h1, h2, h3⟩ := h.ch hc0
      refine ⟨B, Q, h1, fun j hj hq => ?_, fun j b' s hj hv hB => ?_⟩
      · obtain ⟨b', s, hv, hB⟩ := h2 j hj hq
        unfold voteB
        split
        · exact ⟨b, X, rfl, by have := h.elder hm hb hj hv; omega⟩
        · exact ⟨b', s, hv, hB⟩
      · rcases hval j b' s hv with ⟨_, rfl, _⟩ | hv'
        · exact hXe
        · exact h3 j b' s hj hv' hB
    · have hm2 : N < 2 * cntB (okB bit2 (promB bit P b) b) N := by
        by_cases hm2 : N < 2 * cntB (okB bit2 (promB bit P b) b) N
        · exact hm2
        · rw [if_neg hm2] at hc; exact absurd hc hc0
      rw [if_pos hm2]
      refine ⟨b, okB bit2 (promB bit P b) b, hm2, fun j hj hq => ⟨b, X, by unfold voteB; rw [if_pos hq], Int.le_refl _⟩, fun j b' s hj hv hB => ?_⟩
      rcases hval j b' s hv with ⟨_, rfl, _⟩ | hv'
      · rfl
      · have := h.elder hm hb hj hv'; omega
end
end Go.Proofs.Ytiibedgobhhikaa
