/- SpecOrders: plain. -/
import Derived.Test.YtndpkpkijfplaaaGCon
import Derived.Test.YtndpkpkijfplaaaGCalled
namespace Go.Proofs.Ytndpkpkijfplaaa
open Go.RowKit

def askZ (c s : Int) : En := askE c.toNat s.toNat
theorem askZ_nat (c s : Nat) : askZ (c : Int) (s : Int) = askE c s := by simp [askZ]
/-- what is known behind the calls. -/
def Asked (c s : Nat) (S : Kn) : Prop := ∀ i j : Nat, 1 ≤ i → i ≤ c → 1 ≤ j → j ≤ s → S.calls (i : Int) (j : Int) = some (askE i j)
theorem know_in {vs : List Ev} {S : Kn} (h : knowOf vs = some S) (hc : Con askZ [] S) (c : Nat) (h1 : 1 ≤ c) (s : Nat) : ∃ S', knowOf (vs ++ callsIn c s) = some S' ∧ Con askZ [] S' ∧ (∀ j : Nat, 1 ≤ j → j ≤ s → S'.calls (c : Int) (j : Int) = some (askE c j)) ∧ ∀ a b e, S.calls a b = some e → S'.calls a b = some e := by
  induction s with
  | zero => exact ⟨S, by simpa [callsIn] using h, hc, fun j h1 h2 => by omega, fun _ _ _ h => h⟩
  | succ s ih =>
    obtain ⟨S1, k1, k2, k3, k4⟩ := ih
    obtain ⟨S2, m1, m2, m3, m4⟩ := k2.call (v := callEv c (s + 1)) rfl (askZ_nat c (s + 1)).symm ⟨Or.inl rfl, rfl, rfl, by simp only [callEv]; omega, by simp only [callEv]; omega⟩
    refine ⟨S2, ?_, m2, fun j h1 h2 => ?_, fun a b e he => m4 _ _ _ (k4 _ _ _ he)⟩
    · rw [callsIn_succ, ← List.append_assoc]; exact know_snoc k1 m1
    · by_cases hj : j = s + 1
      · subst hj; exact m3
      · exact m4 _ _ _ (k3 j h1 (by omega))
theorem know_calls (c s : Nat) : ∃ S, knowOf (callsTo c s) = some S ∧ Con askZ [] S ∧ Asked c s S := by
  induction c with
  | zero => exact ⟨_, rfl, Con.start _, fun i j h1 h2 => by omega⟩
  | succ c ih =>
    obtain ⟨S1, k1, k2, k3⟩ := ih
    obtain ⟨S2, m1, m2, m3, m4⟩ := know_in k1 k2 (c + 1) (by omega) s
    refine ⟨S2, by rw [callsTo_succ]; exact m1, m2, fun i j h1 h2 h3 h4 => ?_⟩
    by_cases hi : i = c + 1
    · subst hi; exact m3 j h3 h4
    · exact m4 _ _ _ (k3 i j h1 (by omega) h3 h4)
/-- a log of requests of three clients, of up to four each; h: how many there are of each. -/
structure OLog (L : List En) (h : Nat → Nat) : Prop where
  lg : Lg askZ L
  le : ∀ c, h c ≤ 4
  is : ∀ e ∈ L, ∃ c s : Nat, e = askE c s ∧ 1 ≤ c ∧ c ≤ 3 ∧ 1 ≤ s ∧ s ≤ h c
theorem OLog.nil : OLog [] (fun _ => 0) := ⟨Lg.start _, fun _ => by omega, fun e h => by cases h⟩
theorem OLog.more {L : List En} {h : Nat → Nat} (H : OLog L h) {c : Nat} (h1 : 1 ≤ c) (h3 : c ≤ 3) (hl : h c < 4) : OLog (L ++ [askE c (h c + 1)]) (fun x => if x = c then h c + 1 else h x) := by
  refine ⟨H.lg.more ⟨(askZ_nat c (h c + 1)).symm, Or.inl rfl, by simp only [askE]; omega, by simp only [askE]; omega⟩ (fun a ha hc => ?_), fun x => ?_, fun e he => ?_⟩
  · obtain ⟨c', s', rfl, q1, q2, q3, q4⟩ := H.is a ha
    simp only [askE] at hc ⊢
    have : c' = c := by omega
    subst this
    omega
  · have := H.le x
    by_cases hx : x = c
    · simp only [if_pos hx]; omega
    · simp only [if_neg hx]; exact this
  · rcases List.mem_append.1 he with h0 | h0
    · obtain ⟨c', s', e1, q1, q2, q3, q4⟩ := H.is e h0
      refine ⟨c', s', e1, q1, q2, q3, ?_⟩
      by_cases hx : c' = c
      · simp only [if_pos hx]; rw [hx] at q4; omega
      · simp only [if_neg hx]; exact q4
    · simp only [List.mem_singleton] at h0
      exact ⟨c, h c + 1, h0, h1, h3, by omega, by simp only [if_pos]; omega⟩
theorem OLog.con {L : List En} {h : Nat → Nat} (H : OLog L h) {S : Kn} (hc : Con askZ [] S) (ha : Asked 3 4 S) : Con askZ L S := by
  refine ⟨hc.calls, fun e he => ?_, fun c s p hp => ?_, fun p c s hp => ?_⟩
  · obtain ⟨c, s, rfl, q1, q2, q3, q4⟩ := H.is e he
    exact ha c s q1 q2 q3 (Nat.le_trans q4 (H.le c))
  · obtain ⟨i, e, _, h2, _⟩ := hc.place c s p hp
    simp at h2
  · obtain ⟨i, e, _, h2, _⟩ := hc.holder p c s hp
    simp at h2
end Go.Proofs.Ytndpkpkijfplaaa
