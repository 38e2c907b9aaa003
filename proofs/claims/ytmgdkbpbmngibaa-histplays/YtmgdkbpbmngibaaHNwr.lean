/- hist: Newer: a contract. -/
import Derived.Test.YtmgdkbpbmngibaaHRead
namespace Go.Proofs.Ytmgdkbpbmngibaa
open Go.RowKit Go.Maps

/-- whether a log that ends so is at least as new. -/
def newerOf (b : Int) (rs : List Rw) (last term : Int) : Bool := decide (termOf b rs (b + (rs.length : Int)) < term ∨ term = termOf b rs (b + (rs.length : Int)) ∧ b + (rs.length : Int) ≤ last)
set_option maxHeartbeats 1000000 in
theorem newer_any {D : Nat → Prop} {w : World} {p : Nat} {b : Int} {rs : List Rw} (h : Hs D w p b rs) (hf : Fit b rs) (last term : Int) :
    Calls Try.prog 24 #[.pointer (some ⟨p, 0, none⟩), .int .i64 last, .int .i64 term] w fun e w' => e = .returned (.bool (newerOf b rs last term)) ∧ Below w.heap.size w w' := by
  have L0 := hide (last_any h hf)
  have LA := hide (fun Y (hY : Below w.heap.size w Y) => last_any (h.below hY) hf)
  have TE := hide (fun Y (hY : Below w.heap.size w Y) => term_any (h.below hY) hf (b + (rs.length : Int)))
  unfold newerOf
  obtain ⟨m, hm⟩ : ∃ m, termOf b rs (b + (rs.length : Int)) = m := ⟨_, rfl⟩
  obtain ⟨L, hL⟩ : ∃ L, b + (rs.length : Int) = L := ⟨_, rfl⟩
  rw [hm] at TE ⊢
  rw [hL] at TE L0 LA ⊢
  obtain ⟨R, hR⟩ : ∃ R, decide (m < term ∨ term = m ∧ L ≤ last) = R := ⟨_, rfl⟩
  rw [hR]
  have HR := hide hR
  clear hm hL h hf hR
  go_enter Try.func24, Try.ntmps24
  go_wp2_with fail
  refine (unhide L0).mono ?_
  rintro e w1 ⟨rfl, b1⟩
  have T1 := hide (unhide TE _ b1)
  have B1 := hide b1
  clear b1 L0 TE
  go_wp2_with fail
  refine (unhide T1).mono ?_
  rintro e w2 ⟨rfl, b2⟩
  have B2 := hide (below_far (unhide B1) b2)
  have L2 := hide (unhide LA _ (unhide B2))
  clear b2 T1 LA B1
  by_cases h1 : m < term
  · obtain rfl : true = R := by rw [← unhide HR]; exact (decide_eq_true (Or.inl h1)).symm
    clear HR
    go_wp2
    go_ret
    exact ⟨rfl, unhide B2⟩
  · by_cases h2 : term = m
    · subst h2
      go_wp2_with fail
      refine (unhide L2).mono ?_
      rintro e w3 ⟨rfl, b3⟩
      have B3 := hide (below_far (unhide B2) b3)
      clear b3 L2
      by_cases h3 : L ≤ last
      · obtain rfl : true = R := by rw [← unhide HR]; exact (decide_eq_true (Or.inr ⟨by simp, h3⟩)).symm
        clear HR
        go_wp2
        go_ret
        exact ⟨rfl, unhide B3⟩
      · obtain rfl : false = R := by rw [← unhide HR]; exact (decide_eq_false (by omega)).symm
        clear HR
        have h4 : decide (L ≤ last) = false := decide_eq_false h3
        go_wp2
        go_ret
        exact ⟨rfl, unhide B3⟩
    · obtain rfl : false = R := by rw [← unhide HR]; exact (decide_eq_false (by omega)).symm
      clear HR
      have h5 : decide (m < term) = false := decide_eq_false h1
      clear h1
      have h4 : (term == m) = false := by rw [beq_eq_false_iff_ne]; exact h2
      clear h2
      go_wp2
      go_ret
      exact ⟨rfl, unhide B2⟩

end Go.Proofs.Ytmgdkbpbmngibaa
