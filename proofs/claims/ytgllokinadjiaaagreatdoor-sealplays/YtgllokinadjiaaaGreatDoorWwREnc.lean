/- synodalref2.EncodeEntry: a contract. -/
import Derived.Test.YtgllokinadjiaaaGreatDoorWwREnt
namespace Go.Proofs.YtgllokinadjiaaaGreatDoor.Ww
open Go.RowKit

theorem wrong_ne {kind : Int} {ts n : Nat} {to' : Int} (h : ¬ (0 ≤ kind ∧ kind ≤ 4 ∧ ts ≤ 16 ∧ n ≤ 9 ∧ 0 ≤ to' ∧ to' ≤ 2)) : wrongE kind ts n to' ≠ 0 := by
  by_cases h1 : 0 ≤ kind ∧ kind ≤ 4
  · by_cases h2 : ts ≤ 16
    · by_cases h3 : n ≤ 9
      · rw [wrong_to h1.1 h1.2 h2 h3 (by omega)]; decide
      · rw [wrong_many h1.1 h1.2 h2 (by omega)]; decide
    · rw [wrong_long h1.1 h1.2 (by omega)]; decide
  · rw [wrong_kind (by omega)]; decide

end Go.Proofs.YtgllokinadjiaaaGreatDoor.Ww
