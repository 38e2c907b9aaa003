/- Append, Replace: contracts. -/
import Derived.Test.YtnagfoclbdlenaaGreatDoorTOps
namespace Go.Proofs.YtnagfoclbdlenaaGreatDoor
open Go.RowKit

def St.append (s : St) (b : List Nat) : Nat × St :=
  (numOf (s.begin (s.bs.length + b.length)).1, if (s.begin (s.bs.length + b.length)).1 = 0 ∨ (s.begin (s.bs.length + b.length)).1 = 1 then { (s.begin (s.bs.length + b.length)).2 with bs := s.bs ++ b } else (s.begin (s.bs.length + b.length)).2)
theorem u8s_append (a b : List Nat) : u8s (a ++ b) = u8s a ++ u8s b := by simp [u8s]

end Go.Proofs.YtnagfoclbdlenaaGreatDoor
