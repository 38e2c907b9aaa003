/- A byte's number. -/
import Derived.Test.YtaggbpfpheffpaaGreatDoorCOwnW
namespace Go.Proofs.YtaggbpfpheffpaaGreatDoor
open Go.RowKit

theorem nat_of {n : Int} (h : (Lit.int .u8 n).wf = true) : ∃ c : Nat, n = (c : Int) ∧ c < 256 := by
  have := u8_wf h
  exact ⟨n.toNat, by omega, by omega⟩
end Go.Proofs.YtaggbpfpheffpaaGreatDoor
