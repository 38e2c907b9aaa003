/- CellsRefuse: the walk, whole. -/
import Derived.Test.YtfdcfhlbgcfbcaaGreatDoorCRefW0
import Derived.Test.YtfdcfhlbgcfbcaaGreatDoorCRefW1
import Derived.Test.YtfdcfhlbgcfbcaaGreatDoorCRefW2
import Derived.Test.YtfdcfhlbgcfbcaaGreatDoorCRefW3
namespace Go.Proofs.YtfdcfhlbgcfbcaaGreatDoor
open Go.RowKit Go.Maps

theorem refuse_walk (which bY : Int) (g a : Addr) (w : World) (hS : Start w g a) : Calls Tryz.prog 6 #[.int .i64 which, .int .i64 bY] w fun ev w' => ev = .returned (.bool true) ∧ Below w.heap.size w w' := by
  obtain ⟨j, hj⟩ : ∃ j : Nat, which % 4 = (j : Int) := ⟨(which % 4).toNat, by have := Int.emod_nonneg which (show (4 : Int) ≠ 0 by decide); omega⟩
  have h4 : j < 4 := by have := Int.emod_lt_of_pos which (show (0 : Int) < 4 by decide); omega
  have h : j = 0 ∨ j = 1 ∨ j = 2 ∨ j = 3 := by omega
  rcases h with h | h | h | h
  · exact refuse0 which bY j hj h g a w hS
  · exact refuse1 which bY j hj h g a w hS
  · exact refuse2 which bY j hj h g a w hS
  · exact refuse3 which bY j hj h g a w hS
end Go.Proofs.YtfdcfhlbgcfbcaaGreatDoor
