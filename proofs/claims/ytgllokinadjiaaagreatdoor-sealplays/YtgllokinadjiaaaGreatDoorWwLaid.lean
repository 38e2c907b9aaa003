/- What the listed variables give a walk, and a start that holds them. -/
import Derived.Test.YtgllokinadjiaaaGreatDoorRows
import Derived.Test.YtgllokinadjiaaaGreatDoorWwFrameAt
import Derived.ChangeVars
import Derived.JoinedOf
import Derived.LaidLaws
import Derived.LaidHandle
import Derived.Lib.LaidTab
namespace Go.Proofs.YtgllokinadjiaaaGreatDoor.Ww
open Go.RowKit

theorem own : ownKnob Tryz.prog.godebug = none := by kernel_rfl
theorem Tryz.et : Tryz.prog.globalNamed "errors.errorType" = some 0 := by kernel_rfl
theorem Tryz.rt : (Tryz.prog.cutTypes.find? (·.1 == "internal/reflectlite.rtype")).map (·.2) = some 123 := by kernel_rfl
theorem Tryz.oneRow : ((List.range 203).filter fun t => Tryz.prog.rowNamed t [101, 114, 114, 111, 114]) = [62] := by kernel_rfl
theorem Tryz.size : Tryz.prog.types.size = 203 := by kernel_rfl
def tab : List Int := Sum.halves.map Int.ofNat

theorem u8_wf {n : Int} (h : (Lit.int .u8 n).wf = true) : 0 ≤ n ∧ n < 256 := by
  simp [Lit.wf, IntKind.min, IntKind.max, IntKind.bits, IntKind.signed] at h; omega

theorem nat_of {n : Int} (h : (Lit.int .u8 n).wf = true) : ∃ c : Nat, n = (c : Int) ∧ c < 256 := by
  have := u8_wf h
  exact ⟨n.toNat, by omega, by omega⟩

end Go.Proofs.YtgllokinadjiaaaGreatDoor.Ww
