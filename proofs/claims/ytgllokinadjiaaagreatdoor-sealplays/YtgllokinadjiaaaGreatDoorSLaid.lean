/- What the listed variable errors.errorType gives a walk, and a start that holds it. -/
import Derived.Test.YtgllokinadjiaaaGreatDoorRows
import Derived.Test.YtgllokinadjiaaaGreatDoorWwFrameAt
import Derived.ChangeVars
import Derived.JoinedOf
import Derived.LaidLaws
import Derived.LaidHandle
namespace Go.Proofs.YtgllokinadjiaaaGreatDoor
open Go.RowKit

theorem own : ownKnob Tryz.prog.godebug = none := by kernel_rfl
theorem Tryz.et : Tryz.prog.globalNamed "errors.errorType" = some 0 := by kernel_rfl
theorem Tryz.rt : (Tryz.prog.cutTypes.find? (·.1 == "internal/reflectlite.rtype")).map (·.2) = some 123 := by kernel_rfl
theorem Tryz.oneRow : ((List.range 203).filter fun t => Tryz.prog.rowNamed t [101, 114, 114, 111, 114]) = [62] := by kernel_rfl
theorem Tryz.size : Tryz.prog.types.size = 203 := by kernel_rfl

theorem start_of_laid {W : World} (h : laidMetH Tryz.prog [("errors.errorType", Rows.laid_errors_errorType)] W) : Ww.Start W := by
  have h' : laidMet Tryz.prog [] W ∧ handlesMet Tryz.prog [("errors.errorType", Rows.laid_errors_errorType)] W := h
  have g : Ww.Glob W := by
    obtain ⟨name, u, ty, e1, e2, e3, e4, e5⟩ := h'.2 _ (List.mem_singleton.2 rfl)
    have en : name = [101, 114, 114, 111, 114] := (Option.some.inj e1).symm
    subst en
    obtain rfl := Option.some.inj (Tryz.rt.symm.trans e2)
    have hm : ty ∈ (List.range 203).filter fun t => Tryz.prog.rowNamed t [101, 114, 114, 111, 114] := List.mem_filter.2 ⟨List.mem_range.2 (by rw [← Tryz.size]; exact e3), e4⟩
    rw [Tryz.oneRow] at hm
    obtain rfl := List.mem_singleton.1 hm
    have hh : typeHandle Tryz.prog 62 = .pointer (some ⟨1, 62, none⟩) := by kernel_rfl
    rw [hh] at e5
    have hc := World.var?_cell Tryz.et e5 0
    simp at hc
    exact hc
  exact ⟨trivial, g, by have h2 := Ww.blk_lt g; simp at h2; omega⟩

/-- the first block laid as package errors lays it. -/
def layFirst (w : World) : World :=
  { w with heap := w.heap.modify 0 fun
      | .cells _ t frozen => .cells #[.iface 123 (.agg #[.pointer (some ⟨1, 62, none⟩)])] t frozen
      | o => o }
end Go.Proofs.YtgllokinadjiaaaGreatDoor
