/- What the listed variable gives a walk, and a start that holds it. -/
import Derived.Test.YtnohkbekljfehaaDoorRows
import Derived.Test.YtnohkbekljfehaaDoorTKnown
import Derived.ChangeVars
import Derived.JoinedOf
import Derived.LaidLaws
import Derived.LaidHandle
import Derived.Stop.LaidErr
namespace Go.Proofs.YtnohkbekljfehaaDoor
open Go.RowKit

theorem own : ownKnob Tryd.prog.godebug = none := by kernel_rfl
theorem Tryd.gT : Tryd.prog.globalNamed "synodal/tape.errGoes" = some 0 := by kernel_rfl
theorem Tryd.gTType : (Tryd.prog.globals[0]?).map (·.type) = some 54 := by kernel_rfl
theorem Tryd.cellsE : Tryd.prog.cellsOf 102 = 1 := by kernel_rfl
theorem Tryd.cellsS : Tryd.prog.cellsOf 9 = 1 := by kernel_rfl
theorem Tryd.star : "*" ++ "errors.errorString" = "*errors.errorString" := by decide
theorem Tryd.rowE (u : TypeId) (h : Tryd.prog.typeName? 3 u = some "*errors.errorString") : u = 77 :=
  typeName_ptr_named (nm := "errors.errorString") (by rw [Tryd.star]; kernel_rfl) (by kernel_rfl) (by decide) u (by rw [Tryd.star]; exact h)

theorem start_of_laid {W : World} (h : laidMetH Tryd.prog [("synodal/tape.errGoes", Rows.laid_synodal_tape_errGoes)] W) : ∃ a, Glob W a ∧ 1 ≤ W.heap.size := by
  have h' : laidMet Tryd.prog [("synodal/tape.errGoes", Rows.laid_synodal_tape_errGoes)] W := h
  obtain ⟨a, s, hv, _⟩ := laid_sentinel h' Tryd.gT Tryd.gTType Tryd.underlying54 Tryd.rowE Tryd.underlying77 Tryd.underlying102 rfl rfl Tryd.underlying9 Tryd.cellsE Tryd.cellsS
  have hc := World.var?_cell Tryd.gT hv 0
  simp at hc
  exact ⟨a, hc, by have := blk_lt hc; simp at this; omega⟩

theorem u8_wf {n : Int} (h : (Lit.int .u8 n).wf = true) : 0 ≤ n ∧ n < 256 := by
  simp [Lit.wf, IntKind.min, IntKind.max, IntKind.bits, IntKind.signed] at h; omega

/-- the variable laid as the package lays it. -/
def layFirst (w : World) : World :=
  { w with heap := w.heap.modify 0 fun
      | .cells _ t frozen => .cells #[.iface 77 (.pointer (some ⟨6, 0, none⟩))] t frozen
      | o => o }
end Go.Proofs.YtnohkbekljfehaaDoor
