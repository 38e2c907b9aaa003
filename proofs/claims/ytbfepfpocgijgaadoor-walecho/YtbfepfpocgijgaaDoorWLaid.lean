/- What the listed variables give a walk, and a start that holds them. -/
import Derived.Test.YtbfepfpocgijgaaDoorRows
import Derived.Test.YtbfepfpocgijgaaDoorWNice
import Derived.ChangeVars
import Derived.JoinedOf
import Derived.LaidLaws
import Derived.LaidHandle
import Derived.Lib.LaidTab
import Derived.Stop.LaidErr
namespace Go.Proofs.YtbfepfpocgijgaaDoor
open Go.RowKit

theorem own : ownKnob Tryd.prog.godebug = none := by kernel_rfl
theorem Tryd.et : Tryd.prog.globalNamed "errors.errorType" = some 3 := by kernel_rfl
theorem Tryd.ht : Tryd.prog.globalNamed "synodal/wire.halves" = some 2 := by kernel_rfl
theorem Tryd.rt : (Tryd.prog.cutTypes.find? (·.1 == "internal/reflectlite.rtype")).map (·.2) = some 100 := by kernel_rfl
theorem Tryd.oneRow : ((List.range 157).filter fun t => Tryd.prog.rowNamed t [101, 114, 114, 111, 114]) = [60] := by kernel_rfl
theorem Tryd.size : Tryd.prog.types.size = 157 := by kernel_rfl
theorem Tryd.gT : Tryd.prog.globalNamed "synodal/tape.errGoes" = some 1 := by kernel_rfl
theorem Tryd.gTType : (Tryd.prog.globals[1]?).map (·.type) = some 60 := by kernel_rfl
theorem Tryd.gP : Tryd.prog.globalNamed "synodal/wal.errPart" = some 0 := by kernel_rfl
theorem Tryd.gPType : (Tryd.prog.globals[0]?).map (·.type) = some 60 := by kernel_rfl
theorem Tryd.cellsE : Tryd.prog.cellsOf 145 = 1 := by kernel_rfl
theorem Tryd.cellsS : Tryd.prog.cellsOf 9 = 1 := by kernel_rfl
theorem Tryd.star : "*" ++ "errors.errorString" = "*errors.errorString" := by decide
theorem Tryd.rowE (u : TypeId) (h : Tryd.prog.typeName? 3 u = some "*errors.errorString") : u = 125 :=
  typeName_ptr_named (nm := "errors.errorString") (by rw [Tryd.star]; kernel_rfl) (by kernel_rfl) (by decide) u (by rw [Tryd.star]; exact h)
def tab : List Int := Sum.halves.map Int.ofNat

theorem start_of_laid {W : World} (h : laidMetH Tryd.prog [("errors.errorType", Rows.laid_errors_errorType), ("synodal/tape.errGoes", Rows.laid_synodal_tape_errGoes), ("synodal/wire.halves", Rows.laid_synodal_wire_halves), ("synodal/wal.errPart", Rows.laid_synodal_wal_errPart)] W) : ∃ g a, Start W g a := by
  have h' : laidMet Tryd.prog [("synodal/tape.errGoes", Rows.laid_synodal_tape_errGoes), ("synodal/wire.halves", Rows.laid_synodal_wire_halves), ("synodal/wal.errPart", Rows.laid_synodal_wal_errPart)] W ∧ handlesMet Tryd.prog [("errors.errorType", Rows.laid_errors_errorType)] W := h
  have g : Glob W := by
    obtain ⟨name, u, ty, e1, e2, e3, e4, e5⟩ := h'.2 _ (List.mem_singleton.2 rfl)
    have en : name = [101, 114, 114, 111, 114] := (Option.some.inj e1).symm
    subst en
    obtain rfl := Option.some.inj (Tryd.rt.symm.trans e2)
    have hm : ty ∈ (List.range 157).filter fun t => Tryd.prog.rowNamed t [101, 114, 114, 111, 114] := List.mem_filter.2 ⟨List.mem_range.2 (by rw [← Tryd.size]; exact e3), e4⟩
    rw [Tryd.oneRow] at hm
    obtain rfl := List.mem_singleton.1 hm
    have hh : typeHandle Tryd.prog 60 = .pointer (some ⟨4, 60, none⟩) := by kernel_rfl
    rw [hh] at e5
    have hc := World.var?_cell Tryd.et e5 0
    simp at hc
    exact hc
  have t : Table W := by
    have h2 : laidMet Tryd.prog (("synodal/wire.halves", Lib.tabData .u32 tab) :: [("synodal/wal.errPart", Rows.laid_synodal_wal_errPart)]) W := h'.1.tail
    have hi := Lib.tabIs_of_head (t := 109) (e := 71) (n := 16) Tryd.ht (by kernel_rfl) Tryd.underlying109 Tryd.underlying71 (by kernel_rfl) (by kernel_rfl) h2
    intro i hi16
    rw [hi.cell Tryd.ht i (by simpa [tab, Sum.halves] using hi16)]
    have e : ∀ i, i < 16 → tab.getD i 0 = ((Sum.halves.getD i 0 : Nat) : Int) := by decide
    rw [e i hi16]
  obtain ⟨a, _, hv, _⟩ := laid_sentinel h'.1 Tryd.gT Tryd.gTType Tryd.underlying60 Tryd.rowE Tryd.underlying125 Tryd.underlying145 rfl rfl Tryd.underlying9 Tryd.cellsE Tryd.cellsS
  obtain ⟨b, _, hu, _⟩ := laid_sentinel h'.1.tail.tail Tryd.gP Tryd.gPType Tryd.underlying60 Tryd.rowE Tryd.underlying125 Tryd.underlying145 rfl rfl Tryd.underlying9 Tryd.cellsE Tryd.cellsS
  have ha := World.var?_cell Tryd.gT hv 0
  have hb := World.var?_cell Tryd.gP hu 0
  simp at ha hb
  refine ⟨a, b, t, g, ha, hb, ?_⟩
  have h1 := blk_lt (t 0 (by decide)); have h2 := blk_lt g; have h3 := blk_lt ha; have h4 := blk_lt hb; simp at h1 h2 h3 h4; omega

theorem u8_wf {n : Int} (h : (Lit.int .u8 n).wf = true) : 0 ≤ n ∧ n < 256 := by
  simp [Lit.wf, IntKind.min, IntKind.max, IntKind.bits, IntKind.signed] at h; omega

/-- the first blocks laid as the packages lay them. -/
def layFirst (w : World) : World :=
  { w with heap := (((w.heap.modify 3 fun
      | .cells _ t frozen => .cells #[.iface 100 (.agg #[.pointer (some ⟨4, 60, none⟩)])] t frozen
      | o => o).modify 2 fun
      | .cells _ t frozen => .cells (tab.map fun n => Value.int .u32 n).toArray t frozen
      | o => o).modify 1 fun
      | .cells _ t frozen => .cells #[.iface 125 (.pointer (some ⟨9, 0, none⟩))] t frozen
      | o => o).modify 0 fun
      | .cells _ t frozen => .cells #[.iface 125 (.pointer (some ⟨10, 0, none⟩))] t frozen
      | o => o }
end Go.Proofs.YtbfepfpocgijgaaDoor
