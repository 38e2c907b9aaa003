/- What the listed variables give a walk, and a start that holds them. -/
import Derived.Test.YthjpdglbliigcaaDoorRows
import Derived.Test.YthjpdglbliigcaaDoorSmall
import Derived.ChangeVars
import Derived.JoinedOf
import Derived.LaidLaws
import Derived.LaidHandle
import Derived.Lib.LaidTab
namespace Go.Proofs.YthjpdglbliigcaaDoor
open Go.RowKit

theorem own : ownKnob Tryd.prog.godebug = none := by kernel_rfl
theorem Tryd.et : Tryd.prog.globalNamed "errors.errorType" = some 1 := by kernel_rfl
theorem Tryd.ht : Tryd.prog.globalNamed "synodal/wire.halves" = some 0 := by kernel_rfl
theorem Tryd.rt : (Tryd.prog.cutTypes.find? (·.1 == "internal/reflectlite.rtype")).map (·.2) = some 144 := by kernel_rfl
theorem Tryd.oneRow : ((List.range 184).filter fun t => Tryd.prog.rowNamed t [101, 114, 114, 111, 114]) = [103] := by kernel_rfl
theorem Tryd.size : Tryd.prog.types.size = 184 := by kernel_rfl
def tab : List Int := Sum.halves.map Int.ofNat

theorem start_of_laid {W : World} (h : laidMetH Tryd.prog [("errors.errorType", Rows.laid_errors_errorType), ("synodal/wire.halves", Rows.laid_synodal_wire_halves)] W) : Start W := by
  have h' : laidMet Tryd.prog [("synodal/wire.halves", Rows.laid_synodal_wire_halves)] W ∧ handlesMet Tryd.prog [("errors.errorType", Rows.laid_errors_errorType)] W := h
  have g : Glob W := by
    obtain ⟨name, u, ty, e1, e2, e3, e4, e5⟩ := h'.2 _ (List.mem_singleton.2 rfl)
    have en : name = [101, 114, 114, 111, 114] := (Option.some.inj e1).symm
    subst en
    obtain rfl := Option.some.inj (Tryd.rt.symm.trans e2)
    have hm : ty ∈ (List.range 184).filter fun t => Tryd.prog.rowNamed t [101, 114, 114, 111, 114] := List.mem_filter.2 ⟨List.mem_range.2 (by rw [← Tryd.size]; exact e3), e4⟩
    rw [Tryd.oneRow] at hm
    obtain rfl := List.mem_singleton.1 hm
    have hh : typeHandle Tryd.prog 103 = .pointer (some ⟨2, 103, none⟩) := by kernel_rfl
    rw [hh] at e5
    have hc := World.var?_cell Tryd.et e5 0
    simp at hc
    exact hc
  have t : Table W := by
    have h2 : laidMet Tryd.prog (("synodal/wire.halves", Lib.tabData .u32 tab) :: []) W := h'.1
    have hi := Lib.tabIs_of_head (t := 101) (e := 64) (n := 16) Tryd.ht (by kernel_rfl) Tryd.underlying101 Tryd.underlying64 (by kernel_rfl) (by kernel_rfl) h2
    intro i hi16
    rw [hi.cell Tryd.ht i (by simpa [tab, Sum.halves] using hi16)]
    have e : ∀ i, i < 16 → tab.getD i 0 = ((Sum.halves.getD i 0 : Nat) : Int) := by decide
    rw [e i hi16]
  exact ⟨t, g, by have h1 := blk_lt (t 0 (by decide)); have h2 := blk_lt g; simp at h1 h2; omega⟩

theorem u8_wf {n : Int} (h : (Lit.int .u8 n).wf = true) : 0 ≤ n ∧ n < 256 := by
  simp [Lit.wf, IntKind.min, IntKind.max, IntKind.bits, IntKind.signed] at h; omega

theorem nat_of {n : Int} (h : (Lit.int .u8 n).wf = true) : ∃ c : Nat, n = (c : Int) ∧ c < 256 := by
  have := u8_wf h
  exact ⟨n.toNat, by omega, by omega⟩

/-- the first blocks laid as the packages lay them. -/
def layFirst (w : World) : World :=
  { w with heap := (w.heap.modify 1 fun
      | .cells _ t frozen => .cells #[.iface 144 (.agg #[.pointer (some ⟨2, 103, none⟩)])] t frozen
      | o => o).modify 0 fun
      | .cells _ t frozen => .cells (tab.map fun n => Value.int .u32 n).toArray t frozen
      | o => o }
end Go.Proofs.YthjpdglbliigcaaDoor
