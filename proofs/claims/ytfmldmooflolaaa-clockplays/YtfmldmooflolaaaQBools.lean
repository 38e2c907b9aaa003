/- Arguments: what a slice of bools holds. -/
import Derived.Test.YtfmldmooflolaaaQPlW
import Derived.Test.YtfmldmooflolaaaKArgs
import Derived.Deep.Grids
namespace Go.Proofs.Ytfmldmooflolaaa
open Go.ChangeShapes Go.WideShapes Go.ChangeAt Go.RowKit Go.Deep

theorem Try.cellsB : Try.prog.cellsOf 4 = 1 := by kernel_rfl
set_option maxRecDepth 100000 in
theorem bools_open {H : Type} {enc : TypeId × Value → H} {W : World} {base : Nat} {v : Value} {d : DataW H} {p : List MemPlace} (hv : Value.okWide Try.prog W .any base 23 v) (h : DataW.Trod enc Try.prog W 0 (fun _ => true) true 23 v d p) :
    ∃ ao n cap bs, v = .slice ao n cap ∧ bs.length = n ∧ n ≤ maxLen ∧ BoolsR W ao bs := by
  obtain ⟨a0, len, cap, rfl⟩ := okWide_slice Try.underlying23 hv
  obtain ⟨fuel, hf⟩ := h
  rcases open_bools Try.underlying23 Try.underlying4 Try.cellsB hf with ⟨hcs, hx⟩ | ⟨a, len', cap', B, hcs, _, hl, hm, hx, hcell⟩
  · simp [Value.cells] at hcs
    obtain ⟨rfl, rfl, rfl⟩ := hcs
    exact ⟨none, 0, 0, [], rfl, rfl, by decide, fun i h => by simp at h⟩
  · simp [Value.cells] at hcs
    obtain ⟨rfl, rfl, rfl⟩ := hcs
    refine ⟨some a, len, cap, (List.range len).map B, rfl, by simp, by omega, fun i hi => ⟨a, rfl, ?_⟩⟩
    have hil : i < len := by simpa using hi
    rw [hcell i (by omega), List.getD_eq_getElem?_getD]
    simp [hil]
end Go.Proofs.Ytfmldmooflolaaa
