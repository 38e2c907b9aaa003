/- A list that a call made, read: where it lies and what its cells hold. -/
import Derived.Test.YteabloaipoehoaaDoorWrap
namespace Go.Proofs.YteabloaipoehoaaDoor
open Go.RowKit

theorem own_list {w : World} {B : Nat} {v : Value} {ps : List ByteArray} (h : w.ownsRow B 9 1 v ps.length (ps.map Value.string)) (hne : 0 < ps.length) :
    ∃ g cap, v = .slice (some ⟨g, 0, none⟩) ps.length cap ∧ B ≤ g ∧ g < w.heap.size ∧ ps.length ≤ cap ∧ ∀ j (hj : j < ps.length), w.cell? ⟨g, j, none⟩ = some (.string ps[j]) := by
  have hc := h
  rcases h.2 with ⟨_, h0⟩ | ⟨g, cap, cur, rfl, hb, hg, hcap, _⟩
  · omega
  · refine ⟨g, cap, rfl, hb, (Array.getElem?_eq_some_iff.1 hg).1, hcap, fun j hj => ?_⟩
    have h1 := hc.cells (g := g) rfl j (.string ps[j]) (by simp [hj])
    rw [Addr.add_lit] at h1
    simpa using h1

/-- what was below stays below. -/
theorem Below.far {w w1 w2 : World} (h : Below w.heap.size w w1) (k : Below w1.heap.size w1 w2) : Below w.heap.size w w2 := h.trans (k.mono h.size)
end Go.Proofs.YteabloaipoehoaaDoor
