/- A configuration as a value. -/
import Derived.Test.YtjcidihcmbenhaaKCheck
namespace Go.Proofs.Ytjcidihcmbenhaa
open Go.RowKit

/-- v is a configuration. -/
def Cf (w : World) (v : Value) (old new : List Int) : Prop :=
  ∃ ao no co an nn cn, v = .agg #[.slice ao no co, .slice an nn cn] ∧ old.length = no ∧ no ≤ co ∧ Fr w ao old ∧ new.length = nn ∧ nn ≤ cn ∧ Fr w an new
theorem Cf.below {w w' : World} {v : Value} {old new : List Int} (h : Cf w v old new) (hb : Below w.heap.size w w') : Cf w' v old new := by
  obtain ⟨ao, no, co, an, nn, cn, h1, h2, h3, h4, h5, h6, h7⟩ := h
  exact ⟨ao, no, co, an, nn, cn, h1, h2, h3, h4.below hb, h5, h6, h7.below hb⟩
theorem Fr.nil (w : World) : Fr w none [] := ⟨IntsR.nil _ _, fun a ha => by cases ha⟩
theorem Cf.nil (w : World) : Cf w (.agg #[.slice none 0 0, .slice none 0 0]) [] [] := ⟨none, 0, 0, none, 0, 0, rfl, rfl, Nat.le_refl _, Fr.nil w, rfl, Nat.le_refl _, Fr.nil w⟩
end Go.Proofs.Ytjcidihcmbenhaa
