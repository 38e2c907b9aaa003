/- Generations one behind the other: what SealIndexes asks of them, plainly. -/
import Derived.Test.YtgllokinadjiaaaSOwnP0
import Derived.Test.YtgllokinadjiaaaKWithin
namespace Go.Proofs.Ytgllokinadjiaaa
open Go.RowKit Go.Maps

structure Chn (gs : List Gn) : Prop where
  ne : gs ≠ []
  num : ∀ (i : Nat) (g : Gn), gs[i]? = some g → g.n = (i : Int) + 1
  rise : ∀ (i : Nat) (g h : Gn), gs[i]? = some g → gs[i + 1]? = some h → g.base < h.base
  lo : ∀ (g : Gn), gs[0]? = some g → g.base = 0
  hi : ∀ (i : Nat) (g : Gn), gs[i]? = some g → 0 ≤ g.base ∧ g.base ≤ 4 * (i : Int)
theorem Chn.one (ms : List Int) (e : Int) : Chn [⟨1, e, 0, ms⟩] := by
  refine ⟨by simp, fun i g hi => ?_, fun i g h hi hj => ?_, fun g hg => ?_, fun i g hi => ?_⟩
  · cases i with
    | zero => simp at hi; subst hi; rfl
    | succ i => simp at hi
  · simp at hj
  · simp at hg; subst hg; rfl
  · cases i with
    | zero => simp at hi; subst hi; simp
    | succ i => simp at hi
theorem Chn.push {gs : List Gn} (h : Chn gs) {l : Gn} (hl : gs[gs.length - 1]? = some l) {z e : Int} (hz : 0 ≤ z ∧ z < 4) (ms : List Int) : Chn (gs ++ [⟨l.n + 1, e, l.base + 1 + z, ms⟩]) := by
  have hpos : 0 < gs.length := List.length_pos_iff.2 h.ne
  have hn := h.num _ _ hl
  have hb := h.hi _ _ hl
  have cast : ((gs.length - 1 : Nat) : Int) = (gs.length : Int) - 1 := by omega
  rw [cast] at hn hb
  have at_old : ∀ (i : Nat), i < gs.length → (gs ++ [(⟨l.n + 1, e, l.base + 1 + z, ms⟩ : Gn)])[i]? = gs[i]? := fun i hi => List.getElem?_append_left hi
  have at_new : ∀ (i : Nat) (g : Gn), gs.length ≤ i → (gs ++ [(⟨l.n + 1, e, l.base + 1 + z, ms⟩ : Gn)])[i]? = some g → i = gs.length ∧ g = ⟨l.n + 1, e, l.base + 1 + z, ms⟩ := fun i g hi hg => by
    rw [List.getElem?_append_right hi] at hg
    have h1 := (List.getElem?_eq_some_iff.1 hg).1
    have : i = gs.length := by simp at h1; omega
    subst this
    simp at hg
    exact ⟨rfl, hg.symm⟩
  refine ⟨by simp, fun i g hi => ?_, fun i g k hi hk => ?_, fun g hg => ?_, fun i g hi => ?_⟩
  · by_cases e1 : i < gs.length
    · rw [at_old i e1] at hi; exact h.num i g hi
    · obtain ⟨rfl, rfl⟩ := at_new i g (by omega) hi
      show l.n + 1 = _
      omega
  · by_cases e1 : i + 1 < gs.length
    · rw [at_old _ e1] at hk
      rw [at_old _ (by omega)] at hi
      exact h.rise i g k hi hk
    · obtain ⟨e2, rfl⟩ := at_new (i + 1) k (by omega) hk
      rw [at_old i (by omega)] at hi
      have : i = gs.length - 1 := by omega
      subst this
      rw [hl] at hi; cases hi
      show l.base < l.base + 1 + z
      omega
  · rw [at_old 0 hpos] at hg; exact h.lo g hg
  · by_cases e1 : i < gs.length
    · rw [at_old i e1] at hi; exact h.hi i g hi
    · obtain ⟨rfl, rfl⟩ := at_new i g (by omega) hi
      show 0 ≤ l.base + 1 + z ∧ l.base + 1 + z ≤ 4 * (gs.length : Int)
      omega
/-- the generation that an index is of. -/
theorem Chn.at {gs : List Gn} (h : Chn gs) {k : Int} (hk : 1 ≤ k) : ∃ i, gs[i]? = some (atOf gs k) ∧ (atOf gs k).base < k ∧ ∀ g, gs[i + 1]? = some g → k ≤ g.base := by
  unfold atOf
  cases hf : gs.reverse.find? fun g => decide (g.base < k) with
  | none =>
    exfalso
    rw [List.find?_eq_none] at hf
    have hpos : 0 < gs.length := List.length_pos_iff.2 h.ne
    obtain ⟨g, hg⟩ : ∃ g, gs[0]? = some g := ⟨_, List.getElem?_eq_getElem hpos⟩
    have := hf g (by rw [List.mem_reverse]; exact List.mem_of_getElem? hg)
    have h0 := h.lo g hg
    simp at this
    omega
  | some g =>
    obtain ⟨hp, fs, bs, he, ha⟩ := List.find?_eq_some_iff_append.1 hf
    have hgs : gs = bs.reverse ++ g :: fs.reverse := by
      have := congrArg List.reverse he
      simpa using this
    refine ⟨bs.length, ?_, by simpa using hp, fun q hq => ?_⟩
    · rw [hgs, List.getElem?_append_right (by simp)]
      simp
    · rw [hgs, List.getElem?_append_right (by simp)] at hq
      have hmem : q ∈ fs := by
        have : q ∈ fs.reverse := by
          simp only [List.length_reverse, Nat.add_sub_cancel_left] at hq
          rw [List.getElem?_cons_succ] at hq
          exact List.mem_of_getElem? hq
        simpa using this
      have := ha q hmem
      simp at this
      exact this
end Go.Proofs.Ytgllokinadjiaaa
