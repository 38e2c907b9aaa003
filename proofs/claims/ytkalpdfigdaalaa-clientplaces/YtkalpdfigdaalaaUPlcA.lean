/- ClientPlaces: plain. -/
import Derived.Test.YtkalpdfigdaalaaUEsA
namespace Go.Proofs.Ytkalpdfigdaalaa
open Go.RowKit Go.Maps

/-- no place that is looked at later is below the last one. -/
def LastI (es : List En) (k : Int) (j : Nat) (l : Int) : Prop := 0 ≤ l ∧ ∀ s : Int, (j : Int) ≤ s → 0 < (findOf es k s).1 → l < (findOf es k s).1
theorem LastI.zero (es : List En) (k : Int) (j : Nat) : LastI es k j 0 := ⟨Int.le_refl _, fun _ _ h => h⟩
theorem LastI.hit {es : List En} (hr : Rise es) {k : Int} {j : Nat} {l : Int} (h : LastI es k j l) (hm : 0 < (findOf es k (j : Int)).1) : l < (findOf es k (j : Int)).1 ∧ LastI es k (j + 1) (findOf es k (j : Int)).1 :=
  ⟨h.2 _ (Int.le_refl _) hm, findOf_nonneg _ _ _, fun s hs hp => findOf_rise hr (by omega) hm hp⟩
theorem LastI.miss {es : List En} {k : Int} {j : Nat} {l : Int} (h : LastI es k j l) : LastI es k (j + 1) l := ⟨h.1, fun s hs hp => h.2 s (by omega) hp⟩
/-- where all requests of some clients stand, by client and number. -/
def Has (es : List En) (H : Nat → Int) : Prop := ∀ c s : Nat, c < 4 → s < 20 → H (c * 20 + s) = (findOf es (c : Int) (s : Int)).1
theorem Has.nil : Has [] (fun _ => 0) := fun c s _ _ => by
  by_cases hb : (c : Int) < 1 ∨ (s : Int) < 1
  · rw [findOf_bad hb]
  · rw [findOf_first _ _ (by omega) (by omega)]
theorem Has.put {es : List En} (hr : Rise es) {H : Nat → Int} (h : Has es H) {e : En} (hm : mayPut es e) {c s : Nat} (hc : e.client = (c : Int)) (hs : e.seq = (s : Int)) (hs2 : s < 20) :
    Has (es ++ [e]) (fun i => if i = c * 20 + s then (es.length : Int) + 1 else H i) := fun c2 s2 h1 h2 => by
  rw [findOf_snoc hr hm, hc, hs]
  show (if c2 * 20 + s2 = c * 20 + s then (es.length : Int) + 1 else H (c2 * 20 + s2)) = _
  by_cases hx : c2 = c ∧ s2 = s
  · rw [if_pos (show c2 * 20 + s2 = c * 20 + s by omega), if_pos (show (c2 : Int) = (c : Int) ∧ (s2 : Int) = (s : Int) by omega)]
  · rw [if_neg (show ¬ c2 * 20 + s2 = c * 20 + s by omega), if_neg (show ¬ ((c2 : Int) = (c : Int) ∧ (s2 : Int) = (s : Int)) by omega)]
    exact h c2 s2 h1 h2
end Go.Proofs.Ytkalpdfigdaalaa
