/- synodallaw4's within, small, same, size, pick: contracts. -/
import Derived.Test.YtnagfoclbdlenaaGreatDoorWOpen
namespace Go.Proofs.YtnagfoclbdlenaaGreatDoor
open Go.RowKit

theorem within_any (n m : Int) (w : World) (h1 : 0 < m) (h2 : m ≤ 1000000000000) :
    Calls Tryz.prog 13 #[.int .i64 n, .int .i64 m] w fun ev w' => ev = .returned (.int .i64 (n % m)) ∧ w' = w := by
  have hb := Int.emod_nonneg n (show m ≠ 0 by omega)
  have hl := Int.emod_lt_of_pos n h1
  have ht : n.tmod m = n % m ∨ n.tmod m = n % m - m := by
    have h := @Int.tmod_eq_emod n m
    split at h
    · left; simpa using h
    · right; omega
  have hz : (m == 0) = false := by simp; omega
  by_cases hn : n.tmod m < 0
  · have he : n.tmod m + m = n % m := by omega
    have lo : -1000000000000 ≤ n.tmod m := by omega
    have HE := hide he
    clear ht he hb hl
    go_enter Tryz.func13, Tryz.ntmps13
    go_wp2
    go_ret
    refine ⟨ret_int ?_, rfl⟩
    exact unhide HE
  · have he : n.tmod m = n % m := by omega
    have HE := hide he
    clear ht he hb hl
    go_enter Tryz.func13, Tryz.ntmps13
    go_wp2
    go_ret
    refine ⟨ret_int ?_, rfl⟩
    exact unhide HE
theorem within_at (n m : Int) (k : Nat) (hk : n % m = k) (w : World) (h1 : 0 < m) (h2 : m ≤ 1000000000000) :
    Calls Tryz.prog 13 #[.int .i64 n, .int .i64 m] w fun ev w' => ev = .returned (.int .i64 (k : Int)) ∧ w' = w := by rw [← hk]; exact within_any n m w h1 h2
/-- within, its answer by a name. -/
theorem within_nat (n : Int) (m : Nat) (w : World) (h1 : 0 < m) (h2 : m ≤ 1000000000) : ∃ k : Nat, k < m ∧ Calls Tryz.prog 13 #[.int .i64 n, .int .i64 (m : Int)] w fun ev w' => ev = .returned (.int .i64 (k : Int)) ∧ w' = w := by
  have hb := Int.emod_nonneg n (show (m : Int) ≠ 0 by omega)
  have hl := Int.emod_lt_of_pos n (show (0 : Int) < m by omega)
  refine ⟨(n % (m : Int)).toNat, by omega, ?_⟩
  rw [show (((n % (m : Int)).toNat : Nat) : Int) = n % (m : Int) by omega]
  exact within_any n m w (by omega) (by omega)

/-- values that are slices of bytes. -/
def RowVals (w : World) (vs : List Value) (xs : List (List Nat)) : Prop := vs.length = xs.length ∧ ∀ (i : Nat) (v : Value) (x : List Nat), vs[i]? = some v → xs[i]? = some x → ∃ r cap, v = .slice r x.length cap ∧ Bytes w r x ∧ x.length ≤ cap ∧ (r = none → cap = 0)
theorem RowVals.nil (w : World) : RowVals w [] [] := ⟨rfl, fun i v x h => by simp at h⟩
theorem RowVals.snoc {w : World} {vs : List Value} {xs : List (List Nat)} {r : Option Addr} {n cap : Nat} {x : List Nat} (h : RowVals w vs xs) (hn : x.length = n) (hb : Bytes w r x) (h1 : n ≤ cap) (h2 : r = none → cap = 0) : RowVals w (vs ++ [.slice r n cap]) (xs ++ [x]) := by
  subst hn
  refine ⟨by simp [h.1], fun i u y hu hy => ?_⟩
  by_cases hi : i < vs.length
  · rw [List.getElem?_append_left hi] at hu
    rw [List.getElem?_append_left (by rw [← h.1]; exact hi)] at hy
    exact h.2 i u y hu hy
  · rw [List.getElem?_append_right (by omega)] at hu
    rw [List.getElem?_append_right (by rw [← h.1]; omega)] at hy
    rw [← h.1] at hy
    cases hj : i - vs.length with
    | zero => rw [hj] at hu hy; simp at hu hy; subst hu; subst hy; exact ⟨r, cap, rfl, hb, h1, h2⟩
    | succ j => rw [hj] at hu; simp at hu
theorem RowVals.append {w : World} {vs us : List Value} {xs ys : List (List Nat)} (h : RowVals w vs xs) (k : RowVals w us ys) : RowVals w (vs ++ us) (xs ++ ys) := by
  refine ⟨by simp [h.1, k.1], fun i u y hu hy => ?_⟩
  by_cases hi : i < vs.length
  · rw [List.getElem?_append_left hi] at hu
    rw [List.getElem?_append_left (by rw [← h.1]; exact hi)] at hy
    exact h.2 i u y hu hy
  · rw [List.getElem?_append_right (by omega)] at hu
    rw [List.getElem?_append_right (by rw [← h.1]; omega)] at hy
    rw [← h.1] at hy
    exact k.2 _ u y hu hy
theorem RowVals.below {w w' : World} {vs : List Value} {xs : List (List Nat)} (h : RowVals w vs xs) (hb : Below w.heap.size w w') : RowVals w' vs xs :=
  ⟨h.1, fun i v x hv hx => by obtain ⟨r, cap, e, h1, h2⟩ := h.2 i v x hv hx; exact ⟨r, cap, e, h1.below hb, h2⟩⟩
theorem RowVals.take {w : World} {vs : List Value} {xs : List (List Nat)} (h : RowVals w vs xs) (k : Nat) : RowVals w (vs.take k) (xs.take k) := by
  refine ⟨by simp [h.1], fun i v x hv hx => ?_⟩
  by_cases hi : i < k
  · rw [List.getElem?_take_of_lt hi] at hv hx; exact h.2 i v x hv hx
  · rw [List.getElem?_take_eq_none (by omega)] at hv; cases hv
theorem RowsOf.vals {base : Nat} {w : World} {vs : List Value} {xs : List (List Nat)} (h : RowsOf base w vs xs) : RowVals w vs xs :=
  ⟨h.1, fun i v x hv hx => by obtain ⟨ao, cap, e, h1, _, h3, h4, _⟩ := (h.2 i v x hv hx).slice; exact ⟨ao, cap, e, h3, h1, h4⟩⟩
theorem RowVals.one {w : World} {vs : List Value} {xs : List (List Nat)} (h : RowVals w vs xs) : ∀ u ∈ vs, u.oneCell' = true := by
  intro u hu
  obtain ⟨i, hi, rfl⟩ := List.mem_iff_getElem.1 hu
  obtain ⟨r, cap, e, _⟩ := h.2 i vs[i] _ (List.getElem?_eq_getElem hi) (List.getElem?_eq_getElem (by rw [← h.1]; exact hi))
  rw [e]; rfl
/-- a row of the call's own that holds such values, as a slice. -/
theorem rows_arg {w : World} {base : Nat} {fv : Value} {n : Nat} {vs : List Value} {xs : List (List Nat)} (h : w.ownsRow base 38 1 fv n vs) (hn : xs.length = n) (hv : RowVals w vs xs) : ∃ ao cap, fv = .slice ao n cap ∧ n ≤ cap ∧ cap ≤ maxLen ∧ (ao = none → cap = 0) ∧ RowsArg w ao xs := by
  subst hn
  rcases h.2 with ⟨rfl, hz⟩ | ⟨g, cap, cur, rfl, hb, hh, hc, hm, hs, ht⟩
  · exact ⟨none, 0, by rw [hz], by omega, by decide, fun _ => rfl, fun i hi => by omega⟩
  · refine ⟨_, cap, rfl, hc, hm, (fun e => by cases e), fun i hi => ?_⟩
    have hi' : i < vs.length := by rw [hv.1]; exact hi
    have hx : xs[i]? = some (xs.getD i []) := by rw [List.getD_eq_getElem?_getD, List.getElem?_eq_getElem hi]; rfl
    obtain ⟨r, cp, e, h1, h2, h3⟩ := hv.2 i vs[i] _ (List.getElem?_eq_getElem hi') hx
    refine ⟨_, r, cp, rfl, ?_, h1, h2, h3⟩
    rw [Addr.add_lit]
    have := h.cellAt i (by omega)
    rw [List.getElem?_eq_getElem hi', e] at this
    simpa using this

end Go.Proofs.YtnagfoclbdlenaaGreatDoor
