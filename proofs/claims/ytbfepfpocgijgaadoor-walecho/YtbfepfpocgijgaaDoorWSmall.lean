/- synodallaw4's within, small, same, size, pick: contracts. -/
import Derived.Test.YtbfepfpocgijgaaDoorWOpen
namespace Go.Proofs.YtbfepfpocgijgaaDoor
open Go.RowKit

theorem within_any (n m : Int) (w : World) (h1 : 0 < m) (h2 : m ≤ 1000000000000) :
    Calls Tryd.prog 12 #[.int .i64 n, .int .i64 m] w fun ev w' => ev = .returned (.int .i64 (n % m)) ∧ w' = w := by
  have hb := Int.emod_nonneg n (show m ≠ 0 by omega)
  have hl := Int.emod_lt_of_pos n h1
  have ht : n.tmod m = n % m ∨ n.tmod m = n % m - m := by
    have h := @Int.tmod_eq_emod n m
    split at h
    · left; simpa using h
    · right; omega
  have hz : (m == 0) = false := by simp; omega
  by_cases hn : n.tmod m < 0
  · have he : n.tmod m + m = n % m := by omega
    have lo : -1000000000000 ≤ n.tmod m := by omega
    have HE := hide he
    clear ht he hb hl
    go_enter Tryd.func12, Tryd.ntmps12
    go_wp2
    go_ret
    refine ⟨ret_int ?_, rfl⟩
    exact unhide HE
  · have he : n.tmod m = n % m := by omega
    have HE := hide he
    clear ht he hb hl
    go_enter Tryd.func12, Tryd.ntmps12
    go_wp2
    go_ret
    refine ⟨ret_int ?_, rfl⟩
    exact unhide HE
theorem within_at (n m : Int) (k : Nat) (hk : n % m = k) (w : World) (h1 : 0 < m) (h2 : m ≤ 1000000000000) :
    Calls Tryd.prog 12 #[.int .i64 n, .int .i64 m] w fun ev w' => ev = .returned (.int .i64 (k : Int)) ∧ w' = w := by rw [← hk]; exact within_any n m w h1 h2
/-- within, its answer by a name. -/
theorem within_nat (n : Int) (m : Nat) (w : World) (h1 : 0 < m) (h2 : m ≤ 1000000000) : ∃ k : Nat, k < m ∧ Calls Tryd.prog 12 #[.int .i64 n, .int .i64 (m : Int)] w fun ev w' => ev = .returned (.int .i64 (k : Int)) ∧ w' = w := by
  have hb := Int.emod_nonneg n (show (m : Int) ≠ 0 by omega)
  have hl := Int.emod_lt_of_pos n (show (0 : Int) < m by omega)
  refine ⟨(n % (m : Int)).toNat, by omega, ?_⟩
  rw [show (((n % (m : Int)).toNat : Nat) : Int) = n % (m : Int) by omega]
  exact within_any n m w (by omega) (by omega)

/-- values that are slices of bytes. -/
def RowVals (w : World) (vs : List Value) (xs : List (List Nat)) : Prop := vs.length = xs.length ∧ ∀ (i : Nat) (v : Value) (x : List Nat), vs[i]? = some v → xs[i]? = some x → ∃ r cap, v = .slice r x.length cap ∧ Bytes w r x ∧ x.length ≤ cap ∧ (r = none → cap = 0)
theorem RowVals.nil (w : World) : RowVals w [] [] := ⟨rfl, fun i v x h => by simp at h⟩
theorem RowVals.snoc {w : World} {vs : List Value} {xs : List (List Nat)} {r : Option Addr} {n cap : Nat} {x : List Nat} (h : RowVals w vs xs) (hn : x.length = n) (hb : Bytes w r x) (h1 : n ≤ cap) (h2 : r = none → cap = 0) : RowVals w (vs ++ [.slice r n cap]) (xs ++ [x]) := by
  subst hn
  refine ⟨by simp [h.1], fun i u y hu hy => ?_⟩
  by_cases hi : i < vs.length
  · rw [List.getElem?_append_left hi] at hu
    rw [List.getElem?_append_left (by rw [← h.1]; exact hi)] at hy
    exact h.2 i u y hu hy
  · rw [List.getElem?_append_right (by omega)] at hu
    rw [List.getElem?_append_right (by rw [← h.1]; omega)] at hy
    rw [← h.1] at hy
    cases hj : i - vs.length with
    | zero => rw [hj] at hu hy; simp at hu hy; subst hu; subst hy; exact ⟨r, cap, rfl, hb, h1, h2⟩
    | succ j => rw [hj] at hu; simp at hu
theorem RowVals.append {w : World} {vs us : List Value} {xs ys : List (List Nat)} (h : RowVals w vs xs) (k : RowVals w us ys) : RowVals w (vs ++ us) (xs ++ ys) := by
  refine ⟨by simp [h.1, k.1], fun i u y hu hy => ?_⟩
  by_cases hi : i < vs.length
  · rw [List.getElem?_append_left hi] at hu
    rw [List.getElem?_append_left (by rw [← h.1]; exact hi)] at hy
    exact h.2 i u y hu hy
  · rw [List.getElem?_append_right (by omega)] at hu
    rw [List.getElem?_append_right (by rw [← h.1]; omega)] at hy
    rw [← h.1] at hy
    exact k.2 _ u y hu hy
theorem RowVals.below {w w' : World} {vs : List Value} {xs : List (List Nat)} (h : RowVals w vs xs) (hb : Below w.heap.size w w') : RowVals w' vs xs :=
  ⟨h.1, fun i v x hv hx => by obtain ⟨r, cap, e, h1, h2⟩ := h.2 i v x hv hx; exact ⟨r, cap, e, h1.below hb, h2⟩⟩
theorem RowVals.take {w : World} {vs : List Value} {xs : List (List Nat)} (h : RowVals w vs xs) (k : Nat) : RowVals w (vs.take k) (xs.take k) := by
  refine ⟨by simp [h.1], fun i v x hv hx => ?_⟩
  by_cases hi : i < k
  · rw [List.getElem?_take_of_lt hi] at hv hx; exact h.2 i v x hv hx
  · rw [List.getElem?_take_eq_none (by omega)] at hv; cases hv
theorem RowsOf.vals {base : Nat} {w : World} {vs : List Value} {xs : List (List Nat)} (h : RowsOf base w vs xs) : RowVals w vs xs :=
  ⟨h.1, fun i v x hv hx => by obtain ⟨ao, cap, e, h1, _, h3, h4, _⟩ := (h.2 i v x hv hx).slice; exact ⟨ao, cap, e, h3, h1, h4⟩⟩
theorem RowVals.one {w : World} {vs : List Value} {xs : List (List Nat)} (h : RowVals w vs xs) : ∀ u ∈ vs, u.oneCell' = true := by
  intro u hu
  obtain ⟨i, hi, rfl⟩ := List.mem_iff_getElem.1 hu
  obtain ⟨r, cap, e, _⟩ := h.2 i vs[i] _ (List.getElem?_eq_getElem hi) (List.getElem?_eq_getElem (by rw [← h.1]; exact hi))
  rw [e]; rfl
/-- a row of the call's own that holds such values, as a slice. -/
theorem rows_arg {w : World} {base : Nat} {fv : Value} {n : Nat} {vs : List Value} {xs : List (List Nat)} (h : w.ownsRow base 32 1 fv n vs) (hn : xs.length = n) (hv : RowVals w vs xs) : ∃ ao cap, fv = .slice ao n cap ∧ n ≤ cap ∧ cap ≤ maxLen ∧ (ao = none → cap = 0) ∧ RowsArg w ao xs := by
  subst hn
  rcases h.2 with ⟨rfl, hz⟩ | ⟨g, cap, cur, rfl, hb, hh, hc, hm, hs, ht⟩
  · exact ⟨none, 0, by rw [hz], by omega, by decide, fun _ => rfl, fun i hi => by omega⟩
  · refine ⟨_, cap, rfl, hc, hm, (fun e => by cases e), fun i hi => ?_⟩
    have hi' : i < vs.length := by rw [hv.1]; exact hi
    have hx : xs[i]? = some (xs.getD i []) := by rw [List.getD_eq_getElem?_getD, List.getElem?_eq_getElem hi]; rfl
    obtain ⟨r, cp, e, h1, h2, h3⟩ := hv.2 i vs[i] _ (List.getElem?_eq_getElem hi') hx
    refine ⟨_, r, cp, rfl, ?_, h1, h2, h3⟩
    rw [Addr.add_lit]
    have := h.cellAt i (by omega)
    rw [List.getElem?_eq_getElem hi', e] at this
    simpa using this

set_option maxHeartbeats 1000000 in
theorem same_any (ao ao' : Option Addr) (n n' cap cap' : Nat) (xs ys : List (List Nat)) (hn : xs.length = n) (hn' : ys.length = n') (w : World) (hx : RowsArg w ao xs) (hy : RowsArg w ao' ys) (hl : n ≤ 1000000) (hl' : n' ≤ 1000000) :
    Calls Tryd.prog 17 #[.slice ao n cap, .slice ao' n' cap'] w fun e w' => ∃ b, e = .returned (.bool b) ∧ (xs = ys → b = true) ∧ Below w.heap.size w w' := by
  have HX := hide hx
  have HY := hide hy
  have HN := hide hn
  have HN' := hide hn'
  clear hx hy hn hn'
  by_cases hne : n = n'
  · have hnn : (n : Int) = (n' : Int) := by omega
    subst hne
    clear hnn
    go_enter Tryd.func17, Tryd.ntmps17
    go_wp2_with fail
    go_loopw [5] (fun iv wr => ∃ i : Nat, i ≤ n ∧ iv = .int .i64 i ∧ Below w.heap.size w wr) (fun iv _ => n - (intOf iv).toNat)
    case atStart => exact ⟨0, Nat.zero_le _, rfl, Below.refl _ _⟩
    case round =>
      obtain ⟨i, hi, rfl, hb⟩ := hrel
      have B := hide hb
      clear hb
      by_cases hlt : i < n
      · obtain ⟨a1, r1, c1, rfl, k1, y1, _, _⟩ := (unhide HX).upto (unhide B) i (by rw [unhide HN]; exact hlt)
        obtain ⟨a2, r2, c2, rfl, k2, y2, _, _⟩ := (unhide HY).upto (unhide B) i (by rw [unhide HN']; exact hlt)
        have v1 := fun q => conv_str (cap := c1) (y1.below (drewN_below wr q)) rfl
        have v2 := fun q => conv_str (cap := c2) (y2.below (drewN_below wr q)) rfl
        have hq : xs = ys → str (xs.getD i []) = str (ys.getD i []) := fun e => by rw [e]
        have HQ := hide hq
        have q1 : (i : Int) < n := by omega
        clear y1 y2 hq
        generalize str (xs.getD i []) = sx at *
        generalize str (ys.getD i []) = sy at *
        generalize (xs.getD i []).length = lx at *
        generalize (ys.getD i []).length = ly at *
        by_cases hs : sx.toList = sy.toList
        · have hs' : (sx.toList == sy.toList) = true := beq_iff_eq.2 hs
          go_wp2_with fail
          go_quiet (fail)
          go_wp2
          go_roundw
          case rel => exact ⟨i + 1, by omega, by go_num, (unhide B).trans ((drewN_below _ _).mono (unhide B).size)⟩
          case measure => simp [intOf]; omega
        · have hs' : (sx.toList == sy.toList) = false := beq_eq_false_iff_ne.2 hs
          go_wp2_with fail
          go_quiet (fail)
          go_wp2
          go_ret
          exact ⟨_, rfl, fun e => absurd (congrArg _ (unhide HQ e)) hs, (unhide B).trans ((drewN_below _ _).mono (unhide B).size)⟩
      · go_wp2
        go_ret
        exact ⟨_, rfl, fun _ => rfl, unhide B⟩
  · have hnn : ((n : Int) == (n' : Int)) = false := by simp; omega
    have HNE := hide hne
    clear hne
    go_enter Tryd.func17, Tryd.ntmps17
    go_wp2
    go_ret
    exact ⟨_, rfl, fun e => absurd (by rw [← unhide HN, ← unhide HN', e]) (unhide HNE), Below.refl _ _⟩
end Go.Proofs.YtbfepfpocgijgaaDoor
