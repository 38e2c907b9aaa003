/- HistAgain: plain words: what was put stands. -/
import Derived.Test.YtmgdkbpbmngibaaHXPutA
namespace Go.Proofs.Ytmgdkbpbmngibaa

theorem termOf_row {b : Int} {rs : List Rw} {j : Int} {K : Nat} (hb : b < j) (hK : (j - b - 1).toNat = K) : termOf b rs j = (rs[K]?.map (·.1)).getD 0 := by
  unfold termOf rowAt
  rw [if_pos hb, hK]
  cases rs[K]? <;> rfl
theorem placed_spec {b : Int} {rs : List Rw} {j t : Int} {e : En} {K : Nat} (hb : b < j) (hK : (j - b - 1).toNat = K) (hj : j ≤ b + (rs.length : Int) + 1) (ht : 1 ≤ t) :
    (placed b rs j t e).take K = rs.take K ∧ (placed b rs j t e)[K]?.map (·.1) = some t := by
  have hl : K ≤ rs.length := by omega
  unfold placed
  split
  · rename_i h
    rw [termOf_row hb hK] at h
    refine ⟨rfl, ?_⟩
    cases hr : rs[K]? with
    | none => rw [hr] at h; simp at h; omega
    | some r => rw [hr] at h; simp at h; simp [h]
  · unfold aheadOf
    rw [if_neg (by omega), hK, Nat.min_eq_left hl]
    refine ⟨?_, ?_⟩
    · rw [List.take_append_of_le_length (by rw [List.length_take]; omega), List.take_take, Nat.min_self]
    · rw [List.getElem?_append_right (by rw [List.length_take]; omega), List.length_take, Nat.min_eq_left hl, Nat.sub_self]; rfl
theorem putGo_spec (b : Int) : ∀ (ts : List Int) (es : List En) (rs : List Rw) (j : Int) (K : Nat), ts.length = es.length → b < j → (j - b - 1).toNat = K → j ≤ b + (rs.length : Int) + 1 → (∀ t ∈ ts, 1 ≤ t) →
    (putGo b rs j ts es).take K = rs.take K ∧ ∀ q, q < ts.length → ((putGo b rs j ts es)[K + q]?.map (·.1)).getD 0 = ts.getD q 0
  | [], es, rs, j, K, _, _, _, _, _ => ⟨by cases es <;> rfl, fun q hq => by simp at hq⟩
  | t :: ts, [], rs, j, K, hl, _, _, _, _ => by simp at hl
  | t :: ts, e :: es, rs, j, K, hl, hb, hK, hj, ht => by
    have h1 := placed_spec (e := e) hb hK hj (ht t (by simp))
    have hg := placed_ge (e := e) hb hj (ht t (by simp))
    have ih := putGo_spec b ts es (placed b rs j t e) (j + 1) (K + 1) (by simpa using hl) (by omega) (by omega) (by omega) (fun x hx => ht x (by simp [hx]))
    show (putGo b (placed b rs j t e) (j + 1) ts es).take K = rs.take K ∧ _
    refine ⟨?_, fun q hq => ?_⟩
    · have := congrArg (List.take K) ih.1
      rw [List.take_take, List.take_take, Nat.min_eq_left (Nat.le_succ K)] at this
      rw [this]; exact h1.1
    · cases q with
      | zero =>
        have h2 : (putGo b (placed b rs j t e) (j + 1) ts es)[K]? = (placed b rs j t e)[K]? := by
          have := congrArg (fun l => l[K]?) ih.1
          simpa [List.getElem?_take_of_lt (Nat.lt_succ_self K)] using this
        show ((putGo b (placed b rs j t e) (j + 1) ts es)[K + 0]?.map (·.1)).getD 0 = _
        rw [Nat.add_zero, h2, h1.2]; rfl
      | succ q =>
        have := ih.2 q (by simpa using hq)
        rw [show K + 1 + q = K + (q + 1) by omega] at this
        show ((putGo b (placed b rs j t e) (j + 1) ts es)[K + (q + 1)]?.map (·.1)).getD 0 = _
        rw [this]; rfl
theorem putGo_same (b : Int) : ∀ (ts : List Int) (es : List En) (R : List Rw) (j : Int) (K : Nat), b < j → (j - b - 1).toNat = K → (∀ q, q < ts.length → (R[K + q]?.map (·.1)).getD 0 = ts.getD q 0) → putGo b R j ts es = R
  | [], es, R, j, K, _, _, _ => by cases es <;> rfl
  | t :: ts, [], R, j, K, _, _, _ => rfl
  | t :: ts, e :: es, R, j, K, hb, hK, h => by
    have h0 := h 0 (by simp)
    have hp : placed b R j t e = R := by
      unfold placed
      rw [if_pos (by rw [termOf_row hb hK]; simpa using h0)]
    show putGo b (placed b R j t e) (j + 1) ts es = R
    rw [hp]
    refine putGo_same b ts es R (j + 1) (K + 1) (by omega) (by omega) (fun q hq => ?_)
    have := h (q + 1) (by simpa using hq)
    rw [show K + 1 + q = K + (q + 1) by omega, this]; rfl
theorem climbs_take : ∀ (ts : List Int) (a : Int) (k : Nat), climbsOf a ts = true → climbsOf a (ts.take k) = true
  | [], a, k, _ => by cases k <;> rfl
  | t :: ts, a, 0, _ => rfl
  | t :: ts, a, k + 1, h => by
    rw [climbsOf, Bool.and_eq_true] at h
    rw [List.take_succ_cons, climbsOf, Bool.and_eq_true]
    exact ⟨h.1, climbs_take ts t k h.2⟩
theorem placed_le {b : Int} {rs : List Rw} {j t : Int} {e : En} (hb : b < j) (hj : j ≤ b + 64) (hl : rs.length ≤ 64) : (placed b rs j t e).length ≤ 64 := by
  unfold placed
  split
  · exact hl
  · rw [List.length_append, List.length_take, List.length_singleton]
    unfold aheadOf
    rw [if_neg (by omega)]
    omega
theorem putGo_le (b : Int) : ∀ (ts : List Int) (es : List En) (rs : List Rw) (j : Int), b < j → j + (ts.length : Int) ≤ b + 65 → rs.length ≤ 64 → (putGo b rs j ts es).length ≤ 64
  | [], es, rs, j, _, _, h => by cases es <;> exact h
  | t :: ts, [], rs, j, _, _, h => h
  | t :: ts, e :: es, rs, j, hb, hj, h => by
    rw [List.length_cons] at hj
    exact putGo_le b ts es (placed b rs j t e) (j + 1) (by omega) (by omega) (placed_le hb (by omega) h)
/-- a log that has at most sixty-four rows goes on having so. -/
theorem putRows_le {rs : List Rw} {i t : Int} {ts : List Int} {es : List En} (h : rs.length ≤ 64) : (putRows 0 rs i t ts es).length ≤ 64 := by
  unfold putRows
  split
  · rename_i h0
    obtain ⟨q1, _, q3, _, _, q6⟩ := putNo_zero h0
    exact putGo_le 0 ts es rs (i + 1) (by omega) (by rw [q1]; omega) h
  · exact h
/-- what was put once stands: a front of it, put again, changes nothing. -/
theorem put_again {rs : List Rw} {i t : Int} {ts : List Int} {es : List En} {n k : Nat} (hn : es.length = n) (h0 : putNo 0 rs i t ts n = 0) (hk : k ≤ n) :
    putNo 0 (putRows 0 rs i t ts es) i t (ts.take k) k = 0 ∧ putRows 0 (putRows 0 rs i t ts es) i t (ts.take k) (es.take k) = putRows 0 rs i t ts es ∧ putN 0 (putRows 0 rs i t ts es) i t (ts.take k) k = i + (k : Int) := by
  obtain ⟨q1, q2, q3, q4, q5, q6⟩ := putNo_zero h0
  obtain ⟨K, hK⟩ : ∃ K, (i + 1 - 0 - 1).toNat = K := ⟨_, rfl⟩
  have hR : putRows 0 rs i t ts es = putGo 0 rs (i + 1) ts es := by unfold putRows; rw [hn, if_pos h0]
  obtain ⟨s1, s2⟩ := putGo_spec 0 ts es rs (i + 1) K (by omega) (by omega) hK (by omega) (climbs_pos q2)
  rw [← hR] at s1 s2
  obtain ⟨R, hRR⟩ : ∃ R, putRows 0 rs i t ts es = R := ⟨_, rfl⟩
  rw [hRR] at s1 s2 ⊢
  have hKr : K ≤ rs.length := by omega
  have hRl : K ≤ R.length := by
    have := congrArg List.length s1
    rw [List.length_take, List.length_take] at this
    omega
  have hno : putNo 0 R i t (ts.take k) k = 0 := by
    unfold putNo
    rw [if_pos (by rw [List.length_take]; omega), if_pos (climbs_take ts t k q2), if_neg (by omega), if_neg (by omega)]
    have ht : ¬ (0 < i ∧ termOf 0 R i ≠ t) := by
      rintro ⟨hi, hne⟩
      apply hne
      rw [← q5 hi]
      obtain ⟨J, hJ⟩ : ∃ J, (i - 0 - 1).toNat = J := ⟨_, rfl⟩
      rw [termOf_row hi hJ, termOf_row hi hJ]
      have hJK : J < K := by omega
      have := congrArg (fun l => l[J]?) s1
      simp only [List.getElem?_take_of_lt hJK] at this
      rw [this]
    rw [if_neg ht, if_pos (by omega)]
  refine ⟨hno, ?_, by unfold putN; rw [if_pos hno]⟩
  unfold putRows
  rw [List.length_take, hn, Nat.min_eq_left hk, if_pos hno]
  refine putGo_same 0 (ts.take k) (es.take k) R (i + 1) K (by omega) hK (fun q hq => ?_)
  rw [List.length_take] at hq
  rw [s2 q (by omega), List.getD_eq_getElem?_getD, List.getD_eq_getElem?_getD, List.getElem?_take_of_lt (by omega)]
end Go.Proofs.Ytmgdkbpbmngibaa
