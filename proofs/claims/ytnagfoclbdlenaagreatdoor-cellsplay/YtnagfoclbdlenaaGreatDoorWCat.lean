/- Frames one behind the other, and a part of one behind them: what Split makes of them. -/
import Derived.Test.YtnagfoclbdlenaaGreatDoorSplitW
namespace Go.Proofs.YtnagfoclbdlenaaGreatDoor
open Go.RowKit

/-- Split at a frame alone. -/
theorem frameOf_frame {bs : List Nat} (hb : ∀ x ∈ bs, x < 256) (hl : bs.length ≤ 65536) (more : List Nat) : frameOf (frame bs ++ more) = (0, some bs) := by
  have l4 : ∀ n, (be4 n).length = 4 := fun n => rfl
  have e : frame bs ++ more = be4 bs.length ++ (be4 (Sum.crc bs) ++ (bs ++ more)) := by simp [frame]
  have t1 : (frame bs ++ more).take 4 = be4 bs.length := by rw [e, List.take_append_of_le_length (by rw [l4]; omega), List.take_of_length_le (by rw [l4]; omega)]
  have d1 : (frame bs ++ more).drop 4 = be4 (Sum.crc bs) ++ (bs ++ more) := by rw [e, List.drop_append_of_le_length (by rw [l4]; omega), List.drop_of_length_le (by rw [l4]; omega), List.nil_append]
  have t2 : ((frame bs ++ more).drop 4).take 4 = be4 (Sum.crc bs) := by rw [d1, List.take_append_of_le_length (by rw [l4]; omega), List.take_of_length_le (by rw [l4]; omega)]
  have d2 : (frame bs ++ more).drop 8 = bs ++ more := by
    rw [show (8 : Nat) = 4 + 4 from rfl, ← List.drop_drop, d1, List.drop_append_of_le_length (by rw [l4]; omega), List.drop_of_length_le (by rw [l4]; omega), List.nil_append]
  have j1 : joinTo 0 (be4 bs.length) = bs.length := join_be4 (by omega)
  have j2 : joinTo 0 (be4 (Sum.crc bs)) = Sum.crc bs := join_be4 (Sum.crc_lt hb)
  have len : (frame bs ++ more).length = 8 + bs.length + more.length := by rw [e]; simp [l4]; omega
  have x : ((frame bs ++ more).drop 8).take bs.length = bs := by rw [d2, List.take_append_of_le_length (Nat.le_refl _), List.take_of_length_le (Nat.le_refl _)]
  unfold frameOf
  rw [if_neg (by omega)]
  simp only [t1, t2, j1, j2, x]
  rw [if_neg (by omega), if_neg (by omega), if_neg (by simp)]
theorem frame_length (bs : List Nat) : (frame bs).length = 8 + bs.length := by simp [frame, be4]; omega
theorem frameOf_nil : frameOf [] = (0, none) := by unfold frameOf; rfl
theorem row_open {w : World} {base : Nat} {e : TypeId} {fv : Value} {vs : List Value} (h : w.ownsRow base e 1 fv vs.length vs) (hne : vs ≠ []) :
    ∃ g cap, fv = .slice (some ⟨g, 0, none⟩) vs.length cap ∧ ∀ i, i < vs.length → w.cell? ⟨g, i, none⟩ = vs[i]? := by
  rcases h.2 with ⟨_, hn⟩ | ⟨g, cap, cur, rfl, _⟩
  · exact absurd (List.eq_nil_of_length_eq_zero hn) hne
  · exact ⟨g, cap, rfl, fun i hi => h.cellAt i (by omega)⟩
theorem frameOf_cut {x : List Nat} (hl : x.length ≤ 65536) (j : Nat) (hj : j < 8 + x.length) : frameOf ((frame x).take j) = (0, none) := by
  have l4 : ∀ n, (be4 n).length = 4 := fun n => rfl
  have len : ((frame x).take j).length = j := by rw [List.length_take, frame_length]; omega
  unfold frameOf
  by_cases h4 : j < 4
  · rw [if_pos (by omega)]
  · have e : frame x = be4 x.length ++ (be4 (Sum.crc x) ++ x) := by simp [frame]
    have t : ((frame x).take j).take 4 = be4 x.length := by
      rw [List.take_take, Nat.min_eq_left (by omega), e, List.take_append_of_le_length (by rw [l4]; omega), List.take_of_length_le (by rw [l4]; omega)]
    have j1 : joinTo 0 (be4 x.length) = x.length := join_be4 (by omega)
    rw [if_neg (by omega)]
    simp only [t, j1]
    rw [if_neg (by omega), if_pos (by omega)]


/-- rows that may be records. -/
def Fit (xs : List (List Nat)) : Prop := ∀ x ∈ xs, (∀ b ∈ x, b < 256) ∧ x.length ≤ 65536
/-- the frames of rows, one behind the other. -/
def cats (xs : List (List Nat)) : List Nat := (xs.map frame).flatten
theorem cats_nil : cats [] = [] := rfl
theorem cats_cons (x : List Nat) (xs : List (List Nat)) : cats (x :: xs) = frame x ++ cats xs := rfl
theorem cats_append (xs ys : List (List Nat)) : cats (xs ++ ys) = cats xs ++ cats ys := by simp [cats]
theorem cats_one (x : List Nat) : cats [x] = frame x := by simp [cats]
theorem cats_snoc (xs : List (List Nat)) (x : List Nat) : cats (xs ++ [x]) = cats xs ++ frame x := by rw [cats_append, cats_one]
/-- what rows take. -/
def takes : List (List Nat) → Nat
  | [] => 0
  | x :: xs => 8 + x.length + takes xs
theorem cats_len (xs : List (List Nat)) : (cats xs).length = takes xs := by
  induction xs with
  | nil => rfl
  | cons x xs ih => rw [cats_cons, List.length_append, ih, frame_length]; rfl
theorem takes_append (xs ys : List (List Nat)) : takes (xs ++ ys) = takes xs + takes ys := by
  rw [← cats_len, cats_append, List.length_append, cats_len, cats_len]
theorem takes_snoc (xs : List (List Nat)) (x : List Nat) : takes (xs ++ [x]) = takes xs + (8 + x.length) := by rw [takes_append]; rfl
theorem takes_le {xs : List (List Nat)} {m : Nat} (h : ∀ x ∈ xs, x.length ≤ m) : takes xs ≤ xs.length * (8 + m) := by
  induction xs with
  | nil => simp [takes]
  | cons x xs ih =>
    have h1 := h x (by simp)
    have h2 := ih (fun y hy => h y (by simp [hy]))
    simp only [takes, List.length_cons, Nat.succ_mul]
    omega
theorem takes_front (xs : List (List Nat)) (k : Nat) : takes (xs.take k) ≤ takes xs := by
  have h := takes_append (xs.take k) (xs.drop k)
  rw [List.take_append_drop] at h; omega
theorem Fit.nil : Fit [] := fun x hx => by cases hx
theorem Fit.append {xs ys : List (List Nat)} (h : Fit xs) (k : Fit ys) : Fit (xs ++ ys) := fun x hx => (List.mem_append.1 hx).elim (h x) (k x)
theorem Fit.snoc {xs : List (List Nat)} {x : List Nat} (h : Fit xs) (h1 : ∀ b ∈ x, b < 256) (h2 : x.length ≤ 65536) : Fit (xs ++ [x]) := h.append (fun y hy => by simp only [List.mem_cons, List.not_mem_nil, or_false] at hy; subst hy; exact ⟨h1, h2⟩)
theorem Fit.take {xs : List (List Nat)} (h : Fit xs) (k : Nat) : Fit (xs.take k) := fun x hx => h x (List.mem_of_mem_take hx)
theorem frame_bytes {x : List Nat} (h : ∀ b ∈ x, b < 256) : ∀ b ∈ frame x, b < 256 := by
  intro b hb
  simp only [frame, List.mem_append] at hb
  rcases hb with (hb | hb) | hb
  · exact be4_lt _ b hb
  · exact be4_lt _ b hb
  · exact h b hb
theorem cats_bytes {xs : List (List Nat)} (h : Fit xs) : ∀ b ∈ cats xs, b < 256 := by
  intro b hb
  simp only [cats, List.mem_flatten, List.mem_map] at hb
  obtain ⟨l, ⟨x, hx, rfl⟩, hb⟩ := hb
  exact frame_bytes (h x hx).1 b hb

/-- rows laid into frames, and behind them what is no frame yet. -/
theorem split_at {xs : List (List Nat)} (h : Fit xs) {r : List Nat} (hr : frameOf r = (0, none)) : ∀ f, xs.length < f → splitOf f (cats xs ++ r) = (xs, takes xs, 0) := by
  induction xs with
  | nil =>
    intro f hf
    rw [cats_nil, List.nil_append, splitOf_none hr (by simpa using hf)]; rfl
  | cons x xs ih =>
    intro f hf
    obtain ⟨g, rfl⟩ : ∃ g, f = g + 1 := ⟨f - 1, by simp at hf; omega⟩
    have hx := h x (by simp)
    have e : frameOf (cats (x :: xs) ++ r) = (0, some x) := by rw [cats_cons, List.append_assoc]; exact frameOf_frame hx.1 hx.2 _
    rw [splitOf_some e]
    have d : (cats (x :: xs) ++ r).drop (8 + x.length) = cats xs ++ r := by
      rw [cats_cons, List.append_assoc, List.drop_append_of_le_length (by rw [frame_length]; omega), List.drop_of_length_le (by rw [frame_length]; omega), List.nil_append]
    rw [d, ih (fun y hy => h y (by simp [hy])) g (by simpa using hf)]
    rfl
theorem rows_le (xs : List (List Nat)) : xs.length * 8 ≤ takes xs := by
  induction xs with
  | nil => simp [takes]
  | cons x xs ih => simp only [takes, List.length_cons, Nat.succ_mul]; omega
theorem split_cats {xs : List (List Nat)} (h : Fit xs) {r : List Nat} (hr : frameOf r = (0, none)) : splitOf ((cats xs ++ r).length + 1) (cats xs ++ r) = (xs, takes xs, 0) := by
  refine split_at h hr _ ?_
  rw [List.length_append, cats_len]
  have := rows_le xs
  omega
theorem split_whole {xs : List (List Nat)} (h : Fit xs) : splitOf ((cats xs).length + 1) (cats xs) = (xs, takes xs, 0) := by
  have e := split_cats h frameOf_nil
  rwa [List.append_nil] at e

/-- a front of frames: whole ones, and a part of the next. -/
theorem front_cats {xs : List (List Nat)} (h : Fit xs) : ∀ c, c ≤ takes xs → ∃ k r, k ≤ xs.length ∧ (cats xs).take c = cats (xs.take k) ++ r ∧ frameOf r = (0, none) ∧ takes (xs.take k) ≤ c ∧ (k < xs.length → c < takes (xs.take (k + 1))) ∧ (k = xs.length → r = []) := by
  induction xs with
  | nil => intro c hc; exact ⟨0, [], Nat.le_refl _, by simp [cats], frameOf_nil, Nat.zero_le _, (fun hk => by simp at hk), fun _ => rfl⟩
  | cons x xs ih =>
    intro c hc
    have hx := h x (by simp)
    by_cases hl : c < 8 + x.length
    · refine ⟨0, (frame x).take c, Nat.zero_le _, ?_, frameOf_cut hx.2 c hl, Nat.zero_le _, (fun _ => by simpa [takes] using hl), fun hk => by simp at hk⟩
      rw [List.take_zero, cats_nil, List.nil_append, cats_cons, List.take_append_of_le_length (by rw [frame_length]; omega)]
    · obtain ⟨k, r, h1, h2, h3, h4, h5, h6⟩ := ih (fun y hy => h y (by simp [hy])) (c - (8 + x.length)) (by simp only [takes] at hc; omega)
      refine ⟨k + 1, r, by simpa using h1, ?_, h3, by simp only [List.take_succ_cons, takes]; omega, (fun hk => ?_), fun hk => h6 (by simpa using hk)⟩
      · rw [cats_cons, List.take_append, List.take_of_length_le (by rw [frame_length]; omega), frame_length, h2, List.take_succ_cons, cats_cons, List.append_assoc]
      · have := h5 (by simpa using hk)
        simp only [List.take_succ_cons, takes]; omega
end Go.Proofs.YtnagfoclbdlenaaGreatDoor
