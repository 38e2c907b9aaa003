/- Frames one behind the other, cut off anywhere: what Split makes of them. -/
import Derived.Test.YtfccflgbljklaaaDoorFramed
namespace Go.Proofs.YtfccflgbljklaaaDoor

/-- the frames of the first k rows, one behind the other. -/
def cat (xs : List (List Nat)) (k : Nat) : List Nat := ((xs.take k).map frame).flatten
theorem cat_zero (xs : List (List Nat)) : cat xs 0 = [] := rfl
theorem cat_succ (xs : List (List Nat)) (k : Nat) (h : k < xs.length) : cat xs (k + 1) = cat xs k ++ frame (xs.getD k []) := by
  unfold cat; rw [take_succ xs [] k h]; simp
theorem cat_bytes {xs : List (List Nat)} (h : ∀ x ∈ xs, ∀ b ∈ x, b < 256) (k : Nat) : ∀ b ∈ cat xs k, b < 256 := by
  intro b hb
  unfold cat at hb
  simp only [List.mem_flatten, List.mem_map] at hb
  obtain ⟨l, ⟨x, hx, rfl⟩, hb⟩ := hb
  simp only [frame, List.append_assoc, List.mem_append] at hb
  rcases hb with h1 | h1 | h1
  · exact be4_lt _ b h1
  · exact be4_lt _ b h1
  · exact h x (List.mem_of_mem_take hx) b h1
theorem cat_mono (xs : List (List Nat)) {k m : Nat} (h : k ≤ m) : ∃ more, cat xs m = cat xs k ++ more := by
  refine ⟨(((xs.take m).drop k).map frame).flatten, ?_⟩
  unfold cat
  rw [← List.flatten_append, ← List.map_append]
  congr 2
  rw [show xs.take k = (xs.take m).take k by rw [List.take_take, Nat.min_eq_left h], List.take_append_drop]
theorem cat_len_le {xs : List (List Nat)} : ∀ k, k ≤ xs.length → (∀ j, j < k → (xs.getD j []).length ≤ 300) → (cat xs k).length ≤ k * 308
  | 0, _, _ => by simp [cat_zero]
  | k + 1, hk, h => by
    rw [cat_succ xs k (by omega), List.length_append, frame_length]
    have := cat_len_le k (by omega) (fun j hj => h j (by omega))
    have := h k (by omega)
    omega

theorem frameOf_cut {x : List Nat} (hl : x.length ≤ 65536) (j : Nat) (hj : j < 8 + x.length) : frameOf ((frame x).take j) = (0, none) := by
  have l4 : ∀ n, (be4 n).length = 4 := fun n => rfl
  have len : ((frame x).take j).length = j := by rw [List.length_take, frame_length]; omega
  unfold frameOf
  by_cases h4 : j < 4
  · rw [if_pos (by omega)]
  · have e : frame x = be4 x.length ++ (be4 (Sum.crc x) ++ x) := by simp [frame]
    have t : ((frame x).take j).take 4 = be4 x.length := by
      rw [List.take_take, Nat.min_eq_left (by omega), e, List.take_append_of_le_length (by rw [l4]; omega), List.take_of_length_le (by rw [l4]; omega)]
    have j1 : joinTo 0 (be4 x.length) = x.length := join_be4 (by omega)
    rw [if_neg (by omega)]
    simp only [t, j1]
    rw [if_neg (by omega), if_pos (by omega)]

theorem getD_mem {xs : List (List Nat)} {k : Nat} (h : k < xs.length) : xs.getD k [] ∈ xs := by
  rw [List.getD_eq_getElem?_getD, List.getElem?_eq_getElem h]; exact List.getElem_mem h

/-- behind the frames that are whole. -/
theorem done_cat {xs : List (List Nat)} (hx : ∀ x ∈ xs, ∀ b ∈ x, b < 256) {m c : Nat} (hm : m ≤ xs.length) (hl : ∀ j, j < m → (xs.getD j []).length ≤ 300) :
    ∀ j, j ≤ m → (cat xs j).length ≤ c → Done ((cat xs m).take c) (xs.take j) (cat xs j).length := by
  intro j
  induction j with
  | zero => intro _ _; exact Done.start _
  | succ j ih =>
    intro hj hc
    have hjx : j < xs.length := by omega
    have hlen := hl j (by omega)
    rw [cat_succ xs j hjx, List.length_append, frame_length] at hc
    have d := ih (by omega) (by omega)
    obtain ⟨more, em⟩ := cat_mono xs (k := j + 1) (m := m) hj
    rw [cat_succ xs j hjx] at em
    have ed : ((cat xs m).take c).drop (cat xs j).length = frame (xs.getD j []) ++ more.take (c - ((cat xs j).length + (8 + (xs.getD j []).length))) := by
      rw [em, List.append_assoc, List.take_append, List.drop_append, List.drop_of_length_le (by rw [List.length_take]; omega), List.nil_append, List.length_take, Nat.min_eq_right (by omega), Nat.sub_self, List.drop_zero, List.take_append, List.take_of_length_le (by rw [frame_length]; omega), frame_length]
      congr 2
      omega
    have hf := frameOf_frame (hx _ (getD_mem hjx)) (by omega) (more.take (c - ((cat xs j).length + (8 + (xs.getD j []).length))))
    rw [← ed] at hf
    have ls : (cat xs j).length + (8 + (xs.getD j []).length) ≤ ((cat xs m).take c).length := by
      rw [List.length_take, em]; simp only [List.length_append, frame_length]; omega
    have := d.step hf ls
    rw [take_succ xs [] j hjx, cat_succ xs j hjx, List.length_append, frame_length]
    exact this

theorem split_cat {xs : List (List Nat)} (hx : ∀ x ∈ xs, ∀ b ∈ x, b < 256) {m c k : Nat} (hm : m ≤ xs.length) (hl : ∀ j, j < m → (xs.getD j []).length ≤ 300)
    (hk : k ≤ m) (hc : (cat xs k).length ≤ c) (hcm : c ≤ (cat xs m).length) (hn : k = m ∨ c < (cat xs (k + 1)).length) :
    splitOf (((cat xs m).take c).length + 1) ((cat xs m).take c) = (xs.take k, (cat xs k).length, 0) := by
  refine (done_cat hx hm hl k hk hc).stop ?_
  by_cases hkm : k = m
  · subst hkm
    have : (cat xs k).length = c := by omega
    rw [List.drop_of_length_le (by rw [List.length_take]; omega)]
    exact frameOf_nil
  · have hkx : k < xs.length := by omega
    have hlen := hl k (by omega)
    rcases hn with hn | hn
    · exact absurd hn hkm
    obtain ⟨more, em⟩ := cat_mono xs (k := k + 1) (m := m) (by omega)
    rw [cat_succ xs k hkx] at em hn
    rw [List.length_append, frame_length] at hn
    have ed : ((cat xs m).take c).drop (cat xs k).length = (frame (xs.getD k [])).take (c - (cat xs k).length) := by
      rw [em, List.append_assoc, List.take_append, List.drop_append, List.drop_of_length_le (by rw [List.length_take]; omega), List.nil_append, List.length_take, Nat.min_eq_right (by omega), Nat.sub_self, List.drop_zero, List.take_append_of_le_length (by rw [frame_length]; omega)]
    rw [ed]
    exact frameOf_cut (by omega) _ (by omega)
end Go.Proofs.YtfccflgbljklaaaDoor
