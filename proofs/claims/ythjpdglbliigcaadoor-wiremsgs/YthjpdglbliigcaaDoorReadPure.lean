/- What wire's reader makes of bytes that were written: plain functions. -/
import Derived.Test.YthjpdglbliigcaaDoorReaderM
namespace Go.Proofs.YthjpdglbliigcaaDoor
open Go.RowKit

/-- a reader's function: of all bytes, the place and the first flaw. -/
abbrev RF (α : Type) := List Nat → (Nat × Nat) → α × (Nat × Nat)
def bindR {α β : Type} (R : RF α) (F : α → RF β) : RF β := fun bs s => F (R bs s).1 bs (R bs s).2
def retR {α : Type} (v : α) : RF α := fun _ s => (v, s)
/-- a flaw stays. -/
def Stays {α : Type} (R : RF α) : Prop := ∀ bs s, s.2 ≠ 0 → (R bs s).2.2 = s.2
/-- the bytes c are read as v; each front of them is cut. -/
def Reads {α : Type} (R : RF α) (c : List Nat) (v : α) : Prop :=
  (∀ pre rest, R (pre ++ c ++ rest) (pre.length, 0) = (v, (pre.length + c.length, 0))) ∧ ∀ pre k, k < c.length → (R (pre ++ c.take k) (pre.length, 0)).2.2 = 8
theorem stays_ret {α : Type} (v : α) : Stays (retR v) := fun _ _ _ => rfl
theorem stays_bind {α β : Type} {R : RF α} {F : α → RF β} (h : Stays R) (hf : ∀ v, Stays (F v)) : Stays (bindR R F) := fun bs s hs => by
  unfold bindR
  have h1 := h bs s hs
  rw [hf _ bs _ (by rw [h1]; exact hs), h1]
theorem reads_ret {α : Type} (v : α) : Reads (retR v) [] v := ⟨fun _ _ => rfl, fun _ k hk => by simp at hk⟩
theorem reads_bind {α β : Type} {R : RF α} {F : α → RF β} {c d : List Nat} {v : α} {u : β} (h : Reads R c v) (hf : Reads (F v) d u) (hs : ∀ v, Stays (F v)) : Reads (bindR R F) (c ++ d) u := by
  refine ⟨fun pre rest => ?_, fun pre k hk => ?_⟩
  · unfold bindR
    rw [show pre ++ (c ++ d) ++ rest = pre ++ c ++ (d ++ rest) by simp, h.1]
    simp only
    rw [show pre ++ c ++ (d ++ rest) = (pre ++ c) ++ d ++ rest by simp, ← List.length_append, hf.1, List.length_append, List.length_append, Nat.add_assoc]
  · unfold bindR
    by_cases hc : k < c.length
    · rw [List.take_append_of_le_length (Nat.le_of_lt hc)]
      have h8 := h.2 pre k hc
      rw [hs _ _ _ (by rw [h8]; decide), h8]
    · rw [List.take_append, List.take_of_length_le (by omega), ← List.append_assoc]
      rw [h.1, ← List.length_append]
      exact hf.2 (pre ++ c) (k - c.length) (by rw [List.length_append] at hk; omega)

theorem taken_at (pre c rest : List Nat) : taken (pre ++ c ++ rest) c.length (pre.length, 0) = c ∧ rtake (pre ++ c ++ rest).length c.length (pre.length, 0) = (pre.length + c.length, 0) := by
  have e : rtake (pre ++ c ++ rest).length c.length (pre.length, 0) = (pre.length + c.length, 0) := by
    unfold rtake
    rw [if_neg (by simp), if_neg (by simp only [List.length_append]; omega)]
  refine ⟨?_, e⟩
  unfold taken
  rw [e, if_pos rfl]
  simp
theorem taken_cut (pre c : List Nat) (k n : Nat) (hk : k < n) (hc : c.length = k) : taken (pre ++ c) n (pre.length, 0) = [] ∧ rtake (pre ++ c).length n (pre.length, 0) = (pre.length, 8) := by
  have e : rtake (pre ++ c).length n (pre.length, 0) = (pre.length, 8) := by
    unfold rtake
    rw [if_neg (by simp), if_pos (by simp only [List.length_append]; omega)]
  refine ⟨?_, e⟩
  unfold taken
  rw [e, if_neg (by simp)]
theorem rtake_stay (n k : Nat) (s : Nat × Nat) (h : s.2 ≠ 0) : rtake n k s = s := by unfold rtake; rw [if_pos h]

/-- take. -/
def takeR (k : Nat) : RF (List Nat) := fun bs s => (taken bs k s, rtake bs.length k s)
theorem takeR_stays (k : Nat) : Stays (takeR k) := fun bs s h => by simp only [takeR, rtake_stay _ _ _ h]
theorem takeR_reads {c : List Nat} {k : Nat} (hk : c.length = k) : Reads (takeR k) c c := by
  subst hk
  refine ⟨fun pre rest => ?_, fun pre k hk => ?_⟩
  · unfold takeR
    rw [(taken_at pre c rest).1, (taken_at pre c rest).2]
  · unfold takeR
    rw [(taken_cut pre (c.take k) k c.length hk (by rw [List.length_take]; omega)).2]
/-- integer. -/
def intR : RF Int := fun bs s => (rint bs s, rtake bs.length 8 s)
theorem intR_bind : intR = bindR (takeR 8) fun c => retR (wrap64 ((joinTo 0 c : Nat) : Int)) := rfl
theorem intR_stays : Stays intR := by rw [intR_bind]; exact stays_bind (takeR_stays 8) fun _ => stays_ret _
theorem num8_join {y : Int} (h1 : -9223372036854775808 ≤ y) (h2 : y < 9223372036854775808) : wrap64 ((joinTo 0 (num8 y) : Nat) : Int) = y := by
  unfold num8
  rw [join_be8 (by omega), Int.toNat_of_nonneg (by omega)]
  unfold wrap64
  omega
theorem intR_reads {y : Int} (h1 : -9223372036854775808 ≤ y) (h2 : y < 9223372036854775808) : Reads intR (num8 y) y := by
  rw [intR_bind]
  have h := reads_bind (F := fun c => retR (wrap64 ((joinTo 0 c : Nat) : Int))) (takeR_reads (num8_len y)) (reads_ret _) (fun _ => stays_ret _)
  rw [List.append_nil, num8_join h1 h2] at h
  exact h
/-- ruled. -/
def ruleR (q : Nat) : RF Nat := fun bs s => rrule bs q s
theorem ruleR_stays (q : Nat) : Stays (ruleR q) := fun bs s h => by
  unfold ruleR rrule
  rw [rtake_stay _ _ _ h]
  split
  · rfl
  · simp only
theorem ruleR_reads {q v : Nat} (h : refuse q v = 0) : Reads (ruleR q) [v] v := by
  refine ⟨fun pre rest => ?_, fun pre k hk => ?_⟩
  · have e := taken_at pre [v] rest
    simp only [List.length_singleton] at e
    unfold ruleR rrule
    rw [e.1, e.2]
    have ej : joinTo 0 [v] = v := by simp [joinTo]
    rw [ej, if_pos h]; rfl
  · have e := taken_cut pre ([v].take k) k 1 hk (by simp at hk; subst hk; rfl)
    unfold ruleR rrule
    rw [e.2]
    split
    · rfl
    · simp
/-- text. -/
theorem text_bind : (fun bs s => rtext bs s) = bindR (ruleR 4) takeR := rfl
def textR : RF (List Nat) := fun bs s => rtext bs s
theorem textR_stays : Stays textR := stays_bind (R := ruleR 4) (F := takeR) (ruleR_stays 4) takeR_stays
theorem textR_reads {c : List Nat} (h : refuse 4 c.length = 0) : Reads textR ([c.length] ++ c) c :=
  reads_bind (R := ruleR 4) (F := takeR) (ruleR_reads h) (takeR_reads rfl) takeR_stays
/-- a loop. -/
def loopR {α : Type} (R : RF α) : Nat → RF (List α)
  | 0 => retR []
  | k + 1 => bindR (loopR R k) fun l => bindR R fun y => retR (l ++ [y])
theorem loopR_stays {α : Type} {R : RF α} (h : Stays R) : ∀ k, Stays (loopR R k)
  | 0 => stays_ret _
  | k + 1 => stays_bind (loopR_stays h k) fun _ => stays_bind h fun _ => stays_ret _
theorem loopR_reads {α : Type} {R : RF α} (hs : Stays R) (cs : List (List Nat)) (ys : List α) (hl : cs.length = ys.length) (h : ∀ (i : Nat) (c : List Nat) (y : α), cs[i]? = some c → ys[i]? = some y → Reads R c y) : Reads (loopR R ys.length) cs.flatten ys := by
  obtain ⟨k, hk⟩ : ∃ k, ys.length = k := ⟨_, rfl⟩
  rw [hk]
  induction k generalizing cs ys with
  | zero =>
    obtain rfl : ys = [] := List.length_eq_zero_iff.1 hk
    obtain rfl : cs = [] := List.length_eq_zero_iff.1 (hl.trans hk)
    exact reads_ret _
  | succ k ih =>
    have hy0 : ys ≠ [] := fun e => by simp [e] at hk
    have hc0 : cs ≠ [] := fun e => by simp [e] at hl; omega
    have ey := List.dropLast_concat_getLast hy0
    have ec := List.dropLast_concat_getLast hc0
    have i1 := ih cs.dropLast ys.dropLast (by simp [hl]) (fun i c y hc hy => by
      have hi : i < ys.dropLast.length := by
        by_cases hi : i < ys.dropLast.length
        · exact hi
        · rw [List.getElem?_eq_none (by omega)] at hy; cases hy
      rw [List.length_dropLast] at hi
      refine h i c y ?_ ?_
      · rw [← hc, List.getElem?_dropLast, if_pos (by omega)]
      · rw [← hy, List.getElem?_dropLast, if_pos hi]) (by simp [hk])
    have i2 := h k (cs.getLast hc0) (ys.getLast hy0) (by rw [List.getLast_eq_getElem, List.getElem?_eq_getElem (by omega)]; simp [hl, hk]) (by rw [List.getLast_eq_getElem, List.getElem?_eq_getElem (by omega)]; simp [hk])
    have i3 := reads_bind (F := fun l => bindR R fun y => retR (l ++ [y])) i1 (reads_bind i2 (reads_ret _) (fun _ => stays_ret _)) (fun _ => stays_bind hs fun _ => stays_ret _)
    rw [ey, List.append_nil] at i3
    rw [show cs.flatten = cs.dropLast.flatten ++ cs.getLast hc0 by conv => lhs; rw [← ec]; rw [List.flatten_append]; simp]
    exact i3
end Go.Proofs.YthjpdglbliigcaaDoor
