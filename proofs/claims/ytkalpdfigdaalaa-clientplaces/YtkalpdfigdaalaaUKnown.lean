/- synodallaw18's known and within: contracts. -/
import Derived.Test.YtkalpdfigdaalaaUAsk
namespace Go.Proofs.Ytkalpdfigdaalaa
open Go.RowKit Go.Maps
attribute [local go_sem ↓] Go.wp_at_zero Go.wp_at_succ

theorem within_any (n m : Int) (w : World) (h1 : 0 < m) (h2 : m ≤ 1000000000000) :
    Calls Try.prog 11 #[.int .i64 n, .int .i64 m] w fun ev w' => ev = .returned (.int .i64 (n % m)) ∧ w' = w := by
  have hb := Int.emod_nonneg n (show m ≠ 0 by omega)
  have hl := Int.emod_lt_of_pos n h1
  have ht : n.tmod m = n % m ∨ n.tmod m = n % m - m := by
    have h := @Int.tmod_eq_emod n m
    split at h
    · left; simpa using h
    · right; omega
  have hz : (m == 0) = false := by simp; omega
  by_cases hn : n.tmod m < 0
  · have he : n.tmod m + m = n % m := by omega
    have lo : -1000000000000 ≤ n.tmod m := by omega
    have HE := hide he
    clear ht he hb hl
    go_enter Try.func11, Try.ntmps11
    go_wp2
    go_ret
    refine ⟨ret_int ?_, rfl⟩
    exact unhide HE
  · have he : n.tmod m = n % m := by omega
    have HE := hide he
    clear ht he hb hl
    go_enter Try.func11, Try.ntmps11
    go_wp2
    go_ret
    refine ⟨ret_int ?_, rfl⟩
    exact unhide HE
/-- within, its answer by a letter. -/
theorem within_nat (n : Int) (m : Nat) (h1 : 0 < m) (h2 : m ≤ 1000000000) : ∃ k : Nat, k < m ∧ (k : Int) = n % (m : Int) ∧ ∀ w, Calls Try.prog 11 #[.int .i64 n, .int .i64 (m : Int)] w fun ev w' => ev = .returned (.int .i64 (k : Int)) ∧ w' = w := by
  have hb := Int.emod_nonneg n (show (m : Int) ≠ 0 by omega)
  have hl := Int.emod_lt_of_pos n (show (0 : Int) < m by omega)
  refine ⟨(n % (m : Int)).toNat, by omega, by omega, fun w => ?_⟩
  rw [show (((n % (m : Int)).toNat : Nat) : Int) = n % (m : Int) by omega]
  exact within_any n m w (by omega) (by omega)
/-- an entry without data and members. -/
def bare (k c s : Int) : En := ⟨k, c, s, ⟨#[]⟩, [], 0⟩
theorem findOf_first (c s : Int) (h : 1 ≤ c) (h2 : 1 ≤ s) : findOf [] c s = (0, 2) := findOf_new_mk (by omega) (by simp [sq])
set_option maxRecDepth 20000 in
set_option maxHeartbeats 2000000 in
theorem known_any (w : World) : Calls Try.prog 8 #[] w fun e w' => e = .returned (.bool true) ∧ Below w.heap.size w w' := by
  have CN := hide (new_any w)
  have m1 : mayPut [] (bare 1 1 2) := ⟨Or.inl rfl, by show (findOf [] 1 2).2 = 2; decide⟩
  have m2 : ¬ mayPut [bare 1 1 2] (bare 1 1 1) := by decide
  have f1 : findOf [bare 1 1 2] 1 1 = (0, 19) := by decide
  have r1 : Rise [bare 1 1 2] := (Rise.nil).snoc (by simp [sq])
  have w1 : wf64 1 := wf_range (by decide)
  have M1 := hide m1
  have M2 := hide m2
  have F1 := hide f1
  have R1 := hide r1
  have WF := hide w1
  clear m1 m2 f1 r1 w1
  go_enter Try.func8, Try.ntmps8
  go_wp2_with fail
  refine (unhide CN).mono ?_
  rintro x w1 ⟨p, q, rfl, h1, b1⟩
  have q1 : (binOp .eql 25 (.pointer (some ⟨p, 0, none⟩)) (.pointer none)).run Try.prog w1 = .ok (.bool false) w1 := by kernel_rfl
  have CP := put_any h1 (by decide) Rise.nil (bare 1 1 2) none 0 0 rfl (by decide) (IntsR.nil _ _) (unhide WF)
  rw [show placeOf [] (bare 1 1 2) = 1 from by unfold placeOf; rw [if_pos (unhide M1)]; rfl, decide_eq_true (unhide M1), show putOf [] (bare 1 1 2) = [bare 1 1 2] from by unfold putOf; rw [if_pos (unhide M1)]; rfl] at CP
  have CP' := hide CP
  have HD : Hid (∀ k, (fun k => w.heap.size ≤ k ∧ k < w1.heap.size) k → w.heap.size ≤ k) := hide (fun k hk => hk.1)
  have B1 := hide b1
  clear h1 b1 CN CP
  go_wp2_with fail
  refine (unhide CP').mono ?_
  rintro x w2 ⟨rfl, h2, k2⟩
  have b2 : Below w.heap.size w w2 := (unhide B1).trans (k2.below (base := w.heap.size) (unhide HD) (unhide B1).size)
  have CP2 := put_any h2 (by decide) (unhide R1) (bare 1 1 1) none 0 0 rfl (by decide) (IntsR.nil _ _) (unhide WF)
  rw [show placeOf [bare 1 1 2] (bare 1 1 1) = 0 from by unfold placeOf; rw [if_neg (unhide M2)], decide_eq_false (unhide M2), show putOf [bare 1 1 2] (bare 1 1 1) = [bare 1 1 2] from by unfold putOf; rw [if_neg (unhide M2)]] at CP2
  have CP2' := hide CP2
  have B2 := hide b2
  have HD2 : Hid (∀ k, News (fun k => w.heap.size ≤ k ∧ k < w1.heap.size) w1 w2 k → w.heap.size ≤ k) := hide (fun k hk => by
    have := (unhide B1).size
    rcases hk with hk | hk
    · exact hk.1
    · omega)
  clear h2 k2 b2 CP2 CP'
  go_wp2_with fail
  refine (unhide CP2').mono ?_
  rintro x w3 ⟨rfl, h3, k3⟩
  have CA := ask_any h3 (by decide) (unhide R1) 1 1 (unhide WF)
  rw [unhide F1] at CA
  have CA' := hide CA
  have B3 := hide ((unhide B2).trans (k3.below (base := w.heap.size) (unhide HD2) (unhide B2).size))
  clear h3 k3 CA CP2'
  go_wp2_with fail
  refine (unhide CA').mono ?_
  rintro x w4 ⟨rfl, b4⟩
  have B4 := hide (below_far (unhide B3) b4)
  clear b4
  go_wp2
  go_ret
  exact ⟨rfl, unhide B4⟩
end Go.Proofs.Ytkalpdfigdaalaa
