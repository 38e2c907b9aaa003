/- synodallaw19's within: a contract. -/
import Derived.Test.YtndpkpkijfplaaaKRow
namespace Go.Proofs.Ytndpkpkijfplaaa
open Go.RowKit

theorem within_any (n m : Int) (w : World) (h1 : 0 < m) (h2 : m ≤ 1000000000000) :
    Calls Try.prog 16 #[.int .i64 n, .int .i64 m] w fun ev w' => ev = .returned (.int .i64 (n % m)) ∧ w' = w := by
  have hb := Int.emod_nonneg n (show m ≠ 0 by omega)
  have hl := Int.emod_lt_of_pos n h1
  have ht : n.tmod m = n % m ∨ n.tmod m = n % m - m := by
    have h := @Int.tmod_eq_emod n m
    split at h
    · left; simpa using h
    · right; omega
  have hz : (m == 0) = false := by simp; omega
  by_cases hn : n.tmod m < 0
  · have he : n.tmod m + m = n % m := by omega
    have lo : -1000000000000 ≤ n.tmod m := by omega
    have HE := hide he
    clear ht he hb hl
    go_enter Try.func16, Try.ntmps16
    go_wp2
    go_ret
    refine ⟨ret_int ?_, rfl⟩
    exact unhide HE
  · have he : n.tmod m = n % m := by omega
    have HE := hide he
    clear ht he hb hl
    go_enter Try.func16, Try.ntmps16
    go_wp2
    go_ret
    refine ⟨ret_int ?_, rfl⟩
    exact unhide HE
theorem within_at (n m : Int) (k : Nat) (hk : n % m = k) (w : World) (h1 : 0 < m) (h2 : m ≤ 1000000000000) :
    Calls Try.prog 16 #[.int .i64 n, .int .i64 m] w fun ev w' => ev = .returned (.int .i64 (k : Int)) ∧ w' = w := by rw [← hk]; exact within_any n m w h1 h2
/-- within, its answer by a name. -/
theorem within_nat (n : Int) (m : Nat) (w : World) (h1 : 0 < m) (h2 : m ≤ 1000000000) : ∃ k : Nat, k < m ∧ Calls Try.prog 16 #[.int .i64 n, .int .i64 (m : Int)] w fun ev w' => ev = .returned (.int .i64 (k : Int)) ∧ w' = w := by
  have hb := Int.emod_nonneg n (show (m : Int) ≠ 0 by omega)
  have hl := Int.emod_lt_of_pos n (show (0 : Int) < m by omega)
  refine ⟨(n % (m : Int)).toNat, by omega, ?_⟩
  rw [show (((n % (m : Int)).toNat : Nat) : Int) = n % (m : Int) by omega]
  exact within_any n m w (by omega) (by omega)

end Go.Proofs.Ytndpkpkijfplaaa
