/- within, number, New, errors.New: contracts. -/
import Derived.Test.YteabloaipoehoaaDoorChain
namespace Go.Proofs.YteabloaipoehoaaDoor
open Go.RowKit

theorem ret_int {k : IntKind} {a b : Int} (h : a = b) : Ending.returned (.int k a) = .returned (.int k b) := by rw [h]

theorem within_any (n m : Int) (w : World) (h1 : 0 < m) (h2 : m ≤ 100) :
    Calls Tryd.prog 15 #[.int .i64 n, .int .i64 m] w fun ev w' => ev = .returned (.int .i64 (n % m)) ∧ w' = w := by
  have hb := Int.emod_nonneg n (show m ≠ 0 by omega)
  have hl := Int.emod_lt_of_pos n h1
  have ht : n.tmod m = n % m ∨ n.tmod m = n % m - m := by
    have h := @Int.tmod_eq_emod n m
    split at h
    · left; simpa using h
    · right; omega
  have hz : (m == 0) = false := by simp; omega
  by_cases hn : n.tmod m < 0
  · have he : n.tmod m + m = n % m := by omega
    have lo : -100 ≤ n.tmod m := by omega
    have HE := Hid.out (p := Hid (n.tmod m + m = n % m)) he
    clear ht he hb hl
    go_enter Tryd.func15, Tryd.ntmps15
    go_wp2
    go_ret
    refine ⟨ret_int ?_, rfl⟩
    exact HE.out
  · have he : n.tmod m = n % m := by omega
    have HE := Hid.out (p := Hid (n.tmod m = n % m)) he
    clear ht he hb hl
    go_enter Tryd.func15, Tryd.ntmps15
    go_wp2
    go_ret
    refine ⟨ret_int ?_, rfl⟩
    exact HE.out

theorem number_any (n : Int) (w : World) :
    Calls Tryd.prog 10 #[.int .i64 n] w fun ev w' => ev = .returned (.int .i64 (1 + n % 19)) ∧ w' = w := by
  have hb := Int.emod_nonneg n (show (19 : Int) ≠ 0 by omega)
  have hl := Int.emod_lt_of_pos n (show (0 : Int) < 19 by omega)
  go_enter Tryd.func10, Tryd.ntmps10
  go_wp2_with (go_at_call 15; refine (within_any n 19 _ (by omega) (by omega)).mono ?_; rintro e w' ⟨rfl, rfl⟩)
  go_ret
  exact ⟨rfl, rfl⟩

theorem new_ok (s : ByteArray) (w : World) : Calls Tryd.prog 11 #[.string s, .int .i64 0] w fun ev w' => ev = .returned .nilIface ∧ w' = w := by
  go_enter Tryd.func11, Tryd.ntmps11
  go_wp2
  go_ret
  exact ⟨rfl, rfl⟩

theorem new_num (s : ByteArray) (n : Int) (hn : (n == 0) = false) (w : World) :
    Calls Tryd.prog 11 #[.string s, .int .i64 n] w fun ev w' => ev = .returned (.iface 44 (.pointer (some ⟨w.heap.size, 0, none⟩))) ∧ w' = w.alloc (.cells #[.string s, .iface 24 (.int .i64 n)] 46) := by
  go_enter Tryd.func11, Tryd.ntmps11
  go_wp2
  go_ret
  exact ⟨rfl, rfl⟩

theorem plain_new (s : ByteArray) (w : World) :
    Calls Tryd.prog 19 #[.string s] w fun ev w' => ev = .returned (.iface 62 (.pointer (some ⟨w.heap.size, 0, none⟩))) ∧ w' = w.alloc (.cells #[.string s] 64) := by
  go_enter Tryd.func19, Tryd.ntmps19
  go_wp2
  go_ret
  exact ⟨rfl, rfl⟩
end Go.Proofs.YteabloaipoehoaaDoor
