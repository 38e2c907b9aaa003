/- synodallaw6's cut: a contract. -/
import Derived.Test.YtnplhoekkoomiaaNCut
import Derived.BigQuiet
namespace Go.Proofs.Ytnplhoekkoomiaa
open Go.RowKit Go.Maps

theorem mem_take_succ {ys : List Int} {k : Nat} {y x : Int} (hy : ys[k]? = some y) : decide (x ∈ ys.take (k + 1)) = (decide (x ∈ ys.take k) || (y == x)) := by
  rw [List.take_add_one, hy, Option.toList_some]
  rw [Bool.eq_iff_iff]
  simp only [decide_eq_true_eq, List.mem_append, List.mem_singleton, Bool.or_eq_true, beq_iff_eq]
  exact ⟨fun h => h.imp id Eq.symm, fun h => h.imp id Eq.symm⟩

set_option maxHeartbeats 1000000 in
theorem lcut_same {ao : Option Addr} {n cap : Nat} {ys : List Int} (on : Bool) (f t : Int) (w : World) (hn : ys.length = n) (hnb : n ≤ 1000000) (hy : Ints w ao ys) :
    Calls Try.prog 11 #[.slice ao n cap, .bool on, .int .i64 f, .int .i64 t] w fun e w' => e = .returned (.bool (on && cutB ys f t)) ∧ w' = w := by
  have HN := hide hn
  have HY := hide hy
  clear hn hy
  go_enter Try.func11, Try.ntmps11
  go_wp2_with fail
  go_loopg [9, 10, 11] n (fun gg av bv iv wr => ∃ k : Nat, k + gg = n ∧ iv = .int .i64 (k : Int) ∧ av = .bool (decide (f ∈ ys.take k)) ∧ bv = .bool (decide (t ∈ ys.take k)) ∧ wr = w)
  case atStart => exact ⟨0, by omega, rfl, by simp, by simp, rfl⟩
  case round =>
    obtain ⟨k, hgk, rfl, rfl, rfl, rfl⟩ := hrel
    have hkn : k ≤ n := by omega
    by_cases hlt : k < n
    · obtain ⟨y, hyk⟩ : ∃ y, ys[k]? = some y := ⟨_, List.getElem?_eq_getElem (by rw [unhide HN]; exact hlt)⟩
      obtain ⟨a, rfl, ca⟩ := unhide HY k y hyk
      have E1 := hide (mem_take_succ (x := f) hyk)
      have E2 := hide (mem_take_succ (x := t) hyk)
      have HG := hide hgk
      clear hyk hgk
      generalize decide (f ∈ ys.take k) = A at E1 ⊢
      generalize decide (t ∈ ys.take k) = B at E2 ⊢
      cases A <;> cases B <;> (
        go_wp2
        go_roundg (n - (k + 1))
        case measure => have := unhide HG; omega
        case rel => exact ⟨k + 1, by omega, by go_num, by rw [unhide E1]; first | rfl | simp, by rw [unhide E2]; first | rfl | simp, rfl⟩)
    · obtain rfl : k = n := by omega
      have et : ys.take k = ys := by rw [← unhide HN, List.take_length]
      rw [et]
      have E : Hid (cutB ys f t = (decide (f ∈ ys) != decide (t ∈ ys))) := rfl
      clear et hgk
      generalize decide (f ∈ ys) = A at E ⊢
      generalize decide (t ∈ ys) = B at E ⊢
      cases on <;> (
        go_wp2
        go_ret
        exact ⟨by rw [unhide E]; first | rfl | simp, rfl⟩)
theorem lcut_any {ao : Option Addr} {n cap : Nat} {ys : List Int} (on : Bool) (f t : Int) (w : World) (hn : ys.length = n) (hnb : n ≤ 1000000) (hy : Ints w ao ys) :
    Calls Try.prog 11 #[.slice ao n cap, .bool on, .int .i64 f, .int .i64 t] w fun e w' => e = .returned (.bool (on && cutB ys f t)) ∧ Below w.heap.size w w' :=
  (lcut_same on f t w hn hnb hy).mono fun _ _ ⟨h1, h2⟩ => ⟨h1, by rw [h2]; exact Below.refl _ _⟩
end Go.Proofs.Ytnplhoekkoomiaa
