/- The reference's in: a contract. -/
import Derived.Test.YtjcidihcmbenhaaKRef
namespace Go.Proofs.Ytjcidihcmbenhaa
open Go.RowKit

theorem inn_step {xs : List Int} {k : Nat} (h : k < xs.length) (x : Int) : (xs.drop k).contains x = ((xs.getD k 0 == x) || (xs.drop (k + 1)).contains x) := by
  rw [drop_getD h, List.contains_cons, Bool.beq_comm]
set_option maxHeartbeats 1000000 in
theorem inn_any (ao : Option Addr) (n c : Nat) (xs : List Int) (hn : xs.length = n) (hl : n ≤ 1000000) (x : Int) (w : World) (h : IntsR w ao xs) :
    Calls Try.prog 38 #[.slice ao n c, .int .i64 x] w fun e w' => e = .returned (.bool (xs.contains x)) ∧ Below w.heap.size w w' := by
  obtain ⟨r, hr⟩ : ∃ r, xs.contains x = r := ⟨_, rfl⟩
  rw [hr]
  have HX := hide h
  have HN := hide hn
  have HR := hide hr
  clear h hn hr
  go_enter Try.func38, Try.ntmps38
  go_wp2_with fail
  go_loopw [5] (fun i wr => ∃ k : Nat, k ≤ n ∧ i = .int .i64 k ∧ (xs.drop k).contains x = r ∧ Below w.heap.size w wr) (fun i _ => n - (intOf i).toNat)
  case atStart => exact ⟨0, Nat.zero_le _, rfl, unhide HR, Below.refl _ _⟩
  case round =>
    obtain ⟨k, hk, rfl, hc, hbel⟩ := hrel
    have BEL := hide hbel
    clear hbel
    by_cases hlt : k < n
    · obtain ⟨a1, rfl, h1⟩ := (unhide HX) k (by rw [unhide HN]; exact hlt)
      have c1 : wr.cell? (a1.add k) = some (.int .i64 (xs.getD k 0)) := by rw [(unhide BEL).cell (blk_lt h1)]; exact h1
      rw [inn_step (by rw [unhide HN]; exact hlt)] at hc
      have q : (k : Int) < n := by omega
      obtain ⟨y, hy⟩ : ∃ y, xs.getD k 0 = y := ⟨_, rfl⟩
      rw [hy] at c1 hc
      have HC := hide hc
      clear h1 hy hc
      by_cases he : (y == x) = true
      · obtain rfl : true = r := by rw [← unhide HC, he]; rfl
        go_wp2
        go_ret
        exact ⟨rfl, unhide BEL⟩
      · have he : (y == x) = false := by simpa using he
        have HC2 : Hid ((xs.drop (k + 1)).contains x = r) := by
          have := unhide HC
          rw [he, Bool.false_or] at this; exact this
        clear HC
        go_wp2
        go_roundw
        case rel => exact ⟨k + 1, by omega, by go_num, unhide HC2, unhide BEL⟩
        case measure => simp [intOf]; omega
    · obtain rfl : false = r := by rw [← hc, List.drop_eq_nil_of_le (by rw [unhide HN]; omega)]; rfl
      clear hc
      go_wp2
      go_ret
      exact ⟨rfl, unhide BEL⟩

end Go.Proofs.Ytjcidihcmbenhaa
