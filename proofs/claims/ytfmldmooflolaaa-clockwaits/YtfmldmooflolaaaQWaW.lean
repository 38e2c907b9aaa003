/- ClockWaits: the walk. -/
import Derived.Test.YtfmldmooflolaaaQClock
namespace Go.Proofs.Ytfmldmooflolaaa
open Go.RowKit

/-- what is left of a clock that has begun with n, behind k ticks that were none. -/
theorem wait_more {n k d : Int} (h : k + 1 < n) : decide (n - k ≤ 1) = false ∧ tickN (n - k) d = n - (k + 1) := by
  refine ⟨by rw [decide_eq_false_iff_not]; omega, ?_⟩
  unfold tickN; rw [if_neg (by omega)]; omega
theorem wait_end {n k d : Int} (h : k + 1 = n) : decide (n - k ≤ 1) = true ∧ tickN (n - k) d = 10 + d % 10 := by
  refine ⟨by rw [decide_eq_true_eq]; omega, ?_⟩
  unfold tickN; rw [if_pos (by omega)]

set_option maxRecDepth 20000 in
set_option maxHeartbeats 1000000 in
theorem waits_walk (a b : Int) (w : World) :
    Calls Try.prog 4 #[.int .i64 a, .int .i64 b] w fun e w' => e = .returned (.bool true) ∧ Below w.heap.size w w' := by
  have KN := hide (qknown_any w)
  obtain ⟨x, hx⟩ : ∃ x : Nat, a % 10 = (x : Int) := ⟨(a % 10).toNat, by omega⟩
  obtain ⟨y, hy⟩ : ∃ y : Nat, b % 10 = (y : Int) := ⟨(b % 10).toNat, by omega⟩
  have hx9 : x ≤ 9 := by omega
  have hy9 : y ≤ 9 := by omega
  have ra : (a.tmod 10 < 0 ∧ a.tmod 10 = (x : Int) - 10) ∨ (¬ a.tmod 10 < 0 ∧ a.tmod 10 = (x : Int)) := by have := rem_ten a; omega
  have rb : (b.tmod 10 < 0 ∧ b.tmod 10 = (y : Int) - 10) ∨ (¬ b.tmod 10 < 0 ∧ b.tmod 10 = (y : Int)) := by have := rem_ten b; omega
  have HX := hide hx
  have HY := hide hy
  clear hx hy
  rcases ra with ⟨-, ea⟩ | ⟨-, ea⟩ <;> rcases rb with ⟨-, eb⟩ | ⟨-, eb⟩
  all_goals
    go_enter Try.func4, Try.ntmps4
    go_wp2_with fail
    refine (unhide KN).mono ?_
    rintro e w1 ⟨rfl, b1⟩
    have B1 := hide b1
    have N1 := hide (qnew_any a w1)
    rw [unhide HX] at N1
    clear b1 KN
    go_wp2_with fail
    refine (unhide N1).mono ?_
    rintro e w2 ⟨rfl, h2, b2⟩
    obtain ⟨p, hp⟩ : ∃ p, w1.heap.size = p := ⟨_, rfl⟩
    have LP : Hid (w.heap.size ≤ p) := hp ▸ (unhide B1).size
    rw [hp] at h2
    have B2 := hide (below_far (unhide B1) b2)
    have H2 := hide h2
    rw [hp]
    clear b2 h2 N1 hp ea eb
    go_wp2_with fail
    go_loopw [8] (fun i wr => ∃ k : Nat, k ≤ x + 9 ∧ i = .int .i64 ((k + 1 : Nat) : Int) ∧ Ck 40 wr p (10 + (x : Int) - k) ∧ Below w.heap.size w wr) (fun i _ => 60 - (intOf i).toNat)
    case atStart => exact ⟨0, Nat.zero_le _, rfl, by simpa using unhide H2, unhide B2⟩
    case round =>
      obtain ⟨k, hk, rfl, hc, hb⟩ := hrel
      have HB := hide hb
      have TK := hide (tick_any b wr hc (by omega) (by omega))
      by_cases hlt : k < x + 9
      · obtain ⟨t1, t2⟩ := wait_more (n := 10 + (x : Int)) (k := k) (d := b) (by omega)
        rw [t1, t2] at TK
        have q1 : ((k + 1 : Nat) : Int) < 50 := by omega
        clear hc hb t1 t2
        go_wp2_with fail
        refine (unhide TK).mono ?_
        rintro e w4 ⟨rfl, c4, k4⟩
        have R := hide (And.intro c4 ((unhide HB).trans (k4.below (fun j hj => by rw [hj]; exact unhide LP) (unhide HB).size)))
        clear c4 k4 TK HB
        go_wp2
        go_roundw
        case rel => exact ⟨k + 1, by omega, by go_num, unhide R⟩
        case measure => simp [intOf]; omega
      · obtain rfl : k = x + 9 := by omega
        obtain ⟨t1, t2⟩ := wait_end (n := 10 + (x : Int)) (k := ((x + 9 : Nat) : Int)) (d := b) (by omega)
        rw [t1, t2, unhide HY] at TK
        clear hc hb t1 t2
        go_wp2_with fail
        refine (unhide TK).mono ?_
        rintro e w4 ⟨rfl, c4, k4⟩
        have H4 := hide c4
        have B4 := hide ((unhide HB).trans (k4.below (fun j hj => by rw [hj]; exact unhide LP) (unhide HB).size))
        clear c4 k4 TK HB
        go_wp2_with fail
        go_loopw [9] (fun i wr => ∃ k : Nat, k ≤ y + 9 ∧ i = .int .i64 ((k + 1 : Nat) : Int) ∧ Ck 40 wr p (10 + (y : Int) - k) ∧ Below w.heap.size w wr) (fun i _ => 60 - (intOf i).toNat)
        case atStart => exact ⟨0, Nat.zero_le _, rfl, by simpa using unhide H4, unhide B4⟩
        case round =>
          obtain ⟨k, hk, rfl, hc, hb⟩ := hrel
          have HB := hide hb
          have TK := hide (tick_any 0 wr hc (by omega) (by omega))
          by_cases hlt : k < y + 9
          · obtain ⟨t1, t2⟩ := wait_more (n := 10 + (y : Int)) (k := k) (d := 0) (by omega)
            rw [t1, t2] at TK
            have q1 : ((k + 1 : Nat) : Int) < 50 := by omega
            clear hc hb t1 t2
            go_wp2_with fail
            refine (unhide TK).mono ?_
            rintro e w5 ⟨rfl, c5, k5⟩
            have R := hide (And.intro c5 ((unhide HB).trans (k5.below (fun j hj => by rw [hj]; exact unhide LP) (unhide HB).size)))
            clear c5 k5 TK HB
            go_wp2
            go_roundw
            case rel => exact ⟨k + 1, by omega, by go_num, unhide R⟩
            case measure => simp [intOf]; omega
          · obtain rfl : k = y + 9 := by omega
            obtain ⟨t1, t2⟩ := wait_end (n := 10 + (y : Int)) (k := ((y + 9 : Nat) : Int)) (d := 0) (by omega)
            rw [t1, t2] at TK
            clear hc hb t1 t2
            go_wp2_with fail
            refine (unhide TK).mono ?_
            rintro e w5 ⟨rfl, c5, k5⟩
            have LE := hide (left_any w5 c5)
            rw [show (10 : Int) + 0 % 10 = 10 from rfl] at LE
            have B5 := hide ((unhide HB).trans (k5.below (fun j hj => by rw [hj]; exact unhide LP) (unhide HB).size))
            have e1 : ((x : Int) + 9 + 1 == 10 + (x : Int)) = true := by rw [beq_iff_eq]; omega
            have e2 : ((y : Int) + 9 + 1 == 10 + (y : Int)) = true := by rw [beq_iff_eq]; omega
            clear c5 k5 TK HB
            go_wp2_with fail
            refine (unhide LE).mono ?_
            rintro e wq ⟨rfl, hw⟩
            replace hw := hw.symm
            subst hw
            go_wp2
            go_ret
            exact ⟨rfl, unhide B5⟩
end Go.Proofs.Ytfmldmooflolaaa
