/- ClockApart: the walk. -/
import Derived.Test.YtfmldmooflolaaaQClock
namespace Go.Proofs.Ytfmldmooflolaaa
open Go.RowKit

set_option maxRecDepth 20000 in
set_option maxHeartbeats 1000000 in
theorem apart_walk (a b t d : Int) (w : World) :
    Calls Try.prog 5 #[.int .i64 a, .int .i64 b, .int .i64 t, .int .i64 d] w fun e w' => e = .returned (.bool true) ∧ Below w.heap.size w w' := by
  have KN := hide (qknown_any w)
  by_cases ht : t < 0
  · go_enter Try.func5, Try.ntmps5
    go_wp2_with fail
    refine (unhide KN).mono ?_
    rintro e w1 ⟨rfl, b1⟩
    have B1 := hide b1
    clear b1 KN
    go_wp2
    go_ret
    exact ⟨rfl, unhide B1⟩
  obtain ⟨r, hr, hr8⟩ : ∃ r : Nat, t.tmod 9 = (r : Int) ∧ r ≤ 8 := by
    refine ⟨(t % 9).toNat, ?_, by omega⟩
    rw [Int.tmod_eq_emod_of_nonneg (by omega)]; omega
  obtain ⟨na, hna⟩ : ∃ na, 10 + a % 10 = na := ⟨_, rfl⟩
  have hna1 : 10 ≤ na ∧ na ≤ 19 := by have := mod_ten a; omega
  have hd := mod_ten d
  obtain ⟨nd, hnd⟩ : ∃ nd, 10 + d % 10 = nd := ⟨_, rfl⟩
  have hnd1 : 10 ≤ nd ∧ nd ≤ 19 := by omega
  have ND := hide hnd
  have NA := hide hna
  clear hd hnd hna
  go_enter Try.func5, Try.ntmps5
  go_wp2_with fail
  refine (unhide KN).mono ?_
  rintro e w1 ⟨rfl, b1⟩
  have B1 := hide b1
  have N1 := hide (qnew_any a w1)
  clear b1 KN
  go_wp2_with fail
  refine (unhide N1).mono ?_
  rintro e w2 ⟨rfl, h2, b2⟩
  rw [unhide NA] at h2
  obtain ⟨p, hp⟩ : ∃ p, w1.heap.size = p := ⟨_, rfl⟩
  have LP : Hid (w.heap.size ≤ p) := hp ▸ (unhide B1).size
  rw [hp] at h2
  have B2 := hide (below_far (unhide B1) b2)
  have H2 := hide h2
  have N2 := hide (qnew_any b w2)
  have HP := hide hp
  rw [hp]
  clear b2 h2 N1 hp
  go_wp2_with fail
  refine (unhide N2).mono ?_
  rintro e w3 ⟨rfl, h3, b3⟩
  obtain ⟨nb, hnb⟩ : ∃ nb, 10 + b % 10 = nb := ⟨_, rfl⟩
  rw [hnb] at h3
  have hpq : p ≠ w2.heap.size := by have := (unhide H2).lt; omega
  have LQ : Hid (w.heap.size ≤ w2.heap.size) := (unhide B2).size
  have x3 := (unhide H2).below b3
  have B3 := hide (below_far (unhide B2) b3)
  obtain ⟨q, hq⟩ : ∃ q, w2.heap.size = q := ⟨_, rfl⟩
  rw [hq] at h3 hpq LQ
  rw [hq]
  have LY := hide (left_any w3 h3)
  have X3 := hide x3
  have Y3 := hide h3
  have PQ := hide hpq
  clear h3 b3 x3 hpq N2 hnb hq HP
  go_wp2_with fail
  refine (unhide LY).mono ?_
  rintro e wq ⟨rfl, hw⟩
  replace hw := hw.symm
  subst hw
  clear LY
  go_wp2_with fail
  go_loopw [12] (fun i wr => ∃ k : Nat, k ≤ r + 1 ∧ i = .int .i64 k ∧ Ck 40 wr p (na - k) ∧ Ck 40 wr q nb ∧ Below w.heap.size w wr) (fun i _ => r + 1 - (intOf i).toNat)
  case atStart => exact ⟨0, Nat.zero_le _, rfl, by simpa using unhide X3, unhide Y3, unhide B3⟩
  case round =>
    obtain ⟨k, hk, rfl, hx, hy, hb⟩ := hrel
    have HY := hide hy
    have HB := hide hb
    by_cases hlt : k < r + 1
    · have q1 : (k : Int) < 1 + (r : Int) := by omega
      have TK := hide (tick_any d wr hx (by omega) (by omega))
      rw [show decide (na - (k : Int) ≤ 1) = false by rw [decide_eq_false_iff_not]; omega, show tickN (na - (k : Int)) d = na - ((k + 1 : Nat) : Int) by unfold tickN; rw [if_neg (by omega)]; omega] at TK
      clear hx hy hb
      go_wp2_with fail
      refine (unhide TK).mono ?_
      rintro e w4 ⟨rfl, c4, k4⟩
      have R := hide (And.intro c4 (And.intro ((unhide HY).other k4 (Ne.symm (unhide PQ))) ((unhide HB).trans (k4.below (fun j hj => by rw [hj]; exact unhide LP) (unhide HB).size))))
      clear c4 k4 TK HY HB
      go_wp2
      go_roundw
      case rel => exact ⟨k + 1, by omega, by go_num, unhide R⟩
      case measure => simp [intOf]; omega
    · have q1 : ¬ (k : Int) < 1 + (r : Int) := by omega
      obtain ⟨m, hm⟩ : ∃ m, na - (k : Int) = m := ⟨_, rfl⟩
      have hm1 : 1 ≤ m := by omega
      rw [hm] at hx
      have LX := hide (left_any wr hx)
      have RX := hide (reset_any d wr hx)
      clear hx hy hb hm
      go_wp2_with fail
      refine (unhide LX).mono ?_
      rintro e wq ⟨rfl, hw⟩
      replace hw := hw.symm
      subst hw
      clear LX
      go_wp2_with fail
      refine (unhide RX).mono ?_
      rintro e w5 ⟨rfl, c5, k5⟩
      rw [unhide ND] at c5
      have y5 := (unhide HY).other k5 (Ne.symm (unhide PQ))
      have b5 : Below w.heap.size w w5 := (unhide HB).trans (k5.below (fun j hj => by rw [hj]; exact unhide LP) (unhide HB).size)
      have NZ := hide (qnew_any d w5)
      rw [unhide ND] at NZ
      have C5 := hide c5
      have Y5 := hide y5
      have B5 := hide b5
      clear c5 k5 y5 b5 RX HY HB
      go_wp2_with fail
      refine (unhide NZ).mono ?_
      rintro e w6 ⟨rfl, c6, b6⟩
      have L1 := hide (left_any w6 ((unhide Y5).below b6))
      have L2 := hide (left_any w6 ((unhide C5).below b6))
      have L3 := hide (left_any w6 c6)
      have B6 := hide (below_far (unhide B5) b6)
      have e1 : (nb == nb) = true := by simp
      have e2 : (nd == nd) = true := by simp
      clear c6 b6 NZ C5 Y5 B5
      go_wp2_with fail
      refine (unhide L1).mono ?_
      rintro e wq ⟨rfl, hw⟩
      replace hw := hw.symm
      subst hw
      go_wp2_with fail
      refine (unhide L2).mono ?_
      rintro e wq ⟨rfl, hw⟩
      replace hw := hw.symm
      subst hw
      go_wp2_with fail
      refine (unhide L3).mono ?_
      rintro e wq ⟨rfl, hw⟩
      replace hw := hw.symm
      subst hw
      go_wp2_with fail
      refine (unhide L2).mono ?_
      rintro e wq ⟨rfl, hw⟩
      replace hw := hw.symm
      subst hw
      go_wp2
      go_ret
      exact ⟨rfl, unhide B6⟩
end Go.Proofs.Ytfmldmooflolaaa
