/- hist.climbs, Entry, barred: contracts. -/
import Derived.Test.YtmgdkbpbmngibaaHRead
import Derived.Test.YtmgdkbpbmngibaaHTwin
namespace Go.Proofs.Ytmgdkbpbmngibaa
open Go.RowKit Go.Maps

/-- terms, behind one that stands ahead, are terms and do not fall. -/
def climbsOf : Int → List Int → Bool
  | _, [] => true
  | a, t :: ts => decide (max 1 a ≤ t) && climbsOf t ts
theorem climbsOf_max (a : Int) (ts : List Int) : climbsOf (max 1 a) ts = climbsOf a ts := by
  cases ts with
  | nil => rfl
  | cons t ts => unfold climbsOf; congr 2; simp

set_option maxHeartbeats 1000000 in
theorem hclimbs_any (a : Int) (ao : Option Addr) (n cap : Nat) (ts : List Int) (hn : ts.length = n) (hl : n ≤ 1000000) (w : World) (hb : IntsR w ao ts) :
    Calls Try.prog 42 #[.int .i64 a, .slice ao n cap] w fun e w' => e = .returned (.bool (climbsOf a ts)) ∧ Below w.heap.size w w' := by
  rw [← climbsOf_max]
  obtain ⟨m, hm⟩ : ∃ m, max 1 a = m := ⟨_, rfl⟩
  have hm1 : 1 ≤ m := by omega
  rw [hm]
  obtain ⟨R, hR⟩ : ∃ R, climbsOf m ts = R := ⟨_, rfl⟩
  rw [hR]
  have HR := hide hR
  have HM := hide hm1
  have HB := hide hb
  have HN := hide hn
  clear hR hb hn hm1
  by_cases ha : 1 < a
  · obtain rfl : a = m := by omega
    clear hm
    go_enter Try.func42, Try.ntmps42
    go_wp2_with fail
    go_loopw [12, 5, 7] (fun iv lv _ wr => ∃ (k : Nat) (l : Int), k ≤ n ∧ iv = .int .i64 (k : Int) ∧ lv = .int .i64 l ∧ 1 ≤ l ∧ climbsOf l (ts.drop k) = R ∧ Below w.heap.size w wr) (fun iv _ _ _ => n - (intOf iv).toNat)
    case atStart => exact ⟨0, a, by omega, rfl, rfl, unhide HM, by rw [List.drop_zero]; exact unhide HR, Below.refl _ _⟩
    case round =>
      obtain ⟨k, l, hk, rfl, rfl, hl1, hr, hbel⟩ := hrel
      have HL := hide hl1
      have HRR := hide hr
      have B := hide hbel
      clear hl1 hr hbel
      by_cases hlt : k < n
      · obtain ⟨a1, rfl, h1⟩ := (unhide HB) k (by rw [unhide HN]; exact hlt)
        have c1 : wr.cell? (a1.add k) = some (.int .i64 (ts.getD k 0)) := by rw [(unhide B).cell (blk_lt h1)]; exact h1
        have q : (k : Int) < n := by omega
        obtain ⟨t, ht⟩ : ∃ t, ts.getD k 0 = t := ⟨_, rfl⟩
        have hd : ts.drop k = t :: ts.drop (k + 1) := by rw [drop_getD (by rw [unhide HN]; exact hlt), ht]
        rw [ht] at c1
        have hr2 := unhide HRR
        rw [hd, climbsOf] at hr2
        have hmx : max 1 l = l := by have := unhide HL; omega
        rw [hmx] at hr2
        clear h1 ht hd HRR
        by_cases hle : l ≤ t
        · rw [decide_eq_true hle, Bool.true_and] at hr2
          have HR2 := hide hr2
          have HT : Hid (1 ≤ t) := by have := unhide HL; show 1 ≤ t; omega
          have hge : decide (t < l) = false := decide_eq_false (by omega)
          clear hr2 hle hmx
          go_wp2
          go_roundw
          case rel => exact ⟨k + 1, t, by omega, by go_num, rfl, unhide HT, unhide HR2, unhide B⟩
          case measure => simp [intOf]; omega
        · rw [decide_eq_false hle, Bool.false_and] at hr2
          subst hr2
          have hge : decide (t < l) = true := decide_eq_true (by omega)
          clear hle hmx
          go_wp2
          go_ret
          exact ⟨rfl, unhide B⟩
      · obtain rfl : true = R := by
          rw [← unhide HRR, List.drop_of_length_le (by rw [unhide HN]; omega)]; rfl
        clear HR HRR
        go_wp2
        go_ret
        exact ⟨rfl, unhide B⟩
  · obtain rfl : 1 = m := by omega
    clear hm
    go_enter Try.func42, Try.ntmps42
    go_wp2_with fail
    go_loopw [12, 5, 7] (fun iv lv _ wr => ∃ (k : Nat) (l : Int), k ≤ n ∧ iv = .int .i64 (k : Int) ∧ lv = .int .i64 l ∧ 1 ≤ l ∧ climbsOf l (ts.drop k) = R ∧ Below w.heap.size w wr) (fun iv _ _ _ => n - (intOf iv).toNat)
    case atStart => exact ⟨0, 1, by omega, rfl, rfl, unhide HM, by rw [List.drop_zero]; exact unhide HR, Below.refl _ _⟩
    case round =>
      obtain ⟨k, l, hk, rfl, rfl, hl1, hr, hbel⟩ := hrel
      have HL := hide hl1
      have HRR := hide hr
      have B := hide hbel
      clear hl1 hr hbel
      by_cases hlt : k < n
      · obtain ⟨a1, rfl, h1⟩ := (unhide HB) k (by rw [unhide HN]; exact hlt)
        have c1 : wr.cell? (a1.add k) = some (.int .i64 (ts.getD k 0)) := by rw [(unhide B).cell (blk_lt h1)]; exact h1
        have q : (k : Int) < n := by omega
        obtain ⟨t, ht⟩ : ∃ t, ts.getD k 0 = t := ⟨_, rfl⟩
        have hd : ts.drop k = t :: ts.drop (k + 1) := by rw [drop_getD (by rw [unhide HN]; exact hlt), ht]
        rw [ht] at c1
        have hr2 := unhide HRR
        rw [hd, climbsOf] at hr2
        have hmx : max 1 l = l := by have := unhide HL; omega
        rw [hmx] at hr2
        clear h1 ht hd HRR
        by_cases hle : l ≤ t
        · rw [decide_eq_true hle, Bool.true_and] at hr2
          have HR2 := hide hr2
          have HT : Hid (1 ≤ t) := by have := unhide HL; show 1 ≤ t; omega
          have hge : decide (t < l) = false := decide_eq_false (by omega)
          clear hr2 hle hmx
          go_wp2
          go_roundw
          case rel => exact ⟨k + 1, t, by omega, by go_num, rfl, unhide HT, unhide HR2, unhide B⟩
          case measure => simp [intOf]; omega
        · rw [decide_eq_false hle, Bool.false_and] at hr2
          subst hr2
          have hge : decide (t < l) = true := decide_eq_true (by omega)
          clear hle hmx
          go_wp2
          go_ret
          exact ⟨rfl, unhide B⟩
      · obtain rfl : true = R := by
          rw [← unhide HRR, List.drop_of_length_le (by rw [unhide HN]; omega)]; rfl
        clear HR HRR
        go_wp2
        go_ret
        exact ⟨rfl, unhide B⟩
end Go.Proofs.Ytmgdkbpbmngibaa
