/- slices.Equal and synodalref2.SameInts at slices of numbers: contracts. -/
import Derived.Test.YtgllokinadjiaaaKRow
namespace Go.Proofs.Ytgllokinadjiaaa
open Go.RowKit

set_option maxHeartbeats 1000000 in
theorem ysame_any (a b : Option Addr) (n m ca cb : Nat) (xs ys : List Int) (hx : xs.length = n) (hy : ys.length = m) (hl : n ≤ 1000000000) (w : World) (ha : IntsR w a xs) (hb : IntsR w b ys) :
    Calls Try.prog 25 #[.slice a n ca, .slice b m cb] w fun e w' => e = .returned (.bool (decide (xs = ys))) ∧ Below w.heap.size w w' := by
  have HA := hide ha
  have HB := hide hb
  have HX := hide hx
  have HY := hide hy
  clear ha hb hx hy
  by_cases hnm : n = m
  · subst hnm
    obtain ⟨r, hr⟩ : ∃ r, decide (xs = ys) = r := ⟨_, rfl⟩
    rw [hr]
    have HR := hide hr
    clear hr
    go_enter Try.func25, Try.ntmps25
    go_wp2_with fail
    go_loopw [5] (fun i wr => ∃ k : Nat, k ≤ n ∧ i = .int .i64 k ∧ (∀ j, j < k → xs.getD j 0 = ys.getD j 0) ∧ Below w.heap.size w wr) (fun i _ => n - (intOf i).toNat)
    case atStart => exact ⟨0, Nat.zero_le _, rfl, fun j hj => by omega, Below.refl _ _⟩
    case round =>
      obtain ⟨k, hk, rfl, hall, hbel⟩ := hrel
      have HALL := hide hall
      have BEL := hide hbel
      clear hall hbel
      by_cases hlt : k < n
      · obtain ⟨a1, rfl, h1⟩ := (unhide HA) k (by rw [unhide HX]; exact hlt)
        obtain ⟨b1, rfl, h2⟩ := (unhide HB) k (by rw [unhide HY]; exact hlt)
        have c1 : wr.cell? (a1.add k) = some (.int .i64 (xs.getD k 0)) := by rw [(unhide BEL).cell (blk_lt h1)]; exact h1
        have c2 : wr.cell? (b1.add k) = some (.int .i64 (ys.getD k 0)) := by rw [(unhide BEL).cell (blk_lt h2)]; exact h2
        have q : (k : Int) < n := by omega
        clear h1 h2
        by_cases he : xs.getD k 0 = ys.getD k 0
        · have HE := hide he
          obtain ⟨y, hyk⟩ : ∃ y, ys.getD k 0 = y := ⟨_, rfl⟩
          rw [he, hyk] at c1
          rw [hyk] at c2
          have hne : (y != y) = false := by simp
          clear he hyk
          go_wp2_with fail
          go_quiet (fail)
          go_wp2
          go_roundw
          case rel =>
            refine ⟨k + 1, by omega, by go_num, fun j hj => ?_, (unhide BEL).trans ((drewN_below _ _).mono (unhide BEL).size)⟩
            by_cases hjk : j < k
            · exact unhide HALL j hjk
            · obtain rfl : j = k := by omega
              exact unhide HE
          case measure => simp [intOf]; omega
        · have hne : (xs.getD k 0 != ys.getD k 0) = true := by rw [bne_iff_ne]; exact he
          have hrf : r = false := by
            rw [← unhide HR]; exact decide_eq_false (fun e => he (by rw [e]))
          subst hrf
          clear he
          generalize xs.getD k 0 = x at *
          generalize ys.getD k 0 = y at *
          go_wp2_with fail
          go_quiet (fail)
          go_wp2
          go_ret
          exact ⟨rfl, (unhide BEL).trans ((drewN_below _ _).mono (unhide BEL).size)⟩
      · have hrt : r = true := by
          rw [← unhide HR]; exact decide_eq_true (ext_getD (by rw [unhide HX, unhide HY]) (fun j hj => unhide HALL j (by rw [unhide HX] at hj; omega)))
        subst hrt
        go_wp2
        go_ret
        exact ⟨rfl, unhide BEL⟩
  · have hrf : decide (xs = ys) = false := decide_eq_false (fun e => hnm (by rw [← unhide HX, ← unhide HY, e]))
    rw [hrf]
    have hne : ((n : Int) != (m : Int)) = true := by rw [bne_iff_ne]; omega
    clear hrf
    go_enter Try.func25, Try.ntmps25
    go_wp2
    go_ret
    exact ⟨rfl, Below.refl _ _⟩

end Go.Proofs.Ytgllokinadjiaaa
