/- conf.climbs, conf.wrong, conf.Check: contracts. -/
import Derived.Test.YtgllokinadjiaaaKRow
import Derived.Test.YtgllokinadjiaaaKPure
namespace Go.Proofs.Ytgllokinadjiaaa
open Go.RowKit

theorem climb_cons (a x : Int) (xs : List Int) : climb a (x :: xs) = if x ≤ a ∨ 9 ≤ x then false else climb x xs := rfl
set_option maxHeartbeats 1000000 in
theorem climbs_any (ao : Option Addr) (n c : Nat) (xs : List Int) (hn : xs.length = n) (hl : n ≤ 1000000000) (w : World) (hx : IntsR w ao xs) :
    Calls Try.prog 36 #[.slice ao n c] w fun e w' => e = .returned (.bool (climb (-1) xs)) ∧ Below w.heap.size w w' := by
  obtain ⟨r, hr⟩ : ∃ r, climb (-1) xs = r := ⟨_, rfl⟩
  rw [hr]
  have HX := hide hx
  have HN := hide hn
  have HR := hide hr
  clear hx hn hr
  go_enter Try.func36, Try.ntmps36
  go_wp2_with fail
  go_loopw [8, 3, 5] (fun i s _ wr => ∃ (k : Nat) (a : Int), k ≤ n ∧ i = .int .i64 k ∧ s = .int .i64 a ∧ climb a (xs.drop k) = r ∧ Below w.heap.size w wr) (fun i _ _ _ => n - (intOf i).toNat)
  case atStart => exact ⟨0, -1, Nat.zero_le _, rfl, rfl, unhide HR, Below.refl _ _⟩
  case round =>
    obtain ⟨k, a, hk, rfl, rfl, hc, hbel⟩ := hrel
    have BEL := hide hbel
    clear hbel
    by_cases hlt : k < n
    · obtain ⟨a1, rfl, h1⟩ := (unhide HX) k (by rw [unhide HN]; exact hlt)
      have c1 : wr.cell? (a1.add k) = some (.int .i64 (xs.getD k 0)) := by rw [(unhide BEL).cell (blk_lt h1)]; exact h1
      rw [drop_getD (by rw [unhide HN]; exact hlt), climb_cons] at hc
      have q : (k : Int) < n := by omega
      clear h1
      obtain ⟨x, hxk⟩ : ∃ x, xs.getD k 0 = x := ⟨_, rfl⟩
      rw [hxk] at c1 hc
      have HC := hide hc
      clear hc hxk
      by_cases h1 : x ≤ a
      · have hrf : r = false := by rw [← unhide HC, if_pos (Or.inl h1)]
        subst hrf
        go_wp2
        go_ret
        exact ⟨rfl, unhide BEL⟩
      · by_cases h2 : 9 ≤ x
        · have hrf : r = false := by rw [← unhide HC, if_pos (Or.inr h2)]
          subst hrf
          go_wp2
          go_ret
          exact ⟨rfl, unhide BEL⟩
        · go_wp2
          go_roundw
          case rel =>
            refine ⟨k + 1, x, by omega, by go_num, rfl, ?_, unhide BEL⟩
            rw [← unhide HC, if_neg (by omega)]
          case measure => simp [intOf]; omega
    · have hrt : r = true := by
        rw [← hc, List.drop_eq_nil_of_le (by rw [unhide HN]; omega)]; rfl
      subst hrt
      go_wp2
      go_ret
      exact ⟨rfl, unhide BEL⟩

theorem len0 {xs : List Int} {n : Nat} (h : xs.length = n) (h0 : n = 0) : xs = [] := List.eq_nil_of_length_eq_zero (by omega)
set_option maxHeartbeats 1000000 in
theorem wrong_any (b : Bool) (z : Int) (hz : z = if b = true then 1 else 0) (ao : Option Addr) (n c : Nat) (xs : List Int) (hn : xs.length = n) (hl : n ≤ 1000000000) (w : World) (hx : IntsR w ao xs) :
    Calls Try.prog 35 #[.int .i64 z, .slice ao n c] w fun e w' => e = .returned (.int .i64 ((wrongOf b xs : Nat) : Int)) ∧ Below w.heap.size w w' := by
  have CL := hide (climbs_any ao n c xs hn hl w hx)
  obtain ⟨r, hr⟩ : ∃ r, climb (-1) xs = r := ⟨_, rfl⟩
  rw [hr] at CL
  have HR := hide hr
  have HN := hide hn
  clear hx hr
  by_cases h7 : (7 : Int) < n
  · have hw : wrongOf b xs = 4 := by
      unfold wrongOf
      rw [if_neg (by rintro ⟨_, e⟩; subst e; simp at hn; omega), if_pos (by omega)]
    have h0 : ¬ (n : Int) = 0 := by omega
    rw [hw]
    clear hw hn
    cases b <;> (simp at hz; subst hz; go_enter Try.func35, Try.ntmps35; go_wp2; go_ret; exact ⟨rfl, Below.refl _ _⟩)
  · by_cases h0 : (n : Int) = 0
    · have hxs := len0 hn (by omega)
      have hrt : r = true := by rw [← unhide HR, hxs]; rfl
      subst hrt
      cases b
      · have hw : wrongOf false xs = 0 := by rw [hxs]; rfl
        rw [hw]
        clear hw hn hxs
        simp at hz; subst hz
        obtain rfl : n = 0 := by omega
        go_enter Try.func35, Try.ntmps35
        go_wp2_with fail
        refine (unhide CL).mono ?_
        rintro e w1 ⟨rfl, b1⟩
        have B1 := hide b1
        clear b1 CL
        go_wp2
        go_ret
        exact ⟨rfl, unhide B1⟩
      · have hw : wrongOf true xs = 2 := by rw [hxs]; rfl
        rw [hw]
        clear hw hn hxs
        simp at hz; subst hz
        obtain rfl : n = 0 := by omega
        go_enter Try.func35, Try.ntmps35
        go_wp2
        go_ret
        exact ⟨rfl, Below.refl _ _⟩
    · have hw : wrongOf b xs = if r = true then 0 else 1 := by
        unfold wrongOf
        rw [if_neg (by rintro ⟨_, e⟩; subst e; simp at hn; omega), if_neg (by omega), unhide HR]
      rw [hw]
      clear hw hn
      cases b <;> cases r <;> (simp at hz; subst hz; go_enter Try.func35, Try.ntmps35; go_wp2_with fail; refine (unhide CL).mono ?_; rintro e w1 ⟨rfl, b1⟩; have B1 := hide b1; clear b1 CL; go_wp2; go_ret; exact ⟨rfl, unhide B1⟩)
end Go.Proofs.Ytgllokinadjiaaa
