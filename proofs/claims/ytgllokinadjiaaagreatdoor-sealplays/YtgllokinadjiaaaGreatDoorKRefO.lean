/- The reference's one, Check: contracts. -/
import Derived.Test.YtgllokinadjiaaaGreatDoorKRef
namespace Go.Proofs.YtgllokinadjiaaaGreatDoor
open Go.RowKit

def prevOf (xs : List Int) : Nat → Int
  | 0 => -1
  | k + 1 => xs.getD k 0
theorem climb_bad {a x : Int} {xs : List Int} (h : x ≤ a ∨ 9 ≤ x) : climb a (x :: xs) = false := if_pos h
theorem climb_ok {a x : Int} {xs : List Int} (h : ¬ (x ≤ a ∨ 9 ≤ x)) : climb a (x :: xs) = climb x xs := if_neg h
theorem wrong_long {xs : List Int} {n : Nat} (h : xs.length = n) (h7 : 7 < n) : wrongOf false xs = 4 := by
  unfold wrongOf
  rw [if_neg (by simp), if_pos (by omega)]
theorem wrong_short {xs : List Int} {n : Nat} (h : xs.length = n) (h7 : ¬ 7 < n) : wrongOf false xs = if climb (-1) xs = true then 0 else 1 := by
  unfold wrongOf
  rw [if_neg (by simp), if_neg (by omega)]

set_option maxHeartbeats 6000000 in
theorem one_any (ao : Option Addr) (n c : Nat) (xs : List Int) (hn : xs.length = n) (hl : n ≤ 1000000000) (w : World) (hx : IntsR w ao xs) :
    Calls Tryz.prog 47 #[.slice ao n c] w fun e w' => e = .returned (.int .i64 ((wrongOf false xs : Nat) : Int)) ∧ Below w.heap.size w w' := by
  by_cases h7 : 7 < n
  · rw [wrong_long hn h7]
    have h7' : (7 : Int) < n := by omega
    clear hx hn h7
    go_enter Tryz.func47, Tryz.ntmps47
    go_wp2
    go_ret
    exact ⟨rfl, Below.refl _ _⟩
  · obtain ⟨r, hr⟩ : ∃ r, climb (-1) xs = r := ⟨_, rfl⟩
    have h7' : ¬ (7 : Int) < n := by omega
    obtain ⟨R, hR⟩ : ∃ R, wrongOf false xs = R := ⟨_, rfl⟩
    rw [hR]
    have HRR : Hid ((if r = true then 0 else 1) = R) := by
      show _ = _
      rw [← hR, wrong_short hn h7, hr]
    have HX := hide hx
    have HN := hide hn
    have HR := hide hr
    clear hx hn hr hR h7
    go_enter Tryz.func47, Tryz.ntmps47
    go_wp2_with fail
    go_loopw [3] (fun i wr => ∃ k : Nat, k ≤ n ∧ i = .int .i64 k ∧ climb (prevOf xs k) (xs.drop k) = r ∧ -1 ≤ prevOf xs k ∧ Below w.heap.size w wr) (fun i _ => n - (intOf i).toNat)
    case atStart => exact ⟨0, Nat.zero_le _, rfl, unhide HR, Int.le_refl _, Below.refl _ _⟩
    case round =>
      obtain ⟨k, hk, rfl, hc, hp, hbel⟩ := hrel
      have BEL := hide hbel
      clear hbel
      by_cases hlt : k < n
      · obtain ⟨a1, rfl, h1⟩ := (unhide HX) k (by rw [unhide HN]; exact hlt)
        have c1 : wr.cell? (a1.add k) = some (.int .i64 (xs.getD k 0)) := by rw [(unhide BEL).cell (blk_lt h1)]; exact h1
        rw [drop_getD (by rw [unhide HN]; exact hlt)] at hc
        have q : (k : Int) < n := by omega
        obtain ⟨x, hxk⟩ : ∃ x, xs.getD k 0 = x := ⟨_, rfl⟩
        rw [hxk] at c1 hc
        have HC := hide hc
        have HXK := hide hxk
        have HP := hide hp
        clear h1 hxk hc hp
        by_cases h0 : x < 0
        · obtain rfl : false = r := by rw [← unhide HC]; exact (climb_bad (Or.inl (by have := unhide HP; omega))).symm
          obtain rfl : 1 = R := unhide HRR
          clear HRR HP HC
          go_upto_region 6 with fail
          refine wp_region_quiet_lit (by kernel_rfl) (by kernel_rfl) ?_
          repeat (
            with_reducible refine wpQuiet_step (fun K hK => ?_)
            go_simp
            first
              | (refine hK _ ?_; clear hK K)
              | (apply Exists.intro
                 refine ⟨fun _ => ?_, hK _ ?_⟩
                 (fail)
                 clear hK K))
          refine wpQuiet_nil ?_
          intro _ hw'
          obtain ⟨nq, hw''⟩ := hw'
          subst hw''
          go_wp2
          go_ret
          exact ⟨rfl, (unhide BEL).trans ((drewN_below _ _).mono (unhide BEL).size)⟩
        · by_cases h9 : 9 ≤ x
          · obtain rfl : false = r := by rw [← unhide HC]; exact (climb_bad (Or.inr h9)).symm
            obtain rfl : 1 = R := unhide HRR
            clear HRR HP HC
            go_upto_region 6 with fail
            refine wp_region_quiet_lit (by kernel_rfl) (by kernel_rfl) ?_
            repeat (
              with_reducible refine wpQuiet_step (fun K hK => ?_)
              go_simp
              first
                | (refine hK _ ?_; clear hK K)
                | (apply Exists.intro
                   refine ⟨fun _ => ?_, hK _ ?_⟩
                   (fail)
                   clear hK K))
            refine wpQuiet_nil ?_
            intro _ hw'
            obtain ⟨nq, hw''⟩ := hw'
            subst hw''
            go_wp2
            go_ret
            exact ⟨rfl, (unhide BEL).trans ((drewN_below _ _).mono (unhide BEL).size)⟩
          · cases k with
            | zero =>
              have HC2 : Hid (climb x (xs.drop 1) = r) := by
                have := unhide HC
                rw [climb_ok (by simp only [prevOf]; omega)] at this; exact this
              have c1' : wr.cell? a1 = some (.int .i64 x) := c1
              clear HC HP
              go_upto_region 6 with fail
              refine wp_region_quiet_lit (by kernel_rfl) (by kernel_rfl) ?_
              repeat (
                with_reducible refine wpQuiet_step (fun K hK => ?_)
                go_simp
                first
                  | (refine hK _ ?_; clear hK K)
                  | (apply Exists.intro
                     refine ⟨fun _ => ?_, hK _ ?_⟩
                     (fail)
                     clear hK K))
              refine wpQuiet_nil ?_
              intro _ hw'
              obtain ⟨nq, hw''⟩ := hw'
              subst hw''
              go_wp2
              go_roundw
              case rel => exact ⟨1, by omega, by go_num, by show climb (xs.getD 0 0) _ = r; rw [unhide HXK]; exact unhide HC2, by show -1 ≤ xs.getD 0 0; rw [unhide HXK]; omega, (unhide BEL).trans ((drewN_below _ _).mono (unhide BEL).size)⟩
              case measure => simp [intOf]; omega
            | succ k =>
              obtain ⟨a2, e2, h2⟩ := (unhide HX) k (by rw [unhide HN]; omega)
              cases e2
              have c2 : wr.cell? (a1.add k) = some (.int .i64 (xs.getD k 0)) := by rw [(unhide BEL).cell (blk_lt h2)]; exact h2
              have HC3 : Hid (climb (xs.getD k 0) (x :: xs.drop (k + 1 + 1)) = r) := unhide HC
              obtain ⟨p, hpk⟩ : ∃ p, xs.getD k 0 = p := ⟨_, rfl⟩
              rw [hpk] at c2 HC3
              have qk : (k : Int) < n := by omega
              have q1 : (k : Int) + 1 < n := by omega
              have q6 : IntKind.i64.wrap (k : Int) = (k : Int) := IntWalk.i64_in _ (by omega)
              have c3 : wr.cell? ⟨a1.block, a1.off + (k + 1), none⟩ = some (.int .i64 x) := c1
              have q2 : ((k : Int) + 1).toNat = k + 1 := by omega
              have q3 : (0 : Int) ≤ (k : Int) + 1 := by omega
              have q4 : (0 : Int) < (k : Int) + 1 := by omega
              have q5 : (k : Int) + 1 - 1 = (k : Int) := by omega
              clear h2 hpk HP HC
              by_cases hle : x ≤ p
              · obtain rfl : false = r := by rw [← unhide HC3]; exact (climb_bad (Or.inl hle)).symm
                obtain rfl : 1 = R := unhide HRR
                clear HRR HC3
                go_upto_region 6 with fail
                refine wp_region_quiet_lit (by kernel_rfl) (by kernel_rfl) ?_
                repeat (
                  with_reducible refine wpQuiet_step (fun K hK => ?_)
                  go_simp
                  first
                    | (refine hK _ ?_; clear hK K)
                    | (apply Exists.intro
                       refine ⟨fun _ => ?_, hK _ ?_⟩
                       (fail)
                       clear hK K))
                refine wpQuiet_nil ?_
                intro _ hw'
                obtain ⟨nq, hw''⟩ := hw'
                subst hw''
                go_wp2
                go_ret
                exact ⟨rfl, (unhide BEL).trans ((drewN_below _ _).mono (unhide BEL).size)⟩
              · have HC2 : Hid (climb x (xs.drop (k + 1 + 1)) = r) := by
                  have := unhide HC3
                  rw [climb_ok (by omega)] at this; exact this
                clear HC3
                go_upto_region 6 with fail
                refine wp_region_quiet_lit (by kernel_rfl) (by kernel_rfl) ?_
                repeat (
                  with_reducible refine wpQuiet_step (fun K hK => ?_)
                  go_simp
                  first
                    | (refine hK _ ?_; clear hK K)
                    | (apply Exists.intro
                       refine ⟨fun _ => ?_, hK _ ?_⟩
                       (fail)
                       clear hK K))
                refine wpQuiet_nil ?_
                intro _ hw'
                obtain ⟨nq, hw''⟩ := hw'
                subst hw''
                go_wp2
                go_roundw
                case rel => exact ⟨k + 1 + 1, by omega, by go_num, by show climb (xs.getD (k + 1) 0) _ = r; rw [unhide HXK]; exact unhide HC2, by show -1 ≤ xs.getD (k + 1) 0; rw [unhide HXK]; omega, (unhide BEL).trans ((drewN_below _ _).mono (unhide BEL).size)⟩
                case measure => simp [intOf]; omega
      · obtain rfl : true = r := by rw [← hc, List.drop_eq_nil_of_le (by rw [unhide HN]; omega)]; rfl
        obtain rfl : 0 = R := unhide HRR
        clear hc hp HRR
        go_wp2
        go_ret
        exact ⟨rfl, unhide BEL⟩
end Go.Proofs.YtgllokinadjiaaaGreatDoor
