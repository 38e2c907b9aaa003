/- accept: isNone, refuse: contracts. -/
import Derived.Test.YtijohafalcifpaaVErr
import Derived.Test.YtijohafalcifpaaVBase
namespace Go.Proofs.Ytijohafalcifpaa
open Go.RowKit Go.Maps

abbrev noneF : Value := .func (.func 29) #[] #[]
theorem isNone_any (s : Int) (w : World) : Calls Try.prog 29 #[.int .i64 s] w fun e w' => e = .returned (.bool (decide (s < 1 ∨ 64 < s))) ∧ w' = w := by
  by_cases h1 : s < 1
  · rw [decide_eq_true (Or.inl h1)]
    go_enter Try.func29, Try.ntmps29
    go_wp2
    go_ret
    exact ⟨rfl, rfl⟩
  · by_cases h2 : 64 < s
    · rw [decide_eq_true (Or.inr h2)]
      go_enter Try.func29, Try.ntmps29
      go_wp2
      go_ret
      exact ⟨rfl, rfl⟩
    · rw [decide_eq_false (by omega)]
      go_enter Try.func29, Try.ntmps29
      go_wp2
      go_ret
      exact ⟨rfl, rfl⟩
theorem index_nil (w : World) : Calls Try.prog 31 #[.slice none 0 0, noneF] w fun e w' => e = .returned (.int .i64 (-1)) ∧ w' = w := by
  go_enter Try.func31, Try.ntmps31
  go_wp2
  refine wp_loop_rounds 1 ?_; rw [rounds_succ]
  go_wp2
  go_ret
  exact ⟨rfl, rfl⟩
theorem index_one (nb : Nat) (s : Int) (w : World) (hc : w.cell? ⟨nb, 0, none⟩ = some (.int .i64 s)) : Calls Try.prog 31 #[.slice (some ⟨nb, 0, none⟩) 1 1, noneF] w fun e w' => e = .returned (.int .i64 (if s < 1 ∨ 64 < s then 0 else -1)) ∧ w' = w := by
  have C := hide (isNone_any s w)
  by_cases h : s < 1 ∨ 64 < s
  · rw [decide_eq_true h] at C
    rw [if_pos h]
    clear h
    go_enter Try.func31, Try.ntmps31
    go_wp2
    refine wp_loop_rounds 1 ?_; rw [rounds_succ]
    go_wp2_with (go_at_call 29; refine (unhide C).mono ?_; rintro e w' ⟨rfl, rfl⟩)
    go_ret
    exact ⟨rfl, rfl⟩
  · rw [decide_eq_false h] at C
    rw [if_neg h]
    clear h
    go_enter Try.func31, Try.ntmps31
    go_wp2
    refine wp_loop_rounds 2 ?_; rw [rounds_succ]
    go_wp2_with (go_at_call 29; refine (unhide C).mono ?_; rintro e w' ⟨rfl, rfl⟩)
    rw [rounds_succ]
    go_wp2
    go_ret
    exact ⟨rfl, rfl⟩
theorem contains_nil (w : World) : Calls Try.prog 28 #[.slice none 0 0, noneF] w fun e w' => e = .returned (.bool false) ∧ w' = w := by
  have C := hide (index_nil w)
  go_enter Try.func28, Try.ntmps28
  go_wp2_with (go_at_call 31; refine (unhide C).mono ?_; rintro e w' ⟨rfl, rfl⟩)
  go_ret
  exact ⟨rfl, rfl⟩
theorem contains_one (nb : Nat) (s : Int) (w : World) (hc : w.cell? ⟨nb, 0, none⟩ = some (.int .i64 s)) : Calls Try.prog 28 #[.slice (some ⟨nb, 0, none⟩) 1 1, noneF] w fun e w' => e = .returned (.bool (decide (s < 1 ∨ 64 < s))) ∧ w' = w := by
  have C := hide (index_one nb s w hc)
  clear hc
  by_cases h : s < 1 ∨ 64 < s
  · rw [if_pos h] at C
    rw [decide_eq_true h]
    clear h
    go_enter Try.func28, Try.ntmps28
    go_wp2_with (go_at_call 31; refine (unhide C).mono ?_; rintro e w' ⟨rfl, rfl⟩)
    go_ret
    exact ⟨rfl, rfl⟩
  · rw [if_neg h] at C
    rw [decide_eq_false h]
    clear h
    go_enter Try.func28, Try.ntmps28
    go_wp2_with (go_at_call 31; refine (unhide C).mono ?_; rintro e w' ⟨rfl, rfl⟩)
    go_ret
    exact ⟨rfl, rfl⟩
/-- what is refused: a ballot, whether a slot is none, what was promised. -/
def noOf (P b : Int) (bad : Bool) : Int := if b < 1 ∨ bad = true then 1 else if b < P then 19 else 0
def RefOut (n : Int) (v : Value) (w : World) : Prop := (n = 0 ∧ v = .nilIface) ∨ (n ≠ 0 ∧ ∃ b, v = refV b ∧ Ref w b n)
set_option maxRecDepth 20000 in
theorem refuse_of (P b : Int) (bad : Bool) (p : Nat) (sv : Value) (w : World) (hp : w.cell? ⟨p, 0, none⟩ = some (.int .i64 P)) (hc : Calls Try.prog 28 #[sv, noneF] w fun e w' => e = .returned (.bool bad) ∧ w' = w) :
    Calls Try.prog 24 #[.pointer (some ⟨p, 0, none⟩), .int .i64 b, sv] w fun e w' => ∃ v, e = .returned v ∧ RefOut (noOf P b bad) v w' ∧ Below w.heap.size w w' := by
  have C := hide hc
  clear hc
  by_cases h1 : b < 1
  · have e1 : noOf P b bad = 1 := by unfold noOf; rw [if_pos (Or.inl h1)]
    rw [e1]
    clear e1
    go_enter Try.func24, Try.ntmps24
    go_wp2
    go_ret
    exact ⟨_, rfl, Or.inr ⟨by decide, _, rfl, Ref.new _ _ _ rfl⟩, (Below.refl _ w).alloc (Nat.le_refl _) _⟩
  · cases bad with
    | true =>
      have e1 : noOf P b true = 1 := by unfold noOf; rw [if_pos (Or.inr rfl)]
      rw [e1]
      clear e1
      go_enter Try.func24, Try.ntmps24
      go_wp2_with (go_at_call 28; refine (unhide C).mono ?_; rintro e w' ⟨rfl, rfl⟩)
      go_ret
      exact ⟨_, rfl, Or.inr ⟨by decide, _, rfl, Ref.new _ _ _ rfl⟩, (Below.refl _ _).alloc (Nat.le_refl _) _⟩
    | false =>
      by_cases h2 : b < P
      · have e1 : noOf P b false = 19 := by unfold noOf; rw [if_neg (by simp; omega), if_pos h2]
        rw [e1]
        clear e1
        go_enter Try.func24, Try.ntmps24
        go_wp2_with (go_at_call 28; refine (unhide C).mono ?_; rintro e w' ⟨rfl, rfl⟩)
        go_ret
        exact ⟨_, rfl, Or.inr ⟨by decide, _, rfl, Ref.new _ _ _ rfl⟩, (Below.refl _ _).alloc (Nat.le_refl _) _⟩
      · have e1 : noOf P b false = 0 := by unfold noOf; rw [if_neg (by simp; omega), if_neg h2]
        rw [e1]
        clear e1
        go_enter Try.func24, Try.ntmps24
        go_wp2_with (go_at_call 28; refine (unhide C).mono ?_; rintro e w' ⟨rfl, rfl⟩)
        go_ret
        exact ⟨_, rfl, Or.inl ⟨rfl, rfl⟩, Below.refl _ _⟩
end Go.Proofs.Ytijohafalcifpaa
