/- hist: New, Last, has, ahead, Term, Newer, fits: contracts. -/
import Derived.Test.YthebgkkdkhlbbaaHBase
namespace Go.Proofs.Ythebgkkdkhlbbaa
open Go.RowKit Go.Maps

/-- the row at an index; its term. -/
def rowAt (b : Int) (rs : List Rw) (i : Int) : Option Rw := if b < i then rs[(i - b - 1).toNat]? else none
def termOf (b : Int) (rs : List Rw) (i : Int) : Int := match rowAt b rs i with | some r => r.1 | none => 0
def aheadOf (b : Int) (rs : List Rw) (i : Int) : Nat := if i ≤ b then 0 else min (i - b - 1).toNat rs.length
/-- numbers that are not too great. -/
structure Fit (b : Int) (rs : List Rw) : Prop where
  b0 : 0 ≤ b
  b1 : b ≤ 1000000
  n1 : rs.length ≤ 1000000
theorem rowAt_none {b : Int} {rs : List Rw} {i : Int} (h : ¬ (b < i ∧ i ≤ b + (rs.length : Int))) : rowAt b rs i = none := by
  unfold rowAt
  split
  · rw [List.getElem?_eq_none_iff]; omega
  · rfl
theorem rowAt_some {b : Int} {rs : List Rw} {i : Int} (h : b < i ∧ i ≤ b + (rs.length : Int)) : ∃ r, rowAt b rs i = some r ∧ rs[(i - b - 1).toNat]? = some r := by
  unfold rowAt
  rw [if_pos h.1]
  have : (i - b - 1).toNat < rs.length := by omega
  exact ⟨_, List.getElem?_eq_getElem this, List.getElem?_eq_getElem this⟩

set_option maxHeartbeats 1000000 in
theorem last_any {D : Nat → Prop} {w : World} {p : Nat} {b : Int} {rs : List Rw} (h : Hs D w p b rs) (hf : Fit b rs) :
    Calls Try.prog 31 #[.pointer (some ⟨p, 0, none⟩)] w fun e w' => e = .returned (.int .i64 (b + (rs.length : Int))) ∧ Below w.heap.size w w' := by
  obtain ⟨⟨rv, hbx, hr⟩, _, _⟩ := h
  obtain ⟨ao, cap, rfl, _⟩ := hr.slice
  obtain ⟨h0, h1, h2⟩ := hf
  obtain ⟨n, hn⟩ : ∃ n, rs.length = n := ⟨_, rfl⟩
  rw [hn] at hbx h2 ⊢
  have c0 : w.cell? ⟨p, 0, none⟩ = some (.int .i64 b) := (cell_of_block hbx).trans rfl
  have c1 : w.cell? ⟨p, 1, none⟩ = some (.slice ao n cap) := (cell_of_block hbx).trans rfl
  have wr : IntKind.i64.wrap (b + (n : Int)) = b + (n : Int) := IntWalk.i64_in _ (by omega)
  clear hbx hr hn
  go_enter Try.func31, Try.ntmps31
  go_wp2_with fail
  go_quiet (fail)
  go_wp2
  go_ret
  exact ⟨rfl, drewN_below _ _⟩

set_option maxHeartbeats 1000000 in
theorem has_any {D : Nat → Prop} {w : World} {p : Nat} {b : Int} {rs : List Rw} (h : Hs D w p b rs) (hf : Fit b rs) (i : Int) :
    Calls Try.prog 52 #[.pointer (some ⟨p, 0, none⟩), .int .i64 i] w fun e w' => e = .returned (.bool (decide (b < i ∧ i ≤ b + (rs.length : Int)))) ∧ Below w.heap.size w w' := by
  have LA := hide (fun Y (hY : Below w.heap.size w Y) => last_any (h.below hY) hf)
  obtain ⟨⟨rv, hbx, hr⟩, _, _⟩ := h
  have c0 : w.cell? ⟨p, 0, none⟩ = some (.int .i64 b) := (cell_of_block hbx).trans rfl
  obtain ⟨L, hL⟩ : ∃ L, b + (rs.length : Int) = L := ⟨_, rfl⟩
  rw [hL] at LA ⊢
  have L0 := hide (unhide LA w (Below.refl _ _))
  clear hbx hr hL hf LA
  by_cases h1 : b < i
  · by_cases h2 : i ≤ L
    · rw [decide_eq_true ⟨h1, h2⟩]
      go_enter Try.func52, Try.ntmps52
      go_wp2_with fail
      refine (unhide L0).mono ?_
      rintro e w1 ⟨rfl, b1⟩
      have B1 := hide b1
      clear b1 L0
      go_wp2
      go_ret
      exact ⟨rfl, unhide B1⟩
    · rw [decide_eq_false (fun e => h2 e.2)]
      go_enter Try.func52, Try.ntmps52
      go_wp2_with fail
      refine (unhide L0).mono ?_
      rintro e w1 ⟨rfl, b1⟩
      have B1 := hide b1
      clear b1 L0
      go_wp2
      go_ret
      exact ⟨by show Ending.returned (.bool (decide (i ≤ L))) = _; rw [decide_eq_false (by omega)], unhide B1⟩
  · rw [decide_eq_false (fun e => h1 e.1)]
    go_enter Try.func52, Try.ntmps52
    go_wp2
    go_ret
    exact ⟨rfl, Below.refl _ _⟩

set_option maxHeartbeats 1000000 in
theorem ahead_any {D : Nat → Prop} {w : World} {p : Nat} {b : Int} {rs : List Rw} (h : Hs D w p b rs) (hf : Fit b rs) (i : Int) :
    Calls Try.prog 45 #[.pointer (some ⟨p, 0, none⟩), .int .i64 i] w fun e w' => e = .returned (.int .i64 ((aheadOf b rs i : Nat) : Int)) ∧ Below w.heap.size w w' := by
  have L0 := hide (last_any h hf)
  obtain ⟨⟨rv, hbx, hr⟩, _, _⟩ := h
  obtain ⟨ao, cap, rfl, _⟩ := hr.slice
  obtain ⟨h0, h1, h2⟩ := hf
  have HX := hide hbx
  have c0 : w.cell? ⟨p, 0, none⟩ = some (.int .i64 b) := (cell_of_block hbx).trans rfl
  obtain ⟨n, hn⟩ : ∃ n, rs.length = n := ⟨_, rfl⟩
  obtain ⟨k, hk⟩ : ∃ k, aheadOf b rs i = k := ⟨_, rfl⟩
  have HK : Hid ((if i ≤ b then 0 else min (i - b - 1).toNat n) = k) := by show _ = _; rw [← hk, ← hn]; rfl
  rw [hn] at L0 HX h2
  rw [hk]
  clear hbx hr hn hk
  by_cases g1 : i ≤ b
  · obtain rfl : 0 = k := by have := unhide HK; rwa [if_pos g1] at this
    go_enter Try.func45, Try.ntmps45
    go_wp2
    go_ret
    exact ⟨rfl, Below.refl _ _⟩
  · have hk2 := unhide HK
    rw [if_neg g1] at hk2
    by_cases g2 : b + (n : Int) < i
    · obtain rfl : n = k := by omega
      clear hk2 HK
      go_enter Try.func45, Try.ntmps45
      go_wp2_with fail
      refine (unhide L0).mono ?_
      rintro e w1 ⟨rfl, b1⟩
      have hx1 := Below.stay b1 (unhide HX)
      have c1 : w1.cell? ⟨p, 1, none⟩ = some (.slice ao n cap) := (cell_of_block hx1).trans rfl
      have B1 := hide b1
      clear b1 L0 hx1
      go_wp2
      go_ret
      exact ⟨rfl, unhide B1⟩
    · have e1 : i - b - 1 = (k : Int) := by omega
      have w1 : IntKind.i64.wrap (i - b) = (k : Int) + 1 := by rw [IntWalk.i64_in _ (by omega)]; omega
      clear hk2 HK
      go_enter Try.func45, Try.ntmps45
      go_wp2_with fail
      refine (unhide L0).mono ?_
      rintro e w1 ⟨rfl, b1⟩
      have hx1 := Below.stay b1 (unhide HX)
      have c1 : w1.cell? ⟨p, 0, none⟩ = some (.int .i64 b) := (cell_of_block hx1).trans rfl
      have B1 := hide b1
      clear b1 L0 hx1
      go_wp2
      go_ret
      exact ⟨rfl, unhide B1⟩
end Go.Proofs.Ythebgkkdkhlbbaa
