/- hist: New, Last, has, ahead, Term, Newer, fits: contracts. hist: Term, Newer, New: contracts. -/
import Derived.Test.YtmgdkbpbmngibaaHBase
import Derived.Deep.RegionHeldLaw
namespace Go.Proofs.Ytmgdkbpbmngibaa
open Go.RowKit Go.Maps

/-- the row at an index; its term. -/
def rowAt (b : Int) (rs : List Rw) (i : Int) : Option Rw := if b < i then rs[(i - b - 1).toNat]? else none
def termOf (b : Int) (rs : List Rw) (i : Int) : Int := match rowAt b rs i with | some r => r.1 | none => 0
def aheadOf (b : Int) (rs : List Rw) (i : Int) : Nat := if i ≤ b then 0 else min (i - b - 1).toNat rs.length
/-- numbers that are not too great. -/
structure Fit (b : Int) (rs : List Rw) : Prop where
  b0 : 0 ≤ b
  b1 : b ≤ 1000000
  n1 : rs.length ≤ 1000000
theorem rowAt_none {b : Int} {rs : List Rw} {i : Int} (h : ¬ (b < i ∧ i ≤ b + (rs.length : Int))) : rowAt b rs i = none := by
  unfold rowAt
  split
  · rw [List.getElem?_eq_none_iff]; omega
  · rfl
theorem rowAt_some {b : Int} {rs : List Rw} {i : Int} (h : b < i ∧ i ≤ b + (rs.length : Int)) : ∃ r, rowAt b rs i = some r ∧ rs[(i - b - 1).toNat]? = some r := by
  unfold rowAt
  rw [if_pos h.1]
  have : (i - b - 1).toNat < rs.length := by omega
  exact ⟨_, List.getElem?_eq_getElem this, List.getElem?_eq_getElem this⟩

set_option maxHeartbeats 1000000 in
theorem last_any {D : Nat → Prop} {w : World} {p : Nat} {b : Int} {rs : List Rw} (h : Hs D w p b rs) (hf : Fit b rs) :
    Calls Try.prog 31 #[.pointer (some ⟨p, 0, none⟩)] w fun e w' => e = .returned (.int .i64 (b + (rs.length : Int))) ∧ Below w.heap.size w w' := by
  obtain ⟨⟨rv, hbx, hr⟩, _, _⟩ := h
  obtain ⟨ao, cap, rfl, _⟩ := hr.slice
  obtain ⟨h0, h1, h2⟩ := hf
  obtain ⟨n, hn⟩ : ∃ n, rs.length = n := ⟨_, rfl⟩
  rw [hn] at hbx h2 ⊢
  have c0 : w.cell? ⟨p, 0, none⟩ = some (.int .i64 b) := (cell_of_block hbx).trans rfl
  have c1 : w.cell? ⟨p, 1, none⟩ = some (.slice ao n cap) := (cell_of_block hbx).trans rfl
  have wr : IntKind.i64.wrap (b + (n : Int)) = b + (n : Int) := IntWalk.i64_in _ (by omega)
  clear hbx hr hn
  go_enter Try.func31, Try.ntmps31
  go_wp2_with fail
  go_quiet (fail)
  go_wp2
  go_ret
  exact ⟨rfl, drewN_below _ _⟩

set_option maxHeartbeats 1000000 in
theorem has_any {D : Nat → Prop} {w : World} {p : Nat} {b : Int} {rs : List Rw} (h : Hs D w p b rs) (hf : Fit b rs) (i : Int) :
    Calls Try.prog 52 #[.pointer (some ⟨p, 0, none⟩), .int .i64 i] w fun e w' => e = .returned (.bool (decide (b < i ∧ i ≤ b + (rs.length : Int)))) ∧ Below w.heap.size w w' := by
  have LA := hide (fun Y (hY : Below w.heap.size w Y) => last_any (h.below hY) hf)
  obtain ⟨⟨rv, hbx, hr⟩, _, _⟩ := h
  have c0 : w.cell? ⟨p, 0, none⟩ = some (.int .i64 b) := (cell_of_block hbx).trans rfl
  obtain ⟨L, hL⟩ : ∃ L, b + (rs.length : Int) = L := ⟨_, rfl⟩
  rw [hL] at LA ⊢
  have L0 := hide (unhide LA w (Below.refl _ _))
  clear hbx hr hL hf LA
  by_cases h1 : b < i
  · by_cases h2 : i ≤ L
    · rw [decide_eq_true ⟨h1, h2⟩]
      go_enter Try.func52, Try.ntmps52
      go_wp2_with fail
      refine (unhide L0).mono ?_
      rintro e w1 ⟨rfl, b1⟩
      have B1 := hide b1
      clear b1 L0
      go_wp2
      go_ret
      exact ⟨rfl, unhide B1⟩
    · rw [decide_eq_false (fun e => h2 e.2)]
      go_enter Try.func52, Try.ntmps52
      go_wp2_with fail
      refine (unhide L0).mono ?_
      rintro e w1 ⟨rfl, b1⟩
      have B1 := hide b1
      clear b1 L0
      go_wp2
      go_ret
      exact ⟨by show Ending.returned (.bool (decide (i ≤ L))) = _; rw [decide_eq_false (by omega)], unhide B1⟩
  · rw [decide_eq_false (fun e => h1 e.1)]
    go_enter Try.func52, Try.ntmps52
    go_wp2
    go_ret
    exact ⟨rfl, Below.refl _ _⟩

set_option maxHeartbeats 1000000 in
theorem ahead_any {D : Nat → Prop} {w : World} {p : Nat} {b : Int} {rs : List Rw} (h : Hs D w p b rs) (hf : Fit b rs) (i : Int) :
    Calls Try.prog 45 #[.pointer (some ⟨p, 0, none⟩), .int .i64 i] w fun e w' => e = .returned (.int .i64 ((aheadOf b rs i : Nat) : Int)) ∧ Below w.heap.size w w' := by
  have L0 := hide (last_any h hf)
  obtain ⟨⟨rv, hbx, hr⟩, _, _⟩ := h
  obtain ⟨ao, cap, rfl, _⟩ := hr.slice
  obtain ⟨h0, h1, h2⟩ := hf
  have HX := hide hbx
  have c0 : w.cell? ⟨p, 0, none⟩ = some (.int .i64 b) := (cell_of_block hbx).trans rfl
  obtain ⟨n, hn⟩ : ∃ n, rs.length = n := ⟨_, rfl⟩
  obtain ⟨k, hk⟩ : ∃ k, aheadOf b rs i = k := ⟨_, rfl⟩
  have HK : Hid ((if i ≤ b then 0 else min (i - b - 1).toNat n) = k) := by show _ = _; rw [← hk, ← hn]; rfl
  rw [hn] at L0 HX h2
  rw [hk]
  clear hbx hr hn hk
  by_cases g1 : i ≤ b
  · obtain rfl : 0 = k := by have := unhide HK; rwa [if_pos g1] at this
    go_enter Try.func45, Try.ntmps45
    go_wp2
    go_ret
    exact ⟨rfl, Below.refl _ _⟩
  · have hk2 := unhide HK
    rw [if_neg g1] at hk2
    by_cases g2 : b + (n : Int) < i
    · obtain rfl : n = k := by omega
      clear hk2 HK
      go_enter Try.func45, Try.ntmps45
      go_wp2_with fail
      refine (unhide L0).mono ?_
      rintro e w1 ⟨rfl, b1⟩
      have hx1 := Below.stay b1 (unhide HX)
      have c1 : w1.cell? ⟨p, 1, none⟩ = some (.slice ao n cap) := (cell_of_block hx1).trans rfl
      have B1 := hide b1
      clear b1 L0 hx1
      go_wp2
      go_ret
      exact ⟨rfl, unhide B1⟩
    · have e1 : i - b - 1 = (k : Int) := by omega
      have w1 : IntKind.i64.wrap (i - b) = (k : Int) + 1 := by rw [IntWalk.i64_in _ (by omega)]; omega
      clear hk2 HK
      go_enter Try.func45, Try.ntmps45
      go_wp2_with fail
      refine (unhide L0).mono ?_
      rintro e w1 ⟨rfl, b1⟩
      have hx1 := Below.stay b1 (unhide HX)
      have c1 : w1.cell? ⟨p, 0, none⟩ = some (.int .i64 b) := (cell_of_block hx1).trans rfl
      have B1 := hide b1
      clear b1 L0 hx1
      go_wp2
      go_ret
      exact ⟨rfl, unhide B1⟩
end Go.Proofs.Ytmgdkbpbmngibaa
namespace Go.Proofs.Ytmgdkbpbmngibaa
open Go.RowKit Go.Maps

theorem aheadOf_in {b : Int} {rs : List Rw} {i : Int} (h : b < i ∧ i ≤ b + (rs.length : Int)) : aheadOf b rs i = (i - b - 1).toNat := by
  unfold aheadOf
  rw [if_neg (by omega)]
  omega

set_option maxHeartbeats 1000000 in
theorem term_any {D : Nat → Prop} {w : World} {p : Nat} {b : Int} {rs : List Rw} (h : Hs D w p b rs) (hf : Fit b rs) (i : Int) :
    Calls Try.prog 32 #[.pointer (some ⟨p, 0, none⟩), .int .i64 i] w fun e w' => e = .returned (.int .i64 (termOf b rs i)) ∧ Below w.heap.size w w' := by
  have HA := hide (has_any h hf i)
  have AH := hide (fun Y (hY : Below w.heap.size w Y) => ahead_any (h.below hY) hf i)
  have HH := hide h
  by_cases hi : b < i ∧ i ≤ b + (rs.length : Int)
  · obtain ⟨r, hr1, hr2⟩ := rowAt_some hi
    have ht : termOf b rs i = r.1 := by unfold termOf; rw [hr1]
    rw [ht]
    rw [decide_eq_true hi] at HA
    rw [aheadOf_in hi] at AH
    obtain ⟨k, hk⟩ : ∃ k, (i - b - 1).toNat = k := ⟨_, rfl⟩
    rw [hk] at AH hr2
    obtain ⟨t, ht'⟩ : ∃ t, r.1 = t := ⟨_, rfl⟩
    rw [ht']
    obtain ⟨⟨rv, hbx, hrr⟩, _, _⟩ := h
    obtain ⟨ao, cap, rfl, h1, h2, h3⟩ := hrr.slice
    have hkn : k < rs.length := (List.getElem?_eq_some_iff.1 hr2).1
    obtain ⟨n, hn⟩ : ∃ n, rs.length = n := ⟨_, rfl⟩
    rw [hn] at hkn hbx hrr h1
    obtain ⟨g, mo, mc, rfl, hg, hcl, _⟩ := hrr.at hr2
    have hc0 : w.cell? ⟨g, k * 7, none⟩ = some (.int .i64 t) := by rw [← ht']; exact hcl 0 _ rfl
    have HX := hide hbx
    have HC := hide hc0
    have hkI : (k : Int) < (n : Int) := by omega
    have hk0 : (0 : Int) ≤ (k : Int) := by omega
    clear hcl hrr hbx hc0 hr1 hr2 ht ht' hn hi hk h3 hg
    go_enter Try.func32, Try.ntmps32
    go_wp2_with fail
    refine (unhide HA).mono ?_
    rintro e w1 ⟨rfl, b1⟩
    have X1 := Below.stay b1 (unhide HX)
    have c1 : w1.drew.cell? ⟨p, 1, none⟩ = some (.slice (some ⟨g, 0, none⟩) n cap) := (cell_of_block (w := w1.drew) X1).trans rfl
    have A1 := hide (unhide AH w1.drew b1.drew)
    have B1 := hide b1
    have H1 := hide X1
    have C1 : Hid (w1.cell? ⟨g, k * 7, none⟩ = some (.int .i64 t)) := by show _ = _; rw [b1.cell (blk_lt (unhide HC))]; exact unhide HC
    clear b1 HA AH X1
    go_upto_region 3 with fail
    go_region_with (go_at_call 45; refine (unhide A1).mono ?_; rintro e w2 ⟨rfl, b2⟩; have c2 : w2.cell? ⟨p, 1, none⟩ = some (.slice (some ⟨g, 0, none⟩) n cap) := (cell_of_block (Below.stay b2 (unhide H1))).trans rfl; have d2 : w2.cell? ⟨g, k * 7, none⟩ = some (.int .i64 t) := (by rw [b2.cell (blk_lt (w := w1.drew) (unhide C1))]; exact unhide C1); have B2 := hide (below_far (unhide B1).drew b2); clear b2)
    all_goals go_wp2
    all_goals go_ret
    all_goals exact ⟨rfl, unhide B2⟩
  · have ht : termOf b rs i = 0 := by unfold termOf; rw [rowAt_none hi]
    rw [ht]
    rw [decide_eq_false hi] at HA
    clear ht hi AH HH h
    go_enter Try.func32, Try.ntmps32
    go_wp2_with fail
    refine (unhide HA).mono ?_
    rintro e w1 ⟨rfl, b1⟩
    have B1 := hide b1
    clear b1 HA
    go_wp2
    go_ret
    exact ⟨rfl, unhide B1⟩

set_option maxHeartbeats 1000000 in
theorem hnew_any (b : Int) (w : World) :
    Calls Try.prog 12 #[.int .i64 b] w fun e w' => e = .returned (.pointer (some ⟨w.heap.size, 0, none⟩)) ∧ Hs (fun k => k = w.heap.size) w' w.heap.size b [] ∧ Below w.heap.size w w' := by
  go_enter Try.func12, Try.ntmps12
  go_wp2
  go_ret
  exact ⟨rfl, ⟨⟨_, box_at _ _, RRow.nil _ _⟩, rfl, fun k hk => by subst hk; simp⟩, (Below.refl _ w).alloc (Nat.le_refl _) _⟩

set_option maxHeartbeats 1000000 in
theorem fits_any (i : Int) (n : Nat) (hi : -1000000000 ≤ i) (hn : n ≤ 1000000) (w : World) :
    Calls Try.prog 43 #[.int .i64 i, .int .i64 (n : Int)] w fun e w' => e = .returned (.bool (decide (i + (n : Int) ≤ 64))) ∧ w' = w := by
  by_cases h1 : i ≤ 64
  · have wr : IntKind.i64.wrap (i + (n : Int)) = i + (n : Int) := IntWalk.i64_in _ (by omega)
    obtain ⟨s, hs⟩ : ∃ s, i + (n : Int) = s := ⟨_, rfl⟩
    rw [hs] at wr ⊢
    have wr' : IntKind.i64.wrap (i + (n : Int)) = s := by rw [hs]; exact wr
    clear hs wr
    go_enter Try.func43, Try.ntmps43
    go_wp2
    go_ret
    exact ⟨rfl, rfl⟩
  · rw [decide_eq_false (by omega)]
    go_enter Try.func43, Try.ntmps43
    go_wp2
    go_ret
    exact ⟨rfl, rfl⟩
end Go.Proofs.Ytmgdkbpbmngibaa
