/- link's Take whole; the law's known, within: contracts. -/
import Derived.Test.YtkanolmcaoecgaaLTake
namespace Go.Proofs.Ytkanolmcaoecgaa
open Go.RowKit Go.Maps

/-- what Take answers. -/
def takeE (g : Hd) (l n : Int) : Int := if l < 1 ∨ n < 1 then 1 else if l < (g.life : Int) then 19 else if l = (g.life : Int) ∧ g.knows n.toNat = true then 7 else 0
theorem wf_range {x : Int} (h : wf64 x) : -9223372036854775808 ≤ x ∧ x ≤ 9223372036854775807 := by
  unfold wf64 at h; simp [Lit.wf, IntKind.min, IntKind.max, IntKind.signed, IntKind.bits] at h; omega

theorem take_any {base p s q : Nat} {life : Int} {sent : Int → Nat} {heard : Int → Hd} {ref c : Nat} (x l n e : Int) (w : World) (hx : wf64 x) (hl : wf64 l) (hn : wf64 n) (hc : c < 1000000) (hb : base ≤ p ∧ base ≤ s ∧ base ≤ q) (hbase : base ≤ w.heap.size) (h : Lk w p s q life sent heard ref c) (he : takeE (heard x) l n = e) :
    Calls Try.prog 13 #[.pointer (some ⟨p, 0, none⟩), .int .i64 x, .int .i64 l, .int .i64 n] w fun r w' => r = .returned (.int .i64 e) ∧ Lk w' p s q life sent (if e = 0 then upH heard x ((heard x).taking l.toNat n.toNat) else heard) (if e = 0 then ref else ref + 1) (c + 1) ∧ Kept base (foot p s q) w w' := by
  have lr := wf_range hl
  have nr := wf_range hn
  have hok : (heard x).ok := by obtain ⟨Ds, Dh, a1, a2, a3, a4, a5, a6, a7, a8, a9⟩ := h; exact a8 x
  subst he
  unfold takeE
  by_cases h1 : l < 1 ∨ n < 1
  · rw [if_pos h1]
    exact take_refused x l n 1 w hx hc hb hbase h (fun w => refuse_arg _ l n w h1) rfl
  · rw [if_neg h1]
    by_cases h2 : l < ((heard x).life : Int)
    · rw [if_pos h2]
      exact take_refused x l n 19 w hx hc hb hbase h (fun w => refuse_stale _ l n w (by omega) (by omega) h2) rfl
    · rw [if_neg h2]
      obtain ⟨N, rfl⟩ : ∃ N : Nat, n = (N : Int) := ⟨n.toNat, by omega⟩
      obtain ⟨L, rfl⟩ : ∃ L : Nat, l = (L : Int) := ⟨l.toNat, by omega⟩
      rw [Int.toNat_natCast, Int.toNat_natCast]
      by_cases h3 : (L : Int) = ((heard x).life : Int)
      · cases hk : (heard x).knows N with
        | true =>
          rw [if_pos ⟨h3, rfl⟩]
          exact take_refused x L N 7 w hx hc hb hbase h (fun w => refuse_known _ L N w hok h3.symm (by omega) (by omega) (by omega) hk) rfl
        | false =>
          rw [if_neg (by simp)]
          exact take_ok x L N w hx (by omega) (by omega) hc hb hbase h (fun w => refuse_free _ L N w hok h3.symm (by omega) (by omega) (by omega) hk)
      · rw [if_neg (fun x => h3 x.1)]
        exact take_ok x L N w hx (by omega) (by omega) hc hb hbase h (fun w => refuse_newer _ L N w (by omega) (by omega) (by omega))

theorem take_yes {base p s q : Nat} {life : Int} {sent : Int → Nat} {heard : Int → Hd} {ref c : Nat} (x l n : Int) (w : World) (hx : wf64 x) (hl : wf64 l) (hn : wf64 n) (hc : c < 1000000) (hb : base ≤ p ∧ base ≤ s ∧ base ≤ q) (hbase : base ≤ w.heap.size) (h : Lk w p s q life sent heard ref c) (he : takeE (heard x) l n = 0) :
    Calls Try.prog 13 #[.pointer (some ⟨p, 0, none⟩), .int .i64 x, .int .i64 l, .int .i64 n] w fun r w' => r = .returned (.int .i64 0) ∧ Lk w' p s q life sent (upH heard x ((heard x).taking l.toNat n.toNat)) ref (c + 1) ∧ Kept base (foot p s q) w w' := by
  have t := take_any x l n 0 w hx hl hn hc hb hbase h he
  rw [if_pos rfl, if_pos rfl] at t; exact t
theorem take_no {base p s q : Nat} {life : Int} {sent : Int → Nat} {heard : Int → Hd} {ref c : Nat} (x l n e : Int) (w : World) (hx : wf64 x) (hl : wf64 l) (hn : wf64 n) (hc : c < 1000000) (hb : base ≤ p ∧ base ≤ s ∧ base ≤ q) (hbase : base ≤ w.heap.size) (h : Lk w p s q life sent heard ref c) (he : takeE (heard x) l n = e) (h0 : e ≠ 0) :
    Calls Try.prog 13 #[.pointer (some ⟨p, 0, none⟩), .int .i64 x, .int .i64 l, .int .i64 n] w fun r w' => r = .returned (.int .i64 e) ∧ Lk w' p s q life sent heard (ref + 1) (c + 1) ∧ Kept base (foot p s q) w w' := by
  have t := take_any x l n e w hx hl hn hc hb hbase h he
  rw [if_neg h0, if_neg h0] at t; exact t

theorem within_any (n m : Int) (w : World) (h1 : 0 < m) (h2 : m ≤ 1000000000000) :
    Calls Try.prog 9 #[.int .i64 n, .int .i64 m] w fun ev w' => ev = .returned (.int .i64 (n % m)) ∧ w' = w := by
  have hb := Int.emod_nonneg n (show m ≠ 0 by omega)
  have hl := Int.emod_lt_of_pos n h1
  have ht : n.tmod m = n % m ∨ n.tmod m = n % m - m := by
    have h := @Int.tmod_eq_emod n m
    split at h
    · left; simpa using h
    · right; omega
  have hz : (m == 0) = false := by simp; omega
  by_cases hn : n.tmod m < 0
  · have he : n.tmod m + m = n % m := by omega
    have lo : -1000000000000 ≤ n.tmod m := by omega
    have HE := hide he
    clear ht he hb hl
    go_enter Try.func9, Try.ntmps9
    go_wp2
    go_ret
    refine ⟨ret_int ?_, rfl⟩
    exact unhide HE
  · have he : n.tmod m = n % m := by omega
    have HE := hide he
    clear ht he hb hl
    go_enter Try.func9, Try.ntmps9
    go_wp2
    go_ret
    refine ⟨ret_int ?_, rfl⟩
    exact unhide HE

theorem wf_lit (n : Int) (h : -9223372036854775808 ≤ n ∧ n ≤ 9223372036854775807) : wf64 n := WalkArith.wf_i64 h

set_option maxRecDepth 20000 in
set_option maxHeartbeats 1000000 in
theorem known_any (w : World) : Calls Try.prog 8 #[] w fun e w' => e = .returned (.bool true) ∧ Below w.heap.size w w' := by
  have NW := hide (new_any 1 5 w)
  go_enter Try.func8, Try.ntmps8
  go_wp2_with fail
  refine (unhide NW).mono ?_
  rintro e w1 ⟨rfl, l1, b1, s1⟩
  have ST := hide (stamp_any (base := w.heap.size) 2 w1 (wf_lit 2 (by omega)) (by omega) ⟨by omega, by omega, by omega⟩ b1.size l1)
  have B1 := hide b1
  clear l1 b1 s1 NW
  go_wp2_with fail
  refine (unhide ST).mono ?_
  rintro e w2 ⟨rfl, l2, k2⟩
  have TK := take_yes (base := w.heap.size) 2 1 3 w2 (wf_lit 2 (by omega)) (wf_lit 1 (by omega)) (wf_lit 3 (by omega)) (by omega) ⟨by omega, by omega, by omega⟩ (Nat.le_trans (unhide B1).size k2.size) l2 rfl
  have B2 := hide ((unhide B1).trans k2.1)
  have HT := hide TK
  clear l2 k2 TK ST B1
  go_wp2_with fail
  refine (unhide HT).mono ?_
  rintro e w3 ⟨rfl, l3, k3⟩
  have TK := take_no (base := w.heap.size) 2 1 3 7 w3 (wf_lit 2 (by omega)) (wf_lit 1 (by omega)) (wf_lit 3 (by omega)) (by omega) ⟨by omega, by omega, by omega⟩ (Nat.le_trans (unhide B2).size k3.size) l3 (by decide) (by decide)
  have B3 := hide ((unhide B2).trans k3.1)
  have HT2 := hide TK
  clear l3 k3 TK HT B2
  go_wp2_with fail
  refine (unhide HT2).mono ?_
  rintro e w4 ⟨rfl, l4, k4⟩
  have B4 := hide ((unhide B3).trans k4.1)
  clear l4 k4 HT2 B3
  go_wp2
  go_ret
  exact ⟨rfl, unhide B4⟩
end Go.Proofs.Ytkanolmcaoecgaa
