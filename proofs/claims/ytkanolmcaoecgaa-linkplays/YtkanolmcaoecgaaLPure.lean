/- What was taken of one peer, as plain numbers and bits: what knows and taking make of it. -/
import Derived.Test.YtkanolmcaoecgaaNBase
namespace Go.Proofs.Ytkanolmcaoecgaa

/-- what was heard of one peer: its life, the greatest number, a bit for each number modulo 256. -/
structure Hd where
  life : Nat
  top : Nat
  w0 : Nat
  w1 : Nat
  w2 : Nat
  w3 : Nat
def Hd.none : Hd := ⟨0, 0, 0, 0, 0, 0⟩
def Hd.word (h : Hd) (k : Nat) : Nat := if k = 0 then h.w0 else if k = 1 then h.w1 else if k = 2 then h.w2 else h.w3
def Hd.put (h : Hd) (k v : Nat) : Hd := if k = 0 then { h with w0 := v } else if k = 1 then { h with w1 := v } else if k = 2 then { h with w2 := v } else { h with w3 := v }
def Hd.cells (h : Hd) : Array Value := #[.int .i64 (h.life : Int), .int .i64 (h.top : Int), .int .u64 (h.w0 : Int), .int .u64 (h.w1 : Int), .int .u64 (h.w2 : Int), .int .u64 (h.w3 : Int)]
def Hd.ok (h : Hd) : Prop := h.life < 9223372036854775808 ∧ h.top < 9223372036854775808 ∧ h.w0 < 18446744073709551616 ∧ h.w1 < 18446744073709551616 ∧ h.w2 < 18446744073709551616 ∧ h.w3 < 18446744073709551616
def Hd.bit (h : Hd) (n : Nat) : Bool := (h.word (n % 256 / 64)).testBit (n % 64)
def Hd.knows (h : Hd) (n : Nat) : Bool := decide (n + 256 ≤ h.top) || (decide (n ≤ h.top) && h.bit n)
def Hd.clear (h : Hd) (n : Nat) : Hd := h.put (n % 256 / 64) (h.word (n % 256 / 64) &&& (18446744073709551615 - 2 ^ (n % 64)))
def Hd.mark (h : Hd) (n : Nat) : Hd := h.put (n % 256 / 64) (h.word (n % 256 / 64) ||| 2 ^ (n % 64))
def Hd.clears (h : Hd) (n : Nat) : Nat → Hd
  | 0 => h
  | i + 1 => (h.clears n i).clear (n - i)
def Hd.reach (h : Hd) (n : Nat) : Hd := { h.clears n (min (n - h.top) 256) with top := max h.top n }
def Hd.begun (h : Hd) (life : Nat) : Hd := if h.life < life then ⟨life, 0, 0, 0, 0, 0⟩ else h
def Hd.taking (h : Hd) (life n : Nat) : Hd := ((h.begun life).reach n).mark n

theorem word_put (h : Hd) (k v j : Nat) (hk : k < 4) (hj : j < 4) : (h.put k v).word j = if j = k then v else h.word j := by
  obtain rfl | rfl | rfl | rfl : k = 0 ∨ k = 1 ∨ k = 2 ∨ k = 3 := by omega
  all_goals (obtain rfl | rfl | rfl | rfl : j = 0 ∨ j = 1 ∨ j = 2 ∨ j = 3 := by omega)
  all_goals rfl
theorem put_life (h : Hd) (k v : Nat) : (h.put k v).life = h.life := by unfold Hd.put; split; rfl; split; rfl; split <;> rfl
theorem put_top (h : Hd) (k v : Nat) : (h.put k v).top = h.top := by unfold Hd.put; split; rfl; split; rfl; split <;> rfl
theorem word_lt {h : Hd} (ho : h.ok) (k : Nat) : h.word k < 18446744073709551616 := by
  unfold Hd.word; obtain ⟨_, _, a, b, c, d⟩ := ho
  split; exact a; split; exact b; split; exact c; exact d
theorem put_ok {h : Hd} (ho : h.ok) (k : Nat) {v : Nat} (hv : v < 18446744073709551616) : (h.put k v).ok := by
  obtain ⟨x, y, a, b, c, d⟩ := ho
  unfold Hd.put
  split; exact ⟨x, y, hv, b, c, d⟩
  split; exact ⟨x, y, a, hv, c, d⟩
  split; exact ⟨x, y, a, b, hv, d⟩
  exact ⟨x, y, a, b, c, hv⟩
theorem pow_lt (n : Nat) : 2 ^ (n % 64) < 18446744073709551616 := by
  have := Nat.pow_lt_pow_right (a := 2) (by decide) (Nat.mod_lt n (show 0 < 64 by decide))
  exact this
theorem clear_ok {h : Hd} (ho : h.ok) (n : Nat) : (h.clear n).ok := put_ok ho _ (Nat.lt_of_le_of_lt Nat.and_le_left (word_lt ho _))
theorem mark_ok {h : Hd} (ho : h.ok) (n : Nat) : (h.mark n).ok := put_ok ho _ (Nat.or_lt_two_pow (n := 64) (word_lt ho _) (pow_lt n))
theorem clears_ok {h : Hd} (ho : h.ok) (n : Nat) : ∀ i, (h.clears n i).ok
  | 0 => ho
  | i + 1 => clear_ok (clears_ok ho n i) _
theorem clears_life (h : Hd) (n : Nat) : ∀ i, (h.clears n i).life = h.life
  | 0 => rfl
  | i + 1 => (put_life _ _ _).trans (clears_life h n i)
theorem clears_top (h : Hd) (n : Nat) : ∀ i, (h.clears n i).top = h.top
  | 0 => rfl
  | i + 1 => (put_top _ _ _).trans (clears_top h n i)
theorem reach_ok {h : Hd} (ho : h.ok) {n : Nat} (hn : n < 9223372036854775808) : (h.reach n).ok := by
  obtain ⟨x, _, r⟩ := clears_ok ho n (min (n - h.top) 256)
  exact ⟨x, by have := ho.2.1; show max h.top n < _; omega, r⟩
theorem begun_ok {h : Hd} (ho : h.ok) {l : Nat} (hl : l < 9223372036854775808) : (h.begun l).ok := by
  unfold Hd.begun
  split
  · exact ⟨hl, Nat.two_pow_pos 63, Nat.two_pow_pos 64, Nat.two_pow_pos 64, Nat.two_pow_pos 64, Nat.two_pow_pos 64⟩
  · exact ho
theorem taking_ok {h : Hd} (ho : h.ok) {l n : Nat} (hl : l < 9223372036854775808) (hn : n < 9223372036854775808) : (h.taking l n).ok := mark_ok (reach_ok (begun_ok ho hl) hn) n

theorem not_bit (j n : Nat) (hj : j < 64) : (18446744073709551615 - 2 ^ (n % 64)).testBit j = !decide (j = n % 64) := by
  have e : 18446744073709551615 - 2 ^ (n % 64) = 2 ^ 64 - (2 ^ (n % 64) + 1) := by omega
  rw [e, Nat.testBit_two_pow_sub_succ (pow_lt n), Nat.testBit_two_pow]
  simp [hj, eq_comm]
theorem bit_clear (h : Hd) (n m : Nat) : (h.clear n).bit m = (h.bit m && !decide (m % 256 = n % 256)) := by
  unfold Hd.bit Hd.clear
  rw [word_put _ _ _ _ (by omega) (by omega)]
  by_cases e : m % 256 / 64 = n % 256 / 64
  · rw [if_pos e, Nat.testBit_and, not_bit _ _ (Nat.mod_lt _ (by decide)), e]
    congr 2
    by_cases h : m % 64 = n % 64
    · rw [decide_eq_true h, decide_eq_true (by omega)]
    · rw [decide_eq_false h, decide_eq_false (by omega)]
  · rw [if_neg e, decide_eq_false (by omega)]; simp
theorem bit_mark (h : Hd) (n m : Nat) : (h.mark n).bit m = (h.bit m || decide (m % 256 = n % 256)) := by
  unfold Hd.bit Hd.mark
  rw [word_put _ _ _ _ (by omega) (by omega)]
  by_cases e : m % 256 / 64 = n % 256 / 64
  · rw [if_pos e, Nat.testBit_or, Nat.testBit_two_pow, e]
    congr 1
    by_cases h : m % 64 = n % 64
    · rw [decide_eq_true h.symm, decide_eq_true (by omega)]
    · rw [decide_eq_false (fun x => h x.symm), decide_eq_false (by omega)]
  · rw [if_neg e, decide_eq_false (by omega)]; simp
/-- the bits that are left of those that were there. -/
theorem bit_clears_keep (h : Hd) (n m : Nat) : ∀ c, (∀ i, i < c → m % 256 ≠ (n - i) % 256) → (h.clears n c).bit m = h.bit m
  | 0, _ => rfl
  | c + 1, hc => by
    show ((h.clears n c).clear (n - c)).bit m = _
    rw [bit_clear, bit_clears_keep h n m c (fun i hi => hc i (by omega)), decide_eq_false (hc c (by omega))]; simp
theorem bit_clears_gone (h : Hd) (n m i : Nat) : ∀ c, i < c → m % 256 = (n - i) % 256 → (h.clears n c).bit m = false
  | c + 1, hi, e => by
    show ((h.clears n c).clear (n - c)).bit m = _
    rw [bit_clear]
    by_cases h0 : i = c
    · subst h0; rw [decide_eq_true e]; simp
    · rw [bit_clears_gone h n m i c (by omega) e]; rfl
/-- the bits are those of a set of numbers. -/
def Sees (h : Hd) (S : Nat → Bool) : Prop := (∀ m, h.top < m → S m = false) ∧ ∀ m, m ≤ h.top → h.top < m + 256 → h.bit m = S m
theorem sees_none (l : Nat) : Sees ⟨l, 0, 0, 0, 0, 0⟩ fun _ => false :=
  ⟨fun _ _ => rfl, fun m _ _ => by unfold Hd.bit Hd.word; split <;> (try split) <;> (try split) <;> simp⟩
theorem sees_knows {h : Hd} {S : Nat → Bool} (hs : Sees h S) (n : Nat) : h.knows n = (decide (n + 256 ≤ h.top) || S n) := by
  unfold Hd.knows
  by_cases h1 : n + 256 ≤ h.top
  · simp [h1]
  · rw [decide_eq_false h1, Bool.false_or, Bool.false_or]
    by_cases h2 : n ≤ h.top
    · rw [decide_eq_true h2, Bool.true_and]; exact hs.2 n h2 (by omega)
    · rw [decide_eq_false h2, Bool.false_and, hs.1 n (by omega)]
theorem reach_bit (h : Hd) (n m : Nat) : (h.reach n).bit m = (h.clears n (min (n - h.top) 256)).bit m := rfl
theorem sees_mark {h : Hd} {S : Nat → Bool} (hs : Sees h S) (n : Nat) (hn : h.top < n + 256) : Sees ((h.reach n).mark n) fun m => S m || decide (m = n) := by
  have ht : ((h.reach n).mark n).top = max h.top n := put_top _ _ _
  refine ⟨fun m hm => ?_, fun m h1 h2 => ?_⟩
  · rw [ht] at hm
    simp only
    rw [hs.1 m (by omega), decide_eq_false (by omega)]; rfl
  · rw [ht] at h1 h2
    simp only
    rw [bit_mark, reach_bit]
    by_cases e : m = n
    · subst e; simp
    · rw [decide_eq_false e, Bool.or_false]
      by_cases hm : m ≤ h.top
      · rw [bit_clears_keep h n m _ (fun i hi => by omega), hs.2 m hm (by omega), decide_eq_false (by omega), Bool.or_false]
      · rw [bit_clears_gone h n m (n - m) _ (by omega) (by congr 1; omega), hs.1 m (by omega), decide_eq_false (by omega), Bool.or_false]
theorem taking_life (h : Hd) (l n : Nat) : (h.taking l n).life = if h.life < l then l else h.life := by
  have e : (h.taking l n).life = (h.begun l).life := (put_life _ _ _).trans (clears_life _ _ _)
  rw [e]; unfold Hd.begun; split <;> rfl
theorem taking_top (h : Hd) (l n : Nat) : (h.taking l n).top = if h.life < l then n else max h.top n := by
  have e : (h.taking l n).top = max (h.begun l).top n := put_top _ _ _
  rw [e]; unfold Hd.begun; split
  · show max 0 n = n; omega
  · rfl
theorem sees_same {h : Hd} {S : Nat → Bool} (hs : Sees h S) {l : Nat} (hl : ¬ h.life < l) (n : Nat) (hn : h.top < n + 256) : Sees (h.taking l n) fun m => S m || decide (m = n) := by
  unfold Hd.taking Hd.begun
  rw [if_neg hl]; exact sees_mark hs n hn
theorem sees_newer {h : Hd} {l : Nat} (hl : h.life < l) (n : Nat) : Sees (h.taking l n) fun m => decide (m = n) := by
  unfold Hd.taking Hd.begun
  rw [if_pos hl]
  have := sees_mark (sees_none l) n (by show 0 < _; omega)
  simpa using this
end Go.Proofs.Ytkanolmcaoecgaa
