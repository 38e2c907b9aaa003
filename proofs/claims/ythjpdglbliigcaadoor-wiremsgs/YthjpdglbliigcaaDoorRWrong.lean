/- synodalref2.wrong: a contract. -/
import Derived.Test.YthjpdglbliigcaaDoorBounds
namespace Go.Proofs.YthjpdglbliigcaaDoor
open Go.RowKit

/-- the number that an entry is refused by. -/
def wrongE (kind : Int) (ts n : Nat) (to' : Int) : Nat := firstOf [0, refuse 0 kind, refuse 4 ts, refuse 5 n, refuse 1 to']
theorem wrong_kind {kind : Int} {ts n : Nat} {to' : Int} (h : kind < 0 ∨ 4 < kind) : wrongE kind ts n to' = 3 := by
  have e : refuse 0 kind = 3 := by unfold refuse; rw [if_pos (by show (kind < (0 : Int) ∨ (4 : Int) < kind); exact h)]; rfl
  simp [wrongE, firstOf, e]
theorem wrong_long {kind : Int} {ts n : Nat} {to' : Int} (h1 : 0 ≤ kind) (h2 : kind ≤ 4) (h : 16 < ts) : wrongE kind ts n to' = 5 := by
  have e : refuse 0 kind = 0 := by unfold refuse; rw [if_neg (by show ¬ (kind < (0 : Int) ∨ (4 : Int) < kind); omega)]
  have e4 : refuse 4 (ts : Int) = 5 := by unfold refuse; rw [if_pos (by show ((ts : Int) < (0 : Int) ∨ (16 : Int) < (ts : Int)); omega)]; rfl
  simp [wrongE, firstOf, e, e4]
theorem wrong_many {kind : Int} {ts n : Nat} {to' : Int} (h1 : 0 ≤ kind) (h2 : kind ≤ 4) (h3 : ts ≤ 16) (h : 9 < n) : wrongE kind ts n to' = 4 := by
  have e : refuse 0 kind = 0 := by unfold refuse; rw [if_neg (by show ¬ (kind < (0 : Int) ∨ (4 : Int) < kind); omega)]
  have e4 : refuse 4 (ts : Int) = 0 := by unfold refuse; rw [if_neg (by show ¬ ((ts : Int) < (0 : Int) ∨ (16 : Int) < (ts : Int)); omega)]
  have e5 : refuse 5 (n : Int) = 4 := by unfold refuse; rw [if_pos (by show ((n : Int) < (0 : Int) ∨ (9 : Int) < (n : Int)); omega)]; rfl
  simp [wrongE, firstOf, e, e4, e5]
theorem wrong_to {kind : Int} {ts n : Nat} {to' : Int} (h1 : 0 ≤ kind) (h2 : kind ≤ 4) (h3 : ts ≤ 16) (h4 : n ≤ 9) (h : to' < 0 ∨ 2 < to') : wrongE kind ts n to' = 3 := by
  have e : refuse 0 kind = 0 := by unfold refuse; rw [if_neg (by show ¬ (kind < (0 : Int) ∨ (4 : Int) < kind); omega)]
  have e4 : refuse 4 (ts : Int) = 0 := by unfold refuse; rw [if_neg (by show ¬ ((ts : Int) < (0 : Int) ∨ (16 : Int) < (ts : Int)); omega)]
  have e5 : refuse 5 (n : Int) = 0 := by unfold refuse; rw [if_neg (by show ¬ ((n : Int) < (0 : Int) ∨ (9 : Int) < (n : Int)); omega)]
  have e1 : refuse 1 to' = 3 := by unfold refuse; rw [if_pos (by show (to' < (0 : Int) ∨ (2 : Int) < to'); exact h)]; rfl
  simp [wrongE, firstOf, e, e4, e5, e1]
theorem wrong_ok {kind : Int} {ts n : Nat} {to' : Int} (h1 : 0 ≤ kind) (h2 : kind ≤ 4) (h3 : ts ≤ 16) (h4 : n ≤ 9) (h5 : 0 ≤ to') (h6 : to' ≤ 2) : wrongE kind ts n to' = 0 := by
  have e : refuse 0 kind = 0 := by unfold refuse; rw [if_neg (by show ¬ (kind < (0 : Int) ∨ (4 : Int) < kind); omega)]
  have e4 : refuse 4 (ts : Int) = 0 := by unfold refuse; rw [if_neg (by show ¬ ((ts : Int) < (0 : Int) ∨ (16 : Int) < (ts : Int)); omega)]
  have e5 : refuse 5 (n : Int) = 0 := by unfold refuse; rw [if_neg (by show ¬ ((n : Int) < (0 : Int) ∨ (9 : Int) < (n : Int)); omega)]
  have e1 : refuse 1 to' = 0 := by unfold refuse; rw [if_neg (by show ¬ (to' < (0 : Int) ∨ (2 : Int) < to'); omega)]
  simp [wrongE, firstOf, e, e4, e5, e1]
theorem wrong_put (kind client seq : Int) (t : ByteArray) (ys : List Int) (to' : Int) : (putEntry kind client seq t ys to' ([], 0)).2 = wrongE kind t.size ys.length to' := putEntry_err _ _ _ _ _ _ _

set_option maxRecDepth 20000 in
set_option maxHeartbeats 1000000 in
theorem rwrong_any (kind client seq to' : Int) (t : ByteArray) (ht : t.size ≤ maxLen) (ao : Option Addr) (n cap : Nat) (hn : n ≤ maxLen) (w : World) :
    Calls Tryd.prog 33 #[.agg #[.int .i64 kind, .int .i64 client, .int .i64 seq, .string t, .slice ao n cap, .int .i64 to']] w fun e w' => e = .returned (.int .i64 ((wrongE kind t.size n to' : Nat) : Int)) ∧ Below w.heap.size w w' := by
  have ht' : t.size ≤ 9223372036854775807 := ht
  have hn' : n ≤ 9223372036854775807 := hn
  have hb : ∀ o, Below w.heap.size w (w.alloc o) := fun o => (Below.refl _ w).alloc (Nat.le_refl _) o
  have HB := hide hb
  clear ht hn hb
  by_cases h1 : kind < 0
  · rw [wrong_kind (Or.inl h1)]
    go_enter Tryd.func33, Tryd.ntmps33
    go_wp2
    go_ret
    exact ⟨rfl, unhide HB _⟩
  by_cases h2 : 4 < kind
  · rw [wrong_kind (Or.inr h2)]
    go_enter Tryd.func33, Tryd.ntmps33
    go_wp2
    go_ret
    exact ⟨rfl, unhide HB _⟩
  by_cases h3 : 16 < t.size
  · rw [wrong_long (by omega) (by omega) h3]
    go_enter Tryd.func33, Tryd.ntmps33
    go_wp2
    go_ret
    exact ⟨rfl, unhide HB _⟩
  by_cases h4 : 9 < n
  · rw [wrong_many (by omega) (by omega) (by omega) h4]
    go_enter Tryd.func33, Tryd.ntmps33
    go_wp2
    go_ret
    exact ⟨rfl, unhide HB _⟩
  by_cases h5 : to' < 0
  · rw [wrong_to (by omega) (by omega) (by omega) (by omega) (Or.inl h5)]
    go_enter Tryd.func33, Tryd.ntmps33
    go_wp2
    go_ret
    exact ⟨rfl, unhide HB _⟩
  by_cases h6 : 2 < to'
  · rw [wrong_to (by omega) (by omega) (by omega) (by omega) (Or.inr h6)]
    go_enter Tryd.func33, Tryd.ntmps33
    go_wp2
    go_ret
    exact ⟨rfl, unhide HB _⟩
  · rw [wrong_ok (by omega) (by omega) (by omega) (by omega) (by omega) (by omega)]
    go_enter Tryd.func33, Tryd.ntmps33
    go_wp2
    go_ret
    exact ⟨rfl, unhide HB _⟩
end Go.Proofs.YthjpdglbliigcaaDoor
