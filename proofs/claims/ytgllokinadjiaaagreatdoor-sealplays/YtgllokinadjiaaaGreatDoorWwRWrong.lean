/- synodalref2.wrong: a contract. -/
import Derived.Test.YtgllokinadjiaaaGreatDoorWwBounds
namespace Go.Proofs.YtgllokinadjiaaaGreatDoor.Ww
open Go.RowKit

/-- the number that an entry is refused by. -/
def wrongE (kind : Int) (ts n : Nat) (to' : Int) : Nat := firstOf [0, refuse 0 kind, refuse 4 ts, refuse 5 n, refuse 1 to']
theorem wrong_kind {kind : Int} {ts n : Nat} {to' : Int} (h : kind < 0 ∨ 4 < kind) : wrongE kind ts n to' = 3 := by
  have e : refuse 0 kind = 3 := by unfold refuse; rw [if_pos (by show (kind < (0 : Int) ∨ (4 : Int) < kind); exact h)]; rfl
  simp [wrongE, firstOf, e]
theorem wrong_long {kind : Int} {ts n : Nat} {to' : Int} (h1 : 0 ≤ kind) (h2 : kind ≤ 4) (h : 16 < ts) : wrongE kind ts n to' = 5 := by
  have e : refuse 0 kind = 0 := by unfold refuse; rw [if_neg (by show ¬ (kind < (0 : Int) ∨ (4 : Int) < kind); omega)]
  have e4 : refuse 4 (ts : Int) = 5 := by unfold refuse; rw [if_pos (by show ((ts : Int) < (0 : Int) ∨ (16 : Int) < (ts : Int)); omega)]; rfl
  simp [wrongE, firstOf, e, e4]
theorem wrong_many {kind : Int} {ts n : Nat} {to' : Int} (h1 : 0 ≤ kind) (h2 : kind ≤ 4) (h3 : ts ≤ 16) (h : 9 < n) : wrongE kind ts n to' = 4 := by
  have e : refuse 0 kind = 0 := by unfold refuse; rw [if_neg (by show ¬ (kind < (0 : Int) ∨ (4 : Int) < kind); omega)]
  have e4 : refuse 4 (ts : Int) = 0 := by unfold refuse; rw [if_neg (by show ¬ ((ts : Int) < (0 : Int) ∨ (16 : Int) < (ts : Int)); omega)]
  have e5 : refuse 5 (n : Int) = 4 := by unfold refuse; rw [if_pos (by show ((n : Int) < (0 : Int) ∨ (9 : Int) < (n : Int)); omega)]; rfl
  simp [wrongE, firstOf, e, e4, e5]
theorem wrong_to {kind : Int} {ts n : Nat} {to' : Int} (h1 : 0 ≤ kind) (h2 : kind ≤ 4) (h3 : ts ≤ 16) (h4 : n ≤ 9) (h : to' < 0 ∨ 2 < to') : wrongE kind ts n to' = 3 := by
  have e : refuse 0 kind = 0 := by unfold refuse; rw [if_neg (by show ¬ (kind < (0 : Int) ∨ (4 : Int) < kind); omega)]
  have e4 : refuse 4 (ts : Int) = 0 := by unfold refuse; rw [if_neg (by show ¬ ((ts : Int) < (0 : Int) ∨ (16 : Int) < (ts : Int)); omega)]
  have e5 : refuse 5 (n : Int) = 0 := by unfold refuse; rw [if_neg (by show ¬ ((n : Int) < (0 : Int) ∨ (9 : Int) < (n : Int)); omega)]
  have e1 : refuse 1 to' = 3 := by unfold refuse; rw [if_pos (by show (to' < (0 : Int) ∨ (2 : Int) < to'); exact h)]; rfl
  simp [wrongE, firstOf, e, e4, e5, e1]
theorem wrong_ok {kind : Int} {ts n : Nat} {to' : Int} (h1 : 0 ≤ kind) (h2 : kind ≤ 4) (h3 : ts ≤ 16) (h4 : n ≤ 9) (h5 : 0 ≤ to') (h6 : to' ≤ 2) : wrongE kind ts n to' = 0 := by
  have e : refuse 0 kind = 0 := by unfold refuse; rw [if_neg (by show ¬ (kind < (0 : Int) ∨ (4 : Int) < kind); omega)]
  have e4 : refuse 4 (ts : Int) = 0 := by unfold refuse; rw [if_neg (by show ¬ ((ts : Int) < (0 : Int) ∨ (16 : Int) < (ts : Int)); omega)]
  have e5 : refuse 5 (n : Int) = 0 := by unfold refuse; rw [if_neg (by show ¬ ((n : Int) < (0 : Int) ∨ (9 : Int) < (n : Int)); omega)]
  have e1 : refuse 1 to' = 0 := by unfold refuse; rw [if_neg (by show ¬ (to' < (0 : Int) ∨ (2 : Int) < to'); omega)]
  simp [wrongE, firstOf, e, e4, e5, e1]
theorem wrong_put (kind client seq : Int) (t : ByteArray) (ys : List Int) (to' : Int) : (putEntry kind client seq t ys to' ([], 0)).2 = wrongE kind t.size ys.length to' := putEntry_err _ _ _ _ _ _ _

end Go.Proofs.YtgllokinadjiaaaGreatDoor.Ww
