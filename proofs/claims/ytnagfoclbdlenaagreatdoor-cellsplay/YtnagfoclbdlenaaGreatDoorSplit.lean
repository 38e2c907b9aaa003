/- Plain numbers: what Split makes of bytes. -/
import Derived.Test.YtnagfoclbdlenaaGreatDoorNum
namespace Go.Proofs.YtnagfoclbdlenaaGreatDoor
/-- the bytes of a frame. -/
def frame (bs : List Nat) : List Nat := be4 bs.length ++ be4 (Sum.crc bs) ++ bs
/-- what stands at the beginning of bytes: none (0), a flaw (its number), or a frame that is whole and what it holds. -/
def frameOf (l : List Nat) : Nat × Option (List Nat) :=
  if l.length < 4 then (0, none) else
  let n := joinTo 0 (l.take 4)
  if 65536 < n then (5, none) else
  if l.length < 8 + n then (0, none) else
  if joinTo 0 ((l.drop 4).take 4) ≠ Sum.crc ((l.drop 8).take n) then (11, none) else (0, some ((l.drop 8).take n))
/-- the frames of bytes, how many bytes they take, and what stands behind them. -/
def splitOf : Nat → List Nat → List (List Nat) × Nat × Nat
  | 0, _ => ([], 0, 0)
  | f + 1, l => match frameOf l with
    | (e, none) => ([], 0, e)
    | (_, some x) => let (xs, n, e) := splitOf f (l.drop (8 + x.length)); (x :: xs, 8 + x.length + n, e)
end Go.Proofs.YtnagfoclbdlenaaGreatDoor
