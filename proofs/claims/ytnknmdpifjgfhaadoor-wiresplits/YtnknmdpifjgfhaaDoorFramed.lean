/- What Split makes of a frame; contracts by a length. -/
import Derived.Test.YtnknmdpifjgfhaaDoorSmall
namespace Go.Proofs.YtnknmdpifjgfhaaDoor
open Go.RowKit

/-- Split at a frame alone. -/
theorem frameOf_frame {bs : List Nat} (hb : ∀ x ∈ bs, x < 256) (hl : bs.length ≤ 65536) (more : List Nat) : frameOf (frame bs ++ more) = (0, some bs) := by
  have l4 : ∀ n, (be4 n).length = 4 := fun n => rfl
  have e : frame bs ++ more = be4 bs.length ++ (be4 (Sum.crc bs) ++ (bs ++ more)) := by simp [frame]
  have t1 : (frame bs ++ more).take 4 = be4 bs.length := by rw [e, List.take_append_of_le_length (by rw [l4]; omega), List.take_of_length_le (by rw [l4]; omega)]
  have d1 : (frame bs ++ more).drop 4 = be4 (Sum.crc bs) ++ (bs ++ more) := by rw [e, List.drop_append_of_le_length (by rw [l4]; omega), List.drop_of_length_le (by rw [l4]; omega), List.nil_append]
  have t2 : ((frame bs ++ more).drop 4).take 4 = be4 (Sum.crc bs) := by rw [d1, List.take_append_of_le_length (by rw [l4]; omega), List.take_of_length_le (by rw [l4]; omega)]
  have d2 : (frame bs ++ more).drop 8 = bs ++ more := by
    rw [show (8 : Nat) = 4 + 4 from rfl, ← List.drop_drop, d1, List.drop_append_of_le_length (by rw [l4]; omega), List.drop_of_length_le (by rw [l4]; omega), List.nil_append]
  have j1 : joinTo 0 (be4 bs.length) = bs.length := join_be4 (by omega)
  have j2 : joinTo 0 (be4 (Sum.crc bs)) = Sum.crc bs := join_be4 (Sum.crc_lt hb)
  have len : (frame bs ++ more).length = 8 + bs.length + more.length := by rw [e]; simp [l4]; omega
  have x : ((frame bs ++ more).drop 8).take bs.length = bs := by rw [d2, List.take_append_of_le_length (Nat.le_refl _), List.take_of_length_le (Nat.le_refl _)]
  unfold frameOf
  rw [if_neg (by omega)]
  simp only [t1, t2, j1, j2, x]
  rw [if_neg (by omega), if_neg (by omega), if_neg (by simp)]
theorem frame_length (bs : List Nat) : (frame bs).length = 8 + bs.length := by simp [frame, be4]; omega
theorem frameOf_nil : frameOf [] = (0, none) := by unfold frameOf; rfl
theorem split_frame {bs : List Nat} (hb : ∀ x ∈ bs, x < 256) (hl : bs.length ≤ 65536) : splitOf ((frame bs).length + 1) (frame bs) = ([bs], 8 + bs.length, 0) := by
  have h := frameOf_frame hb hl []
  rw [List.append_nil] at h
  rw [splitOf_some h, List.drop_of_length_le (by rw [frame_length]; omega), splitOf_none frameOf_nil (by rw [frame_length]; omega)]
  rfl
theorem row_open {w : World} {base : Nat} {e : TypeId} {fv : Value} {vs : List Value} (h : w.ownsRow base e 1 fv vs.length vs) (hne : vs ≠ []) :
    ∃ g cap, fv = .slice (some ⟨g, 0, none⟩) vs.length cap ∧ ∀ i, i < vs.length → w.cell? ⟨g, i, none⟩ = vs[i]? := by
  rcases h.2 with ⟨_, hn⟩ | ⟨g, cap, cur, rfl, _⟩
  · exact absurd (List.eq_nil_of_length_eq_zero hn) hne
  · exact ⟨g, cap, rfl, fun i hi => h.cellAt i (by omega)⟩
theorem frame_len (a : Addr) (n cap : Nat) (bs : List Nat) (hn : bs.length = n) (w : World) (hb : Bytes w (some a) bs) (hl : n ≤ 65536) (hS : Start w) :
    Calls Tryd.prog 32 #[.slice (some a) n cap] w fun e w' => ∃ v', e = .returned (.tuple #[v', .int .i64 0]) ∧ Own w.heap.size w' v' (frame bs) ∧ Below w.heap.size w w' := by
  subst hn; exact frame_some a cap bs w hb hl hS.1 (by have := hS.2.2; omega)
theorem frame_long_len (ao : Option Addr) (n cap : Nat) (w : World) (h : 65536 < n) :
    Calls Tryd.prog 32 #[.slice ao n cap] w fun e w' => e = .returned (.tuple #[.slice none 0 0, .int .i64 5]) ∧ w' = w := by
  go_enter Tryd.func32, Tryd.ntmps32
  go_wp2
  go_ret2
  exact ⟨rfl, rfl⟩
theorem split_len (ao : Option Addr) (n cap : Nat) (bs : List Nat) (hn : bs.length = n) (w : World) (hb : Bytes w ao bs) (h1 : n ≤ cap) (h3 : n ≤ 1000000000) (hS : Start w) :
    Calls Tryd.prog 34 #[.slice ao n cap] w fun e w' => ∃ fv vs, e = .returned (.tuple #[fv, .int .i64 ((splitOf (bs.length + 1) bs).2.1 : Nat), .int .i64 ((splitOf (bs.length + 1) bs).2.2 : Nat)]) ∧
      w'.ownsRow w.heap.size 27 1 fv vs.length vs ∧ RowsOf w.heap.size w' vs (splitOf (bs.length + 1) bs).1 ∧ Below w.heap.size w w' := by
  subst hn; exact split_any ao cap bs w hb h1 h3 hS.1 hS.2.1 hS.2.2

end Go.Proofs.YtnknmdpifjgfhaaDoor
