/- slices.Equal and synodalref2.SameInts at slices of numbers: contracts. What Split makes of a frame; contracts by a length. -/
import Derived.Test.YtjplhiflemmkfaaGreatDoorFrameAt
import Derived.BigQuiet
import Derived.Deep.QuietTactic
namespace Go.Proofs.YtjplhiflemmkfaaGreatDoor
open Go.RowKit

/-- a slice of numbers. -/
def IntsR (w : World) (ao : Option Addr) (ys : List Int) : Prop := ∀ i, i < ys.length → ∃ a, ao = some a ∧ w.cell? (a.add i) = some (.int .i64 (ys.getD i 0))
theorem IntsR.below {w w' : World} {ao : Option Addr} {ys : List Int} (h : IntsR w ao ys) (hb : Below w.heap.size w w') : IntsR w' ao ys := fun i hi => by
  obtain ⟨a, e, hc⟩ := h i hi
  exact ⟨a, e, by rw [hb.cell (blk_lt hc)]; exact hc⟩
theorem ext_getD {xs ys : List Int} (h : xs.length = ys.length) (hj : ∀ j, j < xs.length → xs.getD j 0 = ys.getD j 0) : xs = ys := by
  apply List.ext_getElem h
  intro i h1 h2
  have := hj i h1
  rw [List.getD_eq_getElem?_getD, List.getD_eq_getElem?_getD, List.getElem?_eq_getElem h1, List.getElem?_eq_getElem h2] at this
  simpa using this

set_option maxHeartbeats 1000000 in
theorem sameInts_any (a b : Option Addr) (n m ca cb : Nat) (xs ys : List Int) (hx : xs.length = n) (hy : ys.length = m) (hl : n ≤ 1000000000) (w : World) (ha : IntsR w a xs) (hb : IntsR w b ys) :
    Calls Tryz.prog 101 #[.slice a n ca, .slice b m cb] w fun e w' => e = .returned (.bool (decide (xs = ys))) ∧ Below w.heap.size w w' := by
  have HA := hide ha
  have HB := hide hb
  have HX := hide hx
  have HY := hide hy
  clear ha hb hx hy
  by_cases hnm : n = m
  · subst hnm
    obtain ⟨r, hr⟩ : ∃ r, decide (xs = ys) = r := ⟨_, rfl⟩
    rw [hr]
    have HR := hide hr
    clear hr
    go_enter Tryz.func101, Tryz.ntmps101
    go_wp2_with fail
    go_loopw [5] (fun i wr => ∃ k : Nat, k ≤ n ∧ i = .int .i64 k ∧ (∀ j, j < k → xs.getD j 0 = ys.getD j 0) ∧ Below w.heap.size w wr) (fun i _ => n - (intOf i).toNat)
    case atStart => exact ⟨0, Nat.zero_le _, rfl, fun j hj => by omega, Below.refl _ _⟩
    case round =>
      obtain ⟨k, hk, rfl, hall, hbel⟩ := hrel
      have HALL := hide hall
      have BEL := hide hbel
      clear hall hbel
      by_cases hlt : k < n
      · obtain ⟨a1, rfl, h1⟩ := (unhide HA) k (by rw [unhide HX]; exact hlt)
        obtain ⟨b1, rfl, h2⟩ := (unhide HB) k (by rw [unhide HY]; exact hlt)
        have c1 : wr.cell? (a1.add k) = some (.int .i64 (xs.getD k 0)) := by rw [(unhide BEL).cell (blk_lt h1)]; exact h1
        have c2 : wr.cell? (b1.add k) = some (.int .i64 (ys.getD k 0)) := by rw [(unhide BEL).cell (blk_lt h2)]; exact h2
        have q : (k : Int) < n := by omega
        clear h1 h2
        by_cases he : xs.getD k 0 = ys.getD k 0
        · have HE := hide he
          obtain ⟨y, hyk⟩ : ∃ y, ys.getD k 0 = y := ⟨_, rfl⟩
          rw [he, hyk] at c1
          rw [hyk] at c2
          have hne : (y != y) = false := by simp
          clear he hyk
          go_wp2_with fail
          go_quiet (fail)
          go_wp2
          go_roundw
          case rel =>
            refine ⟨k + 1, by omega, by go_num, fun j hj => ?_, (unhide BEL).trans ((drewN_below _ _).mono (unhide BEL).size)⟩
            by_cases hjk : j < k
            · exact unhide HALL j hjk
            · obtain rfl : j = k := by omega
              exact unhide HE
          case measure => simp [intOf]; omega
        · have hne : (xs.getD k 0 != ys.getD k 0) = true := by rw [bne_iff_ne]; exact he
          have hrf : r = false := by
            rw [← unhide HR]; exact decide_eq_false (fun e => he (by rw [e]))
          subst hrf
          clear he
          generalize xs.getD k 0 = x at *
          generalize ys.getD k 0 = y at *
          go_wp2_with fail
          go_quiet (fail)
          go_wp2
          go_ret
          exact ⟨rfl, (unhide BEL).trans ((drewN_below _ _).mono (unhide BEL).size)⟩
      · have hrt : r = true := by
          rw [← unhide HR]; exact decide_eq_true (ext_getD (by rw [unhide HX, unhide HY]) (fun j hj => unhide HALL j (by rw [unhide HX] at hj; omega)))
        subst hrt
        go_wp2
        go_ret
        exact ⟨rfl, unhide BEL⟩
  · have hrf : decide (xs = ys) = false := decide_eq_false (fun e => hnm (by rw [← unhide HX, ← unhide HY, e]))
    rw [hrf]
    have hne : ((n : Int) != (m : Int)) = true := by rw [bne_iff_ne]; omega
    clear hrf
    go_enter Tryz.func101, Tryz.ntmps101
    go_wp2
    go_ret
    exact ⟨rfl, Below.refl _ _⟩

set_option maxHeartbeats 1000000 in
theorem equal_any (a b : Option Addr) (n m ca cb : Nat) (xs ys : List Int) (hx : xs.length = n) (hy : ys.length = m) (hl : n ≤ 1000000000) (w : World) (ha : IntsR w a xs) (hb : IntsR w b ys) :
    Calls Tryz.prog 141 #[.slice a n ca, .slice b m cb] w fun e w' => e = .returned (.bool (decide (xs = ys))) ∧ Below w.heap.size w w' := by
  have HA := hide ha
  have HB := hide hb
  have HX := hide hx
  have HY := hide hy
  clear ha hb hx hy
  by_cases hnm : n = m
  · subst hnm
    obtain ⟨r, hr⟩ : ∃ r, decide (xs = ys) = r := ⟨_, rfl⟩
    rw [hr]
    have HR := hide hr
    clear hr
    go_enter Tryz.func141, Tryz.ntmps141
    go_wp2_with fail
    go_loopw [13, 5] (fun i _ wr => ∃ k : Nat, k ≤ n ∧ i = .int .i64 k ∧ (∀ j, j < k → xs.getD j 0 = ys.getD j 0) ∧ Below w.heap.size w wr) (fun i _ _ => n - (intOf i).toNat)
    case atStart => exact ⟨0, Nat.zero_le _, rfl, fun j hj => by omega, Below.refl _ _⟩
    case round =>
      obtain ⟨k, hk, rfl, hall, hbel⟩ := hrel
      have HALL := hide hall
      have BEL := hide hbel
      clear hall hbel
      by_cases hlt : k < n
      · obtain ⟨a1, rfl, h1⟩ := (unhide HA) k (by rw [unhide HX]; exact hlt)
        obtain ⟨b1, rfl, h2⟩ := (unhide HB) k (by rw [unhide HY]; exact hlt)
        have c1 : wr.cell? (a1.add k) = some (.int .i64 (xs.getD k 0)) := by rw [(unhide BEL).cell (blk_lt h1)]; exact h1
        have c2 : wr.cell? (b1.add k) = some (.int .i64 (ys.getD k 0)) := by rw [(unhide BEL).cell (blk_lt h2)]; exact h2
        have q : (k : Int) < n := by omega
        clear h1 h2
        by_cases he : xs.getD k 0 = ys.getD k 0
        · have HE := hide he
          obtain ⟨y, hyk⟩ : ∃ y, ys.getD k 0 = y := ⟨_, rfl⟩
          rw [he, hyk] at c1
          rw [hyk] at c2
          have hne : (y != y) = false := by simp
          clear he hyk
          go_wp2_with fail
          go_quiet (fail)
          go_wp2
          go_roundw
          case rel =>
            refine ⟨k + 1, by omega, by go_num, fun j hj => ?_, (unhide BEL).trans ((drewN_below _ _).mono (unhide BEL).size)⟩
            by_cases hjk : j < k
            · exact unhide HALL j hjk
            · obtain rfl : j = k := by omega
              exact unhide HE
          case measure => simp [intOf]; omega
        · have hne : (xs.getD k 0 != ys.getD k 0) = true := by rw [bne_iff_ne]; exact he
          have hrf : r = false := by
            rw [← unhide HR]; exact decide_eq_false (fun e => he (by rw [e]))
          subst hrf
          clear he
          generalize xs.getD k 0 = x at *
          generalize ys.getD k 0 = y at *
          go_wp2_with fail
          go_quiet (fail)
          go_wp2
          go_ret
          exact ⟨rfl, (unhide BEL).trans ((drewN_below _ _).mono (unhide BEL).size)⟩
      · have hrt : r = true := by
          rw [← unhide HR]; exact decide_eq_true (ext_getD (by rw [unhide HX, unhide HY]) (fun j hj => unhide HALL j (by rw [unhide HX] at hj; omega)))
        subst hrt
        go_wp2
        go_ret
        exact ⟨rfl, unhide BEL⟩
  · have hrf : decide (xs = ys) = false := decide_eq_false (fun e => hnm (by rw [← unhide HX, ← unhide HY, e]))
    rw [hrf]
    have hne : ((n : Int) != (m : Int)) = true := by rw [bne_iff_ne]; omega
    clear hrf
    go_enter Tryz.func141, Tryz.ntmps141
    go_wp2
    go_ret
    exact ⟨rfl, Below.refl _ _⟩
end Go.Proofs.YtjplhiflemmkfaaGreatDoor
namespace Go.Proofs.YtjplhiflemmkfaaGreatDoor
open Go.RowKit

/-- Split at a frame alone. -/
theorem frameOf_frame {bs : List Nat} (hb : ∀ x ∈ bs, x < 256) (hl : bs.length ≤ 65536) (more : List Nat) : frameOf (frame bs ++ more) = (0, some bs) := by
  have l4 : ∀ n, (be4 n).length = 4 := fun n => rfl
  have e : frame bs ++ more = be4 bs.length ++ (be4 (Sum.crc bs) ++ (bs ++ more)) := by simp [frame]
  have t1 : (frame bs ++ more).take 4 = be4 bs.length := by rw [e, List.take_append_of_le_length (by rw [l4]; omega), List.take_of_length_le (by rw [l4]; omega)]
  have d1 : (frame bs ++ more).drop 4 = be4 (Sum.crc bs) ++ (bs ++ more) := by rw [e, List.drop_append_of_le_length (by rw [l4]; omega), List.drop_of_length_le (by rw [l4]; omega), List.nil_append]
  have t2 : ((frame bs ++ more).drop 4).take 4 = be4 (Sum.crc bs) := by rw [d1, List.take_append_of_le_length (by rw [l4]; omega), List.take_of_length_le (by rw [l4]; omega)]
  have d2 : (frame bs ++ more).drop 8 = bs ++ more := by
    rw [show (8 : Nat) = 4 + 4 from rfl, ← List.drop_drop, d1, List.drop_append_of_le_length (by rw [l4]; omega), List.drop_of_length_le (by rw [l4]; omega), List.nil_append]
  have j1 : joinTo 0 (be4 bs.length) = bs.length := join_be4 (by omega)
  have j2 : joinTo 0 (be4 (Sum.crc bs)) = Sum.crc bs := join_be4 (Sum.crc_lt hb)
  have len : (frame bs ++ more).length = 8 + bs.length + more.length := by rw [e]; simp [l4]; omega
  have x : ((frame bs ++ more).drop 8).take bs.length = bs := by rw [d2, List.take_append_of_le_length (Nat.le_refl _), List.take_of_length_le (Nat.le_refl _)]
  unfold frameOf
  rw [if_neg (by omega)]
  simp only [t1, t2, j1, j2, x]
  rw [if_neg (by omega), if_neg (by omega), if_neg (by simp)]
theorem frame_length (bs : List Nat) : (frame bs).length = 8 + bs.length := by simp [frame, be4]; omega
theorem frameOf_nil : frameOf [] = (0, none) := by unfold frameOf; rfl
theorem split_frame {bs : List Nat} (hb : ∀ x ∈ bs, x < 256) (hl : bs.length ≤ 65536) : splitOf ((frame bs).length + 1) (frame bs) = ([bs], 8 + bs.length, 0) := by
  have h := frameOf_frame hb hl []
  rw [List.append_nil] at h
  rw [splitOf_some h, List.drop_of_length_le (by rw [frame_length]; omega), splitOf_none frameOf_nil (by rw [frame_length]; omega)]
  rfl
theorem row_open {w : World} {base : Nat} {e : TypeId} {fv : Value} {vs : List Value} (h : w.ownsRow base e 1 fv vs.length vs) (hne : vs ≠ []) :
    ∃ g cap, fv = .slice (some ⟨g, 0, none⟩) vs.length cap ∧ ∀ i, i < vs.length → w.cell? ⟨g, i, none⟩ = vs[i]? := by
  rcases h.2 with ⟨_, hn⟩ | ⟨g, cap, cur, rfl, _⟩
  · exact absurd (List.eq_nil_of_length_eq_zero hn) hne
  · exact ⟨g, cap, rfl, fun i hi => h.cellAt i (by omega)⟩
theorem frame_len (a : Addr) (n cap : Nat) (bs : List Nat) (hn : bs.length = n) (w : World) (hb : Bytes w (some a) bs) (hl : n ≤ 65536) (hS : Start w) :
    Calls Tryz.prog 151 #[.slice (some a) n cap] w fun e w' => ∃ v', e = .returned (.tuple #[v', .int .i64 0]) ∧ Own w.heap.size w' v' (frame bs) ∧ Below w.heap.size w w' := by
  subst hn; exact frame_some a cap bs w hb hl hS.1 (by have := hS.2.2; omega)
theorem frame_long_len (ao : Option Addr) (n cap : Nat) (w : World) (h : 65536 < n) :
    Calls Tryz.prog 151 #[.slice ao n cap] w fun e w' => e = .returned (.tuple #[.slice none 0 0, .int .i64 5]) ∧ w' = w := by
  go_enter Tryz.func151, Tryz.ntmps151
  go_wp2
  go_ret2
  exact ⟨rfl, rfl⟩
theorem split_len (ao : Option Addr) (n cap : Nat) (bs : List Nat) (hn : bs.length = n) (w : World) (hb : Bytes w ao bs) (h1 : n ≤ cap) (h3 : n ≤ 1000000000) (hS : Start w) :
    Calls Tryz.prog 150 #[.slice ao n cap] w fun e w' => ∃ fv vs, e = .returned (.tuple #[fv, .int .i64 ((splitOf (bs.length + 1) bs).2.1 : Nat), .int .i64 ((splitOf (bs.length + 1) bs).2.2 : Nat)]) ∧
      w'.ownsRow w.heap.size 55 1 fv vs.length vs ∧ RowsOf w.heap.size w' vs (splitOf (bs.length + 1) bs).1 ∧ Below w.heap.size w w' := by
  subst hn; exact split_any ao cap bs w hb h1 h3 hS.1 hS.2.1 hS.2.2

end Go.Proofs.YtjplhiflemmkfaaGreatDoor
