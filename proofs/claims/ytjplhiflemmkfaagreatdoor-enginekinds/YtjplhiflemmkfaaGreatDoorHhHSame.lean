/- synodalref2.SameInts, SameEntry, SameEntries: contracts. slices.Equal and synodalref2.SameInts at slices of numbers: contracts. conf.Check, Members, In, Same: contracts. conf.twin: a contract. -/
import Derived.Test.YtjplhiflemmkfaaGreatDoorHhNBase
import Derived.Deep.QuietTactic
import Derived.Test.YtjplhiflemmkfaaGreatDoorHhKPure
import Derived.Laws.CopyOwn
namespace Go.Proofs.YtjplhiflemmkfaaGreatDoor.Hh
open Go.RowKit Go.Maps

set_option maxHeartbeats 1000000 in
theorem sameInts_any (a b : Option Addr) (n m ca cb : Nat) (xs ys : List Int) (hx : xs.length = n) (hy : ys.length = m) (hl : n ≤ 1000000000) (w : World) (ha : IntsR w a xs) (hb : IntsR w b ys) :
    Calls Tryz.prog 101 #[.slice a n ca, .slice b m cb] w fun e w' => e = .returned (.bool (decide (xs = ys))) ∧ Below w.heap.size w w' := by
  have HA := hide ha
  have HB := hide hb
  have HX := hide hx
  have HY := hide hy
  clear ha hb hx hy
  by_cases hnm : n = m
  · subst hnm
    obtain ⟨r, hr⟩ : ∃ r, decide (xs = ys) = r := ⟨_, rfl⟩
    rw [hr]
    have HR := hide hr
    clear hr
    go_enter Tryz.func101, Tryz.ntmps101
    go_wp2_with fail
    go_loopw [5] (fun i wr => ∃ k : Nat, k ≤ n ∧ i = .int .i64 k ∧ (∀ j, j < k → xs.getD j 0 = ys.getD j 0) ∧ Below w.heap.size w wr) (fun i _ => n - (intOf i).toNat)
    case atStart => exact ⟨0, Nat.zero_le _, rfl, fun j hj => by omega, Below.refl _ _⟩
    case round =>
      obtain ⟨k, hk, rfl, hall, hbel⟩ := hrel
      have HALL := hide hall
      have BEL := hide hbel
      clear hall hbel
      by_cases hlt : k < n
      · obtain ⟨a1, rfl, h1⟩ := (unhide HA) k (by rw [unhide HX]; exact hlt)
        obtain ⟨b1, rfl, h2⟩ := (unhide HB) k (by rw [unhide HY]; exact hlt)
        have c1 : wr.cell? (a1.add k) = some (.int .i64 (xs.getD k 0)) := by rw [(unhide BEL).cell (blk_lt h1)]; exact h1
        have c2 : wr.cell? (b1.add k) = some (.int .i64 (ys.getD k 0)) := by rw [(unhide BEL).cell (blk_lt h2)]; exact h2
        have q : (k : Int) < n := by omega
        clear h1 h2
        by_cases he : xs.getD k 0 = ys.getD k 0
        · have HE := hide he
          obtain ⟨y, hyk⟩ : ∃ y, ys.getD k 0 = y := ⟨_, rfl⟩
          rw [he, hyk] at c1
          rw [hyk] at c2
          have hne : (y != y) = false := by simp
          clear he hyk
          go_wp2_with fail
          go_quiet (fail)
          go_wp2
          go_roundw
          case rel =>
            refine ⟨k + 1, by omega, by go_num, fun j hj => ?_, (unhide BEL).trans ((drewN_below _ _).mono (unhide BEL).size)⟩
            by_cases hjk : j < k
            · exact unhide HALL j hjk
            · obtain rfl : j = k := by omega
              exact unhide HE
          case measure => simp [intOf]; omega
        · have hne : (xs.getD k 0 != ys.getD k 0) = true := by rw [bne_iff_ne]; exact he
          have hrf : r = false := by
            rw [← unhide HR]; exact decide_eq_false (fun e => he (by rw [e]))
          subst hrf
          clear he
          generalize xs.getD k 0 = x at *
          generalize ys.getD k 0 = y at *
          go_wp2_with fail
          go_quiet (fail)
          go_wp2
          go_ret
          exact ⟨rfl, (unhide BEL).trans ((drewN_below _ _).mono (unhide BEL).size)⟩
      · have hrt : r = true := by
          rw [← unhide HR]; exact decide_eq_true (ext_getD (by rw [unhide HX, unhide HY]) (fun j hj => unhide HALL j (by rw [unhide HX] at hj; omega)))
        subst hrt
        go_wp2
        go_ret
        exact ⟨rfl, unhide BEL⟩
  · have hrf : decide (xs = ys) = false := decide_eq_false (fun e => hnm (by rw [← unhide HX, ← unhide HY, e]))
    rw [hrf]
    have hne : ((n : Int) != (m : Int)) = true := by rw [bne_iff_ne]; omega
    clear hrf
    go_enter Tryz.func101, Tryz.ntmps101
    go_wp2
    go_ret
    exact ⟨rfl, Below.refl _ _⟩

set_option maxRecDepth 20000 in
set_option maxHeartbeats 2000000 in
theorem rsameEntry_any (k1 c1 q1 o1 k2 c2 q2 o2 : Int) (t1 t2 : ByteArray) (a b : Option Addr) (n m ca cb : Nat) (xs ys : List Int) (hx : xs.length = n) (hy : ys.length = m) (hl : n ≤ 1000000000) (w : World) (ha : IntsR w a xs) (hb : IntsR w b ys) :
    Calls Tryz.prog 169 #[.agg #[.int .i64 k1, .int .i64 c1, .int .i64 q1, .string t1, .slice a n ca, .int .i64 o1], .agg #[.int .i64 k2, .int .i64 c2, .int .i64 q2, .string t2, .slice b m cb, .int .i64 o2]] w fun e w' => e = .returned (.bool (decide (k1 = k2 ∧ c1 = c2 ∧ q1 = q2 ∧ t1 = t2 ∧ xs = ys ∧ o1 = o2))) ∧ Below w.heap.size w w' := by
  obtain ⟨W, hW⟩ : ∃ W, (w.alloc (.cells #[.int .i64 k1, .int .i64 c1, .int .i64 q1, .string t1, .slice a n ca, .int .i64 o1] 43)).alloc (.cells #[.int .i64 k2, .int .i64 c2, .int .i64 q2, .string t2, .slice b m cb, .int .i64 o2] 43) = W := ⟨_, rfl⟩
  have bW : Below w.heap.size w W := by rw [← hW]; exact ((Below.refl _ w).alloc (Nat.le_refl _) _).alloc (by simp) _
  have C := hide (sameInts_any a b n m ca cb xs ys hx hy hl W (ha.below bW) (hb.below bW))
  have h1 : W.heap[w.heap.size]? = some (.cells #[.int .i64 k1, .int .i64 c1, .int .i64 q1, .string t1, .slice a n ca, .int .i64 o1] 43 (0, 0)) := by rw [← hW]; exact (Below.heap_alloc _ _ _ (by simp)).trans (heap_alloc_new _ _)
  have h2 : W.heap[w.heap.size + 1]? = some (.cells #[.int .i64 k2, .int .i64 c2, .int .i64 q2, .string t2, .slice b m cb, .int .i64 o2] 43 (0, 0)) := by
    rw [← hW]
    have h := heap_alloc_new (w.alloc (.cells #[.int .i64 k1, .int .i64 c1, .int .i64 q1, .string t1, .slice a n ca, .int .i64 o1] 43)) (.cells #[.int .i64 k2, .int .i64 c2, .int .i64 q2, .string t2, .slice b m cb, .int .i64 o2] 43)
    simpa using h
  have HW := hide hW
  have BW := hide bW
  have H1 := hide h1
  have H2 := hide h2
  clear hW bW ha hb h1 h2 hx hy hl
  by_cases hk : k1 = k2
  · subst hk
    by_cases hc : c1 = c2
    · subst hc
      by_cases hq : q1 = q2
      · subst hq
        by_cases ht : t1 = t2
        · subst ht
          by_cases ho : o1 = o2
          · subst ho
            by_cases hm : xs = ys
            · rw [decide_eq_true hm] at C
              rw [decide_eq_true (by simp [hm] : _)]
              have a0 : W.cell? ⟨w.heap.size, 0, none⟩ = some (.int .i64 k1) := (cell_of_block (unhide H1)).trans rfl
              have a1 : W.cell? ⟨w.heap.size, 1, none⟩ = some (.int .i64 c1) := (cell_of_block (unhide H1)).trans rfl
              have a2 : W.cell? ⟨w.heap.size, 2, none⟩ = some (.int .i64 q1) := (cell_of_block (unhide H1)).trans rfl
              have a3 : W.cell? ⟨w.heap.size, 3, none⟩ = some (.string t1) := (cell_of_block (unhide H1)).trans rfl
              have a4 : W.cell? ⟨w.heap.size, 4, none⟩ = some (.slice a n ca) := (cell_of_block (unhide H1)).trans rfl
              have a5 : W.cell? ⟨w.heap.size, 5, none⟩ = some (.int .i64 o1) := (cell_of_block (unhide H1)).trans rfl
              have b0 : W.cell? ⟨w.heap.size + 1, 0, none⟩ = some (.int .i64 k1) := (cell_of_block (unhide H2)).trans rfl
              have b1 : W.cell? ⟨w.heap.size + 1, 1, none⟩ = some (.int .i64 c1) := (cell_of_block (unhide H2)).trans rfl
              have b2 : W.cell? ⟨w.heap.size + 1, 2, none⟩ = some (.int .i64 q1) := (cell_of_block (unhide H2)).trans rfl
              have b3 : W.cell? ⟨w.heap.size + 1, 3, none⟩ = some (.string t1) := (cell_of_block (unhide H2)).trans rfl
              have b4 : W.cell? ⟨w.heap.size + 1, 4, none⟩ = some (.slice b m cb) := (cell_of_block (unhide H2)).trans rfl
              have b5 : W.cell? ⟨w.heap.size + 1, 5, none⟩ = some (.int .i64 o1) := (cell_of_block (unhide H2)).trans rfl
              go_enter Tryz.func169, Tryz.ntmps169
              go_wp2_with fail
              rw [unhide HW]
              refine (unhide C).mono ?_
              rintro e w1 ⟨rfl, b1⟩
              have B1 := hide ((unhide BW).trans (b1.mono (unhide BW).size))
              have a5' : w1.cell? ⟨w.heap.size, 5, none⟩ = some (.int .i64 o1) := by rw [b1.cell (blk_lt a5)]; exact a5
              have b5' : w1.cell? ⟨w.heap.size + 1, 5, none⟩ = some (.int .i64 o1) := by rw [b1.cell (blk_lt b5)]; exact b5
              clear b1
              go_wp2
              go_ret
              exact ⟨rfl, unhide B1⟩
            · rw [decide_eq_false (fun e => hm (by simp_all))]
              rw [decide_eq_false hm] at C
              have a0 : W.cell? ⟨w.heap.size, 0, none⟩ = some (.int .i64 k1) := (cell_of_block (unhide H1)).trans rfl
              have a1 : W.cell? ⟨w.heap.size, 1, none⟩ = some (.int .i64 c1) := (cell_of_block (unhide H1)).trans rfl
              have a2 : W.cell? ⟨w.heap.size, 2, none⟩ = some (.int .i64 q1) := (cell_of_block (unhide H1)).trans rfl
              have a3 : W.cell? ⟨w.heap.size, 3, none⟩ = some (.string t1) := (cell_of_block (unhide H1)).trans rfl
              have a4 : W.cell? ⟨w.heap.size, 4, none⟩ = some (.slice a n ca) := (cell_of_block (unhide H1)).trans rfl
              have a5 : W.cell? ⟨w.heap.size, 5, none⟩ = some (.int .i64 o1) := (cell_of_block (unhide H1)).trans rfl
              have b0 : W.cell? ⟨w.heap.size + 1, 0, none⟩ = some (.int .i64 k1) := (cell_of_block (unhide H2)).trans rfl
              have b1 : W.cell? ⟨w.heap.size + 1, 1, none⟩ = some (.int .i64 c1) := (cell_of_block (unhide H2)).trans rfl
              have b2 : W.cell? ⟨w.heap.size + 1, 2, none⟩ = some (.int .i64 q1) := (cell_of_block (unhide H2)).trans rfl
              have b3 : W.cell? ⟨w.heap.size + 1, 3, none⟩ = some (.string t1) := (cell_of_block (unhide H2)).trans rfl
              have b4 : W.cell? ⟨w.heap.size + 1, 4, none⟩ = some (.slice b m cb) := (cell_of_block (unhide H2)).trans rfl
              have b5 : W.cell? ⟨w.heap.size + 1, 5, none⟩ = some (.int .i64 o1) := (cell_of_block (unhide H2)).trans rfl
              go_enter Tryz.func169, Tryz.ntmps169
              go_wp2_with fail
              rw [unhide HW]
              refine (unhide C).mono ?_
              rintro e w1 ⟨rfl, b1⟩
              have B1 := hide ((unhide BW).trans (b1.mono (unhide BW).size))
              have a5' : w1.cell? ⟨w.heap.size, 5, none⟩ = some (.int .i64 o1) := by rw [b1.cell (blk_lt a5)]; exact a5
              have b5' : w1.cell? ⟨w.heap.size + 1, 5, none⟩ = some (.int .i64 o1) := by rw [b1.cell (blk_lt b5)]; exact b5
              clear b1
              go_wp2
              go_ret
              exact ⟨rfl, unhide B1⟩
          · rw [decide_eq_false (fun e => ho (by simp_all))]
            have go : (o1 == o2) = false := by rw [beq_eq_false_iff_ne]; exact ho
            have a0 : W.cell? ⟨w.heap.size, 0, none⟩ = some (.int .i64 k1) := (cell_of_block (unhide H1)).trans rfl
            have a1 : W.cell? ⟨w.heap.size, 1, none⟩ = some (.int .i64 c1) := (cell_of_block (unhide H1)).trans rfl
            have a2 : W.cell? ⟨w.heap.size, 2, none⟩ = some (.int .i64 q1) := (cell_of_block (unhide H1)).trans rfl
            have a3 : W.cell? ⟨w.heap.size, 3, none⟩ = some (.string t1) := (cell_of_block (unhide H1)).trans rfl
            have a4 : W.cell? ⟨w.heap.size, 4, none⟩ = some (.slice a n ca) := (cell_of_block (unhide H1)).trans rfl
            have a5 : W.cell? ⟨w.heap.size, 5, none⟩ = some (.int .i64 o1) := (cell_of_block (unhide H1)).trans rfl
            have b0 : W.cell? ⟨w.heap.size + 1, 0, none⟩ = some (.int .i64 k1) := (cell_of_block (unhide H2)).trans rfl
            have b1 : W.cell? ⟨w.heap.size + 1, 1, none⟩ = some (.int .i64 c1) := (cell_of_block (unhide H2)).trans rfl
            have b2 : W.cell? ⟨w.heap.size + 1, 2, none⟩ = some (.int .i64 q1) := (cell_of_block (unhide H2)).trans rfl
            have b3 : W.cell? ⟨w.heap.size + 1, 3, none⟩ = some (.string t1) := (cell_of_block (unhide H2)).trans rfl
            have b4 : W.cell? ⟨w.heap.size + 1, 4, none⟩ = some (.slice b m cb) := (cell_of_block (unhide H2)).trans rfl
            have b5 : W.cell? ⟨w.heap.size + 1, 5, none⟩ = some (.int .i64 o2) := (cell_of_block (unhide H2)).trans rfl
            go_enter Tryz.func169, Tryz.ntmps169
            go_wp2
            rw [unhide HW]
            go_ret
            exact ⟨rfl, unhide BW⟩
        · rw [decide_eq_false (fun e => ht (by simp_all))]
          have gt : (t1.toList == t2.toList) = false := by rw [beq_eq_false_iff_ne]; intro e; rw [ByteArray.toList_eq, ByteArray.toList_eq] at e; exact ht (ByteArray.ext (Array.ext' e))
          have a0 : W.cell? ⟨w.heap.size, 0, none⟩ = some (.int .i64 k1) := (cell_of_block (unhide H1)).trans rfl
          have a1 : W.cell? ⟨w.heap.size, 1, none⟩ = some (.int .i64 c1) := (cell_of_block (unhide H1)).trans rfl
          have a2 : W.cell? ⟨w.heap.size, 2, none⟩ = some (.int .i64 q1) := (cell_of_block (unhide H1)).trans rfl
          have a3 : W.cell? ⟨w.heap.size, 3, none⟩ = some (.string t1) := (cell_of_block (unhide H1)).trans rfl
          have a4 : W.cell? ⟨w.heap.size, 4, none⟩ = some (.slice a n ca) := (cell_of_block (unhide H1)).trans rfl
          have a5 : W.cell? ⟨w.heap.size, 5, none⟩ = some (.int .i64 o1) := (cell_of_block (unhide H1)).trans rfl
          have b0 : W.cell? ⟨w.heap.size + 1, 0, none⟩ = some (.int .i64 k1) := (cell_of_block (unhide H2)).trans rfl
          have b1 : W.cell? ⟨w.heap.size + 1, 1, none⟩ = some (.int .i64 c1) := (cell_of_block (unhide H2)).trans rfl
          have b2 : W.cell? ⟨w.heap.size + 1, 2, none⟩ = some (.int .i64 q1) := (cell_of_block (unhide H2)).trans rfl
          have b3 : W.cell? ⟨w.heap.size + 1, 3, none⟩ = some (.string t2) := (cell_of_block (unhide H2)).trans rfl
          have b4 : W.cell? ⟨w.heap.size + 1, 4, none⟩ = some (.slice b m cb) := (cell_of_block (unhide H2)).trans rfl
          have b5 : W.cell? ⟨w.heap.size + 1, 5, none⟩ = some (.int .i64 o2) := (cell_of_block (unhide H2)).trans rfl
          go_enter Tryz.func169, Tryz.ntmps169
          go_wp2
          rw [unhide HW]
          go_ret
          exact ⟨rfl, unhide BW⟩
      · rw [decide_eq_false (fun e => hq (by simp_all))]
        have gq : (q1 == q2) = false := by rw [beq_eq_false_iff_ne]; exact hq
        have a0 : W.cell? ⟨w.heap.size, 0, none⟩ = some (.int .i64 k1) := (cell_of_block (unhide H1)).trans rfl
        have a1 : W.cell? ⟨w.heap.size, 1, none⟩ = some (.int .i64 c1) := (cell_of_block (unhide H1)).trans rfl
        have a2 : W.cell? ⟨w.heap.size, 2, none⟩ = some (.int .i64 q1) := (cell_of_block (unhide H1)).trans rfl
        have a3 : W.cell? ⟨w.heap.size, 3, none⟩ = some (.string t1) := (cell_of_block (unhide H1)).trans rfl
        have a4 : W.cell? ⟨w.heap.size, 4, none⟩ = some (.slice a n ca) := (cell_of_block (unhide H1)).trans rfl
        have a5 : W.cell? ⟨w.heap.size, 5, none⟩ = some (.int .i64 o1) := (cell_of_block (unhide H1)).trans rfl
        have b0 : W.cell? ⟨w.heap.size + 1, 0, none⟩ = some (.int .i64 k1) := (cell_of_block (unhide H2)).trans rfl
        have b1 : W.cell? ⟨w.heap.size + 1, 1, none⟩ = some (.int .i64 c1) := (cell_of_block (unhide H2)).trans rfl
        have b2 : W.cell? ⟨w.heap.size + 1, 2, none⟩ = some (.int .i64 q2) := (cell_of_block (unhide H2)).trans rfl
        have b3 : W.cell? ⟨w.heap.size + 1, 3, none⟩ = some (.string t2) := (cell_of_block (unhide H2)).trans rfl
        have b4 : W.cell? ⟨w.heap.size + 1, 4, none⟩ = some (.slice b m cb) := (cell_of_block (unhide H2)).trans rfl
        have b5 : W.cell? ⟨w.heap.size + 1, 5, none⟩ = some (.int .i64 o2) := (cell_of_block (unhide H2)).trans rfl
        go_enter Tryz.func169, Tryz.ntmps169
        go_wp2
        rw [unhide HW]
        go_ret
        exact ⟨rfl, unhide BW⟩
    · rw [decide_eq_false (fun e => hc (by simp_all))]
      have gc : (c1 == c2) = false := by rw [beq_eq_false_iff_ne]; exact hc
      have a0 : W.cell? ⟨w.heap.size, 0, none⟩ = some (.int .i64 k1) := (cell_of_block (unhide H1)).trans rfl
      have a1 : W.cell? ⟨w.heap.size, 1, none⟩ = some (.int .i64 c1) := (cell_of_block (unhide H1)).trans rfl
      have a2 : W.cell? ⟨w.heap.size, 2, none⟩ = some (.int .i64 q1) := (cell_of_block (unhide H1)).trans rfl
      have a3 : W.cell? ⟨w.heap.size, 3, none⟩ = some (.string t1) := (cell_of_block (unhide H1)).trans rfl
      have a4 : W.cell? ⟨w.heap.size, 4, none⟩ = some (.slice a n ca) := (cell_of_block (unhide H1)).trans rfl
      have a5 : W.cell? ⟨w.heap.size, 5, none⟩ = some (.int .i64 o1) := (cell_of_block (unhide H1)).trans rfl
      have b0 : W.cell? ⟨w.heap.size + 1, 0, none⟩ = some (.int .i64 k1) := (cell_of_block (unhide H2)).trans rfl
      have b1 : W.cell? ⟨w.heap.size + 1, 1, none⟩ = some (.int .i64 c2) := (cell_of_block (unhide H2)).trans rfl
      have b2 : W.cell? ⟨w.heap.size + 1, 2, none⟩ = some (.int .i64 q2) := (cell_of_block (unhide H2)).trans rfl
      have b3 : W.cell? ⟨w.heap.size + 1, 3, none⟩ = some (.string t2) := (cell_of_block (unhide H2)).trans rfl
      have b4 : W.cell? ⟨w.heap.size + 1, 4, none⟩ = some (.slice b m cb) := (cell_of_block (unhide H2)).trans rfl
      have b5 : W.cell? ⟨w.heap.size + 1, 5, none⟩ = some (.int .i64 o2) := (cell_of_block (unhide H2)).trans rfl
      go_enter Tryz.func169, Tryz.ntmps169
      go_wp2
      rw [unhide HW]
      go_ret
      exact ⟨rfl, unhide BW⟩
  · rw [decide_eq_false (fun e => hk (by simp_all))]
    have gk : (k1 == k2) = false := by rw [beq_eq_false_iff_ne]; exact hk
    have a0 : W.cell? ⟨w.heap.size, 0, none⟩ = some (.int .i64 k1) := (cell_of_block (unhide H1)).trans rfl
    have a1 : W.cell? ⟨w.heap.size, 1, none⟩ = some (.int .i64 c1) := (cell_of_block (unhide H1)).trans rfl
    have a2 : W.cell? ⟨w.heap.size, 2, none⟩ = some (.int .i64 q1) := (cell_of_block (unhide H1)).trans rfl
    have a3 : W.cell? ⟨w.heap.size, 3, none⟩ = some (.string t1) := (cell_of_block (unhide H1)).trans rfl
    have a4 : W.cell? ⟨w.heap.size, 4, none⟩ = some (.slice a n ca) := (cell_of_block (unhide H1)).trans rfl
    have a5 : W.cell? ⟨w.heap.size, 5, none⟩ = some (.int .i64 o1) := (cell_of_block (unhide H1)).trans rfl
    have b0 : W.cell? ⟨w.heap.size + 1, 0, none⟩ = some (.int .i64 k2) := (cell_of_block (unhide H2)).trans rfl
    have b1 : W.cell? ⟨w.heap.size + 1, 1, none⟩ = some (.int .i64 c2) := (cell_of_block (unhide H2)).trans rfl
    have b2 : W.cell? ⟨w.heap.size + 1, 2, none⟩ = some (.int .i64 q2) := (cell_of_block (unhide H2)).trans rfl
    have b3 : W.cell? ⟨w.heap.size + 1, 3, none⟩ = some (.string t2) := (cell_of_block (unhide H2)).trans rfl
    have b4 : W.cell? ⟨w.heap.size + 1, 4, none⟩ = some (.slice b m cb) := (cell_of_block (unhide H2)).trans rfl
    have b5 : W.cell? ⟨w.heap.size + 1, 5, none⟩ = some (.int .i64 o2) := (cell_of_block (unhide H2)).trans rfl
    go_enter Tryz.func169, Tryz.ntmps169
    go_wp2
    rw [unhide HW]
    go_ret
    exact ⟨rfl, unhide BW⟩

set_option maxRecDepth 20000 in
set_option maxHeartbeats 2000000 in
/-- the same entry. -/
theorem rsame_one (e : En) (a b : Option Addr) (ca cb : Nat) (w : World) (hl : e.ms.length ≤ 1000000) (ha : IntsR w a e.ms) (hb : IntsR w b e.ms) :
    Calls Tryz.prog 169 #[.agg #[.int .i64 e.kind, .int .i64 e.client, .int .i64 e.seq, .string e.text, .slice a e.ms.length ca, .int .i64 e.dest], .agg #[.int .i64 e.kind, .int .i64 e.client, .int .i64 e.seq, .string e.text, .slice b e.ms.length cb, .int .i64 e.dest]] w fun x w' => x = .returned (.bool true) ∧ Below w.heap.size w w' := by
  have h := rsameEntry_any e.kind e.client e.seq e.dest e.kind e.client e.seq e.dest e.text e.text a b e.ms.length e.ms.length ca cb e.ms e.ms rfl rfl (by omega) w ha hb
  rw [decide_eq_true (by simp)] at h
  exact h
set_option maxRecDepth 20000 in
set_option maxHeartbeats 2000000 in
theorem rsames_eq {F G : Nat → Prop} (es : List En) (n : Nat) (hn : es.length = n) (hl : n ≤ 1000000) (a b : Option Addr) (ca cb : Nat) (w : World) (ha : EsR F w a es) (hb : EsR G w b es) :
    Calls Tryz.prog 102 #[.slice a n ca, .slice b n cb] w fun x w' => x = .returned (.bool true) ∧ Below w.heap.size w w' := by
  have HA := hide ha
  have HB := hide hb
  have HN := hide hn
  clear ha hb hn
  go_enter Tryz.func102, Tryz.ntmps102
  go_wp2_with fail
  go_loopw [5] (fun iv wr => ∃ k : Nat, k ≤ n ∧ iv = .int .i64 (k : Int) ∧ Below w.heap.size w wr) (fun iv _ => n - (intOf iv).toNat)
  case atStart => exact ⟨0, Nat.zero_le _, rfl, Below.refl _ _⟩
  case round =>
    obtain ⟨k, hk, rfl, hbel⟩ := hrel
    have B := hide hbel
    clear hbel
    by_cases hlt : k < n
    · obtain ⟨e, he⟩ : ∃ e, es[k]? = some e := ⟨_, List.getElem?_eq_getElem (by rw [unhide HN]; exact hlt)⟩
      have bd := (unhide B).drew
      obtain ⟨g, off, mo, mc, rfl, c0, c1, c2, c3, c4, c5, him, hml⟩ := ((unhide HA).below bd).at he
      obtain ⟨g2, off2, mo2, mc2, rfl, d0, d1, d2, d3, d4, d5, him2, _⟩ := ((unhide HB).below bd).at he
      have SE := hide (rsame_one e mo mo2 mc mc2 wr.drew hml him.ints him2.ints)
      have hq : (k : Int) < (n : Int) := by omega
      clear bd him him2 he
      go_wp2_with fail
      go_region_with (go_at_call 169; refine (unhide SE).mono ?_; rintro x w2 ⟨rfl, b2⟩; have B2 := hide (below_far (unhide B).drew b2); clear b2)
      all_goals clear c0 c1 c2 c3 c4 c5 d0 d1 d2 d3 d4 d5
      all_goals go_wp2
      all_goals (
        go_roundw
        case rel => exact ⟨k + 1, by omega, by go_num, unhide B2⟩
        case measure => simp [intOf]; omega)
    · obtain rfl : k = n := by omega
      go_wp2
      go_ret
      exact ⟨rfl, unhide B⟩
theorem sints_eq (a b : Option Addr) (n ca cb : Nat) (xs : List Int) (hx : xs.length = n) (hl : n ≤ 1000000000) (w : World) (ha : IntsR w a xs) (hb : IntsR w b xs) :
    Calls Tryz.prog 101 #[.slice a n ca, .slice b n cb] w fun e w' => e = .returned (.bool true) ∧ Below w.heap.size w w' := by
  have h := sameInts_any a b n n ca cb xs xs hx hx hl w ha hb
  rw [decide_eq_true rfl] at h
  exact h
end Go.Proofs.YtjplhiflemmkfaaGreatDoor.Hh
namespace Go.Proofs.YtjplhiflemmkfaaGreatDoor.Hh
open Go.RowKit

set_option maxHeartbeats 1000000 in
theorem ysame_any (a b : Option Addr) (n m ca cb : Nat) (xs ys : List Int) (hx : xs.length = n) (hy : ys.length = m) (hl : n ≤ 1000000000) (w : World) (ha : IntsR w a xs) (hb : IntsR w b ys) :
    Calls Tryz.prog 95 #[.slice a n ca, .slice b m cb] w fun e w' => e = .returned (.bool (decide (xs = ys))) ∧ Below w.heap.size w w' := by
  have HA := hide ha
  have HB := hide hb
  have HX := hide hx
  have HY := hide hy
  clear ha hb hx hy
  by_cases hnm : n = m
  · subst hnm
    obtain ⟨r, hr⟩ : ∃ r, decide (xs = ys) = r := ⟨_, rfl⟩
    rw [hr]
    have HR := hide hr
    clear hr
    go_enter Tryz.func95, Tryz.ntmps95
    go_wp2_with fail
    go_loopw [5] (fun i wr => ∃ k : Nat, k ≤ n ∧ i = .int .i64 k ∧ (∀ j, j < k → xs.getD j 0 = ys.getD j 0) ∧ Below w.heap.size w wr) (fun i _ => n - (intOf i).toNat)
    case atStart => exact ⟨0, Nat.zero_le _, rfl, fun j hj => by omega, Below.refl _ _⟩
    case round =>
      obtain ⟨k, hk, rfl, hall, hbel⟩ := hrel
      have HALL := hide hall
      have BEL := hide hbel
      clear hall hbel
      by_cases hlt : k < n
      · obtain ⟨a1, rfl, h1⟩ := (unhide HA) k (by rw [unhide HX]; exact hlt)
        obtain ⟨b1, rfl, h2⟩ := (unhide HB) k (by rw [unhide HY]; exact hlt)
        have c1 : wr.cell? (a1.add k) = some (.int .i64 (xs.getD k 0)) := by rw [(unhide BEL).cell (blk_lt h1)]; exact h1
        have c2 : wr.cell? (b1.add k) = some (.int .i64 (ys.getD k 0)) := by rw [(unhide BEL).cell (blk_lt h2)]; exact h2
        have q : (k : Int) < n := by omega
        clear h1 h2
        by_cases he : xs.getD k 0 = ys.getD k 0
        · have HE := hide he
          obtain ⟨y, hyk⟩ : ∃ y, ys.getD k 0 = y := ⟨_, rfl⟩
          rw [he, hyk] at c1
          rw [hyk] at c2
          have hne : (y != y) = false := by simp
          clear he hyk
          go_wp2_with fail
          go_quiet (fail)
          go_wp2
          go_roundw
          case rel =>
            refine ⟨k + 1, by omega, by go_num, fun j hj => ?_, (unhide BEL).trans ((drewN_below _ _).mono (unhide BEL).size)⟩
            by_cases hjk : j < k
            · exact unhide HALL j hjk
            · obtain rfl : j = k := by omega
              exact unhide HE
          case measure => simp [intOf]; omega
        · have hne : (xs.getD k 0 != ys.getD k 0) = true := by rw [bne_iff_ne]; exact he
          have hrf : r = false := by
            rw [← unhide HR]; exact decide_eq_false (fun e => he (by rw [e]))
          subst hrf
          clear he
          generalize xs.getD k 0 = x at *
          generalize ys.getD k 0 = y at *
          go_wp2_with fail
          go_quiet (fail)
          go_wp2
          go_ret
          exact ⟨rfl, (unhide BEL).trans ((drewN_below _ _).mono (unhide BEL).size)⟩
      · have hrt : r = true := by
          rw [← unhide HR]; exact decide_eq_true (ext_getD (by rw [unhide HX, unhide HY]) (fun j hj => unhide HALL j (by rw [unhide HX] at hj; omega)))
        subst hrt
        go_wp2
        go_ret
        exact ⟨rfl, unhide BEL⟩
  · have hrf : decide (xs = ys) = false := decide_eq_false (fun e => hnm (by rw [← unhide HX, ← unhide HY, e]))
    rw [hrf]
    have hne : ((n : Int) != (m : Int)) = true := by rw [bne_iff_ne]; omega
    clear hrf
    go_enter Tryz.func95, Tryz.ntmps95
    go_wp2
    go_ret
    exact ⟨rfl, Below.refl _ _⟩

set_option maxHeartbeats 1000000 in
theorem equal_any (a b : Option Addr) (n m ca cb : Nat) (xs ys : List Int) (hx : xs.length = n) (hy : ys.length = m) (hl : n ≤ 1000000000) (w : World) (ha : IntsR w a xs) (hb : IntsR w b ys) :
    Calls Tryz.prog 141 #[.slice a n ca, .slice b m cb] w fun e w' => e = .returned (.bool (decide (xs = ys))) ∧ Below w.heap.size w w' := by
  have HA := hide ha
  have HB := hide hb
  have HX := hide hx
  have HY := hide hy
  clear ha hb hx hy
  by_cases hnm : n = m
  · subst hnm
    obtain ⟨r, hr⟩ : ∃ r, decide (xs = ys) = r := ⟨_, rfl⟩
    rw [hr]
    have HR := hide hr
    clear hr
    go_enter Tryz.func141, Tryz.ntmps141
    go_wp2_with fail
    go_loopw [13, 5] (fun i _ wr => ∃ k : Nat, k ≤ n ∧ i = .int .i64 k ∧ (∀ j, j < k → xs.getD j 0 = ys.getD j 0) ∧ Below w.heap.size w wr) (fun i _ _ => n - (intOf i).toNat)
    case atStart => exact ⟨0, Nat.zero_le _, rfl, fun j hj => by omega, Below.refl _ _⟩
    case round =>
      obtain ⟨k, hk, rfl, hall, hbel⟩ := hrel
      have HALL := hide hall
      have BEL := hide hbel
      clear hall hbel
      by_cases hlt : k < n
      · obtain ⟨a1, rfl, h1⟩ := (unhide HA) k (by rw [unhide HX]; exact hlt)
        obtain ⟨b1, rfl, h2⟩ := (unhide HB) k (by rw [unhide HY]; exact hlt)
        have c1 : wr.cell? (a1.add k) = some (.int .i64 (xs.getD k 0)) := by rw [(unhide BEL).cell (blk_lt h1)]; exact h1
        have c2 : wr.cell? (b1.add k) = some (.int .i64 (ys.getD k 0)) := by rw [(unhide BEL).cell (blk_lt h2)]; exact h2
        have q : (k : Int) < n := by omega
        clear h1 h2
        by_cases he : xs.getD k 0 = ys.getD k 0
        · have HE := hide he
          obtain ⟨y, hyk⟩ : ∃ y, ys.getD k 0 = y := ⟨_, rfl⟩
          rw [he, hyk] at c1
          rw [hyk] at c2
          have hne : (y != y) = false := by simp
          clear he hyk
          go_wp2_with fail
          go_quiet (fail)
          go_wp2
          go_roundw
          case rel =>
            refine ⟨k + 1, by omega, by go_num, fun j hj => ?_, (unhide BEL).trans ((drewN_below _ _).mono (unhide BEL).size)⟩
            by_cases hjk : j < k
            · exact unhide HALL j hjk
            · obtain rfl : j = k := by omega
              exact unhide HE
          case measure => simp [intOf]; omega
        · have hne : (xs.getD k 0 != ys.getD k 0) = true := by rw [bne_iff_ne]; exact he
          have hrf : r = false := by
            rw [← unhide HR]; exact decide_eq_false (fun e => he (by rw [e]))
          subst hrf
          clear he
          generalize xs.getD k 0 = x at *
          generalize ys.getD k 0 = y at *
          go_wp2_with fail
          go_quiet (fail)
          go_wp2
          go_ret
          exact ⟨rfl, (unhide BEL).trans ((drewN_below _ _).mono (unhide BEL).size)⟩
      · have hrt : r = true := by
          rw [← unhide HR]; exact decide_eq_true (ext_getD (by rw [unhide HX, unhide HY]) (fun j hj => unhide HALL j (by rw [unhide HX] at hj; omega)))
        subst hrt
        go_wp2
        go_ret
        exact ⟨rfl, unhide BEL⟩
  · have hrf : decide (xs = ys) = false := decide_eq_false (fun e => hnm (by rw [← unhide HX, ← unhide HY, e]))
    rw [hrf]
    have hne : ((n : Int) != (m : Int)) = true := by rw [bne_iff_ne]; omega
    clear hrf
    go_enter Tryz.func141, Tryz.ntmps141
    go_wp2
    go_ret
    exact ⟨rfl, Below.refl _ _⟩
end Go.Proofs.YtjplhiflemmkfaaGreatDoor.Hh
namespace Go.Proofs.YtjplhiflemmkfaaGreatDoor.Hh
open Go.RowKit

theorem boxed (w : World) (x y : Value) : ∃ W, w.alloc (.cells #[x, y] 26) = W ∧ Below w.heap.size w W ∧ W.heap[w.heap.size]? = some (.cells #[x, y] 26 (0, 0)) ∧ W.heap.size = w.heap.size + 1 :=
  ⟨_, rfl, (Below.refl _ w).alloc (Nat.le_refl _) _, box_at _ _, by simp⟩
theorem wr_nat (n : Nat) (h : n ≤ 1000000) : IntKind.i64.wrap (n : Int) = (n : Int) := IntWalk.i64_in _ (by omega)

set_option maxHeartbeats 1000000 in
theorem check_any (ao an : Option Addr) (no nn co cn : Nat) (old new : List Int) (hno : old.length = no) (hnn : new.length = nn) (hlo : no ≤ 1000000000) (hln : nn ≤ 1000000000) (w : World) (ho : IntsR w ao old) (hw : IntsR w an new) :
    Calls Tryz.prog 104 #[.agg #[.slice ao no co, .slice an nn cn]] w fun e w' => e = .returned (.int .i64 ((checkOf old new : Nat) : Int)) ∧ Below w.heap.size w w' := by
  obtain ⟨W, hW, bW, xW, _⟩ := boxed w (.slice ao no co) (.slice an nn cn)
  have W0 := hide (wrong_any false 0 rfl ao no co old hno hlo W (ho.below bW))
  have W1 := hide (fun (Y : World) (h : Below W.heap.size W Y) => wrong_any true 1 rfl an nn cn new hnn hln Y ((hw.below bW).below h))
  obtain ⟨R, hR⟩ : ∃ R, checkOf old new = R := ⟨_, rfl⟩
  rw [hR]
  obtain ⟨r0, h0⟩ : ∃ r0, wrongOf false old = r0 := ⟨_, rfl⟩
  obtain ⟨r1, h1⟩ : ∃ r1, wrongOf true new = r1 := ⟨_, rfl⟩
  have HR : Hid ((if r0 = 0 then r1 else r0) = R) := by
    show _ = _
    rw [← hR, ← h0, ← h1]; rfl
  rw [h0] at W0
  rw [h1] at W1
  have HW := hide hW
  have BW := hide bW
  have XW := hide xW
  clear hW bW xW hR h0 h1 ho hw hno hnn
  go_enter Tryz.func104, Tryz.ntmps104
  go_wp2_with fail
  rw [unhide HW]
  refine (unhide W0).mono ?_
  rintro e w1 ⟨rfl, b1⟩
  have B1 := hide ((unhide BW).trans (b1.mono (unhide BW).size))
  obtain ⟨c0, c1⟩ := two_cells (Below.stay b1 (unhide XW))
  have W2 := hide (unhide W1 _ b1)
  clear b1 W0 W1 HW
  by_cases hz : r0 = 0
  · have HR2 : Hid (r1 = R) := by
      have := unhide HR
      rw [if_pos hz] at this; exact this
    subst hz
    clear HR
    go_wp2_with fail
    refine (unhide W2).mono ?_
    rintro e w2 ⟨rfl, b2⟩
    have B2 := hide ((unhide B1).trans (b2.mono (unhide B1).size))
    obtain rfl := unhide HR2
    clear b2 W2 HR2
    go_wp2
    go_ret
    exact ⟨rfl, unhide B2⟩
  · have hz' : ((r0 : Int) != 0) = true := by rw [bne_iff_ne]; omega
    obtain rfl : r0 = R := by
      have := unhide HR
      rw [if_neg hz] at this; exact this
    clear HR hz
    go_wp2
    go_ret
    exact ⟨rfl, unhide B1⟩

def inOf (old new : List Int) (x : Int) : Bool := old.contains x || new.contains x
end Go.Proofs.YtjplhiflemmkfaaGreatDoor.Hh
namespace Go.Proofs.YtjplhiflemmkfaaGreatDoor.Hh
open Go.RowKit

theorem Tryz.sizeI : (Tryz.prog.info? 3).map (·.size) = some 1 := by kernel_rfl
theorem splice_all {α : Type} (L cs : List α) (h : L.length = cs.length) : splice L 0 cs = cs := by
  unfold splice
  simp [h]
set_option maxHeartbeats 1000000 in
theorem twin_any (ao : Option Addr) (n cap : Nat) (ys : List Int) (hn : ys.length = n) (w : World) (hb : IntsR w ao ys) (hl : n ≤ 1000000000) :
    Calls Tryz.prog 274 #[.slice ao n cap] w fun e w' => ∃ v, e = .returned v ∧ Ir w.heap.size w' v ys ∧ Below w.heap.size w w' := by
  obtain ⟨i0, hi, hz0, hz1, hz2⟩ := info_parts Tryz.infoI
  have HB := hide hb
  have HN := hide hn
  clear hb hn
  go_enter Tryz.func274, Tryz.ntmps274
  go_wp2_with (at_make; refine wpList_make_full _ rfl _ _ 24 rfl w.heap.size 3 i0 (.int .i64 0) 1 Tryz.underlying24 hi hz0 hz1 .i64 .i64 _ _ n rfl rfl rfl rfl (by rw [hz2]; omega) (by unfold maxLen; omega) (Nat.le_refl _) ?_)
  intro w1 hown1 hgrow1
  obtain ⟨cur, hg, hcs⟩ : ∃ cur : Array Value, w1.heap[w.heap.size]? = some (.cells cur.toList.toArray 3 (0, 0)) ∧ cur.toList.length = n := by
    rcases hown1.2 with ⟨h, _⟩ | ⟨g, cap, cur, hv, _, hh, _, _, hc, _⟩
    · cases h
    · cases hv
      exact ⟨cur, by simpa using hh, by simpa using hc⟩
  have b1 : Below w.heap.size w w1 := (Below.refl _ _).grown hgrow1 (Nat.le_refl _) (fun k hk => by cases hk)
  have hmin : (i64s ys).length = Nat.min n n := by rw [show Nat.min n n = n from Nat.min_self n]; simp [i64s, unhide HN]
  have hfit : 0 + (i64s ys).length ≤ cur.toList.length := by rw [hcs]; simp [i64s, unhide HN]
  have hpos : 0 < (i64s ys).length → ∃ ad, ao = some ad ∧ ∀ j v, (i64s ys)[j]? = some v → w1.cell? (ad.add j) = some v := by
    intro h0
    cases ao with
    | none => have e := (unhide HB).none_nil; subst e; simp [i64s] at h0
    | some a =>
      refine ⟨a, rfl, fun j u hj => ?_⟩
      rw [i64s, List.getElem?_map] at hj
      cases hq : ys[j]? with
      | none => rw [hq] at hj; simp at hj
      | some y =>
        rw [hq] at hj; simp at hj; subst hj
        obtain ⟨a', e, hcell⟩ := ((unhide HB).below b1) j (List.getElem?_eq_some_iff.1 hq).1
        cases e
        rw [hcell, List.getD_eq_getElem?_getD, hq]; rfl
  have HG := hide hg
  have HC := hide hcs
  have B1 := hide b1
  have HM := hide hmin
  have HF := hide hfit
  have HPO := hide hpos
  clear hg hcs b1 hown1 hgrow1 hmin hfit hpos
  go_wp2_with (refine wpList_copy_splice rfl (.tmp 7) (.tmp 8) 24 24 rfl 3 Tryz.underlying24 Tryz.sizeI _ _ _ _ _ _ rfl rfl w.heap.size 0 cur.toList 3 (unhide HG) (i64s ys) (unhide HM) (fun h0 => ⟨rfl, unhide HPO h0⟩) (unhide HF) (i64s_one ys) w.heap.size w (unhide B1) (Nat.le_refl _) ?_)
  intro w2 hg2 hb2
  have B2 := hide hb2
  clear hb2
  go_wp2
  go_ret
  have hg3 := unhide hg2
  rw [splice_all _ _ (by rw [unhide HC]; simp [i64s, unhide HN])] at hg3
  refine ⟨_, rfl, ⟨by simp [i64s], Or.inr ⟨w.heap.size, n, _, by rw [unhide HN]; rfl, Nat.le_refl _, hg3, by rw [unhide HN]; exact Nat.le_refl _, by unfold maxLen; omega, by simp [i64s, unhide HN], ?_⟩⟩, unhide B2⟩
  rw [Nat.mul_one, List.take_of_length_le (by simp [i64s])]
end Go.Proofs.YtjplhiflemmkfaaGreatDoor.Hh
