/- slices.Equal over numbers, wire.SameEntry: contracts. -/
import Derived.Test.YtndpkpkijfplaaaUEsR
import Derived.BigQuiet
import Derived.Deep.QuietTactic
import Derived.Deep.RegionWith
namespace Go.Proofs.Ytndpkpkijfplaaa
open Go.RowKit Go.Maps

set_option maxHeartbeats 1000000 in
theorem equal_any (a b : Option Addr) (n m ca cb : Nat) (xs ys : List Int) (hx : xs.length = n) (hy : ys.length = m) (hl : n ≤ 1000000000) (w : World) (ha : IntsR w a xs) (hb : IntsR w b ys) :
    Calls Try.prog 33 #[.slice a n ca, .slice b m cb] w fun e w' => e = .returned (.bool (decide (xs = ys))) ∧ Below w.heap.size w w' := by
  have HA := hide ha
  have HB := hide hb
  have HX := hide hx
  have HY := hide hy
  clear ha hb hx hy
  by_cases hnm : n = m
  · subst hnm
    obtain ⟨r, hr⟩ : ∃ r, decide (xs = ys) = r := ⟨_, rfl⟩
    rw [hr]
    have HR := hide hr
    clear hr
    go_enter Try.func33, Try.ntmps33
    go_wp2_with fail
    go_loopw [13, 5] (fun i _ wr => ∃ k : Nat, k ≤ n ∧ i = .int .i64 k ∧ (∀ j, j < k → xs.getD j 0 = ys.getD j 0) ∧ Below w.heap.size w wr) (fun i _ _ => n - (intOf i).toNat)
    case atStart => exact ⟨0, Nat.zero_le _, rfl, fun j hj => by omega, Below.refl _ _⟩
    case round =>
      obtain ⟨k, hk, rfl, hall, hbel⟩ := hrel
      have HALL := hide hall
      have BEL := hide hbel
      clear hall hbel
      by_cases hlt : k < n
      · obtain ⟨a1, rfl, h1⟩ := (unhide HA) k (by rw [unhide HX]; exact hlt)
        obtain ⟨b1, rfl, h2⟩ := (unhide HB) k (by rw [unhide HY]; exact hlt)
        have c1 : wr.cell? (a1.add k) = some (.int .i64 (xs.getD k 0)) := by rw [(unhide BEL).cell (blk_lt h1)]; exact h1
        have c2 : wr.cell? (b1.add k) = some (.int .i64 (ys.getD k 0)) := by rw [(unhide BEL).cell (blk_lt h2)]; exact h2
        have q : (k : Int) < n := by omega
        clear h1 h2
        by_cases he : xs.getD k 0 = ys.getD k 0
        · have HE := hide he
          obtain ⟨y, hyk⟩ : ∃ y, ys.getD k 0 = y := ⟨_, rfl⟩
          rw [he, hyk] at c1
          rw [hyk] at c2
          have hne : (y != y) = false := by simp
          clear he hyk
          go_wp2_with fail
          go_quiet (fail)
          go_wp2
          go_roundw
          case rel =>
            refine ⟨k + 1, by omega, by go_num, fun j hj => ?_, (unhide BEL).trans ((drewN_below _ _).mono (unhide BEL).size)⟩
            by_cases hjk : j < k
            · exact unhide HALL j hjk
            · obtain rfl : j = k := by omega
              exact unhide HE
          case measure => simp [intOf]; omega
        · have hne : (xs.getD k 0 != ys.getD k 0) = true := by rw [bne_iff_ne]; exact he
          have hrf : r = false := by
            rw [← unhide HR]; exact decide_eq_false (fun e => he (by rw [e]))
          subst hrf
          clear he
          generalize xs.getD k 0 = x at *
          generalize ys.getD k 0 = y at *
          go_wp2_with fail
          go_quiet (fail)
          go_wp2
          go_ret
          exact ⟨rfl, (unhide BEL).trans ((drewN_below _ _).mono (unhide BEL).size)⟩
      · have hrt : r = true := by
          rw [← unhide HR]; exact decide_eq_true (ext_getD (by rw [unhide HX, unhide HY]) (fun j hj => unhide HALL j (by rw [unhide HX] at hj; omega)))
        subst hrt
        go_wp2
        go_ret
        exact ⟨rfl, unhide BEL⟩
  · have hrf : decide (xs = ys) = false := decide_eq_false (fun e => hnm (by rw [← unhide HX, ← unhide HY, e]))
    rw [hrf]
    have hne : ((n : Int) != (m : Int)) = true := by rw [bne_iff_ne]; omega
    clear hrf
    go_enter Try.func33, Try.ntmps33
    go_wp2
    go_ret
    exact ⟨rfl, Below.refl _ _⟩
set_option maxRecDepth 20000 in
set_option maxHeartbeats 2000000 in
theorem sameEntry_any (k1 c1 q1 o1 k2 c2 q2 o2 : Int) (t1 t2 : ByteArray) (a b : Option Addr) (n m ca cb : Nat) (xs ys : List Int) (hx : xs.length = n) (hy : ys.length = m) (hl : n ≤ 1000000000) (w : World) (ha : IntsR w a xs) (hb : IntsR w b ys) :
    Calls Try.prog 25 #[.agg #[.int .i64 k1, .int .i64 c1, .int .i64 q1, .string t1, .slice a n ca, .int .i64 o1], .agg #[.int .i64 k2, .int .i64 c2, .int .i64 q2, .string t2, .slice b m cb, .int .i64 o2]] w fun e w' => e = .returned (.bool (decide (k1 = k2 ∧ c1 = c2 ∧ q1 = q2 ∧ t1 = t2 ∧ xs = ys ∧ o1 = o2))) ∧ Below w.heap.size w w' := by
  obtain ⟨W, hW⟩ : ∃ W, (w.alloc (.cells #[.int .i64 k1, .int .i64 c1, .int .i64 q1, .string t1, .slice a n ca, .int .i64 o1] 29)).alloc (.cells #[.int .i64 k2, .int .i64 c2, .int .i64 q2, .string t2, .slice b m cb, .int .i64 o2] 29) = W := ⟨_, rfl⟩
  have bW : Below w.heap.size w W := by rw [← hW]; exact ((Below.refl _ w).alloc (Nat.le_refl _) _).alloc (by simp) _
  have C := hide (equal_any a b n m ca cb xs ys hx hy hl W (ha.below bW) (hb.below bW))
  have h1 : W.heap[w.heap.size]? = some (.cells #[.int .i64 k1, .int .i64 c1, .int .i64 q1, .string t1, .slice a n ca, .int .i64 o1] 29 (0, 0)) := by rw [← hW]; exact (Below.heap_alloc _ _ _ (by simp)).trans (heap_alloc_new _ _)
  have h2 : W.heap[w.heap.size + 1]? = some (.cells #[.int .i64 k2, .int .i64 c2, .int .i64 q2, .string t2, .slice b m cb, .int .i64 o2] 29 (0, 0)) := by
    rw [← hW]
    have h := heap_alloc_new (w.alloc (.cells #[.int .i64 k1, .int .i64 c1, .int .i64 q1, .string t1, .slice a n ca, .int .i64 o1] 29)) (.cells #[.int .i64 k2, .int .i64 c2, .int .i64 q2, .string t2, .slice b m cb, .int .i64 o2] 29)
    simpa using h
  have HW := hide hW
  have BW := hide bW
  have H1 := hide h1
  have H2 := hide h2
  clear hW bW ha hb h1 h2 hx hy hl
  by_cases hk : k1 = k2
  · subst hk
    by_cases hc : c1 = c2
    · subst hc
      by_cases hq : q1 = q2
      · subst hq
        by_cases ht : t1 = t2
        · subst ht
          by_cases hm : xs = ys
          · rw [decide_eq_true hm] at C
            by_cases ho : o1 = o2
            · subst ho
              rw [decide_eq_true (by simp [hm] : _)]
              have a0 : W.cell? ⟨w.heap.size, 0, none⟩ = some (.int .i64 k1) := (cell_of_block (unhide H1)).trans rfl
              have a1 : W.cell? ⟨w.heap.size, 1, none⟩ = some (.int .i64 c1) := (cell_of_block (unhide H1)).trans rfl
              have a2 : W.cell? ⟨w.heap.size, 2, none⟩ = some (.int .i64 q1) := (cell_of_block (unhide H1)).trans rfl
              have a3 : W.cell? ⟨w.heap.size, 3, none⟩ = some (.string t1) := (cell_of_block (unhide H1)).trans rfl
              have a4 : W.cell? ⟨w.heap.size, 4, none⟩ = some (.slice a n ca) := (cell_of_block (unhide H1)).trans rfl
              have a5 : W.cell? ⟨w.heap.size, 5, none⟩ = some (.int .i64 o1) := (cell_of_block (unhide H1)).trans rfl
              have b0 : W.cell? ⟨w.heap.size + 1, 0, none⟩ = some (.int .i64 k1) := (cell_of_block (unhide H2)).trans rfl
              have b1 : W.cell? ⟨w.heap.size + 1, 1, none⟩ = some (.int .i64 c1) := (cell_of_block (unhide H2)).trans rfl
              have b2 : W.cell? ⟨w.heap.size + 1, 2, none⟩ = some (.int .i64 q1) := (cell_of_block (unhide H2)).trans rfl
              have b3 : W.cell? ⟨w.heap.size + 1, 3, none⟩ = some (.string t1) := (cell_of_block (unhide H2)).trans rfl
              have b4 : W.cell? ⟨w.heap.size + 1, 4, none⟩ = some (.slice b m cb) := (cell_of_block (unhide H2)).trans rfl
              have b5 : W.cell? ⟨w.heap.size + 1, 5, none⟩ = some (.int .i64 o1) := (cell_of_block (unhide H2)).trans rfl
              go_enter Try.func25, Try.ntmps25
              go_wp2_with fail
              rw [unhide HW]
              refine (unhide C).mono ?_
              rintro e w1 ⟨rfl, b1⟩
              have B1 := hide ((unhide BW).trans (b1.mono (unhide BW).size))
              have a5' : w1.cell? ⟨w.heap.size, 5, none⟩ = some (.int .i64 o1) := by rw [b1.cell (blk_lt a5)]; exact a5
              have b5' : w1.cell? ⟨w.heap.size + 1, 5, none⟩ = some (.int .i64 o1) := by rw [b1.cell (blk_lt b5)]; exact b5
              clear b1
              go_wp2
              go_ret
              exact ⟨rfl, unhide B1⟩
            · rw [decide_eq_false (fun e => ho (by simp_all))]
              have go : (o1 == o2) = false := by rw [beq_eq_false_iff_ne]; exact ho
              have a0 : W.cell? ⟨w.heap.size, 0, none⟩ = some (.int .i64 k1) := (cell_of_block (unhide H1)).trans rfl
              have a1 : W.cell? ⟨w.heap.size, 1, none⟩ = some (.int .i64 c1) := (cell_of_block (unhide H1)).trans rfl
              have a2 : W.cell? ⟨w.heap.size, 2, none⟩ = some (.int .i64 q1) := (cell_of_block (unhide H1)).trans rfl
              have a3 : W.cell? ⟨w.heap.size, 3, none⟩ = some (.string t1) := (cell_of_block (unhide H1)).trans rfl
              have a4 : W.cell? ⟨w.heap.size, 4, none⟩ = some (.slice a n ca) := (cell_of_block (unhide H1)).trans rfl
              have a5 : W.cell? ⟨w.heap.size, 5, none⟩ = some (.int .i64 o1) := (cell_of_block (unhide H1)).trans rfl
              have b0 : W.cell? ⟨w.heap.size + 1, 0, none⟩ = some (.int .i64 k1) := (cell_of_block (unhide H2)).trans rfl
              have b1 : W.cell? ⟨w.heap.size + 1, 1, none⟩ = some (.int .i64 c1) := (cell_of_block (unhide H2)).trans rfl
              have b2 : W.cell? ⟨w.heap.size + 1, 2, none⟩ = some (.int .i64 q1) := (cell_of_block (unhide H2)).trans rfl
              have b3 : W.cell? ⟨w.heap.size + 1, 3, none⟩ = some (.string t1) := (cell_of_block (unhide H2)).trans rfl
              have b4 : W.cell? ⟨w.heap.size + 1, 4, none⟩ = some (.slice b m cb) := (cell_of_block (unhide H2)).trans rfl
              have b5 : W.cell? ⟨w.heap.size + 1, 5, none⟩ = some (.int .i64 o2) := (cell_of_block (unhide H2)).trans rfl
              go_enter Try.func25, Try.ntmps25
              go_wp2_with fail
              rw [unhide HW]
              refine (unhide C).mono ?_
              rintro e w1 ⟨rfl, b1⟩
              have B1 := hide ((unhide BW).trans (b1.mono (unhide BW).size))
              have a5' : w1.cell? ⟨w.heap.size, 5, none⟩ = some (.int .i64 o1) := by rw [b1.cell (blk_lt a5)]; exact a5
              have b5' : w1.cell? ⟨w.heap.size + 1, 5, none⟩ = some (.int .i64 o2) := by rw [b1.cell (blk_lt b5)]; exact b5
              clear b1
              go_wp2
              go_ret
              exact ⟨rfl, unhide B1⟩
          · rw [decide_eq_false (fun e => hm (by simp_all))]
            rw [decide_eq_false hm] at C
            have a0 : W.cell? ⟨w.heap.size, 0, none⟩ = some (.int .i64 k1) := (cell_of_block (unhide H1)).trans rfl
            have a1 : W.cell? ⟨w.heap.size, 1, none⟩ = some (.int .i64 c1) := (cell_of_block (unhide H1)).trans rfl
            have a2 : W.cell? ⟨w.heap.size, 2, none⟩ = some (.int .i64 q1) := (cell_of_block (unhide H1)).trans rfl
            have a3 : W.cell? ⟨w.heap.size, 3, none⟩ = some (.string t1) := (cell_of_block (unhide H1)).trans rfl
            have a4 : W.cell? ⟨w.heap.size, 4, none⟩ = some (.slice a n ca) := (cell_of_block (unhide H1)).trans rfl
            have a5 : W.cell? ⟨w.heap.size, 5, none⟩ = some (.int .i64 o1) := (cell_of_block (unhide H1)).trans rfl
            have b0 : W.cell? ⟨w.heap.size + 1, 0, none⟩ = some (.int .i64 k1) := (cell_of_block (unhide H2)).trans rfl
            have b1 : W.cell? ⟨w.heap.size + 1, 1, none⟩ = some (.int .i64 c1) := (cell_of_block (unhide H2)).trans rfl
            have b2 : W.cell? ⟨w.heap.size + 1, 2, none⟩ = some (.int .i64 q1) := (cell_of_block (unhide H2)).trans rfl
            have b3 : W.cell? ⟨w.heap.size + 1, 3, none⟩ = some (.string t1) := (cell_of_block (unhide H2)).trans rfl
            have b4 : W.cell? ⟨w.heap.size + 1, 4, none⟩ = some (.slice b m cb) := (cell_of_block (unhide H2)).trans rfl
            have b5 : W.cell? ⟨w.heap.size + 1, 5, none⟩ = some (.int .i64 o2) := (cell_of_block (unhide H2)).trans rfl
            go_enter Try.func25, Try.ntmps25
            go_wp2_with fail
            rw [unhide HW]
            refine (unhide C).mono ?_
            rintro e w1 ⟨rfl, b1⟩
            have B1 := hide ((unhide BW).trans (b1.mono (unhide BW).size))
            have a5' : w1.cell? ⟨w.heap.size, 5, none⟩ = some (.int .i64 o1) := by rw [b1.cell (blk_lt a5)]; exact a5
            have b5' : w1.cell? ⟨w.heap.size + 1, 5, none⟩ = some (.int .i64 o2) := by rw [b1.cell (blk_lt b5)]; exact b5
            clear b1
            go_wp2
            go_ret
            exact ⟨rfl, unhide B1⟩
        · rw [decide_eq_false (fun e => ht (by simp_all))]
          have gt : (t1.toList == t2.toList) = false := by rw [beq_eq_false_iff_ne]; intro e; rw [ByteArray.toList_eq, ByteArray.toList_eq] at e; exact ht (ByteArray.ext (Array.ext' e))
          have a0 : W.cell? ⟨w.heap.size, 0, none⟩ = some (.int .i64 k1) := (cell_of_block (unhide H1)).trans rfl
          have a1 : W.cell? ⟨w.heap.size, 1, none⟩ = some (.int .i64 c1) := (cell_of_block (unhide H1)).trans rfl
          have a2 : W.cell? ⟨w.heap.size, 2, none⟩ = some (.int .i64 q1) := (cell_of_block (unhide H1)).trans rfl
          have a3 : W.cell? ⟨w.heap.size, 3, none⟩ = some (.string t1) := (cell_of_block (unhide H1)).trans rfl
          have a4 : W.cell? ⟨w.heap.size, 4, none⟩ = some (.slice a n ca) := (cell_of_block (unhide H1)).trans rfl
          have a5 : W.cell? ⟨w.heap.size, 5, none⟩ = some (.int .i64 o1) := (cell_of_block (unhide H1)).trans rfl
          have b0 : W.cell? ⟨w.heap.size + 1, 0, none⟩ = some (.int .i64 k1) := (cell_of_block (unhide H2)).trans rfl
          have b1 : W.cell? ⟨w.heap.size + 1, 1, none⟩ = some (.int .i64 c1) := (cell_of_block (unhide H2)).trans rfl
          have b2 : W.cell? ⟨w.heap.size + 1, 2, none⟩ = some (.int .i64 q1) := (cell_of_block (unhide H2)).trans rfl
          have b3 : W.cell? ⟨w.heap.size + 1, 3, none⟩ = some (.string t2) := (cell_of_block (unhide H2)).trans rfl
          have b4 : W.cell? ⟨w.heap.size + 1, 4, none⟩ = some (.slice b m cb) := (cell_of_block (unhide H2)).trans rfl
          have b5 : W.cell? ⟨w.heap.size + 1, 5, none⟩ = some (.int .i64 o2) := (cell_of_block (unhide H2)).trans rfl
          go_enter Try.func25, Try.ntmps25
          go_wp2
          rw [unhide HW]
          go_ret
          exact ⟨rfl, unhide BW⟩
      · rw [decide_eq_false (fun e => hq (by simp_all))]
        have gq : (q1 == q2) = false := by rw [beq_eq_false_iff_ne]; exact hq
        have a0 : W.cell? ⟨w.heap.size, 0, none⟩ = some (.int .i64 k1) := (cell_of_block (unhide H1)).trans rfl
        have a1 : W.cell? ⟨w.heap.size, 1, none⟩ = some (.int .i64 c1) := (cell_of_block (unhide H1)).trans rfl
        have a2 : W.cell? ⟨w.heap.size, 2, none⟩ = some (.int .i64 q1) := (cell_of_block (unhide H1)).trans rfl
        have a3 : W.cell? ⟨w.heap.size, 3, none⟩ = some (.string t1) := (cell_of_block (unhide H1)).trans rfl
        have a4 : W.cell? ⟨w.heap.size, 4, none⟩ = some (.slice a n ca) := (cell_of_block (unhide H1)).trans rfl
        have a5 : W.cell? ⟨w.heap.size, 5, none⟩ = some (.int .i64 o1) := (cell_of_block (unhide H1)).trans rfl
        have b0 : W.cell? ⟨w.heap.size + 1, 0, none⟩ = some (.int .i64 k1) := (cell_of_block (unhide H2)).trans rfl
        have b1 : W.cell? ⟨w.heap.size + 1, 1, none⟩ = some (.int .i64 c1) := (cell_of_block (unhide H2)).trans rfl
        have b2 : W.cell? ⟨w.heap.size + 1, 2, none⟩ = some (.int .i64 q2) := (cell_of_block (unhide H2)).trans rfl
        have b3 : W.cell? ⟨w.heap.size + 1, 3, none⟩ = some (.string t2) := (cell_of_block (unhide H2)).trans rfl
        have b4 : W.cell? ⟨w.heap.size + 1, 4, none⟩ = some (.slice b m cb) := (cell_of_block (unhide H2)).trans rfl
        have b5 : W.cell? ⟨w.heap.size + 1, 5, none⟩ = some (.int .i64 o2) := (cell_of_block (unhide H2)).trans rfl
        go_enter Try.func25, Try.ntmps25
        go_wp2
        rw [unhide HW]
        go_ret
        exact ⟨rfl, unhide BW⟩
    · rw [decide_eq_false (fun e => hc (by simp_all))]
      have gc : (c1 == c2) = false := by rw [beq_eq_false_iff_ne]; exact hc
      have a0 : W.cell? ⟨w.heap.size, 0, none⟩ = some (.int .i64 k1) := (cell_of_block (unhide H1)).trans rfl
      have a1 : W.cell? ⟨w.heap.size, 1, none⟩ = some (.int .i64 c1) := (cell_of_block (unhide H1)).trans rfl
      have a2 : W.cell? ⟨w.heap.size, 2, none⟩ = some (.int .i64 q1) := (cell_of_block (unhide H1)).trans rfl
      have a3 : W.cell? ⟨w.heap.size, 3, none⟩ = some (.string t1) := (cell_of_block (unhide H1)).trans rfl
      have a4 : W.cell? ⟨w.heap.size, 4, none⟩ = some (.slice a n ca) := (cell_of_block (unhide H1)).trans rfl
      have a5 : W.cell? ⟨w.heap.size, 5, none⟩ = some (.int .i64 o1) := (cell_of_block (unhide H1)).trans rfl
      have b0 : W.cell? ⟨w.heap.size + 1, 0, none⟩ = some (.int .i64 k1) := (cell_of_block (unhide H2)).trans rfl
      have b1 : W.cell? ⟨w.heap.size + 1, 1, none⟩ = some (.int .i64 c2) := (cell_of_block (unhide H2)).trans rfl
      have b2 : W.cell? ⟨w.heap.size + 1, 2, none⟩ = some (.int .i64 q2) := (cell_of_block (unhide H2)).trans rfl
      have b3 : W.cell? ⟨w.heap.size + 1, 3, none⟩ = some (.string t2) := (cell_of_block (unhide H2)).trans rfl
      have b4 : W.cell? ⟨w.heap.size + 1, 4, none⟩ = some (.slice b m cb) := (cell_of_block (unhide H2)).trans rfl
      have b5 : W.cell? ⟨w.heap.size + 1, 5, none⟩ = some (.int .i64 o2) := (cell_of_block (unhide H2)).trans rfl
      go_enter Try.func25, Try.ntmps25
      go_wp2
      rw [unhide HW]
      go_ret
      exact ⟨rfl, unhide BW⟩
  · rw [decide_eq_false (fun e => hk (by simp_all))]
    have gk : (k1 == k2) = false := by rw [beq_eq_false_iff_ne]; exact hk
    have a0 : W.cell? ⟨w.heap.size, 0, none⟩ = some (.int .i64 k1) := (cell_of_block (unhide H1)).trans rfl
    have a1 : W.cell? ⟨w.heap.size, 1, none⟩ = some (.int .i64 c1) := (cell_of_block (unhide H1)).trans rfl
    have a2 : W.cell? ⟨w.heap.size, 2, none⟩ = some (.int .i64 q1) := (cell_of_block (unhide H1)).trans rfl
    have a3 : W.cell? ⟨w.heap.size, 3, none⟩ = some (.string t1) := (cell_of_block (unhide H1)).trans rfl
    have a4 : W.cell? ⟨w.heap.size, 4, none⟩ = some (.slice a n ca) := (cell_of_block (unhide H1)).trans rfl
    have a5 : W.cell? ⟨w.heap.size, 5, none⟩ = some (.int .i64 o1) := (cell_of_block (unhide H1)).trans rfl
    have b0 : W.cell? ⟨w.heap.size + 1, 0, none⟩ = some (.int .i64 k2) := (cell_of_block (unhide H2)).trans rfl
    have b1 : W.cell? ⟨w.heap.size + 1, 1, none⟩ = some (.int .i64 c2) := (cell_of_block (unhide H2)).trans rfl
    have b2 : W.cell? ⟨w.heap.size + 1, 2, none⟩ = some (.int .i64 q2) := (cell_of_block (unhide H2)).trans rfl
    have b3 : W.cell? ⟨w.heap.size + 1, 3, none⟩ = some (.string t2) := (cell_of_block (unhide H2)).trans rfl
    have b4 : W.cell? ⟨w.heap.size + 1, 4, none⟩ = some (.slice b m cb) := (cell_of_block (unhide H2)).trans rfl
    have b5 : W.cell? ⟨w.heap.size + 1, 5, none⟩ = some (.int .i64 o2) := (cell_of_block (unhide H2)).trans rfl
    go_enter Try.func25, Try.ntmps25
    go_wp2
    rw [unhide HW]
    go_ret
    exact ⟨rfl, unhide BW⟩
end Go.Proofs.Ytndpkpkijfplaaa
