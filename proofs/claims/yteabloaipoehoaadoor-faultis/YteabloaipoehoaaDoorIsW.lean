/- The law FaultIs, walked: it answers true; memory that was there is as it was. -/
import Derived.Test.YteabloaipoehoaaDoorLists
namespace Go.Proofs.YteabloaipoehoaaDoor
open Go.RowKit Go.Extern.Stop Go.Stop Go.Extern

theorem wrapped_le (s : ByteArray) {ps : List ByteArray} (h : ps.length ≤ 16) : (wrapped s ps).length ≤ 16 := by
  unfold wrapped
  split
  · simp; omega
  · exact h

set_option maxHeartbeats 2000000 in
theorem is_walk (n m r : Int) (bare : Bool) (w : World) (hg : Glob w) :
    Calls Tryd.prog 4 #[.int .i64 n, .int .i64 m, .int .i64 r, .bool bare] w fun e w' => e = .returned (.bool true) ∧ Below w.heap.size w w' := by
  have hb := Int.emod_nonneg n (show (19 : Int) ≠ 0 by omega)
  have hb' := Int.emod_nonneg m (show (19 : Int) ≠ 0 by omega)
  have hr := Int.emod_nonneg r (show (20 : Int) ≠ 0 by omega)
  have hr' := Int.emod_lt_of_pos r (show (0 : Int) < 20 by omega)
  have HG := hide hg
  clear hg
  have hk0 : (1 + n % 19 == 0) = false := beq_eq_false_iff_ne.2 (by omega)
  have hN := number_any n
  have hM := number_any m
  generalize 1 + n % 19 = k at *
  generalize 1 + m % 19 = j at *
  clear hb hb'
  have HN := hide hN
  have HM := hide hM
  clear hN hM
  cases bare with
  | true =>
    go_enter Tryd.func4, Tryd.ntmps4
    go_wp2_with fail
    refine (known_true w (unhide HG)).mono ?_
    rintro e w1 ⟨rfl, hb1⟩
    have HB1 := hide hb1
    clear hb1
    go_wp2_with fail
    refine (unhide HN _).mono ?_
    rintro e w2 ⟨rfl, rfl⟩
    go_wp2_with fail
    refine (unhide HM _).mono ?_
    rintro e w3 ⟨rfl, rfl⟩
    go_wp2_with fail
    refine (new_num _ _ hk0 _).mono ?_
    rintro e w4 ⟨rfl, rfl⟩
    have HB3 := hide ((unhide HB1).alloc (unhide HB1).size (.cells #[.string ⟨#[120]⟩, .iface 24 (.int .i64 k)] 46))
    have HC3 : Hid (Chain (w3.alloc (.cells #[.string ⟨#[120]⟩, .iface 24 (.int .i64 k)] 46)) (.iface 24 (.int .i64 k)) [] (.iface 24 (.int .i64 k))) := rfl
    go_wp2_with fail
    generalize w3.alloc (.cells #[.string ⟨#[120]⟩, .iface 24 (.int .i64 k)] 46) = w3 at *
    have HS : Hid (∃ qs, qs.length ≤ 16 ∧ Chain w3 (.iface 24 (.int .i64 k)) qs (.iface 24 (.int .i64 k))) := ⟨_, by simp, unhide HC3⟩
    clear HC3
    go_wp2_with fail
    go_loopg [11, 12] 20 (fun g er i wr => (∃ qs, qs.length ≤ 16 ∧ Chain wr (.iface 24 (.int .i64 k)) qs er) ∧ Below w.heap.size w wr ∧ ∃ q : Nat, i = .int .i64 q ∧ q + g = 20)
    case atStart => exact ⟨unhide HS, unhide HB3, 0, rfl, rfl⟩
    case round =>
      obtain ⟨⟨qs, hql, hqc⟩, hqb, q, rfl, hq⟩ := hrel
      have HQ := hide hqc
      have HQB := hide hqb
      have HQG := hide (Glob.below (unhide HG) hqb)
      clear hqc hqb
      by_cases hlt : (q : Int) < r % 20
      · go_wp2_with fail
        refine (within_any r 20 _ (by omega) (by omega)).mono ?_
        rintro e w4 ⟨rfl, rfl⟩
        go_wp2_with fail
        refine (wrap_chain _ _ (Or.inl ⟨k, rfl⟩) qs hql _ _ (unhide HQG) (unhide HQ)).mono ?_
        rintro e w5 ⟨v5, rfl, hc5, hb5⟩
        have HC5 := hide hc5
        have HB5 := hide (Below.far (unhide HQB) hb5)
        clear hc5 hb5
        go_wp2_with fail
        go_roundg (gk - 1)
        case measure => omega
        case rel =>
          refine ⟨⟨_, ?_, unhide HC5⟩, unhide HB5, q + 1, by go_num, by omega⟩
          exact wrapped_le _ hql
      · obtain ⟨T, x, rfl⟩ := (unhide HQ).form (Or.inl ⟨k, rfl⟩)
        go_wp2_with fail
        refine (within_any r 20 _ (by omega) (by omega)).mono ?_
        rintro e w4 ⟨rfl, rfl⟩
        have HQ2 := hide ((unhide HQ).keep (keep_alloc w4 (.cells #[.int .i64 0] 24)))
        have HG2 := hide ((unhide HQG).alloc (.cells #[.int .i64 0] 24))
        go_wp2_with fail
        refine (as_num k qs _ ⟨w4.heap.size, 0, none⟩ (.int .i64 0) _ (unhide HG2) (unhide HQ2) (by simp) (by simp)).mono ?_
        rintro e w5 ⟨rfl, c5, hb5⟩
        have hb5' : Below w4.heap.size w4 w5 := Below.undo hb5
        have HB5 := hide (Below.far (unhide HQB) hb5')
        have HC5 := hide ((unhide HQ).keep (keep_below hb5'))
        have HG5 := hide (Glob.below (unhide HQG) hb5')
        clear hb5 hb5'
        go_wp2_with fail
        refine (is_num k k qs _ _ (unhide HC5)).mono ?_
        rintro e w6 ⟨rfl, rfl⟩
        go_wp2_with fail
        refine (is_num k j qs _ _ (unhide HC5)).mono ?_
        rintro e w7 ⟨rfl, rfl⟩
        go_wp2_with fail
        refine (fis_num k k hk0 qs _ _ (unhide HG5) (unhide HC5)).mono ?_
        rintro e w8 ⟨rfl, hb8⟩
        have HB8 := hide (Below.far (unhide HB5) hb8)
        have HC8 := hide ((unhide HC5).keep (keep_below hb8))
        have HG8 := hide (Glob.below (unhide HG5) hb8)
        clear hb8
        go_wp2_with fail
        refine (fis_num k j hk0 qs _ _ (unhide HG8) (unhide HC8)).mono ?_
        rintro e w9 ⟨rfl, hb9⟩
        have HB9 := hide (Below.far (unhide HB8) hb9)
        clear hb9
        go_wp2_with fail
        go_ret
        exact ⟨rfl, unhide HB9⟩
  | false =>
    go_enter Tryd.func4, Tryd.ntmps4
    go_wp2_with fail
    refine (known_true w (unhide HG)).mono ?_
    rintro e w1 ⟨rfl, hb1⟩
    have HB1 := hide hb1
    clear hb1
    go_wp2_with fail
    refine (unhide HN _).mono ?_
    rintro e w2 ⟨rfl, rfl⟩
    go_wp2_with fail
    refine (unhide HM _).mono ?_
    rintro e w3 ⟨rfl, rfl⟩
    go_wp2_with fail
    refine (new_num _ _ hk0 _).mono ?_
    rintro e w4 ⟨rfl, rfl⟩
    have HB3 := hide ((unhide HB1).alloc (unhide HB1).size (.cells #[.string ⟨#[120]⟩, .iface 24 (.int .i64 k)] 46))
    have HC3 : Hid (Chain (w3.alloc (.cells #[.string ⟨#[120]⟩, .iface 24 (.int .i64 k)] 46)) (.iface 24 (.int .i64 k)) [⟨#[120]⟩] (.iface 44 (.pointer (some ⟨w3.heap.size, 0, none⟩)))) := ⟨_, _, rfl, by simp, by simp, rfl⟩
    generalize w3.alloc (.cells #[.string ⟨#[120]⟩, .iface 24 (.int .i64 k)] 46) = w3 at *
    have HS : Hid (∃ qs, qs.length ≤ 16 ∧ Chain w3 (.iface 24 (.int .i64 k)) qs _) := ⟨_, by simp, unhide HC3⟩
    clear HC3
    go_wp2_with fail
    go_loopg [11, 12] 20 (fun g er i wr => (∃ qs, qs.length ≤ 16 ∧ Chain wr (.iface 24 (.int .i64 k)) qs er) ∧ Below w.heap.size w wr ∧ ∃ q : Nat, i = .int .i64 q ∧ q + g = 20)
    case atStart => exact ⟨unhide HS, unhide HB3, 0, rfl, rfl⟩
    case round =>
      obtain ⟨⟨qs, hql, hqc⟩, hqb, q, rfl, hq⟩ := hrel
      have HQ := hide hqc
      have HQB := hide hqb
      have HQG := hide (Glob.below (unhide HG) hqb)
      clear hqc hqb
      by_cases hlt : (q : Int) < r % 20
      · go_wp2_with fail
        refine (within_any r 20 _ (by omega) (by omega)).mono ?_
        rintro e w4 ⟨rfl, rfl⟩
        go_wp2_with fail
        refine (wrap_chain _ _ (Or.inl ⟨k, rfl⟩) qs hql _ _ (unhide HQG) (unhide HQ)).mono ?_
        rintro e w5 ⟨v5, rfl, hc5, hb5⟩
        have HC5 := hide hc5
        have HB5 := hide (Below.far (unhide HQB) hb5)
        clear hc5 hb5
        go_wp2_with fail
        go_roundg (gk - 1)
        case measure => omega
        case rel =>
          refine ⟨⟨_, ?_, unhide HC5⟩, unhide HB5, q + 1, by go_num, by omega⟩
          exact wrapped_le _ hql
      · obtain ⟨T, x, rfl⟩ := (unhide HQ).form (Or.inl ⟨k, rfl⟩)
        go_wp2_with fail
        refine (within_any r 20 _ (by omega) (by omega)).mono ?_
        rintro e w4 ⟨rfl, rfl⟩
        have HQ2 := hide ((unhide HQ).keep (keep_alloc w4 (.cells #[.int .i64 0] 24)))
        have HG2 := hide ((unhide HQG).alloc (.cells #[.int .i64 0] 24))
        go_wp2_with fail
        refine (as_num k qs _ ⟨w4.heap.size, 0, none⟩ (.int .i64 0) _ (unhide HG2) (unhide HQ2) (by simp) (by simp)).mono ?_
        rintro e w5 ⟨rfl, c5, hb5⟩
        have hb5' : Below w4.heap.size w4 w5 := Below.undo hb5
        have HB5 := hide (Below.far (unhide HQB) hb5')
        have HC5 := hide ((unhide HQ).keep (keep_below hb5'))
        have HG5 := hide (Glob.below (unhide HQG) hb5')
        clear hb5 hb5'
        go_wp2_with fail
        refine (is_num k k qs _ _ (unhide HC5)).mono ?_
        rintro e w6 ⟨rfl, rfl⟩
        go_wp2_with fail
        refine (is_num k j qs _ _ (unhide HC5)).mono ?_
        rintro e w7 ⟨rfl, rfl⟩
        go_wp2_with fail
        refine (fis_num k k hk0 qs _ _ (unhide HG5) (unhide HC5)).mono ?_
        rintro e w8 ⟨rfl, hb8⟩
        have HB8 := hide (Below.far (unhide HB5) hb8)
        have HC8 := hide ((unhide HC5).keep (keep_below hb8))
        have HG8 := hide (Glob.below (unhide HG5) hb8)
        clear hb8
        go_wp2_with fail
        refine (fis_num k j hk0 qs _ _ (unhide HG8) (unhide HC8)).mono ?_
        rintro e w9 ⟨rfl, hb9⟩
        have HB9 := hide (Below.far (unhide HB8) hb9)
        clear hb9
        go_wp2_with fail
        go_ret
        exact ⟨rfl, unhide HB9⟩
end Go.Proofs.YteabloaipoehoaaDoor
