/- The law FaultWords, walked: it answers true; memory that was there is as it was. -/
import Derived.Test.YteabloaipoehoaaDoorLists
namespace Go.Proofs.YteabloaipoehoaaDoor
open Go.RowKit Go.Extern.Stop Go.Stop Go.Extern

set_option maxHeartbeats 2000000 in
theorem words_walk (n m : Int) (a b : ByteArray) (w : World) (hg : Glob w) :
    Calls Tryd.prog 7 #[.int .i64 n, .int .i64 m, .string a, .string b] w fun e w' => e = .returned (.bool true) ∧ Below w.heap.size w w' := by
  have hb := Int.emod_nonneg n (show (19 : Int) ≠ 0 by omega)
  have hl := Int.emod_lt_of_pos n (show (0 : Int) < 19 by omega)
  have hb' := Int.emod_nonneg m (show (19 : Int) ≠ 0 by omega)
  have hl' := Int.emod_lt_of_pos m (show (0 : Int) < 19 by omega)
  have HG := hide hg
  clear hg
  have hk0 : (1 + n % 19 == 0) = false := beq_eq_false_iff_ne.2 (by omega)
  have hj0 : (1 + m % 19 == 0) = false := beq_eq_false_iff_ne.2 (by omega)
  have hN := number_any n
  have hM := number_any m
  generalize 1 + n % 19 = k at *
  generalize 1 + m % 19 = j at *
  clear hb hl hb' hl'
  have HN := hide hN
  have HM := hide hM
  clear hN hM
  go_enter Tryd.func7, Tryd.ntmps7
  go_wp2_with fail
  refine (known_true w (unhide HG)).mono ?_
  rintro e w1 ⟨rfl, hb1⟩
  have HB1 := hide hb1
  clear hb1
  by_cases hlen : 200 < wrap64 ((a.size : Int) + (b.size : Int))
  · go_wp2_with fail
    go_ret
    exact ⟨rfl, unhide HB1⟩
  · go_wp2_with fail
    refine (unhide HN _).mono ?_
    rintro e w2 ⟨rfl, rfl⟩
    go_wp2_with fail
    refine (new_num _ _ hk0 _).mono ?_
    rintro e w3 ⟨rfl, rfl⟩
    have HG3 := hide ((Glob.below (unhide HG) (unhide HB1)).alloc (.cells #[.string a, .iface 24 (.int .i64 k)] 46))
    have HB3 := hide ((unhide HB1).alloc (unhide HB1).size (.cells #[.string a, .iface 24 (.int .i64 k)] 46))
    have HC3 : Hid (Chain (w2.alloc (.cells #[.string a, .iface 24 (.int .i64 k)] 46)) (.iface 24 (.int .i64 k)) [a] (.iface 44 (.pointer (some ⟨w2.heap.size, 0, none⟩)))) := ⟨_, _, rfl, by simp, by simp, rfl⟩
    generalize hx : Value.pointer (some ⟨w2.heap.size, 0, none⟩) = x at *
    have HX := hide hx
    clear hx
    generalize w2.alloc (.cells #[.string a, .iface 24 (.int .i64 k)] 46) = w3 at *
    go_wp2_with fail
    refine (unhide HM _).mono ?_
    rintro e w4 ⟨rfl, rfl⟩
    go_wp2_with fail
    refine (new_num _ _ hj0 _).mono ?_
    rintro e w5 ⟨rfl, rfl⟩
    have HG5 := hide ((unhide HG3).alloc (.cells #[.string a, .iface 24 (.int .i64 j)] 46))
    have HB5 := hide ((unhide HB3).alloc (unhide HB3).size (.cells #[.string a, .iface 24 (.int .i64 j)] 46))
    have HC5 : Hid (Chain (w4.alloc (.cells #[.string a, .iface 24 (.int .i64 j)] 46)) (.iface 24 (.int .i64 j)) [a] (.iface 44 (.pointer (some ⟨w4.heap.size, 0, none⟩)))) := ⟨_, _, rfl, by simp, by simp, rfl⟩
    have HD5 := hide ((unhide HC3).keep (keep_alloc w4 (.cells #[.string a, .iface 24 (.int .i64 j)] 46)))
    generalize hy : Value.pointer (some ⟨w4.heap.size, 0, none⟩) = y at *
    have HY := hide hy
    clear hy
    generalize w4.alloc (.cells #[.string a, .iface 24 (.int .i64 j)] 46) = w5 at *
    go_wp2_with fail
    refine (wrap_chain b _ (Or.inl ⟨j, rfl⟩) [a] (by simp) _ _ (unhide HG5) (unhide HC5)).mono ?_
    rintro e w6 ⟨v6, rfl, hc6, hb6⟩
    have HC6 : Hid (Chain w6 (.iface 24 (.int .i64 j)) [b, a] v6) := hc6
    have HB6 := hide (Below.far (unhide HB5) hb6)
    have HG6 := hide (Glob.below (unhide HG5) hb6)
    have HD6 := hide ((unhide HD5).keep (keep_below hb6))
    obtain ⟨T6, x6, rfl⟩ := (unhide HC6).form (Or.inl ⟨j, rfl⟩)
    clear hc6 hb6
    go_wp2_with fail
    refine (kind_num k hk0 [a] _ _ (unhide HG6) (unhide HD6)).mono ?_
    rintro e w7 ⟨rfl, hb7⟩
    have HC7 := hide ((unhide HC6).keep (keep_below hb7))
    have HB7 := hide (Below.far (unhide HB6) hb7)
    have HG7 := hide (Glob.below (unhide HG6) hb7)
    have HD7 := hide ((unhide HD6).keep (keep_below hb7))
    clear hb7
    go_wp2_with fail
    refine (fis_num k k hk0 [a] _ _ (unhide HG7) (unhide HD7)).mono ?_
    rintro e w8 ⟨rfl, hb8⟩
    have HC8 := hide ((unhide HC7).keep (keep_below hb8))
    have HB8 := hide (Below.far (unhide HB7) hb8)
    have HG8 := hide (Glob.below (unhide HG7) hb8)
    have HD8 := hide ((unhide HD7).keep (keep_below hb8))
    clear hb8
    go_wp2_with fail
    refine (kind_num j hj0 [b, a] _ _ (unhide HG8) (unhide HC8)).mono ?_
    rintro e w9 ⟨rfl, hb9⟩
    have HC9 := hide ((unhide HC8).keep (keep_below hb9))
    have HB9 := hide (Below.far (unhide HB8) hb9)
    have HG9 := hide (Glob.below (unhide HG8) hb9)
    have HD9 := hide ((unhide HD8).keep (keep_below hb9))
    clear hb9
    go_wp2_with fail
    refine (fis_num j j hj0 [b, a] _ _ (unhide HG9) (unhide HC9)).mono ?_
    rintro e w10 ⟨rfl, hb10⟩
    have HC10 := hide ((unhide HC9).keep (keep_below hb10))
    have HB10 := hide (Below.far (unhide HB9) hb10)
    have HG10 := hide (Glob.below (unhide HG9) hb10)
    have HD10 := hide ((unhide HD9).keep (keep_below hb10))
    clear hb10
    go_wp2_with fail
    refine (kind_num j hj0 [b, a] _ _ (unhide HG10) (unhide HC10)).mono ?_
    rintro e w11 ⟨rfl, hb11⟩
    have HC11 := hide ((unhide HC10).keep (keep_below hb11))
    have HB11 := hide (Below.far (unhide HB10) hb11)
    have HG11 := hide (Glob.below (unhide HG10) hb11)
    have HD11 := hide ((unhide HD10).keep (keep_below hb11))
    clear hb11
    go_wp2_with fail
    refine (fis_num k j hk0 [a] _ _ (unhide HG11) (unhide HD11)).mono ?_
    rintro e w12 ⟨rfl, hb12⟩
    have HC12 := hide ((unhide HC11).keep (keep_below hb12))
    have HB12 := hide (Below.far (unhide HB11) hb12)
    have HG12 := hide (Glob.below (unhide HG11) hb12)
    have HD12 := hide ((unhide HD11).keep (keep_below hb12))
    clear hb12
    go_wp2_with fail
    refine (unhide HN _).mono ?_
    rintro e w13 ⟨rfl, rfl⟩
    go_wp2_with fail
    refine (unhide HM _).mono ?_
    rintro e w14 ⟨rfl, rfl⟩
    go_wp2_with fail
    refine (fis_num k 0 hk0 [a] _ _ (unhide HG12) (unhide HD12)).mono ?_
    rintro e w15 ⟨rfl, hb15⟩
    have HC15 := hide ((unhide HC12).keep (keep_below hb15))
    have HB15 := hide (Below.far (unhide HB12) hb15)
    have HG15 := hide (Glob.below (unhide HG12) hb15)
    clear hb15
    go_wp2_with fail
    refine (fis_num j 0 hj0 [b, a] _ _ (unhide HG15) (unhide HC15)).mono ?_
    rintro e w16 ⟨rfl, hb16⟩
    have HB16 := hide (Below.far (unhide HB15) hb16)
    clear hb16
    go_wp2_with fail
    go_ret
    exact ⟨rfl, unhide HB16⟩
end Go.Proofs.YteabloaipoehoaaDoor
