/- The law FaultBare, walked: it answers true; memory that was there is as it was. -/
import Derived.Test.YteabloaipoehoaaDoorLists
namespace Go.Proofs.YteabloaipoehoaaDoor
open Go.RowKit Go.Extern.Stop Go.Stop Go.Extern

set_option maxHeartbeats 2000000 in
theorem bare_walk (n : Int) (t s : ByteArray) (w : World) (hg : Glob w) :
    Calls Tryd.prog 6 #[.int .i64 n, .string t, .string s] w fun e w' => e = .returned (.bool true) ∧ Below w.heap.size w w' := by
  have hb := Int.emod_nonneg n (show (19 : Int) ≠ 0 by omega)
  have hl := Int.emod_lt_of_pos n (show (0 : Int) < 19 by omega)
  have HG := hide hg
  clear hg
  go_enter Tryd.func6, Tryd.ntmps6
  go_wp2_with fail
  refine (known_true w (unhide HG)).mono ?_
  rintro e w1 ⟨rfl, hb1⟩
  have HB1 := hide hb1
  clear hb1
  by_cases hlen : 200 < wrap64 ((t.size : Int) + (s.size : Int))
  · go_wp2_with fail
    go_ret
    exact ⟨rfl, unhide HB1⟩
  · go_wp2_with fail
    refine (number_any _ _).mono ?_
    rintro e w2 ⟨rfl, rfl⟩
    have hn0 : (1 + n % 19 == 0) = false := beq_eq_false_iff_ne.2 (by omega)
    generalize 1 + n % 19 = k at *
    go_wp2_with fail
    refine (plain_new _ _).mono ?_
    rintro e w3 ⟨rfl, rfl⟩
    have HG3 := hide ((Glob.below (unhide HG) (unhide HB1)).alloc (.cells #[.string t] 64))
    have HB3 := hide ((unhide HB1).alloc (unhide HB1).size (.cells #[.string t] 64))
    generalize hx : Value.pointer (some ⟨w2.heap.size, 0, none⟩) = x at *
    have HX := hide hx
    clear hx
    generalize w2.alloc (.cells #[.string t] 64) = w3 at *
    go_wp2_with fail
    refine (wrap_chain s (.iface 24 (.int .i64 k)) (Or.inl ⟨k, rfl⟩) [] (by decide) _ _ (unhide HG3) rfl).mono ?_
    rintro e w4 ⟨v4, rfl, hc4, hb4⟩
    have HC4 : Hid (Chain w4 (.iface 24 (.int .i64 k)) [s] v4) := hc4
    have HB4 := hide (Below.far (unhide HB3) hb4)
    have HG4 := hide (Glob.below (unhide HG3) hb4)
    clear hc4 hb4
    go_wp2_with fail
    refine (where_chain _ (Or.inl ⟨k, rfl⟩) [s] (by simp) _ _ (unhide HG4) (unhide HC4)).mono ?_
    rintro e w5 ⟨l5, rfl, ho5, hb5⟩
    obtain ⟨g5, cap5, rfl, hg5, hz5, hcap5, hcell5⟩ := own_list ho5 (by simp)
    have c5 : Hid (w5.cell? ⟨g5, 0, none⟩ = some (.string s)) := hcell5 0 (by simp)
    have HB5 := hide (Below.far (unhide HB4) hb5)
    have HG5 := hide (Glob.below (unhide HG4) hb5)
    have Z5 := hide hz5
    clear ho5 hb5 hcell5 hg5 hz5
    go_wp2_with fail
    refine (wrap_chain s (.iface 62 x) (Or.inr ⟨x, rfl⟩) [] (by decide) _ _ (unhide HG5) rfl).mono ?_
    rintro e w6 ⟨v6, rfl, hc6, hb6⟩
    have HC6 : Hid (Chain w6 (.iface 62 x) [s] v6) := hc6
    have HB6 := hide (Below.far (unhide HB5) hb6)
    have HG6 := hide (Glob.below (unhide HG5) hb6)
    have c6 : Hid (w6.cell? ⟨g5, 0, none⟩ = some (.string s)) := keep_below hb6 _ _ _ (unhide c5)
    clear hc6 hb6
    go_wp2_with fail
    refine (where_chain _ (Or.inr ⟨x, rfl⟩) [s] (by simp) _ _ (unhide HG6) (unhide HC6)).mono ?_
    rintro e w7 ⟨l7, rfl, ho7, hb7⟩
    obtain ⟨g7, cap7, rfl, hg7, hz7, hcap7, hcell7⟩ := own_list ho7 (by simp)
    have d7 : Hid (w7.cell? ⟨g7, 0, none⟩ = some (.string s)) := hcell7 0 (by simp)
    have c7 : Hid (w7.cell? ⟨g5, 0, none⟩ = some (.string s)) := keep_below hb7 _ _ _ (unhide c6)
    have HB7 := hide (Below.far (unhide HB6) hb7)
    have HG7 := hide (Glob.below (unhide HG6) hb7)
    clear ho7 hb7 hcell7 hg7 hz7
    go_wp2_with fail
    refine (kind_num k hn0 [] _ _ (unhide HG7) rfl).mono ?_
    rintro e w8 ⟨rfl, hb8⟩
    have HB8 := hide (Below.far (unhide HB7) hb8)
    have HG8 := hide (Glob.below (unhide HG7) hb8)
    have c8 : Hid (w8.cell? ⟨g5, 0, none⟩ = some (.string s)) := keep_below hb8 _ _ _ (unhide c7)
    have d8 : Hid (w8.cell? ⟨g7, 0, none⟩ = some (.string s)) := keep_below hb8 _ _ _ (unhide d7)
    clear hb8
    go_wp2_with fail
    refine (where_chain (.iface 24 (.int .i64 k)) (Or.inl ⟨k, rfl⟩) [] (by decide) _ _ (unhide HG8) rfl).mono ?_
    rintro e w9 ⟨l9, rfl, ho9, hb9⟩
    obtain ⟨ao9, cap9, rfl⟩ := own_shape ho9
    have HB9 := hide (Below.far (unhide HB8) hb9)
    have HG9 := hide (Glob.below (unhide HG8) hb9)
    have c9 : w9.cell? ⟨g5, 0, none⟩ = some (.string s) := keep_below hb9 _ _ _ (unhide c8)
    have d9 : Hid (w9.cell? ⟨g7, 0, none⟩ = some (.string s)) := keep_below hb9 _ _ _ (unhide d8)
    clear hb9 ho9
    go_wp2_with fail
    refine (kind_plain x [] _ _ (unhide HG9) rfl).mono ?_
    rintro e w10 ⟨rfl, hb10⟩
    have HB10 := hide (Below.far (unhide HB9) hb10)
    have HG10 := hide (Glob.below (unhide HG9) hb10)
    have d10 : Hid (w10.cell? ⟨g7, 0, none⟩ = some (.string s)) := keep_below hb10 _ _ _ (unhide d9)
    clear hb10 c9
    go_wp2_with fail
    refine (wrap_chain s (.iface 62 x) (Or.inr ⟨x, rfl⟩) [] (by decide) _ _ (unhide HG10) rfl).mono ?_
    rintro e w11 ⟨v11, rfl, hc11, hb11⟩
    have HC11 : Hid (Chain w11 (.iface 62 x) [s] v11) := hc11
    have HB11 := hide (Below.far (unhide HB10) hb11)
    have HG11 := hide (Glob.below (unhide HG10) hb11)
    have d11 : Hid (w11.cell? ⟨g7, 0, none⟩ = some (.string s)) := keep_below hb11 _ _ _ (unhide d10)
    clear hb11 hc11
    go_wp2_with fail
    refine (kind_plain x [s] _ _ (unhide HG11) (unhide HC11)).mono ?_
    rintro e w12 ⟨rfl, hb12⟩
    have HB12 := hide (Below.far (unhide HB11) hb12)
    have HG12 := hide (Glob.below (unhide HG11) hb12)
    have d12 : w12.cell? ⟨g7, 0, none⟩ = some (.string s) := keep_below hb12 _ _ _ (unhide d11)
    clear hb12
    go_wp2_with fail
    refine (fis_plain x 12 [] _ _ (unhide HG12) rfl).mono ?_
    rintro e w13 ⟨rfl, hb13⟩
    have HB13 := hide (Below.far (unhide HB12) hb13)
    clear hb13
    go_wp2_with fail
    go_ret
    exact ⟨rfl, unhide HB13⟩
end Go.Proofs.YteabloaipoehoaaDoor
