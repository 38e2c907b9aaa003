/- The law FaultNone, walked: it answers true; memory that was there is as it was. -/
import Derived.Test.YteabloaipoehoaaDoorWrap
namespace Go.Proofs.YteabloaipoehoaaDoor
open Go.RowKit Go.Extern.Stop Go.Stop Go.Extern

set_option maxHeartbeats 1000000 in
theorem none_walk (s : ByteArray) (hs : s.size ≤ maxLen) (n : Int) (w : World) (hg : Glob w) :
    Calls Tryd.prog 5 #[.string s, .int .i64 n] w fun e w' => e = .returned (.bool true) ∧ Below w.heap.size w w' := by
  unfold maxLen at hs
  have hb := Int.emod_nonneg n (show (20 : Int) ≠ 0 by omega)
  have hl := Int.emod_lt_of_pos n (show (0 : Int) < 20 by omega)
  go_enter Tryd.func5, Tryd.ntmps5
  go_wp2_with fail
  refine (known_true w hg).mono ?_
  rintro e w1 ⟨rfl, hb1⟩
  have HB1 := hide hb1
  clear hb1
  by_cases hlen : 100 < (s.size : Int)
  · go_wp2_with fail
    go_ret
    exact ⟨rfl, unhide HB1⟩
  · go_wp2_with fail
    refine (new_ok _ _).mono ?_
    rintro e w2 ⟨rfl, rfl⟩
    go_wp2_with fail
    go_loopg [5, 6] 20 (fun k er i wr => wr = w2 ∧ er = .nilIface ∧ ∃ j : Nat, i = .int .i64 j ∧ j + k = 20)
    case atStart => exact ⟨rfl, rfl, 0, rfl, rfl⟩
    case round =>
      obtain ⟨rfl, rfl, j, rfl, hj⟩ := hrel
      by_cases hlt : (j : Int) < n % 20
      · go_wp2_with (first
          | (go_at_call 15; refine (within_any n 20 _ (by omega) (by omega)).mono ?_; rintro e w' ⟨rfl, rfl⟩)
          | (go_at_call 12; refine (wrap_nil _ _).mono ?_; rintro e w' ⟨rfl, rfl⟩))
        go_roundg (gk - 1)
        case measure => omega
        case rel => exact ⟨rfl, rfl, j + 1, by go_num, by omega⟩
      · go_wp2_with (go_at_call 15; refine (within_any n 20 _ (by omega) (by omega)).mono ?_; rintro e w' ⟨rfl, rfl⟩)
        refine (kind_nil _).mono ?_
        rintro e w3 ⟨rfl, rfl⟩
        go_wp2_with fail
        refine (where_nil _).mono ?_
        rintro e w4 ⟨rfl, hb4⟩
        have HB4 := hide hb4
        clear hb4
        go_wp2_with fail
        refine (fis_nil _ _).mono ?_
        rintro e w5 ⟨rfl, rfl⟩
        go_wp2_with fail
        refine (fis_nil _ _).mono ?_
        rintro e w6 ⟨rfl, rfl⟩
        go_wp2_with fail
        go_ret
        exact ⟨rfl, (unhide HB1).trans ((unhide HB4).mono (unhide HB1).size)⟩
end Go.Proofs.YteabloaipoehoaaDoor
