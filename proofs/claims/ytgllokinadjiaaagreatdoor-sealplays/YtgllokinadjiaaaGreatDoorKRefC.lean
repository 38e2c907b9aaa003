/- The reference's Check: a contract. -/
import Derived.Test.YtgllokinadjiaaaGreatDoorKRefO
namespace Go.Proofs.YtgllokinadjiaaaGreatDoor
open Go.RowKit

theorem wrong_true {new : List Int} (h : new ≠ []) : wrongOf true new = wrongOf false new := by
  have e2 : ¬ (false = true ∧ new = []) := by simp
  have e1 : ¬ (true = true ∧ new = []) := fun e => h e.2
  unfold wrongOf
  rw [if_neg e1, if_neg e2]
theorem check_new {old new : List Int} (h : wrongOf false old = 0) (hn : new ≠ []) : checkOf old new = wrongOf false new := by
  unfold checkOf
  rw [if_pos h, wrong_true hn]
theorem check_none {old : List Int} (h : wrongOf false old = 0) : checkOf old [] = 2 := by
  unfold checkOf
  rw [if_pos h]; rfl
theorem check_old {old new : List Int} (h : ¬ wrongOf false old = 0) : checkOf old new = wrongOf false old := if_neg h

set_option maxHeartbeats 1000000 in
theorem rcheck_any (ao an : Option Addr) (no nn co cn : Nat) (old new : List Int) (hno : old.length = no) (hnn : new.length = nn) (hlo : no ≤ 1000000000) (hln : nn ≤ 1000000000) (w : World) (ho : IntsR w ao old) (hw : IntsR w an new) :
    Calls Tryz.prog 29 #[.agg #[.slice ao no co, .slice an nn cn]] w fun e w' => e = .returned (.int .i64 ((checkOf old new : Nat) : Int)) ∧ Below w.heap.size w w' := by
  obtain ⟨W, hW, bW, xW, -⟩ := boxed w (.slice ao no co) (.slice an nn cn)
  have W0 := hide (fun (Y : World) (h : Below W.heap.size W Y) => one_any ao no co old hno hlo Y ((ho.below bW).below h))
  have W1 := hide (fun (Y : World) (h : Below W.heap.size W Y) => one_any an nn cn new hnn hln Y ((hw.below bW).below h))
  obtain ⟨R, hR⟩ : ∃ R, checkOf old new = R := ⟨_, rfl⟩
  rw [hR]
  obtain ⟨r0, h0⟩ : ∃ r0, wrongOf false old = r0 := ⟨_, rfl⟩
  obtain ⟨r1, h1⟩ : ∃ r1, wrongOf false new = r1 := ⟨_, rfl⟩
  have HO : Hid (¬ r0 = 0 → r0 = R) := fun h => by rw [← hR, check_old (by rw [h0]; exact h), h0]
  have HN : Hid (r0 = 0 → ¬ nn = 0 → r1 = R) := fun h hz => by rw [← hR, check_new (h0.trans h) (fun e => hz (by rw [← hnn, e]; rfl)), h1]
  have HZ : Hid (r0 = 0 → nn = 0 → r1 = 0 ∧ 2 = R) := fun h hz => by
    have e : new = [] := List.eq_nil_of_length_eq_zero (by omega)
    rw [← hR, ← h1, e, check_none (h0.trans h)]; exact ⟨rfl, rfl⟩
  rw [h0] at W0
  rw [h1] at W1
  have HW := hide hW
  have BW := hide bW
  have XW := hide xW
  clear hW bW xW hR h0 h1 ho hw hno hnn
  go_enter Tryz.func29, Tryz.ntmps29
  go_wp2_with fail
  rw [unhide HW]
  refine (unhide W0 _ (Below.refl _ _)).mono ?_
  rintro e w1 ⟨rfl, b1⟩
  have E1 := hide b1
  have B1 := hide ((unhide BW).trans (b1.mono (unhide BW).size))
  obtain ⟨c0, c1⟩ := two_cells (Below.stay b1 (unhide XW))
  clear b1 HW
  by_cases hz : r0 = 0
  · have HN2 := hide (unhide HN hz)
    have HZ2 := hide (unhide HZ hz)
    clear HO HN HZ
    subst hz
    go_wp2_with fail
    refine (unhide W1 _ (unhide E1)).mono ?_
    rintro e w2 ⟨rfl, b2⟩
    have E2 := hide ((unhide E1).trans (b2.mono (unhide E1).size))
    have B2 := hide ((unhide B1).trans (b2.mono (unhide B1).size))
    clear c0 c1
    obtain ⟨c0, c1⟩ := two_cells (Below.stay (unhide E2) (unhide XW))
    clear b2 E1 B1
    by_cases hn0 : nn = 0
    · obtain ⟨rfl, rfl⟩ := unhide HZ2 hn0
      subst hn0
      clear HN2 HZ2
      go_wp2
      go_ret
      exact ⟨rfl, unhide B2⟩
    · obtain rfl := unhide HN2 hn0
      have hn0' : ((nn : Int) == 0) = false := by simp; omega
      clear HN2 HZ2 hn0
      by_cases h1 : r1 = 0
      · subst h1
        go_wp2
        go_ret
        exact ⟨rfl, unhide B2⟩
      · have h1' : ((r1 : Int) != 0) = true := by rw [bne_iff_ne]; omega
        clear h1
        go_wp2_with fail
        refine (unhide W1 _ (unhide E2)).mono ?_
        rintro e w3 ⟨rfl, b3⟩
        have B3 := hide ((unhide B2).trans (b3.mono (unhide B2).size))
        clear b3
        go_wp2
        go_ret
        exact ⟨rfl, unhide B3⟩
  · have hz' : ((r0 : Int) != 0) = true := by rw [bne_iff_ne]; omega
    obtain rfl := unhide HO hz
    clear HO HN HZ hz
    go_wp2_with fail
    refine (unhide W0 _ (unhide E1)).mono ?_
    rintro e w2 ⟨rfl, b2⟩
    have B2 := hide ((unhide B1).trans (b2.mono (unhide B1).size))
    clear b2
    go_wp2
    go_ret
    exact ⟨rfl, unhide B2⟩
end Go.Proofs.YtgllokinadjiaaaGreatDoor
