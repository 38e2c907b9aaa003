/- synodallaw17's few and same: contracts. -/
import Derived.Test.YtgllokinadjiaaaGreatDoorSXSave
import Derived.Test.YtgllokinadjiaaaGreatDoorSAdd2
import Derived.Test.YtgllokinadjiaaaGreatDoorSKnown
namespace Go.Proofs.YtgllokinadjiaaaGreatDoor
open Go.RowKit Go.Maps
attribute [local go_sem ↓] Go.wp_at_zero Go.wp_at_succ

set_option maxRecDepth 20000 in
theorem few17_any (xo mo : Option Addr) (xn xc m mc : Nat) (w : World) :
    Calls Tryz.prog 6 #[.agg #[.slice xo xn xc, .slice mo m mc]] w fun x w' => x = .returned (.bool (decide (xn < 30 ∧ m < 30))) ∧ Below w.heap.size w w' := by
  obtain ⟨W, hW, bW, xW, -⟩ := boxed w (.slice xo xn xc) (.slice mo m mc)
  have k0 : W.cell? ⟨w.heap.size, 0, none⟩ = some (.slice xo xn xc) := (cell_of_block xW).trans rfl
  have k1 : W.cell? ⟨w.heap.size, 1, none⟩ = some (.slice mo m mc) := (cell_of_block xW).trans rfl
  have HW := hide hW
  have BW := hide bW
  clear hW xW bW
  by_cases h1 : xn < 30
  · have q1 : (xn : Int) < 30 := by omega
    by_cases h2 : m < 30
    · have q2 : (m : Int) < 30 := by omega
      rw [decide_eq_true (And.intro h1 h2)]
      go_enter Tryz.func6, Tryz.ntmps6
      go_upto_region 1 with fail
      rw [unhide HW]
      go_wp2
      go_ret
      exact ⟨rfl, unhide BW⟩
    · have q2 : ¬ (m : Int) < 30 := by omega
      rw [decide_eq_false (fun h : xn < 30 ∧ m < 30 => h2 h.2)]
      go_enter Tryz.func6, Tryz.ntmps6
      go_upto_region 1 with fail
      rw [unhide HW]
      go_wp2
      go_ret
      exact ⟨rfl, unhide BW⟩
  · have q1 : ¬ (xn : Int) < 30 := by omega
    rw [decide_eq_false (fun h : xn < 30 ∧ m < 30 => h1 h.1)]
    go_enter Tryz.func6, Tryz.ntmps6
    go_upto_region 1 with fail
    rw [unhide HW]
    go_wp2
    go_ret
    exact ⟨rfl, unhide BW⟩
set_option maxRecDepth 20000 in
set_option maxHeartbeats 2000000 in
/-- the same generations, as the code and as the document have them. -/
theorem lsame_eq {D F : Nat → Prop} {base : Nat} (gs : List Gn) (n : Nat) (hn : gs.length = n) (hl : n ≤ 1000000) (a b : Option Addr) (ca cb : Nat) (w : World) (ha : GRow D w (.slice a n ca) gs) (hb : XGs F base w (.slice b n cb) gs) :
    Calls Tryz.prog 16 #[.slice a n ca, .slice b n cb] w fun x w' => x = .returned (.bool true) ∧ Below w.heap.size w w' := by
  have HA := hide ha
  have HB := hide hb
  have HN := hide hn
  clear ha hb hn
  go_enter Tryz.func16, Tryz.ntmps16
  go_wp2_with fail
  go_loopw [5, 4] (fun iv _ wr => ∃ k : Nat, k ≤ n ∧ iv = .int .i64 (k : Int) ∧ Below w.heap.size w wr) (fun iv _ _ => n - (intOf iv).toNat)
  case atStart => exact ⟨0, Nat.zero_le _, rfl, Below.refl _ _⟩
  case round =>
    obtain ⟨k, hk, rfl, hbel⟩ := hrel
    have B := hide hbel
    clear hbel
    by_cases hlt : k < n
    · obtain ⟨g, hg⟩ : ∃ g, gs[k]? = some g := ⟨_, List.getElem?_eq_getElem (by rw [unhide HN]; exact hlt)⟩
      have bd := (unhide B).drew
      obtain ⟨ba, mo, mc, rfl, -, c0, c1, c2, c3, c4, o4, -, l4⟩ := ((unhide HA).below bd).at hg
      obtain ⟨bb, oo, oc, no, nc, rfl, d0, d1, d2, d3, d4, him, -⟩ := ((unhide HB).below bd).at hg
      obtain ⟨ao', ca', e, hfr, -⟩ := o4.slice
      cases e
      have SE := xsame_old g g mo no oo g.ms.length g.ms.length mc nc oc rfl rfl (by omega) wr.drew hfr.1 him.ints
      rw [gsame_self] at SE
      have SE' := hide SE
      have hq : (k : Int) < (n : Int) := by omega
      clear bd o4 him hg hfr SE
      go_wp2_with fail
      go_region_with (go_at_call 14; refine (unhide SE').mono ?_; rintro x w2 ⟨rfl, b2⟩; have B2 := hide (below_far (unhide B).drew b2); clear b2)
      all_goals clear c0 c1 c2 c3 c4 d0 d1 d2 d3 d4
      all_goals go_wp2
      all_goals (
        go_roundw
        case rel => exact ⟨k + 1, by omega, by go_num, unhide B2⟩
        case measure => simp [intOf]; omega)
    · obtain rfl : k = n := by omega
      go_wp2
      go_ret
      exact ⟨rfl, unhide B⟩
end Go.Proofs.YtgllokinadjiaaaGreatDoor
