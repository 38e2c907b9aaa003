/- synodallaw13: same: a contract, where both have the same votes. -/
import Derived.Test.YtijohafalcifpaaVSame
import Derived.Deep.RegionHeld3
import Derived.Deep.DrawnRows
namespace Go.Proofs.Ytijohafalcifpaa
open Go.RowKit Go.Maps
attribute [local go_sem ↓] Go.wp_at_zero Go.wp_at_succ

set_option maxRecDepth 20000 in
set_option maxHeartbeats 4000000 in
theorem vsame_eq {low base low2 base2 : Nat} (vs : List Vt) (n : Nat) (hn : vs.length = n) (hl : n ≤ 1000000) (a b : Option Addr) (ca cb : Nat) (w : World) (ha : VsR low base w a vs) (hb : VsR low2 base2 w b vs) :
    Calls Try.prog 16 #[.slice a n ca, .slice b n cb] w fun x w' => x = .returned (.bool true) ∧ Below w.heap.size w w' := by
  have HA := hide ha
  have HB := hide hb
  have HN := hide hn
  clear ha hb hn
  go_enter Try.func16, Try.ntmps16
  go_wp2_with fail
  go_loopw [5] (fun iv wr => ∃ k : Nat, k ≤ n ∧ iv = .int .i64 (k : Int) ∧ Below w.heap.size w wr) (fun iv _ => n - (intOf iv).toNat)
  case atStart => exact ⟨0, Nat.zero_le _, rfl, Below.refl _ _⟩
  case round =>
    obtain ⟨k, hk, rfl, hbel⟩ := hrel
    have B := hide hbel
    clear hbel
    by_cases hlt : k < n
    · obtain ⟨v, hv⟩ : ∃ v, vs[k]? = some v := ⟨_, List.getElem?_eq_getElem (by rw [unhide HN]; exact hlt)⟩
      obtain ⟨g, off, mo, mc, rfl, c0, c1, c2, c3, c4, c5, c6, c7, him, hml⟩ := ((unhide HA).below (unhide B)).at hv
      obtain ⟨g2, off2, mo2, mc2, rfl, d0, d1, d2, d3, d4, d5, d6, d7, him2, _⟩ := ((unhide HB).below (unhide B)).at hv
      have S0 : Hid ((fun Y => Y.cell? ⟨g, off + k * 8, none⟩ = some (.int .i64 v.slot) ∧ Y.cell? ⟨g, off + k * 8 + 1, none⟩ = some (.int .i64 v.ballot) ∧ Y.cell? ⟨g, off + k * 8 + 2, none⟩ = some (.int .i64 v.e.kind) ∧ Y.cell? ⟨g, off + k * 8 + 3, none⟩ = some (.int .i64 v.e.client) ∧ Y.cell? ⟨g, off + k * 8 + 4, none⟩ = some (.int .i64 v.e.seq) ∧ Y.cell? ⟨g, off + k * 8 + 5, none⟩ = some (.string v.e.text) ∧ Y.cell? ⟨g, off + k * 8 + 6, none⟩ = some (.slice mo v.e.ms.length mc) ∧ Y.cell? ⟨g, off + k * 8 + 7, none⟩ = some (.int .i64 v.e.dest) ∧ Y.cell? ⟨g2, off2 + k * 8, none⟩ = some (.int .i64 v.slot) ∧ Y.cell? ⟨g2, off2 + k * 8 + 1, none⟩ = some (.int .i64 v.ballot) ∧ Y.cell? ⟨g2, off2 + k * 8 + 2, none⟩ = some (.int .i64 v.e.kind) ∧ Y.cell? ⟨g2, off2 + k * 8 + 3, none⟩ = some (.int .i64 v.e.client) ∧ Y.cell? ⟨g2, off2 + k * 8 + 4, none⟩ = some (.int .i64 v.e.seq) ∧ Y.cell? ⟨g2, off2 + k * 8 + 5, none⟩ = some (.string v.e.text) ∧ Y.cell? ⟨g2, off2 + k * 8 + 6, none⟩ = some (.slice mo2 v.e.ms.length mc2) ∧ Y.cell? ⟨g2, off2 + k * 8 + 7, none⟩ = some (.int .i64 v.e.dest)) wr) := hide ⟨c0, c1, c2, c3, c4, c5, c6, c7, d0, d1, d2, d3, d4, d5, d6, d7⟩
      have SX : Hid (∀ Y, Below wr.heap.size wr Y → (fun Y => Y.cell? ⟨g, off + k * 8, none⟩ = some (.int .i64 v.slot) ∧ Y.cell? ⟨g, off + k * 8 + 1, none⟩ = some (.int .i64 v.ballot) ∧ Y.cell? ⟨g, off + k * 8 + 2, none⟩ = some (.int .i64 v.e.kind) ∧ Y.cell? ⟨g, off + k * 8 + 3, none⟩ = some (.int .i64 v.e.client) ∧ Y.cell? ⟨g, off + k * 8 + 4, none⟩ = some (.int .i64 v.e.seq) ∧ Y.cell? ⟨g, off + k * 8 + 5, none⟩ = some (.string v.e.text) ∧ Y.cell? ⟨g, off + k * 8 + 6, none⟩ = some (.slice mo v.e.ms.length mc) ∧ Y.cell? ⟨g, off + k * 8 + 7, none⟩ = some (.int .i64 v.e.dest) ∧ Y.cell? ⟨g2, off2 + k * 8, none⟩ = some (.int .i64 v.slot) ∧ Y.cell? ⟨g2, off2 + k * 8 + 1, none⟩ = some (.int .i64 v.ballot) ∧ Y.cell? ⟨g2, off2 + k * 8 + 2, none⟩ = some (.int .i64 v.e.kind) ∧ Y.cell? ⟨g2, off2 + k * 8 + 3, none⟩ = some (.int .i64 v.e.client) ∧ Y.cell? ⟨g2, off2 + k * 8 + 4, none⟩ = some (.int .i64 v.e.seq) ∧ Y.cell? ⟨g2, off2 + k * 8 + 5, none⟩ = some (.string v.e.text) ∧ Y.cell? ⟨g2, off2 + k * 8 + 6, none⟩ = some (.slice mo2 v.e.ms.length mc2) ∧ Y.cell? ⟨g2, off2 + k * 8 + 7, none⟩ = some (.int .i64 v.e.dest)) Y) := hide (fun Y hY => ⟨(hY.cell (blk_lt c0)).trans c0, (hY.cell (blk_lt c1)).trans c1, (hY.cell (blk_lt c2)).trans c2, (hY.cell (blk_lt c3)).trans c3, (hY.cell (blk_lt c4)).trans c4, (hY.cell (blk_lt c5)).trans c5, (hY.cell (blk_lt c6)).trans c6, (hY.cell (blk_lt c7)).trans c7, (hY.cell (blk_lt d0)).trans d0, (hY.cell (blk_lt d1)).trans d1, (hY.cell (blk_lt d2)).trans d2, (hY.cell (blk_lt d3)).trans d3, (hY.cell (blk_lt d4)).trans d4, (hY.cell (blk_lt d5)).trans d5, (hY.cell (blk_lt d6)).trans d6, (hY.cell (blk_lt d7)).trans d7⟩)
      have SE := hide (fun (Y : World) (hY : Below wr.heap.size wr Y) => rsame_one v.e mo mo2 mc mc2 Y hml (him.ints.below hY) (him2.ints.below hY))
      have hq : (k : Int) < (n : Int) := by omega
      have ns : (v.slot != v.slot) = false := by simp
      have nb : (v.ballot != v.ballot) = false := by simp
      have EZ := hide ((Below.refl wr.heap.size wr).drew)
      clear him him2 hv c0 c1 c2 c3 c4 c5 c6 c7 d0 d1 d2 d3 d4 d5 d6 d7
      go_wp2_with fail
      go_region_held3 (fun Y => Y.cell? ⟨g, off + k * 8, none⟩ = some (.int .i64 v.slot) ∧ Y.cell? ⟨g, off + k * 8 + 1, none⟩ = some (.int .i64 v.ballot) ∧ Y.cell? ⟨g, off + k * 8 + 2, none⟩ = some (.int .i64 v.e.kind) ∧ Y.cell? ⟨g, off + k * 8 + 3, none⟩ = some (.int .i64 v.e.client) ∧ Y.cell? ⟨g, off + k * 8 + 4, none⟩ = some (.int .i64 v.e.seq) ∧ Y.cell? ⟨g, off + k * 8 + 5, none⟩ = some (.string v.e.text) ∧ Y.cell? ⟨g, off + k * 8 + 6, none⟩ = some (.slice mo v.e.ms.length mc) ∧ Y.cell? ⟨g, off + k * 8 + 7, none⟩ = some (.int .i64 v.e.dest) ∧ Y.cell? ⟨g2, off2 + k * 8, none⟩ = some (.int .i64 v.slot) ∧ Y.cell? ⟨g2, off2 + k * 8 + 1, none⟩ = some (.int .i64 v.ballot) ∧ Y.cell? ⟨g2, off2 + k * 8 + 2, none⟩ = some (.int .i64 v.e.kind) ∧ Y.cell? ⟨g2, off2 + k * 8 + 3, none⟩ = some (.int .i64 v.e.client) ∧ Y.cell? ⟨g2, off2 + k * 8 + 4, none⟩ = some (.int .i64 v.e.seq) ∧ Y.cell? ⟨g2, off2 + k * 8 + 5, none⟩ = some (.string v.e.text) ∧ Y.cell? ⟨g2, off2 + k * 8 + 6, none⟩ = some (.slice mo2 v.e.ms.length mc2) ∧ Y.cell? ⟨g2, off2 + k * 8 + 7, none⟩ = some (.int .i64 v.e.dest)) (first | with_reducible exact unhide S0 | with_reducible exact unhide SX _ (unhide EZ) | with_reducible exact unhide SX _ (unhide EZ).drew | exact unhide S0 | fail) (first | (go_at_call 21; refine (unhide SE _ (unhide EZ)).mono ?_; rintro x w2 ⟨rfl, b2⟩; have B2 := hide (below_far (unhide B).drew b2); have E2 := below_far (unhide EZ) b2; clear b2 EZ; have EZ := hide E2; clear E2) | fail)
      all_goals clear S0 SX
      all_goals go_wp2
      all_goals (
        go_roundw
        case rel => exact ⟨k + 1, by omega, by go_num, unhide B2⟩
        case measure => simp [intOf]; omega)
    · obtain rfl : k = n := by omega
      go_wp2
      go_ret
      exact ⟨rfl, unhide B⟩
end Go.Proofs.Ytijohafalcifpaa
