/- The law FaultWraps, walked: it answers true; memory that was there is as it was. -/
import Derived.Test.YteabloaipoehoaaDoorLists
import Derived.BigQuiet
import Derived.Deep.QuietTactic
namespace Go.Proofs.YteabloaipoehoaaDoor
open Go.RowKit Go.Extern.Stop Go.Stop Go.Extern

theorem wraps_none (n : Int) (a : Option Addr) (cap : Nat) (w : World) (hg : Glob w) :
    Calls Tryd.prog 3 #[.int .i64 n, .slice a 0 cap] w fun e w' => e = .returned (.bool true) ∧ Below w.heap.size w w' := by
  go_enter Tryd.func3, Tryd.ntmps3
  go_wp2_with fail
  refine (known_true w hg).mono ?_
  rintro e w1 ⟨rfl, hb1⟩
  go_wp2_with fail
  go_ret
  exact ⟨rfl, hb1⟩

theorem wraps_many (n : Int) (a : Option Addr) (len cap : Nat) (hl : 30 < (len : Int)) (w : World) (hg : Glob w) :
    Calls Tryd.prog 3 #[.int .i64 n, .slice a len cap] w fun e w' => e = .returned (.bool true) ∧ Below w.heap.size w w' := by
  have h0 : ((len : Int) == 0) = false := beq_eq_false_iff_ne.2 (by omega)
  go_enter Tryd.func3, Tryd.ntmps3
  go_wp2_with fail
  refine (known_true w hg).mono ?_
  rintro e w1 ⟨rfl, hb1⟩
  go_wp2_with fail
  go_ret
  exact ⟨rfl, hb1⟩

theorem own_new (w : World) (B : Nat) (hB : B ≤ w.heap.size) (s : ByteArray) : (w.alloc (.cells #[.string s] 9)).ownsRow B 9 1 (.slice (some ⟨w.heap.size, 0, none⟩) 1 1) [s].length ([s].map Value.string) :=
  ⟨by simp, .inr ⟨w.heap.size, 1, #[.string s], rfl, hB, heap_alloc_new w _, by simp, by unfold maxLen; omega, by simp, by simp⟩⟩

theorem src_cells {w : World} {g : Nat} {ps : List ByteArray} (h : ∀ j (hj : j < ps.length), w.cell? ⟨g, j, none⟩ = some (.string ps[j])) (o : Obj) : ∀ j u, (ps.map Value.string)[j]? = some u → (w.alloc o).cell? ((⟨g, 0, none⟩ : Addr).add j) = some u := by
  intro j u hu
  rw [List.getElem?_map, Option.map_eq_some_iff] at hu
  obtain ⟨p, hp, rfl⟩ := hu
  obtain ⟨hj, rfl⟩ := List.getElem?_eq_some_iff.1 hp
  rw [Addr.add_lit, Nat.zero_add]
  exact keep_alloc _ _ _ _ _ (h j hj)

theorem strs_one (ps : List ByteArray) : ∀ u ∈ ps.map Value.string, u.oneCell' = true := by
  intro u hu
  obtain ⟨_, _, rfl⟩ := List.mem_map.1 hu
  rfl

theorem wrapped_le (s : ByteArray) {ps : List ByteArray} (h : ps.length ≤ 16) : (wrapped s ps).length ≤ 16 := by
  unfold wrapped
  split
  · simp; omega
  · exact h

set_option maxHeartbeats 2000000 in
theorem wraps_walk (n : Int) (b off len cap : Nat) (ss : List ByteArray) (h1 : 1 ≤ len) (h30 : len ≤ 30) (w : World) (hg : Glob w) (hss : ss.length = len)
    (hcell : ∀ j (hj : j < ss.length), w.cell? ⟨b, off + j, none⟩ = some (.string ss[j])) :
    Calls Tryd.prog 3 #[.int .i64 n, .slice (some ⟨b, off, none⟩) len cap] w fun e w' => e = .returned (.bool true) ∧ Below w.heap.size w w' := by
  obtain ⟨i0, hi, hz0, hz1, hz2⟩ := info_parts Tryd.info9
  have hl0 : ((len : Int) == 0) = false := beq_eq_false_iff_ne.2 (by omega)
  have hb := Int.emod_nonneg n (show (19 : Int) ≠ 0 by omega)
  have hk0 : (1 + n % 19 == 0) = false := beq_eq_false_iff_ne.2 (by omega)
  have hN := number_any n
  generalize 1 + n % 19 = k at *
  clear hb
  have HN := hide hN
  have HG := hide hg
  have HCell := hide hcell
  have HSS := hide hss
  clear hN hg hcell hss
  go_enter Tryd.func3, Tryd.ntmps3
  go_wp2_with fail
  refine (known_true w (unhide HG)).mono ?_
  rintro e w1 ⟨rfl, hb1⟩
  have HB1 := hide hb1
  have HG1 := hide (Glob.below (unhide HG) hb1)
  obtain ⟨s0, hs0⟩ : ∃ s0, w1.cell? ⟨b, off, none⟩ = some (.string s0) := ⟨_, keep_below hb1 _ _ _ ((unhide HCell) 0 (by have := unhide HSS; omega))⟩
  clear hb1
  go_wp2_with fail
  refine (unhide HN _).mono ?_
  rintro e w2 ⟨rfl, rfl⟩
  go_wp2_with fail
  refine (new_num _ _ hk0 _).mono ?_
  rintro e w3 ⟨rfl, rfl⟩
  have hs1 : (w2.alloc (.cells #[.string s0, .iface 24 (.int .i64 k)] 46)).cell? ⟨b, off, none⟩ = some (.string s0) := keep_alloc _ _ _ _ _ hs0
  have HC3 : Hid (Chain (w2.alloc (.cells #[.string s0, .iface 24 (.int .i64 k)] 46)) (.iface 24 (.int .i64 k)) [s0] (.iface 44 (.pointer (some ⟨w2.heap.size, 0, none⟩)))) := ⟨_, _, rfl, by simp, by simp, rfl⟩
  have HB3 := hide ((unhide HB1).alloc (unhide HB1).size (.cells #[.string s0, .iface 24 (.int .i64 k)] 46))
  generalize hx : Value.pointer (some ⟨w2.heap.size, 0, none⟩) = x at *
  clear hx hs0 HG1 HB1
  generalize w2.alloc (.cells #[.string s0, .iface 24 (.int .i64 k)] 46) = w3 at *
  have HC4 := hide ((unhide HC3).keep (keep_alloc w3 (.cells #[.string s0] 9)))
  have HB4 := hide ((unhide HB3).alloc (unhide HB3).size (.cells #[.string s0] 9))
  have HO4 := hide (own_new w3 w.heap.size (unhide HB3).size s0)
  go_wp2_with fail
  generalize hy : Value.slice (some ⟨w3.heap.size, 0, none⟩) 1 1 = y at *
  clear hy HC3 HB3 hs1
  generalize w3.alloc (.cells #[.string s0] 9) = w4 at *
  go_loopg [6, 7, 8] (len - 1) (fun g er wt i wr => ∃ q : Nat, i = .int .i64 q ∧ 1 ≤ q ∧ q + g = len ∧ ∃ ps : List ByteArray, 1 ≤ ps.length ∧ ps.length ≤ 16 ∧ Chain wr (.iface 24 (.int .i64 k)) ps er ∧ wr.ownsRow w.heap.size 9 1 wt ps.length (ps.map Value.string) ∧ Below w.heap.size w wr)
  case atStart => exact ⟨1, rfl, by omega, by omega, [s0], by simp, by simp, unhide HC4, unhide HO4, unhide HB4⟩
  case round =>
    obtain ⟨q, rfl, hq1, hq, ps, hp1, hp16, hc, hown, hbel⟩ := hrel
    clear HC4 HB4 HO4
    have HG5 := hide (Glob.below (unhide HG) hbel)
    have HC := hide hc
    have HO := hide hown
    have HB := hide hbel
    clear hc hown
    by_cases hlt : (q : Int) < len
    · obtain ⟨s, hs⟩ : ∃ s, wr.cell? ⟨b, off + q, none⟩ = some (.string s) := ⟨_, keep_below hbel _ _ _ ((unhide HCell) q (by have := unhide HSS; omega))⟩
      clear hbel
      go_wp2_with fail
      refine (wrap_chain s _ (Or.inl ⟨k, rfl⟩) ps hp16 _ _ (unhide HG5) (unhide HC)).mono ?_
      rintro e w5 ⟨v5, rfl, hc5, hb5⟩
      have HC5 := hide hc5
      have HB5 := hide (Below.far (unhide HB) hb5)
      have hs5 : w5.cell? ⟨b, off + q, none⟩ = some (.string s) := keep_below hb5 _ _ _ hs
      obtain ⟨gw, capw, rfl, hgw, hzw, hcapw, hcw⟩ := own_list (own_keep (unhide HO) hb5) (by omega)
      have HCW := hide hcw
      have HO5 := hide (own_keep (unhide HO) hb5)
      clear hc5 hb5 hs hcw hgw hzw HO HB HC HG5
      by_cases h16 : (ps.length : Int) < 16
      · have hw : wrapped s ps = s :: ps := if_pos (by omega)
        have HW := hide hw
        clear hw
        have hsz5 := (unhide HB5).size
        go_wp2_with (at_builtin; refine wpList_append_own _ rfl _ _ 22 rfl w.heap.size 9 i0 (.string ByteArray.empty) 1 16 Tryd.underlying22 hi hz0 hz1 hz2 rfl (by decide) _ _ _ rfl (own_new w5 w.heap.size hsz5 s) ⟨gw, 0, none⟩ ps.length capw (ps.map Value.string) rfl (by simp) (src_cells (unhide HCW) _) (strs_one ps) (by unfold maxLen; simp; omega) (by simp; omega) (by simp; omega) ?_)
        intro v' w6 hown' hgrow _
        have hb6 : Below w5.heap.size w5 w6 := ((Below.refl _ w5).alloc (Nat.le_refl _) _).grown hgrow (by simp) (fun k hk => by simp [Value.ownBlock] at hk; omega)
        have HC6 := hide ((unhide HC5).keep (keep_below hb6))
        have HB6 := hide (Below.far (unhide HB5) hb6)
        have HO6 : Hid (w6.ownsRow w.heap.size 9 1 v' (s :: ps).length ((s :: ps).map Value.string)) := by
          have h := hown'
          rw [Nat.add_comm] at h
          exact h
        clear hown' hgrow hb6 hs5
        go_wp2_with fail
        go_roundg (gk - 1)
        case measure => omega
        case rel =>
          refine ⟨q + 1, by go_num, by omega, by omega, s :: ps, by simp, by simp; omega, ?_, unhide HO6, unhide HB6⟩
          have h := unhide HC6
          rw [unhide HW] at h
          exact h
      · have hw : wrapped s ps = ps := if_neg (by omega)
        have HW := hide hw
        clear hw
        go_wp2_with fail
        go_roundg (gk - 1)
        case measure => omega
        case rel =>
          refine ⟨q + 1, by go_num, by omega, by omega, ps, hp1, hp16, ?_, unhide HO5, unhide HB5⟩
          have h := unhide HC5
          rw [unhide HW] at h
          exact h
    · obtain ⟨T, x, rfl⟩ := (unhide HC).form (Or.inl ⟨k, rfl⟩)
      clear hbel
      go_wp2_with fail
      refine (where_chain _ (Or.inl ⟨k, rfl⟩) ps (by omega) _ _ (unhide HG5) (unhide HC)).mono ?_
      rintro e w5 ⟨l5, rfl, ho5, hb5⟩
      obtain ⟨g5, cap5, rfl, hg5, hz5, hcap5, hcell5⟩ := own_list ho5 (by omega)
      obtain ⟨gw, capw, rfl, hgw, hzw, hcapw, hcw⟩ := own_list (own_keep (unhide HO) hb5) (by omega)
      have HB5 := hide (Below.far (unhide HB) hb5)
      have HC5 := hide ((unhide HC).keep (keep_below hb5))
      have HG6 := hide (Glob.below (unhide HG5) hb5)
      have HL := hide hcell5
      have HCW := hide hcw
      clear ho5 hb5 hcell5 hcw hg5 hz5 hgw hzw
      go_wp2_with fail
      refine (kind_num k hk0 ps _ _ (unhide HG6) (unhide HC5)).mono ?_
      rintro e w6 ⟨rfl, hb6⟩
      have HB6 := hide (Below.far (unhide HB5) hb6)
      have HL6 : Hid (∀ j (hj : j < ps.length), w6.cell? ⟨g5, j, none⟩ = some (.string ps[j])) := fun j hj => keep_below hb6 _ _ _ (unhide HL j hj)
      have HW6 : Hid (∀ j (hj : j < ps.length), w6.cell? ⟨gw, j, none⟩ = some (.string ps[j])) := fun j hj => keep_below hb6 _ _ _ (unhide HCW j hj)
      clear hb6 HL HCW HB5 HC5 HG6
      go_wp2_with fail
      go_loopg [10] ps.length (fun g i wr => ∃ q : Nat, i = .int .i64 q ∧ q + g = ps.length ∧ Below w.heap.size w wr ∧ (∀ j (hj : j < ps.length), wr.cell? ⟨g5, j, none⟩ = some (.string ps[j])) ∧ (∀ j (hj : j < ps.length), wr.cell? ⟨gw, j, none⟩ = some (.string ps[j])))
      case atStart => exact ⟨0, rfl, by omega, unhide HB6, unhide HL6, unhide HW6⟩
      case round =>
        obtain ⟨q', rfl, hq', hbr, hlr, hwr⟩ := hrel
        have HBR := hide hbr
        have HLR := hide hlr
        have HWR := hide hwr
        clear hbr hlr hwr HB6 HL6 HW6
        by_cases hlt' : (q' : Int) < ps.length
        · have e1 : wr.cell? ⟨g5, q', none⟩ = some (.string ps[q']) := unhide HLR q' (by omega)
          have e2 : wr.cell? ⟨gw, q', none⟩ = some (.string ps[q']) := unhide HWR q' (by omega)
          generalize ps[q'] = pq at *
          go_wp2_with fail
          go_quiet (fail)
          go_wp2_with fail
          go_roundg (gk - 1)
          case measure => omega
          case rel => exact ⟨q' + 1, by go_num, by omega, below_drewN (unhide HBR) _, unhide HLR, unhide HWR⟩
        · go_wp2_with fail
          go_ret
          exact ⟨rfl, unhide HBR⟩
end Go.Proofs.YteabloaipoehoaaDoor
