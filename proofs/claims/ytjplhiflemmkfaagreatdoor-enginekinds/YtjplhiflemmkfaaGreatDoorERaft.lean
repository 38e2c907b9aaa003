/- raft.New, and what a fresh core tells: contracts. raft: Role, Commit, Config, Sealed of a fresh core: contracts. -/
import Derived.Test.YtjplhiflemmkfaaGreatDoorENew
import Derived.Test.YtjplhiflemmkfaaGreatDoorHhHConf2
import Derived.Deep.RegionHeld3
import Derived.Deep.DrawnRows
namespace Go.Proofs.YtjplhiflemmkfaaGreatDoor
open Go.RowKit Go.Maps

/-- what lasts of a raft core, fresh: members, a base, a log without rows. -/
structure RFresh (w : World) (l : Nat) (ms : List Int) (base : Int) : Prop where
  ex : ∃ ao cap h, ∃ D : Nat → Prop, w.heap[l]? = some (.cells #[.slice ao ms.length cap, .int .i64 base, .int .i64 0, .int .i64 (-1), .int .i64 base, .pointer (some ⟨h, 0, none⟩)] 74 (0, 0)) ∧ Fr w ao ms ∧ ms.length ≤ cap ∧ cap ≤ maxLen ∧ (ao = none → cap = 0) ∧ Hh.Hs D w h base []
theorem RFresh.below {w w' : World} {l : Nat} {ms : List Int} {base : Int} (h : RFresh w l ms base) (hb : Below w.heap.size w w') : RFresh w' l ms base := by
  obtain ⟨ao, cap, q, D, h1, h2, h3, h4, h5, h6⟩ := h
  exact ⟨ao, cap, q, D, Below.stay hb h1, h2.below hb, h3, h4, h5, h6.below hb⟩
/-- a raft core, fresh. -/
structure RNew (w : World) (c : Nat) (id : Int) (ms : List Int) (base : Int) : Prop where
  ex : ∃ l k, w.heap[c]? = some (.cells #[.pointer (some ⟨l, 0, none⟩), .int .i64 id, .slice none 0 0, .int .i64 0, .pointer (some ⟨k, 0, none⟩), .int .i64 id, .int .i64 0, .pointer none, .int .i64 0, .int .i64 0, .int .i64 0, .int .i64 0, .int .i64 0, .int .i64 0, .int .i64 0, .int .i64 0, .int .i64 0, .int .i64 0, .int .i64 0, .int .i64 0, .int .i64 0, .int .i64 0, .int .i64 0, .int .i64 0, .int .i64 0, .int .i64 0, .int .i64 0] 94 (0, 0)) ∧ RFresh w l ms base ∧ Ck 140 w k (10 + id % 10)
theorem RNew.below {w w' : World} {c : Nat} {id : Int} {ms : List Int} {base : Int} (h : RNew w c id ms base) (hb : Below w.heap.size w w') : RNew w' c id ms base := by
  obtain ⟨l, k, h1, h2, h3⟩ := h
  exact ⟨l, k, Below.stay hb h1, h2.below hb, h3.below hb⟩

set_option maxRecDepth 20000 in
set_option maxHeartbeats 1000000 in
theorem rbegin_any (id base : Int) (ms : List Int) (l : Nat) (w : World) (h : RFresh w l ms base) :
    Calls Tryz.prog 52 #[.int .i64 id, .pointer (some ⟨l, 0, none⟩)] w fun e w' => ∃ c, e = .returned (.pointer (some ⟨c, 0, none⟩)) ∧ RNew w' c id ms base ∧ w.heap.size ≤ c ∧ Below w.heap.size w w' := by
  have CQ := hide (qnew_any id w)
  have H := hide h
  clear h
  go_enter Tryz.func52, Tryz.ntmps52
  go_wp2_with fail
  refine (unhide CQ).mono ?_
  rintro e w1 ⟨rfl, h1, b1⟩
  have H1 := hide h1
  have B1 := hide b1
  obtain ⟨k, hk⟩ : ∃ k, w.heap.size = k := ⟨_, rfl⟩
  rw [hk] at H1
  rw [hk]
  have HK := hide hk
  clear h1 b1 CQ hk
  go_wp2
  go_ret
  obtain ⟨w2, hw2⟩ : ∃ w2, w1.alloc (.cells #[.pointer (some ⟨l, 0, none⟩), .int .i64 id, .slice none 0 0, .int .i64 0, .pointer (some ⟨k, 0, none⟩), .int .i64 id, .int .i64 0, .pointer none, .int .i64 0, .int .i64 0, .int .i64 0, .int .i64 0, .int .i64 0, .int .i64 0, .int .i64 0, .int .i64 0, .int .i64 0, .int .i64 0, .int .i64 0, .int .i64 0, .int .i64 0, .int .i64 0, .int .i64 0, .int .i64 0, .int .i64 0, .int .i64 0, .int .i64 0] 94) = w2 := ⟨_, rfl⟩
  have x2 : w2.heap[w1.heap.size]? = some (.cells #[.pointer (some ⟨l, 0, none⟩), .int .i64 id, .slice none 0 0, .int .i64 0, .pointer (some ⟨k, 0, none⟩), .int .i64 id, .int .i64 0, .pointer none, .int .i64 0, .int .i64 0, .int .i64 0, .int .i64 0, .int .i64 0, .int .i64 0, .int .i64 0, .int .i64 0, .int .i64 0, .int .i64 0, .int .i64 0, .int .i64 0, .int .i64 0, .int .i64 0, .int .i64 0, .int .i64 0, .int .i64 0, .int .i64 0, .int .i64 0] 94 (0, 0)) := by rw [← hw2]; exact box_at _ _
  have b2 : Below w1.heap.size w1 w2 := by rw [← hw2]; exact (Below.refl _ w1).alloc (Nat.le_refl _) _
  rw [hw2]
  have b02 := below_far (unhide B1) b2
  rw [unhide HK]
  refine ⟨w1.heap.size, rfl, ⟨l, k, x2, (unhide H).below b02, (unhide H1).below b2⟩, ?_, ?_⟩
  · rw [← unhide HK]; exact (unhide B1).size
  · rw [← unhide HK]; exact b02
set_option maxRecDepth 20000 in
set_option maxHeartbeats 1000000 in
theorem rnew_any (id base : Int) (an : Option Addr) (nn cn : Nat) (ms : List Int) (hn : ms.length = nn) (hl : nn ≤ 1000000) (w : World) (hw : IntsR w an ms) :
    Calls Tryz.prog 8 #[.int .i64 id, .slice an nn cn, .int .i64 base] w fun e w' => (coreCheck id ms base ≠ 0 → e = .returned (.tuple #[.pointer none, .int .i64 ((coreCheck id ms base : Nat) : Int)])) ∧ (coreCheck id ms base = 0 → ∃ c, e = .returned (.tuple #[.pointer (some ⟨c, 0, none⟩), .int .i64 0]) ∧ RNew w' c id ms base ∧ w.heap.size ≤ c) ∧ Below w.heap.size w w' := by
  have CC := hide (coreCheck_any id base an nn cn ms hn (by omega) w hw)
  have HN := hide hn
  have HW := hide hw
  obtain ⟨f, hf⟩ : ∃ f, coreCheck id ms base = f := ⟨_, rfl⟩
  rw [hf] at CC
  rw [hf]
  clear hf hn hw
  go_enter Tryz.func8, Tryz.ntmps8
  go_wp2_with fail
  refine (unhide CC).mono ?_
  rintro e w1 ⟨rfl, b1⟩
  have B1 := hide b1
  have FR := hide (clone_any an nn cn ms (unhide HN) hl w1 ((unhide HW).below b1))
  clear b1 CC
  by_cases hz : f = 0
  · subst hz
    go_wp2_with fail
    refine (unhide FR).mono ?_
    rintro e w2 ⟨v, rfl, i2, b2⟩
    obtain ⟨ao1, cap1, rfl, hfr, hle, hmx⟩ := i2.slice
    have hnul : ao1 = none → cap1 = 0 := by
      intro e0
      subst e0
      rcases i2.2 with ⟨e1, _⟩ | ⟨g, c, cur, e1, _⟩
      · simp only [Value.slice.injEq] at e1; exact e1.2.2
      · simp only [Value.slice.injEq] at e1; cases e1.1
    have F1 := hide (show Fr w2 ao1 ms from hfr)
    have L1 := hide (And.intro hle (And.intro hmx hnul))
    have B2 := hide (below_far (unhide B1) b2)
    clear FR i2 b2 hfr hle hmx hnul
    go_wp2_with fail
    refine (Hh.hnew_any base w2).mono ?_
    rintro e w3 ⟨rfl, h3, b3⟩
    obtain ⟨h, hh⟩ : ∃ h, w2.heap.size = h := ⟨_, rfl⟩
    rw [hh] at h3
    rw [hh]
    have H3 := hide (And.intro h3 (And.intro ((unhide F1).below b3) (below_far (unhide B2) b3)))
    clear h3 b3 hh B2 F1
    go_upto_region 5 with fail
    obtain ⟨w4, hw4⟩ : ∃ w4, w3.alloc (.cells #[.slice ao1 ms.length cap1, .int .i64 base, .int .i64 0, .int .i64 (-1), .int .i64 base, .pointer (some ⟨h, 0, none⟩)] 74) = w4 := ⟨_, rfl⟩
    have x4 : w4.heap[w3.heap.size]? = some (.cells #[.slice ao1 ms.length cap1, .int .i64 base, .int .i64 0, .int .i64 (-1), .int .i64 base, .pointer (some ⟨h, 0, none⟩)] 74 (0, 0)) := by rw [← hw4]; exact box_at _ _
    have b4 : Below w3.heap.size w3 w4 := by rw [← hw4]; exact (Below.refl _ w3).alloc (Nat.le_refl _) _
    rw [hw4]
    obtain ⟨l, hl4⟩ : ∃ l, w3.heap.size = l := ⟨_, rfl⟩
    have R4 : RFresh w4 l ms base := by
      rw [← hl4]
      exact ⟨ao1, cap1, h, _, x4, (unhide H3).2.1.below b4, (unhide L1).1, (unhide L1).2.1, (unhide L1).2.2, (unhide H3).1.below b4⟩
    rw [hl4]
    have B4 := hide (below_far (unhide H3).2.2 b4)
    have BG := hide (rbegin_any id base ms l w4 R4)
    clear hw4 x4 b4 R4 H3 hl4 L1
    go_wp2_with fail
    refine (unhide BG).mono ?_
    rintro e w5 ⟨c, rfl, h5, s5, b5⟩
    have R := hide (And.intro h5 (And.intro (Nat.le_trans (unhide B4).size s5) (below_far (unhide B4) b5)))
    clear BG h5 s5 b5 B4
    go_wp2
    go_ret2
    exact ⟨⟨c, rfl, (unhide R).1, (unhide R).2.1⟩, (unhide R).2.2⟩
  · have hzi : ¬ ((f : Int) = 0) := by omega
    have hzb : ((f : Int) != 0) = true := by simp; omega
    have HZ := hide hz
    clear hz FR
    go_wp2
    go_ret2
    exact ⟨fun _ => rfl, fun h => absurd h (unhide HZ), unhide B1⟩
end Go.Proofs.YtjplhiflemmkfaaGreatDoor
namespace Go.Proofs.YtjplhiflemmkfaaGreatDoor
open Go.RowKit Go.Maps
attribute [local go_sem ↓] Go.wp_at_zero Go.wp_at_succ

theorem fit_nil {b : Int} (h0 : 0 ≤ b) (h1 : b ≤ 64) : Hh.Fit b [] := by
  exact ⟨h0, by omega, by simp⟩
theorem rrole_fresh {c : Nat} {id base : Int} {ms : List Int} (w : World) (h : RNew w c id ms base) : Calls Tryz.prog 40 #[.pointer (some ⟨c, 0, none⟩)] w fun e w' => e = .returned (.int .i64 0) ∧ w' = w := by
  obtain ⟨l, k, h1, _, _⟩ := h
  have c3 : w.cell? ⟨c, 3, none⟩ = some (.int .i64 0) := (cell_of_block h1).trans rfl
  clear h1
  go_enter Tryz.func40, Tryz.ntmps40
  go_wp2
  go_ret
  exact ⟨rfl, rfl⟩
theorem rcommit_fresh {c : Nat} {id base : Int} {ms : List Int} (w : World) (h : RNew w c id ms base) : Calls Tryz.prog 39 #[.pointer (some ⟨c, 0, none⟩)] w fun e w' => e = .returned (.int .i64 base) ∧ w' = w := by
  obtain ⟨l, k, h1, ⟨ao, cap, q, D, g1, _⟩, _⟩ := h
  have c0 : w.cell? ⟨c, 0, none⟩ = some (.pointer (some ⟨l, 0, none⟩)) := (cell_of_block h1).trans rfl
  have d4 : w.cell? ⟨l, 4, none⟩ = some (.int .i64 base) := (cell_of_block g1).trans rfl
  clear h1 g1
  go_enter Tryz.func39, Tryz.ntmps39
  go_wp2
  go_ret
  exact ⟨rfl, rfl⟩
theorem hentry_none {D : Nat → Prop} {w : World} {p : Nat} {b : Int} (h : Hh.Hs D w p b []) (h0 : 0 ≤ b) (h1 : b ≤ 64) (i : Int) :
    Calls Tryz.prog 98 #[.pointer (some ⟨p, 0, none⟩), .int .i64 i] w fun e w' => ∃ mo mc, e = .returned (.tuple #[.agg #[.int .i64 0, .int .i64 0, .int .i64 0, .string ⟨#[]⟩, .slice mo 0 mc, .int .i64 0], .bool false]) ∧ Below w.heap.size w w' := by
  have e0 : Hh.rowAt b [] i = none := by simp [Hh.rowAt]
  refine (Hh.entry_any h (fit_nil h0 h1) i).mono ?_
  rintro e w' ⟨mv, k1, k2, k3⟩
  simp only [Hh.entOf, e0] at k1 k2
  obtain ⟨mo, mc, rfl, _⟩ := Hh.Ir.slice k2
  exact ⟨mo, mc, k1, k3⟩
theorem six_of {w : World} {b : Nat} {v0 v1 v2 v3 v4 v5 : Value} {t : TypeId} (h : w.heap[b]? = some (.cells #[v0, v1, v2, v3, v4, v5] t (0, 0))) :
    w.cell? ⟨b, 0, none⟩ = some v0 ∧ w.cell? ⟨b, 1, none⟩ = some v1 ∧ w.cell? ⟨b, 2, none⟩ = some v2 ∧ w.cell? ⟨b, 3, none⟩ = some v3 ∧ w.cell? ⟨b, 4, none⟩ = some v4 ∧ w.cell? ⟨b, 5, none⟩ = some v5 ∧ ∀ i, w.frozen? ⟨b, i, none⟩ = false :=
  ⟨(cell_of_block h).trans rfl, (cell_of_block h).trans rfl, (cell_of_block h).trans rfl, (cell_of_block h).trans rfl, (cell_of_block h).trans rfl, (cell_of_block h).trans rfl, fun _ => free_of_block h⟩
theorem set6 {base : Nat} {a w : World} {b : Nat} (h : Below base a w) (hb : base ≤ b) {v0 v1 v2 v3 v4 v5 : Value} :
    Below base a ((((((w.setCell ⟨b, 0, none⟩ v0).setCell ⟨b, 1, none⟩ v1).setCell ⟨b, 2, none⟩ v2).setCell ⟨b, 3, none⟩ v3).setCell ⟨b, 4, none⟩ v4).setCell ⟨b, 5, none⟩ v5) :=
  (((((h.setCell (p := ⟨b, 0, none⟩) hb _).setCell (p := ⟨b, 1, none⟩) hb _).setCell (p := ⟨b, 2, none⟩) hb _).setCell (p := ⟨b, 3, none⟩) hb _).setCell (p := ⟨b, 4, none⟩) hb _).setCell (p := ⟨b, 5, none⟩) hb _
set_option maxRecDepth 20000 in
set_option maxHeartbeats 1000000 in
theorem rsealed_fresh {c : Nat} {id base : Int} {ms : List Int} (hb0 : 0 ≤ base) (hb1 : base ≤ 64) (w : World) (h : RNew w c id ms base) : Calls Tryz.prog 42 #[.pointer (some ⟨c, 0, none⟩)] w fun e w' => e = .returned (.bool false) ∧ Below w.heap.size w w' := by
  obtain ⟨l, k, h1, ⟨ao, cap, q, D, g1, _, _, _, _, g6⟩, _⟩ := h
  have SX := hide (fun (Y : World) (hY : Below w.heap.size w Y) => (show Y.cell? ⟨c, 0, none⟩ = some (.pointer (some ⟨l, 0, none⟩)) ∧ Y.cell? ⟨l, 5, none⟩ = some (.pointer (some ⟨q, 0, none⟩)) ∧ Y.cell? ⟨l, 4, none⟩ = some (.int .i64 base) from ⟨(cell_of_block (Below.stay hY h1)).trans rfl, (cell_of_block (Below.stay hY g1)).trans rfl, (cell_of_block (Below.stay hY g1)).trans rfl⟩))
  have CE := hide (fun (Y : World) (hY : Below w.heap.size w Y) => hentry_none (g6.below hY) hb0 hb1 base)
  have EZ := hide (Below.refl w.heap.size w)

  clear h1 g1 g6
  go_enter Tryz.func42, Tryz.ntmps42
  go_upto_region 1 with fail
  go_region_held3 (fun Y => Y.cell? ⟨c, 0, none⟩ = some (.pointer (some ⟨l, 0, none⟩)) ∧ Y.cell? ⟨l, 5, none⟩ = some (.pointer (some ⟨q, 0, none⟩)) ∧ Y.cell? ⟨l, 4, none⟩ = some (.int .i64 base)) (first | with_reducible exact unhide SX _ (unhide EZ) | with_reducible exact unhide SX _ (unhide EZ).drew | with_reducible exact unhide SX _ ((unhide EZ).alloc (unhide EZ).size _) | with_reducible exact unhide SX _ ((unhide EZ).alloc (unhide EZ).size _).drew | with_reducible exact unhide SX _ (set6 (unhide EZ) (Nat.le_refl _)) | with_reducible exact unhide SX _ (set6 ((unhide EZ).alloc (unhide EZ).size _) (unhide EZ).size) | with_reducible exact unhide SX _ (set6 ((unhide EZ).alloc (unhide EZ).size _).drew (unhide EZ).size) | with_reducible exact unhide SX _ (set2 (unhide EZ) (Nat.le_refl _)) | go_keep | fail)
    (first
      | (go_at_call 98
         refine (unhide CE _ (by first | exact unhide EZ | exact (unhide EZ).drew | exact (unhide EZ).alloc (unhide EZ).size _ | exact ((unhide EZ).alloc (unhide EZ).size _).drew | fail)).mono ?_
         rintro e z1 ⟨mo, mc, rfl, bz⟩
         first
           | (have ZB := six_of (Below.stay bz (box_at w (.cells #[.int .i64 0, .int .i64 0, .int .i64 0, .string ⟨#[]⟩, .slice none 0 0, .int .i64 0] 43)))
              obtain ⟨q0, q1, q2, q3, q4, q5, qf⟩ := ZB)
           | skip
         have EN := hide (below_far (by first | exact unhide EZ | exact (unhide EZ).drew | exact (unhide EZ).alloc (unhide EZ).size _ | exact ((unhide EZ).alloc (unhide EZ).size _).drew | fail) bz)
         clear EZ bz
         have EZ := EN
         clear EN)
      | fail)
  all_goals go_wp2
  all_goals go_ret
  all_goals exact ⟨rfl, by first | with_reducible exact (unhide EZ).alloc (unhide EZ).size _ | with_reducible exact set6 (unhide EZ) (Nat.le_refl _) | fail⟩
theorem cf_nil {w : World} {ao : Option Addr} {cap : Nat} {ms : List Int} (h1 : Fr w ao ms) (h2 : ms.length ≤ cap) : Hh.Cf w (.agg #[.slice none 0 0, .slice ao ms.length cap]) [] ms :=
  ⟨none, 0, 0, ao, ms.length, cap, rfl, rfl, Nat.le_refl _, Hh.Fr.nil w, rfl, h2, h1⟩
theorem cf_are {w : World} {v : Value} {ms : List Int} {old : List Int} (h : Hh.Cf w v old ms) : ∃ ao co an cn, v = .agg #[.slice ao old.length co, .slice an ms.length cn] ∧ IntsR w an ms := by
  obtain ⟨ao, no, co, an, nn, cn, rfl, rfl, _, _, rfl, _, h7⟩ := h
  exact ⟨ao, co, an, cn, rfl, h7.1⟩
theorem cf_new {w : World} {ao an : Option Addr} {no co nn cn : Nat} {old new : List Int} (h : Hh.Cf w (.agg #[.slice ao no co, .slice an nn cn]) old new) : Fr w an new := by
  obtain ⟨_, _, _, _, _, _, e, _, _, _, _, _, h7⟩ := h
  cases e
  exact h7
theorem set2 {base : Nat} {a w : World} {b : Nat} (h : Below base a w) (hb : base ≤ b) {v0 v1 : Value} : Below base a ((w.setCell ⟨b, 0, none⟩ v0).setCell ⟨b, 1, none⟩ v1) :=
  (h.setCell (p := ⟨b, 0, none⟩) hb _).setCell (p := ⟨b, 1, none⟩) hb _
theorem two_is {y : World} {B : Nat} {x0 x1 a b : Value} {t : TypeId} {fr : Nat × Nat} (hz : y.heap[B]? = some (.cells #[x0, x1] t fr)) : ((y.setCell ⟨B, 0, none⟩ a).setCell ⟨B, 1, none⟩ b).heap[B]? = some (.cells #[a, b] t fr) := Hh.two_box hz
set_option maxRecDepth 20000 in
set_option maxHeartbeats 1000000 in
theorem rconfig_fresh {c : Nat} {id base : Int} {ms : List Int} (hl : ms.length ≤ 1000000) (w : World) (h : RNew w c id ms base) : Calls Tryz.prog 43 #[.pointer (some ⟨c, 0, none⟩)] w fun e w' => ∃ ao co an cn, e = .returned (.agg #[.slice ao 0 co, .slice an ms.length cn]) ∧ Fr w' an ms ∧ Below w.heap.size w w' := by
  obtain ⟨W, hW⟩ : ∃ W, w.alloc (.cells #[.slice none 0 0, .slice none 0 0] 26) = W := ⟨_, rfl⟩
  have bW : Below w.heap.size w W := by rw [← hW]; exact (Below.refl _ w).alloc (Nat.le_refl _) _
  have xW : W.heap[w.heap.size]? = some (.cells #[.slice none 0 0, .slice none 0 0] 26 (0, 0)) := by rw [← hW]; exact box_at _ _
  obtain ⟨l, k, h1, ⟨ao, cap, q, D, g1, g2, g3, g4, g5, g6⟩, _⟩ := h
  have SX := hide (fun (Y : World) (hY : Below w.heap.size w Y) => (show Y.cell? ⟨c, 0, none⟩ = some (.pointer (some ⟨l, 0, none⟩)) ∧ Y.cell? ⟨l, 5, none⟩ = some (.pointer (some ⟨q, 0, none⟩)) ∧ Y.cell? ⟨l, 0, none⟩ = some (.slice ao ms.length cap) from ⟨(cell_of_block (Below.stay hY h1)).trans rfl, (cell_of_block (Below.stay hY g1)).trans rfl, (cell_of_block (Below.stay hY g1)).trans rfl⟩))
  have CF : Hid (∀ (Y : World) (_hY : Below w.heap.size w Y), Calls Tryz.prog 99 #[.pointer (some ⟨q, 0, none⟩), .agg #[.slice none 0 0, .slice ao ms.length cap]] Y fun x w' => ∃ v', x = .returned v' ∧ Hh.Cf w' v' [] ms ∧ Below Y.heap.size Y w') := hide (fun Y hY => Hh.hconfig_any (g6.below hY) (by simp) (.agg #[.slice none 0 0, .slice ao ms.length cap]) [] ms (by simp) hl (cf_nil (g2.below hY) g3))
  have EZ := hide bW
  have XW := hide xW
  have HW := hide hW
  clear h1 g1 g2 g3 g4 g5 g6 xW bW hW
  go_enter Tryz.func43, Tryz.ntmps43
  go_upto_region 1 with fail
  rw [unhide HW]
  clear HW
  go_region_held3 (fun Y => Y.cell? ⟨c, 0, none⟩ = some (.pointer (some ⟨l, 0, none⟩)) ∧ Y.cell? ⟨l, 5, none⟩ = some (.pointer (some ⟨q, 0, none⟩)) ∧ Y.cell? ⟨l, 0, none⟩ = some (.slice ao ms.length cap)) (first | with_reducible exact unhide SX _ (unhide EZ) | with_reducible exact unhide SX _ (unhide EZ).drew | with_reducible exact unhide SX _ ((unhide EZ).alloc (unhide EZ).size _) | with_reducible exact unhide SX _ ((unhide EZ).alloc (unhide EZ).size _).drew | with_reducible exact unhide SX _ (set6 (unhide EZ) (Nat.le_refl _)) | with_reducible exact unhide SX _ (set6 ((unhide EZ).alloc (unhide EZ).size _) (unhide EZ).size) | with_reducible exact unhide SX _ (set6 ((unhide EZ).alloc (unhide EZ).size _).drew (unhide EZ).size) | with_reducible exact unhide SX _ (set2 (unhide EZ) (Nat.le_refl _)) | go_keep | fail)
    (first
      | (go_at_call 99
         refine (unhide CF _ (by first | exact unhide EZ | exact (unhide EZ).drew | exact (unhide EZ).alloc (unhide EZ).size _ | exact ((unhide EZ).alloc (unhide EZ).size _).drew | fail)).mono ?_
         rintro e z1 ⟨v, rfl, cz, bz⟩
         obtain ⟨ao1, co1, an1, cn1, rfl, iz⟩ := cf_are cz
         have ZB := Below.stay bz (unhide XW)
         have R := hide (And.intro (show Hh.Cf z1 (.agg #[.slice ao1 0 co1, .slice an1 ms.length cn1]) [] ms from cz) ZB)
         have d0 : z1.cell? ⟨w.heap.size, 0, none⟩ = some (.slice none 0 0) := (cell_of_block ZB).trans rfl
         have d1 : z1.cell? ⟨w.heap.size, 1, none⟩ = some (.slice none 0 0) := (cell_of_block ZB).trans rfl
         have f0 : ∀ i, z1.frozen? ⟨w.heap.size, i, none⟩ = false := fun i => free_of_block ZB
         clear ZB cz iz
         have EN := hide (below_far (by first | exact unhide EZ | exact (unhide EZ).drew | exact (unhide EZ).alloc (unhide EZ).size _ | exact ((unhide EZ).alloc (unhide EZ).size _).drew | fail) bz)
         clear EZ bz
         have EZ := EN
         clear EN)
      | fail)
  go_wp2
  have e2 := two_is (a := .slice ao1 0 co1) (b := .slice an1 ms.length cn1) (unhide R).2
  have q0 := (cell_of_block (i := 0) e2).trans rfl
  have q1 := (cell_of_block (i := 1) e2).trans rfl
  refine bodyPost_ret (v := .agg #[.slice ao1 0 co1, .slice an1 ms.length cn1]) (by simp [results, Tryz.results43, go_sem, q0, q1]) rfl ?_
  refine ⟨ao1, co1, an1, cn1, rfl, ?_, set2 (unhide EZ) (Nat.le_refl _)⟩
  exact cf_new ((unhide R).1.box (unhide R).2 (fun v h => by cases h) (fun v h => by cases h) (fun k hk => (Below.heap_setCell _ _ _ k hk).trans (Below.heap_setCell _ _ _ k hk)))
end Go.Proofs.YtjplhiflemmkfaaGreatDoor
