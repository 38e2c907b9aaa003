/- AcceptPicks: the walk. -/
import Derived.Test.YtiibedgobhhikaaVKnown
import Derived.Test.YtiibedgobhhikaaVXPick
import Derived.Test.YtiibedgobhhikaaVSame
import Derived.Test.YtiibedgobhhikaaVStep
import Derived.Test.YtiibedgobhhikaaVCall
import Derived.Deep.RegionHeld3
import Derived.Deep.DrawnRows
namespace Go.Proofs.Ytiibedgobhhikaa
open Go.RowKit Go.Maps
attribute [local go_sem ↓] Go.wp_at_zero Go.wp_at_succ

set_option maxRecDepth 20000 in
set_option maxHeartbeats 4000000 in
theorem picks_walk (ao : Option Addr) (n cap : Nat) (vs : List Vt) (hn : vs.length = n) (hnl : n ≤ maxLen) (slot : Int) (w : World) (h : VsA w ao vs) :
    Calls Try.prog 5 #[.slice ao n cap, .int .i64 slot] w fun e w' => e = .returned (.bool true) ∧ Below w.heap.size w w' := by
  have C0 := hide (known_any w)
  have HV := hide h
  have HN := hide hn
  clear h hn
  go_enter Try.func5, Try.ntmps5
  go_wp2_with fail
  refine (unhide C0).mono ?_
  rintro e w1 ⟨rfl, b1⟩
  have B1 := hide b1
  clear b1 C0
  by_cases hn40 : 40 < n
  · have q1 : (40 : Int) < (n : Int) := by omega
    go_wp2
    go_ret
    exact ⟨rfl, unhide B1⟩
  have q1 : ¬ (40 : Int) < (n : Int) := by omega
  go_wp2_with fail
  go_loopw [5, 6] (fun mv iv wr => ∃ k : Nat, k ≤ n ∧ iv = .int .i64 (k : Int) ∧ VRow 55 w.heap.size w.heap.size wr mv (vs.take k) ∧ (∀ (i : Nat) (v : Vt), i < k → vs[i]? = some v → v.e.ms.length ≤ 1000000) ∧ Below w.heap.size w wr) (fun _ iv _ => n - (intOf iv).toNat)
  case atStart => exact ⟨0, Nat.zero_le _, rfl, VRow.nil _ _ _ _, fun i v hi => absurd hi (Nat.not_lt_zero _), unhide B1⟩
  case round =>
    obtain ⟨k, hk, rfl, hrow, hfew, hbel⟩ := hrel
    have B := hide hbel
    have FW := hide hfew
    clear hfew
    have R := hide hrow
    clear hbel hrow
    by_cases hlt : k < n
    · obtain ⟨v, hv⟩ : ∃ v, vs[k]? = some v := ⟨_, List.getElem?_eq_getElem (by rw [unhide HN]; exact hlt)⟩
      obtain ⟨g, off, mo, mc, rfl, a0, a1, a2, a3, a4, a5, a6, a7, hmm⟩ := (unhide HV).at hv
      have c0 : wr.cell? _ = _ := ((unhide B).cell (blk_lt a0)).trans a0
      have c1 : wr.cell? _ = _ := ((unhide B).cell (blk_lt a1)).trans a1
      have c2 : wr.cell? _ = _ := ((unhide B).cell (blk_lt a2)).trans a2
      have c3 : wr.cell? _ = _ := ((unhide B).cell (blk_lt a3)).trans a3
      have c4 : wr.cell? _ = _ := ((unhide B).cell (blk_lt a4)).trans a4
      have c5 : wr.cell? _ = _ := ((unhide B).cell (blk_lt a5)).trans a5
      have c6 : wr.cell? _ = _ := ((unhide B).cell (blk_lt a6)).trans a6
      have c7 : wr.cell? _ = _ := ((unhide B).cell (blk_lt a7)).trans a7
      have AZ := hide (And.intro a0 (And.intro a1 (And.intro a2 (And.intro a3 (And.intro a4 (And.intro a5 (And.intro a6 a7)))))))
      clear a0 a1 a2 a3 a4 a5 a6 a7
      have hq : (k : Int) < (n : Int) := by omega
      have CF := hide (few_any v.e mo mc wr)
      have HVV := hide hv
      have MM0 := hide hmm
      clear hmm hv
      go_wp2_with fail
      refine (unhide CF).mono ?_
      rintro e w2 ⟨rfl, b2⟩
      have B2 := hide (below_far (unhide B) b2)
      have R2 := hide ((unhide R).below b2)
      obtain ⟨f, hf⟩ : ∃ f, decide (v.e.text.size < 300 ∧ v.e.ms.length < 50) = f := ⟨_, rfl⟩
      rw [hf]
      have HF := hide hf
      clear hf b2 c0 c1 c2 c3 c4 c5 c6 c7 CF
      cases f with
      | false =>
        go_wp2
        go_ret
        exact ⟨rfl, unhide B2⟩
      | true =>
        obtain ⟨c0, c1, c2, c3, c4, c5, c6, c7⟩ := unhide AZ
        have HML : Hid (v.e.ms.length ≤ 1000000) := hide (by have := of_decide_eq_true (unhide HF); omega)
        have SX : Hid (∀ Y, Below w.heap.size w Y → Y.cell? ⟨g, off + k * 8, none⟩ = some (.int .i64 v.slot) ∧ Y.cell? ⟨g, off + k * 8 + 1, none⟩ = some (.int .i64 v.ballot) ∧ Y.cell? ⟨g, off + k * 8 + 2, none⟩ = some (.int .i64 v.e.kind) ∧ Y.cell? ⟨g, off + k * 8 + 3, none⟩ = some (.int .i64 v.e.client) ∧ Y.cell? ⟨g, off + k * 8 + 4, none⟩ = some (.int .i64 v.e.seq) ∧ Y.cell? ⟨g, off + k * 8 + 5, none⟩ = some (.string v.e.text) ∧ Y.cell? ⟨g, off + k * 8 + 6, none⟩ = some (.slice mo v.e.ms.length mc) ∧ Y.cell? ⟨g, off + k * 8 + 7, none⟩ = some (.int .i64 v.e.dest)) := hide (fun Y hY => ⟨(hY.cell (blk_lt c0)).trans c0, (hY.cell (blk_lt c1)).trans c1, (hY.cell (blk_lt c2)).trans c2, (hY.cell (blk_lt c3)).trans c3, (hY.cell (blk_lt c4)).trans c4, (hY.cell (blk_lt c5)).trans c5, (hY.cell (blk_lt c6)).trans c6, (hY.cell (blk_lt c7)).trans c7⟩)
        have MM : Hid (Mm w.heap.size w.heap.size w mo mc v.e.ms) := hide (Or.inr (unhide MM0).inF)
        have S0 := unhide SX w2 (unhide B2)
        have EZ := hide (unhide B2)
        have E2 := hide (fun o => (Below.refl w2.heap.size w2).alloc (Nat.le_refl _) o)
        have LEN : Hid ((vs.take k).length + 1 ≤ 1000000) := hide (by rw [List.length_take]; omega)
        clear c0 c1 c2 c3 c4 c5 c6 c7
        go_upto_region 11 with fail
        go_region_held3 (fun Y => Y.cell? ⟨g, off + k * 8, none⟩ = some (.int .i64 v.slot) ∧ Y.cell? ⟨g, off + k * 8 + 1, none⟩ = some (.int .i64 v.ballot) ∧ Y.cell? ⟨g, off + k * 8 + 2, none⟩ = some (.int .i64 v.e.kind) ∧ Y.cell? ⟨g, off + k * 8 + 3, none⟩ = some (.int .i64 v.e.client) ∧ Y.cell? ⟨g, off + k * 8 + 4, none⟩ = some (.int .i64 v.e.seq) ∧ Y.cell? ⟨g, off + k * 8 + 5, none⟩ = some (.string v.e.text) ∧ Y.cell? ⟨g, off + k * 8 + 6, none⟩ = some (.slice mo v.e.ms.length mc) ∧ Y.cell? ⟨g, off + k * 8 + 7, none⟩ = some (.int .i64 v.e.dest)) (first | with_reducible exact S0 | with_reducible exact unhide SX _ (unhide EZ) | with_reducible exact unhide SX _ (unhide EZ).drew | with_reducible exact unhide SX _ ((unhide EZ).alloc (unhide EZ).size _) | with_reducible exact unhide SX _ ((unhide EZ).alloc (unhide EZ).size _).drew | fail)
          (first
            | (with_reducible refine step_appV (ts := 27) (.tmp 29) (.tmp 46) (by with_unfolding_all rfl) (by with_unfolding_all rfl) ?_
               refine wp_appV Try.underlying27 (by decide) Try.infoXV (.tmp 29) (.tmp 46) rfl w.heap.size w.heap.size (Nat.le_refl _) _ (vs.take k) rfl ((unhide R2).below (by first | exact (unhide E2 _) | exact (unhide E2 _).drew | fail)) (some ⟨w2.heap.size, 0, none⟩) 1 1 [v] rfl rfl (by first | exact src_one (unhide EZ) v _ (unhide MM) (unhide HML) | exact (src_one (unhide EZ) v _ (unhide MM) (unhide HML)).below ((Below.refl _ _).drew) | fail) (unhide LEN) (by first | exact (below_far (unhide B2) (unhide E2 _)).size | exact (below_far (unhide B2) (unhide E2 _).drew).size | fail) ?_
               intro v3 w3 r3 g3
               have E3 : Below w.heap.size w w3 := by first | exact (below_far (unhide B2) (unhide E2 _)).grown g3 (below_far (unhide B2) (unhide E2 _)).size (fun k hk => ((unhide R2).tag k hk).1) | exact (below_far (unhide B2) (unhide E2 _).drew).grown g3 (below_far (unhide B2) (unhide E2 _).drew).size (fun k hk => ((unhide R2).tag k hk).1) | fail
               have R3 := hide r3
               clear EZ r3 g3
               have EZ := hide E3
               clear E3)
            | fail)
        all_goals
          clear SX S0
          go_wp2
          go_roundw
          case rel =>
            refine ⟨k + 1, by omega, by go_num, ?_, ?_, unhide EZ⟩
            rotate_left
            · intro i u hi hu
              by_cases e : i = k
              · subst e; rw [unhide HVV] at hu; cases hu; exact unhide HML
              · exact unhide FW i u (by omega) hu
            have e1 : vs.take (k + 1) = vs.take k ++ [v] := by
              rw [List.take_add_one, unhide HVV]; rfl
            rw [e1]; exact unhide R3
          case measure => simp [intOf]; omega
    · obtain rfl : k = n := by omega
      have e1 : vs.take k = vs := List.take_of_length_le (by rw [unhide HN]; exact Nat.le_refl _)
      have r1 := unhide R
      rw [e1] at r1
      obtain ⟨ao2, cap2, rfl, -, -⟩ := r1.slice
      rw [unhide HN]
      rw [unhide HN] at r1
      have CP := hide (pick_any w.heap.size w.heap.size ao k cap vs (unhide HN) (by omega) slot wr (((unhide HV).vsR w.heap.size (fun i v hv => unhide FW i v (by have := (List.getElem?_eq_some_iff.1 hv).1; rw [unhide HN] at this; exact this) hv)).below (unhide B)))
      have R1 := hide r1
      clear e1 r1 R
      obtain ⟨pk, hpk⟩ : ∃ pk, pickOf vs slot = pk := ⟨_, rfl⟩
      rw [hpk] at CP
      have HPK := hide hpk
      clear hpk
      go_wp2_with fail
      refine (unhide CP).mono ?_
      rintro e w2 ⟨ho, b2⟩
      clear CP
      have B2 := hide (below_far (unhide B) b2)
      have R2 := hide ((unhide R1).below b2)
      cases pk with
      | none =>
        simp only [PickOut] at ho
        subst ho
        obtain ⟨W3, hW3⟩ : ∃ W, w2.alloc (.cells #[.int .i64 0, .int .i64 0, .int .i64 0, .string ⟨#[]⟩, .slice none 0 0, .int .i64 0] 32) = W := ⟨_, rfl⟩
        have b3 : Below w2.heap.size w2 W3 := by rw [← hW3]; exact (Below.refl _ w2).alloc (Nat.le_refl _) _
        have x3 : W3.heap[w2.heap.size]? = some (.cells #[.int .i64 0, .int .i64 0, .int .i64 0, .string ⟨#[]⟩, .slice none 0 0, .int .i64 0] 32 (0, 0)) := by rw [← hW3]; exact box_at _ _
        have CX := xpick_any w.heap.size w.heap.size ao2 k cap2 vs (unhide HN) (by omega) slot W3 ((unhide R2).below b3).vsR
        rw [unhide HPK] at CX
        simp only [PickOut] at CX
        have CCX := hide CX
        have B3 := hide (below_far (unhide B2) b3)
        have X3 := hide x3
        have HW3 := hide hW3
        clear b2 b3 x3 hW3 CX R1 R2
        go_upto_region 13 with fail
        rw [unhide HW3]
        go_wp2_with fail
        refine (unhide CCX).mono ?_
        rintro e w4 ⟨rfl, b4⟩
        obtain ⟨W5, hW5⟩ : ∃ W, w4.alloc (.cells #[.int .i64 0, .int .i64 0, .int .i64 0, .string ⟨#[]⟩, .slice none 0 0, .int .i64 0] 32) = W := ⟨_, rfl⟩
        have b5 : Below w4.heap.size w4 W5 := by rw [← hW5]; exact (Below.refl _ w4).alloc (Nat.le_refl _) _
        have x5 : W5.heap[w4.heap.size]? = some (.cells #[.int .i64 0, .int .i64 0, .int .i64 0, .string ⟨#[]⟩, .slice none 0 0, .int .i64 0] 32 (0, 0)) := by rw [← hW5]; exact box_at _ _
        have x3' := Below.stay b5 (Below.stay b4 (unhide X3))
        have CS := rsame_one ⟨0, 0, 0, ⟨#[]⟩, [], 0⟩ none none 0 0 W5 (by decide) (IntsR.nil _ _) (IntsR.nil _ _)
        simp only [List.length_nil] at CS
        have CCS := hide CS
        have B5 := hide (below_far (below_far (unhide B3) b4) b5)
        have a0 : W5.cell? ⟨w2.heap.size, 0, none⟩ = some (.int .i64 0) := (cell_of_block x3').trans rfl
        have d0 : W5.cell? ⟨w4.heap.size, 0, none⟩ = some (.int .i64 0) := (cell_of_block x5).trans rfl
        have a1 : W5.cell? ⟨w2.heap.size, 1, none⟩ = some (.int .i64 0) := (cell_of_block x3').trans rfl
        have d1 : W5.cell? ⟨w4.heap.size, 1, none⟩ = some (.int .i64 0) := (cell_of_block x5).trans rfl
        have a2 : W5.cell? ⟨w2.heap.size, 2, none⟩ = some (.int .i64 0) := (cell_of_block x3').trans rfl
        have d2 : W5.cell? ⟨w4.heap.size, 2, none⟩ = some (.int .i64 0) := (cell_of_block x5).trans rfl
        have a3 : W5.cell? ⟨w2.heap.size, 3, none⟩ = some (.string ⟨#[]⟩) := (cell_of_block x3').trans rfl
        have d3 : W5.cell? ⟨w4.heap.size, 3, none⟩ = some (.string ⟨#[]⟩) := (cell_of_block x5).trans rfl
        have a4 : W5.cell? ⟨w2.heap.size, 4, none⟩ = some (.slice none 0 0) := (cell_of_block x3').trans rfl
        have d4 : W5.cell? ⟨w4.heap.size, 4, none⟩ = some (.slice none 0 0) := (cell_of_block x5).trans rfl
        have a5 : W5.cell? ⟨w2.heap.size, 5, none⟩ = some (.int .i64 0) := (cell_of_block x3').trans rfl
        have d5 : W5.cell? ⟨w4.heap.size, 5, none⟩ = some (.int .i64 0) := (cell_of_block x5).trans rfl
        have HW5 := hide hW5
        clear b4 b5 x5 x3' hW5 CS CCX X3
        go_upto_region 14 with fail
        rw [unhide HW5]
        go_wp2_with fail
        refine (unhide CCS).mono ?_
        rintro e w6 ⟨rfl, b6⟩
        have B6 := hide (below_far (unhide B5) b6)
        clear b6
        go_wp2
        go_ret
        exact ⟨rfl, unhide B6⟩
      | some v =>
        simp only [PickOut] at ho
        obtain ⟨mo, mc, rfl, i2⟩ := ho
        obtain ⟨W3, hW3⟩ : ∃ W, w2.alloc (.cells #[.int .i64 v.e.kind, .int .i64 v.e.client, .int .i64 v.e.seq, .string v.e.text, .slice mo v.e.ms.length mc, .int .i64 v.e.dest] 32) = W := ⟨_, rfl⟩
        have b3 : Below w2.heap.size w2 W3 := by rw [← hW3]; exact (Below.refl _ w2).alloc (Nat.le_refl _) _
        have x3 : W3.heap[w2.heap.size]? = some (.cells #[.int .i64 v.e.kind, .int .i64 v.e.client, .int .i64 v.e.seq, .string v.e.text, .slice mo v.e.ms.length mc, .int .i64 v.e.dest] 32 (0, 0)) := by rw [← hW3]; exact box_at _ _
        have CX := xpick_any w.heap.size w.heap.size ao2 k cap2 vs (unhide HN) (by omega) slot W3 ((unhide R2).below b3).vsR
        rw [unhide HPK] at CX
        simp only [PickOut] at CX
        have CCX := hide CX
        have B3 := hide (below_far (unhide B2) b3)
        have X3 := hide x3
        have I3 := hide ((Ir.inF i2).ints.below b3)
        have HW3 := hide hW3
        clear b2 b3 x3 hW3 CX R1 R2 i2
        go_upto_region 13 with fail
        rw [unhide HW3]
        go_wp2_with fail
        refine (unhide CCX).mono ?_
        rintro e w4 ⟨⟨mo4, mc4, rfl, m4, hml4⟩, b4⟩
        obtain ⟨W5, hW5⟩ : ∃ W, w4.alloc (.cells #[.int .i64 v.e.kind, .int .i64 v.e.client, .int .i64 v.e.seq, .string v.e.text, .slice mo4 v.e.ms.length mc4, .int .i64 v.e.dest] 32) = W := ⟨_, rfl⟩
        have b5 : Below w4.heap.size w4 W5 := by rw [← hW5]; exact (Below.refl _ w4).alloc (Nat.le_refl _) _
        have x5 : W5.heap[w4.heap.size]? = some (.cells #[.int .i64 v.e.kind, .int .i64 v.e.client, .int .i64 v.e.seq, .string v.e.text, .slice mo4 v.e.ms.length mc4, .int .i64 v.e.dest] 32 (0, 0)) := by rw [← hW5]; exact box_at _ _
        have x3' := Below.stay b5 (Below.stay b4 (unhide X3))
        have CCS := hide (rsame_one v.e mo mo4 mc mc4 W5 hml4 (((unhide I3).below b4).below b5) (m4.ints.below b5))
        have B5 := hide (below_far (below_far (unhide B3) b4) b5)
        have a0 : W5.cell? ⟨w2.heap.size, 0, none⟩ = some (.int .i64 v.e.kind) := (cell_of_block x3').trans rfl
        have d0 : W5.cell? ⟨w4.heap.size, 0, none⟩ = some (.int .i64 v.e.kind) := (cell_of_block x5).trans rfl
        have a1 : W5.cell? ⟨w2.heap.size, 1, none⟩ = some (.int .i64 v.e.client) := (cell_of_block x3').trans rfl
        have d1 : W5.cell? ⟨w4.heap.size, 1, none⟩ = some (.int .i64 v.e.client) := (cell_of_block x5).trans rfl
        have a2 : W5.cell? ⟨w2.heap.size, 2, none⟩ = some (.int .i64 v.e.seq) := (cell_of_block x3').trans rfl
        have d2 : W5.cell? ⟨w4.heap.size, 2, none⟩ = some (.int .i64 v.e.seq) := (cell_of_block x5).trans rfl
        have a3 : W5.cell? ⟨w2.heap.size, 3, none⟩ = some (.string v.e.text) := (cell_of_block x3').trans rfl
        have d3 : W5.cell? ⟨w4.heap.size, 3, none⟩ = some (.string v.e.text) := (cell_of_block x5).trans rfl
        have a4 : W5.cell? ⟨w2.heap.size, 4, none⟩ = some (.slice mo v.e.ms.length mc) := (cell_of_block x3').trans rfl
        have d4 : W5.cell? ⟨w4.heap.size, 4, none⟩ = some (.slice mo4 v.e.ms.length mc4) := (cell_of_block x5).trans rfl
        have a5 : W5.cell? ⟨w2.heap.size, 5, none⟩ = some (.int .i64 v.e.dest) := (cell_of_block x3').trans rfl
        have d5 : W5.cell? ⟨w4.heap.size, 5, none⟩ = some (.int .i64 v.e.dest) := (cell_of_block x5).trans rfl
        have HW5 := hide hW5
        clear b4 b5 x5 x3' hW5 CCX X3 I3 m4 hml4
        go_upto_region 14 with fail
        rw [unhide HW5]
        go_wp2_with fail
        refine (unhide CCS).mono ?_
        rintro e w6 ⟨rfl, b6⟩
        have B6 := hide (below_far (unhide B5) b6)
        clear b6
        go_wp2
        go_ret
        exact ⟨rfl, unhide B6⟩
end Go.Proofs.Ytiibedgobhhikaa
