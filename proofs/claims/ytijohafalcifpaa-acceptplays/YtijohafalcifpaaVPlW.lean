/- AcceptPlays: the walk. -/
import Derived.Test.YtijohafalcifpaaVPlA
import Derived.Test.YtijohafalcifpaaVPlB
import Derived.Test.YtijohafalcifpaaVKnown
import Derived.Test.YtijohafalcifpaaVSameV
import Derived.Deep.RegionHeld3
import Derived.Deep.DrawnRows
namespace Go.Proofs.Ytijohafalcifpaa
open Go.RowKit Go.Maps
attribute [local go_sem ↓] Go.wp_at_zero Go.wp_at_succ

set_option maxRecDepth 20000 in
set_option maxHeartbeats 40000000 in
theorem plays_walk (ao : Option Addr) (n cap : Nat) (cl : List Cl) (hn : cl.length = n) (hnl : n ≤ maxLen) (w : World) (hI : ClsA w ao cl) :
    Calls Try.prog 3 #[.slice ao n cap] w fun e w' => e = .returned (.bool true) ∧ Below w.heap.size w w' := by
  have C0 := hide (known_any w)
  have HI := hide hI
  have HN := hide hn
  have hn63 : n ≤ 9223372036854775807 := by unfold maxLen at hnl; omega
  clear hI hn hnl
  go_enter Try.func3, Try.ntmps3
  go_wp2_with fail
  refine (unhide C0).mono ?_
  rintro e w1 ⟨rfl, b1⟩
  have B1 := hide b1
  have C1 := hide (new_any w1)
  clear b1 C0
  go_wp2_with fail
  refine (unhide C1).mono ?_
  rintro e w2 ⟨p, q, rfl, A2, b2⟩
  obtain ⟨W, hW⟩ : ∃ W, w2.alloc (.cells #[.int .i64 0, .slice none 0 0] 29) = W := ⟨_, rfl⟩
  have bW : Below w2.heap.size w2 W := by rw [← hW]; exact (Below.refl _ w2).alloc (Nat.le_refl _) _
  have xW : W.heap[w2.heap.size]? = some (.cells #[.int .i64 0, .slice none 0 0] 29 (0, 0)) := by rw [← hW]; exact box_at _ _
  have T0 : Hid (Pl w W p q w2.heap.size 0) := hide ⟨0, Vf.none, _, A2.below bW, fun h => Nat.lt_irrefl _ h.2, ⟨_, xW, by rw [show allOf Vf.none = [] from told_none _ _]; exact VRowL.nil _ _ _ _⟩, ⟨Nat.le_trans (unhide B1).size A2.own.1.1, Nat.le_trans (unhide B1).size A2.own.2.1, Nat.le_trans (unhide B1).size b2.size⟩, below_far (below_far (unhide B1) b2) bW⟩
  obtain ⟨x, hx⟩ : ∃ x, w2.heap.size = x := ⟨_, rfl⟩
  rw [hx] at T0
  have HW := hide hW
  have HX := hide hx
  clear A2 b2 bW xW C1 hW hx B1
  go_upto_region 4 with fail
  rw [unhide HW, unhide HX]
  clear HW HX
  go_wp2_with fail
  go_loopw [5] (fun iv wr => ∃ k : Nat, k ≤ n ∧ k ≤ 80 ∧ iv = .int .i64 (k : Int) ∧ Pl w wr p q x k) (fun iv _ => 80 - (intOf iv).toNat)
  case atStart => exact ⟨0, Nat.zero_le _, by decide, rfl, unhide T0⟩
  case round =>
    obtain ⟨k, hk, hk80, rfl, ht⟩ := hrel
    have T := hide ht
    have BL : Hid (Below w.heap.size w wr) := hide ht.bel
    clear ht T0
    by_cases hlt : k < n ∧ k < 80
    · obtain ⟨hkn, hk4⟩ := hlt
      have q1 : (k : Int) < (n : Int) := by omega
      have q2 : (k : Int) < 80 := by omega
      obtain ⟨c, hc⟩ : ∃ c, cl[k]? = some c := ⟨_, List.getElem?_eq_getElem (by rw [unhide HN]; exact hkn)⟩
      obtain ⟨g, off, mo, mc, rfl, a0, a1, a2, a3, a4, a5, a6, a7, a8, him⟩ := (unhide HI).at hc
      have c0 : wr.cell? _ = _ := ((unhide BL).cell (blk_lt a0)).trans a0
      have c1 : wr.cell? _ = _ := ((unhide BL).cell (blk_lt a1)).trans a1
      have c2 : wr.cell? _ = _ := ((unhide BL).cell (blk_lt a2)).trans a2
      have c3 : wr.cell? _ = _ := ((unhide BL).cell (blk_lt a3)).trans a3
      have c4 : wr.cell? _ = _ := ((unhide BL).cell (blk_lt a4)).trans a4
      have c5 : wr.cell? _ = _ := ((unhide BL).cell (blk_lt a5)).trans a5
      have c6 : wr.cell? _ = _ := ((unhide BL).cell (blk_lt a6)).trans a6
      have c7 : wr.cell? _ = _ := ((unhide BL).cell (blk_lt a7)).trans a7
      have c8 : wr.cell? _ = _ := ((unhide BL).cell (blk_lt a8)).trans a8
      obtain ⟨B, hB⟩ : ∃ B, wr.heap.size = B := ⟨_, rfl⟩
      obtain ⟨W1, hW1⟩ : ∃ W1, wr.alloc (.cells #[.bool c.acc, .int .i64 c.ballot, .int .i64 c.slot, .int .i64 c.e.kind, .int .i64 c.e.client, .int .i64 c.e.seq, .string c.e.text, .slice mo c.e.ms.length mc, .int .i64 c.e.dest] 34) = W1 := ⟨_, rfl⟩
      have b1 : Below wr.heap.size wr W1 := by rw [← hW1]; exact (Below.refl _ wr).alloc (Nat.le_refl _) _
      have x1 : W1.heap[B]? = some (.cells (callCells c mo mc) 34 (0, 0)) := by rw [← hW1, ← hB]; exact box_at _ _
      have CF := hide (few_any c.e mo mc W1)
      have T1 := hide ((unhide T).below b1)
      have I1 := hide him.inF
      have d0 : W1.cell? ⟨B, 0, none⟩ = some (.bool c.acc) := (cell_of_block x1).trans rfl
      have d3 : W1.cell? ⟨B, 3, none⟩ = some (.int .i64 c.e.kind) := (cell_of_block x1).trans rfl
      have d4 : W1.cell? ⟨B, 4, none⟩ = some (.int .i64 c.e.client) := (cell_of_block x1).trans rfl
      have d5 : W1.cell? ⟨B, 5, none⟩ = some (.int .i64 c.e.seq) := (cell_of_block x1).trans rfl
      have d6 : W1.cell? ⟨B, 6, none⟩ = some (.string c.e.text) := (cell_of_block x1).trans rfl
      have d7 : W1.cell? ⟨B, 7, none⟩ = some (.slice mo c.e.ms.length mc) := (cell_of_block x1).trans rfl
      have d8 : W1.cell? ⟨B, 8, none⟩ = some (.int .i64 c.e.dest) := (cell_of_block x1).trans rfl
      have HW1 := hide hW1
      have HB := hide hB
      have X1 := hide x1
      clear a0 a1 a2 a3 a4 a5 a6 a7 a8 him hc hW1 x1 b1 T hB
      go_upto_region 8 with fail
      rw [unhide HW1, unhide HB]
      clear c0 c1 c2 c3 c4 c5 c6 c7 c8
      go_wp2_with fail
      refine (unhide CF).mono ?_
      rintro e w2 ⟨rfl, b2⟩
      have T2 := hide ((unhide T1).below b2)
      obtain ⟨fw, hf⟩ : ∃ fw, decide (c.e.text.size < 300 ∧ c.e.ms.length < 50) = fw := ⟨_, rfl⟩
      rw [hf]
      have HF := hide hf
      have X2 := hide (Below.stay b2 (unhide X1))
      have e0 : w2.cell? ⟨B, 0, none⟩ = some (.bool c.acc) := (cell_of_block (unhide X2)).trans rfl
      clear d0 d3 d4 d5 d6 d7 d8 hf b2 T1 CF X1 HW1
      cases fw with
      | false =>
        go_wp2
        go_roundw
        case rel => exact ⟨k + 1, by omega, by omega, by go_num, (unhide T2).mono (Nat.le_succ _)⟩
        case measure => simp [intOf]; omega
      | true =>
        have HML : Hid (c.e.ms.length ≤ 1000000) := hide (by have := of_decide_eq_true (unhide HF); omega)
        go_upto_if 40 with fail
        go_cut [] (fun wc => Pl w wc p q x (k + 1) ∧ wc.heap[B]? = some (.cells (callCells c mo mc) 34 (0, 0)))
        case first =>
          obtain ⟨P, f, hps⟩ := (unhide T2).ps (unhide X2)
          cases hacc : c.acc with
          | true =>
            rw [hacc] at e0
            obtain ⟨no, hno⟩ : ∃ no, noOf P c.ballot (decide (c.slot < 1 ∨ 64 < c.slot)) = no := ⟨_, rfl⟩
            have HNO := hide hno
            have nn : (no != no) = false := by simp
            have ST := hide hps
            have HK : Hid (k < 1000000) := hide (by omega)
            clear hps hno
            go_upto_region 10 with fail
            go_region_held3 (fun Y => Y.cell? ⟨B, 1, none⟩ = some (.int .i64 c.ballot) ∧ Y.cell? ⟨B, 2, none⟩ = some (.int .i64 c.slot) ∧ Y.cell? ⟨B, 3, none⟩ = some (.int .i64 c.e.kind) ∧ Y.cell? ⟨B, 4, none⟩ = some (.int .i64 c.e.client) ∧ Y.cell? ⟨B, 5, none⟩ = some (.int .i64 c.e.seq) ∧ Y.cell? ⟨B, 6, none⟩ = some (.string c.e.text) ∧ Y.cell? ⟨B, 7, none⟩ = some (.slice mo c.e.ms.length mc) ∧ Y.cell? ⟨B, 8, none⟩ = some (.int .i64 c.e.dest))
              (first | with_reducible exact (unhide ST).nine | with_reducible exact (unhide ST).drew.nine | fail)
              (first
                | (go_at_call 12
                   refine (Ps.accA (by first | exact unhide ST | exact (unhide ST).drew) c.ballot c.slot c.e mo mc (unhide I1) (unhide HML) (unhide HK) no (unhide HNO)).mono ?_
                   rintro r y ⟨rfl, hy⟩
                   clear ST
                   have ST := hide hy
                   clear hy)
                | (go_at_call 13
                   refine (Ps.accX (by first | exact unhide ST | exact (unhide ST).drew) c.ballot c.slot c.e mo mc (unhide I1) (unhide HML) no (unhide HNO)).mono ?_
                   rintro r y ⟨rfl, hy⟩
                   clear ST
                   have ST := hide hy
                   clear hy)
                | fail)
            all_goals
              go_wp2
              go_meet
              exact ⟨(unhide ST).pl, (unhide ST).box⟩
          | false =>
            rw [hacc] at e0
            obtain ⟨no, hno⟩ : ∃ no, noOf P c.ballot false = no := ⟨_, rfl⟩
            obtain ⟨L, hL⟩ : ∃ L, (prepL f P c.ballot c.slot).length = L := ⟨_, rfl⟩
            have HNO := hide hno
            have HL := hide hL
            have L64 : Hid (L ≤ 1000000) := hide (by rw [← hL]; unfold prepL; exact Nat.le_trans (prepL_len f P c.ballot c.slot _) (by decide))
            have nn : (no != no) = false := by simp
            have CA := hide (hps.prepA c.ballot c.slot no hno L hL)
            obtain ⟨f1, f2, -⟩ := hps.nine
            clear hps hno hL
            go_wp2_with fail
            refine (unhide CA).mono ?_
            rintro r y1 ⟨ao1, cap1, rfl, r1, h1⟩
            clear CA f1 f2
            have CX := hide (h1.prepX c.ballot c.slot no (unhide HNO) L (unhide HL) r1)
            obtain ⟨f1, f2, -⟩ := h1.nine
            clear r1 h1
            go_wp2_with fail
            refine (unhide CX).mono ?_
            rintro r y2 ⟨ao2, cap2, rfl, x2, r2, h2⟩
            clear CX f1 f2
            have CS := hide (vsame_eq (prepL f P c.ballot c.slot) L (unhide HL) (unhide L64) ao1 ao2 cap1 cap2 y2 r2.vsR x2.vsR)
            have H2 := hide h2
            clear x2 r2 h2
            go_wp2_with fail
            refine (unhide CS).mono ?_
            rintro r y3 ⟨rfl, b3⟩
            have H3 := hide ((unhide H2).below b3)
            clear CS b3 H2
            go_wp2
            go_meet
            exact ⟨(unhide H3).pl.mono (Nat.le_succ _), (unhide H3).box⟩
        case rest =>
          obtain ⟨hP, hBx⟩ := hcut
          obtain ⟨P, f, hps⟩ := hP.ps hBx
          obtain ⟨L, hL⟩ : ∃ L, (allOf f).length = L := ⟨_, rfl⟩
          have HL := hide hL
          have L64 : L ≤ 64 := by rw [← hL]; exact toldN_len f 1 64
          have L6 : Hid (L ≤ 1000000) := hide (by omega)
          have CV := hide (hps.votes L hL)
          have ST := hide hps
          clear hP hBx hps hL T2 X2 e0
          go_wp2_with fail
          refine (unhide CV).mono ?_
          rintro r w3 ⟨ao3, cap3, rfl, r3, b3⟩
          obtain ⟨⟨e, is⟩, hpk⟩ : ∃ pk, pkE (pickOf (allOf f) c.slot) = pk := ⟨_, rfl⟩
          have CP := hide (pickA (cap := cap3) (unhide HL) (unhide L6) r3.vsR hpk)
          have S3 := hide ((unhide ST).below b3)
          have R3 := hide r3
          have HPK := hide hpk
          obtain ⟨-, f2, -⟩ := (unhide S3).nine
          clear r3 b3 hpk ST CV
          go_wp2_with fail
          refine (unhide CP).mono ?_
          rintro r w4 ⟨mo4, mc4, rfl, i4, b4⟩
          obtain ⟨W5, hW5⟩ : ∃ W, w4.alloc (.cells #[.int .i64 e.kind, .int .i64 e.client, .int .i64 e.seq, .string e.text, .slice mo4 e.ms.length mc4, .int .i64 e.dest] 32) = W := ⟨_, rfl⟩
          obtain ⟨F, hF⟩ : ∃ F, w4.heap.size = F := ⟨_, rfl⟩
          have b5 : Below w4.heap.size w4 W5 := by rw [← hW5]; exact (Below.refl _ w4).alloc (Nat.le_refl _) _
          have x5 : W5.heap[F]? = some (.cells #[.int .i64 e.kind, .int .i64 e.client, .int .i64 e.seq, .string e.text, .slice mo4 e.ms.length mc4, .int .i64 e.dest] 32 (0, 0)) := by rw [← hW5, ← hF]; exact box_at _ _
          have S5 := hide (((unhide S3).below b4).below b5)
          have R5 := hide (((unhide R3).below b4).below b5)
          have I5 := hide (i4.below b5)
          have X5 := hide x5
          have HW5 := hide hW5
          have HF2 := hide hF
          clear b4 b5 x5 i4 hW5 hF S3 R3 CP f2
          go_upto_region 18 with fail
          rw [unhide HW5, unhide HF2]
          clear HW5 HF2
          obtain ⟨ao5, cap5, xr, x5r⟩ := (unhide S5).reads L (unhide HL)
          obtain ⟨-, f2, -⟩ := (unhide S5).nine
          have c1 : W5.cell? ⟨x, 1, none⟩ = some (.slice ao5 L cap5) := (cell_of_block xr).trans rfl
          have c0 : W5.cell? ⟨x, 0, none⟩ = some (.int .i64 P) := (cell_of_block xr).trans rfl
          have SX : Hid (∀ Y, Below W5.heap.size W5 Y → Y.cell? ⟨x, 1, none⟩ = some (.slice ao5 L cap5) ∧ Y.cell? ⟨B, 2, none⟩ = some (.int .i64 c.slot)) := hide (fun Y hY => ⟨(hY.cell (blk_lt c1)).trans c1, (hY.cell (blk_lt f2)).trans f2⟩)
          have CX : Hid (∀ Y, Below W5.heap.size W5 Y → Calls Try.prog 19 #[.slice ao5 L cap5, .int .i64 c.slot] Y fun r w' => ∃ mo mc, r = .returned (.tuple #[.agg #[.int .i64 e.kind, .int .i64 e.client, .int .i64 e.seq, .string e.text, .slice mo e.ms.length mc, .int .i64 e.dest], .bool is]) ∧ (Mm w.heap.size w.heap.size w' mo mc e.ms ∧ e.ms.length ≤ 1000000) ∧ Below Y.heap.size Y w' ∧ Below W5.heap.size W5 w') := hide (fun Y hY => by
            refine (pickX (cap := cap5) (unhide HL) (unhide L6) (x5r.vsR.below hY) (unhide HPK)).mono ?_
            rintro r w' ⟨mo, mc, h1, h2, h3⟩
            exact ⟨mo, mc, h1, h2, h3, below_far hY h3⟩)
          have XR := hide (And.intro c0 (And.intro c1 x5r))
          have EZ := hide (Below.refl W5.heap.size W5)
          clear xr x5r c0 c1 f2
          go_cut [14, 15] (fun v14 v15 wd => ∃ (G : Nat) (mo2 : Option Addr) (mc2 : Nat), v14 = .pointer (some ⟨G, 0, none⟩) ∧ v15 = .bool is ∧ wd.heap[G]? = some (.cells #[.int .i64 e.kind, .int .i64 e.client, .int .i64 e.seq, .string e.text, .slice mo2 e.ms.length mc2, .int .i64 e.dest] 32 (0, 0)) ∧ (Mm w.heap.size w.heap.size wd mo2 mc2 e.ms ∧ e.ms.length ≤ 1000000) ∧ Below W5.heap.size W5 wd)
          case first =>
            go_region_held3 (fun Y => Y.cell? ⟨x, 1, none⟩ = some (.slice ao5 L cap5) ∧ Y.cell? ⟨B, 2, none⟩ = some (.int .i64 c.slot))
              (first | with_reducible exact unhide SX _ (unhide EZ) | with_reducible exact unhide SX _ (unhide EZ).drew | with_reducible exact unhide SX _ ((unhide EZ).alloc (unhide EZ).size _) | with_reducible exact unhide SX _ ((unhide EZ).alloc (unhide EZ).size _).drew | with_reducible exact unhide SX _ ((unhide EZ).drew.alloc (unhide EZ).drew.size _) | with_reducible exact unhide SX _ (six_below (unhide EZ) (Nat.le_refl _)) | with_reducible exact unhide SX _ (six_below (unhide EZ) (Nat.le_refl _)).drew | with_reducible exact unhide SX _ (six_below (unhide EZ).drew (Nat.le_refl _)) | with_reducible exact unhide SX _ (six_below ((unhide EZ).alloc (unhide EZ).size _) (unhide EZ).size) | with_reducible exact unhide SX _ (six_below ((unhide EZ).alloc (unhide EZ).size _).drew (unhide EZ).size) | fail)
              (first
                | (go_at_call 19
                   refine (unhide CX _ (by first | exact unhide EZ | exact (unhide EZ).drew | exact (unhide EZ).alloc (unhide EZ).size _ | exact ((unhide EZ).alloc (unhide EZ).size _).drew)).mono ?_
                   rintro r y ⟨mo2, mc2, rfl, m2, b2, e2⟩
                   first
                     | (have Z0 : y.heap[W5.heap.size]? = some (.cells #[.int .i64 0, .int .i64 0, .int .i64 0, .string ⟨#[]⟩, .slice none 0 0, .int .i64 0] 32 (0, 0)) := Below.stay b2 (box_at W5 _)
                        have z0 : y.cell? ⟨W5.heap.size, 0, none⟩ = some (.int .i64 0) := (cell_of_block Z0).trans rfl
                        have z1 : y.cell? ⟨W5.heap.size, 1, none⟩ = some (.int .i64 0) := (cell_of_block Z0).trans rfl
                        have z2 : y.cell? ⟨W5.heap.size, 2, none⟩ = some (.int .i64 0) := (cell_of_block Z0).trans rfl
                        have z3 : y.cell? ⟨W5.heap.size, 3, none⟩ = some (.string ⟨#[]⟩) := (cell_of_block Z0).trans rfl
                        have z4 : y.cell? ⟨W5.heap.size, 4, none⟩ = some (.slice none 0 0) := (cell_of_block Z0).trans rfl
                        have z5 : y.cell? ⟨W5.heap.size, 5, none⟩ = some (.int .i64 0) := (cell_of_block Z0).trans rfl
                        have fz : ∀ i, y.frozen? ⟨W5.heap.size, i, none⟩ = false := fun i => free_of_block Z0
                        have ZZ := hide Z0
                        clear Z0)
                     | skip
                   have M2 := hide m2
                   clear EZ m2 b2
                   have EZ := hide e2
                   clear e2)
                | fail)
            · go_wp2
              go_meet
              refine ⟨y.heap.size, mo2, mc2, rfl, rfl, ?_, ⟨?_, ?_⟩, ?_⟩
              · exact box_at _ _
              · exact (unhide M2).1.below ((Below.refl _ _).alloc (Nat.le_refl _) _)
              · exact (unhide M2).2
              · exact (unhide EZ).alloc (unhide EZ).size _
            · go_wp2
              go_meet
              obtain ⟨V, hV⟩ : ∃ V, V = (((((y.setCell ⟨W5.heap.size, 0, none⟩ (.int .i64 e.kind)).setCell ⟨W5.heap.size, 1, none⟩ (.int .i64 e.client)).setCell ⟨W5.heap.size, 2, none⟩ (.int .i64 e.seq)).setCell ⟨W5.heap.size, 3, none⟩ (.string e.text)).setCell ⟨W5.heap.size, 4, none⟩ (.slice mo2 e.ms.length mc2)).setCell ⟨W5.heap.size, 5, none⟩ (.int .i64 e.dest) := ⟨_, rfl⟩
              obtain ⟨hh, bV, -⟩ := six_end (unhide ZZ) (Nat.le_refl _) (unhide EZ) V hV
              have kV := six_kp hV
              rw [← hV]
              refine ⟨W5.heap.size, mo2, mc2, rfl, rfl, hh, ⟨?_, (unhide M2).2⟩, bV⟩
              exact (unhide M2).1.far kV (ts := [3]) (fun k hk _ => ⟨by rw [hk]; exact (unhide S5).bel.size, fun cur e fr hc => by rw [hk, unhide ZZ] at hc; cases hc; decide⟩) (by simp)
          case rest =>
            obtain ⟨G, mo2, mc2, rfl, rfl, xg, ⟨m2, hml⟩, eW⟩ := hcut
            have S6 := hide ((unhide S5).below eW)
            have xf := Below.stay eW (unhide X5)
            have x0 : wc.cell? ⟨x, 0, none⟩ = some (.int .i64 P) := (eW.cell (blk_lt (unhide XR).1)).trans (unhide XR).1
            have x1 : wc.cell? ⟨x, 1, none⟩ = some (.slice ao5 L cap5) := (eW.cell (blk_lt (unhide XR).2.1)).trans (unhide XR).2.1
            have p0 : wc.cell? ⟨F, 0, none⟩ = some (.int .i64 e.kind) := (cell_of_block xf).trans rfl
            have g0 : wc.cell? ⟨G, 0, none⟩ = some (.int .i64 e.kind) := (cell_of_block xg).trans rfl
            have p1 : wc.cell? ⟨F, 1, none⟩ = some (.int .i64 e.client) := (cell_of_block xf).trans rfl
            have g1 : wc.cell? ⟨G, 1, none⟩ = some (.int .i64 e.client) := (cell_of_block xg).trans rfl
            have p2 : wc.cell? ⟨F, 2, none⟩ = some (.int .i64 e.seq) := (cell_of_block xf).trans rfl
            have g2 : wc.cell? ⟨G, 2, none⟩ = some (.int .i64 e.seq) := (cell_of_block xg).trans rfl
            have p3 : wc.cell? ⟨F, 3, none⟩ = some (.string e.text) := (cell_of_block xf).trans rfl
            have g3 : wc.cell? ⟨G, 3, none⟩ = some (.string e.text) := (cell_of_block xg).trans rfl
            have p4 : wc.cell? ⟨F, 4, none⟩ = some (.slice mo4 e.ms.length mc4) := (cell_of_block xf).trans rfl
            have g4 : wc.cell? ⟨G, 4, none⟩ = some (.slice mo2 e.ms.length mc2) := (cell_of_block xg).trans rfl
            have p5 : wc.cell? ⟨F, 5, none⟩ = some (.int .i64 e.dest) := (cell_of_block xf).trans rfl
            have g5 : wc.cell? ⟨G, 5, none⟩ = some (.int .i64 e.dest) := (cell_of_block xg).trans rfl
            have SY : Hid (∀ Y, Below wc.heap.size wc Y → Y.cell? ⟨x, 0, none⟩ = some (.int .i64 P) ∧ Y.cell? ⟨x, 1, none⟩ = some (.slice ao5 L cap5) ∧ Y.cell? ⟨F, 0, none⟩ = some (.int .i64 e.kind) ∧ Y.cell? ⟨F, 1, none⟩ = some (.int .i64 e.client) ∧ Y.cell? ⟨F, 2, none⟩ = some (.int .i64 e.seq) ∧ Y.cell? ⟨F, 3, none⟩ = some (.string e.text) ∧ Y.cell? ⟨F, 4, none⟩ = some (.slice mo4 e.ms.length mc4) ∧ Y.cell? ⟨F, 5, none⟩ = some (.int .i64 e.dest) ∧ Y.cell? ⟨G, 0, none⟩ = some (.int .i64 e.kind) ∧ Y.cell? ⟨G, 1, none⟩ = some (.int .i64 e.client) ∧ Y.cell? ⟨G, 2, none⟩ = some (.int .i64 e.seq) ∧ Y.cell? ⟨G, 3, none⟩ = some (.string e.text) ∧ Y.cell? ⟨G, 4, none⟩ = some (.slice mo2 e.ms.length mc2) ∧ Y.cell? ⟨G, 5, none⟩ = some (.int .i64 e.dest)) := hide (fun Y hY => ⟨(hY.cell (blk_lt x0)).trans x0, (hY.cell (blk_lt x1)).trans x1, (hY.cell (blk_lt p0)).trans p0, (hY.cell (blk_lt p1)).trans p1, (hY.cell (blk_lt p2)).trans p2, (hY.cell (blk_lt p3)).trans p3, (hY.cell (blk_lt p4)).trans p4, (hY.cell (blk_lt p5)).trans p5, (hY.cell (blk_lt g0)).trans g0, (hY.cell (blk_lt g1)).trans g1, (hY.cell (blk_lt g2)).trans g2, (hY.cell (blk_lt g3)).trans g3, (hY.cell (blk_lt g4)).trans g4, (hY.cell (blk_lt g5)).trans g5⟩)
            have RR := hide ((unhide R5).below eW)
            have RX := hide ((unhide XR).2.2.below eW)
            have CS : Hid (∀ Y, Below wc.heap.size wc Y → Calls Try.prog 16 #[.slice ao3 L cap3, .slice ao5 L cap5] Y fun r w' => r = .returned (.bool true) ∧ Below wc.heap.size wc w') := hide (fun Y hY => by
              refine (vsame_eq (allOf f) L (unhide HL) (unhide L6) ao3 ao5 cap3 cap5 Y ((unhide RR).vsR.below hY) ((unhide RX).vsR.below hY)).mono ?_
              rintro r w' ⟨h1, h2⟩
              exact ⟨h1, below_far hY h2⟩)
            have I6 := hide ((unhide I5).below eW)
            have CE : Hid (∀ Y, Below wc.heap.size wc Y → Calls Try.prog 21 #[.agg #[.int .i64 e.kind, .int .i64 e.client, .int .i64 e.seq, .string e.text, .slice mo4 e.ms.length mc4, .int .i64 e.dest], .agg #[.int .i64 e.kind, .int .i64 e.client, .int .i64 e.seq, .string e.text, .slice mo2 e.ms.length mc2, .int .i64 e.dest]] Y fun r w' => r = .returned (.bool true) ∧ Below wc.heap.size wc w') := hide (fun Y hY => by
              refine (rsame_one e mo4 mo2 mc4 mc2 Y hml ((unhide I6).below hY) (m2.ints.below hY)).mono ?_
              rintro r w' ⟨h1, h2⟩
              exact ⟨h1, below_far hY h2⟩)
            have CQ : Hid (∀ Y, Below wc.heap.size wc Y → Calls Try.prog 20 #[.pointer (some ⟨p, 0, none⟩)] Y fun r w' => r = .returned (.int .i64 P) ∧ w' = Y) := hide (fun Y hY => ((unhide S6).below hY).promised)
            have EY := hide (Below.refl wc.heap.size wc)
            have nn : (P != P) = false := by simp
            have nb : (is != is) = false := by simp
            clear EZ xg m2 hml eW xf x0 x1 p0 p1 p2 p3 p4 p5 g0 g1 g2 g3 g4 g5 S5 R5 I5 X5 XR RR RX I6 SX CX
            go_wp2_with fail
            go_region_held3 (fun Y => Y.cell? ⟨x, 0, none⟩ = some (.int .i64 P) ∧ Y.cell? ⟨x, 1, none⟩ = some (.slice ao5 L cap5) ∧ Y.cell? ⟨F, 0, none⟩ = some (.int .i64 e.kind) ∧ Y.cell? ⟨F, 1, none⟩ = some (.int .i64 e.client) ∧ Y.cell? ⟨F, 2, none⟩ = some (.int .i64 e.seq) ∧ Y.cell? ⟨F, 3, none⟩ = some (.string e.text) ∧ Y.cell? ⟨F, 4, none⟩ = some (.slice mo4 e.ms.length mc4) ∧ Y.cell? ⟨F, 5, none⟩ = some (.int .i64 e.dest) ∧ Y.cell? ⟨G, 0, none⟩ = some (.int .i64 e.kind) ∧ Y.cell? ⟨G, 1, none⟩ = some (.int .i64 e.client) ∧ Y.cell? ⟨G, 2, none⟩ = some (.int .i64 e.seq) ∧ Y.cell? ⟨G, 3, none⟩ = some (.string e.text) ∧ Y.cell? ⟨G, 4, none⟩ = some (.slice mo2 e.ms.length mc2) ∧ Y.cell? ⟨G, 5, none⟩ = some (.int .i64 e.dest))
              (first | with_reducible exact unhide SY _ (unhide EY) | with_reducible exact unhide SY _ (unhide EY).drew | fail)
              (first
                | (go_at_call 20
                   refine (unhide CQ _ (by first | exact unhide EY | exact (unhide EY).drew)).mono ?_
                   rintro r y ⟨rfl, hy⟩
                   replace hy := hy.symm
                   subst hy)
                | (go_at_call 16
                   refine (unhide CS _ (by first | exact unhide EY | exact (unhide EY).drew)).mono ?_
                   rintro r y ⟨rfl, hy⟩
                   clear EY
                   have EY := hide hy
                   clear hy)
                | (go_at_call 21
                   refine (unhide CE _ (by first | exact unhide EY | exact (unhide EY).drew)).mono ?_
                   rintro r y ⟨rfl, hy⟩
                   clear EY
                   have EY := hide hy
                   clear hy)
                | fail)
            all_goals
              have FIN := hide ((unhide S6).below (unhide EY)).pl
              clear SY CS CE CQ S6
              go_wp2
              go_roundw
              case rel => first | exact ⟨k + 1, by omega, by omega, by go_num, unhide FIN⟩ | exact ⟨k + 1, by omega, by omega, by go_num, (unhide FIN).below (Below.refl _ _).drew⟩
              case measure => simp [intOf]; omega
    · by_cases hx : k < n
      all_goals
        first
          | (have q1 : (k : Int) < (n : Int) := by omega
             have q2 : ¬ (k : Int) < 80 := by omega)
          | (have q1 : ¬ (k : Int) < (n : Int) := by omega)
        go_wp2
        go_ret
        exact ⟨rfl, unhide BL⟩
end Go.Proofs.Ytijohafalcifpaa
