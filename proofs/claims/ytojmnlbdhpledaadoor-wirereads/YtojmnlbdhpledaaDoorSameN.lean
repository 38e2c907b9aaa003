/- synodalref2.SameMsg: a contract. -/
import Derived.Test.YtojmnlbdhpledaaDoorSameF
namespace Go.Proofs.YtojmnlbdhpledaaDoor
open Go.RowKit

set_option maxRecDepth 100000 in
set_option maxHeartbeats 8000000 in
theorem rsameMsg_any (p0 p1 p2 p3 p4 p5 p6 p7 q0 q1 q2 q3 q4 q5 q6 q7 : Int) (py qy : Bool) (at1 ae1 ao1 an1 at2 ae2 ao2 an2 : Option Addr) (nt1 ct1 ne1 ce1 no1 co1 nn1 cn1 nt2 ct2 ne2 ce2 no2 co2 nn2 cn2 : Nat) (ts1 ts2 os1 os2 ns1 ns2 : List Int) (es1 es2 : List En)
    (h1 : ts1.length = nt1) (h2 : ts2.length = nt2) (h3 : es1.length = ne1) (h4 : es2.length = ne2) (h5 : os1.length = no1) (h6 : os2.length = no2) (h7 : ns1.length = nn1) (h8 : ns2.length = nn2) (l1 : nt1 ≤ 1000000) (l2 : ne1 ≤ 1000000) (l3 : no1 ≤ 1000000) (l4 : nn1 ≤ 1000000) (lm : ∀ i, i < es1.length → (es1.getD i default).ms.length ≤ 1000000)
    (w : World) (k1 : IntsR w at1 ts1) (k2 : IntsR w at2 ts2) (k3 : EntsAt w ae1 es1) (k4 : EntsAt w ae2 es2) (k5 : IntsR w ao1 os1) (k6 : IntsR w ao2 os2) (k7 : IntsR w an1 ns1) (k8 : IntsR w an2 ns2) :
    Calls Tryd.prog 21 #[.agg #[.int .i64 p0, .int .i64 p1, .int .i64 p2, .int .i64 p3, .int .i64 p4, .int .i64 p5, .int .i64 p6, .int .i64 p7, .bool py, .slice at1 nt1 ct1, .slice ae1 ne1 ce1, .slice ao1 no1 co1, .slice an1 nn1 cn1], .agg #[.int .i64 q0, .int .i64 q1, .int .i64 q2, .int .i64 q3, .int .i64 q4, .int .i64 q5, .int .i64 q6, .int .i64 q7, .bool qy, .slice at2 nt2 ct2, .slice ae2 ne2 ce2, .slice ao2 no2 co2, .slice an2 nn2 cn2]] w fun e w' => e = .returned (.bool (decide (p0 = q0 ∧ p1 = q1 ∧ p2 = q2 ∧ p3 = q3 ∧ p4 = q4 ∧ p5 = q5 ∧ p6 = q6 ∧ p7 = q7 ∧ py = qy ∧ ts1 = ts2 ∧ sameEs es1 es2 = true ∧ os1 = os2 ∧ ns1 = ns2))) ∧ Below w.heap.size w w' := by
  obtain ⟨R, hR⟩ : ∃ R, decide (p0 = q0 ∧ p1 = q1 ∧ p2 = q2 ∧ p3 = q3 ∧ p4 = q4 ∧ p5 = q5 ∧ p6 = q6 ∧ p7 = q7 ∧ py = qy ∧ ts1 = ts2 ∧ sameEs es1 es2 = true ∧ os1 = os2 ∧ ns1 = ns2) = R := ⟨_, rfl⟩
  rw [hR]
  obtain ⟨W, hW⟩ : ∃ W, (w.alloc (.cells #[.int .i64 p0, .int .i64 p1, .int .i64 p2, .int .i64 p3, .int .i64 p4, .int .i64 p5, .int .i64 p6, .int .i64 p7, .bool py, .slice at1 nt1 ct1, .slice ae1 ne1 ce1, .slice ao1 no1 co1, .slice an1 nn1 cn1] 41)).alloc (.cells #[.int .i64 q0, .int .i64 q1, .int .i64 q2, .int .i64 q3, .int .i64 q4, .int .i64 q5, .int .i64 q6, .int .i64 q7, .bool qy, .slice at2 nt2 ct2, .slice ae2 ne2 ce2, .slice ao2 no2 co2, .slice an2 nn2 cn2] 41) = W := ⟨_, rfl⟩
  obtain ⟨x1, x2, bW⟩ := ent_two w (.cells #[.int .i64 p0, .int .i64 p1, .int .i64 p2, .int .i64 p3, .int .i64 p4, .int .i64 p5, .int .i64 p6, .int .i64 p7, .bool py, .slice at1 nt1 ct1, .slice ae1 ne1 ce1, .slice ao1 no1 co1, .slice an1 nn1 cn1] 41) (.cells #[.int .i64 q0, .int .i64 q1, .int .i64 q2, .int .i64 q3, .int .i64 q4, .int .i64 q5, .int .i64 q6, .int .i64 q7, .bool qy, .slice at2 nt2 ct2, .slice ae2 ne2 ce2, .slice ao2 no2 co2, .slice an2 nn2 cn2] 41)
  rw [hW] at x1 x2 bW
  have SB1 := hide (fun (Y : World) (hY : Below W.heap.size W Y) => mbox_cells ((hY.block _ (blk_lt' x1)).trans x1))
  have SB2 := hide (fun (Y : World) (hY : Below W.heap.size W Y) => mbox_cells ((hY.block _ (blk_lt' x2)).trans x2))
  have ET := hide (fun (Y : World) (hY : Below W.heap.size W Y) => sameInts_any at1 at2 nt1 nt2 ct1 ct2 ts1 ts2 h1 h2 (by omega) Y ((k1.below bW).below hY) ((k2.below bW).below hY))
  have EE := hide (fun (Y : World) (hY : Below W.heap.size W Y) => rsameEntries_any ae1 ae2 ne1 ne2 ce1 ce2 es1 es2 h3 h4 l2 lm Y ((k3.below bW).below hY) ((k4.below bW).below hY))
  have EO := hide (fun (Y : World) (hY : Below W.heap.size W Y) => sameInts_any ao1 ao2 no1 no2 co1 co2 os1 os2 h5 h6 (by omega) Y ((k5.below bW).below hY) ((k6.below bW).below hY))
  have EN := hide (fun (Y : World) (hY : Below W.heap.size W Y) => sameInts_any an1 an2 nn1 nn2 cn1 cn2 ns1 ns2 h7 h8 (by omega) Y ((k7.below bW).below hY) ((k8.below bW).below hY))
  obtain ⟨B, hB⟩ : ∃ B, w.heap.size = B := ⟨_, rfl⟩
  rw [hB] at SB1 SB2
  have HW := hide hW
  have BW := hide bW
  have HB := hide hB
  have HR := hide hR
  clear hW bW x1 x2 k1 k2 k3 k4 k5 k6 k7 k8 h1 h2 h3 h4 h5 h6 h7 h8 lm hR hB
  obtain ⟨a0, a1, a2, a3, a4, a5, a6, a7, a8, a9, a10, a11, a12⟩ := unhide SB1 W (Below.refl _ _)
  obtain ⟨b0, b1, b2, b3, b4, b5, b6, b7, b8, b9, b10, b11, b12⟩ := unhide SB2 W (Below.refl _ _)
  by_cases e0 : p0 = q0
  · subst e0
    by_cases e1 : p1 = q1
    · subst e1
      by_cases e2 : p2 = q2
      · subst e2
        by_cases e3 : p3 = q3
        · subst e3
          by_cases e4 : p4 = q4
          · subst e4
            by_cases e5 : p5 = q5
            · subst e5
              by_cases e6 : p6 = q6
              · subst e6
                by_cases e7 : p7 = q7
                · subst e7
                  by_cases e8 : py = qy
                  · subst e8
                    by_cases f0 : ts1 = ts2
                    · rw [decide_eq_true f0] at ET
                      by_cases f1 : sameEs es1 es2 = true
                      · rw [f1] at EE
                        by_cases f2 : os1 = os2
                        · rw [decide_eq_true f2] at EO
                          by_cases f3 : ns1 = ns2
                          · rw [decide_eq_true f3] at EN
                            obtain rfl : true = R := by rw [← unhide HR]; exact (decide_eq_true ⟨rfl, rfl, rfl, rfl, rfl, rfl, rfl, rfl, rfl, f0, f1, f2, f3⟩).symm
                            clear HR
                            as_aux_lemma =>
                              go_enter Tryd.func21, Tryd.ntmps21
                              go_wp2_with (rw [unhide HW, unhide HB])
                              refine (unhide ET W (Below.refl _ _)).mono ?_
                              rintro er w1 ⟨rfl, y1⟩
                              have Y1 := hide (y1)
                              clear y1
                              obtain ⟨-, -, -, -, -, -, -, -, -, -, c10, -, -⟩ := unhide SB1 _ (unhide Y1)
                              obtain ⟨-, -, -, -, -, -, -, -, -, -, d10, -, -⟩ := unhide SB2 _ (unhide Y1)
                              go_wp2_with fail
                              refine (unhide EE w1 (unhide Y1)).mono ?_
                              rintro er w2 ⟨rfl, y2⟩
                              have Y2 := hide ((unhide Y1).trans (y2.mono (unhide Y1).size))
                              clear y2
                              obtain ⟨-, -, -, -, -, -, -, -, -, -, -, c11, -⟩ := unhide SB1 _ (unhide Y2)
                              obtain ⟨-, -, -, -, -, -, -, -, -, -, -, d11, -⟩ := unhide SB2 _ (unhide Y2)
                              go_wp2_with fail
                              refine (unhide EO w2 (unhide Y2)).mono ?_
                              rintro er w3 ⟨rfl, y3⟩
                              have Y3 := hide ((unhide Y2).trans (y3.mono (unhide Y2).size))
                              clear y3
                              obtain ⟨-, -, -, -, -, -, -, -, -, -, -, -, c12⟩ := unhide SB1 _ (unhide Y3)
                              obtain ⟨-, -, -, -, -, -, -, -, -, -, -, -, d12⟩ := unhide SB2 _ (unhide Y3)
                              go_wp2_with fail
                              refine (unhide EN w3 (unhide Y3)).mono ?_
                              rintro er w4 ⟨rfl, y4⟩
                              have Y4 := hide ((unhide Y3).trans (y4.mono (unhide Y3).size))
                              clear y4
                              have B9 := hide ((unhide BW).trans ((unhide Y4).mono (unhide BW).size))
                              go_wp2
                              go_ret
                              exact ⟨rfl, unhide B9⟩
                          · rw [decide_eq_false f3] at EN
                            obtain rfl : false = R := by rw [← unhide HR]; exact (decide_eq_false (fun h => f3 h.2.2.2.2.2.2.2.2.2.2.2.2)).symm
                            clear HR
                            as_aux_lemma =>
                              go_enter Tryd.func21, Tryd.ntmps21
                              go_wp2_with (rw [unhide HW, unhide HB])
                              refine (unhide ET W (Below.refl _ _)).mono ?_
                              rintro er w1 ⟨rfl, y1⟩
                              have Y1 := hide (y1)
                              clear y1
                              obtain ⟨-, -, -, -, -, -, -, -, -, -, c10, -, -⟩ := unhide SB1 _ (unhide Y1)
                              obtain ⟨-, -, -, -, -, -, -, -, -, -, d10, -, -⟩ := unhide SB2 _ (unhide Y1)
                              go_wp2_with fail
                              refine (unhide EE w1 (unhide Y1)).mono ?_
                              rintro er w2 ⟨rfl, y2⟩
                              have Y2 := hide ((unhide Y1).trans (y2.mono (unhide Y1).size))
                              clear y2
                              obtain ⟨-, -, -, -, -, -, -, -, -, -, -, c11, -⟩ := unhide SB1 _ (unhide Y2)
                              obtain ⟨-, -, -, -, -, -, -, -, -, -, -, d11, -⟩ := unhide SB2 _ (unhide Y2)
                              go_wp2_with fail
                              refine (unhide EO w2 (unhide Y2)).mono ?_
                              rintro er w3 ⟨rfl, y3⟩
                              have Y3 := hide ((unhide Y2).trans (y3.mono (unhide Y2).size))
                              clear y3
                              obtain ⟨-, -, -, -, -, -, -, -, -, -, -, -, c12⟩ := unhide SB1 _ (unhide Y3)
                              obtain ⟨-, -, -, -, -, -, -, -, -, -, -, -, d12⟩ := unhide SB2 _ (unhide Y3)
                              go_wp2_with fail
                              refine (unhide EN w3 (unhide Y3)).mono ?_
                              rintro er w4 ⟨rfl, y4⟩
                              have Y4 := hide ((unhide Y3).trans (y4.mono (unhide Y3).size))
                              clear y4
                              have B9 := hide ((unhide BW).trans ((unhide Y4).mono (unhide BW).size))
                              go_wp2
                              go_ret
                              exact ⟨rfl, unhide B9⟩
                        · rw [decide_eq_false f2] at EO
                          obtain rfl : false = R := by rw [← unhide HR]; exact (decide_eq_false (fun h => f2 h.2.2.2.2.2.2.2.2.2.2.2.1)).symm
                          clear HR
                          as_aux_lemma =>
                            go_enter Tryd.func21, Tryd.ntmps21
                            go_wp2_with (rw [unhide HW, unhide HB])
                            refine (unhide ET W (Below.refl _ _)).mono ?_
                            rintro er w1 ⟨rfl, y1⟩
                            have Y1 := hide (y1)
                            clear y1
                            obtain ⟨-, -, -, -, -, -, -, -, -, -, c10, -, -⟩ := unhide SB1 _ (unhide Y1)
                            obtain ⟨-, -, -, -, -, -, -, -, -, -, d10, -, -⟩ := unhide SB2 _ (unhide Y1)
                            go_wp2_with fail
                            refine (unhide EE w1 (unhide Y1)).mono ?_
                            rintro er w2 ⟨rfl, y2⟩
                            have Y2 := hide ((unhide Y1).trans (y2.mono (unhide Y1).size))
                            clear y2
                            obtain ⟨-, -, -, -, -, -, -, -, -, -, -, c11, -⟩ := unhide SB1 _ (unhide Y2)
                            obtain ⟨-, -, -, -, -, -, -, -, -, -, -, d11, -⟩ := unhide SB2 _ (unhide Y2)
                            go_wp2_with fail
                            refine (unhide EO w2 (unhide Y2)).mono ?_
                            rintro er w3 ⟨rfl, y3⟩
                            have Y3 := hide ((unhide Y2).trans (y3.mono (unhide Y2).size))
                            clear y3
                            have B9 := hide ((unhide BW).trans ((unhide Y3).mono (unhide BW).size))
                            go_wp2
                            go_ret
                            exact ⟨rfl, unhide B9⟩
                      · rw [Bool.not_eq_true] at f1
                        rw [f1] at EE
                        obtain rfl : false = R := by rw [← unhide HR]; exact (decide_eq_false (fun h => by have := h.2.2.2.2.2.2.2.2.2.2.1; rw [f1] at this; cases this)).symm
                        clear HR
                        as_aux_lemma =>
                          go_enter Tryd.func21, Tryd.ntmps21
                          go_wp2_with (rw [unhide HW, unhide HB])
                          refine (unhide ET W (Below.refl _ _)).mono ?_
                          rintro er w1 ⟨rfl, y1⟩
                          have Y1 := hide (y1)
                          clear y1
                          obtain ⟨-, -, -, -, -, -, -, -, -, -, c10, -, -⟩ := unhide SB1 _ (unhide Y1)
                          obtain ⟨-, -, -, -, -, -, -, -, -, -, d10, -, -⟩ := unhide SB2 _ (unhide Y1)
                          go_wp2_with fail
                          refine (unhide EE w1 (unhide Y1)).mono ?_
                          rintro er w2 ⟨rfl, y2⟩
                          have Y2 := hide ((unhide Y1).trans (y2.mono (unhide Y1).size))
                          clear y2
                          have B9 := hide ((unhide BW).trans ((unhide Y2).mono (unhide BW).size))
                          go_wp2
                          go_ret
                          exact ⟨rfl, unhide B9⟩
                    · rw [decide_eq_false f0] at ET
                      obtain rfl : false = R := by rw [← unhide HR]; exact (decide_eq_false (fun h => f0 h.2.2.2.2.2.2.2.2.2.1)).symm
                      clear HR
                      as_aux_lemma =>
                        go_enter Tryd.func21, Tryd.ntmps21
                        go_wp2_with (rw [unhide HW, unhide HB])
                        refine (unhide ET W (Below.refl _ _)).mono ?_
                        rintro er w1 ⟨rfl, y1⟩
                        have Y1 := hide (y1)
                        clear y1
                        have B9 := hide ((unhide BW).trans ((unhide Y1).mono (unhide BW).size))
                        go_wp2
                        go_ret
                        exact ⟨rfl, unhide B9⟩
                  · obtain rfl : false = R := by rw [← unhide HR]; exact (decide_eq_false (fun h => e8 (by exact h.2.2.2.2.2.2.2.2.1))).symm
                    have g : (py == qy) = false := by rw [beq_eq_false_iff_ne]; exact e8
                    clear HR e8 EE ET EO EN SB1 SB2 a9 a10 a11 a12 b9 b10 b11 b12
                    as_aux_lemma =>
                      go_enter Tryd.func21, Tryd.ntmps21
                      go_wp2_with (rw [unhide HW, unhide HB])
                      go_ret
                      exact ⟨rfl, unhide BW⟩
                · obtain rfl : false = R := by rw [← unhide HR]; exact (decide_eq_false (fun h => e7 (by exact h.2.2.2.2.2.2.2.1))).symm
                  have g : (p7 == q7) = false := by rw [beq_eq_false_iff_ne]; exact e7
                  clear HR e7 EE ET EO EN SB1 SB2 a8 a9 a10 a11 a12 b8 b9 b10 b11 b12
                  as_aux_lemma =>
                    go_enter Tryd.func21, Tryd.ntmps21
                    go_wp2_with (rw [unhide HW, unhide HB])
                    go_ret
                    exact ⟨rfl, unhide BW⟩
              · obtain rfl : false = R := by rw [← unhide HR]; exact (decide_eq_false (fun h => e6 (by exact h.2.2.2.2.2.2.1))).symm
                have g : (p6 == q6) = false := by rw [beq_eq_false_iff_ne]; exact e6
                clear HR e6 EE ET EO EN SB1 SB2 a7 a8 a9 a10 a11 a12 b7 b8 b9 b10 b11 b12
                as_aux_lemma =>
                  go_enter Tryd.func21, Tryd.ntmps21
                  go_wp2_with (rw [unhide HW, unhide HB])
                  go_ret
                  exact ⟨rfl, unhide BW⟩
            · obtain rfl : false = R := by rw [← unhide HR]; exact (decide_eq_false (fun h => e5 (by exact h.2.2.2.2.2.1))).symm
              have g : (p5 == q5) = false := by rw [beq_eq_false_iff_ne]; exact e5
              clear HR e5 EE ET EO EN SB1 SB2 a6 a7 a8 a9 a10 a11 a12 b6 b7 b8 b9 b10 b11 b12
              as_aux_lemma =>
                go_enter Tryd.func21, Tryd.ntmps21
                go_wp2_with (rw [unhide HW, unhide HB])
                go_ret
                exact ⟨rfl, unhide BW⟩
          · obtain rfl : false = R := by rw [← unhide HR]; exact (decide_eq_false (fun h => e4 (by exact h.2.2.2.2.1))).symm
            have g : (p4 == q4) = false := by rw [beq_eq_false_iff_ne]; exact e4
            clear HR e4 EE ET EO EN SB1 SB2 a5 a6 a7 a8 a9 a10 a11 a12 b5 b6 b7 b8 b9 b10 b11 b12
            as_aux_lemma =>
              go_enter Tryd.func21, Tryd.ntmps21
              go_wp2_with (rw [unhide HW, unhide HB])
              go_ret
              exact ⟨rfl, unhide BW⟩
        · obtain rfl : false = R := by rw [← unhide HR]; exact (decide_eq_false (fun h => e3 (by exact h.2.2.2.1))).symm
          have g : (p3 == q3) = false := by rw [beq_eq_false_iff_ne]; exact e3
          clear HR e3 EE ET EO EN SB1 SB2 a4 a5 a6 a7 a8 a9 a10 a11 a12 b4 b5 b6 b7 b8 b9 b10 b11 b12
          as_aux_lemma =>
            go_enter Tryd.func21, Tryd.ntmps21
            go_wp2_with (rw [unhide HW, unhide HB])
            go_ret
            exact ⟨rfl, unhide BW⟩
      · obtain rfl : false = R := by rw [← unhide HR]; exact (decide_eq_false (fun h => e2 (by exact h.2.2.1))).symm
        have g : (p2 == q2) = false := by rw [beq_eq_false_iff_ne]; exact e2
        clear HR e2 EE ET EO EN SB1 SB2 a3 a4 a5 a6 a7 a8 a9 a10 a11 a12 b3 b4 b5 b6 b7 b8 b9 b10 b11 b12
        as_aux_lemma =>
          go_enter Tryd.func21, Tryd.ntmps21
          go_wp2_with (rw [unhide HW, unhide HB])
          go_ret
          exact ⟨rfl, unhide BW⟩
    · obtain rfl : false = R := by rw [← unhide HR]; exact (decide_eq_false (fun h => e1 (by exact h.2.1))).symm
      have g : (p1 == q1) = false := by rw [beq_eq_false_iff_ne]; exact e1
      clear HR e1 EE ET EO EN SB1 SB2 a2 a3 a4 a5 a6 a7 a8 a9 a10 a11 a12 b2 b3 b4 b5 b6 b7 b8 b9 b10 b11 b12
      as_aux_lemma =>
        go_enter Tryd.func21, Tryd.ntmps21
        go_wp2_with (rw [unhide HW, unhide HB])
        go_ret
        exact ⟨rfl, unhide BW⟩
  · obtain rfl : false = R := by rw [← unhide HR]; exact (decide_eq_false (fun h => e0 (by exact h.1))).symm
    have g : (p0 == q0) = false := by rw [beq_eq_false_iff_ne]; exact e0
    clear HR e0 EE ET EO EN SB1 SB2 a1 a2 a3 a4 a5 a6 a7 a8 a9 a10 a11 a12 b1 b2 b3 b4 b5 b6 b7 b8 b9 b10 b11 b12
    as_aux_lemma =>
      go_enter Tryd.func21, Tryd.ntmps21
      go_wp2_with (rw [unhide HW, unhide HB])
      go_ret
      exact ⟨rfl, unhide BW⟩
end Go.Proofs.YtojmnlbdhpledaaDoor
