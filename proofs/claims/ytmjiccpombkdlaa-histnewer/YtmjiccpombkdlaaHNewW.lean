/- HistNewer: the walk. -/
import Derived.Test.YtmjiccpombkdlaaHGrown
namespace Go.Proofs.Ytmjiccpombkdlaa
open Go.RowKit Go.Maps

set_option maxRecDepth 20000 in
set_option maxHeartbeats 4000000 in
theorem newer_walk (a b : Option Addr) (n m ca cb : Nat) (xs ys : List Int) (hx : xs.length = n) (hy : ys.length = m) (w : World) (ha : IntsR w a xs) (hb : IntsR w b ys) :
    Calls Try.prog 8 #[.slice a n ca, .slice b m cb] w fun e w' => e = .returned (.bool true) ∧ Below w.heap.size w w' := by
  have KN := hide (hknown_any w)
  have HA := hide ha
  have HB := hide hb
  have HX := hide hx
  have HY := hide hy
  clear ha hb hx hy
  go_enter Try.func8, Try.ntmps8
  go_wp2_with fail
  refine (unhide KN).mono ?_
  rintro e w0 ⟨rfl, b0⟩
  have B0 := hide b0
  have GX := hide (grown_any a n ca xs (unhide HX) w0 ((unhide HA).below b0))
  clear b0 KN
  go_wp2_with fail
  refine (unhide GX).mono ?_
  rintro e w1 ⟨Dx, rx, tx, rfl, hx, dx, gx, lx, b1⟩
  have B1 := hide (below_far (unhide B0) b1)
  have GY := hide (grown_any b m cb ys (unhide HY) w1 ((unhide HB).below (unhide B1)))
  have HX1 := hide hx
  have LX := hide lx
  clear b1 GX hx dx gx lx
  go_wp2_with fail
  refine (unhide GY).mono ?_
  rintro e w2 ⟨Dy, ry, ty, rfl, hy, dy, gy, ly, b2⟩
  have B2 := hide (below_far (unhide B1) b2)
  have fx : Fit 0 rx := ⟨by decide, by decide, by rw [unhide LX]; omega⟩
  have fy : Fit 0 ry := ⟨by decide, by decide, by rw [ly]; omega⟩
  have hx2 := (unhide HX1).below b2
  have LX := hide (fun Y (h : Below w2.heap.size w2 Y) => last_any (hx2.below h) fx)
  have LY := hide (fun Y (h : Below w2.heap.size w2 Y) => last_any (hy.below h) fy)
  have TX := hide (fun Y (h : Below w2.heap.size w2 Y) => term_any (hx2.below h) fx (0 + (rx.length : Int)))
  have TY := hide (fun Y (h : Below w2.heap.size w2 Y) => term_any (hy.below h) fy (0 + (ry.length : Int)))
  have NX := hide (fun Y (h : Below w2.heap.size w2 Y) => newer_any (hx2.below h) fx (0 + (ry.length : Int)) (termOf 0 ry (0 + (ry.length : Int))))
  have NY := hide (fun Y (h : Below w2.heap.size w2 Y) => newer_any (hy.below h) fy (0 + (rx.length : Int)) (termOf 0 rx (0 + (rx.length : Int))))
  obtain ⟨P, hP⟩ : ∃ P, newerOf 0 rx (0 + (ry.length : Int)) (termOf 0 ry (0 + (ry.length : Int))) = P := ⟨_, rfl⟩
  obtain ⟨Q, hQ⟩ : ∃ Q, newerOf 0 ry (0 + (rx.length : Int)) (termOf 0 rx (0 + (rx.length : Int))) = Q := ⟨_, rfl⟩
  rw [hP] at NX
  rw [hQ] at NY
  unfold newerOf at hP hQ
  obtain ⟨l, hl⟩ : ∃ l, 0 + (rx.length : Int) = l := ⟨_, rfl⟩
  obtain ⟨k, hk⟩ : ∃ k, 0 + (ry.length : Int) = k := ⟨_, rfl⟩
  rw [hl] at LX TX NY hP hQ
  rw [hk] at LY TY NX hP hQ
  obtain ⟨t, ht⟩ : ∃ t, termOf 0 rx l = t := ⟨_, rfl⟩
  obtain ⟨s, hs⟩ : ∃ s, termOf 0 ry k = s := ⟨_, rfl⟩
  rw [ht] at TX NY hP hQ
  rw [hs] at TY NX hP hQ
  have A0 := hide (Below.refl w2.heap.size w2)
  have HP := hide hP
  have HQ := hide hQ
  clear GY hy dy gy ly b2 hx2 fx fy hP hQ hl hk ht hs HX1
  go_wp2_with fail
  refine (unhide LY _ (unhide A0)).mono ?_
  rintro e z1 ⟨rfl, c1⟩
  have A1 := hide (below_far (unhide A0) c1)
  clear c1 A0
  go_wp2_with fail
  refine (unhide LY _ (unhide A1)).mono ?_
  rintro e z2 ⟨rfl, c2⟩
  have A2 := hide (below_far (unhide A1) c2)
  clear c2 A1
  go_wp2_with fail
  refine (unhide TY _ (unhide A2)).mono ?_
  rintro e z3 ⟨rfl, c3⟩
  have A3 := hide (below_far (unhide A2) c3)
  clear c3 A2
  go_wp2_with fail
  refine (unhide NX _ (unhide A3)).mono ?_
  rintro e z4 ⟨rfl, c4⟩
  have A4 := hide (below_far (unhide A3) c4)
  clear c4 A3
  go_wp2_with fail
  refine (unhide LX _ (unhide A4)).mono ?_
  rintro e z5 ⟨rfl, c5⟩
  have A5 := hide (below_far (unhide A4) c5)
  clear c5 A4
  go_wp2_with fail
  refine (unhide LX _ (unhide A5)).mono ?_
  rintro e z6 ⟨rfl, c6⟩
  have A6 := hide (below_far (unhide A5) c6)
  clear c6 A5
  go_wp2_with fail
  refine (unhide TX _ (unhide A6)).mono ?_
  rintro e z7 ⟨rfl, c7⟩
  have A7 := hide (below_far (unhide A6) c7)
  clear c7 A6
  go_wp2_with fail
  refine (unhide NY _ (unhide A7)).mono ?_
  rintro e z8 ⟨rfl, c8⟩
  have A8 := hide (below_far (unhide A7) c8)
  clear c8 A7
  have hpq : P = true ∨ Q = true := by
    rw [← unhide HP, ← unhide HQ, decide_eq_true_eq, decide_eq_true_eq]; omega
  have hboth : (P = true ∧ Q = true) ↔ (l = k ∧ t = s) := by
    rw [← unhide HP, ← unhide HQ, decide_eq_true_eq, decide_eq_true_eq]; omega
  clear HP HQ
  cases P
  · cases Q
    · simp at hpq
    · by_cases hlk : l = k
      · by_cases hts : t = s
        · exact absurd (hboth.2 ⟨hlk, hts⟩).1 (by decide)
        · clear hboth hpq
          go_wp2_with fail
          refine (unhide LX _ (unhide A8)).mono ?_
          rintro e z9 ⟨rfl, c9⟩
          have A9 := hide (below_far (unhide A8) c9)
          clear c9 A8
          go_wp2_with fail
          refine (unhide LY _ (unhide A9)).mono ?_
          rintro e z10 ⟨rfl, c10⟩
          have A10 := hide (below_far (unhide A9) c10)
          clear c10 A9
          subst hlk
          go_wp2_with fail
          refine (unhide LX _ (unhide A10)).mono ?_
          rintro e z11 ⟨rfl, c11⟩
          have A11 := hide (below_far (unhide A10) c11)
          clear c11 A10
          go_wp2_with fail
          refine (unhide TX _ (unhide A11)).mono ?_
          rintro e z12 ⟨rfl, c12⟩
          have A12 := hide (below_far (unhide A11) c12)
          clear c12 A11
          go_wp2_with fail
          refine (unhide LY _ (unhide A12)).mono ?_
          rintro e z13 ⟨rfl, c13⟩
          have A13 := hide (below_far (unhide A12) c13)
          clear c13 A12
          go_wp2_with fail
          refine (unhide TY _ (unhide A13)).mono ?_
          rintro e z14 ⟨rfl, c14⟩
          have A14 := hide (below_far (unhide A13) c14)
          clear c14 A13
          have d2 : (t == s) = false := by rw [beq_eq_false_iff_ne]; exact hts
          clear hts
          go_wp2
          go_ret
          exact ⟨rfl, (unhide B2).trans ((unhide A14).mono (unhide B2).size)⟩
      · clear hboth hpq
        go_wp2_with fail
        refine (unhide LX _ (unhide A8)).mono ?_
        rintro e z9 ⟨rfl, c9⟩
        have A9 := hide (below_far (unhide A8) c9)
        clear c9 A8
        go_wp2_with fail
        refine (unhide LY _ (unhide A9)).mono ?_
        rintro e z10 ⟨rfl, c10⟩
        have A10 := hide (below_far (unhide A9) c10)
        clear c10 A9
        have d1 : (l == k) = false := by rw [beq_eq_false_iff_ne]; exact hlk
        clear hlk
        go_wp2
        go_ret
        exact ⟨rfl, (unhide B2).trans ((unhide A10).mono (unhide B2).size)⟩
  · cases Q
    · by_cases hlk : l = k
      · by_cases hts : t = s
        · exact absurd (hboth.2 ⟨hlk, hts⟩).2 (by decide)
        · clear hboth hpq
          go_wp2_with fail
          refine (unhide LX _ (unhide A8)).mono ?_
          rintro e z9 ⟨rfl, c9⟩
          have A9 := hide (below_far (unhide A8) c9)
          clear c9 A8
          go_wp2_with fail
          refine (unhide LY _ (unhide A9)).mono ?_
          rintro e z10 ⟨rfl, c10⟩
          have A10 := hide (below_far (unhide A9) c10)
          clear c10 A9
          subst hlk
          go_wp2_with fail
          refine (unhide LX _ (unhide A10)).mono ?_
          rintro e z11 ⟨rfl, c11⟩
          have A11 := hide (below_far (unhide A10) c11)
          clear c11 A10
          go_wp2_with fail
          refine (unhide TX _ (unhide A11)).mono ?_
          rintro e z12 ⟨rfl, c12⟩
          have A12 := hide (below_far (unhide A11) c12)
          clear c12 A11
          go_wp2_with fail
          refine (unhide LY _ (unhide A12)).mono ?_
          rintro e z13 ⟨rfl, c13⟩
          have A13 := hide (below_far (unhide A12) c13)
          clear c13 A12
          go_wp2_with fail
          refine (unhide TY _ (unhide A13)).mono ?_
          rintro e z14 ⟨rfl, c14⟩
          have A14 := hide (below_far (unhide A13) c14)
          clear c14 A13
          have d2 : (t == s) = false := by rw [beq_eq_false_iff_ne]; exact hts
          clear hts
          go_wp2
          go_ret
          exact ⟨rfl, (unhide B2).trans ((unhide A14).mono (unhide B2).size)⟩
      · clear hboth hpq
        go_wp2_with fail
        refine (unhide LX _ (unhide A8)).mono ?_
        rintro e z9 ⟨rfl, c9⟩
        have A9 := hide (below_far (unhide A8) c9)
        clear c9 A8
        go_wp2_with fail
        refine (unhide LY _ (unhide A9)).mono ?_
        rintro e z10 ⟨rfl, c10⟩
        have A10 := hide (below_far (unhide A9) c10)
        clear c10 A9
        have d1 : (l == k) = false := by rw [beq_eq_false_iff_ne]; exact hlk
        clear hlk
        go_wp2
        go_ret
        exact ⟨rfl, (unhide B2).trans ((unhide A10).mono (unhide B2).size)⟩
    · obtain ⟨hlk, hts⟩ := hboth.1 ⟨rfl, rfl⟩
      clear hboth hpq
      go_wp2_with fail
      refine (unhide LX _ (unhide A8)).mono ?_
      rintro e z9 ⟨rfl, c9⟩
      have A9 := hide (below_far (unhide A8) c9)
      clear c9 A8
      go_wp2_with fail
      refine (unhide LY _ (unhide A9)).mono ?_
      rintro e z10 ⟨rfl, c10⟩
      have A10 := hide (below_far (unhide A9) c10)
      clear c10 A9
      subst hlk
      go_wp2_with fail
      refine (unhide LX _ (unhide A10)).mono ?_
      rintro e z11 ⟨rfl, c11⟩
      have A11 := hide (below_far (unhide A10) c11)
      clear c11 A10
      go_wp2_with fail
      refine (unhide TX _ (unhide A11)).mono ?_
      rintro e z12 ⟨rfl, c12⟩
      have A12 := hide (below_far (unhide A11) c12)
      clear c12 A11
      go_wp2_with fail
      refine (unhide LY _ (unhide A12)).mono ?_
      rintro e z13 ⟨rfl, c13⟩
      have A13 := hide (below_far (unhide A12) c13)
      clear c13 A12
      go_wp2_with fail
      refine (unhide TY _ (unhide A13)).mono ?_
      rintro e z14 ⟨rfl, c14⟩
      have A14 := hide (below_far (unhide A13) c14)
      clear c14 A13
      subst hts
      go_wp2
      go_ret
      exact ⟨rfl, (unhide B2).trans ((unhide A14).mono (unhide B2).size)⟩
end Go.Proofs.Ytmjiccpombkdlaa
