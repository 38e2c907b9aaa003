/- LinkFar: the walk. -/
import Derived.Test.YtkanolmcaoecgaaLSpec
namespace Go.Proofs.Ytkanolmcaoecgaa
open Go.RowKit Go.Maps

set_option maxRecDepth 20000 in
set_option maxHeartbeats 1000000 in
theorem far_walk (x0 x1 : Int) (w : World) : Calls Try.prog 5 #[.int .i64 x0, .int .i64 x1] w fun e w' => e = .returned (.bool true) ∧ Below w.heap.size w w' := by
  obtain ⟨t, ht⟩ : ∃ t : Nat, x0 % 100000 = (t : Int) := ⟨(x0 % 100000).toNat, by omega⟩
  obtain ⟨B, hB⟩ : ∃ B : Nat, x1 % 600 = (B : Int) := ⟨(x1 % 600).toNat, by omega⟩
  have ht5 : t < 100000 := by omega
  have hB6 : B < 600 := by omega
  have W0 := hide (fun w => show Calls Try.prog 9 #[.int .i64 x0, .int .i64 100000] w fun ev w' => ev = .returned (.int .i64 (t : Int)) ∧ w' = w by rw [← ht]; exact within_any x0 100000 w (by decide) (by decide))
  have W1 := hide (fun w => show Calls Try.prog 9 #[.int .i64 x1, .int .i64 600] w fun ev w' => ev = .returned (.int .i64 (B : Int)) ∧ w' = w by rw [← hB]; exact within_any x1 600 w (by decide) (by decide))
  obtain ⟨T, hT⟩ : ∃ T, t + 1 = T := ⟨_, rfl⟩
  have eT : (1 : Int) + (t : Int) = (T : Int) := by omega
  have KN := hide (known_any w)
  have HT5 : Hid (1 ≤ T ∧ T ≤ 100000) := And.intro (by omega) (by omega)
  clear ht hB hT
  go_enter Try.func5, Try.ntmps5
  go_wp2_with fail
  refine (unhide KN).mono ?_
  rintro e w1 ⟨rfl, b1⟩
  have B1 := hide b1
  clear b1 KN
  go_wp2_with fail
  refine (unhide W0 _).mono ?_
  rintro e w2 ⟨rfl, rfl⟩
  go_wp2_with fail
  refine (unhide W1 _).mono ?_
  rintro e w3 ⟨rfl, rfl⟩
  have NW := hide (new_at 0 1 w3)
  clear W0 W1
  go_wp2_with fail
  refine (unhide NW).mono ?_
  rintro e w4 ⟨⟨p, s, q, rfl, l4, hp, hs, hq⟩, b4⟩
  have s1 := (unhide B1).size
  have hT := unhide HT5
  have B4 := hide ((unhide B1).trans (b4.mono s1))
  have s4 := (unhide B4).size
  have PB : Hid (w.heap.size ≤ p ∧ w.heap.size ≤ s ∧ w.heap.size ≤ q) := ⟨Nat.le_trans s1 hp, Nat.le_trans s1 hs, Nat.le_trans s1 hq⟩
  have TK := hide (take_yes 5 3 (T : Int) w4 (wf_lit 5 (by omega)) (wf_lit 3 (by omega)) (wf_nat (by omega)) (by decide) (unhide PB) s4 l4 (takeE_newer Hd.none (by omega) (by decide)))
  obtain ⟨g, hg⟩ : ∃ g, Hd.none.taking 3 T = g := ⟨_, rfl⟩
  have gs : Sees g fun m => decide (m = T) := by rw [← hg]; exact sees_newer (by decide) T
  have gt : g.top = T := by rw [← hg, taking_top, if_pos (by decide)]
  have gl : g.life = 3 := by rw [← hg, taking_life, if_pos (by decide)]
  have GS := hide (And.intro gs (And.intro gt gl))
  have HG := hide hg
  clear l4 b4 hp hs hq s1 s4 hT hg gs gt gl NW B1 HT5
  go_wp2_with fail
  refine (unhide TK).mono ?_
  rintro e w5 ⟨rfl, l5, k5⟩
  rw [Int.toNat_natCast, show (3 : Int).toNat = 3 from rfl, unhide HG] at l5
  have B5 := hide ((unhide B4).trans k5.1)
  have s5 := (unhide B5).size
  obtain ⟨gs, gt, gl⟩ := unhide GS
  have h5 : (upH (fun _ => Hd.none) 5 g) 5 = g := upH_same _ _ _
  by_cases hlow : (T : Int) - (B : Int) < 1
  · obtain ⟨n, hn⟩ : ∃ n, (T : Int) - (B : Int) = n := ⟨_, rfl⟩
    have hn1 : n < 1 := by omega
    have TN := hide (take_no 5 3 n 1 w5 (wf_lit 5 (by omega)) (wf_lit 3 (by omega)) (wf_lit n (by omega)) (by decide) (unhide PB) s5 l5 (takeE_arg _ (Or.inr hn1)) (by decide))
    have h1 : n ≤ 9223372036854775807 := by omega
    have h2 : -9223372036854775808 ≤ n := by omega
    clear l5 k5 TK s5 gs gt gl h5 hlow
    go_wp2_with fail
    refine (unhide TN).mono ?_
    rintro e w6 ⟨rfl, l6, k6⟩
    have B6 := hide ((unhide B5).trans k6.1)
    clear l6 k6 TN
    go_wp2
    go_ret
    exact ⟨rfl, unhide B6⟩
  · obtain ⟨n, hn⟩ : ∃ n : Nat, (T : Int) - (B : Int) = (n : Int) := ⟨((T : Int) - (B : Int)).toNat, by omega⟩
    have hn1 : ¬ (n : Int) < 1 := by omega
    have hn5 : n ≤ 1000000 := by omega
    have wrn : IntKind.i64.wrap (n : Int) = (n : Int) := by
      simp only [IntKind.wrap, IntKind.bits, IntKind.signed]
      simp
      omega
    by_cases hfar : B = 0 ∨ 256 ≤ B
    · have TN := hide (take_no 5 3 (n : Int) 7 w5 (wf_lit 5 (by omega)) (wf_lit 3 (by omega)) (wf_nat (by omega)) (by decide) (unhide PB) s5 l5 (by rw [h5]; exact takeE_known gs (by decide) (by omega) (by rw [gl]; rfl) (by
        rcases hfar with h | h
        · right; exact decide_eq_true (by omega)
        · left; omega)) (by decide))
      clear l5 k5 TK s5 gs gt gl h5 hlow
      have hB0 : ¬ (B : Int) = 0 → (256 : Int) ≤ (B : Int) := by omega
      by_cases hz : (B : Int) = 0
      · have HZ := hide hz
        clear hB0 hfar hz
        go_wp2_with fail
        refine (unhide TN).mono ?_
        rintro e w6 ⟨rfl, l6, k6⟩
        have B6 := hide ((unhide B5).trans k6.1)
        have hz := unhide HZ
        clear l6 k6 TN hn
        go_wp2
        go_ret
        exact ⟨rfl, unhide B6⟩
      · have hB2 := hB0 hz
        clear hB0 hfar
        go_wp2_with fail
        refine (unhide TN).mono ?_
        rintro e w6 ⟨rfl, l6, k6⟩
        have B6 := hide ((unhide B5).trans k6.1)
        clear l6 k6 TN
        go_wp2
        go_ret
        exact ⟨rfl, unhide B6⟩
    · have hB0 : ((B : Int) == 0) = false := by simp; omega
      have hB2 : ¬ (256 : Int) ≤ (B : Int) := by omega
      have hnT : n ≠ T := by omega
      have TN := hide (take_yes 5 3 (n : Int) w5 (wf_lit 5 (by omega)) (wf_lit 3 (by omega)) (wf_nat (by omega)) (by decide) (unhide PB) s5 l5 (by rw [h5]; exact takeE_free gs (by decide) (by omega) (by rw [gl]; rfl) (by omega) (decide_eq_false hnT)))
      have hlt : g.top < n + 256 := by omega
      have GN := hide (And.intro (sees_same (l := 3) gs (by omega) n hlt) (show (g.taking 3 n).life = 3 by rw [taking_life, if_neg (by omega), gl]))
      have NB : Hid (1 ≤ n) := by show 1 ≤ n; omega
      clear l5 k5 TK s5 gs gt gl h5 hlow hfar hlt hnT
      go_wp2_with fail
      refine (unhide TN).mono ?_
      rintro e w6 ⟨rfl, l6, k6⟩
      rw [Int.toNat_natCast, show (3 : Int).toNat = 3 from rfl, upH_same] at l6
      have B6 := hide ((unhide B5).trans k6.1)
      have T2 := hide (take_no 5 3 (n : Int) 7 w6 (wf_lit 5 (by omega)) (wf_lit 3 (by omega)) (wf_nat (by omega)) (by decide) (unhide PB) (unhide B6).size l6 (by rw [upH_same]; exact takeE_known (unhide GN).1 (by decide) (unhide NB) (by rw [(unhide GN).2]; rfl) (by right; simp)) (by decide))
      clear l6 k6 TN
      go_wp2_with fail
      refine (unhide T2).mono ?_
      rintro e w7 ⟨rfl, l7, k7⟩
      have B7 := hide ((unhide B6).trans k7.1)
      have T3 := hide (take_yes 6 1 (n : Int) w7 (wf_lit 6 (by omega)) (wf_lit 1 (by omega)) (wf_nat (by omega)) (by decide) (unhide PB) (unhide B7).size l7 (by rw [upH_other _ _ (by decide), upH_other _ _ (by decide)]; exact takeE_newer Hd.none (by have := unhide NB; omega) (by decide)))
      clear l7 k7 T2
      go_wp2_with fail
      refine (unhide T3).mono ?_
      rintro e w8 ⟨rfl, l8, k8⟩
      have B8 := hide ((unhide B7).trans k8.1)
      clear l8 k8 T3
      go_wp2
      go_ret
      exact ⟨rfl, unhide B8⟩
end Go.Proofs.Ytkanolmcaoecgaa
