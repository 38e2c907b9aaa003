/- ClientAsks: the walk. -/
import Derived.Test.YtkalpdfigdaalaaUAskA
namespace Go.Proofs.Ytkalpdfigdaalaa
open Go.RowKit Go.Maps
attribute [local go_sem ↓] Go.wp_at_zero Go.wp_at_succ

theorem wf_four : wf64 4 := wf_range (by decide)
/-- what the loop keeps. -/
structure AsI (w0 wr : World) (p q B : Nat) (es : List En) (top : Int) (H : Nat → Int) (i : Nat) : Prop where
  own : Own w0 (fun k => k = B) wr p q es
  nums : Nums wr B 60 50 H
  tops : Top 4 es top
  has : ∀ s : Nat, s < 60 → H s = (findOf es 4 (s : Int)).1
  len : es.length ≤ i
  lo : 0 ≤ top ∧ top < 60
  four : ∀ x ∈ es, x.client = 4
theorem sq_none {es : List En} (h : ∀ x ∈ es, x.client = 4) {c : Int} (hc : c ≠ 4) : sq c es = [] := by
  unfold sq
  rw [List.filter_eq_nil_iff.2]
  · rfl
  · intro x hx
    rw [h x hx]
    simpa using fun e => hc e.symm
set_option maxRecDepth 20000 in
set_option maxHeartbeats 8000000 in
theorem asks_walk (ao : Option Addr) (n cap : Nat) (ys : List Int) (hn : ys.length = n) (ask : Int) (w : World) (h : IntsR w ao ys) : Calls Try.prog 7 #[.slice ao n cap, .int .i64 ask] w fun e w' => e = .returned (.bool true) ∧ Below w.heap.size w w' := by
  have C0 := hide (known_any w)
  obtain ⟨ka, hka, -, CWA⟩ := within_nat ask 59 (by decide) (by decide)
  have CWA' := hide CWA
  have HI := hide h
  have HN := hide hn
  clear h hn CWA
  go_enter Try.func7, Try.ntmps7
  go_wp2_with fail
  refine (unhide C0).mono ?_
  rintro e w1 ⟨rfl, b1⟩
  have C1 := hide (new_any w1)
  have B1 := hide b1
  clear b1 C0
  go_wp2_with fail
  refine (unhide C1).mono ?_
  rintro x w2 ⟨p, q, rfl, h2, b2⟩
  have O2 := hide (Own.new h2 w2.heap.size (Nat.le_refl _))
  have B2 := hide (below_far (unhide B1) b2)
  have S2 := hide b2.size
  clear h2 b2 C1
  obtain ⟨W, hW⟩ : ∃ W, w2.alloc (.cells (Array.replicate 60 (.int .i64 0)) 50) = W := ⟨_, rfl⟩
  have sW : W.heap.size = w2.heap.size + 1 := by rw [← hW]; simp
  have bW : Below w2.heap.size w2 W := by rw [← hW]; exact (Below.refl _ w2).alloc (Nat.le_refl _) _
  have N0 : Nums W w2.heap.size 60 50 (fun _ => 0) := ⟨_, by rw [← hW]; exact box_at _ _, by simp, fun i hi => by simp [hi]⟩
  have A0 : Hid (AsI w1 W p q w2.heap.size [] 0 (fun _ => 0) 0) := hide ⟨(unhide O2).below bW, N0, Top.nil 4, fun s hs => by
    by_cases h0 : s = 0
    · subst h0; rfl
    · rw [findOf_first 4 _ (by decide) (by omega)], Nat.zero_le _, by omega, by simp⟩
  have BW := hide (below_far (unhide B2) bW)
  have HB := S2
  have SB : Hid (w2.heap.size < W.heap.size) := hide (by rw [sW]; omega)
  clear bW N0 sW O2 S2
  have hW' := hW
  simp only [Array.replicate, List.replicate] at hW'
  go_upto_region 5 with fail
  clear hW hW'
  go_wp2
  go_loopw [8, 9, 10, 11, 7, 4] (fun i _ _ _ t _ wr => ∃ (j : Nat) (es : List En) (top : Int) (H : Nat → Int), i = .int .i64 j ∧ t = .int .i64 top ∧ j ≤ 30 ∧ AsI w1 wr p q w2.heap.size es top H j ∧ Below w.heap.size w wr ∧ W.heap.size ≤ wr.heap.size) (fun i _ _ _ _ _ _ => 30 - (intOf i).toNat)
  case atStart => exact ⟨0, _, _, _, rfl, rfl, by omega, unhide A0, unhide BW, Nat.le_refl _⟩
  case round =>
    obtain ⟨j, es, top, H, rfl, rfl, hj, ha, hb, hsz⟩ := hrel
    have AI := hide ha
    have HB2 := hide hb
    have HSZ := hide hsz
    clear ha hb hsz
    by_cases h1 : j < n
    · by_cases h2 : j < 30
      · have q1 : (j : Int) < (n : Int) := by omega
        have q2 : (j : Int) < 30 := by omega
        have q0 : (0 : Int) ≤ (j : Int) := by omega
        obtain ⟨ad, rfl, hyw⟩ := (unhide HI) j (by rw [unhide HN]; exact h1)
        have hy := ((unhide HB2).cell (blk_lt hyw)).trans hyw
        obtain ⟨s0, hs⟩ : ∃ s, ys.getD j 0 = s := ⟨_, rfl⟩
        rw [hs] at hy
        obtain ⟨k, hk, -, CW⟩ := within_nat s0 59 (by decide) (by decide)
        have CW' := hide CW
        have hw1 : IntKind.i64.wrap (1 + (k : Int)) = (k : Int) + 1 := by rw [IntWalk.i64_in _ (by omega)]; omega
        clear CW hyw hs
        go_wp2_with fail
        refine (unhide CW' _).mono ?_
        rintro e w3 ⟨rfl, rfl⟩
        clear hy
        have CP := hide (own_put (w := w3) (unhide AI).own (Nat.le_trans (unhide HB) (Nat.le_trans (Nat.le_of_lt (unhide SB)) (unhide HSZ))) (fun x hx => by rw [hx]; exact Nat.lt_of_lt_of_le (unhide SB) (unhide HSZ)) (by have := (unhide AI).len; omega) (unhide AI).tops.rise (bare 1 4 ((k : Int) + 1)) none 0 0 rfl (by decide) (IntsR.nil _ _) wf_four)
        have hmay : mayPut es (bare 1 4 ((k : Int) + 1)) ↔ top < (k : Int) + 1 := by
          unfold mayPut
          have ht := (unhide AI).tops.two (by decide) (s := (k : Int) + 1) (by omega)
          exact ⟨fun h => ht.1 h.2, fun h => ⟨Or.inl rfl, ht.2 h⟩⟩
        have HM := hide hmay
        by_cases hgt : top < (k : Int) + 1
        · have hm := hmay.2 hgt
          have CPX := unhide CP
          unfold placeOf putOf at CPX
          rw [if_pos hm, if_pos hm, decide_eq_true hm] at CPX
          have CPY := hide CPX
          have FIN : Hid (∀ w4 : World, Own w1 (fun k => k = w2.heap.size) w4 p q (es ++ [bare 1 4 ((k : Int) + 1)]) → Nums w4 w2.heap.size 60 50 H → AsI w1 (w4.setCell ⟨w2.heap.size, k + 1, none⟩ (.int .i64 ((es.length : Int) + 1))) p q w2.heap.size (es ++ [bare 1 4 ((k : Int) + 1)]) ((k : Int) + 1) (fun j => if j = k + 1 then (es.length : Int) + 1 else H j) (j + 1)) := hide (fun w4 ho hnu =>
            ⟨ho.store _ _, hnu.put (by omega) _, (unhide AI).tops.snoc hm rfl, fun s hs => by
              rw [findOf_snoc (unhide AI).tops.rise hm]
              have e1 : (4 = (bare 1 4 ((k : Int) + 1)).client ∧ (s : Int) = (bare 1 4 ((k : Int) + 1)).seq) ↔ s = k + 1 := by
                simp only [bare, true_and]; omega
              simp only [e1]
              split
              · rfl
              · exact (unhide AI).has s hs, by simp; exact (unhide AI).len, by omega, fun x hx => by
              rw [List.mem_append] at hx
              rcases hx with hx | hx
              · exact (unhide AI).four x hx
              · simp at hx; rw [hx]; rfl⟩)
          have q3 : (k : Int) + 1 > top := hgt
          have q4 : (0 : Int) ≤ (k : Int) + 1 := by omega
          have q5 : (k : Int) + 1 < 60 := by omega
          clear CP CPX hmay hm
          go_wp2_with fail
          refine (unhide CPY).mono ?_
          rintro e w4 ⟨rfl, o4, b4, x4⟩
          have n4 : Nums w4 w2.heap.size 60 50 H := (unhide AI).nums.same (x4 _ rfl)
          have FZ := hide (unhide FIN _ o4 n4)
          have cz := n4.at (i := k + 1) (by omega)
          have fz := n4.free (k + 1)
          have BZ := hide (((unhide HB2).trans (b4.mono (unhide B1).size)))
          have SZ : Hid (W.heap.size ≤ (w4.setCell ⟨w2.heap.size, k + 1, none⟩ (.int .i64 ((es.length : Int) + 1))).heap.size) := hide (by simp [World.setCell]; exact Nat.le_trans (unhide HSZ) b4.size)
          clear o4 b4 x4 n4
          go_wp2
          refine ⟨⟨j + 1, _, _, _, by go_num, rfl, by omega, unhide FZ, ?_, unhide SZ⟩, by simp [intOf]; omega⟩
          exact (unhide BZ).setCell (p := ⟨w2.heap.size, k + 1, none⟩) (Nat.le_trans (unhide B1).size (unhide HB)) _
        · have hm : ¬ mayPut es (bare 1 4 ((k : Int) + 1)) := fun h => hgt (hmay.1 h)
          have CPX := unhide CP
          unfold placeOf putOf at CPX
          rw [if_neg hm, if_neg hm, decide_eq_false hm] at CPX
          have CPY := hide CPX
          have q3 : ¬ (k : Int) + 1 > top := hgt
          clear CP CPX hmay hm
          go_wp2_with fail
          refine (unhide CPY).mono ?_
          rintro e w4 ⟨rfl, o4, b4, x4⟩
          have FZ : Hid (AsI w1 w4 p q w2.heap.size es top H (j + 1)) := hide ⟨o4, (unhide AI).nums.same (x4 _ rfl), (unhide AI).tops, (unhide AI).has, Nat.le_succ_of_le (unhide AI).len, (unhide AI).lo, (unhide AI).four⟩
          have BZ := hide (((unhide HB2).trans (b4.mono (unhide B1).size)))
          have SZ := hide (Nat.le_trans (unhide HSZ) b4.size)
          clear o4 b4 x4
          go_wp2
          exact ⟨⟨j + 1, _, _, _, by go_num, rfl, by omega, unhide FZ, unhide BZ, unhide SZ⟩, by simp [intOf]; omega⟩
      · have q1 : (j : Int) < (n : Int) := by omega
        have q2 : ¬ (j : Int) < 30 := by omega
        have hoi := (unhide AI).own
        have hri := (unhide AI).tops.rise
        have hli := (unhide AI).len
        have hw1 : IntKind.i64.wrap (1 + (ka : Int)) = (ka : Int) + 1 := by rw [IntWalk.i64_in _ (by omega)]; omega
        obtain ⟨⟨fa, fb⟩, hf⟩ : ∃ r, findOf es 4 ((ka : Int) + 1) = r := ⟨_, rfl⟩
        have C4 := own_ask hoi (by omega) hri 4 ((ka : Int) + 1) wf_four
        rw [hf] at C4
        have C4' := hide C4
        have f5 : findOf es 5 ((ka : Int) + 1) = (0, 2) := findOf_new_mk (by omega) (by rw [sq_none (unhide AI).four (by decide)]; simp)
        have C5 := hide (fun Y (hY : Below wr.heap.size wr Y) => own_ask (hoi.below hY) (by omega) hri 5 ((ka : Int) + 1) (wf_range (by decide)))
        have C6 := hide (fun Y (hY : Below wr.heap.size wr Y) => own_ask (hoi.below hY) (by omega) hri 0 ((ka : Int) + 1) (wf_range (by decide)))
        have C7 := hide (fun Y (hY : Below wr.heap.size wr Y) => own_ask (hoi.below hY) (by omega) hri 4 0 wf_four)
        rw [f5] at C5
        rw [findOf_bad (Or.inl (by decide))] at C6
        rw [findOf_bad (Or.inr (by decide))] at C7
        have NU := hide (fun Y (hY : Below wr.heap.size wr Y) => ((unhide AI).nums.keep hY (unhide AI).nums.lt).at (i := ka + 1) (by omega))
        have HH := (unhide AI).has (ka + 1) (by omega)
        rw [show ((ka + 1 : Nat) : Int) = (ka : Int) + 1 by omega, hf] at HH
        simp only at HH
        have FST : Hid (¬ 0 < fa → (fa, fb) = if (ka : Int) + 1 < top then (0, 19) else (0, 2)) := hide (fun h0 => by rw [← hf]; exact (unhide AI).tops.stale (by decide) (by omega) (by rw [hf]; exact h0))
        have FPO : Hid (0 < fa → fb = 0) := hide (fun h0 => by have := findOf_pos (es := es) (c := 4) (s := (ka : Int) + 1) (by rw [hf]; exact h0); rw [hf] at this; exact this)
        clear hoi hri hli hf C4 f5
        have r0 : (0 : Int) ≤ (ka : Int) + 1 := by omega
        have r1 : (ka : Int) + 1 < 60 := by omega
        go_wp2_with fail
        refine (unhide CWA' _).mono ?_
        rintro e v0 ⟨rfl, rfl⟩
        go_wp2_with fail
        refine (unhide C4').mono ?_
        rintro e v1 ⟨rfl, z1⟩
        have Z1 := hide z1
        clear z1 C4'
        go_wp2_with fail
        refine (unhide C5 _ (unhide Z1)).mono ?_
        rintro e v2 ⟨rfl, z2⟩
        have Z2 := hide (below_far (unhide Z1) z2)
        clear z2
        go_wp2_with fail
        refine (unhide C6 _ (unhide Z2)).mono ?_
        rintro e v3 ⟨rfl, z3⟩
        have Z3 := hide (below_far (unhide Z2) z3)
        clear z3
        go_wp2_with fail
        refine (unhide C7 _ (unhide Z3)).mono ?_
        rintro e v4 ⟨rfl, z4⟩
        have cv := unhide NU _ (below_far (unhide Z3) z4)
        rw [HH] at cv
        have BE := hide (((unhide HB2).trans ((below_far (unhide Z3) z4).mono (unhide HB2).size)))
        clear z4
        by_cases hfa : 0 < fa
        · have hfb := unhide FPO (by omega)
          subst hfb
          have g1 : fa > 0 := hfa
          go_wp2
          go_ret
          exact ⟨by simp, unhide BE⟩
        · have hst := unhide FST (by omega)
          have g1 : ¬ fa > 0 := hfa
          by_cases htop : (ka : Int) + 1 < top
          · rw [if_pos htop] at hst
            cases hst
            go_wp2
            go_ret
            exact ⟨by simp, unhide BE⟩
          · rw [if_neg htop] at hst
            cases hst
            go_wp2
            go_ret
            exact ⟨by simp, unhide BE⟩
    · have q1 : ¬ (j : Int) < (n : Int) := by omega
      have hoi := (unhide AI).own
      have hri := (unhide AI).tops.rise
      have hli := (unhide AI).len
      have hw1 : IntKind.i64.wrap (1 + (ka : Int)) = (ka : Int) + 1 := by rw [IntWalk.i64_in _ (by omega)]; omega
      obtain ⟨⟨fa, fb⟩, hf⟩ : ∃ r, findOf es 4 ((ka : Int) + 1) = r := ⟨_, rfl⟩
      have C4 := own_ask hoi (by omega) hri 4 ((ka : Int) + 1) wf_four
      rw [hf] at C4
      have C4' := hide C4
      have f5 : findOf es 5 ((ka : Int) + 1) = (0, 2) := findOf_new_mk (by omega) (by rw [sq_none (unhide AI).four (by decide)]; simp)
      have C5 := hide (fun Y (hY : Below wr.heap.size wr Y) => own_ask (hoi.below hY) (by omega) hri 5 ((ka : Int) + 1) (wf_range (by decide)))
      have C6 := hide (fun Y (hY : Below wr.heap.size wr Y) => own_ask (hoi.below hY) (by omega) hri 0 ((ka : Int) + 1) (wf_range (by decide)))
      have C7 := hide (fun Y (hY : Below wr.heap.size wr Y) => own_ask (hoi.below hY) (by omega) hri 4 0 wf_four)
      rw [f5] at C5
      rw [findOf_bad (Or.inl (by decide))] at C6
      rw [findOf_bad (Or.inr (by decide))] at C7
      have NU := hide (fun Y (hY : Below wr.heap.size wr Y) => ((unhide AI).nums.keep hY (unhide AI).nums.lt).at (i := ka + 1) (by omega))
      have HH := (unhide AI).has (ka + 1) (by omega)
      rw [show ((ka + 1 : Nat) : Int) = (ka : Int) + 1 by omega, hf] at HH
      simp only at HH
      have FST : Hid (¬ 0 < fa → (fa, fb) = if (ka : Int) + 1 < top then (0, 19) else (0, 2)) := hide (fun h0 => by rw [← hf]; exact (unhide AI).tops.stale (by decide) (by omega) (by rw [hf]; exact h0))
      have FPO : Hid (0 < fa → fb = 0) := hide (fun h0 => by have := findOf_pos (es := es) (c := 4) (s := (ka : Int) + 1) (by rw [hf]; exact h0); rw [hf] at this; exact this)
      clear hoi hri hli hf C4 f5
      have r0 : (0 : Int) ≤ (ka : Int) + 1 := by omega
      have r1 : (ka : Int) + 1 < 60 := by omega
      go_wp2_with fail
      refine (unhide CWA' _).mono ?_
      rintro e v0 ⟨rfl, rfl⟩
      go_wp2_with fail
      refine (unhide C4').mono ?_
      rintro e v1 ⟨rfl, z1⟩
      have Z1 := hide z1
      clear z1 C4'
      go_wp2_with fail
      refine (unhide C5 _ (unhide Z1)).mono ?_
      rintro e v2 ⟨rfl, z2⟩
      have Z2 := hide (below_far (unhide Z1) z2)
      clear z2
      go_wp2_with fail
      refine (unhide C6 _ (unhide Z2)).mono ?_
      rintro e v3 ⟨rfl, z3⟩
      have Z3 := hide (below_far (unhide Z2) z3)
      clear z3
      go_wp2_with fail
      refine (unhide C7 _ (unhide Z3)).mono ?_
      rintro e v4 ⟨rfl, z4⟩
      have cv := unhide NU _ (below_far (unhide Z3) z4)
      rw [HH] at cv
      have BE := hide (((unhide HB2).trans ((below_far (unhide Z3) z4).mono (unhide HB2).size)))
      clear z4
      by_cases hfa : 0 < fa
      · have hfb := unhide FPO (by omega)
        subst hfb
        have g1 : fa > 0 := hfa
        go_wp2
        go_ret
        exact ⟨by simp, unhide BE⟩
      · have hst := unhide FST (by omega)
        have g1 : ¬ fa > 0 := hfa
        by_cases htop : (ka : Int) + 1 < top
        · rw [if_pos htop] at hst
          cases hst
          go_wp2
          go_ret
          exact ⟨by simp, unhide BE⟩
        · rw [if_neg htop] at hst
          cases hst
          go_wp2
          go_ret
          exact ⟨by simp, unhide BE⟩
end Go.Proofs.Ytkalpdfigdaalaa
