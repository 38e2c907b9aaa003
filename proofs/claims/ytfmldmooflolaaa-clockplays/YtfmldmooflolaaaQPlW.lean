/- ClockPlays: the document's own clock by contract, and the walk. -/
import Derived.Test.YtfmldmooflolaaaQClock
import Derived.Deep.DrawnRows
import Derived.Deep.RegionHeld3
namespace Go.Proofs.Ytfmldmooflolaaa
open Go.RowKit
attribute [local go_sem ↓] Go.wp_at_zero Go.wp_at_succ

theorem xnew_any (d : Int) (w : World) :
    Calls Try.prog 8 #[.int .i64 d] w fun e w' => e = .returned (.pointer (some ⟨w.heap.size, 0, none⟩)) ∧ Ck 33 w' w.heap.size (10 + d % 10) ∧ Below w.heap.size w w' := by
  have WA := hide (wait_any d w)
  obtain ⟨m, hm⟩ : ∃ m, 10 + d % 10 = m := ⟨_, rfl⟩
  rw [hm] at WA
  rw [hm]
  clear hm
  go_enter Try.func8, Try.ntmps8
  go_wp2_with fail
  refine (unhide WA).mono ?_
  rintro e w1 ⟨rfl, rfl⟩
  go_wp2
  go_ret
  exact ⟨rfl, box_at _ _, (Below.refl _ _).alloc (Nat.le_refl _) _⟩
theorem xreset_any {p : Nat} {n : Int} (d : Int) (w : World) (h : Ck 33 w p n) :
    Calls Try.prog 10 #[.pointer (some ⟨p, 0, none⟩), .int .i64 d] w fun e w' => e = .returned (.tuple #[]) ∧ Ck 33 w' p (10 + d % 10) ∧ Kp (fun k => k = p) w w' := by
  have WA := hide (fun Y => wait_any d Y)
  obtain ⟨m, hm⟩ : ∃ m, 10 + d % 10 = m := ⟨_, rfl⟩
  rw [hm] at WA
  rw [hm]
  have c0 := h.cell
  have f0 := h.free
  have c1 : w.drew.cell? ⟨p, 0, none⟩ = some (.int .i64 n) := h.cell
  have f1 : w.drew.frozen? ⟨p, 0, none⟩ = false := h.free
  have R := hide (And.intro (h.set m) (kp_set w p (.int .i64 m)))
  have R2 := hide (And.intro (Ck.set (w := w.drew) h m) (kp_far ((Kp.refl _ w).drew) (kp_set w.drew p (.int .i64 m))))
  clear hm h
  go_enter Try.func10, Try.ntmps10
  first
    | (go_wp2_with fail
       refine (unhide WA _).mono ?_
       rintro e w1 ⟨rfl, hw⟩
       replace hw := hw.symm
       subst hw)
    | go_region_with (go_at_call 14; refine (unhide WA _).mono ?_; rintro e w1 ⟨rfl, rfl⟩)
  all_goals go_wp2
  all_goals go_end0
  all_goals first | exact ⟨rfl, unhide R⟩ | exact ⟨rfl, unhide R2⟩
theorem xtick_any {p : Nat} {n : Int} (d : Int) (w : World) (h : Ck 33 w p n) (h1 : 1 ≤ n) (h2 : n ≤ 19) :
    Calls Try.prog 12 #[.pointer (some ⟨p, 0, none⟩), .int .i64 d] w fun e w' => e = .returned (.bool (decide (n ≤ 1))) ∧ Ck 33 w' p (tickN n d) ∧ Kp (fun k => k = p) w w' := by
  unfold tickN
  obtain ⟨m, hm⟩ : ∃ m, n - 1 = m := ⟨_, rfl⟩
  have WA := hide (fun Y => wait_any d Y)
  obtain ⟨y, hy⟩ : ∃ y, 10 + d % 10 = y := ⟨_, rfl⟩
  rw [hy] at WA
  rw [hy]
  have c0 := h.cell
  have f0 := h.free
  have h' := h.set m
  have k' := kp_set w p (.int .i64 m)
  obtain ⟨V, hV⟩ : ∃ V, w.setCell ⟨p, 0, none⟩ (.int .i64 m) = V := ⟨_, rfl⟩
  rw [hV] at h' k'
  have c1 := h'.cell
  have f1 := h'.free
  have HV := hide hV
  by_cases hn : n ≤ 1
  · obtain rfl : n = 1 := by omega
    obtain rfl : m = 0 := by omega
    have c2 : V.drew.cell? ⟨p, 0, none⟩ = some (.int .i64 0) := h'.cell
    have f2 : V.drew.frozen? ⟨p, 0, none⟩ = false := h'.free
    have R := hide (And.intro (h'.set y) (kp_far k' (kp_set V p (.int .i64 y))))
    have R2 := hide (And.intro (Ck.set (w := V.drew) h' y) (kp_far (k'.drew) (kp_set V.drew p (.int .i64 y))))
    rw [if_pos hn, show decide ((1 : Int) ≤ 1) = true from rfl]
    clear h h1 h2 hn hm hy h' k' hV
    go_enter Try.func12, Try.ntmps12
    go_upto_region 2 with fail
    rw [unhide HV]
    clear HV
    first
      | (go_wp2_with fail
         refine (unhide WA _).mono ?_
         rintro e w1 ⟨rfl, hw⟩
         replace hw := hw.symm
         subst hw)
      | go_region_with (go_at_call 14; refine (unhide WA _).mono ?_; rintro e w1 ⟨rfl, rfl⟩)
    all_goals go_wp2
    all_goals go_ret
    all_goals first | exact ⟨rfl, unhide R⟩ | exact ⟨rfl, unhide R2⟩
  · have R := hide (And.intro h' k')
    have e0 : (m == 0) = false := by rw [beq_eq_false_iff_ne]; omega
    rw [if_neg hn, show decide (n ≤ 1) = false by rw [decide_eq_false_iff_not]; exact hn, hm]
    have g0 : 0 < m := by omega
    have g1 : m ≤ 18 := by omega
    clear h h1 h2 hn hy h' k' hV
    go_enter Try.func12, Try.ntmps12
    go_upto_region 2 with fail
    rw [unhide HV]
    clear HV
    go_wp2
    go_ret
    exact ⟨rfl, unhide R⟩

/-- a slice of bools. -/
def BoolsR (w : World) (ao : Option Addr) (bs : List Bool) : Prop := ∀ i, i < bs.length → ∃ a, ao = some a ∧ w.cell? (a.add i) = some (.bool (bs.getD i false))
theorem BoolsR.below {w w' : World} {ao : Option Addr} {bs : List Bool} (h : BoolsR w ao bs) (hb : Below w.heap.size w w') : BoolsR w' ao bs := fun i hi => by
  obtain ⟨a, e, hc⟩ := h i hi
  exact ⟨a, e, by rw [hb.cell (blk_lt hc)]; exact hc⟩
/-- what a round leaves: both clocks have n left, and so many ticks have gone by. -/
def Rn (w : World) (p q : Nat) (w' : World) (s n : Int) : Prop := Ck 40 w' p n ∧ Ck 33 w' q n ∧ Below w.heap.size w w' ∧ 1 ≤ n ∧ 0 ≤ s ∧ 10 ≤ s + n ∧ s + n ≤ 19

set_option maxRecDepth 20000 in
set_option maxHeartbeats 4000000 in
theorem plays_walk (d : Int) (ao bo : Option Addr) (n m ca cb : Nat) (ys : List Int) (bs : List Bool) (hy : ys.length = n) (hs : bs.length = m) (hn : n ≤ maxLen) (hm : m ≤ maxLen) (w : World) (ha : IntsR w ao ys) (hb : BoolsR w bo bs) :
    Calls Try.prog 3 #[.int .i64 d, .slice ao n ca, .slice bo m cb] w fun e w' => e = .returned (.bool true) ∧ Below w.heap.size w w' := by
  have KN := hide (qknown_any w)
  have hn' : n ≤ 9223372036854775807 := hn
  have hm' : m ≤ 9223372036854775807 := hm
  have HY := hide hy
  have HS := hide hs
  have HA := hide ha
  have HBS := hide hb
  clear hy hs ha hb hn hm
  go_enter Try.func3, Try.ntmps3
  go_wp2_with fail
  refine (unhide KN).mono ?_
  rintro e w1 ⟨rfl, b1⟩
  have B1 := hide b1
  have N1 := hide (qnew_any d w1)
  clear b1 KN
  go_wp2_with fail
  refine (unhide N1).mono ?_
  rintro e w2 ⟨rfl, h2, b2⟩
  obtain ⟨p, hp⟩ : ∃ p, w1.heap.size = p := ⟨_, rfl⟩
  have LP : Hid (w.heap.size ≤ p) := hp ▸ (unhide B1).size
  rw [hp] at h2
  have B2 := hide (below_far (unhide B1) b2)
  have H2 := hide h2
  have N2 := hide (xnew_any d w2)
  rw [hp]
  clear b2 h2 N1 hp
  go_wp2_with fail
  refine (unhide N2).mono ?_
  rintro e w3 ⟨rfl, h3, b3⟩
  have hpq : p ≠ w2.heap.size := by have := (unhide H2).lt; omega
  have LQ : Hid (w.heap.size ≤ w2.heap.size) := (unhide B2).size
  have x3 := (unhide H2).below b3
  have b3' := below_far (unhide B2) b3
  obtain ⟨q, hq⟩ : ∃ q, w2.heap.size = q := ⟨_, rfl⟩
  rw [hq] at h3 hpq LQ
  rw [hq]
  have hd := mod_ten d
  have R3 : Hid (Rn w p q w3 0 (10 + d % 10)) := ⟨x3, h3, b3', by omega, by omega, by omega, by omega⟩
  have PQ := hide hpq
  clear h3 b3 x3 b3' hpq N2 hq hd H2 B2 B1
  go_wp2_with fail
  go_loopw [10, 9, 11, 12] (fun i s _ _ wr => ∃ (k : Nat) (t z : Int), k ≤ n ∧ i = .int .i64 k ∧ s = .int .i64 t ∧ Rn w p q wr t z) (fun i _ _ _ _ => n - (intOf i).toNat)
  case atStart => exact ⟨0, 0, _, Nat.zero_le _, rfl, rfl, unhide R3⟩
  case round =>
    obtain ⟨k, t, z, hk, rfl, rfl, hx, hy, hb, g1, g2, g3, g4⟩ := hrel
    have HX := hide hx
    have HYY := hide hy
    have HB := hide hb
    clear hx hy hb
    by_cases hlt : k < n
    · by_cases h200 : k < 200
      · have q1 : (k : Int) < n := by omega
        have q2 : (k : Int) < 200 := by omega
        have LY := hide (fun Y (hY : Below w.heap.size w Y) => ((unhide HA).below hY) k (by rw [unhide HY]; exact hlt))
        obtain ⟨ad, rfl, ck⟩ := unhide LY wr (unhide HB)
        have CK := hide (fun Y (hY : Below w.heap.size w Y) => show Y.cell? (ad.add k) = some (.int .i64 (ys.getD k 0)) by obtain ⟨a', e', c'⟩ := unhide LY Y hY; cases e'; exact c')
        obtain ⟨y, hyy⟩ : ∃ y, ys.getD k 0 = y := ⟨_, rfl⟩
        rw [hyy] at ck CK
        have cd : wr.drew.cell? (ad.add k) = some (.int .i64 y) := ck
        clear LY hyy
        have RS : (∃ ab, bo = some ab ∧ k < m ∧ wr.cell? (ab.add k) = some (.bool true)) ∨ (∃ ab, bo = some ab ∧ k < m ∧ wr.cell? (ab.add k) = some (.bool false)) ∨ m ≤ k := by
          by_cases hkm : k < m
          · obtain ⟨ab, e, c⟩ := ((unhide HBS).below (unhide HB)) k (by rw [unhide HS]; exact hkm)
            cases hv : bs.getD k false
            · rw [hv] at c; exact Or.inr (Or.inl ⟨ab, e, hkm, c⟩)
            · rw [hv] at c; exact Or.inl ⟨ab, e, hkm, c⟩
          · exact Or.inr (Or.inr (by omega))
        have STEP : Hid (∀ Y Z, Below w.heap.size w Y → (∀ j, j = p → w.heap.size ≤ j) → Kp (fun k => k = p) Y Z → Below w.heap.size w Z) := fun Y Z h1 _ h2 => h1.trans (h2.below (fun j hj => by rw [hj]; exact unhide LP) h1.size)
        have STEQ : Hid (∀ Y Z, Below w.heap.size w Y → Kp (fun k => k = q) Y Z → Below w.heap.size w Z) := fun Y Z h1 h2 => h1.trans (h2.below (fun j hj => by rw [hj]; exact unhide LQ) h1.size)
        have STEP : Hid (∀ Y Z, Below w.heap.size w Y → Kp (fun k => k = p) Y Z → Below w.heap.size w Z) := fun Y Z h1 h2 => h1.trans (h2.below (fun j hj => by rw [hj]; exact unhide LP) h1.size)
        rcases RS with ⟨ab, rfl, hkm, cb⟩ | RS
        · have q3 : (k : Int) < m := by omega
          have RC := hide (reset_any y wr (unhide HX))
          go_wp2_with fail
          refine (unhide RC).mono ?_
          rintro e w4 ⟨rfl, c4, k4⟩
          have b4 := unhide STEP _ _ (unhide HB) k4
          have ck4 := unhide CK _ b4
          have RX := hide (xreset_any y w4 ((unhide HYY).other k4 (Ne.symm (unhide PQ))))
          have C4 := hide c4
          have B4 := hide b4
          clear c4 k4 RC b4 ck cd cb
          go_wp2_with fail
          refine (unhide RX).mono ?_
          rintro e w5 ⟨rfl, c5, k5⟩
          have hdy := mod_ten y
          have R5 : Hid (Rn w p q w5 0 (10 + y % 10)) := ⟨(unhide C4).other k5 (unhide PQ), c5, unhide STEQ _ _ (unhide B4) k5, by omega, by omega, by omega, by omega⟩
          obtain ⟨z', hz'⟩ : ∃ z', 10 + y % 10 = z' := ⟨_, rfl⟩
          rw [hz'] at R5
          have g5 := (unhide R5).2.2.2
          have L5 := hide (left_any w5.drew (show Ck 40 w5.drew p z' from (unhide R5).1))
          have x5 : w5.drew.cell? ⟨q, 0, none⟩ = some (.int .i64 z') := (unhide R5).2.1.cell
          have n1 : decide (z' < 1) = false := by rw [decide_eq_false_iff_not]; omega
          have n2 : decide (19 < z') = false := by rw [decide_eq_false_iff_not]; omega
          have RD : Hid (Rn w p q w5.drew 0 z') := ⟨(unhide R5).1, (unhide R5).2.1, (unhide R5).2.2.1.drew, (unhide R5).2.2.2⟩
          clear c5 k5 RX C4 B4 ck4 hdy hz' HX HYY HB STEP STEQ CK
          go_upto_region 18 with fail
          go_region_held3 (fun Y => Y.cell? ⟨q, 0, none⟩ = some (.int .i64 z')) (exact x5) ((go_at_call 13; refine (unhide L5).mono ?_; rintro e wz ⟨rfl, hw⟩; replace hw := hw.symm; subst hw))
          all_goals go_wp2
          all_goals go_roundw
          all_goals first | exact ⟨k + 1, 0, z', by omega, by go_num, rfl, unhide RD⟩ | (simp [intOf]; omega)
        · have tick : ∀ (P : Prop), True → True := fun _ h => h
          clear tick
          have Q3 : (∃ ab, bo = some ab ∧ k < m ∧ wr.cell? (ab.add k) = some (.bool false)) ∨ m ≤ k := RS
          have TC := hide (tick_any y wr.drew (show Ck 40 wr.drew p z from unhide HX) g1 (by omega))
          have wrs : IntKind.i64.wrap (t + 1) = t + 1 := IntWalk.i64_in _ (by omega)
          have TX := hide (fun Y (hY : Ck 33 Y q z) => xtick_any y Y hY g1 (by omega))
          have BD := hide (unhide HB).drew
          by_cases hz : z ≤ 1
          · obtain rfl : z = 1 := by omega
            rw [show decide ((1 : Int) ≤ 1) = true from rfl, show tickN 1 y = 10 + y % 10 from rfl] at TC TX
            have hdy := mod_ten y
            obtain ⟨z', hz'⟩ : ∃ z', 10 + y % 10 = z' := ⟨_, rfl⟩
            rw [hz'] at TC TX
            have t1 : ¬ t + 1 < 10 := by omega
            have t2 : ¬ 19 < t + 1 := by omega
            have z1 : 10 ≤ z' ∧ z' ≤ 19 := by omega
            clear RS hz' hdy
            rcases Q3 with ⟨ab, rfl, hkm, cb⟩ | hkm
            all_goals
              go_upto_region 13 with fail
              go_region_held3 (fun Y => Y.cell? (ad.add k) = some (.int .i64 y)) (first | exact cd | exact ck5 | exact ck4) (first
                | (go_at_call 11; refine (unhide TC).mono ?_; rintro e w4 ⟨rfl, c4, k4⟩
                   have b4 := unhide STEP _ _ (unhide BD) k4
                   have ck4 := unhide CK _ b4
                   have C4 := hide c4
                   have B4 := hide b4
                   have X4 : Hid (Ck 33 w4 q 1) := Ck.other (w := wr.drew) (unhide HYY) k4 (Ne.symm (unhide PQ))
                   clear c4 k4 b4)
                | (go_at_call 12; refine (unhide TX _ (unhide X4)).mono ?_; rintro e w5 ⟨rfl, c5, k5⟩
                   have R5 : Hid (Rn w p q w5 0 z') := ⟨(unhide C4).other k5 (unhide PQ), c5, unhide STEQ _ _ (unhide B4) k5, by omega, by omega, by omega, by omega⟩
                   have ck5 := unhide CK _ (unhide STEQ _ _ (unhide B4) k5)
                   clear c5 k5))
              all_goals
                have L5 := hide (left_any w5.drew (show Ck 40 w5.drew p z' from (unhide R5).1))
                have x5 : w5.drew.cell? ⟨q, 0, none⟩ = some (.int .i64 z') := (unhide R5).2.1.cell
                have n1 : decide (z' < 1) = false := by rw [decide_eq_false_iff_not]; omega
                have n2 : decide (19 < z') = false := by rw [decide_eq_false_iff_not]; omega
                have RD : Hid (Rn w p q w5.drew 0 z') := ⟨(unhide R5).1, (unhide R5).2.1, (unhide R5).2.2.1.drew, (unhide R5).2.2.2⟩
                clear TC TX STEP STEQ CK BD HX HYY HB ck4 ck5 C4 B4 X4
                go_upto_region 18 with fail
                go_region_held3 (fun Y => Y.cell? ⟨q, 0, none⟩ = some (.int .i64 z')) (exact x5) ((go_at_call 13; refine (unhide L5).mono ?_; rintro e wz ⟨rfl, hw⟩; replace hw := hw.symm; subst hw))
                all_goals go_wp2
                all_goals go_roundw
                all_goals first | exact ⟨k + 1, 0, z', by omega, by go_num, rfl, unhide RD⟩ | (simp [intOf]; omega)
          · rw [show decide (z ≤ 1) = false by rw [decide_eq_false_iff_not]; exact hz, show tickN z y = z - 1 by unfold tickN; rw [if_neg hz]] at TC TX
            obtain ⟨z', hz'⟩ : ∃ z', z - 1 = z' := ⟨_, rfl⟩
            rw [hz'] at TC TX
            have z1 : 1 ≤ z' ∧ z' ≤ 19 ∧ 10 ≤ t + 1 + z' ∧ t + 1 + z' ≤ 19 := by omega
            clear RS hz'
            rcases Q3 with ⟨ab, rfl, hkm, cb⟩ | hkm
            all_goals
              go_upto_region 13 with fail
              go_region_held3 (fun Y => Y.cell? (ad.add k) = some (.int .i64 y)) (first | exact cd | exact ck5 | exact ck4) (first
                | (go_at_call 11; refine (unhide TC).mono ?_; rintro e w4 ⟨rfl, c4, k4⟩
                   have b4 := unhide STEP _ _ (unhide BD) k4
                   have ck4 := unhide CK _ b4
                   have C4 := hide c4
                   have B4 := hide b4
                   have X4 : Hid (Ck 33 w4 q z) := Ck.other (w := wr.drew) (unhide HYY) k4 (Ne.symm (unhide PQ))
                   clear c4 k4 b4)
                | (go_at_call 12; refine (unhide TX _ (unhide X4)).mono ?_; rintro e w5 ⟨rfl, c5, k5⟩
                   have R5 : Hid (Rn w p q w5 (t + 1) z') := ⟨(unhide C4).other k5 (unhide PQ), c5, unhide STEQ _ _ (unhide B4) k5, by omega, by omega, by omega, by omega⟩
                   have ck5 := unhide CK _ (unhide STEQ _ _ (unhide B4) k5)
                   clear c5 k5))
              all_goals
                have L5 := hide (left_any w5.drew (show Ck 40 w5.drew p z' from (unhide R5).1))
                have x5 : w5.drew.cell? ⟨q, 0, none⟩ = some (.int .i64 z') := (unhide R5).2.1.cell
                have n1 : decide (z' < 1) = false := by rw [decide_eq_false_iff_not]; omega
                have n2 : decide (19 < z') = false := by rw [decide_eq_false_iff_not]; omega
                have RD : Hid (Rn w p q w5.drew (t + 1) z') := ⟨(unhide R5).1, (unhide R5).2.1, (unhide R5).2.2.1.drew, (unhide R5).2.2.2⟩
                clear TC TX STEP STEQ CK BD HX HYY HB ck4 ck5 C4 B4 X4
                go_upto_region 18 with fail
                go_region_held3 (fun Y => Y.cell? ⟨q, 0, none⟩ = some (.int .i64 z')) (exact x5) ((go_at_call 13; refine (unhide L5).mono ?_; rintro e wz ⟨rfl, hw⟩; replace hw := hw.symm; subst hw))
                all_goals go_wp2
                all_goals go_roundw
                all_goals first | exact ⟨k + 1, (t + 1), z', by omega, by go_num, rfl, unhide RD⟩ | (simp [intOf]; omega)
      · have q1 : (k : Int) < n := by omega
        have q2 : ¬ (k : Int) < 200 := by omega
        go_wp2
        go_ret
        exact ⟨rfl, unhide HB⟩
    · have q1 : ¬ (k : Int) < n := by omega
      go_wp2
      go_ret
      exact ⟨rfl, unhide HB⟩
end Go.Proofs.Ytfmldmooflolaaa
