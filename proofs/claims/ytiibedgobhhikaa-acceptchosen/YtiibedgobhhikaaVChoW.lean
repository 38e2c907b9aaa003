/- AcceptChosen: the walk. -/
import Derived.Test.YtiibedgobhhikaaVChoC
import Derived.Test.YtiibedgobhhikaaVWithin
import Derived.Deep.RegionHeld3
import Derived.Deep.DrawnRows
namespace Go.Proofs.Ytiibedgobhhikaa
open Go.RowKit Go.Maps
attribute [local go_sem ↓] Go.wp_at_zero Go.wp_at_succ

theorem up_all {α : Type} {f : Nat → α} {k : Nat} {x : α} (h : ∀ i, i < k → f i = x) : ∀ i, i < k + 1 → upN f k x i = x := fun i hi => by
  by_cases e : i = k
  · rw [e, upN_same]
  · rw [upN_other _ _ e]; exact h i (by omega)
theorem Cst.begin {N : Nat} {P : Nat → Int} {v : Nat → Option (Int × Int)} (hv : ∀ i, i < N → v i = none) : Cst N 0 P v 0 :=
  ⟨Int.le_refl _, fun i b s hi h => (by rw [hv i hi] at h; cases h), fun i b s hi h => (by rw [hv i hi] at h; cases h), fun h => absurd h (by decide)⟩

set_option maxRecDepth 20000 in
set_option maxHeartbeats 8000000 in
theorem chosen_walk (n : Int) (ab aw ah : Option Addr) (nb nw nh cb cw ch : Nat) (bs ws hs : List Int) (hbl : bs.length = nb) (hwl : ws.length = nw) (hhl : hs.length = nh) (hb63 : nb ≤ maxLen) (hw63 : nw ≤ maxLen) (hh63 : nh ≤ maxLen) (w : World) (hB : IntsR w ab bs) (hW : IntsR w aw ws) (hH : IntsR w ah hs) :
    Calls Try.prog 6 #[.int .i64 n, .slice ab nb cb, .slice aw nw cw, .slice ah nh ch] w fun e w' => e = .returned (.bool true) ∧ Below w.heap.size w w' := by
  have C0 := hide (known_any w)
  have IB := hide (And.intro hbl hB)
  have IW := hide (And.intro hwl hW)
  have IH := hide (And.intro hhl hH)
  have hb64 : nb ≤ 9223372036854775807 := by unfold maxLen at hb63; omega
  have hw64 : nw ≤ 9223372036854775807 := by unfold maxLen at hw63; omega
  have hh64 : nh ≤ 9223372036854775807 := by unfold maxLen at hh63; omega
  clear hbl hwl hhl hB hW hH hb63 hw63 hh63
  go_enter Try.func6, Try.ntmps6
  go_wp2_with fail
  refine (unhide C0).mono ?_
  rintro e w1 ⟨rfl, b1⟩
  have B1 := hide b1
  obtain ⟨j3, hj3, CW3⟩ := within_nat n 3 w1 (by decide) (by decide)
  obtain ⟨N, hN⟩ : ∃ N : Nat, (1 : Int) + 2 * (j3 : Int) = (N : Int) := ⟨1 + 2 * j3, by omega⟩
  have hN5 : N ≤ 5 := by omega
  have CW := hide CW3
  have HN := hide hN
  clear b1 C0 CW3 hN
  go_upto_region 4 with (go_at_call 22; refine (unhide CW).mono ?_; rintro e w' ⟨rfl, hw⟩; replace hw := hw.symm; subst hw)
  rw [unhide HN]
  clear CW
  go_wp2_with fail
  go_loopw [9, 10] (fun av iv wr => ∃ (k : Nat) (pl : List Nat) (qs : Nat → Nat) (P : Nat → Int) (v : Nat → Option (Int × Int)), k ≤ N ∧ iv = .int .i64 (k : Int) ∧ Ch w wr k 0 av pl qs P v ∧ (∀ i, i < k → P i = 0) ∧ ∀ i, i < k → v i = none) (fun _ iv _ => 5 - (intOf iv).toNat)
  case atStart => exact ⟨0, [], fun _ => 0, fun _ => 0, fun _ => none, Nat.zero_le _, rfl, ⟨rfl, Pr.nil _ _, ⟨fun _ _ => False, fun i hi => absurd hi (Nat.not_lt_zero _), fun i j hi => absurd hi (Nat.not_lt_zero _), fun i hi => absurd hi (Nat.not_lt_zero _)⟩, unhide B1⟩, fun i hi => absurd hi (Nat.not_lt_zero _), fun i hi => absurd hi (Nat.not_lt_zero _)⟩
  case round =>
    obtain ⟨k, pl, qs, P, v, hk, rfl, hch, hP0, hv0⟩ := hrel
    have CH := hide hch
    have P0 := hide hP0
    have V0 := hide hv0
    clear hch hP0 hv0
    by_cases hlt : k < N
    · have q1 : (k : Int) < (N : Int) := by omega
      have CN := hide (new_any wr)
      go_wp2_with fail
      refine (unhide CN).mono ?_
      rintro e w2 ⟨p, q, rfl, A2, b2⟩
      obtain ⟨hl, hpr, ⟨Ds, has⟩, hbel⟩ := unhide CH
      obtain ⟨W3, hW3⟩ : ∃ W, w2.alloc (.cells #[.pointer (some ⟨p, 0, none⟩)] 24) = W := ⟨_, rfl⟩
      have b3 : Below w2.heap.size w2 W3 := by rw [← hW3]; exact (Below.refl _ w2).alloc (Nat.le_refl _) _
      have x3 : W3.heap[w2.heap.size]? = some (.cells #[.pointer (some ⟨p, 0, none⟩)] 24 (0, 0)) := by rw [← hW3]; exact box_at _ _
      have C3 := hide ((cell_of_block (i := 0) x3).trans rfl : W3.cell? ⟨w2.heap.size, 0, none⟩ = some (.pointer (some ⟨p, 0, none⟩)))
      have R3 := hide ((hpr.below b2).below b3)
      have A3 := hide ((has.add b2 hbel.size A2).below b3)
      have B3 := hide (below_far (below_far hbel b2) b3)
      have HL := hide hl
      have HLL : Hid (pl.length ≤ 1000000) := hide (by rw [hl]; omega)
      have S3 := hide (unhide B3).size
      clear A2 b2 b3 x3 hl hpr has hbel CN CH
      subst hW3
      go_wp2_with (refine wpList_appP rfl (.tmp 33) (.tmp 35) rfl w.heap.size _ pl rfl (unhide R3) w2.heap.size p rfl (unhide C3) (unhide HLL) (unhide S3) ?_)
      intro v4 w4 r4 g4
      have hK4 := Kp.of_grown g4
      have A4 := hide ((unhide A3).kpT (T := 24) hK4 (fun k hk _ => (own_tag (unhide R3) k hk).2) (by decide) (by decide))
      have AS4 : Hid (∃ Ds, As w.heap.size w4 (k + 1) 0 (fun i => (pl ++ [p]).getD i 0) (upN qs k q) (upN P k 0) (upN v k none) Ds) := hide (by
        have e1 : ∀ i, i < k + 1 → upN (fun i => pl.getD i 0) k p i = (pl ++ [p]).getD i 0 := fun i hi => by
          have hl := unhide HL
          by_cases e : i = k
          · subst e
            rw [upN_same, ← hl]; simp
          · rw [upN_other _ _ e]
            simp only [List.getD_eq_getElem?_getD]
            rw [List.getElem?_append_left (by omega)]
        have a4 := unhide A4
        exact ⟨_, fun i hi => e1 i hi ▸ a4.ac i hi, a4.ap, fun i hi => e1 i hi ▸ a4.lo i hi⟩)
      have B4 := hide ((unhide B3).grown g4 (unhide S3) (fun k hk => (own_tag (unhide R3) k hk).1))
      have R4 := hide r4
      clear r4 g4 hK4 A3 B3 R3
      go_wp2
      go_roundw
      case rel => exact ⟨k + 1, pl ++ [p], upN qs k q, upN P k 0, upN v k none, by omega, by go_num, ⟨by rw [List.length_append, unhide HL]; rfl, unhide R4, unhide AS4, unhide B4⟩, fun i hi => up_all (unhide P0) i hi, fun i hi => up_all (unhide V0) i hi⟩
      case measure => simp [intOf]; omega
    · obtain rfl : k = N := by omega
      have CS0 : Hid (Cst k 0 P v 0) := hide (Cst.begin (unhide V0))
      obtain ⟨av0, hav0⟩ : ∃ x, u9 = x := ⟨_, rfl⟩
      rw [hav0] at CH
      clear P0 V0 B1
      go_wp2_with fail
      rw [hav0]
      clear hav0
      go_loopw [11, 12] (fun cv iv wx => ∃ (m : Nat) (c : Int) (P : Nat → Int) (v : Nat → Option (Int × Int)), m ≤ 25 ∧ iv = .int .i64 (m : Int) ∧ cv = .int .i64 c ∧ Ch w wx k (5 * m) av0 pl qs P v ∧ Cst k m P v c) (fun _ iv _ => 25 - (intOf iv).toNat)
      case atStart => exact ⟨0, 0, P, v, by decide, rfl, rfl, unhide CH, unhide CS0⟩
      case round =>
        obtain ⟨m, c, P, v, hm25, rfl, rfl, hch, hcst⟩ := hrel
        have CH2 := hide hch
        have CS := hide hcst
        clear hch hcst CH CS0
        by_cases hin : m < nb ∧ m < nw ∧ m < nh ∧ m < 25
        · obtain ⟨h1, h2, h3, h4⟩ := hin
          have q1 : (m : Int) < (nb : Int) := by omega
          have q2 : (m : Int) < (nw : Int) := by omega
          have q3 : (m : Int) < (nh : Int) := by omega
          have q4 : (m : Int) < 25 := by omega
          have BL := hide (unhide CH2).2.2.2
          obtain ⟨a1, rfl, hc1⟩ := (unhide IB).2 m (by rw [(unhide IB).1]; exact h1)
          obtain ⟨a2, rfl, hc2⟩ := (unhide IW).2 m (by rw [(unhide IW).1]; exact h2)
          obtain ⟨a3, rfl, hc3⟩ := (unhide IH).2 m (by rw [(unhide IH).1]; exact h3)
          obtain ⟨x2, hx2⟩ : ∃ x, ws.getD m 0 = x := ⟨_, rfl⟩
          obtain ⟨x3, hx3⟩ : ∃ x, hs.getD m 0 = x := ⟨_, rfl⟩
          rw [hx2] at hc2
          rw [hx3] at hc3
          have c1 : wr.cell? (a1.add m) = some (.int .i64 (bs.getD m 0)) := by rw [(unhide BL).cell (blk_lt hc1)]; exact hc1
          obtain ⟨j, hj, CW3⟩ := within_nat (bs.getD m 0) 60 wr (by decide) (by decide)
          obtain ⟨B, hB⟩ : ∃ B : Int, 26 * ((1 : Int) + (j : Int)) + (m : Int) = B := ⟨_, rfl⟩
          have hBm : B % 26 = (m : Int) := by omega
          have hB1 : 1 ≤ B := by omega
          have CW := hide CW3
          have HB := hide hB
          have HC2 := hide hc2
          have HC3 := hide hc3
          clear hB CW3 hc1 hc2 hc3 hx2 hx3
          go_upto_region 15 with (go_at_call 22; refine (unhide CW).mono ?_; rintro e w' ⟨rfl, hw⟩; replace hw := hw.symm; subst hw)
          rw [unhide HB]
          clear c1 CW
          go_wp2_with fail
          go_loopw [14, 15, 16] (fun vv yv iv wy => ∃ (i : Nat), i ≤ k ∧ iv = .int .i64 (i : Int) ∧ yv = .int .i64 (cntB (okB (bitI x2) P B) i : Int) ∧ VRow 54 0 w.heap.size wy vv (heardUp (okB (bitI x2) P B) v i) ∧ Ch w wy k (5 * m) av0 pl qs (mix (promB (bitI x2) P B) P i) v) (fun _ _ iv _ => k - (intOf iv).toNat)
          case atStart => exact ⟨0, Nat.zero_le _, rfl, rfl, VRow.nil _ _ _ _, (unhide CH2).congr (fun i _ => (mix_zero _ _ i).symm) (fun _ _ => rfl)⟩
          case round =>
            obtain ⟨i, hi, rfl, rfl, hrow, hch⟩ := hrel
            obtain ⟨y, hy⟩ : ∃ y, cntB (okB (bitI x2) P B) i = y := ⟨_, rfl⟩
            have hy5 : y ≤ 5 := by have := cntB_le (okB (bitI x2) P B) i; omega
            rw [hy]
            have HY := hide hy
            have R := hide hrow
            have C3 := hide hch
            clear hrow hch hy CH2
            by_cases hil : i < k
            · have q5 : (i : Int) < (k : Int) := by omega
              have BL2 := (unhide C3).2.2.2
              have c2 : wr.cell? (a2.add m) = some (.int .i64 x2) := by rw [BL2.cell (blk_lt (unhide HC2))]; exact unhide HC2
              clear BL2
              cases hbit : bitI x2 i with
              | false =>
                have hbb : (bits BinOp.and IntKind.i64 (x2 / 2 ^ i) 1 == 1) = false := hbit
                have hno : okB (bitI x2) P B i = false := by unfold okB; rw [hbit]; rfl
                have F1 : Hid (cntB (okB (bitI x2) P B) (i + 1) = y) := hide (by unfold cntB; rw [hno, unhide HY]; rfl)
                have F2 : Hid (heardUp (okB (bitI x2) P B) v (i + 1) = heardUp (okB (bitI x2) P B) v i) := hide (by show heardUp _ _ _ ++ _ = _; rw [hno]; simp)
                have F3 := hide ((unhide C3).congr (fun j _ => mix_skip (promB (bitI x2) P B) P i (by unfold promB; rw [hno]; rfl) j) (fun _ _ => rfl))
                clear hno hbit
                go_wp2
                go_roundw
                case rel => exact ⟨i + 1, by omega, by go_num, by rw [unhide F1], by rw [unhide F2]; exact unhide R, unhide F3⟩
                case measure => simp [intOf]; omega
              | true =>
                have hbb : (bits BinOp.and IntKind.i64 (x2 / 2 ^ i) 1 == 1) = true := hbit
                obtain ⟨ao9, cap9, hav⟩ := (unhide C3).2.1.slice
                rw [(unhide C3).1] at hav
                obtain ⟨pi, hpi⟩ : ∃ pi, pl[i]? = some pi := ⟨_, List.getElem?_eq_getElem (by rw [(unhide C3).1]; exact hil)⟩
                have hpd : pl.getD i 0 = pi := by rw [List.getD_eq_getElem?_getD, hpi]; rfl
                subst hav
                obtain ⟨G, rfl, cG⟩ := (unhide C3).2.1.at hpi
                have PREP := (unhide C3).prepare hil B hB1
                rw [hpd, mix_at] at PREP
                clear hpi
                rcases PREP with ⟨hP, CP⟩ | ⟨hP, CP⟩
                · have hyes : okB (bitI x2) P B i = true := by unfold okB; rw [hbit]; simpa using hP
                  have F1 : Hid (cntB (okB (bitI x2) P B) (i + 1) = y + 1) := hide (by unfold cntB; rw [hyes, unhide HY]; rfl)
                  have F2 : Hid (heardUp (okB (bitI x2) P B) v (i + 1) = heardUp (okB (bitI x2) P B) v i ++ rowOf (v i)) := hide (by show heardUp _ _ _ ++ _ = _; rw [hyes]; rfl)
                  have F4 : Hid (B = promB (bitI x2) P B i) := hide (by unfold promB; rw [hyes]; rfl)
                  have CC := hide CP
                  clear CP hyes hbit hP
                  go_wp2_with fail
                  refine (unhide CC).mono ?_
                  rintro e w4 ⟨rv, rfl, r4, c4, qi, f4, k4⟩
                  have R4 := (unhide R).far k4 f4 (by simp) (by simp)
                  obtain ⟨ao4, cap4, rfl, -, -⟩ := r4.slice
                  obtain ⟨L, hL⟩ : ∃ L, (rowOf (v i)).length = L := ⟨_, rfl⟩
                  have hL1 : L ≤ 1 := by rw [← hL]; cases v i <;> simp [rowOf]
                  rw [hL]
                  rw [hL] at r4
                  have bsz : w.heap.size ≤ w4.heap.size := c4.2.2.2.size
                  have SRC := hide (r4.mono (Nat.le_refl 0) (show w.heap.size ≤ wr.heap.size from (unhide C3).2.2.2.size)).vsR
                  have RR := hide R4
                  have HLL : Hid ((heardUp (okB (bitI x2) P B) v i).length + L ≤ 1000000) := hide (by have := heardUp_len (okB (bitI x2) P B) v i; omega)
                  have C4 := hide (c4.congr (fun j _ => mix_step (promB (bitI x2) P B) P i B (unhide F4) j) (fun _ _ => rfl))
                  have HL := hide hL
                  have BS := hide bsz
                  clear r4 c4 f4 k4 R4 hL bsz CC R C3 F4
                  go_wp2_with (refine wpList_appV Try.underlying39 (by decide) Try.infoAV rfl (.tmp 93) (.tmp 94) rfl 0 w.heap.size (Nat.zero_le _) _ (heardUp (okB (bitI x2) P B) v i) rfl (unhide RR) ao4 L cap4 (rowOf (v i)) rfl (unhide HL) (unhide SRC) (unhide HLL) (unhide BS) ?_)
                  intro v5 w5 r5 g5
                  have C5 := hide ((unhide C4).grown (T := 54) g5 (fun k hk => ⟨((unhide RR).tag k hk).1, ((unhide RR).tag k hk).2.2⟩) (by decide) (by decide) (by decide))
                  have R5 := hide r5
                  clear r5 g5 C4 RR SRC
                  go_wp2
                  go_roundw
                  case rel => exact ⟨i + 1, by omega, by go_num, by rw [unhide F1]; rfl, by rw [unhide F2]; exact unhide R5, unhide C5⟩
                  case measure => simp [intOf]; omega
                · have hno : okB (bitI x2) P B i = false := by unfold okB; rw [hbit]; simpa using hP
                  have F1 : Hid (cntB (okB (bitI x2) P B) (i + 1) = y) := hide (by unfold cntB; rw [hno, unhide HY]; rfl)
                  have F2 : Hid (heardUp (okB (bitI x2) P B) v (i + 1) = heardUp (okB (bitI x2) P B) v i) := hide (by show heardUp _ _ _ ++ _ = _; rw [hno]; simp)
                  have F3 := hide ((unhide C3).congr (fun j _ => mix_skip (promB (bitI x2) P B) P i (by unfold promB; rw [hno]; rfl) j) (fun _ _ => rfl))
                  have CC := hide CP
                  clear hno hbit CP hP
                  go_wp2_with fail
                  refine (unhide CC).mono ?_
                  rintro e w4 ⟨rfl, b4⟩
                  have B4 := hide b4
                  clear b4
                  go_wp2
                  go_roundw
                  case rel => exact ⟨i + 1, by omega, by go_num, by rw [unhide F1], by rw [unhide F2]; exact (unhide R).below (unhide B4), (unhide F3).below (unhide B4)⟩
                  case measure => simp [intOf]; omega
            · obtain rfl : i = k := by omega
              have CY0 := hide ((unhide C3).congr (fun j hj => mix_all (promB (bitI x2) P B) P hj) (fun _ _ => rfl))
              clear C3
              by_cases hmaj : i < 2 * y
              · have z0 : ¬ 2 * (y : Int) ≤ (i : Int) := by omega
                obtain ⟨aoV, capV, rfl, -, -⟩ := (unhide R).slice
                obtain ⟨LV, hLV⟩ : ∃ L, (heardUp (okB (bitI x2) P B) v i).length = L := ⟨_, rfl⟩
                have hLV5 : LV ≤ 5 := by have := heardUp_len (okB (bitI x2) P B) v i; omega
                rw [hLV]
                rw [hLV] at R
                have CPK := hide (pick_any 0 w.heap.size aoV LV capV _ hLV (by omega) 1 wr (unhide R).vsR)
                obtain ⟨X, hX⟩ : ∃ X, propX (okB (bitI x2) P B) v i ((m : Int) + 1) = X := ⟨_, rfl⟩
                have HX := hide hX
                cases hpk : pickOf (heardUp (okB (bitI x2) P B) v i) 1 with
                | some u =>
                  obtain ⟨iu, bu, su, _, _, _, rfl⟩ := heardUp_mem (pick_some hpk).1
                  have hXs : X = su := by rw [← hX]; unfold propX; rw [hpk]; rfl
                  subst hXs
                  rw [hpk] at CPK
                  have CP2 := unhide CPK
                  simp only [PickOut, entS, List.length_nil] at CP2
                  have CP3 := hide CP2
                  clear CPK CP2 hpk hX hLV
                  go_wp2_with fail
                  refine (unhide CP3).mono ?_
                  rintro e w5 ⟨⟨mo, mc, rfl, -⟩, b5⟩
                  obtain ⟨Y, hY⟩ : ∃ W, w5.alloc (.cells #[.int .i64 1, .int .i64 1, .int .i64 X, .string ⟨#[]⟩, .slice mo 0 mc, .int .i64 0] 32) = W := ⟨_, rfl⟩
                  have bY : Below w5.heap.size w5 Y := by rw [← hY]; exact (Below.refl _ w5).alloc (Nat.le_refl _) _
                  have XB0 : Y.heap[w5.heap.size]? = some (.cells #[.int .i64 1, .int .i64 1, .int .i64 X, .string ⟨#[]⟩, .slice mo 0 mc, .int .i64 0] 32 (0, 0)) := by rw [← hY]; exact box_at _ _
                  have CY := hide ((unhide CY0).below (below_far b5 bY))
                  obtain ⟨Bx, hBx⟩ : ∃ Bx, w5.heap.size = Bx := ⟨_, rfl⟩
                  rw [hBx] at XB0
                  have XB := hide XB0
                  have HWY := hide hY
                  have HBX := hide hBx
                  clear b5 bY XB0 hY hBx CY0 R CP3
                  go_upto_if 108 with fail
                  rw [unhide HWY, unhide HBX]
                  clear HBX
                  have PX : Hid (1 ≤ X) := hide (by rw [← unhide HX]; exact (unhide CS).prop_pos _ (by omega))
                  have hXc : 0 < c → X = c := fun h => by rw [← unhide HX]; exact (unhide CS).prop_same h (by rw [unhide HY]; exact hmaj) _
                  have kX : Y.cell? ⟨Bx, 2, none⟩ = some (.int .i64 X) := (cell_of_block (unhide XB)).trans rfl
                  have hc0' := (unhide CS).nn
                  have HXC := hide hXc
                  go_upto_region 29 with fail
                  go_cut [119] (fun v119 wd => v119 = .bool false ∧ wd = Y)
                  case first =>
                    by_cases hc0 : 0 < c
                    · obtain rfl := hXc hc0
                      go_wp2
                      go_meet
                      exact ⟨rfl, rfl⟩
                    · go_wp2
                      go_meet
                      exact ⟨rfl, rfl⟩
                  case rest =>
                    obtain ⟨rfl, hwc⟩ := hcut
                    subst hwc
                    clear hXc kX hc0'
                    go_wp2_with fail
                    go_loopw [15, 21] (fun yv iv wy => ∃ (i4 : Nat), i4 ≤ i ∧ iv = .int .i64 (i4 : Int) ∧ yv = .int .i64 (cntB (okB (bitI x3) (promB (bitI x2) P B) B) i4 : Int) ∧ wy.heap[Bx]? = some (.cells #[.int .i64 1, .int .i64 1, .int .i64 X, .string ⟨#[]⟩, .slice mo 0 mc, .int .i64 0] 32 (0, 0)) ∧ Ch w wy i (5 * m + i4) av0 pl qs (mix (promB (bitI x3) (promB (bitI x2) P B) B) (promB (bitI x2) P B) i4) (mix (voteB (bitI x3) (promB (bitI x2) P B) B X v) v i4)) (fun _ iv _ => i - (intOf iv).toNat)
                    case atStart => exact ⟨0, Nat.zero_le _, rfl, rfl, unhide XB, (unhide CY).congr (fun j _ => (mix_zero _ _ j).symm) (fun j _ => (mix_zero _ _ j).symm)⟩
                    case round =>
                      obtain ⟨i4, hi4, rfl, rfl, hbx, hch⟩ := hrel
                      obtain ⟨P1, hP1⟩ : ∃ P1, promB (bitI x2) P B = P1 := ⟨_, rfl⟩
                      rw [hP1] at hch ⊢
                      obtain ⟨y4, hy4⟩ : ∃ y, cntB (okB (bitI x3) P1 B) i4 = y := ⟨_, rfl⟩
                      have hy45 : y4 ≤ 5 := by have := cntB_le (okB (bitI x3) P1 B) i4; omega
                      rw [hy4]
                      have HY4 := hide hy4
                      have HP1 := hide hP1
                      have X4 := hide hbx
                      have C4 := hide hch
                      clear hy4 hbx hch hP1 XB CY
                      by_cases hil4 : i4 < i
                      · have q5 : (i4 : Int) < (i : Int) := by omega
                        have BL4 := hide (unhide C4).2.2.2
                        have c3 : wr.cell? (a3.add m) = some (.int .i64 x3) := by rw [(unhide BL4).cell (blk_lt (unhide HC3))]; exact unhide HC3
                        cases hbit : bitI x3 i4 with
                        | false =>
                          have hbb : (bits BinOp.and IntKind.i64 (x3 / 2 ^ i4) 1 == 1) = false := hbit
                          have hno : okB (bitI x3) P1 B i4 = false := by unfold okB; rw [hbit]; rfl
                          have F1 : Hid (cntB (okB (bitI x3) P1 B) (i4 + 1) = y4) := hide (by unfold cntB; rw [hno, unhide HY4]; rfl)
                          have F3 := hide (((unhide C4).congr (fun j _ => mix_skip (promB (bitI x3) P1 B) P1 i4 (by unfold promB; rw [hno]; rfl) j) (fun j _ => mix_skip (voteB (bitI x3) P1 B X v) v i4 (by unfold voteB; rw [hno]; rfl) j)).mono (show 5 * m + i4 ≤ 5 * m + (i4 + 1) by omega))
                          clear hno hbit
                          go_upto_region 35 with fail
                          refine wp_region_quiet_lit (by kernel_rfl) (by kernel_rfl) ?_
                          repeat (
                            with_reducible refine wpQuiet_step (fun K hK => ?_)
                            go_simp
                            first
                              | (refine hK _ ?_; clear hK K)
                              | (apply Exists.intro
                                 refine ⟨fun _ => ?_, hK _ ?_⟩
                                 (fail)
                                 clear hK K))
                          refine wpQuiet_nil ?_
                          rintro wq ⟨nq, rfl⟩
                          go_wp2
                          go_roundw
                          case rel => exact ⟨i4 + 1, by omega, by go_num, by rw [unhide F1], Below.stay (drewN_below _ _) (unhide X4), (unhide F3).below (drewN_below _ _)⟩
                          case measure => simp [intOf]; omega
                        | true =>
                          have hbb : (bits BinOp.and IntKind.i64 (x3 / 2 ^ i4) 1 == 1) = true := hbit
                          obtain ⟨ao9, cap9, hav⟩ := (unhide C4).2.1.slice
                          rw [(unhide C4).1] at hav
                          obtain ⟨pi, hpi⟩ : ∃ pi, pl[i4]? = some pi := ⟨_, List.getElem?_eq_getElem (by rw [(unhide C4).1]; exact hil4)⟩
                          have hpd : pl.getD i4 0 = pi := by rw [List.getD_eq_getElem?_getD, hpi]; rfl
                          subst hav
                          obtain ⟨G, rfl, cG⟩ := (unhide C4).2.1.at hpi
                          have PREP := ((unhide C4).below (Below.refl _ wr).drew).accept hil4 B hB1 X mo mc (by omega)
                          rw [hpd, mix_at] at PREP
                          have SX : Hid (∀ Y, Y.cell? (a3.add m) = some (.int .i64 x3) → (∃ c P v, Ch w Y i c (.slice (some ⟨G, 0, none⟩) i cap9) pl qs P v) → Y.heap[Bx]? = some (.cells #[.int .i64 1, .int .i64 1, .int .i64 X, .string ⟨#[]⟩, .slice mo 0 mc, .int .i64 0] 32 (0, 0)) → Y.cell? (a3.add m) = some (.int .i64 x3) ∧ Y.cell? ⟨G, i4, none⟩ = some (.pointer (some ⟨pi, 0, none⟩)) ∧ Y.cell? ⟨Bx, 0, none⟩ = some (.int .i64 1) ∧ Y.cell? ⟨Bx, 1, none⟩ = some (.int .i64 1) ∧ Y.cell? ⟨Bx, 2, none⟩ = some (.int .i64 X) ∧ Y.cell? ⟨Bx, 3, none⟩ = some (.string ⟨#[]⟩) ∧ Y.cell? ⟨Bx, 4, none⟩ = some (.slice mo 0 mc) ∧ Y.cell? ⟨Bx, 5, none⟩ = some (.int .i64 0)) := hide (fun Y h1 h2 h3 => by
                            obtain ⟨c, P, v, h2⟩ := h2
                            obtain ⟨G', e, hG⟩ := h2.2.1.at hpi
                            cases e
                            exact ⟨h1, hG, (cell_of_block h3).trans rfl, (cell_of_block h3).trans rfl, (cell_of_block h3).trans rfl, (cell_of_block h3).trans rfl, (cell_of_block h3).trans rfl, (cell_of_block h3).trans rfl⟩)
                          have S0 := unhide SX wr.drew c3 ⟨_, _, _, (unhide C4).below (Below.refl _ wr).drew⟩ (unhide X4)
                          rcases PREP with ⟨hP, CP⟩ | ⟨hP, CP⟩
                          · have hyes : okB (bitI x3) P1 B i4 = true := by unfold okB; rw [hbit]; simpa using hP
                            have F1 : Hid (cntB (okB (bitI x3) P1 B) (i4 + 1) = y4 + 1) := hide (by unfold cntB; rw [hyes, unhide HY4]; rfl)
                            have F4 : Hid (B = promB (bitI x3) P1 B i4) := hide (by unfold promB; rw [hyes]; rfl)
                            have F5 : Hid (some (B, X) = voteB (bitI x3) P1 B X v i4) := hide (by unfold voteB; rw [hyes]; rfl)
                            have CC := hide CP
                            clear hyes hbit hP CP hpi
                            go_upto_region 35 with fail
                            go_cut [142] (fun v142 wd => v142 = .bool true ∧ wd.heap[Bx]? = some (.cells #[.int .i64 1, .int .i64 1, .int .i64 X, .string ⟨#[]⟩, .slice mo 0 mc, .int .i64 0] 32 (0, 0)) ∧ Ch w wd i (5 * m + i4 + 1) (.slice (some ⟨G, 0, none⟩) i cap9) pl qs (mix (promB (bitI x3) P1 B) P1 (i4 + 1)) (mix (voteB (bitI x3) P1 B X v) v (i4 + 1)))
                            case first =>
                              go_region_held3 (fun Y => Y.cell? (a3.add m) = some (.int .i64 x3) ∧ Y.cell? ⟨G, i4, none⟩ = some (.pointer (some ⟨pi, 0, none⟩)) ∧ Y.cell? ⟨Bx, 0, none⟩ = some (.int .i64 1) ∧ Y.cell? ⟨Bx, 1, none⟩ = some (.int .i64 1) ∧ Y.cell? ⟨Bx, 2, none⟩ = some (.int .i64 X) ∧ Y.cell? ⟨Bx, 3, none⟩ = some (.string ⟨#[]⟩) ∧ Y.cell? ⟨Bx, 4, none⟩ = some (.slice mo 0 mc) ∧ Y.cell? ⟨Bx, 5, none⟩ = some (.int .i64 0)) (first | with_reducible exact S0 | exact unhide S5 | fail)
                                (first
                                  | (go_at_call 12
                                     refine (unhide CC).mono ?_
                                     rintro e w5 ⟨rfl, c5, qi, f5, k5⟩
                                     have x5 : w5.heap[Bx]? = some (.cells #[.int .i64 1, .int .i64 1, .int .i64 X, .string ⟨#[]⟩, .slice mo 0 mc, .int .i64 0] 32 (0, 0)) := k5.block (unhide X4) (fun hd => (f5 Bx hd (heap_lt (unhide X4))).2 _ _ _ (unhide X4) (by simp))
                                     have C5 := hide (c5.congr (fun j _ => mix_step (promB (bitI x3) P1 B) P1 i4 B (unhide F4) j) (fun j _ => mix_step (voteB (bitI x3) P1 B X v) v i4 (some (B, X)) (unhide F5) j))
                                     have X5 := hide x5
                                     have S5 := hide (unhide SX w5 (by rw [(unhide C5).2.2.2.cell (blk_lt (unhide HC3))]; exact unhide HC3) ⟨_, _, _, unhide C5⟩ x5)
                                     clear c5 f5 k5 x5)
                                  | fail)
                              all_goals
                                go_wp2
                                go_meet
                                exact ⟨rfl, unhide X5, unhide C5⟩
                            case rest =>
                              obtain ⟨rfl, h8, h9⟩ := hcut
                              have H8 := hide h8
                              have H9 := hide h9
                              clear h8 h9
                              go_wp2
                              go_roundw
                              case rel => exact ⟨i4 + 1, by omega, by go_num, by rw [unhide F1]; rfl, unhide H8, unhide H9⟩
                              case measure => simp [intOf]; omega
                          · have hno : okB (bitI x3) P1 B i4 = false := by unfold okB; rw [hbit]; simpa using hP
                            have F1 : Hid (cntB (okB (bitI x3) P1 B) (i4 + 1) = y4) := hide (by unfold cntB; rw [hno, unhide HY4]; rfl)
                            have F3 := hide (((unhide C4).congr (fun j _ => mix_skip (promB (bitI x3) P1 B) P1 i4 (by unfold promB; rw [hno]; rfl) j) (fun j _ => mix_skip (voteB (bitI x3) P1 B X v) v i4 (by unfold voteB; rw [hno]; rfl) j)).mono (show 5 * m + i4 ≤ 5 * m + (i4 + 1) by omega))
                            have CC := hide CP
                            clear hno hbit hP CP hpi
                            go_upto_region 35 with fail
                            go_cut [142] (fun v142 wd => v142 = .bool false ∧ Below wr.heap.size wr wd)
                            case first =>
                              go_region_held3 (fun Y => Y.cell? (a3.add m) = some (.int .i64 x3) ∧ Y.cell? ⟨G, i4, none⟩ = some (.pointer (some ⟨pi, 0, none⟩)) ∧ Y.cell? ⟨Bx, 0, none⟩ = some (.int .i64 1) ∧ Y.cell? ⟨Bx, 1, none⟩ = some (.int .i64 1) ∧ Y.cell? ⟨Bx, 2, none⟩ = some (.int .i64 X) ∧ Y.cell? ⟨Bx, 3, none⟩ = some (.string ⟨#[]⟩) ∧ Y.cell? ⟨Bx, 4, none⟩ = some (.slice mo 0 mc) ∧ Y.cell? ⟨Bx, 5, none⟩ = some (.int .i64 0)) (first | with_reducible exact S0 | exact unhide S5 | fail)
                                (first
                                  | (go_at_call 12
                                     refine (unhide CC).mono ?_
                                     rintro e w5 ⟨rfl, b5⟩
                                     have b6 : Below wr.heap.size wr w5 := below_far ((Below.refl _ wr).drew) b5
                                     have B6 := hide b6
                                     have S5 := hide (unhide SX w5 (by rw [(below_far (unhide BL4) b6).cell (blk_lt (unhide HC3))]; exact unhide HC3) ⟨_, _, _, (unhide C4).below b6⟩ (Below.stay b6 (unhide X4)))
                                     clear b5 b6)
                                  | fail)
                              all_goals
                                go_wp2
                                go_meet
                                exact ⟨rfl, unhide B6⟩
                            case rest =>
                              obtain ⟨rfl, h8⟩ := hcut
                              have H8 := hide h8
                              clear h8
                              go_wp2
                              go_roundw
                              case rel => exact ⟨i4 + 1, by omega, by go_num, by rw [unhide F1], Below.stay (unhide H8) (unhide X4), (unhide F3).below (unhide H8)⟩
                              case measure => simp [intOf]; omega
                      · obtain rfl : i4 = i := by omega
                        have FC := hide ((unhide C4).congr (fun j hj => mix_all (promB (bitI x3) P1 B) P1 hj) (fun j hj => mix_all (voteB (bitI x3) P1 B X v) v hj))
                        have RD := (unhide CS).round (by rw [unhide HY]; exact hmaj) hBm (bitI x3) X (unhide PX) (unhide HXC)
                        rw [unhide HP1, unhide HY4] at RD
                        have RDH := hide RD
                        have k2 : wr.cell? ⟨Bx, 2, none⟩ = some (.int .i64 X) := (cell_of_block (unhide X4)).trans rfl
                        clear RD
                        by_cases hm2 : i4 < 2 * y4
                        · have z1 : (i4 : Int) < 2 * (y4 : Int) := by omega
                          rw [if_pos hm2] at RDH
                          go_wp2
                          go_roundw
                          case rel => exact ⟨m + 1, X, _, _, by omega, by go_num, rfl, (unhide FC).mono (by omega), unhide RDH⟩
                          case measure => simp [intOf]; omega
                        · have z1 : ¬ (i4 : Int) < 2 * (y4 : Int) := by omega
                          rw [if_neg hm2] at RDH
                          go_wp2
                          go_roundw
                          case rel => exact ⟨m + 1, c, _, _, by omega, by go_num, rfl, (unhide FC).mono (by omega), unhide RDH⟩
                          case measure => simp [intOf]; omega
                | none =>
                  have hXs : X = (m : Int) + 1 := by rw [← hX]; unfold propX; rw [hpk]
                  rw [hpk] at CPK
                  have CP2 := unhide CPK
                  simp only [PickOut] at CP2
                  have CP3 := hide CP2
                  have HXS := hide hXs
                  clear CPK CP2 hpk hX hLV hXs
                  go_wp2_with fail
                  refine (unhide CP3).mono ?_
                  rintro e w5 ⟨rfl, b5⟩
                  obtain ⟨Y0, hY0⟩ : ∃ W, w5.alloc (.cells #[.int .i64 0, .int .i64 0, .int .i64 0, .string ⟨#[]⟩, .slice none 0 0, .int .i64 0] 32) = W := ⟨_, rfl⟩
                  have bY0 : Below w5.heap.size w5 Y0 := by rw [← hY0]; exact (Below.refl _ w5).alloc (Nat.le_refl _) _
                  have X0 : Y0.heap[w5.heap.size]? = some (.cells #[.int .i64 0, .int .i64 0, .int .i64 0, .string ⟨#[]⟩, .slice none 0 0, .int .i64 0] 32 (0, 0)) := by rw [← hY0]; exact box_at _ _
                  have z0 : Y0.cell? ⟨w5.heap.size, 0, none⟩ = some (.int .i64 0) := (cell_of_block X0).trans rfl
                  have z1 : Y0.cell? ⟨w5.heap.size, 1, none⟩ = some (.int .i64 0) := (cell_of_block X0).trans rfl
                  have z2 : Y0.cell? ⟨w5.heap.size, 2, none⟩ = some (.int .i64 0) := (cell_of_block X0).trans rfl
                  have z3 : Y0.cell? ⟨w5.heap.size, 3, none⟩ = some (.string ⟨#[]⟩) := (cell_of_block X0).trans rfl
                  have z4 : Y0.cell? ⟨w5.heap.size, 4, none⟩ = some (.slice none 0 0) := (cell_of_block X0).trans rfl
                  have z5 : Y0.cell? ⟨w5.heap.size, 5, none⟩ = some (.int .i64 0) := (cell_of_block X0).trans rfl
                  have fz : ∀ i, Y0.frozen? ⟨w5.heap.size, i, none⟩ = false := fun i => free_of_block X0
                  obtain ⟨Y, hY⟩ : ∃ Y, Y = ((((((Y0.setCell ⟨w5.heap.size, 0, none⟩ (.int .i64 1)).setCell ⟨w5.heap.size, 1, none⟩ (.int .i64 1)).setCell ⟨w5.heap.size, 2, none⟩ (.int .i64 X)).setCell ⟨w5.heap.size, 3, none⟩ (.string ⟨#[]⟩)).setCell ⟨w5.heap.size, 4, none⟩ (.slice none 0 0)).setCell ⟨w5.heap.size, 5, none⟩ (.int .i64 0)) := ⟨_, rfl⟩
                  obtain ⟨XB0, bY, -⟩ := six_end X0 (Nat.le_refl _) bY0 Y hY
                  obtain ⟨mo, mc, XB0⟩ : ∃ (mo : Option Addr) (mc : Nat), Y.heap[w5.heap.size]? = some (.cells #[.int .i64 1, .int .i64 1, .int .i64 X, .string ⟨#[]⟩, .slice mo 0 mc, .int .i64 0] 32 (0, 0)) := ⟨none, 0, XB0⟩
                  have CY := hide ((unhide CY0).below (below_far b5 bY))
                  obtain ⟨Bx, hBx⟩ : ∃ Bx, w5.heap.size = Bx := ⟨_, rfl⟩
                  rw [hBx] at XB0
                  have XB := hide XB0
                  have HW0 := hide hY0
                  have HWY := hide hY
                  have HBX := hide hBx
                  clear b5 bY bY0 XB0 X0 hY hY0 hBx CY0 R CP3
                  go_upto_if 108 with fail
                  rw [unhide HW0]
                  go_cut [] (fun wd => wd = Y)
                  case first =>
                    go_wp2
                    go_meet
                    rw [unhide HWY, unhide HXS]
                  case rest =>
                    replace hcut := hcut.symm
                    subst hcut
                    rw [unhide HBX]
                    clear HBX HW0 z0 z1 z2 z3 z4 z5 fz
                    have PX : Hid (1 ≤ X) := hide (by rw [← unhide HX]; exact (unhide CS).prop_pos _ (by omega))
                    have hXc : 0 < c → X = c := fun h => by rw [← unhide HX]; exact (unhide CS).prop_same h (by rw [unhide HY]; exact hmaj) _
                    have kX : Y.cell? ⟨Bx, 2, none⟩ = some (.int .i64 X) := (cell_of_block (unhide XB)).trans rfl
                    have hc0' := (unhide CS).nn
                    have HXC := hide hXc
                    go_upto_region 29 with fail
                    go_cut [119] (fun v119 wd => v119 = .bool false ∧ wd = Y)
                    case first =>
                      by_cases hc0 : 0 < c
                      · obtain rfl := hXc hc0
                        go_wp2
                        go_meet
                        exact ⟨rfl, rfl⟩
                      · go_wp2
                        go_meet
                        exact ⟨rfl, rfl⟩
                    case rest =>
                      obtain ⟨rfl, hwc⟩ := hcut
                      subst hwc
                      clear hXc kX hc0'
                      go_wp2_with fail
                      go_loopw [15, 21] (fun yv iv wy => ∃ (i4 : Nat), i4 ≤ i ∧ iv = .int .i64 (i4 : Int) ∧ yv = .int .i64 (cntB (okB (bitI x3) (promB (bitI x2) P B) B) i4 : Int) ∧ wy.heap[Bx]? = some (.cells #[.int .i64 1, .int .i64 1, .int .i64 X, .string ⟨#[]⟩, .slice mo 0 mc, .int .i64 0] 32 (0, 0)) ∧ Ch w wy i (5 * m + i4) av0 pl qs (mix (promB (bitI x3) (promB (bitI x2) P B) B) (promB (bitI x2) P B) i4) (mix (voteB (bitI x3) (promB (bitI x2) P B) B X v) v i4)) (fun _ iv _ => i - (intOf iv).toNat)
                      case atStart => exact ⟨0, Nat.zero_le _, rfl, rfl, unhide XB, (unhide CY).congr (fun j _ => (mix_zero _ _ j).symm) (fun j _ => (mix_zero _ _ j).symm)⟩
                      case round =>
                        obtain ⟨i4, hi4, rfl, rfl, hbx, hch⟩ := hrel
                        obtain ⟨P1, hP1⟩ : ∃ P1, promB (bitI x2) P B = P1 := ⟨_, rfl⟩
                        rw [hP1] at hch ⊢
                        obtain ⟨y4, hy4⟩ : ∃ y, cntB (okB (bitI x3) P1 B) i4 = y := ⟨_, rfl⟩
                        have hy45 : y4 ≤ 5 := by have := cntB_le (okB (bitI x3) P1 B) i4; omega
                        rw [hy4]
                        have HY4 := hide hy4
                        have HP1 := hide hP1
                        have X4 := hide hbx
                        have C4 := hide hch
                        clear hy4 hbx hch hP1 XB CY
                        by_cases hil4 : i4 < i
                        · have q5 : (i4 : Int) < (i : Int) := by omega
                          have BL4 := hide (unhide C4).2.2.2
                          have c3 : wr.cell? (a3.add m) = some (.int .i64 x3) := by rw [(unhide BL4).cell (blk_lt (unhide HC3))]; exact unhide HC3
                          cases hbit : bitI x3 i4 with
                          | false =>
                            have hbb : (bits BinOp.and IntKind.i64 (x3 / 2 ^ i4) 1 == 1) = false := hbit
                            have hno : okB (bitI x3) P1 B i4 = false := by unfold okB; rw [hbit]; rfl
                            have F1 : Hid (cntB (okB (bitI x3) P1 B) (i4 + 1) = y4) := hide (by unfold cntB; rw [hno, unhide HY4]; rfl)
                            have F3 := hide (((unhide C4).congr (fun j _ => mix_skip (promB (bitI x3) P1 B) P1 i4 (by unfold promB; rw [hno]; rfl) j) (fun j _ => mix_skip (voteB (bitI x3) P1 B X v) v i4 (by unfold voteB; rw [hno]; rfl) j)).mono (show 5 * m + i4 ≤ 5 * m + (i4 + 1) by omega))
                            clear hno hbit
                            go_upto_region 35 with fail
                            refine wp_region_quiet_lit (by kernel_rfl) (by kernel_rfl) ?_
                            repeat (
                              with_reducible refine wpQuiet_step (fun K hK => ?_)
                              go_simp
                              first
                                | (refine hK _ ?_; clear hK K)
                                | (apply Exists.intro
                                   refine ⟨fun _ => ?_, hK _ ?_⟩
                                   (fail)
                                   clear hK K))
                            refine wpQuiet_nil ?_
                            rintro wq ⟨nq, rfl⟩
                            go_wp2
                            go_roundw
                            case rel => exact ⟨i4 + 1, by omega, by go_num, by rw [unhide F1], Below.stay (drewN_below _ _) (unhide X4), (unhide F3).below (drewN_below _ _)⟩
                            case measure => simp [intOf]; omega
                          | true =>
                            have hbb : (bits BinOp.and IntKind.i64 (x3 / 2 ^ i4) 1 == 1) = true := hbit
                            obtain ⟨ao9, cap9, hav⟩ := (unhide C4).2.1.slice
                            rw [(unhide C4).1] at hav
                            obtain ⟨pi, hpi⟩ : ∃ pi, pl[i4]? = some pi := ⟨_, List.getElem?_eq_getElem (by rw [(unhide C4).1]; exact hil4)⟩
                            have hpd : pl.getD i4 0 = pi := by rw [List.getD_eq_getElem?_getD, hpi]; rfl
                            subst hav
                            obtain ⟨G, rfl, cG⟩ := (unhide C4).2.1.at hpi
                            have PREP := ((unhide C4).below (Below.refl _ wr).drew).accept hil4 B hB1 X mo mc (by omega)
                            rw [hpd, mix_at] at PREP
                            have SX : Hid (∀ Y, Y.cell? (a3.add m) = some (.int .i64 x3) → (∃ c P v, Ch w Y i c (.slice (some ⟨G, 0, none⟩) i cap9) pl qs P v) → Y.heap[Bx]? = some (.cells #[.int .i64 1, .int .i64 1, .int .i64 X, .string ⟨#[]⟩, .slice mo 0 mc, .int .i64 0] 32 (0, 0)) → Y.cell? (a3.add m) = some (.int .i64 x3) ∧ Y.cell? ⟨G, i4, none⟩ = some (.pointer (some ⟨pi, 0, none⟩)) ∧ Y.cell? ⟨Bx, 0, none⟩ = some (.int .i64 1) ∧ Y.cell? ⟨Bx, 1, none⟩ = some (.int .i64 1) ∧ Y.cell? ⟨Bx, 2, none⟩ = some (.int .i64 X) ∧ Y.cell? ⟨Bx, 3, none⟩ = some (.string ⟨#[]⟩) ∧ Y.cell? ⟨Bx, 4, none⟩ = some (.slice mo 0 mc) ∧ Y.cell? ⟨Bx, 5, none⟩ = some (.int .i64 0)) := hide (fun Y h1 h2 h3 => by
                              obtain ⟨c, P, v, h2⟩ := h2
                              obtain ⟨G', e, hG⟩ := h2.2.1.at hpi
                              cases e
                              exact ⟨h1, hG, (cell_of_block h3).trans rfl, (cell_of_block h3).trans rfl, (cell_of_block h3).trans rfl, (cell_of_block h3).trans rfl, (cell_of_block h3).trans rfl, (cell_of_block h3).trans rfl⟩)
                            have S0 := unhide SX wr.drew c3 ⟨_, _, _, (unhide C4).below (Below.refl _ wr).drew⟩ (unhide X4)
                            rcases PREP with ⟨hP, CP⟩ | ⟨hP, CP⟩
                            · have hyes : okB (bitI x3) P1 B i4 = true := by unfold okB; rw [hbit]; simpa using hP
                              have F1 : Hid (cntB (okB (bitI x3) P1 B) (i4 + 1) = y4 + 1) := hide (by unfold cntB; rw [hyes, unhide HY4]; rfl)
                              have F4 : Hid (B = promB (bitI x3) P1 B i4) := hide (by unfold promB; rw [hyes]; rfl)
                              have F5 : Hid (some (B, X) = voteB (bitI x3) P1 B X v i4) := hide (by unfold voteB; rw [hyes]; rfl)
                              have CC := hide CP
                              clear hyes hbit hP CP hpi
                              go_upto_region 35 with fail
                              go_cut [142] (fun v142 wd => v142 = .bool true ∧ wd.heap[Bx]? = some (.cells #[.int .i64 1, .int .i64 1, .int .i64 X, .string ⟨#[]⟩, .slice mo 0 mc, .int .i64 0] 32 (0, 0)) ∧ Ch w wd i (5 * m + i4 + 1) (.slice (some ⟨G, 0, none⟩) i cap9) pl qs (mix (promB (bitI x3) P1 B) P1 (i4 + 1)) (mix (voteB (bitI x3) P1 B X v) v (i4 + 1)))
                              case first =>
                                go_region_held3 (fun Y => Y.cell? (a3.add m) = some (.int .i64 x3) ∧ Y.cell? ⟨G, i4, none⟩ = some (.pointer (some ⟨pi, 0, none⟩)) ∧ Y.cell? ⟨Bx, 0, none⟩ = some (.int .i64 1) ∧ Y.cell? ⟨Bx, 1, none⟩ = some (.int .i64 1) ∧ Y.cell? ⟨Bx, 2, none⟩ = some (.int .i64 X) ∧ Y.cell? ⟨Bx, 3, none⟩ = some (.string ⟨#[]⟩) ∧ Y.cell? ⟨Bx, 4, none⟩ = some (.slice mo 0 mc) ∧ Y.cell? ⟨Bx, 5, none⟩ = some (.int .i64 0)) (first | with_reducible exact S0 | exact unhide S5 | fail)
                                  (first
                                    | (go_at_call 12
                                       refine (unhide CC).mono ?_
                                       rintro e w5 ⟨rfl, c5, qi, f5, k5⟩
                                       have x5 : w5.heap[Bx]? = some (.cells #[.int .i64 1, .int .i64 1, .int .i64 X, .string ⟨#[]⟩, .slice mo 0 mc, .int .i64 0] 32 (0, 0)) := k5.block (unhide X4) (fun hd => (f5 Bx hd (heap_lt (unhide X4))).2 _ _ _ (unhide X4) (by simp))
                                       have C5 := hide (c5.congr (fun j _ => mix_step (promB (bitI x3) P1 B) P1 i4 B (unhide F4) j) (fun j _ => mix_step (voteB (bitI x3) P1 B X v) v i4 (some (B, X)) (unhide F5) j))
                                       have X5 := hide x5
                                       have S5 := hide (unhide SX w5 (by rw [(unhide C5).2.2.2.cell (blk_lt (unhide HC3))]; exact unhide HC3) ⟨_, _, _, unhide C5⟩ x5)
                                       clear c5 f5 k5 x5)
                                    | fail)
                                all_goals
                                  go_wp2
                                  go_meet
                                  exact ⟨rfl, unhide X5, unhide C5⟩
                              case rest =>
                                obtain ⟨rfl, h8, h9⟩ := hcut
                                have H8 := hide h8
                                have H9 := hide h9
                                clear h8 h9
                                go_wp2
                                go_roundw
                                case rel => exact ⟨i4 + 1, by omega, by go_num, by rw [unhide F1]; rfl, unhide H8, unhide H9⟩
                                case measure => simp [intOf]; omega
                            · have hno : okB (bitI x3) P1 B i4 = false := by unfold okB; rw [hbit]; simpa using hP
                              have F1 : Hid (cntB (okB (bitI x3) P1 B) (i4 + 1) = y4) := hide (by unfold cntB; rw [hno, unhide HY4]; rfl)
                              have F3 := hide (((unhide C4).congr (fun j _ => mix_skip (promB (bitI x3) P1 B) P1 i4 (by unfold promB; rw [hno]; rfl) j) (fun j _ => mix_skip (voteB (bitI x3) P1 B X v) v i4 (by unfold voteB; rw [hno]; rfl) j)).mono (show 5 * m + i4 ≤ 5 * m + (i4 + 1) by omega))
                              have CC := hide CP
                              clear hno hbit hP CP hpi
                              go_upto_region 35 with fail
                              go_cut [142] (fun v142 wd => v142 = .bool false ∧ Below wr.heap.size wr wd)
                              case first =>
                                go_region_held3 (fun Y => Y.cell? (a3.add m) = some (.int .i64 x3) ∧ Y.cell? ⟨G, i4, none⟩ = some (.pointer (some ⟨pi, 0, none⟩)) ∧ Y.cell? ⟨Bx, 0, none⟩ = some (.int .i64 1) ∧ Y.cell? ⟨Bx, 1, none⟩ = some (.int .i64 1) ∧ Y.cell? ⟨Bx, 2, none⟩ = some (.int .i64 X) ∧ Y.cell? ⟨Bx, 3, none⟩ = some (.string ⟨#[]⟩) ∧ Y.cell? ⟨Bx, 4, none⟩ = some (.slice mo 0 mc) ∧ Y.cell? ⟨Bx, 5, none⟩ = some (.int .i64 0)) (first | with_reducible exact S0 | exact unhide S5 | fail)
                                  (first
                                    | (go_at_call 12
                                       refine (unhide CC).mono ?_
                                       rintro e w5 ⟨rfl, b5⟩
                                       have b6 : Below wr.heap.size wr w5 := below_far ((Below.refl _ wr).drew) b5
                                       have B6 := hide b6
                                       have S5 := hide (unhide SX w5 (by rw [(below_far (unhide BL4) b6).cell (blk_lt (unhide HC3))]; exact unhide HC3) ⟨_, _, _, (unhide C4).below b6⟩ (Below.stay b6 (unhide X4)))
                                       clear b5 b6)
                                    | fail)
                                all_goals
                                  go_wp2
                                  go_meet
                                  exact ⟨rfl, unhide B6⟩
                              case rest =>
                                obtain ⟨rfl, h8⟩ := hcut
                                have H8 := hide h8
                                clear h8
                                go_wp2
                                go_roundw
                                case rel => exact ⟨i4 + 1, by omega, by go_num, by rw [unhide F1], Below.stay (unhide H8) (unhide X4), (unhide F3).below (unhide H8)⟩
                                case measure => simp [intOf]; omega
                        · obtain rfl : i4 = i := by omega
                          have FC := hide ((unhide C4).congr (fun j hj => mix_all (promB (bitI x3) P1 B) P1 hj) (fun j hj => mix_all (voteB (bitI x3) P1 B X v) v hj))
                          have RD := (unhide CS).round (by rw [unhide HY]; exact hmaj) hBm (bitI x3) X (unhide PX) (unhide HXC)
                          rw [unhide HP1, unhide HY4] at RD
                          have RDH := hide RD
                          have k2 : wr.cell? ⟨Bx, 2, none⟩ = some (.int .i64 X) := (cell_of_block (unhide X4)).trans rfl
                          clear RD
                          by_cases hm2 : i4 < 2 * y4
                          · have z1 : (i4 : Int) < 2 * (y4 : Int) := by omega
                            rw [if_pos hm2] at RDH
                            go_wp2
                            go_roundw
                            case rel => exact ⟨m + 1, X, _, _, by omega, by go_num, rfl, (unhide FC).mono (by omega), unhide RDH⟩
                            case measure => simp [intOf]; omega
                          · have z1 : ¬ (i4 : Int) < 2 * (y4 : Int) := by omega
                            rw [if_neg hm2] at RDH
                            go_wp2
                            go_roundw
                            case rel => exact ⟨m + 1, c, _, _, by omega, by go_num, rfl, (unhide FC).mono (by omega), unhide RDH⟩
                            case measure => simp [intOf]; omega
              · have z0 : 2 * (y : Int) ≤ (i : Int) := by omega
                have RD := hide (((unhide CS).rise (fun j _ => prom_le (bitI x2) P B j)).more)
                go_wp2
                go_roundw
                case rel => exact ⟨m + 1, c, _, _, by omega, by go_num, rfl, (unhide CY0).mono (by omega), unhide RD⟩
                case measure => simp [intOf]; omega
        · have BL := hide (unhide CH2).2.2.2
          have hc0 := (unhide CS).nn
          by_cases h1 : m < nb
          · have q1 : (m : Int) < (nb : Int) := by omega
            by_cases h2 : m < nw
            · have q2 : (m : Int) < (nw : Int) := by omega
              by_cases h3 : m < nh
              · have q3 : (m : Int) < (nh : Int) := by omega
                have q4 : ¬ (m : Int) < 25 := by omega
                go_wp2
                go_ret
                exact ⟨rfl, unhide BL⟩
              · have q3 : ¬ (m : Int) < (nh : Int) := by omega
                go_wp2
                go_ret
                exact ⟨rfl, unhide BL⟩
            · have q2 : ¬ (m : Int) < (nw : Int) := by omega
              go_wp2
              go_ret
              exact ⟨rfl, unhide BL⟩
          · have q1 : ¬ (m : Int) < (nb : Int) := by omega
            go_wp2
            go_ret
            exact ⟨rfl, unhide BL⟩
end Go.Proofs.Ytiibedgobhhikaa
