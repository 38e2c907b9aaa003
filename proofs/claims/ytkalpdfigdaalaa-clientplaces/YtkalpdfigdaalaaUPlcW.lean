/- ClientPlaces: the walk. -/
import Derived.Test.YtkalpdfigdaalaaUPlcA
import Derived.Deep.QuietTactic
import Derived.BigQuiet
import Derived.Deep.DeepCutAuto
namespace Go.Proofs.Ytkalpdfigdaalaa
open Go.RowKit Go.Maps
attribute [local go_sem ↓] Go.wp_at_zero Go.wp_at_succ

theorem zero_a420 (w : World) : (zeroValue 46).run Try.prog w = .ok (.agg (Array.replicate 80 (.int .i64 0))) w := by kernel_rfl
/-- what the loop keeps. -/
structure PcI (w0 wr : World) (p q B : Nat) (es : List En) (H : Nat → Int) (i : Nat) : Prop where
  own : Own w0 (fun k => k = B) wr p q es
  nums : Nums wr B 80 46 H
  rise : Rise es
  has : Has es H
  len : es.length ≤ i
  size : w0.heap.size ≤ wr.heap.size
  old : w0.heap.size ≤ B
set_option maxRecDepth 20000 in
set_option maxHeartbeats 8000000 in
theorem places_walk (ao bo : Option Addr) (n m cap cbp : Nat) (xs ys : List Int) (hn : xs.length = n) (hm : ys.length = m) (w : World) (hx : IntsR w ao xs) (hy : IntsR w bo ys) : Calls Try.prog 4 #[.slice ao n cap, .slice bo m cbp] w fun e w' => e = .returned (.bool true) ∧ Below w.heap.size w w' := by
  obtain ⟨Z, hZ⟩ : ∃ Z, Array.replicate 80 (Value.int .i64 0) = Z := ⟨_, rfl⟩
  have ZS : Hid (Z.size = 80 ∧ ∀ i, i < 80 → Z[i]? = some (.int .i64 0)) := hide ⟨by rw [← hZ]; simp, fun i hi => by rw [← hZ]; simp [hi]⟩
  have zz := zero_a420
  rw [hZ] at zz
  clear hZ
  have C0 := hide (known_any w)
  have HX := hide hx
  have HY := hide hy
  have HN := hide hn
  have HM := hide hm
  clear hx hy hn hm
  go_enter Try.func4, Try.ntmps4
  go_wp2_with fail
  refine (unhide C0).mono ?_
  rintro e w1 ⟨rfl, b1⟩
  have C1 := hide (new_any w1)
  have B1 := hide b1
  clear b1 C0
  go_wp2_with fail
  refine (unhide C1).mono ?_
  rintro x w2 ⟨p, q, rfl, h2, b2⟩
  have O2 := hide (Own.new h2 w2.heap.size (Nat.le_refl _))
  have B2 := hide (below_far (unhide B1) b2)
  have S2 := hide b2.size
  clear h2 b2 C1
  obtain ⟨W, hW⟩ : ∃ W, w2.alloc (.cells Z 46) = W := ⟨_, rfl⟩
  have sW : W.heap.size = w2.heap.size + 1 := by rw [← hW]; simp
  have bW : Below w2.heap.size w2 W := by rw [← hW]; exact (Below.refl _ w2).alloc (Nat.le_refl _) _
  have N0 : Nums W w2.heap.size 80 46 (fun _ => 0) := ⟨Z, by rw [← hW]; exact box_at _ _, (unhide ZS).1, (unhide ZS).2⟩
  have A0 : Hid (PcI w1 W p q w2.heap.size [] (fun _ => 0) 0) := hide ⟨(unhide O2).below bW, N0, Rise.nil, Has.nil, Nat.zero_le _, Nat.le_trans (unhide S2) bW.size, unhide S2⟩
  have BW := hide (below_far (unhide B2) bW)
  have SB : Hid (w2.heap.size < W.heap.size) := hide (by rw [sW]; omega)
  clear bW N0 sW O2
  go_upto_region 5 with fail
  clear hW zz S2 ZS
  go_wp2
  go_loopw [7, 8, 9, 10, 11, 12, 13, 14, 15, 16, 4] (fun i _ _ _ _ _ _ _ _ _ _ wr => ∃ (j : Nat) (es : List En) (H : Nat → Int), i = .int .i64 j ∧ j ≤ 80 ∧ PcI w1 wr p q w2.heap.size es H j ∧ Below w.heap.size w wr ∧ W.heap.size ≤ wr.heap.size) (fun i _ _ _ _ _ _ _ _ _ _ _ => 80 - (intOf i).toNat)
  case atStart => exact ⟨0, _, _, rfl, by omega, unhide A0, unhide BW, Nat.le_refl _⟩
  case round =>
    obtain ⟨j, es, H, rfl, hj, ha, hb, hsz⟩ := hrel
    have AI := hide ha
    have HB := hide hb
    have HSZ := hide hsz
    clear ha hb hsz
    by_cases h1 : j < n
    · by_cases h2 : j < m
      · by_cases h3 : j < 80
        · have q1 : (j : Int) < (n : Int) := by omega
          have q2 : (j : Int) < (m : Int) := by omega
          have q3 : (j : Int) < 80 := by omega
          have q0 : (0 : Int) ≤ (j : Int) := by omega
          obtain ⟨ad, rfl, hxw⟩ := (unhide HX) j (by rw [unhide HN]; exact h1)
          obtain ⟨bd, rfl, hyw⟩ := (unhide HY) j (by rw [unhide HM]; exact h2)
          have ca := ((unhide HB).cell (blk_lt hxw)).trans hxw
          have cb := ((unhide HB).cell (blk_lt hyw)).trans hyw
          obtain ⟨x0, hx0⟩ : ∃ s, xs.getD j 0 = s := ⟨_, rfl⟩
          obtain ⟨y0, hy0⟩ : ∃ s, ys.getD j 0 = s := ⟨_, rfl⟩
          rw [hx0] at ca
          rw [hy0] at cb
          obtain ⟨kc, hkc, -, CWc⟩ := within_nat x0 3 (by decide) (by decide)
          obtain ⟨ks, hks, -, CWs⟩ := within_nat y0 19 (by decide) (by decide)
          have WC := hide (fun w => show Calls Try.prog 11 #[.int .i64 x0, .int .i64 3] w fun ev w' => ev = .returned (.int .i64 (kc : Int)) ∧ w' = w from CWc w)
          have WS := hide (fun w => show Calls Try.prog 11 #[.int .i64 y0, .int .i64 19] w fun ev w' => ev = .returned (.int .i64 (ks : Int)) ∧ w' = w from CWs w)
          clear CWc CWs hxw hyw hx0 hy0
          go_upto_region 8 with fail
          go_quiet (first
            | (go_at_call_of 11 (Value.int .i64 x0); exact Calls.quiet_of_same (unhide WC _))
            | (go_at_call_of 11 (Value.int .i64 y0); exact Calls.quiet_of_same (unhide WS _)))
          obtain ⟨c, hc⟩ : ∃ c : Nat, c = kc + 1 := ⟨_, rfl⟩
          obtain ⟨s, hs⟩ : ∃ s : Nat, s = ks + 1 := ⟨_, rfl⟩
          have ec : 1 + (kc : Int) = (c : Int) := by omega
          have es' : 1 + (ks : Int) = (s : Int) := by omega
          have hc4 : c < 4 := by omega
          have hs20 : s < 20 := by omega
          have hc1 : 1 ≤ c := by omega
          have hs1 : 1 ≤ s := by omega
          rw [ec, es']
          obtain ⟨r3, hr3⟩ : ∃ r : Nat, (j : Int) % 3 = (r : Int) := ⟨((j : Int) % 3).toNat, by omega⟩
          have hr33 : r3 < 3 := by omega
          obtain ⟨V, hV⟩ : ∃ V, wr.drewN nq = V := ⟨_, rfl⟩
          have bV : Below wr.heap.size wr V := by rw [← hV]; exact drewN_below _ _
          rw [hV]
          have CP := hide (own_put (w := V) ((unhide AI).own.below bV) (Nat.le_trans (unhide AI).size bV.size) (fun x hx => by rw [hx]; exact Nat.lt_of_lt_of_le (unhide AI).nums.lt bV.size) (by have := (unhide AI).len; omega) (unhide AI).rise (bare (1 + (r3 : Int)) (c : Int) (s : Int)) none 0 0 rfl (by decide) (IntsR.nil _ _) (wf_range (x := (c : Int)) (by omega)))
          have BV := hide bV
          clear bV hV hc hs ec es' WC WS ca cb
          obtain ⟨PL, hPL⟩ : ∃ PL, placeOf es (bare (1 + (r3 : Int)) (c : Int) (s : Int)) = PL := ⟨_, rfl⟩
          obtain ⟨mb, hmb⟩ : ∃ mb, decide (mayPut es (bare (1 + (r3 : Int)) (c : Int) (s : Int))) = mb := ⟨_, rfl⟩
          rw [hPL, hmb] at CP
          have HPL := hide hPL
          have HMB := hide hmb
          clear hPL hmb
          go_wp2_with fail
          refine (unhide CP).mono ?_
          rintro e w4 ⟨rfl, o4, b4, x4⟩
          have n4 : Nums w4 w2.heap.size 80 46 H := ((unhide AI).nums.keep (unhide BV) (unhide AI).nums.lt).same (x4 _ rfl)
          have O4 := hide o4
          have N4 := hide n4
          have K4 := hide b4
          have B4 := hide ((unhide HB).trans (((unhide BV).mono (unhide HB).size).trans (b4.mono (unhide B1).size)))
          have S4 := hide (Nat.le_trans (Nat.le_trans (unhide HSZ) (unhide BV).size) b4.size)
          clear o4 b4 x4 n4 CP
          go_upto_if 59 with fail
          go_cut [10, 11] (fun _ _ wc => ∃ (es' : List En) (H' : Nat → Int), PcI w1 wc p q w2.heap.size es' H' (j + 1) ∧ Below w.heap.size w wc ∧ W.heap.size ≤ wc.heap.size)
          case first =>
            by_cases hm : mayPut es (bare (1 + (r3 : Int)) (c : Int) (s : Int))
            · have hp := unhide HPL
              unfold placeOf at hp
              rw [if_pos hm] at hp
              have ho := unhide O4
              unfold putOf at ho
              rw [if_pos hm] at ho
              obtain rfl : true = mb := by rw [← unhide HMB]; exact (decide_eq_true hm).symm
              obtain ⟨L, hL⟩ : ∃ L, es.length = L := ⟨_, rfl⟩
              rw [hL] at hp
              have hf2 := findOf_zero (es := es) (c := (c : Int)) (s := (s : Int)) (fun h => by have := hm.2; rw [show (bare (1 + (r3 : Int)) (c : Int) (s : Int)).client = (c : Int) from rfl, show (bare (1 + (r3 : Int)) (c : Int) (s : Int)).seq = (s : Int) from rfl, h] at this; exact absurd this (by decide))
              have HZ0 : H (c * 20 + s) = 0 := by rw [(unhide AI).has c s hc4 hs20]; exact hf2
              have H80 : c * 20 + s < 80 := by omega
              have FIN : Hid (PcI w1 (w4.setCell ⟨w2.heap.size, c * 20 + s, none⟩ (.int .i64 ((L : Int) + 1))) p q w2.heap.size (es ++ [bare (1 + (r3 : Int)) (c : Int) (s : Int)]) (fun i => if i = c * 20 + s then (L : Int) + 1 else H i) (j + 1)) := hide
                ⟨ho.store _ _, (unhide N4).put H80 _, (unhide AI).rise.snoc (findOf_new hm.2 (unhide AI).rise).2, by rw [← hL]; exact (unhide AI).has.put (unhide AI).rise hm rfl rfl hs20, by have := (unhide AI).len; simp; omega, by
                  have h1 := Nat.le_trans (Nat.le_trans (unhide AI).size (unhide BV).size) (unhide K4).size
                  simpa [World.setCell] using h1, (unhide AI).old⟩
              have CL := own_len ho
              rw [show ((es ++ [bare (1 + (r3 : Int)) (c : Int) (s : Int)]).length : Int) = (L : Int) + 1 by simp [hL]] at CL
              have CL' := hide CL
              have cz := (unhide N4).at H80
              rw [HZ0] at cz
              have fz := (unhide N4).free (c * 20 + s)
              have BS : Hid (Below w.heap.size w (w4.setCell ⟨w2.heap.size, c * 20 + s, none⟩ (.int .i64 ((L : Int) + 1)))) := hide ((unhide B4).setCell (p := ⟨w2.heap.size, c * 20 + s, none⟩) (Nat.le_trans (unhide B1).size (unhide AI).old) _)
              have SS : Hid (W.heap.size ≤ (w4.setCell ⟨w2.heap.size, c * 20 + s, none⟩ (.int .i64 ((L : Int) + 1))).heap.size) := hide (by simp [World.setCell]; exact unhide S4)
              subst hp
              clear hm hL hf2 HZ0 H80 ho CL HPL HMB
              go_wp2_with fail
              refine (unhide CL').mono ?_
              rintro e w5 ⟨rfl, rfl⟩
              go_wp2_with fail
              go_meet
              case rel => exact ⟨_, _, unhide FIN, unhide BS, unhide SS⟩
            · have ho := unhide O4
              unfold putOf at ho
              rw [if_neg hm] at ho
              obtain rfl : false = mb := by rw [← unhide HMB]; exact (decide_eq_false hm).symm
              have FIN : Hid (PcI w1 w4 p q w2.heap.size es H (j + 1)) := hide ⟨ho, unhide N4, (unhide AI).rise, (unhide AI).has, Nat.le_succ_of_le (unhide AI).len, Nat.le_trans (Nat.le_trans (unhide AI).size (unhide BV).size) (unhide K4).size, (unhide AI).old⟩
              clear hm ho
              go_wp2_with fail
              go_meet
              case rel => exact ⟨_, _, unhide FIN, unhide B4, unhide S4⟩
          case rest =>
            obtain ⟨fs, G, ha, hb, hsz⟩ := hcut
            obtain ⟨wd, hwd⟩ : ∃ wd, wd = wc := ⟨_, rfl⟩
            subst hwd
            have FI := hide ha
            have FB := hide hb
            have FS := hide hsz
            clear ha hb hsz AI HB HSZ BV O4 N4 K4 B4 S4 HPL
            go_wp2_with fail
            go_loopw [12, 13, 14, 15, 16, 4] (fun kv _ _ _ _ _ wr => ∃ k : Nat, kv = .int .i64 k ∧ 1 ≤ k ∧ k ≤ 4 ∧ Below wd.heap.size wd wr) (fun kv _ _ _ _ _ _ => 4 - (intOf kv).toNat)
            case atStart => exact ⟨1, rfl, by omega, by omega, Below.refl _ _⟩
            case round =>
              obtain ⟨k, rfl, hk1, hk4, hbk⟩ := hrel
              obtain ⟨wk, hwk⟩ : ∃ wk, wk = wr := ⟨_, rfl⟩
              subst hwk
              have BK := hide hbk
              clear hbk
              by_cases g1 : k ≤ 3
              · have p1 : (k : Int) ≤ 3 := by omega
                go_wp2_with fail
                go_loopw [14, 13, 15, 16, 4] (fun jv lv _ _ _ wr => ∃ (i : Nat) (l : Int), jv = .int .i64 i ∧ lv = .int .i64 l ∧ 1 ≤ i ∧ i ≤ 20 ∧ LastI fs k i l ∧ Below wd.heap.size wd wr) (fun jv _ _ _ _ _ => 20 - (intOf jv).toNat)
                case atStart => exact ⟨1, 0, rfl, rfl, by omega, by omega, LastI.zero _ _ _, unhide BK⟩
                case round =>
                  obtain ⟨i, l, rfl, rfl, hi1, hi20, hla, hbi⟩ := hrel
                  have LA := hide hla
                  have BI := hide hbi
                  clear hla hbi
                  by_cases g2 : i < 20
                  · have p2 : (i : Int) < 20 := by omega
                    have CA := own_ask ((unhide FI).own.below (unhide BI)) (by have := (unhide FI).len; omega) (unhide FI).rise (k : Int) (i : Int) (wf_range (by omega))
                    have hhas := (unhide FI).has k i (by omega) g2
                    have hiff := findOf_iff fs (k : Int) (i : Int)
                    have hnn := findOf_nonneg fs (k : Int) (i : Int)
                    have HIT := hide (fun h => (unhide LA).hit (unhide FI).rise h)
                    have NU := hide (fun Y (hY : Below wr.heap.size wr Y) => ((unhide FI).nums.keep ((unhide BI).trans (hY.mono (unhide BI).size)) (unhide FI).nums.lt).at (i := k * 20 + i) (by omega))
                    rw [hhas] at NU
                    obtain ⟨⟨x, y⟩, hxy⟩ : ∃ r, findOf fs (k : Int) (i : Int) = r := ⟨_, rfl⟩
                    rw [hxy] at CA hiff hnn HIT NU
                    simp only at CA hiff hnn HIT NU
                    have CA' := hide CA
                    have hl0 := (unhide LA).1
                    have MISS := hide (unhide LA).miss
                    clear CA hhas hxy
                    by_cases hx : 0 < x
                    · obtain rfl : y = 0 := hiff.2 hx
                      have HL2 := unhide HIT hx
                      have hlx := HL2.1
                      have HNX := hide HL2.2
                      have hmx : max l x = x := by omega
                      have gx : x > 0 := hx
                      have gl : ¬ x ≤ l := by omega
                      clear HL2 hiff hnn HIT MISS LA
                      go_wp2_with fail
                      refine (unhide CA').mono ?_
                      rintro e w6 ⟨rfl, b6⟩
                      have c6 := unhide NU w6 b6
                      have B6 := hide ((unhide BI).trans (b6.mono (unhide BI).size))
                      clear b6 CA' NU
                      go_wp2
                      go_roundw
                      case rel => exact ⟨i + 1, x, by go_num, rfl, by omega, by omega, unhide HNX, unhide B6⟩
                      case measure => simp [intOf]; omega
                    · obtain rfl : x = 0 := by omega
                      have hy0 : (y == 0) = false := by rw [beq_eq_false_iff_ne]; intro h; exact hx (hiff.1 h)
                      have hmx : max l 0 = l := by omega
                      clear hiff hnn HIT LA hx
                      go_wp2_with fail
                      refine (unhide CA').mono ?_
                      rintro e w6 ⟨rfl, b6⟩
                      have c6 := unhide NU w6 b6
                      have B6 := hide ((unhide BI).trans (b6.mono (unhide BI).size))
                      clear b6 CA' NU
                      go_wp2
                      go_roundw
                      case rel => exact ⟨i + 1, l, by go_num, rfl, by omega, by omega, unhide MISS, unhide B6⟩
                      case measure => simp [intOf]; omega
                  · have p2 : ¬ (i : Int) < 20 := by omega
                    go_wp2
                    go_roundw
                    case rel => exact ⟨k + 1, by go_num, by omega, by omega, unhide BI⟩
                    case measure => simp [intOf]; omega
              · have p1 : ¬ (k : Int) ≤ 3 := by omega
                have FB2 := hide ((unhide FB).trans ((unhide BK).mono (unhide FB).size))
                have FI2 : Hid (PcI w1 wk p q w2.heap.size fs G (j + 1)) := hide ⟨(unhide FI).own.below (unhide BK), (unhide FI).nums.keep (unhide BK) (unhide FI).nums.lt, (unhide FI).rise, (unhide FI).has, (unhide FI).len, Nat.le_trans (unhide FI).size (unhide BK).size, (unhide FI).old⟩
                have FS2 := hide (Nat.le_trans (unhide FS) (unhide BK).size)
                go_wp2
                go_roundw
                case rel => exact ⟨j + 1, fs, G, by go_num, by omega, unhide FI2, unhide FB2, unhide FS2⟩
                case measure => simp [intOf]; omega
        · have q1 : (j : Int) < (n : Int) := by omega
          have q2 : (j : Int) < (m : Int) := by omega
          have q3 : ¬ (j : Int) < 80 := by omega
          go_wp2
          go_ret
          exact ⟨rfl, unhide HB⟩
      · have q1 : (j : Int) < (n : Int) := by omega
        have q2 : ¬ (j : Int) < (m : Int) := by omega
        go_wp2
        go_ret
        exact ⟨rfl, unhide HB⟩
    · have q1 : ¬ (j : Int) < (n : Int) := by omega
      go_wp2
      go_ret
      exact ⟨rfl, unhide HB⟩
end Go.Proofs.Ytkalpdfigdaalaa
