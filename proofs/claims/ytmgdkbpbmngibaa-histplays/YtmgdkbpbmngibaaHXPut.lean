/- The document's own log: Put: a contract. -/
import Derived.Test.YtmgdkbpbmngibaaHXPutA
import Derived.Deep.DeepCutAuto
import Derived.Deep.RegionLaw
import Derived.Deep.CutBlock
namespace Go.Proofs.Ytmgdkbpbmngibaa
open Go.RowKit Go.Maps
attribute [local go_sem ↓] Go.wp_at_zero Go.wp_at_succ

set_option maxRecDepth 1000000 in
set_option maxHeartbeats 16000000 in
theorem xput_any {base : Nat} {D F : Nat → Prop} {w : World} {p : Nat} {b : Int} {rs : List Rw} (h : Xs base D w p b rs) (hf : Fit b rs) (hr : rs.length ≤ 1000) (i t : Int) (at' : Option Addr) (m ct : Nat) (ts : List Int) (hm : ts.length = m) (hm6 : m ≤ 1000000) (hts : InF F w at' ts)
    (ao : Option Addr) (n cap : Nat) (es : List En) (hn : es.length = n) (hn6 : n ≤ 1000000) (hes : XEs F base w ao es) (hFD : ∀ k, F k → ¬ D k) (hFl : ∀ k, F k → k < w.heap.size) (hbase : base ≤ w.heap.size) :
    Calls Try.prog 16 #[.pointer (some ⟨p, 0, none⟩), .int .i64 i, .int .i64 t, .slice at' m ct, .slice ao n cap] w fun x w' =>
      x = .returned (.tuple #[.int .i64 (putN b rs i t ts n), .int .i64 ((putNo b rs i t ts n : Nat) : Int)]) ∧ Xs base (News D w w') w' p b (putRows b rs i t ts es) ∧ Kp D w w' := by
  obtain ⟨R, hR⟩ : ∃ R, putNo b rs i t ts n = R := ⟨_, rfl⟩
  have hN : putN b rs i t ts n = if R = 0 then i + (n : Int) else 0 := by unfold putN; rw [hR]
  have hA : putRows b rs i t ts es = if R = 0 then putGo b rs (i + 1) ts es else rs := by unfold putRows; rw [hn, hR]
  rw [hN, hA, hR]
  unfold putNo at hR
  have hb0 := hf.b0
  have hb1 := hf.b1
  have LA := hide (fun Y (hY : Below w.heap.size w Y) => xlast_any (h.below hY) hf)
  have TE := hide (fun Y (hY : Below w.heap.size w Y) => xterm_any (h.below hY) hf i)
  have CB := hide (fun Y (hY : Below w.heap.size w Y) => show Y.cell? ⟨p, 0, none⟩ = some (.int .i64 b) by
    obtain ⟨⟨tv, ev, x1, _⟩, _⟩ := h.below hY
    exact (three_cells x1).1)
  obtain ⟨L, hL⟩ : ∃ L, b + (rs.length : Int) = L := ⟨_, rfl⟩
  obtain ⟨q, hq⟩ : ∃ q, termOf b rs i = q := ⟨_, rfl⟩
  rw [hq, hL] at hR
  rw [hL] at LA
  rw [hq] at TE
  have hLb : 0 ≤ L ∧ L ≤ 2000000 := by have := hf.n1; omega
  have cb := unhide CB w (Below.refl _ _)
  have HH := hide h
  have HE := hide hes
  have HT := hide hts
  have HF := hide hf
  have FD := hide hFD
  have FL := hide hFl
  have HN := hide hn
  have HM := hide hm
  have HL := hide hL
  have HR := hide hR
  have HRS := hide hr
  clear h hes hts hf hFD hFl hn hm hL hR hN hA hq hr
  by_cases hmn : m = n
  · subst hmn
    have r1 := unhide HR
    rw [if_pos (unhide HM)] at r1
    have HR1 := hide r1
    clear r1 HR
    by_cases hib : i < b
    · obtain rfl : 1 = R := by
        have := unhide HR1
        split at this
        · first | exact this | rwa [if_pos hib] at this
        · exact this
      have e1 : ((m : Int) == (m : Int)) = true := by simp
      clear HR1 LA TE CB
      go_enter Try.func16, Try.ntmps16
      go_wp2
      go_ret2
      exact ⟨rfl, (unhide HH).more hbase, Kp.refl _ _⟩
    · have r1 := unhide HR1
      rw [if_neg hib] at r1
      have HR := hide r1
      clear r1 HR1
      have e1 : ((m : Int) == (m : Int)) = true := by simp
      go_enter Try.func16, Try.ntmps16
      go_wp2_with fail
      go_loopw [13, 12] (fun iv av wr => ∃ (k : Nat) (a : Int), k ≤ m ∧ iv = .int .i64 (k : Int) ∧ av = .int .i64 a ∧ climbsOf t ts = climbsOf a (ts.drop k) ∧ wr = w) (fun iv _ _ => m - (intOf iv).toNat)
      case atStart => exact ⟨0, t, Nat.zero_le _, rfl, rfl, by rw [List.drop_zero], rfl⟩
      case round =>
        obtain ⟨k, a, hk, rfl, rfl, hcl, rfl⟩ := hrel
        have HCL := hide hcl
        clear hcl
        by_cases hlt : k < m
        · obtain ⟨ta, rfl, -, ct0⟩ := unhide HT k (by rw [unhide HM]; exact hlt)
          obtain ⟨y, hy⟩ : ∃ y, ts.getD k 0 = y := ⟨_, rfl⟩
          rw [hy] at ct0
          have hd : ts.drop k = y :: ts.drop (k + 1) := by rw [drop_getD (by rw [unhide HM]; exact hlt), hy]
          have hc2 := unhide HCL
          rw [hd] at hc2
          have qk : (k : Int) < (m : Int) := by omega
          by_cases y1 : y < 1
          · rw [climbs_no (Or.inl y1)] at hc2
            obtain rfl : 1 = R := by have := unhide HR; rwa [hc2, if_neg (by decide)] at this
            clear HR hc2 hd hy HCL
            go_wp2
            go_ret2
            exact ⟨rfl, (unhide HH).more hbase, Kp.refl _ _⟩
          · by_cases y2 : y < a
            · rw [climbs_no (Or.inr y2)] at hc2
              obtain rfl : 1 = R := by have := unhide HR; rwa [hc2, if_neg (by decide)] at this
              clear HR hc2 hd hy HCL
              go_wp2
              go_ret2
              exact ⟨rfl, (unhide HH).more hbase, Kp.refl _ _⟩
            · rw [climbs_yes y1 y2] at hc2
              have HC2 := hide hc2
              clear hc2 hd hy HCL
              go_wp2
              go_roundw
              case rel => exact ⟨k + 1, y, by omega, by go_num, rfl, unhide HC2, trivial⟩
              case measure => simp [intOf]; omega
        · obtain rfl : k = m := by omega
          have hc2 := unhide HCL
          rw [List.drop_of_length_le (by rw [unhide HM]; exact Nat.le_refl _), climbsOf] at hc2
          have r1 := unhide HR
          rw [if_pos hc2] at r1
          have HPOS := hide (climbs_pos hc2)
          have HR2 := hide r1
          have L0 := hide (unhide LA wr (Below.refl _ _))
          clear hc2 r1 HR HCL
          by_cases hLi : L < i
          · obtain rfl : 2 = R := by have := unhide HR2; rwa [if_pos hLi] at this
            clear HR2 TE
            go_wp2_with fail
            refine (unhide L0).mono ?_
            rintro x w1 ⟨rfl, b1⟩
            have B1 := hide b1
            clear b1 L0
            go_wp2
            go_ret2
            exact ⟨rfl, ((unhide HH).below (unhide B1)).more hbase, Kp.of_below (unhide B1)⟩
          · have r2 := unhide HR2
            rw [if_neg hLi] at r2
            have HR3 := hide r2
            clear r2 HR2
            go_upto_region 10 with fail
            go_cut [72] (fun v72 wc => v72 = .bool (decide (b < i ∧ q ≠ t)) ∧ Below wr.heap.size wr wc)
            case first =>
              have nLi : decide (L < i) = false := decide_eq_false hLi
              by_cases hbi : b < i
              · have dbi : decide (b < i) = true := decide_eq_true hbi
                have HQT : Hid ((q != t) = decide (b < i ∧ q ≠ t)) := by
                  show _ = _
                  by_cases e : q = t
                  · simp [e]
                  · simp [e, hbi]
                go_wp2_with fail
                refine (unhide L0).mono ?_
                rintro x w1 ⟨rfl, b1⟩
                have T1 := hide (unhide TE _ b1)
                have cb1 := unhide CB _ b1
                have B1 := hide b1
                clear b1 L0
                go_wp2_with fail
                refine (unhide T1).mono ?_
                rintro x w2 ⟨rfl, b2⟩
                have B2 := hide (below_far (unhide B1) b2)
                clear b2 T1
                go_wp2_with fail
                go_meet
                exact ⟨by rw [unhide HQT], unhide B2⟩
              · have dbi : decide (b < i) = false := decide_eq_false hbi
                go_wp2_with fail
                refine (unhide L0).mono ?_
                rintro x w1 ⟨rfl, b1⟩
                have cb1 := unhide CB _ b1
                have B1 := hide b1
                clear b1 L0
                go_wp2_with fail
                go_meet
                exact ⟨by rw [decide_eq_false (by omega)], unhide B1⟩
            case rest =>
              obtain ⟨rfl, hb10⟩ := hcut
              have B10 := hide hb10
              clear hb10 L0 TE LA
              by_cases hqt : b < i ∧ q ≠ t
              · obtain rfl : 2 = R := by have := unhide HR3; rwa [if_pos hqt] at this
                rw [decide_eq_true hqt]
                clear HR3 hqt
                go_wp2
                go_ret2
                exact ⟨rfl, ((unhide HH).below (unhide B10)).more hbase, Kp.of_below (unhide B10)⟩
              · rw [decide_eq_false hqt]
                have r3 := unhide HR3
                rw [if_neg hqt] at r3
                have HR4 := hide r3
                clear r3 HR3 hqt
                have wrn : IntKind.i64.wrap (i + (k : Int)) = i + (k : Int) := IntWalk.i64_in _ (by omega)
                by_cases h64 : i + (k : Int) ≤ 64
                · have d3 : decide ((64 : Int) < i + (k : Int)) = false := decide_eq_false (by omega)
                  obtain rfl : 0 = R := by have := unhide HR4; rwa [if_pos h64] at this
                  clear HR4
                  obtain ⟨Z, hZ⟩ : ∃ Z, putGo b rs (i + 1) ts es = Z := ⟨_, rfl⟩
                  have HZ := hide hZ
                  obtain ⟨m, hmk⟩ : ∃ m, m = k := ⟨_, rfl⟩
                  subst hmk
                  have LI : Hid (i ≤ b + (rs.length : Int)) := by have := unhide HL; show i ≤ _; omega
                  clear hZ
                  obtain ⟨w0, hw0⟩ : ∃ w0, w0 = wr := ⟨_, rfl⟩
                  subst hw0
                  go_wp2_with fail
                  go_loopw [14, 15, 16] (fun iv _ _ wl => ∃ (j : Nat) (rk : List Rw), j ≤ m ∧ iv = .int .i64 (j : Int) ∧ rk.length ≤ rs.length + j ∧ i + (j : Int) ≤ b + (rk.length : Int) ∧ putGo b rk (i + 1 + (j : Int)) (ts.drop j) (es.drop j) = Z ∧ Xs base (News D w0 wl) wl p b rk ∧ Kp D w0 wl) (fun iv _ _ _ => m - (intOf iv).toNat)
                  case atStart => exact ⟨0, rs, Nat.zero_le _, rfl, by omega, by have := unhide LI; omega, by rw [List.drop_zero, List.drop_zero, show i + 1 + ((0 : Nat) : Int) = i + 1 by omega]; exact unhide HZ, ((unhide HH).below (unhide B10)).more hbase, Kp.of_below (unhide B10)⟩
                  case round =>
                    obtain ⟨j, rk, hj, rfl, hrl, hlo, hgo, hs, hkp⟩ := hrel
                    have HS := hide hs
                    have KP := hide hkp
                    have GO := hide hgo
                    have RL := hide hrl
                    have LO := hide hlo
                    clear hs hkp hgo hrl hlo
                    by_cases hlt : j < m
                    · obtain ⟨e, he⟩ : ∃ e, es[j]? = some e := ⟨_, List.getElem?_eq_getElem (by rw [unhide HN]; exact hlt)⟩
                      have hDlow : ∀ j, D j → base ≤ j := (unhide HH).low
                      have hE := (unhide HE).kp (unhide KP) (unhide FD) hDlow
                      have hT := (unhide HT).kp (unhide KP) (unhide FD)
                      obtain ⟨g, off, mo, mc, rfl, hFg, hcl, him, hml⟩ := hE j e he
                      obtain ⟨ta, rfl, hta, ct0⟩ := hT j (by rw [unhide HM]; exact hlt)
                      obtain ⟨tk, htk⟩ : ∃ tk, ts.getD j 0 = tk := ⟨_, rfl⟩
                      rw [htk] at ct0
                      have htk1 : 1 ≤ tk := unhide HPOS tk (by rw [← htk, List.getD_eq_getElem?_getD, List.getElem?_eq_getElem (by rw [unhide HM]; exact hlt)]; exact List.getElem_mem _)
                      obtain ⟨J, hJ⟩ : ∃ J, i + 1 + (j : Int) = J := ⟨_, rfl⟩
                      have hJb : b < J ∧ J ≤ b + (rk.length : Int) + 1 ∧ J ≤ 64 := by have := unhide LO; omega
                      have hfk : Fit b rk := ⟨(unhide HF).b0, (unhide HF).b1, by have := unhide RL; have := unhide HRS; omega⟩
                      have TJ := hide (xterm_any ((unhide HS).below (Below.refl _ wr).drew) hfk J)
                      have hgo2 : putGo b (placed b rk J tk e) (i + 1 + ((j + 1 : Nat) : Int)) (ts.drop (j + 1)) (es.drop (j + 1)) = Z := by
                        rw [← unhide GO, putGo_step (by rw [unhide HM]; exact hlt) htk he, hJ]
                        congr 1; omega
                      have hpl := placed_len b rk J tk e
                      have hpg := placed_ge (e := e) hJb.1 hJb.2.1 htk1
                      have HPL := hide hpl
                      have HPG := hide hpg
                      have GO2 := hide hgo2
                      have wj1 : IntKind.i64.wrap (i + (j : Int)) = i + (j : Int) := IntWalk.i64_in _ (by omega)
                      have wj2 : IntKind.i64.wrap (i + (j : Int) + 1) = J := by rw [IntWalk.i64_in _ (by omega)]; omega
                      have qj : (j : Int) < (m : Int) := by omega
                      have HJ := hide hJ
                      have CL := hide hcl
                      have IM := hide him
                      have ML := hide hml
                      have FG := hide hFg
                      have DL := hide hDlow
                      obtain ⟨q2, hq2⟩ : ∃ q2, termOf b rk J = q2 := ⟨_, rfl⟩
                      rw [hq2] at TJ
                      have HQ2 := hide hq2
                      have t0 : wr.drew.cell? (ta.add j) = some (.int .i64 tk) := ct0
                      have CT := hide ct0
                      clear hE hT he hta ct0 htk hgo2 hpl hpg hJ hcl him hml hFg hDlow hq2 hfk
                      go_upto_region 18 with fail
                      go_cut [95] (fun v95 wc => v95 = .bool (q2 == tk) ∧ Below wr.heap.size wr wc)
                      case first =>
                        go_region_held3 (fun Y => Y.cell? (ta.add j) = some (.int .i64 tk)) (first | exact t0 | exact t1 | fail) (first
                          | (go_at_call 17; refine (unhide TJ).mono ?_; rintro x y1 ⟨rfl, by1⟩
                             have BY := hide (below_far ((Below.refl _ wr).drew) by1)
                             have t1 : y1.cell? (ta.add j) = some (.int .i64 tk) := by rw [(unhide BY).cell (blk_lt (unhide CT))]; exact unhide CT
                             clear by1))
                        all_goals go_wp2_with fail
                        all_goals go_meet
                        all_goals exact ⟨rfl, unhide BY⟩
                      case rest =>
                        obtain ⟨rfl, hby⟩ := hcut
                        obtain ⟨y1, hy1⟩ : ∃ y1, y1 = wc := ⟨_, rfl⟩
                        subst hy1
                        have BY := hide hby
                        clear hby TJ t0
                        by_cases hqt : q2 = tk
                        · have e2 : (q2 == tk) = true := by rw [beq_iff_eq]; exact hqt
                          have hpk : placed b rk J tk e = rk := by unfold placed; rw [if_pos (by rw [unhide HQ2]; exact hqt)]
                          have FIN : Hid (rk.length ≤ rs.length + (j + 1) ∧ i + ((j + 1 : Nat) : Int) ≤ b + (rk.length : Int) ∧ putGo b rk (i + 1 + ((j + 1 : Nat) : Int)) (ts.drop (j + 1)) (es.drop (j + 1)) = Z ∧ Xs base (News D w0 y1) y1 p b rk ∧ Kp D w0 y1) := by
                            have g2 := unhide GO2
                            have g3 := unhide HPG
                            rw [hpk] at g2 g3
                            refine ⟨by have := unhide RL; omega, by have := unhide HJ; omega, g2, ?_, (unhide KP).far (unhide BY)⟩
                            have hx := (unhide HS).below (unhide BY)
                            obtain ⟨⟨tv, ev, z1, z2, z3, z4, z5⟩, z6, z7, z8⟩ := hx
                            have sy := (unhide BY).size
                            exact ⟨⟨tv, ev, z1, z2, z3, fun c hc => (z4 c hc).elim Or.inl (fun y => Or.inr ⟨y.1, by omega⟩), fun c hc => (z5 c hc).elim Or.inl (fun y => Or.inr ⟨y.1, by omega⟩)⟩, z6.elim Or.inl (fun y => Or.inr ⟨y.1, by omega⟩), fun c hc => hc.elim (fun y => z7 c (Or.inl y)) (fun y => y.2), fun c hc => hc.elim (fun y => z8 c (Or.inl y)) (fun y => by omega)⟩
                          rw [e2]
                          clear hpk e2 hqt
                          go_wp2
                          go_roundw
                          case rel => exact ⟨j + 1, rk, by omega, by go_num, unhide FIN⟩
                          case measure => simp [intOf]; omega
                        · have e2 : (q2 == tk) = false := by rw [beq_eq_false_iff_ne]; exact hqt
                          rw [e2]
                          have hx := (unhide HS).below (unhide BY)
                          obtain ⟨⟨tv, ev, x1, x2, x3, x4, x5⟩, x6, x7, x8⟩ := hx
                          obtain ⟨TS, hTS⟩ : ∃ TS, rk.map (·.1) = TS := ⟨_, rfl⟩
                          obtain ⟨ES, hES⟩ : ∃ ES, rk.map (·.2) = ES := ⟨_, rfl⟩
                          rw [hTS] at x2
                          rw [hES] at x3
                          obtain ⟨ao1, c1, rfl, hfr1, hc1, -⟩ := x2.slice
                          obtain ⟨ao2, c2, rfl, hc2, -⟩ := x3.slice
                          have hTl : TS.length = rk.length := by rw [← hTS, List.length_map]
                          have hEl : ES.length = rk.length := by rw [← hES, List.length_map]
                          obtain ⟨n1, hn1⟩ : ∃ n1, TS.length = n1 := ⟨_, rfl⟩
                          obtain ⟨n2, hn2⟩ : ∃ n2, ES.length = n2 := ⟨_, rfl⟩
                          obtain ⟨K, hK⟩ : ∃ K, (J - b - 1).toNat = K := ⟨_, rfl⟩
                          have hKi : J - b - 1 = (K : Int) := by omega
                          have hKr : K ≤ rk.length := by omega
                          have hrk : rk.length ≤ 2000000 := by have := unhide RL; have := unhide HRS; omega
                          have hpk : placed b rk J tk e = rk.take K ++ [(tk, e)] := by
                            unfold placed
                            rw [if_neg (by rw [unhide HQ2]; exact hqt)]
                            unfold aheadOf
                            rw [if_neg (by omega), hK, Nat.min_eq_left hKr]
                          obtain ⟨TSK, hTK⟩ : ∃ TSK, TS.take K = TSK := ⟨_, rfl⟩
                          have HTK : Hid (TSK.length = K) := by show _ = _; rw [← hTK, List.length_take]; omega
                          have NX : Hid ((rk.take K ++ [(tk, e)]).map (·.1) = TSK ++ [tk] ∧ (rk.take K ++ [(tk, e)]).map (·.2) = ES.take K ++ [e]) := by
                            show _ ∧ _
                            rw [← hTK, ← hTS, ← hES, List.map_append, List.map_append, List.map_take, List.map_take]
                            exact ⟨rfl, rfl⟩
                          have FIN0 : Hid ((placed b rk J tk e).length ≤ rs.length + (j + 1)) := by have := unhide HPL; have := unhide RL; show _ ≤ _; omega
                          have FIN1 : Hid (i + ((j + 1 : Nat) : Int) ≤ b + ((placed b rk J tk e).length : Int)) := by have := unhide HPG; have := unhide HJ; show _ ≤ _; omega
                          rw [hpk] at FIN0 FIN1 GO2
                          rw [hn1] at x1 hc1
                          rw [hn2] at x1 hc2
                          obtain ⟨k0, k1, k2⟩ := three_cells x1
                          have TSB := hide (fun (Y : World) (hY : Below y1.heap.size y1 Y) => show IntsR Y ao1 TSK by rw [← hTK]; exact ((hfr1.below hY).take K).1)
                          have hkp2 := (unhide KP).far (unhide BY)
                          have t1 : y1.drew.cell? (ta.add j) = some (.int .i64 tk) := by show y1.cell? _ = _; rw [(unhide BY).cell (blk_lt (unhide CT))]; exact unhide CT
                          have TT := hide (fun (Y : World) (hY : Below y1.heap.size y1 Y) => show Y.cell? (ta.add j) = some (.int .i64 tk) by rw [hY.cell (blk_lt t1)]; exact t1)
                          have l0 : y1.drew.cell? ⟨p, 1, none⟩ = some (.slice ao1 n1 c1) := k1
                          have l1 : ∀ o, (y1.alloc o).cell? ⟨p, 1, none⟩ = some (.slice ao1 n1 c1) := fun o => (three_cells (Below.stay (bd1 y1 o) x1)).2.1
                          have tl1 : ∀ o, (y1.alloc o).cell? (ta.add j) = some (.int .i64 tk) := fun o => show (y1.alloc o).drew.cell? _ = _ from unhide TT _ (bd1 y1 o)
                          have tl2 : ∀ o o', ((y1.alloc o).alloc o').cell? (ta.add j) = some (.int .i64 tk) := fun o o' => show ((y1.alloc o).alloc o').drew.cell? _ = _ from unhide TT _ (bd2 y1 o o')
                          have l2 : ∀ o o', ((y1.alloc o).alloc o').cell? ⟨p, 1, none⟩ = some (.slice ao1 n1 c1) := fun o o' => (three_cells (Below.stay (bd2 y1 o o') x1)).2.1
                          have wk1 : IntKind.i64.wrap (J - b) = (K : Int) + 1 := by rw [IntWalk.i64_in _ (by omega)]; omega
                          have wk2 : IntKind.i64.wrap (K : Int) = (K : Int) := IntWalk.i64_in _ (by omega)
                          have g1 : (0 : Int) ≤ (K : Int) := by omega
                          have g2 : (K : Int) ≤ (c1 : Int) := by omega
                          have g3 : (K : Int) ≤ (c2 : Int) := by omega
                          have g4 : K ≤ n1 := by omega
                          have X1 := hide x1
                          have X2R := hide x3
                          have X4 := hide x4
                          have X5 := hide x5
                          have X6 := hide x6
                          have X7 := hide x7
                          have X8 := hide x8
                          have HKE : Hid (K ≤ ES.length) := by show _ ≤ _; omega
                          have HTE : Hid ((ES.take K).length = K) := by show _ = _; rw [List.length_take]; omega
                          have KPY := hide hkp2
                          have HN2 := hide hn2
                          have k60 : K ≤ 1000000 := by omega
                          clear x1 x2 x3 x4 x5 x6 x7 x8 hTS hES hTl hEl hn1 hn2 hK hKr hTK hpk hkp2 hfr1 e2 hqt HQ2 HPL HPG hrk
                          have EI1 : Hid (Ir y1.heap.size (y1.alloc (.cells #[] 3)).drew (.slice (some ⟨y1.heap.size, 0, none⟩) 0 0) []) := (empty_ints y1).below ((Below.refl _ _).drew)
                          have EI2 : Hid (Ir y1.heap.size ((y1.alloc (.cells #[] 3)).alloc (.cells #[.int .i64 tk] 3)).drew (.slice (some ⟨y1.heap.size, 0, none⟩) 0 0) []) := (empty_ints y1).below (((Below.refl _ _).alloc (Nat.le_refl _) _).drew)
                          have EI3 : Hid (Ir y1.heap.size ((y1.alloc (.cells #[.int .i64 tk] 3)).alloc (.cells #[] 3)).drew (.slice (some ⟨y1.heap.size + 1, 0, none⟩) 0 0) []) := (ei_three y1 _).below ((Below.refl _ _).drew)
                          go_upto_region 20 with fail
                          go_cut [119] (fun _ wc => ∃ v z, wc = z.setCell ⟨p, 1, none⟩ v ∧ Below y1.heap.size y1 z ∧ Ir y1.heap.size z v (TSK ++ [tk]))
                          case first =>
                            go_region_law (first
                              | (with_reducible refine step_appI (.tmp 104) (.tmp 110) (by with_unfolding_all rfl) (by with_unfolding_all rfl) ?_
                                 refine wp_catI (.tmp 104) (.tmp 110) (by rfl) y1.heap.size _ [] (by first | exact unhide EI1 | exact unhide EI2 | exact unhide EI3 | fail) (by rfl) ao1 K c1 TSK (by rfl) (unhide HTK) (by first | exact unhide TSB _ (bd1 y1 (.cells #[] 3)) | exact unhide TSB _ (bd2 y1 (.cells #[] 3) (.cells #[.int .i64 tk] 3)) | exact unhide TSB _ (bd2 y1 (.cells #[.int .i64 tk] 3) (.cells #[] 3)) | fail) (by simp; omega) (by first | exact (bd1 y1 (.cells #[] 3)).size | exact (bd2 y1 (.cells #[] 3) (.cells #[.int .i64 tk] 3)).size | exact (bd2 y1 (.cells #[.int .i64 tk] 3) (.cells #[] 3)).size | fail) ?_
                                 intro v1 z1 hI1 hg1 hat1
                                 have BZ : Hid (Below y1.heap.size y1 z1) := by
                                   first
                                     | exact bz_grown (bd1 y1 (.cells #[] 3)) hg1 (by omega)
                                     | exact bz_grown (bd2 y1 (.cells #[] 3) (.cells #[.int .i64 tk] 3)) hg1 (by omega)
                                     | exact bz_grown (bd2 y1 (.cells #[.int .i64 tk] 3) (.cells #[] 3)) hg1 (by omega)
                                     | fail
                                 have tz := unhide TT _ (unhide BZ)
                                 first
                                   | have KI := hide ((hg1.block (y1.heap.size + 1) (by simp) (by simp [Value.ownBlock])).trans (at_two y1 (.cells #[] 3) (.cells #[.int .i64 tk] 3)).2)
                                   | have KI := hide ((hg1.block y1.heap.size (by simp; omega) (by simp [Value.ownBlock])).trans (at_two y1 (.cells #[.int .i64 tk] 3) (.cells #[] 3)).1)
                                   | have KI := hide True.intro
                                 rw [List.nil_append] at hI1
                                 obtain ⟨ao3, c3, rfl, -⟩ := hI1.slice
                                 rw [unhide HTK] at hI1 ⊢
                                 have HI1 := hide hI1
                                 clear hI1 hg1 hat1)
                              | (with_reducible refine step_appI (.tmp 111) (.tmp 116) (by with_unfolding_all rfl) (by with_unfolding_all rfl) ?_
                                 refine wp_catI (.tmp 111) (.tmp 116) (by rfl) y1.heap.size (.slice ao3 K c3) TSK (by first | exact unhide HI1 | exact (unhide HI1).below ((Below.refl _ z1).alloc (Nat.le_refl _) _) | fail) (by rfl) (some ⟨_, 0, none⟩) 1 1 [tk] (by rfl) rfl (by first | exact one_int z1 tk | exact box_int (unhide KI) | fail) (by rw [unhide HTK]; omega) (by first | exact (unhide BZ).size | exact ((unhide BZ).alloc (unhide BZ).size (.cells #[.int .i64 tk] 3)).size | fail) ?_
                                 intro v2 z2 hI2 hg2 hat2
                                 have bz2 : Below y1.heap.size y1 z2 := by
                                   first
                                     | exact (unhide BZ).grown hg2 (unhide BZ).size (fun c hc => ((unhide HI1).lt c hc).1)
                                     | exact ((unhide BZ).alloc (unhide BZ).size (.cells #[.int .i64 tk] 3)).grown hg2 ((unhide BZ).alloc (unhide BZ).size (.cells #[.int .i64 tk] 3)).size (fun c hc => ((unhide HI1).lt c hc).1)
                                     | fail
                                 obtain ⟨ao4, c4, rfl, -⟩ := hI2.slice
                                 obtain ⟨nl, hnl⟩ : ∃ nl, (TSK ++ [tk]).length = nl := ⟨_, rfl⟩
                                 rw [hnl] at hI2 ⊢
                                 clear hat2
                                 have c2' : z2.cell? ⟨p, 1, none⟩ = some (.slice ao1 n1 c1) := (three_cells (Below.stay bz2 (unhide X1))).2.1
                                 have f2' : z2.frozen? ⟨p, 1, none⟩ = false := free_of_block (Below.stay bz2 (unhide X1))
                                 have FZ := hide (And.intro bz2 hI2)
                                 clear bz2 hI2 hg2 hnl))
                            all_goals go_wp2_with fail
                            all_goals go_meet
                            all_goals exact ⟨_, _, rfl, unhide FZ⟩
                          case rest =>
                            obtain ⟨v1, z1, hwc, bz1, iz1⟩ := hcut
                            obtain ⟨y2, hy2⟩ : ∃ y2, y2 = wc := ⟨_, rfl⟩
                            subst hy2
                            have q1 := Below.stay bz1 (unhide X1)
                            have hX2 : y2.heap[p]? = some (.cells #[.int .i64 b, v1, .slice ao2 n2 c2] 32 (0, 0)) := by rw [hwc]; exact setCell_block q1
                            have hoth : ∀ c, c ≠ p → y2.heap[c]? = z1.heap[c]? := fun c hc => by rw [hwc]; exact Below.heap_setCell _ _ _ c hc
                            have sy2 : y2.heap.size = z1.heap.size := by rw [hwc]; simp [World.setCell]
                            have kpz : Kp (fun c => c = p) z1 y2 := by rw [hwc]; exact Kp.setCell (D := fun c => c = p) (p := ⟨p, 1, none⟩) (Kp.refl _ z1) rfl v1
                            have hbp : base ≤ p := unhide DL p (unhide HH).own
                            have sb1 : base ≤ y1.heap.size := Nat.le_trans hbase (unhide KPY).size
                            have sb2 : base ≤ y2.heap.size := by have := bz1.size; omega
                            have xz : XRow base z1 (.slice ao2 n2 c2) ES := by have := (unhide X2R).belowX bz1 sb1; rwa [unhide HN2] at this
                            have xy : XRow base y2 (.slice ao2 n2 c2) ES := xz.keep (fun c hc => hoth c (fun y => by
                              obtain ⟨_, _, cur, fr, hcc⟩ := xz.tag c hc
                              rw [y, q1] at hcc; cases hcc)) (kpz.below (fun c hc => by rw [hc]; exact hbp) (by omega))
                            have XB := hide (fun (Y : World) (hY : Below y2.heap.size y2 Y) => xy.belowX hY sb2)
                            have imz : InF (fun c => c < base) y2 mo e.ms := (((unhide IM).below (unhide BY)).below bz1).kp kpz (fun c hc x => by omega)
                            have IMB := hide (fun (Y : World) (hY : Below y2.heap.size y2 Y) => imz.below hY)
                            have hgp : g ≠ p := fun x => unhide FD g (unhide FG) (by rw [x]; exact (unhide HH).own)
                            have cl2 : ∀ (c : Nat) (u : Value), (e.cells (.slice mo e.ms.length mc))[c]? = some u → y2.cell? ⟨g, off + j * 6 + c, none⟩ = some u := fun c u hc => by
                              have h0 := unhide CL c u hc
                              have h1 : y1.cell? ⟨g, off + j * 6 + c, none⟩ = some u := by rw [(unhide BY).cell (blk_lt h0)]; exact h0
                              have h2 : z1.cell? ⟨g, off + j * 6 + c, none⟩ = some u := by rw [bz1.cell (blk_lt h1)]; exact h1
                              exact kpz.cell h2 hgp
                            have SX6 := hide (fun (Y : World) (hY : Below y2.heap.size y2 Y) => show Y.cell? ⟨g, off + j * 6, none⟩ = some (.int .i64 e.kind) ∧ Y.cell? ⟨g, off + j * 6 + 1, none⟩ = some (.int .i64 e.client) ∧ Y.cell? ⟨g, off + j * 6 + 2, none⟩ = some (.int .i64 e.seq) ∧ Y.cell? ⟨g, off + j * 6 + 3, none⟩ = some (.string e.text) ∧ Y.cell? ⟨g, off + j * 6 + 4, none⟩ = some (.slice mo e.ms.length mc) ∧ Y.cell? ⟨g, off + j * 6 + 5, none⟩ = some (.int .i64 e.dest) from En.six (w := Y) (fun c u hc => by rw [hY.cell (blk_lt (cl2 c u hc))]; exact cl2 c u hc))
                            have X2 := hide hX2
                            have FB1 := hide bz1
                            have FI1 := hide iz1
                            have HWC := hide hwc
                            have k2' := (three_cells hX2).2.2
                            have l0 : y2.drew.cell? ⟨p, 2, none⟩ = some (.slice ao2 n2 c2) := k2'
                            have l1 : ∀ o, (y2.alloc o).cell? ⟨p, 2, none⟩ = some (.slice ao2 n2 c2) := fun o => (three_cells (Below.stay (bd1 y2 o) hX2)).2.2
                            have l2 : ∀ o o', ((y2.alloc o).alloc o').cell? ⟨p, 2, none⟩ = some (.slice ao2 n2 c2) := fun o o' => (three_cells (Below.stay (bd2 y2 o o') hX2)).2.2
                            have sd0 : y2.drew.cell? ⟨g, off + j * 6, none⟩ = some (.int .i64 e.kind) := (unhide SX6 y2.drew (Below.refl _ _).drew).1
                            have sd1 : y2.drew.cell? ⟨g, off + j * 6 + 1, none⟩ = some (.int .i64 e.client) := (unhide SX6 y2.drew (Below.refl _ _).drew).2.1
                            have sd2 : y2.drew.cell? ⟨g, off + j * 6 + 2, none⟩ = some (.int .i64 e.seq) := (unhide SX6 y2.drew (Below.refl _ _).drew).2.2.1
                            have sd3 : y2.drew.cell? ⟨g, off + j * 6 + 3, none⟩ = some (.string e.text) := (unhide SX6 y2.drew (Below.refl _ _).drew).2.2.2.1
                            have sd4 : y2.drew.cell? ⟨g, off + j * 6 + 4, none⟩ = some (.slice mo e.ms.length mc) := (unhide SX6 y2.drew (Below.refl _ _).drew).2.2.2.2.1
                            have sd5 : y2.drew.cell? ⟨g, off + j * 6 + 5, none⟩ = some (.int .i64 e.dest) := (unhide SX6 y2.drew (Below.refl _ _).drew).2.2.2.2.2
                            have se0 : ∀ o, (y2.alloc o).cell? ⟨g, off + j * 6, none⟩ = some (.int .i64 e.kind) := fun o => (unhide SX6 _ (bd1 y2 o)).1
                            have se1 : ∀ o, (y2.alloc o).cell? ⟨g, off + j * 6 + 1, none⟩ = some (.int .i64 e.client) := fun o => (unhide SX6 _ (bd1 y2 o)).2.1
                            have se2 : ∀ o, (y2.alloc o).cell? ⟨g, off + j * 6 + 2, none⟩ = some (.int .i64 e.seq) := fun o => (unhide SX6 _ (bd1 y2 o)).2.2.1
                            have se3 : ∀ o, (y2.alloc o).cell? ⟨g, off + j * 6 + 3, none⟩ = some (.string e.text) := fun o => (unhide SX6 _ (bd1 y2 o)).2.2.2.1
                            have se4 : ∀ o, (y2.alloc o).cell? ⟨g, off + j * 6 + 4, none⟩ = some (.slice mo e.ms.length mc) := fun o => (unhide SX6 _ (bd1 y2 o)).2.2.2.2.1
                            have se5 : ∀ o, (y2.alloc o).cell? ⟨g, off + j * 6 + 5, none⟩ = some (.int .i64 e.dest) := fun o => (unhide SX6 _ (bd1 y2 o)).2.2.2.2.2
                            have sf0 : ∀ o o', ((y2.alloc o).alloc o').cell? ⟨g, off + j * 6, none⟩ = some (.int .i64 e.kind) := fun o o' => (unhide SX6 _ (bd2 y2 o o')).1
                            have sf1 : ∀ o o', ((y2.alloc o).alloc o').cell? ⟨g, off + j * 6 + 1, none⟩ = some (.int .i64 e.client) := fun o o' => (unhide SX6 _ (bd2 y2 o o')).2.1
                            have sf2 : ∀ o o', ((y2.alloc o).alloc o').cell? ⟨g, off + j * 6 + 2, none⟩ = some (.int .i64 e.seq) := fun o o' => (unhide SX6 _ (bd2 y2 o o')).2.2.1
                            have sf3 : ∀ o o', ((y2.alloc o).alloc o').cell? ⟨g, off + j * 6 + 3, none⟩ = some (.string e.text) := fun o o' => (unhide SX6 _ (bd2 y2 o o')).2.2.2.1
                            have sf4 : ∀ o o', ((y2.alloc o).alloc o').cell? ⟨g, off + j * 6 + 4, none⟩ = some (.slice mo e.ms.length mc) := fun o o' => (unhide SX6 _ (bd2 y2 o o')).2.2.2.2.1
                            have sf5 : ∀ o o', ((y2.alloc o).alloc o').cell? ⟨g, off + j * 6 + 5, none⟩ = some (.int .i64 e.dest) := fun o o' => (unhide SX6 _ (bd2 y2 o o')).2.2.2.2.2
                            have EI1 : Hid (XRow base (y2.alloc (.cells #[] 60)).drew (.slice (some ⟨y2.heap.size, 0, none⟩) 0 0) []) := (empty_ents base y2 sb2).belowX ((Below.refl _ _).drew) (by simp; omega)
                            have EI2 : Hid (XRow base ((y2.alloc (.cells #[] 60)).alloc (.cells #[.int .i64 e.kind, .int .i64 e.client, .int .i64 e.seq, .string e.text, .slice mo e.ms.length mc, .int .i64 e.dest] 60)).drew (.slice (some ⟨y2.heap.size, 0, none⟩) 0 0) []) := (empty_ents base y2 sb2).belowX (((Below.refl _ _).alloc (Nat.le_refl _) _).drew) (by simp; omega)
                            have EI3 : Hid (XRow base ((y2.alloc (.cells #[.int .i64 e.kind, .int .i64 e.client, .int .i64 e.seq, .string e.text, .slice mo e.ms.length mc, .int .i64 e.dest] 60)).alloc (.cells #[] 60)).drew (.slice (some ⟨y2.heap.size + 1, 0, none⟩) 0 0) []) := (ee_three base y2 _ sb2).belowX ((Below.refl _ _).drew) (by simp; omega)
                            clear q1 hX2 hoth sy2 kpz hbp sb1 xz xy imz hgp cl2 hwc bz1 iz1 k0 k1 k2 t1 tl1 tl2 TSB TT
                            go_upto_region 21 with fail
                            go_region_law (first
                              | (with_reducible refine step_appE (.tmp 121) (.tmp 127) (by with_unfolding_all rfl) (by with_unfolding_all rfl) ?_
                                 refine wp_catX (.tmp 121) (.tmp 127) (by rfl) base _ [] (by first | exact unhide EI1 | exact unhide EI2 | exact unhide EI3 | fail) (by rfl) ao2 n2 c2 ES (by first | exact unhide XB _ (bd1 y2 (.cells #[] 60)) | exact unhide XB _ (bd2 y2 (.cells #[] 60) (.cells #[.int .i64 e.kind, .int .i64 e.client, .int .i64 e.seq, .string e.text, .slice mo e.ms.length mc, .int .i64 e.dest] 60)) | exact unhide XB _ (bd2 y2 (.cells #[.int .i64 e.kind, .int .i64 e.client, .int .i64 e.seq, .string e.text, .slice mo e.ms.length mc, .int .i64 e.dest] 60) (.cells #[] 60)) | fail) K c2 (unhide HKE) (by rfl) (by simp; omega) (by first | exact Nat.le_trans sb2 (bd1 y2 (.cells #[] 60)).size | exact Nat.le_trans sb2 (bd2 y2 (.cells #[] 60) (.cells #[.int .i64 e.kind, .int .i64 e.client, .int .i64 e.seq, .string e.text, .slice mo e.ms.length mc, .int .i64 e.dest] 60)).size | exact Nat.le_trans sb2 (bd2 y2 (.cells #[.int .i64 e.kind, .int .i64 e.client, .int .i64 e.seq, .string e.text, .slice mo e.ms.length mc, .int .i64 e.dest] 60) (.cells #[] 60)).size | fail) ?_
                                 intro v1 z1 hI1 hg1 hat1
                                 have BZ : Hid (Below y2.heap.size y2 z1) := by
                                   first
                                     | exact bz_grown (bd1 y2 (.cells #[] 60)) hg1 (by omega)
                                     | exact bz_grown (bd2 y2 (.cells #[] 60) (.cells #[.int .i64 e.kind, .int .i64 e.client, .int .i64 e.seq, .string e.text, .slice mo e.ms.length mc, .int .i64 e.dest] 60)) hg1 (by omega)
                                     | exact bz_grown (bd2 y2 (.cells #[.int .i64 e.kind, .int .i64 e.client, .int .i64 e.seq, .string e.text, .slice mo e.ms.length mc, .int .i64 e.dest] 60) (.cells #[] 60)) hg1 (by omega)
                                     | fail
                                 have tz := unhide SX6 _ (unhide BZ)
                                 obtain ⟨tz0, tz1, tz2, tz3, tz4, tz5⟩ := tz
                                 have AT1 : Hid (∀ c, v1.ownBlock = some c → y2.heap.size ≤ c) := fun c hc => by
                                   rcases hat1 with y | y
                                   · rw [y] at hc; simp [Value.ownBlock] at hc; omega
                                   · rw [y] at hc; cases hc; first | exact (bd1 y2 (.cells #[] 60)).size | exact (bd2 y2 (.cells #[] 60) (.cells #[.int .i64 e.kind, .int .i64 e.client, .int .i64 e.seq, .string e.text, .slice mo e.ms.length mc, .int .i64 e.dest] 60)).size | exact (bd2 y2 (.cells #[.int .i64 e.kind, .int .i64 e.client, .int .i64 e.seq, .string e.text, .slice mo e.ms.length mc, .int .i64 e.dest] 60) (.cells #[] 60)).size | fail
                                 first
                                   | have KI := hide ((hg1.block (y2.heap.size + 1) (by simp) (by simp [Value.ownBlock])).trans (at_two y2 (.cells #[] 60) (.cells #[.int .i64 e.kind, .int .i64 e.client, .int .i64 e.seq, .string e.text, .slice mo e.ms.length mc, .int .i64 e.dest] 60)).2)
                                   | have KI := hide ((hg1.block y2.heap.size (by simp; omega) (by simp [Value.ownBlock])).trans (at_two y2 (.cells #[.int .i64 e.kind, .int .i64 e.client, .int .i64 e.seq, .string e.text, .slice mo e.ms.length mc, .int .i64 e.dest] 60) (.cells #[] 60)).1)
                                   | have KI := hide True.intro
                                 rw [List.nil_append] at hI1
                                 obtain ⟨ao3, c3, rfl, -⟩ := hI1.slice
                                 rw [unhide HTE] at hI1 AT1 ⊢
                                 have HI1 := hide hI1
                                 clear hI1 hg1 hat1)
                              | (with_reducible refine step_appE (.tmp 128) (.tmp 133) (by with_unfolding_all rfl) (by with_unfolding_all rfl) ?_
                                 refine wp_pushX (.tmp 128) (.tmp 133) (by rfl) base (.slice ao3 K c3) (ES.take K) (by rfl) (by first | exact unhide HI1 | exact (unhide HI1).belowX ((Below.refl _ z1).alloc (Nat.le_refl _) _) (Nat.le_trans sb2 (unhide BZ).size) | fail) _ e mo mc (by rfl) (by first | exact box_at z1 _ | exact unhide KI | fail) (by first | exact unhide IMB _ (unhide BZ) | exact unhide IMB _ ((unhide BZ).alloc (unhide BZ).size (.cells #[.int .i64 e.kind, .int .i64 e.client, .int .i64 e.seq, .string e.text, .slice mo e.ms.length mc, .int .i64 e.dest] 60)) | fail) (unhide ML) (by rw [unhide HTE]; omega) (by first | exact Nat.le_trans sb2 (unhide BZ).size | exact Nat.le_trans sb2 ((unhide BZ).alloc (unhide BZ).size (.cells #[.int .i64 e.kind, .int .i64 e.client, .int .i64 e.seq, .string e.text, .slice mo e.ms.length mc, .int .i64 e.dest] 60)).size | fail) ?_
                                 intro v2 z2 hI2 hg2 hat2
                                 have bz2 : Below y2.heap.size y2 z2 := by
                                   first
                                     | exact (unhide BZ).grown hg2 (unhide BZ).size (fun c hc => unhide AT1 c hc)
                                     | exact ((unhide BZ).alloc (unhide BZ).size (.cells #[.int .i64 e.kind, .int .i64 e.client, .int .i64 e.seq, .string e.text, .slice mo e.ms.length mc, .int .i64 e.dest] 60)).grown hg2 ((unhide BZ).alloc (unhide BZ).size (.cells #[.int .i64 e.kind, .int .i64 e.client, .int .i64 e.seq, .string e.text, .slice mo e.ms.length mc, .int .i64 e.dest] 60)).size (fun c hc => unhide AT1 c hc)
                                     | fail
                                 obtain ⟨ao4, c4, rfl, -⟩ := hI2.slice
                                 obtain ⟨nl, hnl⟩ : ∃ nl, (ES.take K ++ [e]).length = nl := ⟨_, rfl⟩
                                 rw [hnl] at hI2 hat2 ⊢
                                 have c2' : z2.cell? ⟨p, 2, none⟩ = some (.slice ao2 n2 c2) := (three_cells (Below.stay bz2 (unhide X2))).2.2
                                 have f2' : z2.frozen? ⟨p, 2, none⟩ = false := free_of_block (Below.stay bz2 (unhide X2))
                                 have at2 : ∀ c, (Value.slice ao4 nl c4).ownBlock = some c → y2.heap.size ≤ c := fun c hc => by
                                   rcases hat2 with y | y
                                   · exact unhide AT1 c (y ▸ hc)
                                   · rw [y] at hc; cases hc; first | exact (unhide BZ).size | exact ((unhide BZ).alloc (unhide BZ).size (.cells #[.int .i64 e.kind, .int .i64 e.client, .int .i64 e.seq, .string e.text, .slice mo e.ms.length mc, .int .i64 e.dest] 60)).size | fail
                                 have FZ := hide (And.intro bz2 (And.intro hI2 at2))
                                 clear bz2 hI2 hg2 hat2 at2 hnl))
                            all_goals (
                              obtain ⟨bz2, xz2, at2⟩ := unhide FZ
                              rw [unhide HWC] at bz2 at2
                              have FIN2 := hide (x_put (unhide KPY) (unhide HH).own (unhide DL) (unhide HH).lt hbase (unhide X1) (unhide FB1) (unhide FI1) bz2 xz2 at2 (unhide NX).1 (unhide NX).2)
                              clear bz2 xz2 at2 l0 l1 l2 sd0 sd1 sd2 sd3 sd4 sd5 se0 se1 se2 se3 se4 se5 sf0 sf1 sf2 sf3 sf4 sf5 k2'
                              go_wp2
                              go_roundw
                              case rel => exact ⟨j + 1, rk.take K ++ [(tk, e)], by omega, by go_num, unhide FIN0, unhide FIN1, unhide GO2, (unhide FIN2).1, (unhide FIN2).2⟩
                              case measure => simp [intOf]; omega)
                    · obtain rfl : j = m := by omega
                      have g1 := unhide GO
                      rw [List.drop_of_length_le (by rw [unhide HM]; exact Nat.le_refl _), putGo] at g1
                      subst g1
                      go_wp2
                      go_ret2
                      exact ⟨rfl, by rw [unhide HZ]; exact unhide HS, unhide KP⟩
                · have d3 : decide ((64 : Int) < i + (k : Int)) = true := decide_eq_true (by omega)
                  obtain rfl : 14 = R := by have := unhide HR4; rwa [if_neg h64] at this
                  clear HR4
                  go_wp2
                  go_ret2
                  exact ⟨rfl, ((unhide HH).below (unhide B10)).more hbase, Kp.of_below (unhide B10)⟩
  · obtain rfl : 1 = R := by have := unhide HR; rwa [if_neg (by rw [unhide HM]; exact hmn)] at this
    have e1 : ((m : Int) == (n : Int)) = false := by rw [beq_eq_false_iff_ne]; omega
    clear HR LA TE CB
    go_enter Try.func16, Try.ntmps16
    go_wp2
    go_ret2
    exact ⟨rfl, (unhide HH).more hbase, Kp.refl _ _⟩
end Go.Proofs.Ytmgdkbpbmngibaa
