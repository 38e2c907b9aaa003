/- HistTerms: the walk. -/
import Derived.Test.YtmjiccpombkdlaaHTOk
import Derived.Test.YtmjiccpombkdlaaHCall
import Derived.Test.YtmjiccpombkdlaaHKnown
import Derived.Test.YtmjiccpombkdlaaHWithin
namespace Go.Proofs.Ytmjiccpombkdlaa
open Go.RowKit Go.Maps

set_option maxRecDepth 20000 in
set_option maxHeartbeats 4000000 in
theorem terms_walk (ao : Option Addr) (n cap : Nat) (cs : List HC) (hn : cs.length = n) (hn6 : n ≤ maxLen) (w : World) (hc : CallsR w ao cs) :
    Calls Try.prog 5 #[.slice ao n cap] w fun e w' => e = .returned (.bool true) ∧ Below w.heap.size w w' := by
  have KN := hide (hknown_any w)
  have FE := hide (fun Y (h : Below w.heap.size w Y) => few_any ao n cap cs hn hn6 Y (hc.below h))
  have HC' := hide hc
  have HN := hide hn
  clear hc hn hn6
  go_enter Try.func5, Try.ntmps5
  go_wp2_with fail
  refine (unhide KN).mono ?_
  rintro e w1 ⟨rfl, b1⟩
  have F1 := hide (unhide FE _ b1)
  have B1 := hide b1
  clear b1 KN FE
  go_wp2_with fail
  refine (unhide F1).mono ?_
  rintro e w2 ⟨⟨r, rfl, hr⟩, b2⟩
  have B2 := hide (below_far (unhide B1) b2)
  have HR := hide hr
  clear b2 F1 hr
  cases r
  · go_wp2
    go_ret
    exact ⟨rfl, unhide B2⟩
  · obtain ⟨hn60, hfew⟩ := unhide HR rfl
    rw [unhide HN] at hn60
    have HFEW := hide hfew
    have NE := hide (hnew_any 0 w2)
    clear HR hfew
    go_wp2_with fail
    refine (unhide NE).mono ?_
    rintro e w3 ⟨rfl, h3, b3⟩
    have H3 := hide h3
    have B3 := hide (below_far (unhide B2) b3)
    have S2 := hide (unhide B2).size
    clear h3 b3 NE
    go_wp2_with fail
    go_loopw [4, 5, 6] (fun iv _ _ wr => ∃ (k : Nat) (D : Nat → Prop) (rs : List Rw), k ≤ n ∧ iv = .int .i64 (k : Int) ∧ Hs D wr w2.heap.size 0 rs ∧ (∀ j, D j → w.heap.size ≤ j) ∧ TOk 0 rs ∧ Below w.heap.size w wr) (fun iv _ _ _ => n - (intOf iv).toNat)
    case atStart => exact ⟨0, _, [], Nat.zero_le _, rfl, unhide H3, fun j hj => by rw [hj]; exact unhide S2, ⟨fun r hr => by simp at hr, List.Pairwise.nil, by decide⟩, unhide B3⟩
    case round =>
      obtain ⟨k, D, rs, hk, rfl, hs, hd, hok, hb⟩ := hrel
      obtain ⟨wo, hwo⟩ : ∃ wo, wo = wr := ⟨_, rfl⟩
      subst hwo
      have HS := hide hs
      have HD := hide hd
      have OK := hide hok
      have B := hide hb
      clear hs hd hok hb
      have hrl : rs.length ≤ 64 := by have := (unhide OK).hi; omega
      have fit : Fit 0 rs := ⟨by decide, by decide, by omega⟩
      have FIT := hide fit
      clear fit
      by_cases hlt : k < n
      · obtain ⟨c, hci⟩ : ∃ c, cs[k]? = some c := ⟨_, List.getElem?_eq_getElem (by rw [unhide HN]; exact hlt)⟩
        have hfc := unhide HFEW c (List.mem_of_getElem? hci)
        obtain ⟨g, off, at', ae, ct, ce, rfl, d0, d1, d2, d3, d4, hci2⟩ := (unhide HC').at hci
        have hq : (k : Int) < (n : Int) := by omega
        rw [← (unhide B).cell (blk_lt d0)] at d0
        rw [← (unhide B).cell (blk_lt d1)] at d1
        rw [← (unhide B).cell (blk_lt d2)] at d2
        rw [← (unhide B).cell (blk_lt d3)] at d3
        rw [← (unhide B).cell (blk_lt d4)] at d4
        obtain ⟨put, index, term, terms, es⟩ := c
        simp only at d0 d1 d2 d3 d4 hci2
        have ht80 := hfc.t
        have he80 := hfc.n
        have hm30 := hfc.m
        simp only at ht80 he80 hm30
        obtain ⟨W, hW⟩ : ∃ W, wo.alloc (.cells #[.bool put, .int .i64 index, .int .i64 term, .slice at' terms.length ct, .slice ae es.length ce] 37) = W := ⟨_, rfl⟩
        have bW : Below wo.heap.size wo W := by rw [← hW]; exact (Below.refl _ wo).alloc (Nat.le_refl _) _
        have xW : W.heap[wo.heap.size]? = some (.cells #[.bool put, .int .i64 index, .int .i64 term, .slice at' terms.length ct, .slice ae es.length ce] 37 (0, 0)) := by rw [← hW]; exact box_at _ _
        have bWw := below_far (unhide B) bW
        have hT : InF (fun j => j < w.heap.size) W at' terms := (hci2.t.inF).below bWw
        have hE : EsR (fun j => j < w.heap.size) W ae es := (hci2.e.esR hm30).below bWw
        have a0 : W.cell? ⟨wo.heap.size, 0, none⟩ = some (.bool put) := (cell_of_block xW).trans rfl
        have BW := hide bWw
        have HW := hide hW
        cases put
        · have AP := hide (append_any (((unhide HS).below bW).below ((Below.refl _ W).drew)) (unhide FIT) (1 + term % 5) ae es.length ce es rfl (by omega) (hE.below ((Below.refl _ W).drew)) (fun j hj x => by have := unhide HD j x; omega) (fun j hj => Nat.lt_of_lt_of_le hj bWw.size))
          have a2 : W.drew.cell? ⟨wo.heap.size, 2, none⟩ = some (.int .i64 term) := (cell_of_block (w := W.drew) xW).trans rfl
          have a4 : W.drew.cell? ⟨wo.heap.size, 4, none⟩ = some (.slice ae es.length ce) := (cell_of_block (w := W.drew) xW).trans rfl
          have a1 := a2
          have a3 := a4
          have WI := hide (within_any term 5 W.drew (by decide) (by decide))
          have m0 := Int.emod_nonneg term (show (5 : Int) ≠ 0 by decide)
          have m1 := Int.emod_lt_of_pos term (show (0 : Int) < 5 by decide)
          have wr5 : IntKind.i64.wrap (1 + term % 5) = 1 + term % 5 := IntWalk.i64_in _ (by omega)
          clear hW bW xW bWw hT hE hci hfc hci2 m0 m1
          go_upto_region 10 with fail
          rw [unhide HW]
          go_upto_region 12 with fail
          go_region_with (first
            | (go_at_call 11; refine (unhide WI).mono ?_; rintro x w' ⟨rfl, hw⟩; replace hw := hw.symm; subst hw)
            | (go_at_call 19; refine (unhide AP).mono ?_; rintro x w5 ⟨rfl, h5, k5⟩
               have k5 : Kp D W w5 := ((Kp.refl D W).drew).trans k5 (fun _ _ x => x)))
          all_goals (
            have b5 : Below w.heap.size w w5 := (unhide BW).trans (k5.below (unhide HD) (unhide BW).size)
            obtain ⟨D5, hD5, h5'⟩ : ∃ D5 : Nat → Prop, (∀ j, D5 j → w.heap.size ≤ j) ∧ Hs D5 w5 w2.heap.size 0 (appRows 0 rs (1 + term % 5) es) := ⟨_, fun j hj => hj.elim (unhide HD j) (fun y => Nat.le_trans (unhide BW).size y.1), h5⟩
            have ok5 : TOk 0 (appRows 0 rs (1 + term % 5) es) := (unhide OK).app _ _
            obtain ⟨R, hR⟩ : ∃ R, appRows 0 rs (1 + term % 5) es = R := ⟨_, rfl⟩
            rw [hR] at h5' ok5
            have H5 := hide h5'
            have OK5 := hide ok5
            have B5 := hide b5
            have HD5 := hide hD5
            clear h5 k5 b5 h5' ok5 hD5 hR d0 d1 d2 d3 d4 a0 a1 a2 a3 a4 HS OK B FIT
            obtain ⟨L, hL⟩ : ∃ L, (0 : Int) + (R.length : Int) = L := ⟨_, rfl⟩
            have hRl : R.length ≤ 64 := by have := (unhide OK5).hi; omega
            have fit5 : Fit 0 R := ⟨by decide, by decide, by omega⟩
            have LA := hide (fun Y (h : Below w5.heap.size w5 Y) => last_any ((unhide H5).below h) fit5)
            rw [hL] at LA
            have TE := hide (fun (i : Int) Y (h : Below w5.heap.size w5 Y) => term_any ((unhide H5).below h) fit5 i)
            have HL := hide hL
            clear fit5 hL
            go_wp2_with fail
            go_loopw [6] (fun jv wq => ∃ m : Nat, 1 ≤ m ∧ m ≤ R.length + 1 ∧ jv = .int .i64 (m : Int) ∧ Below w5.heap.size w5 wq) (fun jv _ => R.length + 1 - (intOf jv).toNat)
            case atStart => exact ⟨1, Nat.le_refl _, by omega, rfl, Below.refl _ _⟩
            case round =>
              obtain ⟨m, hm1, hm2, rfl, hbm⟩ := hrel
              have L1 := hide (unhide LA _ hbm)
              have BM := hide hbm
              clear hbm
              go_wp2_with fail
              refine (unhide L1).mono ?_
              rintro e z1 ⟨rfl, c1⟩
              have A1 := hide (below_far (unhide BM) c1)
              clear c1 L1
              by_cases hml : (m : Int) ≤ L
              · have htt := (unhide OK5).at (k := (m : Int)) (by omega) (by have := unhide HL; omega)
                have T1 := hide (unhide TE (m : Int) _ (unhide A1))
                have TP := hide (unhide TE ((m : Int) - 1))
                have TM := hide (unhide TE (m : Int))
                obtain ⟨tm, htm⟩ : ∃ tm, termOf 0 R (m : Int) = tm := ⟨_, rfl⟩
                obtain ⟨tp, htp⟩ : ∃ tp, termOf 0 R ((m : Int) - 1) = tp := ⟨_, rfl⟩
                rw [htm] at htt T1 TM
                rw [htp] at htt TP
                obtain ⟨q1, q2, q3⟩ := htt
                have g1 : decide (tm < 1) = false := decide_eq_false (by omega)
                have g2 : decide (tm < tp) = false := decide_eq_false (by omega)
                have g3 : decide ((64 : Int) < (m : Int)) = false := decide_eq_false (by omega)
                have wrm : IntKind.i64.wrap ((m : Int) - 1) = (m : Int) - 1 := IntWalk.i64_in _ (by omega)
                clear htm htp q1 q2 q3
                go_wp2_with fail
                refine (unhide T1).mono ?_
                rintro e z2 ⟨rfl, c2⟩
                have A2 := hide (below_far (unhide A1) c2)
                have T2 := hide (unhide TM _ (unhide A2))
                clear c2 T1
                go_wp2_with fail
                refine (unhide T2).mono ?_
                rintro e z3 ⟨rfl, c3⟩
                have A3 := hide (below_far (unhide A2) c3)
                have T3 := hide (unhide TP _ (unhide A3))
                clear c3 T2
                go_wp2_with fail
                refine (unhide T3).mono ?_
                rintro e z4 ⟨rfl, c4⟩
                have A4 := hide (below_far (unhide A3) c4)
                clear c4 T3
                go_wp2
                go_roundw
                case rel => exact ⟨m + 1, by omega, by have := unhide HL; omega, by go_num, unhide A4⟩
                case measure => simp [intOf]; have := unhide HL; omega
              · have g4 : decide ((m : Int) ≤ L) = false := decide_eq_false hml
                clear hml
                go_wp2
                go_roundw
                case rel => exact ⟨k + 1, D5, R, by omega, by go_num, (unhide H5).below (unhide A1), unhide HD5, unhide OK5, (unhide B5).trans ((unhide A1).mono (unhide B5).size)⟩
                case measure => simp [intOf]; omega)
        · have PU := hide (put_any ((unhide HS).below bW) (unhide FIT) (by omega) index term at' terms.length ct terms rfl (by omega) hT ae es.length ce es rfl (by omega) hE (fun j hj x => by have := unhide HD j x; omega))
          have a1 : W.cell? ⟨wo.heap.size, 1, none⟩ = some (.int .i64 index) := (cell_of_block xW).trans rfl
          have a2 : W.cell? ⟨wo.heap.size, 2, none⟩ = some (.int .i64 term) := (cell_of_block xW).trans rfl
          have a3 : W.cell? ⟨wo.heap.size, 3, none⟩ = some (.slice at' terms.length ct) := (cell_of_block xW).trans rfl
          have a4 : W.cell? ⟨wo.heap.size, 4, none⟩ = some (.slice ae es.length ce) := (cell_of_block xW).trans rfl
          clear hW bW xW bWw hT hE hci hfc hci2
          go_upto_region 10 with fail
          rw [unhide HW]
          go_wp2_with fail
          refine (unhide PU).mono ?_
          rintro x w5 ⟨rfl, h5, k5⟩
          have b5 : Below w.heap.size w w5 := (unhide BW).trans (k5.below (unhide HD) (unhide BW).size)
          obtain ⟨D5, hD5, h5'⟩ : ∃ D5 : Nat → Prop, (∀ j, D5 j → w.heap.size ≤ j) ∧ Hs D5 w5 w2.heap.size 0 (putRows 0 rs index term terms es) := ⟨_, fun j hj => hj.elim (unhide HD j) (fun y => Nat.le_trans (unhide BW).size y.1), h5⟩
          have ok5 : TOk 0 (putRows 0 rs index term terms es) := (unhide OK).put _ _ _ _
          obtain ⟨R, hR⟩ : ∃ R, putRows 0 rs index term terms es = R := ⟨_, rfl⟩
          rw [hR] at h5' ok5
          have H5 := hide h5'
          have OK5 := hide ok5
          have B5 := hide b5
          have HD5 := hide hD5
          clear h5 k5 b5 h5' ok5 hD5 hR d0 d1 d2 d3 d4 a0 a1 a2 a3 a4 HS OK B FIT
          obtain ⟨L, hL⟩ : ∃ L, (0 : Int) + (R.length : Int) = L := ⟨_, rfl⟩
          have hRl : R.length ≤ 64 := by have := (unhide OK5).hi; omega
          have fit5 : Fit 0 R := ⟨by decide, by decide, by omega⟩
          have LA := hide (fun Y (h : Below w5.heap.size w5 Y) => last_any ((unhide H5).below h) fit5)
          rw [hL] at LA
          have TE := hide (fun (i : Int) Y (h : Below w5.heap.size w5 Y) => term_any ((unhide H5).below h) fit5 i)
          have HL := hide hL
          clear fit5 hL
          go_wp2_with fail
          go_loopw [6] (fun jv wq => ∃ m : Nat, 1 ≤ m ∧ m ≤ R.length + 1 ∧ jv = .int .i64 (m : Int) ∧ Below w5.heap.size w5 wq) (fun jv _ => R.length + 1 - (intOf jv).toNat)
          case atStart => exact ⟨1, Nat.le_refl _, by omega, rfl, Below.refl _ _⟩
          case round =>
            obtain ⟨m, hm1, hm2, rfl, hbm⟩ := hrel
            have L1 := hide (unhide LA _ hbm)
            have BM := hide hbm
            clear hbm
            go_wp2_with fail
            refine (unhide L1).mono ?_
            rintro e z1 ⟨rfl, c1⟩
            have A1 := hide (below_far (unhide BM) c1)
            clear c1 L1
            by_cases hml : (m : Int) ≤ L
            · have htt := (unhide OK5).at (k := (m : Int)) (by omega) (by have := unhide HL; omega)
              have T1 := hide (unhide TE (m : Int) _ (unhide A1))
              have TP := hide (unhide TE ((m : Int) - 1))
              have TM := hide (unhide TE (m : Int))
              obtain ⟨tm, htm⟩ : ∃ tm, termOf 0 R (m : Int) = tm := ⟨_, rfl⟩
              obtain ⟨tp, htp⟩ : ∃ tp, termOf 0 R ((m : Int) - 1) = tp := ⟨_, rfl⟩
              rw [htm] at htt T1 TM
              rw [htp] at htt TP
              obtain ⟨q1, q2, q3⟩ := htt
              have g1 : decide (tm < 1) = false := decide_eq_false (by omega)
              have g2 : decide (tm < tp) = false := decide_eq_false (by omega)
              have g3 : decide ((64 : Int) < (m : Int)) = false := decide_eq_false (by omega)
              have wrm : IntKind.i64.wrap ((m : Int) - 1) = (m : Int) - 1 := IntWalk.i64_in _ (by omega)
              clear htm htp q1 q2 q3
              go_wp2_with fail
              refine (unhide T1).mono ?_
              rintro e z2 ⟨rfl, c2⟩
              have A2 := hide (below_far (unhide A1) c2)
              have T2 := hide (unhide TM _ (unhide A2))
              clear c2 T1
              go_wp2_with fail
              refine (unhide T2).mono ?_
              rintro e z3 ⟨rfl, c3⟩
              have A3 := hide (below_far (unhide A2) c3)
              have T3 := hide (unhide TP _ (unhide A3))
              clear c3 T2
              go_wp2_with fail
              refine (unhide T3).mono ?_
              rintro e z4 ⟨rfl, c4⟩
              have A4 := hide (below_far (unhide A3) c4)
              clear c4 T3
              go_wp2
              go_roundw
              case rel => exact ⟨m + 1, by omega, by have := unhide HL; omega, by go_num, unhide A4⟩
              case measure => simp [intOf]; have := unhide HL; omega
            · have g4 : decide ((m : Int) ≤ L) = false := decide_eq_false hml
              clear hml
              go_wp2
              go_roundw
              case rel => exact ⟨k + 1, D5, R, by omega, by go_num, (unhide H5).below (unhide A1), unhide HD5, unhide OK5, (unhide B5).trans ((unhide A1).mono (unhide B5).size)⟩
              case measure => simp [intOf]; omega
      · obtain rfl : k = n := by omega
        have T0 := hide (fun Y (h : Below wo.heap.size wo Y) => term_any ((unhide HS).below h) (unhide FIT) 0)
        have LA := hide (fun Y (h : Below wo.heap.size wo Y) => last_any ((unhide HS).below h) (unhide FIT))
        have T1 := hide (fun Y (h : Below wo.heap.size wo Y) => term_any ((unhide HS).below h) (unhide FIT) (0 + (rs.length : Int) + 1))
        rw [show termOf 0 rs 0 = 0 by unfold termOf rowAt; rw [if_neg (by decide)]] at T0
        rw [show termOf 0 rs (0 + (rs.length : Int) + 1) = 0 by unfold termOf; rw [rowAt_none (by omega)]] at T1
        have wrl : IntKind.i64.wrap (0 + (rs.length : Int) + 1) = 0 + (rs.length : Int) + 1 := IntWalk.i64_in _ (by omega)
        obtain ⟨L, hL⟩ : ∃ L, (0 : Int) + (rs.length : Int) = L := ⟨_, rfl⟩
        rw [hL] at LA T1 wrl
        have U0 := hide (unhide T0 _ (Below.refl _ _))
        clear hL T0
        go_wp2_with fail
        refine (unhide U0).mono ?_
        rintro e z1 ⟨rfl, c1⟩
        have A1 := hide c1
        have U1 := hide (unhide LA _ c1)
        clear c1 U0
        go_wp2_with fail
        refine (unhide U1).mono ?_
        rintro e z2 ⟨rfl, c2⟩
        have A2 := hide (below_far (unhide A1) c2)
        have U2 := hide (unhide T1 _ (unhide A2))
        clear c2 U1
        go_wp2_with fail
        refine (unhide U2).mono ?_
        rintro e z3 ⟨rfl, c3⟩
        have A3 := hide (below_far (unhide A2) c3)
        clear c3 U2
        go_wp2
        go_ret
        exact ⟨rfl, below_far (unhide B) (unhide A3)⟩
end Go.Proofs.Ytmjiccpombkdlaa
