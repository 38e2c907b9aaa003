/- HistLeaders: the walk. -/
import Derived.Test.YtmjiccpombkdlaaHLogs
namespace Go.Proofs.Ytmjiccpombkdlaa
open Go.RowKit Go.Maps

theorem mod3 (x : Int) : ∃ j : Nat, j < 3 ∧ x % 3 = (j : Int) := by
  have h0 := Int.emod_nonneg x (show (3 : Int) ≠ 0 by decide)
  have h1 := Int.emod_lt_of_pos x (show (0 : Int) < 3 by decide)
  exact ⟨(x % 3).toNat, by omega, by omega⟩
theorem en_ms0 {N : Nat → Prop} {base : Nat} {w : World} (s : Int) (hw : w.heap[w.heap.size - 1]? = some (.cells #[.int .i64 1, .int .i64 1, .int .i64 s, .string ⟨#[]⟩, .slice none 0 0, .int .i64 0] 60 (0, 0))) : w.heap[w.heap.size - 1]? = some (.cells ((enOf 1 1 s).cells (.slice none 0 0)).toArray 60 (0, 0)) ∧ Ir base w (.slice none 0 0) (enOf 1 1 s).ms ∧ (∀ k, (Value.slice none 0 0).ownBlock = some k → N k) :=
  ⟨hw, Ir.nil _ _, fun k e => by simp [Value.ownBlock] at e⟩

set_option maxRecDepth 20000 in
set_option maxHeartbeats 8000000 in
theorem leaders_walk (a b : Option Addr) (n m ca cb : Nat) (xs ys : List Int) (hx : xs.length = n) (hy : ys.length = m) (w : World) (ha : IntsR w a xs) (hb : IntsR w b ys) :
    Calls Try.prog 6 #[.slice a n ca, .slice b m cb] w fun e w' => e = .returned (.bool true) ∧ Below w.heap.size w w' := by
  have KN := hide (hknown_any w)
  have HA := hide ha
  have HB := hide hb
  have HX := hide hx
  have HY := hide hy
  clear ha hb hx hy
  go_enter Try.func6, Try.ntmps6
  go_wp2_with fail
  refine (unhide KN).mono ?_
  rintro e w0 ⟨rfl, b0⟩
  have B0 := hide b0
  have N0 := hide (hnew_any 0 w0)
  clear b0 KN
  go_wp2_with fail
  refine (unhide N0).mono ?_
  rintro e w1 ⟨rfl, h1, b1⟩
  have B1 := hide b1
  have H1 := hide h1
  have N1 := hide (hnew_any 0 w1)
  clear h1 b1 N0
  go_wp2_with fail
  refine (unhide N1).mono ?_
  rintro e w2 ⟨rfl, h2, b2⟩
  have B2 := hide b2
  have H2 := hide h2
  have N2 := hide (hnew_any 0 w2)
  clear h2 b2 N1
  go_wp2_with fail
  refine (unhide N2).mono ?_
  rintro e w3 ⟨rfl, h3, b3⟩
  obtain ⟨W, hW⟩ : ∃ W, w3.alloc (.cells #[.pointer (some ⟨w0.heap.size, 0, none⟩), .pointer (some ⟨w1.heap.size, 0, none⟩), .pointer (some ⟨w2.heap.size, 0, none⟩)] 26) = W := ⟨_, rfl⟩
  have bW : Below w3.heap.size w3 W := by rw [← hW]; exact (Below.refl _ w3).alloc (Nat.le_refl _) _
  have xW : W.heap[w3.heap.size]? = some (.cells #[.pointer (some ⟨w0.heap.size, 0, none⟩), .pointer (some ⟨w1.heap.size, 0, none⟩), .pointer (some ⟨w2.heap.size, 0, none⟩)] 26 (0, 0)) := by rw [← hW]; exact box_at _ _
  have b3W := below_far b3 bW
  have hlg := Logs.first (lo := w.heap.size) ((unhide H1).below (below_far (unhide B2) b3W)) ((unhide H2).below b3W) (h3.below bW) (unhide B0).size ((unhide H1).lt _ rfl) ((unhide H2).lt _ rfl) (h3.lt _ rfl) xW
  obtain ⟨ps, hps⟩ : ∃ ps, ptr3 w0.heap.size w1.heap.size w2.heap.size = ps := ⟨_, rfl⟩
  obtain ⟨Ds0, hDs0⟩ : ∃ Ds0 : Nat → Nat → Prop, (fun (j k : Nat) => k = ptr3 w0.heap.size w1.heap.size w2.heap.size j) = Ds0 := ⟨_, rfl⟩
  rw [hDs0, hps] at hlg
  obtain ⟨lb, hlb⟩ : ∃ lb, w3.heap.size = lb := ⟨_, rfl⟩
  rw [hlb] at hlg
  have LG := hide hlg
  have BW := hide (below_far (below_far (below_far (unhide B0) (unhide B1)) (unhide B2)) b3W)
  have HW := hide hW
  have hlm : LM (fun _ => []) ((0 : Nat) : Int) := ⟨fun _ => ⟨fun r hr => by simp at hr, List.Pairwise.nil, by decide⟩, fun _ r hr => by simp at hr, fun _ _ => Matches.refl _, fun _ => by decide⟩
  have LM0 := hide hlm
  clear h3 b3 N2 bW xW b3W hlg hW hlm hps hDs0 B0 B1 B2 H1 H2
  go_upto_region 4 with fail
  rw [unhide HW]
  clear HW hlb
  go_wp2_with fail
  go_loopw [7, 6, 8, 9, 10, 11, 12, 13, 14, 15, 16, 17, 18] (fun iv mv _ _ _ _ _ _ _ _ _ _ _ wr => ∃ (k : Nat) (md : Nat) (R : Nat → List Rw) (Ds : Nat → Nat → Prop), k ≤ n ∧ k ≤ m ∧ k ≤ 25 ∧ iv = .int .i64 (k : Int) ∧ mv = .int .i64 (md : Int) ∧ md ≤ 2 * k ∧ LM R (k : Int) ∧ Logs R Ds ps w.heap.size lb wr ∧ Below w.heap.size w wr) (fun iv _ _ _ _ _ _ _ _ _ _ _ _ _ => 25 - (intOf iv).toNat)
  case atStart => exact ⟨0, 0, _, _, Nat.zero_le _, Nat.zero_le _, by decide, rfl, rfl, by decide, unhide LM0, unhide LG, unhide BW⟩
  case round =>
    obtain ⟨k, md, R, Ds, hkn, hkm, hk25, rfl, rfl, hmd, hlm, hlg, hbl⟩ := hrel
    obtain ⟨wo, hwo⟩ : ∃ wo, wo = wr := ⟨_, rfl⟩
    subst hwo
    have LMH := hide hlm
    have LGH := hide hlg
    have B := hide hbl
    clear hlm hlg hbl LG BW LM0
    by_cases h1 : k < n
    · have q1 : (k : Int) < (n : Int) := by omega
      by_cases h2 : k < m
      · have q2 : (k : Int) < (m : Int) := by omega
        by_cases h3 : k < 25
        · have q3 : (k : Int) < 25 := by omega
          obtain ⟨a1, rfl, ca1⟩ := (unhide HA) k (by rw [unhide HX]; exact h1)
          obtain ⟨a2, rfl, ca2⟩ := (unhide HB) k (by rw [unhide HY]; exact h2)
          obtain ⟨x, hx⟩ : ∃ x, xs.getD k 0 = x := ⟨_, rfl⟩
          obtain ⟨y, hy⟩ : ∃ y, ys.getD k 0 = y := ⟨_, rfl⟩
          rw [hx] at ca1
          rw [hy] at ca2
          have CX := hide (fun Y (h : Below w.heap.size w Y) => show Y.cell? (a1.add k) = some (.int .i64 x) by rw [h.cell (blk_lt ca1)]; exact ca1)
          have CY := hide (fun Y (h : Below w.heap.size w Y) => show Y.cell? (a2.add k) = some (.int .i64 y) by rw [h.cell (blk_lt ca2)]; exact ca2)
          clear ca1 ca2 hx hy
          obtain ⟨ja, hja, eja⟩ := mod3 x
          have W1 := hide (within_any x 3 wo (by decide) (by decide))
          rw [eja] at W1
          have c1 := unhide CX wo (unhide B)
          have cp := (unhide LGH).cell hja
          have hj3 : (ja : Int) < 3 := by omega
          have hj30 : (0 : Int) ≤ (ja : Int) := by omega
          go_wp2_with fail
          refine (unhide W1).mono ?_
          rintro e z ⟨rfl, hw⟩
          replace hw := hw.symm
          subst hw
          clear W1 eja
          obtain ⟨c, hc, ec⟩ := mod3 y
          go_wp2_with fail
          go_loopw [10, 6, 9] (fun jv mv lv wq => ∃ (q : Nat) (N : Nat → Prop) (es : List En), q ≤ c ∧ jv = .int .i64 (q : Int) ∧ mv = .int .i64 ((md + q : Nat) : Int) ∧ ERow N wo.heap.size wq lv es ∧ es.length = q ∧ Below wo.heap.size wo wq) (fun jv _ _ _ => c - (intOf jv).toNat)
          case atStart => exact ⟨0, fun _ => False, [], Nat.zero_le _, rfl, by rw [Nat.add_zero], ERow.nil _ _ _, rfl, Below.refl _ _⟩
          case round =>
            obtain ⟨q, N, es, hqc, rfl, rfl, hE, hel, hbq⟩ := hrel
            have HE := hide hE
            have EL := hide hel
            have BQ := hide hbq
            have W1 := hide (within_any y 3 wr (by decide) (by decide))
            rw [ec] at W1
            have c2 := unhide CY wr (below_far (unhide B) hbq)
            clear hE hel hbq
            go_wp2_with fail
            refine (unhide W1).mono ?_
            rintro e z ⟨rfl, hw⟩
            replace hw := hw.symm
            subst hw
            clear W1
            by_cases hqq : q < c
            · have g1 : (q : Int) < (c : Int) := by omega
              have wr1 : IntKind.i64.wrap (((md + q : Nat) : Int) + 1) = ((md + q : Nat) : Int) + 1 := IntWalk.i64_in _ (by omega)
              obtain ⟨s, hs⟩ : ∃ s, ((md + q : Nat) : Int) + 1 = s := ⟨_, rfl⟩
              obtain ⟨V, hV⟩ : ∃ V, wr.alloc (.cells #[.int .i64 1, .int .i64 1, .int .i64 s, .string ⟨#[]⟩, .slice none 0 0, .int .i64 0] 60) = V := ⟨_, rfl⟩
              have bV : Below wr.heap.size wr V := by rw [← hV]; exact (Below.refl _ wr).alloc (Nat.le_refl _) _
              have xV : V.heap[wr.heap.size]? = some (.cells ((enOf 1 1 s).cells (.slice none 0 0)).toArray 60 (0, 0)) := by rw [← hV]; exact box_at _ _
              have EV := hide ((unhide HE).below bV)
              have XV := hide xV
              have BV := hide (below_far (unhide BQ) bV)
              have sV := (unhide BV).size
              have HV := hide hV
              have hl6 : es.length ≤ 1000000 := by rw [unhide EL]; omega
              have HS := hide hs
              rw [hs] at wr1
              have wr2 : IntKind.i64.wrap (((md + q : Nat) : Int) + 1) = s := by rw [hs]; exact wr1
              have hmdq : ((md : Int) + (q : Int) + 1) = s := by rw [← hs]; omega
              have wr3 : IntKind.i64.wrap ((md : Int) + (q : Int) + 1) = s := by rw [hmdq]; exact wr1
              clear bV xV hV hs wr1 hmdq
              go_wp2_with (rw [unhide HV]; refine wpList_pushEn rfl (.tmp 60) (.tmp 63) rfl N wo.heap.size u9 es rfl (unhide EV) wr.heap.size (enOf 1 1 s) (.slice none 0 0) rfl (unhide XV) (Ir.nil _ _) (fun j hj => by simp [Value.ownBlock] at hj) (Nat.zero_le 1000000) hl6 sV ?_)
              intro v2 z2 hE2 hg2 _
              have b2 : Below wo.heap.size wo z2 := (unhide BV).trans ((Below.refl _ V).grown hg2 sV (fun j hj => by
                obtain ⟨zs, q1, _⟩ := unhide EV
                exact (q1.lt j hj).1))
              have E2 := hide hE2
              have B2 := hide b2
              clear hE2 b2 hg2
              go_wp2
              go_roundw
              case rel => exact ⟨q + 1, N, _, by omega, by go_num, by rw [← unhide HS]; congr 1, unhide E2, by rw [List.length_append, unhide EL]; rfl, unhide B2⟩
              case measure => simp [intOf]; omega
            · obtain rfl : q = c := by omega
              obtain ⟨ao, cap, rfl, hcap, -⟩ := (unhide HE).slice
              rw [unhide EL]
              have lgr := (unhide LGH).below (unhide BQ)
              have hlx := (unhide LMH).len ja
              have fitx : Fit 0 (R ja) := ⟨by decide, by decide, by omega⟩
              have LA := hide (last_any (lgr.hs ja hja) fitx)
              obtain ⟨L, hL⟩ : ∃ L, (0 : Int) + ((R ja).length : Int) = L := ⟨_, rfl⟩
              rw [hL] at LA
              have LGR := hide lgr
              have HLX := hide hlx
              have HL := hide hL
              have FX := hide fitx
              clear lgr hlx hL fitx hcap
              have gqq : ¬ (q : Int) < (q : Int) := by omega
              go_wp2_with fail
              refine (unhide LA).mono ?_
              rintro e y1 ⟨rfl, cy1⟩
              have Y1 := hide (below_far (unhide BQ) cy1)
              have LG1 := hide ((unhide LGR).below cy1)
              have HE1 := hide ((unhide HE).below cy1)
              clear cy1 LA LGR HE gqq
              have wrL : IntKind.i64.wrap (L + (q : Int)) = L + (q : Int) := IntWalk.i64_in _ (by have := unhide HL; have := unhide HLX; omega)
              by_cases h40 : L + (q : Int) ≤ 40
              · have g40 : decide ((40 : Int) < L + (q : Int)) = false := decide_eq_false (by omega)
                obtain ⟨hno, hrw, hlm1⟩ := (unhide LMH).app ja es (by omega) (by rw [unhide EL]; have := unhide HL; omega)
                obtain ⟨X, hX⟩ : ∃ X, R ja ++ es.map (fun e => ((k : Int) + 1, e)) = X := ⟨_, rfl⟩
                rw [hX] at hrw hlm1
                rw [unhide EL] at hno
                have sz1 := (unhide Y1).size
                have AP := hide (append_any (F := fun j => wo.heap.size ≤ j ∧ j < y1.heap.size) ((unhide LG1).hs ja hja) (unhide FX) ((k : Int) + 1) ao q cap es (unhide EL) (by omega) (by have := (unhide HE1); rw [unhide EL] at this; exact this.esR) (fun j hj x => by have := ((unhide LGH).hs ja hja).lt j x; omega) (fun j hj => hj.2))
                rw [hno, hrw] at AP
                have hXl : X.length ≤ 40 := by have := hlm1.len ja; unfold upd at this; rw [if_pos rfl] at this; exact this
                have wrk : IntKind.i64.wrap ((k : Int) + 1) = (k : Int) + 1 := IntWalk.i64_in _ (by omega)
                have LM1 := hide hlm1
                clear hno hrw hlm1 hX h40 sz1
                go_wp2_with fail
                refine (unhide AP).mono ?_
                rintro e w6 ⟨rfl, h6, k6⟩
                have wlo : w.heap.size ≤ y1.heap.size := Nat.le_trans (unhide B).size (unhide Y1).size
                have b6 : Below w.heap.size w w6 := (below_far (unhide B) (unhide Y1)).trans (k6.below ((unhide LG1).low ja hja) wlo)
                have lg6 := (unhide LG1).step hja h6 k6 wlo
                obtain ⟨R1, hR1⟩ : ∃ R1, upd R ja X = R1 := ⟨_, rfl⟩
                obtain ⟨Ds1, hDs1⟩ : ∃ Ds1, upd Ds ja (News (Ds ja) y1 w6) = Ds1 := ⟨_, rfl⟩
                have hRa : R1 ja = X := by rw [← hR1]; unfold upd; rw [if_pos rfl]
                rw [hR1, hDs1] at lg6
                rw [hR1] at LM1
                have LG6 := hide lg6
                have B6 := hide b6
                have RA := hide hRa
                obtain ⟨z, hz⟩ : ∃ z, IntKind.i64.wrap (x.tdiv 3) = z := ⟨_, rfl⟩
                obtain ⟨zy, hzy⟩ : ∃ zy, IntKind.i64.wrap (y.tdiv 3) = zy := ⟨_, rfl⟩
                obtain ⟨jb, hjb, ejb⟩ := mod3 z
                have W6 := hide (within_any z 3 w6 (by decide) (by decide))
                rw [ejb] at W6
                have c6 := unhide CX w6 b6
                have p6 := lg6.cell hjb
                have hb3 : (jb : Int) < 3 := by omega
                have hb30 : (0 : Int) ≤ (jb : Int) := by omega
                clear h6 k6 wlo b6 lg6 hR1 hDs1 hRa AP LG1 HE1 LGH LMH FX
                go_wp2_with fail
                refine (unhide W6).mono ?_
                rintro e z6 ⟨rfl, hw⟩
                replace hw := hw.symm
                subst hw
                clear W6 ejb c6
                have hXa : Hid (Hs (Ds1 ja) w6 (ps ja) 0 X) := by have := (unhide LG6).hs ja hja; rw [unhide RA] at this; exact this
                have fX : Fit 0 X := ⟨by decide, by decide, by omega⟩
                have L6 := hide (last_any ((unhide hXa).below ((Below.refl _ w6).drew)) fX)
                obtain ⟨l6, hl6⟩ : ∃ l6 : Nat, X.length = l6 := ⟨_, rfl⟩
                have HL6 := hide hl6
                rw [hl6, show (0 : Int) + (l6 : Int) = (l6 : Int) by omega] at L6
                rw [hl6] at hXl
                have wr6 : IntKind.i64.wrap ((l6 : Int) + 1) = (l6 : Int) + 1 := IntWalk.i64_in _ (by omega)
                have c6 : w6.drew.cell? (a2.add k) = some (.int .i64 y) := unhide CY w6.drew (unhide B6).drew
                have hf0 := Int.emod_nonneg zy (show (l6 : Int) + 1 ≠ 0 by omega)
                have hf1 := Int.emod_lt_of_pos zy (show (0 : Int) < (l6 : Int) + 1 by omega)
                obtain ⟨f, hf⟩ : ∃ f : Nat, zy % ((l6 : Int) + 1) = (f : Int) := ⟨(zy % ((l6 : Int) + 1)).toNat, by omega⟩
                have WF := hide (fun Y => within_any zy ((l6 : Int) + 1) Y (by omega) (by omega))
                rw [hf] at WF
                have hfl : f ≤ l6 := by omega
                clear hf0 hf1 hf hl6
                go_upto_region 20 with fail
                go_cut [14] (fun v14 wc => v14 = .int .i64 (f : Int) ∧ Below w6.heap.size w6 wc)
                case first =>
                  go_region_with (first
                    | (go_at_call 31; refine (unhide L6).mono ?_; rintro e z7 ⟨rfl, d7⟩; have D7 := hide (below_far ((Below.refl _ w6).drew) d7); have c7 : z7.cell? (a2.add k) = some (.int .i64 y) := unhide CY z7 (below_far (unhide B6) (unhide D7)); clear d7)
                    | (go_at_call 11; refine (unhide WF z7).mono ?_; rintro e z8 ⟨rfl, hw⟩; replace hw := hw.symm; subst hw))
                  all_goals go_wp2_with fail
                  all_goals go_meet
                  all_goals exact ⟨rfl, unhide D7⟩
                case rest =>
                  obtain ⟨rfl, hb7⟩ := hcut
                  have B7 := hide hb7
                  have hX7 := (unhide hXa).below hb7
                  have FR := hide (from_any hX7 fX ((f : Int) + 1))
                  rw [show aheadOf 0 X ((f : Int) + 1) = f by unfold aheadOf; rw [if_neg (by omega), unhide HL6]; omega] at FR
                  have wrf : IntKind.i64.wrap ((f : Int) + 1) = (f : Int) + 1 := IntWalk.i64_in _ (by omega)
                  have HX7 := hide hX7
                  have LG7 := hide ((unhide LG6).below hb7)
                  clear hb7 hX7 L6 c6 WF hXa LG6
                  go_wp2_with fail
                  refine (unhide FR).mono ?_
                  rintro e w8 ⟨tv, ev, N8, rfl, i8, e8, b8⟩
                  obtain ⟨at8, ct8, rfl, -⟩ := i8.slice
                  obtain ⟨ae8, ce8, rfl, -⟩ := e8.slice
                  have T8 := hide (term_any ((unhide HX7).below b8) fX (f : Int))
                  have I8 := hide i8
                  have E8 := hide e8
                  have B8 := hide b8
                  clear i8 e8 b8 FR
                  go_wp2_with fail
                  refine (unhide T8).mono ?_
                  rintro e w9 ⟨rfl, b9⟩
                  have b79 := below_far (unhide B8) b9
                  have lg9 := (unhide LG7).below b79
                  have hlb1 := (unhide LM1).len jb
                  have PU := hide (put_any (F := fun j => wc.heap.size ≤ j) (lg9.hs jb hjb) ⟨by decide, by decide, by omega⟩ (by omega) (f : Int) (termOf 0 X (f : Int)) at8 (X.length - f) ct8 ((X.drop f).map (·.1)) (by rw [List.length_map, List.length_drop]) (by rw [unhide HL6]; omega) ((Ir.inF (Ir.below (unhide I8) b9)).mono (fun j hj => ((unhide I8).lt j hj).1))
                    ae8 (X.length - f) ce8 ((X.drop f).map (·.2)) (by rw [List.length_map, List.length_drop]) (by rw [unhide HL6]; omega) (((unhide E8).below b9).esR.mono (fun j hj => hj.1)) (fun j hj x => by have := ((unhide LG7).hs jb hjb).lt j x; omega))
                  have lm9 := (unhide LM1).put ja jb (f := f) (by rw [unhide RA, unhide HL6]; exact hfl)
                  rw [unhide RA] at lm9
                  have LM9 := hide lm9
                  have LG9 := hide lg9
                  have B9 := hide (below_far (below_far (unhide B6) (unhide B7)) b79)
                  obtain ⟨ts8, hts8⟩ : ∃ l, (X.drop f).map (·.1) = l := ⟨_, rfl⟩
                  obtain ⟨es8, hes8⟩ : ∃ l, (X.drop f).map (·.2) = l := ⟨_, rfl⟩
                  rw [hts8, hes8] at PU LM9
                  obtain ⟨tf, htf⟩ : ∃ tf, termOf 0 X (f : Int) = tf := ⟨_, rfl⟩
                  rw [htf] at PU LM9 ⊢
                  clear b9 b79 lg9 hlb1 lm9 T8 I8 E8 B8 hts8 hes8 htf HX7 LG7
                  go_wp2_with fail
                  refine (unhide PU).mono ?_
                  rintro e w10 ⟨rfl, h10, k10⟩
                  have wlo9 : w.heap.size ≤ w9.heap.size := (unhide B9).size
                  have b10 : Below w.heap.size w w10 := (unhide B9).trans (k10.below ((unhide LG9).low jb hjb) wlo9)
                  have lg10 := (unhide LG9).step hjb h10 k10 wlo9
                  obtain ⟨R2, hR2⟩ : ∃ R2, upd R1 jb (putRows 0 (R1 jb) (f : Int) tf ts8 es8) = R2 := ⟨_, rfl⟩
                  obtain ⟨Ds2, hDs2⟩ : ∃ Ds2, upd Ds1 jb (News (Ds1 jb) w9 w10) = Ds2 := ⟨_, rfl⟩
                  rw [hR2, hDs2] at lg10
                  rw [hR2] at LM9
                  have LG10 := hide lg10
                  have B10 := hide b10
                  have MA := hide (fun (i j : Nat) (hi : i < 3) (hj : j < 3) Y (h : Below w10.heap.size w10 Y) => match_any ((lg10.hs i hi).below h) ((lg10.hs j hj).below h) ((unhide LM9).eq i j) (by have := (unhide LM9).len i; omega) (by have := (unhide LM9).len j; omega))
                  have CP := hide (fun (j : Nat) (hj : j < 3) Y (h : Below w10.heap.size w10 Y) => (lg10.below h).cell hj)
                  clear h10 k10 b10 lg10 hR2 hDs2 PU LG9 wlo9
                  go_wp2_with fail
                  go_loopw [17, 18] (fun pv _ wr => ∃ u : Nat, u ≤ 3 ∧ pv = .int .i64 (u : Int) ∧ Below w10.heap.size w10 wr) (fun pv _ _ => 3 - (intOf pv).toNat)
                  case atStart => exact ⟨0, by decide, rfl, Below.refl _ _⟩
                  case round =>
                    obtain ⟨u, hu, rfl, hbu⟩ := hrel
                    obtain ⟨wu, hwu⟩ : ∃ wu, wu = wr := ⟨_, rfl⟩
                    subst hwu
                    have BU := hide hbu
                    clear hbu
                    by_cases hu3 : u < 3
                    · have gu : (u : Int) < 3 := by omega
                      have gu0 : (0 : Int) ≤ (u : Int) := by omega
                      go_wp2_with fail
                      go_loopw [18] (fun qv wr => ∃ v : Nat, v ≤ u ∧ qv = .int .i64 (v : Int) ∧ Below w10.heap.size w10 wr) (fun qv _ => u - (intOf qv).toNat)
                      case atStart => exact ⟨0, Nat.zero_le _, rfl, unhide BU⟩
                      case round =>
                        obtain ⟨v, hv, rfl, hbv⟩ := hrel
                        have BV := hide hbv
                        by_cases hvu : v < u
                        · have gv : (v : Int) < (u : Int) := by omega
                          have gv3 : (v : Int) < 3 := by omega
                          have gv0 : (0 : Int) ≤ (v : Int) := by omega
                          have p1 := unhide CP u hu3 wr.drew hbv.drew
                          have p2 := unhide CP v (by omega) wr.drew hbv.drew
                          have M1 := hide (unhide MA u v hu3 (by omega) wr.drew hbv.drew)
                          clear hbv
                          go_wp2_with fail
                          go_region_with (go_at_call 33; refine (unhide M1).mono ?_; rintro e z9 ⟨rfl, d9⟩; have D9 := hide (below_far (unhide BV).drew d9); clear d9)
                          all_goals clear p1 p2
                          all_goals go_wp2
                          all_goals (
                            go_roundw
                            case rel => exact ⟨v + 1, by omega, by go_num, unhide D9⟩
                            case measure => simp [intOf]; omega)
                        · obtain rfl : v = u := by omega
                          clear hbv
                          have gvv : ¬ (v : Int) < (v : Int) := by omega
                          go_wp2
                          go_roundw
                          case rel => exact ⟨v + 1, by omega, by go_num, unhide BV⟩
                          case measure => simp [intOf]; omega
                    · obtain rfl : u = 3 := by omega
                      go_wp2
                      go_roundw
                      case rel => exact ⟨k + 1, md + q, R2, Ds2, by omega, by omega, by omega, by go_num, rfl, by omega, by have := unhide LM9; rw [show ((k + 1 : Nat) : Int) = (k : Int) + 1 by omega]; exact this, (unhide LG10).below (unhide BU), below_far (unhide B10) (unhide BU)⟩
                      case measure => simp [intOf]; omega
              · have g40 : decide ((40 : Int) < L + (q : Int)) = true := decide_eq_true (by omega)
                clear h40
                go_wp2
                go_ret
                exact ⟨rfl, below_far (unhide B) (unhide Y1)⟩
        · have g3 : ¬ (k : Int) < 25 := by omega
          go_wp2
          go_ret
          exact ⟨rfl, unhide B⟩
      · have g2 : ¬ (k : Int) < (m : Int) := by omega
        go_wp2
        go_ret
        exact ⟨rfl, unhide B⟩
    · have g1 : ¬ (k : Int) < (n : Int) := by omega
      go_wp2
      go_ret
      exact ⟨rfl, unhide B⟩
end Go.Proofs.Ytmjiccpombkdlaa
