/- SealPlays: the walk. -/
import Derived.Test.YtgllokinadjiaaaGreatDoorSXPlC
import Derived.Deep.DeepCutAuto
import Derived.Deep.RegionHeld3
import Derived.Deep.QuietTactic
namespace Go.Proofs.YtgllokinadjiaaaGreatDoor
open Go.RowKit Go.Maps
open Ww (Own Bytes)
attribute [local go_sem ↓] Go.wp_at_zero Go.wp_at_succ

set_option maxRecDepth 20000 in
set_option maxHeartbeats 60000000 in
theorem plays17_walk (fn fe fb bits : Int) (xo mo ao so : Option Addr) (xn xc m mc n cap ns scap : Nat) (old new : List Int) (ss : List Stp) (ys : List Int) (hno : old.length = xn) (hnn : new.length = m) (hn : ss.length = n) (hns : ys.length = ns) (w : World) (ho : IntsR w xo old) (hw : IntsR w mo new) (hss : StpA w ao ss) (hys : IntsR w so ys) (hS : Ww.Start w) :
    Calls Tryz.prog 3 #[.agg #[.int .i64 fn, .int .i64 fe, .int .i64 fb, .slice xo xn xc, .slice mo m mc], .int .i64 bits, .slice ao n cap, .slice so ns scap] w fun e w' => e = .returned (.bool true) ∧ Below w.heap.size w w' := by
  obtain ⟨W, hW, bW, xW⟩ := boxG w fn fe fb xo mo xn xc m mc
  have C0 := hide (known_any W)
  have HA := hide (And.intro hno (And.intro hnn (And.intro ho hw)))
  have HN := hide hn
  have HNS := hide hns
  have HSS := hide hss
  have HYS := hide hys
  have HST := hide hS
  have k0 : W.cell? ⟨w.heap.size, 0, none⟩ = some (.int .i64 fn) := (cell_of_block xW).trans rfl
  have k1 : W.cell? ⟨w.heap.size, 1, none⟩ = some (.int .i64 fe) := (cell_of_block xW).trans rfl
  have k2 : W.cell? ⟨w.heap.size, 2, none⟩ = some (.int .i64 fb) := (cell_of_block xW).trans rfl
  have k3 : W.cell? ⟨w.heap.size, 3, none⟩ = some (.slice xo xn xc) := (cell_of_block xW).trans rfl
  have k4 : W.cell? ⟨w.heap.size, 4, none⟩ = some (.slice mo m mc) := (cell_of_block xW).trans rfl
  have XW := hide xW
  have HW := hide hW
  have BW := hide bW
  clear hno hnn hn hns hss hys hS ho hw xW hW bW
  go_enter Tryz.func3, Tryz.ntmps3
  go_upto_region 1 with fail
  rw [unhide HW]
  go_wp2_with fail
  refine (unhide C0).mono ?_
  rintro e w1 ⟨rfl, b1⟩
  have B1 := hide (below_far (unhide BW) b1)
  have x1 := Below.stay b1 (unhide XW)
  have j3 : w1.cell? ⟨w.heap.size, 3, none⟩ = some (.slice xo xn xc) := (cell_of_block x1).trans rfl
  have j4 : w1.cell? ⟨w.heap.size, 4, none⟩ = some (.slice mo m mc) := (cell_of_block x1).trans rfl
  have X1 := hide x1
  clear b1 x1 k0 k1 k2 k3 k4 XW BW HW C0
  have CF := few17_any xo mo xn xc m mc w1
  by_cases hf : xn < 30 ∧ m < 30
  · rw [decide_eq_true hf] at CF
    have CF' := hide CF
    obtain ⟨hxn, hmn⟩ := hf
    clear CF
    go_wp2_with fail
    refine (unhide CF').mono ?_
    rintro e w2 ⟨rfl, b2⟩
    have B2 := hide (below_far (unhide B1) b2)
    have x2 := Below.stay b2 (unhide X1)
    have i0 : w2.cell? ⟨w.heap.size, 0, none⟩ = some (.int .i64 fn) := (cell_of_block x2).trans rfl
    have i1 : w2.cell? ⟨w.heap.size, 1, none⟩ = some (.int .i64 fe) := (cell_of_block x2).trans rfl
    have i2 : w2.cell? ⟨w.heap.size, 2, none⟩ = some (.int .i64 fb) := (cell_of_block x2).trans rfl
    have i3 : w2.cell? ⟨w.heap.size, 3, none⟩ = some (.slice xo xn xc) := (cell_of_block x2).trans rfl
    have i4 : w2.cell? ⟨w.heap.size, 4, none⟩ = some (.slice mo m mc) := (cell_of_block x2).trans rfl
    have C1 := new_tells w2 fn fe fb xo mo xn xc m mc old new (unhide HA).1 (unhide HA).2.1 (by omega) (by omega) ((unhide HA).2.2.1.below (unhide B2)) ((unhide HA).2.2.2.below (unhide B2))
    have C2 := fun Y (hY : Below w.heap.size w Y) => xnew_tells Y ⟨fn, fe, fb, new⟩ xo mo xn xc m mc old (unhide HA).1 (unhide HA).2.1 (by omega) (by omega) ((unhide HA).2.2.1.below hY) ((unhide HA).2.2.2.below hY)
    simp only at C2
    obtain ⟨R, hR⟩ : ∃ R, wrongG [] fn fe fb old new = R := ⟨_, rfl⟩
    rw [hR] at C1 C2
    have C1' := hide C1
    have C2' := hide C2
    have X2 := hide x2
    clear b2 x2 j3 j4 C1 C2 hR CF' X1
    go_wp2_with fail
    refine (unhide C1').mono ?_
    rintro e w3 ⟨pv, rfl, b3⟩
    have B3 := hide (below_far (unhide B2) b3)
    have x3 := Below.stay b3 (unhide X2)
    have j0 : w3.cell? ⟨w.heap.size, 0, none⟩ = some (.int .i64 fn) := (cell_of_block x3).trans rfl
    have j1 : w3.cell? ⟨w.heap.size, 1, none⟩ = some (.int .i64 fe) := (cell_of_block x3).trans rfl
    have j2 : w3.cell? ⟨w.heap.size, 2, none⟩ = some (.int .i64 fb) := (cell_of_block x3).trans rfl
    have j3 : w3.cell? ⟨w.heap.size, 3, none⟩ = some (.slice xo xn xc) := (cell_of_block x3).trans rfl
    have j4 : w3.cell? ⟨w.heap.size, 4, none⟩ = some (.slice mo m mc) := (cell_of_block x3).trans rfl
    have X3 := hide x3
    clear b3 x3 i0 i1 i2 i3 i4 C1' X2 B2
    go_wp2_with fail
    refine (unhide C2' _ (unhide B3)).mono ?_
    rintro e w4 ⟨pv4, rfl, b4⟩
    have B4 := hide (below_far (unhide B3) b4)
    have x4 := Below.stay b4 (unhide X3)
    have i0 : w4.cell? ⟨w.heap.size, 0, none⟩ = some (.int .i64 fn) := (cell_of_block x4).trans rfl
    have i1 : w4.cell? ⟨w.heap.size, 1, none⟩ = some (.int .i64 fe) := (cell_of_block x4).trans rfl
    have i2 : w4.cell? ⟨w.heap.size, 2, none⟩ = some (.int .i64 fb) := (cell_of_block x4).trans rfl
    have X4 := hide x4
    obtain ⟨ka, hka, Wa⟩ := within17 fn 100 (by decide) (by decide)
    obtain ⟨ke, hke, We⟩ := within17 fe 2 (by decide) (by decide)
    obtain ⟨kb, hkb, Wb⟩ := within17 fb 50 (by decide) (by decide)
    have WA := hide (fun w => show Calls Tryz.prog 9 #[.int .i64 fn, .int .i64 100] w fun ev w' => ev = .returned (.int .i64 (ka : Int)) ∧ w' = w from Wa w)
    have WE := hide (fun w => show Calls Tryz.prog 9 #[.int .i64 fe, .int .i64 2] w fun ev w' => ev = .returned (.int .i64 (ke : Int)) ∧ w' = w from We w)
    have WB := hide (fun w => show Calls Tryz.prog 9 #[.int .i64 fb, .int .i64 50] w fun ev w' => ev = .returned (.int .i64 (kb : Int)) ∧ w' = w from Wb w)
    obtain ⟨ms, hPl, CPl⟩ := plain_own bits
    have CPL := hide CPl
    have PL := hide hPl
    obtain ⟨gN, hgN⟩ : ∃ x, IntKind.i64.wrap (1 + (ka : Int)) = x := ⟨_, rfl⟩
    obtain ⟨gE, hgE⟩ : ∃ x, IntKind.i64.wrap (1 + (ke : Int)) = x := ⟨_, rfl⟩
    have hgN' : 1 + (ka : Int) = gN := by rw [← hgN, IntWalk.i64_in _ (by omega)]
    have hgE' : 1 + (ke : Int) = gE := by rw [← hgE, IntWalk.i64_in _ (by omega)]
    have hgN2 : IntKind.i64.wrap gN = gN := IntWalk.i64_in _ (by omega)
    have hgE2 : IntKind.i64.wrap gE = gE := IntWalk.i64_in _ (by omega)
    have HGN : Hid (1 ≤ gN ∧ gN ≤ 100) := hide (by omega)
    have HGE : Hid (gE = 1 ∨ gE = 2) := hide (by omega)
    have HKB := hide hkb
    clear b4 x4 j0 j1 j2 j3 j4 C2' X3 B3 Wa We Wb CPl hPl hka hke hkb hgN hgE
    go_upto_region 9 with fail
    go_cut [] (fun wc => ∃ (an : Option Addr) (c : Nat), wc.heap[w.heap.size]? = some (.cells #[.int .i64 gN, .int .i64 gE, .int .i64 (kb : Int), .slice none 0 0, .slice an ms.length c] 26 (0, 0)) ∧ InF (fun k => w4.heap.size ≤ k) wc an ms ∧ Below w.heap.size w wc ∧ w4.heap.size ≤ wc.heap.size)
    case first =>
      go_region_law (first
        | (refine step_within17 (.tmp 43) 100 rfl rfl fn rfl (ka : Int) (unhide WA _) ?_)
        | (refine step_within17 (.tmp 47) 2 rfl rfl fe rfl (ke : Int) (unhide WE _) ?_)
        | (refine step_within17 (.tmp 51) 50 rfl rfl fb rfl (kb : Int) (unhide WB _) ?_)
        | (refine step_call (.tmp 53) rfl rfl _ rfl _ (unhide CPL _) ?_
           rintro r w5 ⟨an, c, rfl, hin, b5'⟩
           have b5 := (unhide B4).trans ((((Below.refl w4.heap.size w4).drew).trans b5').mono (unhide B4).size)
           have x5 : w5.heap[w.heap.size]? = some (.cells #[.int .i64 fn, .int .i64 fe, .int .i64 fb, .slice xo xn xc, .slice mo m mc] 26 (0, 0)) := Below.stay b5' (show w4.drew.heap[w.heap.size]? = _ from unhide X4)
           have z0 : w5.cell? ⟨w.heap.size, 0, none⟩ = some (.int .i64 fn) := (cell_of_block x5).trans rfl
           have z1 : w5.cell? ⟨w.heap.size, 1, none⟩ = some (.int .i64 fe) := (cell_of_block x5).trans rfl
           have z2 : w5.cell? ⟨w.heap.size, 2, none⟩ = some (.int .i64 fb) := (cell_of_block x5).trans rfl
           have z3 : w5.cell? ⟨w.heap.size, 3, none⟩ = some (.slice xo xn xc) := (cell_of_block x5).trans rfl
           have z4 : w5.cell? ⟨w.heap.size, 4, none⟩ = some (.slice mo m mc) := (cell_of_block x5).trans rfl
           have fz : ∀ i, w5.frozen? ⟨w.heap.size, i, none⟩ = false := fun i => free_of_block x5
           have X5 := hide x5
           have IN := hide hin
           have B5 := hide b5
           have S5 := hide b5'.size
           clear x5 hin b5 b5')
        | fail)
      all_goals go_wp2
      all_goals (
        go_meet
        case rel =>
          obtain ⟨U, hU⟩ : ∃ U : World, U = (((((w5.setCell ⟨w.heap.size, 0, none⟩ (.int .i64 gN)).setCell ⟨w.heap.size, 1, none⟩ (.int .i64 gE)).setCell ⟨w.heap.size, 2, none⟩ (.int .i64 (kb : Int))).setCell ⟨w.heap.size, 3, none⟩ (.slice none 0 0)).setCell ⟨w.heap.size, 4, none⟩ (.slice an ms.length c)) := ⟨_, rfl⟩
          rw [← hU]
          obtain ⟨hh, bU, kU⟩ := five_end (unhide X5) (Nat.le_refl _) (unhide B5) U hU
          have hlt : w.heap.size < w4.heap.size := heap_lt (unhide X4)
          have hKU : Kp (fun k => k = w.heap.size) w5 U := by
            rw [hU]
            exact (((((Kp.refl (fun k => k = w.heap.size) w5).setCell (p := ⟨w.heap.size, 0, none⟩) rfl _).setCell (p := ⟨w.heap.size, 1, none⟩) rfl _).setCell (p := ⟨w.heap.size, 2, none⟩) rfl _).setCell (p := ⟨w.heap.size, 3, none⟩) rfl _).setCell (p := ⟨w.heap.size, 4, none⟩) rfl _
          exact ⟨an, c, hh, (unhide IN).kp hKU (fun k hk e => by rw [e] at hk; exact absurd hk (by show ¬ w4.heap.size ≤ w.heap.size; omega)), bU, Nat.le_trans (unhide S5) hKU.size⟩)
    case rest =>
      obtain ⟨an, c, xC, inC, bC, sC⟩ := hcut
      obtain ⟨wd, hwd⟩ : ∃ wd, wd = wc := ⟨_, rfl⟩
      subst hwd
      have k0 : wd.cell? ⟨w.heap.size, 0, none⟩ = some (.int .i64 gN) := (cell_of_block xC).trans rfl
      have k1 : wd.cell? ⟨w.heap.size, 1, none⟩ = some (.int .i64 gE) := (cell_of_block xC).trans rfl
      have k2 : wd.cell? ⟨w.heap.size, 2, none⟩ = some (.int .i64 (kb : Int)) := (cell_of_block xC).trans rfl
      have k3 : wd.cell? ⟨w.heap.size, 3, none⟩ = some (.slice none 0 0) := (cell_of_block xC).trans rfl
      have k4 : wd.cell? ⟨w.heap.size, 4, none⟩ = some (.slice an ms.length c) := (cell_of_block xC).trans rfl
      have hw0 : wrongG [] gN gE (kb : Int) [] ms = 0 := wrong_pl (unhide PL) (unhide HGE) (by omega) (unhide HGN).1
      have CN := new_ok wd ⟨gN, gE, (kb : Int), ms⟩ none an 0 0 ms.length c [] rfl rfl (by omega) (by have := (unhide PL).2.1; omega) (IntsR.nil _ _) inC.ints hw0
      have CX := fun (Y : World) (hY : Below wd.heap.size wd Y) => xnew_any (fun k => k < wd.heap.size) w.heap.size Y (Nat.le_trans bC.size hY.size) ⟨gN, gE, (kb : Int), ms⟩ none an 0 0 ms.length c [] rfl rfl (by omega) (by have := (unhide PL).2.1; omega) (IntsR.nil _ _) (inC.old hY)
      simp only at CN CX
      rw [hw0] at CX
      have G0 : Hid (GoodG [⟨gN, gE, (kb : Int), ms⟩]) := hide ⟨by simp, by simp, FitG.nil.snoc hw0, fun g hg => by
        simp at hg; subst hg
        have h1 := unhide HGN; have h2 := unhide HGE; have h3 := unhide HKB
        exact ⟨⟨by show (-9223372036854775808 : Int) ≤ gN; omega, by show gN < 9223372036854775808; omega⟩, ⟨by show (-9223372036854775808 : Int) ≤ gE; omega, by show gE < 9223372036854775808; omega⟩, ⟨by show (-9223372036854775808 : Int) ≤ (kb : Int); omega, by show (kb : Int) < 9223372036854775808; omega⟩, fun y hy => by have := (unhide PL).1.2 y hy; exact ⟨by omega, by omega⟩, (unhide PL).2.1⟩⟩
      have CN' := hide CN
      have CX' := hide CX
      have XC := hide xC
      have BC := hide bC
      clear xC inC bC sC hw0 CN CX i0 i1 i2 WA WE WB CPL X4 B4 hgN' hgE' hgN2 hgE2
      go_wp2_with fail
      refine (unhide CN').mono ?_
      rintro e w5 ⟨p, D, rfl, hgs, hD, b5⟩
      have x5 := Below.stay b5 (unhide XC)
      have j0 : w5.cell? ⟨w.heap.size, 0, none⟩ = some (.int .i64 gN) := (cell_of_block x5).trans rfl
      have j1 : w5.cell? ⟨w.heap.size, 1, none⟩ = some (.int .i64 gE) := (cell_of_block x5).trans rfl
      have j2 : w5.cell? ⟨w.heap.size, 2, none⟩ = some (.int .i64 (kb : Int)) := (cell_of_block x5).trans rfl
      have j3 : w5.cell? ⟨w.heap.size, 3, none⟩ = some (.slice none 0 0) := (cell_of_block x5).trans rfl
      have j4 : w5.cell? ⟨w.heap.size, 4, none⟩ = some (.slice an ms.length c) := (cell_of_block x5).trans rfl
      have CX5 := hide (unhide CX' w5 b5)
      have HGS := hide (And.intro hgs hD)
      have B5 := hide b5
      clear x5 b5 hgs hD k0 k1 k2 k3 k4 CN' CX' XC
      go_wp2_with fail
      refine (unhide CX5).mono ?_
      rintro e w6 ⟨b6, -, hx6⟩
      obtain ⟨x, rv, rfl, hxg, hxl, hxr⟩ := hx6 rfl
      have hDl := (unhide HGS).1.lt
      have I0 : Hid (PlS w.heap.size (fun k => k < wd.heap.size) w6 p x [⟨gN, gE, (kb : Int), ms⟩] [⟨gN, gE, (kb : Int), ms⟩]) := hide ⟨⟨D, rv, (unhide HGS).1.below b6, hxg, fun k hk => Nat.le_trans (unhide BC).size ((unhide HGS).2 k hk), fun hd => by have := hDl x hd; omega, fun k hk => ⟨fun hd => by have := hDl k hd; have := (hxr k hk).1; omega, by
          obtain ⟨_, cur, fr, hc⟩ := hxg.row.tag k hk
          exact heap_lt hc⟩, fun k hk => by
          have h1 := (unhide B5).size
          have h2 := b6.size
          exact ⟨by omega, fun hd => by have := (unhide HGS).2 k hd; omega, by omega, fun e => by have := (hxr k e).1; omega⟩⟩, Nat.le_trans (unhide BC).size (Nat.le_trans (unhide B5).size b6.size)⟩
      have FW : Hid (∀ k, k < w.heap.size → k < wd.heap.size) := hide (fun k hk => Nat.lt_of_lt_of_le hk (unhide BC).size)
      have B6 := hide (((unhide BC).trans ((below_far (unhide B5) b6).mono (unhide BC).size)))
      obtain ⟨gs0, hgs0⟩ : ∃ gs, [(⟨gN, gE, (kb : Int), ms⟩ : Gn)] = gs := ⟨_, rfl⟩
      rw [hgs0] at I0 G0
      obtain ⟨F0, hF0⟩ : ∃ F : Nat → Prop, (fun k => k < wd.heap.size) = F := ⟨_, rfl⟩
      rw [hF0] at I0
      have FW0 : Hid (∀ k, k < w.heap.size → F0 k) := hide (by rw [← hF0]; exact unhide FW)
      clear b6 hx6 hxg hxl hxr hDl j0 j1 j2 j3 j4 CX5 HGS B5 BC FW hgs0 hF0
      go_wp2_with fail
      go_loopw [15, 16, 17, 18, 19, 20, 8] (fun i _ _ _ _ _ _ wr => ∃ (j : Nat) (F : Nat → Prop) (gs : List Gn), i = .int .i64 j ∧ j ≤ 70 ∧ PlS w.heap.size F wr p x gs gs ∧ GoodG gs ∧ (∀ k, k < w.heap.size → F k) ∧ Below w.heap.size w wr) (fun i _ _ _ _ _ _ _ => 70 - (intOf i).toNat)
      case atStart => exact ⟨0, F0, gs0, rfl, by omega, unhide I0, unhide G0, unhide FW0, unhide B6⟩
      case round =>
        obtain ⟨j, F, gs, rfl, hj, hp, hgd, hFw, hb⟩ := hrel
        obtain ⟨wo, hwo⟩ : ∃ wo, wo = wr := ⟨_, rfl⟩
        subst hwo
        have PS := hide hp
        have GD := hide hgd
        have FF := hide hFw
        have HB := hide hb
        clear hp hgd hFw hb
        by_cases h1 : j < n
        · by_cases h2 : j < 70
          · have q1 : (j : Int) < (n : Int) := by omega
            have q2 : (j : Int) < 70 := by omega
            have q0 : (0 : Int) ≤ (j : Int) := by omega
            obtain ⟨s, hs⟩ : ∃ s, ss[j]? = some s := ⟨_, List.getElem?_eq_getElem (by rw [unhide HN]; exact h1)⟩
            obtain ⟨g, off, ro, rc, rn, nc, rfl, c0, c1, c2, c3, c4, hro, hrn, hix, hie⟩ := (unhide HSS).at (unhide HB) hs
            obtain ⟨rl, hrl⟩ : ∃ x, s.old.length = x := ⟨_, rfl⟩
            obtain ⟨nl, hnl⟩ : ∃ x, s.new.length = x := ⟨_, rfl⟩
            obtain ⟨si, hsi⟩ : ∃ x, s.index = x := ⟨_, rfl⟩
            obtain ⟨se, hse⟩ : ∃ x, s.eng = x := ⟨_, rfl⟩
            obtain ⟨sb, hsb⟩ : ∃ x, s.bits = x := ⟨_, rfl⟩
            rw [hrl] at c3
            rw [hnl] at c4
            rw [hsi] at c0 hix
            rw [hse] at c1 hie
            rw [hsb] at c2
            obtain ⟨V, hV⟩ : ∃ V, wo.alloc (.cells #[.int .i64 si, .int .i64 se, .int .i64 sb, .slice ro rl rc, .slice rn nl nc] 40) = V := ⟨_, rfl⟩
            have bV : Below wo.heap.size wo V := by rw [← hV]; exact (Below.refl _ wo).alloc (Nat.le_refl _) _
            have xV : V.heap[wo.heap.size]? = some (.cells #[.int .i64 si, .int .i64 se, .int .i64 sb, .slice ro rl rc, .slice rn nl nc] 40 (0, 0)) := by rw [← hV]; exact box_at _ _
            have k3 : V.cell? ⟨wo.heap.size, 3, none⟩ = some (.slice ro rl rc) := (cell_of_block xV).trans rfl
            have k4 : V.cell? ⟨wo.heap.size, 4, none⟩ = some (.slice rn nl nc) := (cell_of_block xV).trans rfl
            have CF := few17_any ro rn rl rc nl nc V
            have HR := hide (And.intro hrl (And.intro hnl (And.intro hro (And.intro hrn (And.intro hix hie)))))
            have XV := hide xV
            have BV := hide bV
            have HV := hide hV
            clear hs hrl hnl hsi hse hsb hro hrn hix hie hV bV xV
            go_upto_region 18 with fail
            rw [unhide HV]
            clear c0 c1 c2 c3 c4
            by_cases hf3 : rl < 30 ∧ nl < 30
            · rw [decide_eq_true hf3] at CF
              have CF' := hide CF
              obtain ⟨hr30, hn30⟩ := hf3
              obtain ⟨ms2, hPl2, CPl2⟩ := plain_own sb
              have CPL := hide CPl2
              have PL2 := hide hPl2
              clear CF CPl2 hPl2
              go_wp2_with fail
              refine (unhide CF').mono ?_
              rintro e w3 ⟨rfl, b3⟩
              have x3 := Below.stay b3 (unhide XV)
              have k2 : w3.cell? ⟨wo.heap.size, 2, none⟩ = some (.int .i64 sb) := (cell_of_block x3).trans rfl
              have X3 := hide x3
              have B3 := hide (below_far (unhide BV) b3)
              clear b3 x3 k3 k4 CF' BV HV
              go_wp2_with fail
              refine (unhide CPL _).mono ?_
              rintro e w5 ⟨r, rfl, an2, c2, rfl, in2, b5⟩
              obtain ⟨U, hU⟩ : ∃ U, w5.alloc (.cells #[.slice none 0 0, .slice an2 ms2.length c2] 24) = U := ⟨_, rfl⟩
              have bU : Below w5.heap.size w5 U := by rw [← hU]; exact (Below.refl _ w5).alloc (Nat.le_refl _) _
              have xU : U.heap[w5.heap.size]? = some (.cells #[.slice none 0 0, .slice an2 ms2.length c2] 24 (0, 0)) := by rw [← hU]; exact box_at _ _
              have sU : U.heap.size = w5.heap.size + 1 := by rw [← hU]; simp
              have HU := hide hU
              have XU := hide xU
              have BU := hide (below_far (below_far (unhide B3) b5) bU)
              have X1 := hide (Below.stay (below_far b5 bU) (unhide X3))
              have IN2 : Hid (InF (fun k => wo.heap.size ≤ k ∧ k < U.heap.size) U an2 ms2) := hide (fun i hi => by
                obtain ⟨a, e1, e2, e3⟩ := in2 i hi
                have hlt := blk_lt e3
                rw [add_block] at hlt
                exact ⟨a, e1, ⟨Nat.le_trans (unhide B3).size e2, by omega⟩, (bU.cell (blk_lt e3)).trans e3⟩)
              have HBU := hide (Nat.le_trans (unhide B3).size b5.size)
              have XV3 := hide (Below.stay b5 (unhide X3))
              clear hU bU xU sU in2 b5 k2 X3 CPL B3 XV
              -- the last generation
              obtain ⟨l, hl, hlok⟩ := (unhide GD).last
              obtain ⟨rv, hxg⟩ := (unhide PS).xg
              obtain ⟨oo, oc, lo, lc, -, -, CN0⟩ := xnow_any hxg (by have := (unhide GD).len; omega) hl
              have CN := hide (fun (Y : World) (hY : Below wo.heap.size wo Y) => CN0 Y hY)
              unfold xgV at CN
              have FB := fun W => xfield_b l.n l.eng l.base _ _ oo lo 0 oc l.ms.length lc rfl rfl W
              obtain ⟨lb, hlb⟩ : ∃ x, l.base = x := ⟨_, rfl⟩
              obtain ⟨ln, hln⟩ : ∃ x, l.n = x := ⟨_, rfl⟩
              obtain ⟨le, hle⟩ : ∃ x, l.eng = x := ⟨_, rfl⟩
              obtain ⟨lz, hlz⟩ : ∃ x, l.ms.length = x := ⟨_, rfl⟩
              rw [hlb, hln, hle, hlz] at CN FB
              obtain ⟨k5, hk5, W5⟩ := within17 si 5 (by decide) (by decide)
              obtain ⟨k2', hk2', W2⟩ := within17 se 2 (by decide) (by decide)
              have WI := hide (fun w => show Calls Tryz.prog 9 #[.int .i64 si, .int .i64 5] w fun ev w' => ev = .returned (.int .i64 (k5 : Int)) ∧ w' = w from W5 w)
              have WJ := hide (fun w => show Calls Tryz.prog 9 #[.int .i64 se, .int .i64 2] w fun ev w' => ev = .returned (.int .i64 (k2' : Int)) ∧ w' = w from W2 w)
              obtain ⟨ix, hixx⟩ : ∃ x, IntKind.i64.wrap (lb + (k5 : Int)) = x := ⟨_, rfl⟩
              have HIX : Hid (in64 ix) := hide (by rw [← hixx]; exact in64_wrap _)
              obtain ⟨eg, heg⟩ : ∃ x, 1 + (k2' : Int) = x := ⟨_, rfl⟩
              have heg2 : IntKind.i64.wrap eg = eg := IntWalk.i64_in _ (by omega)
              have HEG : Hid (in64 eg) := hide ⟨by omega, by omega⟩
              have SX : Hid (∀ Y, Below U.heap.size U Y → (Y.cell? ⟨wo.heap.size, 0, none⟩ = some (.int .i64 si) ∧ Y.cell? ⟨wo.heap.size, 1, none⟩ = some (.int .i64 se))) := hide (fun Y hY =>
                ⟨(cell_of_block (Below.stay hY (unhide X1))).trans rfl, (cell_of_block (Below.stay hY (unhide X1))).trans rfl⟩)
              have EZ := hide ((Below.refl U.heap.size U).drew)
              have HL := hide (And.intro hl (And.intro hlok hlb))
              clear CN0 hxg hlb hln hle hlz hk5 hk2' W5 W2 hl hlok
              go_upto_region 20 with fail
              rw [unhide HU]
              go_region_held3 (fun Y => Y.cell? ⟨wo.heap.size, 0, none⟩ = some (.int .i64 si) ∧ Y.cell? ⟨wo.heap.size, 1, none⟩ = some (.int .i64 se)) (first | with_reducible exact unhide SX _ (unhide EZ) | fail)
                (first
                  | (go_at_call 11
                     refine (unhide CN _ (below_far (unhide BU) (unhide EZ))).mono ?_
                     rintro z z1 ⟨rfl, bz⟩
                     have EN := hide (below_far (unhide EZ) bz)
                     clear EZ bz; have EZ := EN; clear EN)
                  | (go_at_call_of 9 (Value.int .i64 si)
                     refine (unhide WI _).mono ?_
                     rintro z z2 ⟨rfl, hz⟩
                     replace hz := hz.symm
                     subst hz)
                  | (go_at_call_of 9 (Value.int .i64 se)
                     refine (unhide WJ _).mono ?_
                     rintro z z2 ⟨rfl, hz⟩
                     replace hz := hz.symm
                     subst hz)
                  | fail)
              have xz2 := Below.stay (unhide EZ) (unhide XU)
              have xz1 := Below.stay (unhide EZ) (unhide X1)
              have BZ := hide (below_far (unhide BU) (unhide EZ))
              have XZ2 := hide xz2
              have XZ1 := hide xz1
              have INZ : Hid (InF (fun k => F k ∨ (wo.heap.size ≤ k ∧ k < z1.heap.size)) z1 an2 ms2) := hide (((unhide IN2).below (unhide EZ)).mono (fun k hk => Or.inr ⟨hk.1, Nat.lt_of_lt_of_le hk.2 (unhide EZ).size⟩))
              clear EZ SX WI WJ CN FB IN2 XU X1 BU HU hixx heg heg2
              go_upto_if 106 with fail
              go_cut [18, 19] (fun a b wc => ∃ (ix eg : Int) (xo' mo' : Option Addr) (xn' xc' m' mc' : Nat) (old' new' : List Int), a = .int .i64 ix ∧ b = .int .i64 eg ∧ in64 ix ∧ in64 eg ∧ CfgAt F wo w5.heap.size wc xo' mo' xn' xc' m' mc' old' new')
              case first =>
                as_aux_lemma =>
                  obtain ⟨r5, hr5⟩ : ∃ r : Nat, (j : Int) % 5 = (r : Int) := ⟨((j : Int) % 5).toNat, by omega⟩
                  by_cases h5 : r5 = 4
                  · subst h5
                    have hB12 : wo.heap.size < w5.heap.size := by
                      have := heap_lt xz2
                      have h1 := unhide HBU
                      have h3 := heap_lt (unhide XV3)
                      omega
                    have SY : Hid (∀ Y : World, Y.heap[wo.heap.size]? = z1.heap[wo.heap.size]? → (Y.cell? ⟨wo.heap.size, 3, none⟩ = some (.slice ro rl rc) ∧ Y.cell? ⟨wo.heap.size, 4, none⟩ = some (.slice rn nl nc) ∧ Y.cell? ⟨wo.heap.size, 0, none⟩ = some (.int .i64 si) ∧ Y.cell? ⟨wo.heap.size, 1, none⟩ = some (.int .i64 se))) := hide (fun Y hY => by
                      have h := hY.trans (unhide XZ1)
                      exact ⟨(cell_of_block h).trans rfl, (cell_of_block h).trans rfl, (cell_of_block h).trans rfl, (cell_of_block h).trans rfl⟩)
                    have HO1 : Hid (∀ v, (z1.setCell ⟨w5.heap.size, 0, none⟩ v).heap[wo.heap.size]? = z1.heap[wo.heap.size]?) := hide (fun v => Below.heap_setCell _ _ _ _ (Nat.ne_of_lt hB12))
                    have HO2 : Hid (∀ v u, ((z1.setCell ⟨w5.heap.size, 0, none⟩ v).setCell ⟨w5.heap.size, 1, none⟩ u).heap[wo.heap.size]? = z1.heap[wo.heap.size]?) := hide (fun v u => (Below.heap_setCell _ _ _ _ (Nat.ne_of_lt hB12)).trans (unhide HO1 v))
                    have cd0 : z1.cell? ⟨w5.heap.size, 0, none⟩ = some (.slice none 0 0) := (cell_of_block xz2).trans rfl
                    have cd1 : z1.cell? ⟨w5.heap.size, 1, none⟩ = some (.slice an2 ms2.length c2) := (cell_of_block xz2).trans rfl
                    have ce0 : z1.drew.cell? ⟨w5.heap.size, 0, none⟩ = some (.slice none 0 0) := (cell_of_block (w := z1.drew) xz2).trans rfl
                    have ce1 : z1.drew.cell? ⟨w5.heap.size, 1, none⟩ = some (.slice an2 ms2.length c2) := (cell_of_block (w := z1.drew) xz2).trans rfl
                    have cg1 : ∀ v, (z1.setCell ⟨w5.heap.size, 0, none⟩ v).drew.cell? ⟨w5.heap.size, 1, none⟩ = some (.slice an2 ms2.length c2) := fun v => (cell_of_block (w := (z1.setCell ⟨w5.heap.size, 0, none⟩ v).drew) (setCell_block xz2)).trans rfl
                    have fz : ∀ i, z1.frozen? ⟨w5.heap.size, i, none⟩ = false := fun i => free_of_block xz2
                    have fz' : ∀ i, z1.drew.frozen? ⟨w5.heap.size, i, none⟩ = false := fun i => free_of_block (w := z1.drew) xz2
                    have fg : ∀ v i, (z1.setCell ⟨w5.heap.size, 0, none⟩ v).drew.frozen? ⟨w5.heap.size, i, none⟩ = false := fun v i => free_of_block (w := (z1.setCell ⟨w5.heap.size, 0, none⟩ v).drew) (setCell_block xz2)
                    clear xz1 xz2
                    go_upto_region 22 with fail
                    go_region_held3 (fun Y => Y.cell? ⟨wo.heap.size, 3, none⟩ = some (.slice ro rl rc) ∧ Y.cell? ⟨wo.heap.size, 4, none⟩ = some (.slice rn nl nc) ∧ Y.cell? ⟨wo.heap.size, 0, none⟩ = some (.int .i64 si) ∧ Y.cell? ⟨wo.heap.size, 1, none⟩ = some (.int .i64 se))
                      (first | with_reducible exact unhide SY z1.drew rfl | exact unhide SY _ (unhide HO2 _ _) | fail)
                      (fail)
                    all_goals go_wp2
                    all_goals (
                      go_meet
                      case rel =>
                        exact ⟨si, se, ro, rn, rl, rc, nl, nc, s.old, s.new, rfl, rfl, (unhide HR).2.2.2.2.1, (unhide HR).2.2.2.2.2, cfg_take (unhide XZ2) hB12 (unhide BZ) (unhide HB) (unhide FF) (unhide HR).2.2.1 (unhide HR).2.2.2.1 (unhide HR).1 (unhide HR).2.1 (by omega) (by omega)⟩)
                  · have h5' : ((r5 : Int) == 4) = false := by rw [beq_eq_false_iff_ne]; omega
                    go_wp2_with fail
                    go_meet
                    case rel => exact ⟨ix, eg, none, an2, 0, 0, ms2.length, c2, [], ms2, rfl, rfl, unhide HIX, unhide HEG, ⟨unhide XZ2, rfl, rfl, by omega, by have := (unhide PL2).2.1; omega, InF.nil _ _ _, unhide INZ, unhide BZ⟩⟩
              case rest =>
                obtain ⟨ix2, eg2, xo', mo', xn', xc', m', mc', old', new', rfl, rfl, hi6, he6, hcf⟩ := hcut
                obtain ⟨w6, hw6⟩ : ∃ w6, w6 = wc := ⟨_, rfl⟩
                subst hw6
                have hBlo : wo.heap.size < w5.heap.size := by
                  have h1 := unhide HBU
                  have h3 := heap_lt (unhide XV3)
                  omega
                obtain ⟨G, hG⟩ : ∃ G : Nat → Prop, (fun k => F k ∨ (wo.heap.size ≤ k ∧ k < w6.heap.size)) = G := ⟨_, rfl⟩
                have hio := hcf.io
                have him := hcf.im
                rw [hG] at hio him
                have P6 := (unhide PS).grow (G := G) hcf.bl (fun k hk => by rw [← hG]; exact Or.inl hk) (fun k hk => by rw [← hG] at hk; exact hk)
                have GW : Hid (∀ k, k < w.heap.size → G k) := hide (fun k hk => by rw [← hG]; exact Or.inl (unhide FF k hk))
                have hGB : G w5.heap.size := by rw [← hG]; exact Or.inr ⟨Nat.le_of_lt hBlo, heap_lt hcf.box⟩
                obtain ⟨hl, -, -⟩ := unhide HL
                obtain ⟨sn, hsn⟩ : ∃ n, sealNo gs l ix2 eg2 old' new' = n := ⟨_, rfl⟩
                obtain ⟨gs', hgs'⟩ : ∃ g, sealTo gs l ix2 eg2 old' new' = g := ⟨_, rfl⟩
                have GD6 : Hid (GoodG gs') := hide (by rw [← hgs']; exact (unhide GD).sealTo hi6 he6 old' new')
                have h60 := (unhide GD).len
                have hlo := hcf.lo; have hln := hcf.ln; have hbo := hcf.bo; have hbn := hcf.bn
                have CA := hide (fun (z : World) (hs : List Gn) (h : Mid w.heap.size G w6 z p x gs hs) => Mid.sealA h (by omega) hl ix2 eg2 xo' mo' xn' xc' m' mc' old' new' hlo hln hbo hbn hio him hsn hgs')
                have CX := hide (fun (z : World) (hs : List Gn) (h : Mid w.heap.size G w6 z p x hs gs) => Mid.sealX h (by omega) hl ix2 eg2 xo' mo' xn' xc' m' mc' old' new' hlo hln hbo hbn hio him hsn hgs')
                have ST : Hid (Mid w.heap.size G w6 w6.drew p x gs gs) := hide ⟨P6.below (Below.refl _ w6).drew, (Below.refl _ w6).drew, fun k _ => rfl⟩
                have SX : Hid (∀ Y : World, Y.heap[w5.heap.size]? = w6.heap[w5.heap.size]? → (Y.cell? ⟨w5.heap.size, 0, none⟩ = some (.slice xo' xn' xc') ∧ Y.cell? ⟨w5.heap.size, 1, none⟩ = some (.slice mo' m' mc'))) := hide (fun Y hY => by
                  have h := hY.trans hcf.box
                  exact ⟨(cell_of_block h).trans rfl, (cell_of_block h).trans rfl⟩)
                have HGB := hide hGB
                have nn : (sn != sn) = false := by simp
                have HB6 := hide ((unhide HB).trans (hcf.bl.mono (unhide HB).size))
                clear PS GD FF HB HL P6 hcf hio him hl hsn hgs' h60 hlo hln hbo hbn hGB hG HBU XV3 BZ XZ1 XZ2 INZ PL2 HIX HEG hi6 he6 hBlo
                go_upto_region 23 with fail
                go_cut [123] (fun a wc => a = .bool false ∧ Mid w.heap.size G w6 wc p x gs' gs')
                case first =>
                  as_aux_lemma =>
                    go_region_held3 (fun Y => Y.cell? ⟨w5.heap.size, 0, none⟩ = some (.slice xo' xn' xc') ∧ Y.cell? ⟨w5.heap.size, 1, none⟩ = some (.slice mo' m' mc'))
                      (first | with_reducible exact unhide SX _ ((unhide ST).same _ (unhide HGB)) | fail)
                      (first
                        | (go_at_call 12
                           refine (unhide CA _ _ (unhide ST)).mono ?_
                           rintro r y ⟨rfl, hy⟩
                           clear ST
                           have ST := hide hy
                           clear hy)
                        | (go_at_call 13
                           refine (unhide CX _ _ (unhide ST)).mono ?_
                           rintro r y ⟨rfl, hy⟩
                           clear ST
                           have ST := hide hy
                           clear hy)
                        | fail)
                    all_goals go_wp2
                    all_goals go_meet
                    all_goals exact ⟨rfl, unhide ST⟩
                case rest =>
                  obtain ⟨rfl, mid⟩ := hcut
                  obtain ⟨w7, hw7⟩ : ∃ w7, w7 = wc := ⟨_, rfl⟩
                  subst hw7
                  have PS7 := hide mid.pl
                  have B7 := hide ((unhide HB6).trans mid.bl)
                  clear mid HB6 CA CX ST SX HGB nn
                  go_upto_if 128 with fail
                  go_cut [20] (fun a wc => ∃ k : Int, a = .int .i64 k ∧ wc = w7)
                  case first =>
                    as_aux_lemma =>
                      by_cases hjs : j < ns
                      · have p1 : (j : Int) < (ns : Int) := by omega
                        obtain ⟨ac, rfl, hcw⟩ := (unhide HYS) j (by rw [unhide HNS]; exact hjs)
                        have cc1 := ((unhide B7).cell (blk_lt hcw)).trans hcw
                        clear hcw
                        go_wp2
                        go_meet
                        exact ⟨_, rfl, rfl⟩
                      · have p1 : ¬ (j : Int) < (ns : Int) := by omega
                        go_wp2
                        go_meet
                        exact ⟨_, rfl, rfl⟩
                  case rest =>
                  obtain ⟨k, rfl, hwc⟩ := hcut
                  replace hwc := hwc.symm
                  subst hwc
                  obtain ⟨n7, hn7⟩ : ∃ n, gs'.length = n := ⟨_, rfl⟩
                  obtain ⟨lN, gn1, ge1, gb1, z1', oo1, mx1, oc1, mc1, e1, e2, e3, e4, hz1, hmx, CN⟩ := ans_now (unhide PS7) (unhide GD6)
                  obtain ⟨lA, gn2, ge2, gb2, z2', f1, f2, f3, f4, hz2, CT⟩ := ans_at (unhide PS7) (unhide GD6) k
                  obtain ⟨ao7, cap7, hx7, CL⟩ := ans_all (unhide PS7) (unhide GD6) hn7
                  obtain ⟨fc, CF⟩ := ans_fence (unhide PS7) (unhide GD6) k
                  obtain ⟨nb, hnb, CV⟩ := ans_save (unhide PS7) (unhide GD6) ((unhide HST).upto (unhide B7) (unhide HST).2.2)
                  obtain ⟨zs, hzs⟩ : ∃ z, Ww.str (saveBytes gs') = z := ⟨_, rfl⟩
                  have CN1 := hide (fun Y hY => (CN Y hY).1)
                  have CN2 := hide (fun Y hY => (CN Y hY).2)
                  have CT1 := hide (fun Y hY => (CT Y hY).1)
                  have CT2 := hide (fun Y hY => (CT Y hY).2)
                  have CL1 := hide (fun Y hY => (CL Y hY).1)
                  have CL2 := hide (fun Y hY => (CL Y hY).2)
                  have CF1 := hide (fun Y hY => (CF Y hY).1)
                  have CF2 := hide (fun Y hY => (CF Y hY).2)
                  have CV1 := hide (fun Y hY => (CV Y hY).1)
                  have CV2 := hide (fun Y hY => (CV Y hY).2)
                  have CSN := hide (fun (Y : World) (b : Option Addr) (bc : Nat) (hb : IntsR Y b lN.ms) (hY : Below w7.heap.size w7 Y) => ans_same lN e1 e2 e3 e4 hz1 Y b oo1 mx1 bc oc1 mc1 hb (hmx.below hY))
                  have CSA := hide (fun (Y : World) (b oo mx : Option Addr) (bc oc mc : Nat) (hb : IntsR Y b lA.ms) (hx : IntsR Y mx lA.ms) => ans_same lA f1 f2 f3 f4 hz2 Y b oo mx bc oc mc hb hx)
                  have HZS := hide hzs
                  have nf : (fc != fc) = false := by simp
                  have SX : Hid (∀ Y : World, Below w7.heap.size w7 Y → Y.cell? ⟨x, 0, none⟩ = some (.slice ao7 n7 cap7)) := hide (fun Y hY => (hY.cell (blk_lt hx7)).trans hx7)
                  have EZ := hide ((Below.refl w7.heap.size w7).drew)
                  clear hn7 e1 e2 e3 e4 hz1 hmx CN f1 f2 f3 f4 hz2 CT hx7 CL CF hnb CV hzs
                  go_upto_region 28 with fail
                  go_cut [176] (fun a wc => a = .bool false ∧ Below w7.heap.size w7 wc)
                  case first =>
                    refine wp_region_noPanic ?_
                    refine wp_region_held_drew (S := (fun Y => Y.cell? ⟨x, 0, none⟩ = some (.slice ao7 n7 cap7))) (by as_aux_lemma => kernel_rfl) (unhide SX _ (unhide EZ)) (fun hHeld => ?_)
                    refine wpAnyH_take (i := 0) (v := ?_) rfl (by as_aux_lemma => kernel_rfl) (by as_aux_lemma => kernel_rfl) (by as_aux_lemma => kernel_rfl) (fun _ _ _ h => h) (Or.inl ⟨by rfl, ?_⟩) (by assumption) ?_
                    rotate_left 1
                    · intro Y hY
                      (try dsimp only at hY)
                      go_simp
                      all_goals with_reducible rfl
                    (try dsimp only [Act.put])
                    try simp only [List.setIfInBounds_toArray]
                    refine wpAnyH_take (i := 2) (v := ?_) rfl (by as_aux_lemma => kernel_rfl) (by as_aux_lemma => kernel_rfl) (by as_aux_lemma => kernel_rfl) (fun _ _ _ h => h) (Or.inl ⟨by rfl, ?_⟩) (by assumption) ?_
                    rotate_left 1
                    · intro Y hY
                      (try dsimp only at hY)
                      go_simp
                      all_goals with_reducible rfl
                    (try dsimp only [Act.put])
                    try simp only [Act.put, List.setIfInBounds_toArray, List.set_cons_zero, List.set_cons_succ]
                    refine wpAnyH_ready (rs := [1]) (by as_aux_lemma => kernel_rfl) (by simp) ?_
                    refine AllReadyH.cons rfl (fun K hK => ?_) ?_
                    · go_simp
                      refine (unhide CN1 _ (unhide EZ)).mono ?_
                      rintro r z ⟨b1, c1, rfl, hi, bz⟩
                      have NI := hide hi
                      clear hi
                      have EN := hide (below_far (unhide EZ) bz)
                      clear EZ
                      have EZ := EN
                      clear EN bz
                      try go_wp2_with fail
                      refine hK.out _ _ ?_ (fun hHeld => ?_)
                      · with_reducible exact unhide SX _ (unhide EZ)
                      clear hK K
                      try simp only [Act.put, List.setIfInBounds_toArray, List.set_cons_zero, List.set_cons_succ]
                      refine wpAnyH_ready (rs := [3]) (by as_aux_lemma => kernel_rfl) (by simp) ?_
                      refine AllReadyH.cons rfl (fun K hK => ?_) ?_
                      · go_simp
                        refine (unhide CN2 _ (unhide EZ)).mono ?_
                        rintro r z ⟨rfl, bz⟩
                        have NJ := hide ((unhide NI).below bz)
                        clear NI
                        have EN := hide (below_far (unhide EZ) bz)
                        clear EZ
                        have EZ := EN
                        clear EN bz
                        try go_wp2_with fail
                        refine hK.out _ _ ?_ (fun hHeld => ?_)
                        · with_reducible exact unhide SX _ (unhide EZ)
                        clear hK K
                        try simp only [Act.put, List.setIfInBounds_toArray, List.set_cons_zero, List.set_cons_succ]
                        refine wpAnyH_ready (rs := [4]) (by as_aux_lemma => kernel_rfl) (by simp) ?_
                        refine AllReadyH.cons rfl (fun K hK => ?_) ?_
                        · go_simp
                          refine (unhide CSN _ _ _ (unhide NJ) (unhide EZ)).mono ?_
                          rintro r z ⟨rfl, bz⟩
                          clear NJ
                          have EN := hide (below_far (unhide EZ) bz)
                          clear EZ
                          have EZ := EN
                          clear EN bz
                          try go_wp2_with fail
                          refine hK.out _ _ ?_ (fun hHeld => ?_)
                          · with_reducible exact unhide SX _ (unhide EZ)
                          clear hK K
                          try simp only [Act.put, List.setIfInBounds_toArray, List.set_cons_zero, List.set_cons_succ]
                          refine wpAnyH_take (i := 5) (v := ?_) rfl (by as_aux_lemma => kernel_rfl) (by as_aux_lemma => kernel_rfl) (by as_aux_lemma => kernel_rfl) (fun _ _ _ h => h) (Or.inl ⟨by rfl, ?_⟩) (by assumption) ?_
                          rotate_left 1
                          · intro Y hY
                            (try dsimp only at hY)
                            go_simp
                            all_goals with_reducible rfl
                          (try dsimp only [Act.put])
                          try simp only [List.setIfInBounds_toArray]
                          refine wpAnyH_take (i := 6) (v := ?_) rfl (by as_aux_lemma => kernel_rfl) (by as_aux_lemma => kernel_rfl) (by as_aux_lemma => kernel_rfl) (fun _ _ _ h => h) (Or.inl ⟨by rfl, ?_⟩) (by assumption) ?_
                          rotate_left 1
                          · intro Y hY
                            (try dsimp only at hY)
                            go_simp
                            all_goals with_reducible rfl
                          (try dsimp only [Act.put])
                          try simp only [Act.put, List.setIfInBounds_toArray, List.set_cons_zero, List.set_cons_succ]
                          refine wpAnyH_take (i := 7) (v := ?_) rfl (by as_aux_lemma => kernel_rfl) (by as_aux_lemma => kernel_rfl) (by as_aux_lemma => kernel_rfl) (fun _ _ _ h => h) (Or.inl ⟨by rfl, ?_⟩) (by assumption) ?_
                          rotate_left 1
                          · intro Y hY
                            (try dsimp only at hY)
                            go_simp
                            all_goals with_reducible rfl
                          (try dsimp only [Act.put])
                          try simp only [Act.put, List.setIfInBounds_toArray, List.set_cons_zero, List.set_cons_succ]
                          refine wpAnyH_take (i := 9) (v := ?_) rfl (by as_aux_lemma => kernel_rfl) (by as_aux_lemma => kernel_rfl) (by as_aux_lemma => kernel_rfl) (fun _ _ _ h => h) (Or.inl ⟨by rfl, ?_⟩) (by assumption) ?_
                          rotate_left 1
                          · intro Y hY
                            (try dsimp only at hY)
                            go_simp
                            all_goals with_reducible rfl
                          (try dsimp only [Act.put])
                          try simp only [Act.put, List.setIfInBounds_toArray, List.set_cons_zero, List.set_cons_succ]
                          refine wpAnyH_take (i := 10) (v := ?_) rfl (by as_aux_lemma => kernel_rfl) (by as_aux_lemma => kernel_rfl) (by as_aux_lemma => kernel_rfl) (fun _ _ _ h => h) (Or.inl ⟨by rfl, ?_⟩) (by assumption) ?_
                          rotate_left 1
                          · intro Y hY
                            (try dsimp only at hY)
                            go_simp
                            all_goals with_reducible rfl
                          (try dsimp only [Act.put])
                          try simp only [Act.put, List.setIfInBounds_toArray, List.set_cons_zero, List.set_cons_succ]
                          refine wpAnyH_take (i := 11) (v := ?_) rfl (by as_aux_lemma => kernel_rfl) (by as_aux_lemma => kernel_rfl) (by as_aux_lemma => kernel_rfl) (fun _ _ _ h => h) (Or.inl ⟨by rfl, ?_⟩) (by assumption) ?_
                          rotate_left 1
                          · intro Y hY
                            (try dsimp only at hY)
                            go_simp
                            all_goals with_reducible rfl
                          (try dsimp only [Act.put])
                          try simp only [Act.put, List.setIfInBounds_toArray, List.set_cons_zero, List.set_cons_succ]
                          refine wpAnyH_take (i := 12) (v := ?_) rfl (by as_aux_lemma => kernel_rfl) (by as_aux_lemma => kernel_rfl) (by as_aux_lemma => kernel_rfl) (fun _ _ _ h => h) (Or.inl ⟨by rfl, ?_⟩) (by assumption) ?_
                          rotate_left 1
                          · intro Y hY
                            (try dsimp only at hY)
                            go_simp
                            all_goals with_reducible rfl
                          (try dsimp only [Act.put])
                          try simp only [Act.put, List.setIfInBounds_toArray, List.set_cons_zero, List.set_cons_succ]
                          refine wpAnyH_ready (rs := [8]) (by as_aux_lemma => kernel_rfl) (by simp) ?_
                          refine AllReadyH.cons rfl (fun K hK => ?_) ?_
                          · go_simp
                            refine (unhide CL1 _ (unhide EZ)).mono ?_
                            rintro r z ⟨b2, c2, rfl, hi, bz⟩
                            have GI := hide hi
                            clear hi
                            have EN := hide (below_far (unhide EZ) bz)
                            clear EZ
                            have EZ := EN
                            clear EN bz
                            try go_wp2_with fail
                            refine hK.out _ _ ?_ (fun hHeld => ?_)
                            · with_reducible exact unhide SX _ (unhide EZ)
                            clear hK K
                            try simp only [Act.put, List.setIfInBounds_toArray, List.set_cons_zero, List.set_cons_succ]
                            refine wpAnyH_ready (rs := [13]) (by as_aux_lemma => kernel_rfl) (by simp) ?_
                            refine AllReadyH.cons rfl (fun K hK => ?_) ?_
                            · go_simp
                              refine (unhide CL2 _ (unhide EZ) _ _ (unhide GI)).mono ?_
                              rintro r z ⟨rfl, bz⟩
                              clear GI
                              have EN := hide (below_far (unhide EZ) bz)
                              clear EZ
                              have EZ := EN
                              clear EN bz
                              try go_wp2_with fail
                              refine hK.out _ _ ?_ (fun hHeld => ?_)
                              · with_reducible exact unhide SX _ (unhide EZ)
                              clear hK K
                              try simp only [Act.put, List.setIfInBounds_toArray, List.set_cons_zero, List.set_cons_succ]
                              refine wpAnyH_take (i := 14) (v := ?_) rfl (by as_aux_lemma => kernel_rfl) (by as_aux_lemma => kernel_rfl) (by as_aux_lemma => kernel_rfl) (fun _ _ _ h => h) (Or.inl ⟨by rfl, ?_⟩) (by assumption) ?_
                              rotate_left 1
                              · intro Y hY
                                (try dsimp only at hY)
                                go_simp
                                all_goals with_reducible rfl
                              (try dsimp only [Act.put])
                              try simp only [List.setIfInBounds_toArray]
                              refine wpAnyH_take (i := 15) (v := ?_) rfl (by as_aux_lemma => kernel_rfl) (by as_aux_lemma => kernel_rfl) (by as_aux_lemma => kernel_rfl) (fun _ _ _ h => h) (Or.inl ⟨by rfl, ?_⟩) (by assumption) ?_
                              rotate_left 1
                              · intro Y hY
                                (try dsimp only at hY)
                                go_simp
                                all_goals with_reducible rfl
                              (try dsimp only [Act.put])
                              try simp only [Act.put, List.setIfInBounds_toArray, List.set_cons_zero, List.set_cons_succ]
                              refine wpAnyH_take (i := 16) (v := ?_) rfl (by as_aux_lemma => kernel_rfl) (by as_aux_lemma => kernel_rfl) (by as_aux_lemma => kernel_rfl) (fun _ _ _ h => h) (Or.inl ⟨by rfl, ?_⟩) (by assumption) ?_
                              rotate_left 1
                              · intro Y hY
                                (try dsimp only at hY)
                                go_simp
                                all_goals with_reducible rfl
                              (try dsimp only [Act.put])
                              try simp only [Act.put, List.setIfInBounds_toArray, List.set_cons_zero, List.set_cons_succ]
                              refine wpAnyH_take (i := 17) (v := ?_) rfl (by as_aux_lemma => kernel_rfl) (by as_aux_lemma => kernel_rfl) (by as_aux_lemma => kernel_rfl) (fun _ _ _ h => h) (Or.inl ⟨by rfl, ?_⟩) (by assumption) ?_
                              rotate_left 1
                              · intro Y hY
                                (try dsimp only at hY)
                                go_simp
                                all_goals with_reducible rfl
                              (try dsimp only [Act.put])
                              try simp only [Act.put, List.setIfInBounds_toArray, List.set_cons_zero, List.set_cons_succ]
                              refine wpAnyH_take (i := 18) (v := ?_) rfl (by as_aux_lemma => kernel_rfl) (by as_aux_lemma => kernel_rfl) (by as_aux_lemma => kernel_rfl) (fun _ _ _ h => h) (Or.inl ⟨by rfl, ?_⟩) (by assumption) ?_
                              rotate_left 1
                              · intro Y hY
                                (try dsimp only at hY)
                                go_simp
                                all_goals with_reducible rfl
                              (try dsimp only [Act.put])
                              try simp only [Act.put, List.setIfInBounds_toArray, List.set_cons_zero, List.set_cons_succ]
                              refine wpAnyH_take (i := 20) (v := ?_) rfl (by as_aux_lemma => kernel_rfl) (by as_aux_lemma => kernel_rfl) (by as_aux_lemma => kernel_rfl) (fun _ _ _ h => h) (Or.inl ⟨by rfl, ?_⟩) (by assumption) ?_
                              rotate_left 1
                              · intro Y hY
                                (try dsimp only at hY)
                                go_simp
                                all_goals with_reducible rfl
                              (try dsimp only [Act.put])
                              try simp only [Act.put, List.setIfInBounds_toArray, List.set_cons_zero, List.set_cons_succ]
                              refine wpAnyH_take (i := 21) (v := ?_) rfl (by as_aux_lemma => kernel_rfl) (by as_aux_lemma => kernel_rfl) (by as_aux_lemma => kernel_rfl) (fun _ _ _ h => h) (Or.inl ⟨by rfl, ?_⟩) (by assumption) ?_
                              rotate_left 1
                              · intro Y hY
                                (try dsimp only at hY)
                                go_simp
                                all_goals with_reducible rfl
                              (try dsimp only [Act.put])
                              try simp only [Act.put, List.setIfInBounds_toArray, List.set_cons_zero, List.set_cons_succ]
                              refine wpAnyH_ready (rs := [19]) (by as_aux_lemma => kernel_rfl) (by simp) ?_
                              refine AllReadyH.cons rfl (fun K hK => ?_) ?_
                              · go_simp
                                refine (unhide CT1 _ (unhide EZ)).mono ?_
                                rintro r z ⟨b3, c3, rfl, hi, bz⟩
                                have AI := hide hi
                                clear hi
                                have EN := hide (below_far (unhide EZ) bz)
                                clear EZ
                                have EZ := EN
                                clear EN bz
                                try go_wp2_with fail
                                refine hK.out _ _ ?_ (fun hHeld => ?_)
                                · with_reducible exact unhide SX _ (unhide EZ)
                                clear hK K
                                try simp only [Act.put, List.setIfInBounds_toArray, List.set_cons_zero, List.set_cons_succ]
                                refine wpAnyH_ready (rs := [22]) (by as_aux_lemma => kernel_rfl) (by simp) ?_
                                refine AllReadyH.cons rfl (fun K hK => ?_) ?_
                                · go_simp
                                  refine (unhide CT2 _ (unhide EZ)).mono ?_
                                  rintro r z ⟨o4, oc4, b4, c4, rfl, hi, bz⟩
                                  have AJ := hide ((unhide AI).below bz)
                                  clear AI
                                  have AX := hide hi
                                  clear hi
                                  have EN := hide (below_far (unhide EZ) bz)
                                  clear EZ
                                  have EZ := EN
                                  clear EN bz
                                  try go_wp2_with fail
                                  refine hK.out _ _ ?_ (fun hHeld => ?_)
                                  · with_reducible exact unhide SX _ (unhide EZ)
                                  clear hK K
                                  try simp only [Act.put, List.setIfInBounds_toArray, List.set_cons_zero, List.set_cons_succ]
                                  refine wpAnyH_ready (rs := [23]) (by as_aux_lemma => kernel_rfl) (by simp) ?_
                                  refine AllReadyH.cons rfl (fun K hK => ?_) ?_
                                  · go_simp
                                    refine (unhide CSA _ _ _ _ _ _ _ (unhide AJ) (unhide AX)).mono ?_
                                    rintro r z ⟨rfl, bz⟩
                                    clear AJ AX
                                    have EN := hide (below_far (unhide EZ) bz)
                                    clear EZ
                                    have EZ := EN
                                    clear EN bz
                                    try go_wp2_with fail
                                    refine hK.out _ _ ?_ (fun hHeld => ?_)
                                    · with_reducible exact unhide SX _ (unhide EZ)
                                    clear hK K
                                    try simp only [Act.put, List.setIfInBounds_toArray, List.set_cons_zero, List.set_cons_succ]
                                    refine wpAnyH_take (i := 24) (v := ?_) rfl (by as_aux_lemma => kernel_rfl) (by as_aux_lemma => kernel_rfl) (by as_aux_lemma => kernel_rfl) (fun _ _ _ h => h) (Or.inl ⟨by rfl, ?_⟩) (by assumption) ?_
                                    rotate_left 1
                                    · intro Y hY
                                      (try dsimp only at hY)
                                      go_simp
                                      all_goals with_reducible rfl
                                    (try dsimp only [Act.put])
                                    try simp only [List.setIfInBounds_toArray]
                                    refine wpAnyH_take (i := 25) (v := ?_) rfl (by as_aux_lemma => kernel_rfl) (by as_aux_lemma => kernel_rfl) (by as_aux_lemma => kernel_rfl) (fun _ _ _ h => h) (Or.inl ⟨by rfl, ?_⟩) (by assumption) ?_
                                    rotate_left 1
                                    · intro Y hY
                                      (try dsimp only at hY)
                                      go_simp
                                      all_goals with_reducible rfl
                                    (try dsimp only [Act.put])
                                    try simp only [Act.put, List.setIfInBounds_toArray, List.set_cons_zero, List.set_cons_succ]
                                    refine wpAnyH_take (i := 26) (v := ?_) rfl (by as_aux_lemma => kernel_rfl) (by as_aux_lemma => kernel_rfl) (by as_aux_lemma => kernel_rfl) (fun _ _ _ h => h) (Or.inl ⟨by rfl, ?_⟩) (by assumption) ?_
                                    rotate_left 1
                                    · intro Y hY
                                      (try dsimp only at hY)
                                      go_simp
                                      all_goals with_reducible rfl
                                    (try dsimp only [Act.put])
                                    try simp only [Act.put, List.setIfInBounds_toArray, List.set_cons_zero, List.set_cons_succ]
                                    refine wpAnyH_take (i := 27) (v := ?_) rfl (by as_aux_lemma => kernel_rfl) (by as_aux_lemma => kernel_rfl) (by as_aux_lemma => kernel_rfl) (fun _ _ _ h => h) (Or.inl ⟨by rfl, ?_⟩) (by assumption) ?_
                                    rotate_left 1
                                    · intro Y hY
                                      (try dsimp only at hY)
                                      go_simp
                                      all_goals with_reducible rfl
                                    (try dsimp only [Act.put])
                                    try simp only [Act.put, List.setIfInBounds_toArray, List.set_cons_zero, List.set_cons_succ]
                                    refine wpAnyH_take (i := 28) (v := ?_) rfl (by as_aux_lemma => kernel_rfl) (by as_aux_lemma => kernel_rfl) (by as_aux_lemma => kernel_rfl) (fun _ _ _ h => h) (Or.inl ⟨by rfl, ?_⟩) (by assumption) ?_
                                    rotate_left 1
                                    · intro Y hY
                                      (try dsimp only at hY)
                                      go_simp
                                      all_goals with_reducible rfl
                                    (try dsimp only [Act.put])
                                    try simp only [Act.put, List.setIfInBounds_toArray, List.set_cons_zero, List.set_cons_succ]
                                    refine wpAnyH_take (i := 30) (v := ?_) rfl (by as_aux_lemma => kernel_rfl) (by as_aux_lemma => kernel_rfl) (by as_aux_lemma => kernel_rfl) (fun _ _ _ h => h) (Or.inl ⟨by rfl, ?_⟩) (by assumption) ?_
                                    rotate_left 1
                                    · intro Y hY
                                      (try dsimp only at hY)
                                      go_simp
                                      all_goals with_reducible rfl
                                    (try dsimp only [Act.put])
                                    try simp only [Act.put, List.setIfInBounds_toArray, List.set_cons_zero, List.set_cons_succ]
                                    refine wpAnyH_take (i := 31) (v := ?_) rfl (by as_aux_lemma => kernel_rfl) (by as_aux_lemma => kernel_rfl) (by as_aux_lemma => kernel_rfl) (fun _ _ _ h => h) (Or.inl ⟨by rfl, ?_⟩) (by assumption) ?_
                                    rotate_left 1
                                    · intro Y hY
                                      (try dsimp only at hY)
                                      go_simp
                                      all_goals with_reducible rfl
                                    (try dsimp only [Act.put])
                                    try simp only [Act.put, List.setIfInBounds_toArray, List.set_cons_zero, List.set_cons_succ]
                                    refine wpAnyH_ready (rs := [29]) (by as_aux_lemma => kernel_rfl) (by simp) ?_
                                    refine AllReadyH.cons rfl (fun K hK => ?_) ?_
                                    · go_simp
                                      refine (unhide CF1 _ (unhide EZ)).mono ?_
                                      rintro r z ⟨rfl, bz⟩
                                      have EN := hide (below_far (unhide EZ) bz)
                                      clear EZ
                                      have EZ := EN
                                      clear EN bz
                                      try go_wp2_with fail
                                      refine hK.out _ _ ?_ (fun hHeld => ?_)
                                      · with_reducible exact unhide SX _ (unhide EZ)
                                      clear hK K
                                      try simp only [Act.put, List.setIfInBounds_toArray, List.set_cons_zero, List.set_cons_succ]
                                      refine wpAnyH_ready (rs := [32]) (by as_aux_lemma => kernel_rfl) (by simp) ?_
                                      refine AllReadyH.cons rfl (fun K hK => ?_) ?_
                                      · go_simp
                                        refine (unhide CF2 _ (unhide EZ)).mono ?_
                                        rintro r z ⟨rfl, bz⟩
                                        have EN := hide (below_far (unhide EZ) bz)
                                        clear EZ
                                        have EZ := EN
                                        clear EN bz
                                        try go_wp2_with fail
                                        refine hK.out _ _ ?_ (fun hHeld => ?_)
                                        · with_reducible exact unhide SX _ (unhide EZ)
                                        clear hK K
                                        try simp only [Act.put, List.setIfInBounds_toArray, List.set_cons_zero, List.set_cons_succ]
                                        refine wpAnyH_take (i := 33) (v := ?_) rfl (by as_aux_lemma => kernel_rfl) (by as_aux_lemma => kernel_rfl) (by as_aux_lemma => kernel_rfl) (fun _ _ _ h => h) (Or.inl ⟨by rfl, ?_⟩) (by assumption) ?_
                                        rotate_left 1
                                        · intro Y hY
                                          (try dsimp only at hY)
                                          go_simp
                                          all_goals with_reducible rfl
                                        (try dsimp only [Act.put])
                                        try simp only [List.setIfInBounds_toArray]
                                        refine wpAnyH_take (i := 34) (v := ?_) rfl (by as_aux_lemma => kernel_rfl) (by as_aux_lemma => kernel_rfl) (by as_aux_lemma => kernel_rfl) (fun _ _ _ h => h) (Or.inl ⟨by rfl, ?_⟩) (by assumption) ?_
                                        rotate_left 1
                                        · intro Y hY
                                          (try dsimp only at hY)
                                          go_simp
                                          all_goals with_reducible rfl
                                        (try dsimp only [Act.put])
                                        try simp only [Act.put, List.setIfInBounds_toArray, List.set_cons_zero, List.set_cons_succ]
                                        refine wpAnyH_take (i := 35) (v := ?_) rfl (by as_aux_lemma => kernel_rfl) (by as_aux_lemma => kernel_rfl) (by as_aux_lemma => kernel_rfl) (fun _ _ _ h => h) (Or.inl ⟨by rfl, ?_⟩) (by assumption) ?_
                                        rotate_left 1
                                        · intro Y hY
                                          (try dsimp only at hY)
                                          go_simp
                                          all_goals with_reducible rfl
                                        (try dsimp only [Act.put])
                                        try simp only [Act.put, List.setIfInBounds_toArray, List.set_cons_zero, List.set_cons_succ]
                                        refine wpAnyH_take (i := 36) (v := ?_) rfl (by as_aux_lemma => kernel_rfl) (by as_aux_lemma => kernel_rfl) (by as_aux_lemma => kernel_rfl) (fun _ _ _ h => h) (Or.inl ⟨by rfl, ?_⟩) (by assumption) ?_
                                        rotate_left 1
                                        · intro Y hY
                                          (try dsimp only at hY)
                                          go_simp
                                          all_goals with_reducible rfl
                                        (try dsimp only [Act.put])
                                        try simp only [Act.put, List.setIfInBounds_toArray, List.set_cons_zero, List.set_cons_succ]
                                        refine wpAnyH_take (i := 39) (v := ?_) rfl (by as_aux_lemma => kernel_rfl) (by as_aux_lemma => kernel_rfl) (by as_aux_lemma => kernel_rfl) (fun _ _ _ h => h) (Or.inl ⟨by rfl, ?_⟩) (by assumption) ?_
                                        rotate_left 1
                                        · intro Y hY
                                          (try dsimp only at hY)
                                          go_simp
                                          all_goals with_reducible rfl
                                        (try dsimp only [Act.put])
                                        try simp only [Act.put, List.setIfInBounds_toArray, List.set_cons_zero, List.set_cons_succ]
                                        refine wpAnyH_ready (rs := [37]) (by as_aux_lemma => kernel_rfl) (by simp) ?_
                                        refine AllReadyH.cons rfl (fun K hK => ?_) ?_
                                        · go_simp
                                          refine (unhide CV1 _ (unhide EZ)).mono ?_
                                          rintro r z ⟨b5, c5, rfl, hy, bz⟩
                                          have SB := hide hy
                                          have cv1 := hy.conv (unhide HZS)
                                          clear hy
                                          have EN := hide (below_far (unhide EZ) bz)
                                          clear EZ
                                          have EZ := EN
                                          clear EN bz
                                          try go_wp2_with fail
                                          refine hK.out _ _ ?_ (fun hHeld => ?_)
                                          · with_reducible exact unhide SX _ (unhide EZ)
                                          clear hK K
                                          try simp only [Act.put, List.setIfInBounds_toArray, List.set_cons_zero, List.set_cons_succ]
                                          refine wpAnyH_ready (rs := [38, 40]) (by as_aux_lemma => kernel_rfl) (by simp) ?_
                                          refine AllReadyH.cons rfl (fun K hK => ?_) ?_
                                          · go_simp
                                            refine hK.out _ _ ?_ (fun hHeld => ?_)
                                            · with_reducible exact unhide SX _ (unhide EZ)
                                            clear hK K
                                            try simp only [Act.put, List.setIfInBounds_toArray, List.set_cons_zero, List.set_cons_succ]
                                            refine wpAnyH_ready (rs := [40]) (by as_aux_lemma => kernel_rfl) (by simp) ?_
                                            refine AllReadyH.cons rfl (fun K hK => ?_) ?_
                                            · go_simp
                                              refine (unhide CV2 _ (unhide EZ)).mono ?_
                                              rintro r z ⟨b6, c6, rfl, hy, bz⟩
                                              clear cv1
                                              have cv1 := ((unhide SB).below bz).conv (unhide HZS)
                                              have cv2 := hy.conv (unhide HZS)
                                              clear hy
                                              have EN := hide (below_far (unhide EZ) bz)
                                              clear EZ
                                              have EZ := EN
                                              clear EN bz
                                              try go_wp2_with fail
                                              refine hK.out _ _ ?_ (fun hHeld => ?_)
                                              · with_reducible exact unhide SX _ (unhide EZ)
                                              clear hK K
                                              try simp only [Act.put, List.setIfInBounds_toArray, List.set_cons_zero, List.set_cons_succ]
                                              refine wpAnyH_ready (rs := [41]) (by as_aux_lemma => kernel_rfl) (by simp) ?_
                                              refine AllReadyH.cons rfl (fun K hK => ?_) ?_
                                              · go_simp
                                                refine hK.out _ _ ?_ (fun hHeld => ?_)
                                                · with_reducible exact unhide SX _ (unhide EZ)
                                                clear hK K
                                                try simp only [Act.put, List.setIfInBounds_toArray, List.set_cons_zero, List.set_cons_succ]
                                                refine wpAnyH_ready (rs := [42]) (by as_aux_lemma => kernel_rfl) (by simp) ?_
                                                refine AllReadyH.cons rfl (fun K hK => ?_) ?_
                                                · go_simp
                                                  refine hK.out _ _ ?_ (fun hHeld => ?_)
                                                  · with_reducible exact unhide SX _ (unhide EZ)
                                                  clear hK K
                                                  try simp only [Act.put, List.setIfInBounds_toArray, List.set_cons_zero, List.set_cons_succ]
                                                  refine wpAnyH_ready (rs := [43]) (by as_aux_lemma => kernel_rfl) (by simp) ?_
                                                  refine AllReadyH.cons rfl (fun K hK => ?_) ?_
                                                  · go_simp
                                                    refine hK.out _ _ ?_ (fun hHeld => ?_)
                                                    · with_reducible exact unhide SX _ (unhide EZ)
                                                    clear hK K
                                                    try simp only [Act.put, List.setIfInBounds_toArray, List.set_cons_zero, List.set_cons_succ]
                                                    refine wpAnyH_done (by as_aux_lemma => kernel_rfl) ?_ _
                                                    refine NoPanic.normal ?_
                                                    go_wp2_with fail
                                                    go_meet
                                                    exact ⟨rfl, unhide EZ⟩
                                                  exact AllReadyH.nil
                                                exact AllReadyH.nil
                                              exact AllReadyH.nil
                                            exact AllReadyH.nil
                                          refine AllReadyH.cons rfl (fun K hK => ?_) ?_
                                          · go_simp
                                            refine (unhide CV2 _ (unhide EZ)).mono ?_
                                            rintro r z ⟨b6, c6, rfl, hy, bz⟩
                                            clear cv1
                                            have cv1 := ((unhide SB).below bz).conv (unhide HZS)
                                            have cv2 := hy.conv (unhide HZS)
                                            clear hy
                                            have EN := hide (below_far (unhide EZ) bz)
                                            clear EZ
                                            have EZ := EN
                                            clear EN bz
                                            try go_wp2_with fail
                                            refine hK.out _ _ ?_ (fun hHeld => ?_)
                                            · with_reducible exact unhide SX _ (unhide EZ)
                                            clear hK K
                                            try simp only [Act.put, List.setIfInBounds_toArray, List.set_cons_zero, List.set_cons_succ]
                                            refine wpAnyH_ready (rs := [38, 41]) (by as_aux_lemma => kernel_rfl) (by simp) ?_
                                            refine AllReadyH.cons rfl (fun K hK => ?_) ?_
                                            · go_simp
                                              refine hK.out _ _ ?_ (fun hHeld => ?_)
                                              · with_reducible exact unhide SX _ (unhide EZ)
                                              clear hK K
                                              try simp only [Act.put, List.setIfInBounds_toArray, List.set_cons_zero, List.set_cons_succ]
                                              refine wpAnyH_ready (rs := [41]) (by as_aux_lemma => kernel_rfl) (by simp) ?_
                                              refine AllReadyH.cons rfl (fun K hK => ?_) ?_
                                              · go_simp
                                                refine hK.out _ _ ?_ (fun hHeld => ?_)
                                                · with_reducible exact unhide SX _ (unhide EZ)
                                                clear hK K
                                                try simp only [Act.put, List.setIfInBounds_toArray, List.set_cons_zero, List.set_cons_succ]
                                                refine wpAnyH_ready (rs := [42]) (by as_aux_lemma => kernel_rfl) (by simp) ?_
                                                refine AllReadyH.cons rfl (fun K hK => ?_) ?_
                                                · go_simp
                                                  refine hK.out _ _ ?_ (fun hHeld => ?_)
                                                  · with_reducible exact unhide SX _ (unhide EZ)
                                                  clear hK K
                                                  try simp only [Act.put, List.setIfInBounds_toArray, List.set_cons_zero, List.set_cons_succ]
                                                  refine wpAnyH_ready (rs := [43]) (by as_aux_lemma => kernel_rfl) (by simp) ?_
                                                  refine AllReadyH.cons rfl (fun K hK => ?_) ?_
                                                  · go_simp
                                                    refine hK.out _ _ ?_ (fun hHeld => ?_)
                                                    · with_reducible exact unhide SX _ (unhide EZ)
                                                    clear hK K
                                                    try simp only [Act.put, List.setIfInBounds_toArray, List.set_cons_zero, List.set_cons_succ]
                                                    refine wpAnyH_done (by as_aux_lemma => kernel_rfl) ?_ _
                                                    refine NoPanic.normal ?_
                                                    go_wp2_with fail
                                                    go_meet
                                                    exact ⟨rfl, unhide EZ⟩
                                                  exact AllReadyH.nil
                                                exact AllReadyH.nil
                                              exact AllReadyH.nil
                                            refine AllReadyH.cons rfl (fun K hK => ?_) ?_
                                            · go_simp
                                              refine hK.out _ _ ?_ (fun hHeld => ?_)
                                              · with_reducible exact unhide SX _ (unhide EZ)
                                              clear hK K
                                              try simp only [Act.put, List.setIfInBounds_toArray, List.set_cons_zero, List.set_cons_succ]
                                              refine wpAnyH_ready (rs := [38]) (by as_aux_lemma => kernel_rfl) (by simp) ?_
                                              refine AllReadyH.cons rfl (fun K hK => ?_) ?_
                                              · go_simp
                                                refine hK.out _ _ ?_ (fun hHeld => ?_)
                                                · with_reducible exact unhide SX _ (unhide EZ)
                                                clear hK K
                                                try simp only [Act.put, List.setIfInBounds_toArray, List.set_cons_zero, List.set_cons_succ]
                                                refine wpAnyH_ready (rs := [42]) (by as_aux_lemma => kernel_rfl) (by simp) ?_
                                                refine AllReadyH.cons rfl (fun K hK => ?_) ?_
                                                · go_simp
                                                  refine hK.out _ _ ?_ (fun hHeld => ?_)
                                                  · with_reducible exact unhide SX _ (unhide EZ)
                                                  clear hK K
                                                  try simp only [Act.put, List.setIfInBounds_toArray, List.set_cons_zero, List.set_cons_succ]
                                                  refine wpAnyH_ready (rs := [43]) (by as_aux_lemma => kernel_rfl) (by simp) ?_
                                                  refine AllReadyH.cons rfl (fun K hK => ?_) ?_
                                                  · go_simp
                                                    refine hK.out _ _ ?_ (fun hHeld => ?_)
                                                    · with_reducible exact unhide SX _ (unhide EZ)
                                                    clear hK K
                                                    try simp only [Act.put, List.setIfInBounds_toArray, List.set_cons_zero, List.set_cons_succ]
                                                    refine wpAnyH_done (by as_aux_lemma => kernel_rfl) ?_ _
                                                    refine NoPanic.normal ?_
                                                    go_wp2_with fail
                                                    go_meet
                                                    exact ⟨rfl, unhide EZ⟩
                                                  exact AllReadyH.nil
                                                exact AllReadyH.nil
                                              exact AllReadyH.nil
                                            exact AllReadyH.nil
                                          exact AllReadyH.nil
                                        exact AllReadyH.nil
                                      exact AllReadyH.nil
                                    exact AllReadyH.nil
                                  exact AllReadyH.nil
                                exact AllReadyH.nil
                              exact AllReadyH.nil
                            exact AllReadyH.nil
                          exact AllReadyH.nil
                        exact AllReadyH.nil
                      exact AllReadyH.nil
                    exact AllReadyH.nil
                  case rest =>
                    obtain ⟨rfl, bc⟩ := hcut
                    have EF := hide ((unhide PS7).below bc)
                    have EB := hide ((unhide B7).trans (bc.mono (unhide B7).size))
                    clear CN1 CN2 CT1 CT2 CL1 CL2 CF1 CF2 CV1 CV2 CSN CSA SX EZ bc
                    go_wp2_with fail
                    go_roundw
                    case rel => exact ⟨j + 1, G, gs', by go_num, by omega, unhide EF, unhide GD6, unhide GW, unhide EB⟩
                    case measure => simp [intOf]; omega
            · rw [decide_eq_false hf3] at CF
              have CF' := hide CF
              clear CF hf3
              go_wp2_with fail
              refine (unhide CF').mono ?_
              rintro e w3 ⟨rfl, b3⟩
              have B3 := hide (below_far (unhide BV) b3)
              clear b3 k3 k4
              go_wp2_with fail
              go_roundw
              case rel => exact ⟨j + 1, F, gs, by go_num, by omega, (unhide PS).below (unhide B3), unhide GD, unhide FF, (unhide HB).trans ((unhide B3).mono (unhide HB).size)⟩
              case measure => simp [intOf]; omega
          · have q1 : (j : Int) < (n : Int) := by omega
            have q2 : ¬ (j : Int) < 70 := by omega
            obtain ⟨n7, hn7⟩ : ∃ n, gs.length = n := ⟨_, rfl⟩
            have SW : Ww.Start wo := (unhide HST).upto (unhide HB) (unhide HST).2.2
            have h60 := (unhide GD).len
            obtain ⟨nb, hnb, CV⟩ := ans_save (unhide PS) (unhide GD) SW
            obtain ⟨ao7, cap7, hx7, CL⟩ := ans_all (unhide PS) (unhide GD) hn7
            have CV1 := hide (CV wo (Below.refl _ wo)).1
            have CL2 := hide (fun Y hY => (CL Y hY).2)
            have HX7 := hide hx7
            have SWW := hide SW
            have HN7 := hide (And.intro hn7 h60)
            clear hn7 hx7 SW h60 CV CL hnb
            go_wp2_with fail
            refine (unhide CV1).mono ?_
            rintro e w8 ⟨b8, c8, rfl, hy, bz⟩
            have CD := hide (ans_load (unhide GD) w8 ((unhide SWW).below bz) b8 nb c8 hy)
            have E8 := hide bz
            clear hy bz CV1
            go_wp2_with fail
            refine (unhide CD).mono ?_
            rintro e w9 ⟨p9, D9, rfl, hg9, -, b9⟩
            have CL1 := hide (fun Y hY => all_of hg9 (unhide HN7).1 (by have := (unhide HN7).1; have := (unhide HN7).2; omega) Y hY)
            have E9 := hide (below_far (unhide E8) b9)
            have SX : Hid (∀ Y : World, Below w9.heap.size w9 Y → Y.cell? ⟨x, 0, none⟩ = some (.slice ao7 n7 cap7)) := hide (fun Y hY => ((below_far (unhide E9) hY).cell (blk_lt (unhide HX7))).trans (unhide HX7))
            have EZ := hide ((Below.refl w9.heap.size w9).drew)
            clear hg9 b9 CD E8
            as_aux_lemma =>
              go_upto_region 31 with fail
              go_region_held3 (fun Y => Y.cell? ⟨x, 0, none⟩ = some (.slice ao7 n7 cap7))
                (first | with_reducible exact unhide SX _ (unhide EZ) | fail)
                (first
                  | (go_at_call 17
                     refine (unhide CL1 _ (unhide EZ)).mono ?_
                     rintro r z ⟨b2, c2, rfl, hi, bz⟩
                     have GI := hide hi
                     clear hi
                     have EN := hide (below_far (unhide EZ) bz); clear EZ; have EZ := EN; clear EN; clear bz)
                  | (go_at_call 16
                     refine (unhide CL2 _ (below_far (unhide E9) (unhide EZ)) _ _ (unhide GI)).mono ?_
                     rintro r z ⟨rfl, bz⟩
                     have EN := hide (below_far (unhide EZ) bz); clear EZ; have EZ := EN; clear EN; clear bz)
                  | fail)
              all_goals
                have EB := hide ((unhide HB).trans ((below_far (unhide E9) (unhide EZ)).mono (unhide HB).size))
                clear CL1 CL2 SX EZ
                go_wp2
                go_ret
                exact ⟨rfl, unhide EB⟩
        · have q1 : ¬ (j : Int) < (n : Int) := by omega
          obtain ⟨n7, hn7⟩ : ∃ n, gs.length = n := ⟨_, rfl⟩
          have SW : Ww.Start wo := (unhide HST).upto (unhide HB) (unhide HST).2.2
          have h60 := (unhide GD).len
          obtain ⟨nb, hnb, CV⟩ := ans_save (unhide PS) (unhide GD) SW
          obtain ⟨ao7, cap7, hx7, CL⟩ := ans_all (unhide PS) (unhide GD) hn7
          have CV1 := hide (CV wo (Below.refl _ wo)).1
          have CL2 := hide (fun Y hY => (CL Y hY).2)
          have HX7 := hide hx7
          have SWW := hide SW
          have HN7 := hide (And.intro hn7 h60)
          clear hn7 hx7 SW h60 CV CL hnb
          go_wp2_with fail
          refine (unhide CV1).mono ?_
          rintro e w8 ⟨b8, c8, rfl, hy, bz⟩
          have CD := hide (ans_load (unhide GD) w8 ((unhide SWW).below bz) b8 nb c8 hy)
          have E8 := hide bz
          clear hy bz CV1
          go_wp2_with fail
          refine (unhide CD).mono ?_
          rintro e w9 ⟨p9, D9, rfl, hg9, -, b9⟩
          have CL1 := hide (fun Y hY => all_of hg9 (unhide HN7).1 (by have := (unhide HN7).1; have := (unhide HN7).2; omega) Y hY)
          have E9 := hide (below_far (unhide E8) b9)
          have SX : Hid (∀ Y : World, Below w9.heap.size w9 Y → Y.cell? ⟨x, 0, none⟩ = some (.slice ao7 n7 cap7)) := hide (fun Y hY => ((below_far (unhide E9) hY).cell (blk_lt (unhide HX7))).trans (unhide HX7))
          have EZ := hide ((Below.refl w9.heap.size w9).drew)
          clear hg9 b9 CD E8
          as_aux_lemma =>
            go_upto_region 31 with fail
            go_region_held3 (fun Y => Y.cell? ⟨x, 0, none⟩ = some (.slice ao7 n7 cap7))
              (first | with_reducible exact unhide SX _ (unhide EZ) | fail)
              (first
                | (go_at_call 17
                   refine (unhide CL1 _ (unhide EZ)).mono ?_
                   rintro r z ⟨b2, c2, rfl, hi, bz⟩
                   have GI := hide hi
                   clear hi
                   have EN := hide (below_far (unhide EZ) bz); clear EZ; have EZ := EN; clear EN; clear bz)
                | (go_at_call 16
                   refine (unhide CL2 _ (below_far (unhide E9) (unhide EZ)) _ _ (unhide GI)).mono ?_
                   rintro r z ⟨rfl, bz⟩
                   have EN := hide (below_far (unhide EZ) bz); clear EZ; have EZ := EN; clear EN; clear bz)
                | fail)
            all_goals
              have EB := hide ((unhide HB).trans ((below_far (unhide E9) (unhide EZ)).mono (unhide HB).size))
              clear CL1 CL2 SX EZ
              go_wp2
              go_ret
              exact ⟨rfl, unhide EB⟩
  · rw [decide_eq_false hf] at CF
    have CF' := hide CF
    clear CF hf
    go_wp2_with fail
    refine (unhide CF').mono ?_
    rintro e w2 ⟨rfl, b2⟩
    have B2 := hide (below_far (unhide B1) b2)
    clear b2
    go_wp2_with fail
    go_ret
    exact ⟨rfl, unhide B2⟩
end Go.Proofs.YtgllokinadjiaaaGreatDoor
