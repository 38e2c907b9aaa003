/- ClientPlays: the walk. -/
import Derived.Test.YtkalpdfigdaalaaUPyA
import Derived.Deep.DeepCutAuto
namespace Go.Proofs.Ytkalpdfigdaalaa
open Go.RowKit Go.Maps
attribute [local go_sem ↓] Go.wp_at_zero Go.wp_at_succ

/-- what the loop keeps. -/
structure PyI (b0 : Nat) (wr : World) (p q x : Nat) (es : List En) (i : Nat) : Prop where
  st : PyS b0 (fun _ => False) wr p q x es es
  rise : Rise es
  len : es.length ≤ i
set_option maxRecDepth 20000 in
set_option maxHeartbeats 8000000 in
theorem plays_walk (ao co so : Option Addr) (n nc ns cap cc cs : Nat) (ls : List En) (xs ys : List Int) (hn : ls.length = n) (hnc : xs.length = nc) (hns : ys.length = ns) (w : World) (h : EsA w ao ls) (hx : IntsR w co xs) (hy : IntsR w so ys) (hwx : ∀ y ∈ xs, wf64 y) :
    Calls Try.prog 3 #[.slice ao n cap, .slice co nc cc, .slice so ns cs] w fun e w' => e = .returned (.bool true) ∧ Below w.heap.size w w' := by
  have C0 := hide (known_any w)
  have HI := hide h
  have HN := hide hn
  have HX := hide hx
  have HY := hide hy
  have HNC := hide hnc
  have HNS := hide hns
  have HWX := hide hwx
  clear h hn hx hy hnc hns hwx
  go_enter Try.func3, Try.ntmps3
  go_wp2_with fail
  refine (unhide C0).mono ?_
  rintro e w1 ⟨rfl, b1⟩
  have C1 := hide (new_any w1)
  have B1 := hide b1
  clear b1 C0
  go_wp2_with fail
  refine (unhide C1).mono ?_
  rintro v w2 ⟨p, q, rfl, h2, b2⟩
  obtain ⟨W, hW⟩ : ∃ W, w2.alloc (.cells #[.slice none 0 0] 29) = W := ⟨_, rfl⟩
  have bW : Below w2.heap.size w2 W := by rw [← hW]; exact (Below.refl _ w2).alloc (Nat.le_refl _) _
  have A0 : Hid (PyI w.heap.size W p q w2.heap.size [] 0) := hide ⟨⟨⟨_, .slice none 0 0, h2.below bW, fun k hk => ⟨Nat.le_trans (unhide B1).size hk.1, fun x => x⟩, ⟨by rw [← hW]; exact box_at _ _, XEs.nil _ _ _, Nat.le_trans (unhide B1).size b2.size, Nat.le_refl _⟩, fun hk => by omega, fun k hk => by simp [Value.ownBlock] at hk, fun x => x⟩, Nat.le_trans (below_far (unhide B1) b2).size bW.size⟩, Rise.nil, Nat.le_refl _⟩
  have BW := hide (below_far (below_far (unhide B1) b2) bW)
  clear h2 b2 C1 bW
  go_upto_region 4 with fail
  clear hW
  obtain ⟨x, hx⟩ : ∃ x, x = w2.heap.size := ⟨_, rfl⟩
  rw [← hx] at A0
  rw [← hx]
  clear hx
  go_wp2_with fail
  go_loopw [9, 10, 11, 12, 13, 14, 15, 16, 17, 18, 19, 20, 6] (fun i _ _ _ _ _ _ _ _ _ _ _ _ wr => ∃ (j : Nat) (es : List En), i = .int .i64 j ∧ j ≤ 60 ∧ PyI w.heap.size wr p q x es j ∧ Below w.heap.size w wr) (fun i _ _ _ _ _ _ _ _ _ _ _ _ _ => 60 - (intOf i).toNat)
  case atStart => exact ⟨0, [], rfl, by omega, unhide A0, unhide BW⟩
  case round =>
    obtain ⟨j, es, rfl, hj, ha, hb⟩ := hrel
    obtain ⟨wo, hwo⟩ : ∃ wo, wo = wr := ⟨_, rfl⟩
    subst hwo
    have AI := hide ha
    have HB := hide hb
    clear ha hb
    by_cases h1 : j < n
    · by_cases h2 : j < 60
      · have q1 : (j : Int) < (n : Int) := by omega
        have q2 : (j : Int) < 60 := by omega
        have q0 : (0 : Int) ≤ (j : Int) := by omega
        obtain ⟨g, hg⟩ : ∃ g, ls[j]? = some g := ⟨_, List.getElem?_eq_getElem (by rw [unhide HN]; exact h1)⟩
        obtain ⟨b, off, mo, mc, rfl, c0, c1, c2, c3, c4, c5, hms, hl1, -, hwf⟩ := ((unhide HI).below (unhide HB)).at hg
        obtain ⟨m, hm⟩ : ∃ m, g.ms.length = m := ⟨_, rfl⟩
        rw [hm] at c4 hl1
        have hms0 : IntsR w mo g.ms := by
          obtain ⟨b', off', mo', mc', e1, -, -, -, -, d4, -, him, -⟩ := (unhide HI).at hg
          cases e1
          have := (unhide HB).cell (blk_lt d4)
          rw [d4, c4] at this
          cases this
          exact him
        obtain ⟨V, hV, bV, xV⟩ := boxE wo g.kind g.client g.seq g.text mo m mc g.dest
        have CF := few_any g mo m mc hm V
        have k0 : V.cell? ⟨wo.heap.size, 0, none⟩ = some (.int .i64 g.kind) := (cell_of_block xV).trans rfl
        have k1 : V.cell? ⟨wo.heap.size, 1, none⟩ = some (.int .i64 g.client) := (cell_of_block xV).trans rfl
        have k2 : V.cell? ⟨wo.heap.size, 2, none⟩ = some (.int .i64 g.seq) := (cell_of_block xV).trans rfl
        have k3 : V.cell? ⟨wo.heap.size, 3, none⟩ = some (.string g.text) := (cell_of_block xV).trans rfl
        have k4 : V.cell? ⟨wo.heap.size, 4, none⟩ = some (.slice mo m mc) := (cell_of_block xV).trans rfl
        have k5 : V.cell? ⟨wo.heap.size, 5, none⟩ = some (.int .i64 g.dest) := (cell_of_block xV).trans rfl
        have XV := hide xV
        have BV := hide bV
        have HV := hide hV
        have HM := hide hm
        have HMS := hide hms0
        have HWF := hide hwf
        clear hg hms hms0 hwf hm xV bV hV
        go_upto_region 8 with fail
        rw [unhide HV]
        clear c0 c1 c2 c3 c4 c5
        by_cases hf : fewE g
        · rw [decide_eq_true hf] at CF
          have CF' := hide CF
          have HF := hide hf
          clear CF hf
          go_wp2_with fail
          refine (unhide CF').mono ?_
          rintro e w3 ⟨rfl, b3⟩
          have XW3 := hide (Below.stay b3 (unhide XV))
          have BW3 := hide (below_far (unhide BV) b3)
          clear b3 CF' k0 k1 k2 k3 k4 k5 XV BV HV
          go_upto_if 45 with fail
          go_cut [] (fun wc => ∃ K C S : Int, wf64 C ∧ wc.heap[wo.heap.size]? = some (.cells #[.int .i64 K, .int .i64 C, .int .i64 S, .string g.text, .slice mo m mc, .int .i64 g.dest] 31 (0, 0)) ∧ PyS w.heap.size (fun k => k = wo.heap.size) wc p q x es es ∧ Below w.heap.size w wc)
          case first =>
            obtain ⟨r4, hr4⟩ : ∃ r : Nat, (j : Int) % 4 = (r : Int) := ⟨((j : Int) % 4).toNat, by omega⟩
            have PS := hide ((unhide AI).st.with (unhide BW3) (Y := fun k => k = wo.heap.size) (fun k hk => by rw [hk]; exact Nat.le_refl _))
            by_cases h4 : 0 < r4
            · have q4 : (r4 : Int) > 0 := by omega
              obtain ⟨a5, ha5, -, W5⟩ := within_nat g.kind 5 (by decide) (by decide)
              obtain ⟨a3, ha3, -, W3⟩ := within_nat g.client 3 (by decide) (by decide)
              obtain ⟨at', hat, -, WT⟩ := within_nat g.seq 12 (by decide) (by decide)
              have WA := hide (fun w => show Calls Try.prog 11 #[.int .i64 g.kind, .int .i64 5] w fun ev w' => ev = .returned (.int .i64 (a5 : Int)) ∧ w' = w from W5 w)
              have WB := hide (fun w => show Calls Try.prog 11 #[.int .i64 g.client, .int .i64 3] w fun ev w' => ev = .returned (.int .i64 (a3 : Int)) ∧ w' = w from W3 w)
              have WC := hide (fun w => show Calls Try.prog 11 #[.int .i64 g.seq, .int .i64 12] w fun ev w' => ev = .returned (.int .i64 (at' : Int)) ∧ w' = w from WT w)
              obtain ⟨gk, hgk⟩ : ∃ k, g.kind = k := ⟨_, rfl⟩
              obtain ⟨gc, hgc⟩ : ∃ k, g.client = k := ⟨_, rfl⟩
              obtain ⟨gs, hgs⟩ : ∃ k, g.seq = k := ⟨_, rfl⟩
              rw [hgk] at WA
              rw [hgc] at WB
              rw [hgs] at WC
              have x3 := unhide XW3
              rw [hgk, hgc, hgs] at x3
              have k0 : w3.cell? ⟨wo.heap.size, 0, none⟩ = some (.int .i64 gk) := (cell_of_block x3).trans rfl
              have k1 : w3.cell? ⟨wo.heap.size, 1, none⟩ = some (.int .i64 gc) := (cell_of_block x3).trans rfl
              have k2 : w3.cell? ⟨wo.heap.size, 2, none⟩ = some (.int .i64 gs) := (cell_of_block x3).trans rfl
              have fz : ∀ i, w3.frozen? ⟨wo.heap.size, i, none⟩ = false := fun i => free_of_block x3
              have hB : w.heap.size ≤ wo.heap.size := (unhide HB).size
              have FIN : Hid (wf64 (IntKind.i64.wrap (1 + (a3 : Int))) ∧ (((w3.setCell ⟨wo.heap.size, 0, none⟩ (.int .i64 (a5 : Int))).setCell ⟨wo.heap.size, 1, none⟩ (.int .i64 (IntKind.i64.wrap (1 + (a3 : Int))))).setCell ⟨wo.heap.size, 2, none⟩ (.int .i64 (IntKind.i64.wrap (1 + (at' : Int))))).drew.heap[wo.heap.size]? = some (.cells #[.int .i64 (a5 : Int), .int .i64 (IntKind.i64.wrap (1 + (a3 : Int))), .int .i64 (IntKind.i64.wrap (1 + (at' : Int))), .string g.text, .slice mo m mc, .int .i64 g.dest] 31 (0, 0)) ∧
                  PyS w.heap.size (fun k => k = wo.heap.size) (((w3.setCell ⟨wo.heap.size, 0, none⟩ (.int .i64 (a5 : Int))).setCell ⟨wo.heap.size, 1, none⟩ (.int .i64 (IntKind.i64.wrap (1 + (a3 : Int))))).setCell ⟨wo.heap.size, 2, none⟩ (.int .i64 (IntKind.i64.wrap (1 + (at' : Int))))).drew p q x es es ∧
                  Below w.heap.size w (((w3.setCell ⟨wo.heap.size, 0, none⟩ (.int .i64 (a5 : Int))).setCell ⟨wo.heap.size, 1, none⟩ (.int .i64 (IntKind.i64.wrap (1 + (a3 : Int))))).setCell ⟨wo.heap.size, 2, none⟩ (.int .i64 (IntKind.i64.wrap (1 + (at' : Int))))).drew) := hide
                ⟨by rw [IntWalk.i64_in _ (by omega)]; exact wf_range (by omega), setCell_block (setCell_block (setCell_block (unhide XW3))), ((((unhide PS).store hB 0 _).store hB 1 _).store hB 2 _).below ((Below.refl _ _).drew),
                  (((((unhide HB).trans ((unhide BW3).mono (unhide HB).size)).setCell (p := ⟨wo.heap.size, 0, none⟩) hB _).setCell (p := ⟨wo.heap.size, 1, none⟩) hB _).setCell (p := ⟨wo.heap.size, 2, none⟩) hB _).drew⟩
              clear W5 W3 WT x3 hgk hgc hgs hB
              go_upto_region 10 with fail
              go_region_law (first
                | (refine step_within (.tmp 47) 5 rfl rfl gk rfl (a5 : Int) (unhide WA _) ?_)
                | (refine step_within (.tmp 50) 3 rfl rfl gc rfl (a3 : Int) (unhide WB _) ?_)
                | (refine step_within (.tmp 54) 12 rfl rfl gs rfl (at' : Int) (unhide WC _) ?_)
                | fail)
              all_goals go_wp2
              all_goals (
                go_meet
                case rel => exact ⟨_, _, _, (unhide FIN).1, (unhide FIN).2.1, (unhide FIN).2.2.1, (unhide FIN).2.2.2⟩)
            · obtain rfl : r4 = 0 := by omega
              go_wp2_with fail
              go_meet
              case rel => exact ⟨g.kind, g.client, g.seq, unhide HWF, unhide XW3, unhide PS, (unhide HB).trans ((unhide BW3).mono (unhide HB).size)⟩
          case rest =>
            obtain ⟨K, C, S, hwC, xC, ps, bC⟩ := hcut
            obtain ⟨wd, hwd⟩ : ∃ wd, wd = wc := ⟨_, rfl⟩
            subst hwd
            obtain ⟨e', he'⟩ : ∃ e' : En, e' = ⟨K, C, S, g.text, g.ms, g.dest⟩ := ⟨_, rfl⟩
            have he1 : e'.kind = K ∧ e'.client = C ∧ e'.seq = S ∧ e'.text = g.text ∧ e'.ms = g.ms ∧ e'.dest = g.dest := by rw [he']; exact ⟨rfl, rfl, rfl, rfl, rfl, rfl⟩
            obtain ⟨f1, f2, f3, f4, f5, f6⟩ := he1
            have hm50 := (unhide HF).2
            rw [unhide HM] at hm50
            have hXl : ∀ k, k = wo.heap.size → k < wd.heap.size := fun k hk => by rw [hk]; exact heap_lt xC
            have CP := py_put ps hXl (by have := (unhide AI).len; omega) (unhide AI).rise e' mo m mc (by rw [f5]; exact unhide HM) (by omega) (by rw [f5]; exact (unhide HMS).below bC) (by rw [f2]; exact hwC)
            obtain ⟨PL, hPL⟩ : ∃ PL, placeOf es e' = PL := ⟨_, rfl⟩
            obtain ⟨mb, hmb⟩ : ∃ mb, decide (mayPut es e') = mb := ⟨_, rfl⟩
            rw [hPL, hmb] at CP
            have CX := fun (Y : World) (h : PyS w.heap.size (fun k => k = wo.heap.size) Y p q x (putOf es e') es) (hX : ∀ k, k = wo.heap.size → k < Y.heap.size) (hb : Below w.heap.size w Y) => py_xput h hX (by have := (unhide AI).len; omega) (unhide AI).rise e' mo m mc (by rw [f5]; exact unhide HM) (by omega) (by rw [f5]; exact ((unhide HMS).inF.below hb))
            rw [hPL, hmb] at CX
            have hlen : (putOf es e').length ≤ j + 1 := by
              have := (unhide AI).len
              unfold putOf; split <;> simp <;> omega
            have HLEN := hide hlen
            have HRISE := hide ((unhide AI).rise.put e')
            rw [f1, f2, f3, f4, f6] at CP CX
            obtain ⟨fs, hfs⟩ : ∃ fs, putOf es e' = fs := ⟨_, rfl⟩
            rw [hfs] at CP CX HLEN HRISE
            have CP' := hide CP
            have CX' := hide CX
            have XC := hide xC
            have BC := hide bC
            have HWC := hide hwC
            have k0 : wd.cell? ⟨wo.heap.size, 0, none⟩ = some (.int .i64 K) := (cell_of_block xC).trans rfl
            have k1 : wd.cell? ⟨wo.heap.size, 1, none⟩ = some (.int .i64 C) := (cell_of_block xC).trans rfl
            have k2 : wd.cell? ⟨wo.heap.size, 2, none⟩ = some (.int .i64 S) := (cell_of_block xC).trans rfl
            have k3 : wd.cell? ⟨wo.heap.size, 3, none⟩ = some (.string g.text) := (cell_of_block xC).trans rfl
            have k4 : wd.cell? ⟨wo.heap.size, 4, none⟩ = some (.slice mo m mc) := (cell_of_block xC).trans rfl
            have k5 : wd.cell? ⟨wo.heap.size, 5, none⟩ = some (.int .i64 g.dest) := (cell_of_block xC).trans rfl
            clear hlen hPL hmb hXl hm50 f1 f2 f3 f4 f5 f6 he' CP CX ps xC bC hwC hfs
            go_wp2_with fail
            refine (unhide CP').mono ?_
            rintro z w4 ⟨rfl, ps4, b4, x4⟩
            have xb4 := (x4 _ rfl).trans (unhide XC)
            have B4 := hide ((unhide BC).trans b4)
            have CX4 := hide (unhide CX' w4 ps4 (fun k hk => by rw [hk]; exact heap_lt xb4) (unhide B4))
            have k0 : w4.cell? ⟨wo.heap.size, 0, none⟩ = some (.int .i64 K) := (cell_of_block xb4).trans rfl
            have k1 : w4.cell? ⟨wo.heap.size, 1, none⟩ = some (.int .i64 C) := (cell_of_block xb4).trans rfl
            have k2 : w4.cell? ⟨wo.heap.size, 2, none⟩ = some (.int .i64 S) := (cell_of_block xb4).trans rfl
            have k3 : w4.cell? ⟨wo.heap.size, 3, none⟩ = some (.string g.text) := (cell_of_block xb4).trans rfl
            have k4 : w4.cell? ⟨wo.heap.size, 4, none⟩ = some (.slice mo m mc) := (cell_of_block xb4).trans rfl
            have k5 : w4.cell? ⟨wo.heap.size, 5, none⟩ = some (.int .i64 g.dest) := (cell_of_block xb4).trans rfl
            have XB4 := hide xb4
            clear ps4 b4 x4 xb4 CP' CX'
            go_wp2_with fail
            refine (unhide CX4).mono ?_
            rintro z w5 ⟨rfl, ps5, b5, x5⟩
            have XB5 := hide ((x5 _ rfl).trans (unhide XB4))
            have B5 := hide ((unhide B4).trans b5)
            have PS5 := hide ps5.drop
            clear ps5 b5 x5 CX4 k0 k1 k2 k3 k4 k5 XB4 B4
            obtain ⟨L, hL⟩ : ∃ L, fs.length = L := ⟨_, rfl⟩
            have hL61 : L ≤ 61 := by have := unhide HLEN; omega
            obtain ⟨xo, xc, cx, xr⟩ := (unhide PS5).row
            rw [hL] at cx
            have CL := hide (fun Y (hY : Below w5.heap.size w5 Y) => py_len ((unhide PS5).below hY))
            rw [hL] at CL
            have CA := hide (fun Y (hY : Below w5.heap.size w5 Y) => py_all ((unhide PS5).below hY) hL (by omega))
            have CS := hide (fun (b2 : Nat) (Y : World) (hY : Below w5.heap.size w5 Y) (er : EsR (fun _ => True) Y (some ⟨b2, 0, none⟩) fs) => rsames_eq fs L hL (by omega) _ _ L xc Y er (xr.below hY))
            have SX := hide (fun Y (hY : Below w5.heap.size w5 Y) => (hY.cell (blk_lt cx)).trans cx)
            have EZ := hide ((Below.refl w5.heap.size w5).drew)
            have HL := hide hL
            clear xr hL
            go_upto_region 13 with fail
            go_region_held3 (fun Y => Y.cell? ⟨x, 0, none⟩ = some (.slice xo L xc)) (first | with_reducible exact cx | with_reducible exact unhide SX _ (unhide EZ) | fail)
              (first
                | (go_at_call 14
                   refine (unhide CL _ (unhide EZ)).mono ?_
                   rintro z z1 ⟨rfl, bz⟩
                   have EN := hide (below_far (unhide EZ) bz)
                   clear EZ bz; have EZ := EN; clear EN)
                | (go_at_call 16
                   refine (unhide CA _ (unhide EZ)).mono ?_
                   rintro z z2 ⟨b2, rfl, er, bz⟩
                   have ER := hide er
                   have EN := hide (below_far (unhide EZ) bz)
                   clear EZ bz er; have EZ := EN; clear EN)
                | (go_at_call 15
                   refine (unhide CS b2 _ (unhide EZ) (unhide ER)).mono ?_
                   rintro z z3 ⟨rfl, bz⟩
                   have EN := hide (below_far (unhide EZ) bz)
                   clear EZ bz; have EZ := EN; clear EN)
                | fail)
            have xz := Below.stay (unhide EZ) (unhide XB5)
            have k1 : z3.cell? ⟨wo.heap.size, 1, none⟩ = some (.int .i64 C) := (cell_of_block xz).trans rfl
            have k2 : z3.cell? ⟨wo.heap.size, 2, none⟩ = some (.int .i64 S) := (cell_of_block xz).trans rfl
            clear xz CL CA CS ER SX cx
            go_wp2_with fail
            go_quiet (fail)
            obtain ⟨V, hV⟩ : ∃ V, z3.drewN nq = V := ⟨_, rfl⟩
            have EV : Hid (Below w5.heap.size w5 V) := hide (by rw [← hV]; exact (unhide EZ).trans ((drewN_below _ _).mono (unhide EZ).size))
            rw [hV]
            clear hV k1 k2
            by_cases hc1 : j < nc
            · have p1 : (j : Int) < (nc : Int) := by omega
              by_cases hc2 : j < ns
              · have p2 : (j : Int) < (ns : Int) := by omega
                obtain ⟨ac, rfl, hcw⟩ := (unhide HX) j (by rw [unhide HNC]; exact hc1)
                obtain ⟨as', rfl, hsw⟩ := (unhide HY) j (by rw [unhide HNS]; exact hc2)
                have bw := (unhide B5).trans ((unhide EV).mono (unhide B5).size)
                have cc1 := (bw.cell (blk_lt hcw)).trans hcw
                have cs1 := (bw.cell (blk_lt hsw)).trans hsw
                have hwm : wf64 (xs.getD j 0) := by
                  have hjl : j < xs.length := by rw [unhide HNC]; exact hc1
                  rw [List.getD_eq_getElem?_getD, List.getElem?_eq_getElem hjl]
                  exact unhide HWX _ (List.getElem_mem hjl)
                obtain ⟨c', hc'⟩ : ∃ c, xs.getD j 0 = c := ⟨_, rfl⟩
                obtain ⟨s', hs'⟩ : ∃ c, ys.getD j 0 = c := ⟨_, rfl⟩
                rw [hc'] at cc1 hwm
                rw [hs'] at cs1
                have HWM := hide hwm
                clear hc' hs' hcw hsw bw hwm
                go_wp2_with fail
                go_quiet (fail)
                obtain ⟨U, hU⟩ : ∃ U, V.drewN nq = U := ⟨_, rfl⟩
                have EU : Hid (Below w5.heap.size w5 U) := hide (by rw [← hU]; exact (unhide EV).trans ((drewN_below _ _).mono (unhide EV).size))
                rw [hU]
                clear hU cc1 cs1
                have CK := fun Y (hY : Below w5.heap.size w5 Y) => py_ask ((unhide PS5).below hY) (by rw [unhide HL]; omega) (unhide HRISE) c' s' (unhide HWM)
                have CY := fun Y (hY : Below w5.heap.size w5 Y) => py_xask ((unhide PS5).below hY) (by rw [unhide HL]; omega) c' s'
                obtain ⟨⟨fa, fb⟩, hab⟩ : ∃ r, findOf fs c' s' = r := ⟨_, rfl⟩
                rw [hab] at CK CY
                have CK' := hide CK
                have CY' := hide CY
                clear CK CY hab
                go_wp2_with fail
                refine (unhide CK' _ (unhide EU)).mono ?_
                rintro z w6 ⟨rfl, b6⟩
                have E6 := hide (below_far (unhide EU) b6)
                clear b6 CK'
                go_wp2_with fail
                refine (unhide CY' _ (unhide E6)).mono ?_
                rintro z w7 ⟨rfl, rfl⟩
                have A7 : Hid (PyI w.heap.size w7 p q x fs (j + 1)) := hide ⟨(unhide PS5).below (unhide E6), unhide HRISE, unhide HLEN⟩
                have B7 := hide ((unhide B5).trans ((unhide E6).mono (unhide B5).size))
                clear CY'
                go_wp2
                go_roundw
                case rel => exact ⟨j + 1, fs, by go_num, by omega, unhide A7, unhide B7⟩
                case measure => simp [intOf]; omega
              · have p2 : ¬ (j : Int) < (ns : Int) := by omega
                have CK := fun Y (hY : Below w5.heap.size w5 Y) => py_ask ((unhide PS5).below hY) (by rw [unhide HL]; omega) (unhide HRISE) C S (unhide HWC)
                have CY := fun Y (hY : Below w5.heap.size w5 Y) => py_xask ((unhide PS5).below hY) (by rw [unhide HL]; omega) C S
                obtain ⟨⟨fa, fb⟩, hab⟩ : ∃ r, findOf fs C S = r := ⟨_, rfl⟩
                rw [hab] at CK CY
                have CK' := hide CK
                have CY' := hide CY
                clear CK CY hab
                go_wp2_with fail
                refine (unhide CK' _ (unhide EV)).mono ?_
                rintro z w6 ⟨rfl, b6⟩
                have E6 := hide (below_far (unhide EV) b6)
                clear b6 CK'
                go_wp2_with fail
                refine (unhide CY' _ (unhide E6)).mono ?_
                rintro z w7 ⟨rfl, rfl⟩
                have A7 : Hid (PyI w.heap.size w7 p q x fs (j + 1)) := hide ⟨(unhide PS5).below (unhide E6), unhide HRISE, unhide HLEN⟩
                have B7 := hide ((unhide B5).trans ((unhide E6).mono (unhide B5).size))
                clear CY'
                go_wp2
                go_roundw
                case rel => exact ⟨j + 1, fs, by go_num, by omega, unhide A7, unhide B7⟩
                case measure => simp [intOf]; omega
            · have p1 : ¬ (j : Int) < (nc : Int) := by omega
              have CK := fun Y (hY : Below w5.heap.size w5 Y) => py_ask ((unhide PS5).below hY) (by rw [unhide HL]; omega) (unhide HRISE) C S (unhide HWC)
              have CY := fun Y (hY : Below w5.heap.size w5 Y) => py_xask ((unhide PS5).below hY) (by rw [unhide HL]; omega) C S
              obtain ⟨⟨fa, fb⟩, hab⟩ : ∃ r, findOf fs C S = r := ⟨_, rfl⟩
              rw [hab] at CK CY
              have CK' := hide CK
              have CY' := hide CY
              clear CK CY hab
              go_wp2_with fail
              refine (unhide CK' _ (unhide EV)).mono ?_
              rintro z w6 ⟨rfl, b6⟩
              have E6 := hide (below_far (unhide EV) b6)
              clear b6 CK'
              go_wp2_with fail
              refine (unhide CY' _ (unhide E6)).mono ?_
              rintro z w7 ⟨rfl, rfl⟩
              have A7 : Hid (PyI w.heap.size w7 p q x fs (j + 1)) := hide ⟨(unhide PS5).below (unhide E6), unhide HRISE, unhide HLEN⟩
              have B7 := hide ((unhide B5).trans ((unhide E6).mono (unhide B5).size))
              clear CY'
              go_wp2
              go_roundw
              case rel => exact ⟨j + 1, fs, by go_num, by omega, unhide A7, unhide B7⟩
              case measure => simp [intOf]; omega
        · rw [decide_eq_false hf] at CF
          have CF' := hide CF
          clear CF hf
          go_wp2_with fail
          refine (unhide CF').mono ?_
          rintro e w3 ⟨rfl, b3⟩
          have B3 := hide (below_far (unhide BV) b3)
          clear b3 k0 k1 k2 k3 k4 k5
          have A3 : Hid (PyI w.heap.size w3 p q x es (j + 1)) := hide ⟨(unhide AI).st.below (unhide B3), (unhide AI).rise, Nat.le_succ_of_le (unhide AI).len⟩
          go_wp2_with fail
          go_roundw
          case rel => exact ⟨j + 1, es, by go_num, by omega, unhide A3, (unhide HB).trans ((unhide B3).mono (unhide HB).size)⟩
          case measure => simp [intOf]; omega
      · have q1 : (j : Int) < (n : Int) := by omega
        have q2 : ¬ (j : Int) < 60 := by omega
        go_wp2
        go_ret
        exact ⟨rfl, unhide HB⟩
    · have q1 : ¬ (j : Int) < (n : Int) := by omega
      go_wp2
      go_ret
      exact ⟨rfl, unhide HB⟩
end Go.Proofs.Ytkalpdfigdaalaa
