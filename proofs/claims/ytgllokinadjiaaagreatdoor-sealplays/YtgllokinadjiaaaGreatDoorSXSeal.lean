/- The document's Seal: a contract. -/
import Derived.Test.YtgllokinadjiaaaGreatDoorSXRow
namespace Go.Proofs.YtgllokinadjiaaaGreatDoor
open Go.RowKit Go.Maps
attribute [local go_sem ↓] Go.wp_at_zero Go.wp_at_succ

/-- what a block's first cell holds. -/
def atP (p : Nat) (Y : World) : Value := (Y.cell? ⟨p, 0, none⟩).getD (.bool false)
theorem atP_of {p : Nat} {Y : World} {v : Value} (h : Y.cell? ⟨p, 0, none⟩ = some v) : Y.cell? ⟨p, 0, none⟩ = some (atP p Y) := by unfold atP; rw [h]; rfl
theorem atP_is {p : Nat} {Y : World} {v : Value} (h : Y.cell? ⟨p, 0, none⟩ = some v) : atP p Y = v := by unfold atP; rw [h]; rfl
/-- the last step of Seal: a store into the box. -/
theorem xseal_fin {F : Nat → Prop} {base : Nat} {w y : World} {p : Nat} {v : Value} {gs : List Gn} {cs : Array Value} (hcs : cs.size = 1) (hb : Below w.heap.size w y) (hx : y.heap[p]? = some (.cells cs 49 (0, 0))) (hr : XGs (fun k => F k ∧ k < w.heap.size) base y v gs) (hv : ∀ k, v.ownBlock = some k → w.heap.size ≤ k) (hF : ¬ F p) (hp : base ≤ p) (hpw : p < w.heap.size) :
    XG F base (y.setCell ⟨p, 0, none⟩ v) p v gs ∧ Kp (fun k => k = p) w (y.setCell ⟨p, 0, none⟩ v) := by
  refine ⟨⟨?_, ?_, hp⟩, Kp.setCell (D := fun k => k = p) (Kp.of_below hb) (p := ⟨p, 0, none⟩) rfl v⟩
  · rw [setCell_block hx]
    match cs, hcs with
    | ⟨[c]⟩, _ => rfl
  · refine (hr.mono (G := F) (fun k hk => hk.1)).keep (D := fun k => k = p) (Kp.setCell (D := fun k => k = p) (Kp.refl _ y) (p := ⟨p, 0, none⟩) rfl v) (fun k hk e => hF (e ▸ hk)) (fun k hk e => ?_)
    have := hv k hk
    omega
def XSealOut (F : Nat → Prop) (base : Nat) (w : World) (p : Nat) (r : Int) (gs : List Gn) (x : Ending) (w' : World) : Prop :=
  x = .returned (.int .i64 r) ∧ (r ≠ 0 → Below w.heap.size w w') ∧ (r = 0 → ∃ rv', XG F base w' p rv' gs ∧ Kp (fun k => k = p) w w' ∧ ∀ k, rv'.ownBlock = some k → w.heap.size ≤ k)
set_option maxRecDepth 20000 in
set_option maxHeartbeats 8000000 in
theorem xseal_any {F : Nat → Prop} {base : Nat} {w : World} {p : Nat} {rv : Value} {gs : List Gn} (h : XG F base w p rv gs) (hl : gs.length ≤ 1000) {l : Gn} (hg : gs[gs.length - 1]? = some l) (hFp : ¬ F p) (hbase : base ≤ w.heap.size) (index eng : Int) (xo mo : Option Addr) (xn xc m mc : Nat) (old new : List Int) (hno : old.length = xn) (hnn : new.length = m) (hlo : xn ≤ 1000) (hln : m ≤ 1000) (ho : IntsR w xo old) (hw : InF F w mo new) :
    Calls Tryz.prog 13 #[.pointer (some ⟨p, 0, none⟩), .int .i64 index, .int .i64 eng, .agg #[.slice xo xn xc, .slice mo m mc]] w fun x w' => XSealOut F base w p (sealNo gs l index eng old new) (gs ++ [⟨IntKind.i64.wrap (l.n + 1), eng, index, new⟩]) x w' := by
  obtain ⟨W, hW, bW, xW, -⟩ := boxed w (.slice xo xn xc) (.slice mo m mc)
  obtain ⟨oo, oc, lo', lc, -, -, CN0⟩ := xnow_any h (by omega) hg
  have CN := hide (fun Y (hY : Below W.heap.size W Y) => CN0 Y (below_far bW hY))
  have FB := fun W => xfield_b l.n l.eng l.base _ _ oo lo' 0 oc l.ms.length lc rfl rfl W
  have FN := fun W => xfield_n l.n l.eng l.base _ _ oo lo' 0 oc l.ms.length lc rfl rfl W
  have CE := hide (fun Y => xengine_any eng Y)
  have CC := hide (fun Y (h : Below W.heap.size W Y) => rcheck_any xo mo xn m xc mc old new hno hnn (by omega) (by omega) Y (ho.below (below_far bW h)) (hw.ints.below (below_far bW h)))
  have CJ := hide (fun Y => rjoint_any (.slice xo xn xc) (.slice mo m mc) xo xn xc rfl Y)
  obtain ⟨ck, hck⟩ : ∃ k, checkOf old new = k := ⟨_, rfl⟩
  obtain ⟨R, hR⟩ : ∃ R, sealNo gs l index eng old new = R := ⟨_, rfl⟩
  have hR2 : R = wrongB (decide (l.base < index)) (decide (eng = 1 ∨ eng = 2)) ck (decide (0 < xn)) (decide (60 ≤ gs.length)) := by
    rw [← hR]; unfold sealNo wrongG followsOf; rw [hg, hck, hno]; simp
  rw [hR]
  rw [hck] at CC
  have HR := hide hR2
  unfold xgV at CN
  obtain ⟨ln, hln'⟩ : ∃ k, l.n = k := ⟨_, rfl⟩
  obtain ⟨le, hle⟩ : ∃ k, l.eng = k := ⟨_, rfl⟩
  obtain ⟨lb, hlb⟩ : ∃ k, l.base = k := ⟨_, rfl⟩
  obtain ⟨z, hz⟩ : ∃ k, l.ms.length = k := ⟨_, rfl⟩
  rw [hln', hle, hlb, hz] at CN FB FN
  rw [hlb] at HR
  rw [hln']
  obtain ⟨N, hN⟩ : ∃ N, gs.length = N := ⟨_, rfl⟩
  rw [hN] at HR hl
  have hgN := hg
  obtain ⟨ao, cap, erv, -⟩ := h.row.slice
  rw [hN] at erv
  have pc : W.cell? ⟨p, 0, none⟩ = some (.slice ao N cap) := by rw [← erv]; exact (cell_of_block (Below.stay bW h.box)).trans rfl
  have k0 : W.cell? ⟨w.heap.size, 0, none⟩ = some (.slice xo xn xc) := (cell_of_block xW).trans rfl
  have k1 : W.cell? ⟨w.heap.size, 1, none⟩ = some (.slice mo m mc) := (cell_of_block xW).trans rfl
  have HX := hide h
  have HRV := hide erv
  have HLL := hide hgN
  have HNN := hide (And.intro hN (And.intro hnn (And.intro hw hno)))
  have PC := hide pc
  have XW := hide xW
  have HW := hide hW
  have BW := hide bW
  have HFP := hide hFp
  clear CN0 h hg hgN hFp hno hnn ho hw hck hR hR2 hln' hle hlb hz hN erv xW hW bW pc
  by_cases g1 : index ≤ lb
  · have r1 : R = 1 := by rw [unhide HR, wrongB_first (Or.inl (by simp; omega))]
    subst r1
    clear HR CE CC CJ FN
    go_enter Tryz.func13, Tryz.ntmps13
    go_upto_region 1 with fail
    rw [unhide HW]
    go_wp2_with fail
    refine (unhide CN _ (Below.refl _ _)).mono ?_
    rintro x w1 ⟨rfl, b1⟩
    have B1 := hide (below_far (unhide BW) b1)
    clear b1
    go_wp2
    go_ret
    exact ⟨rfl, fun _ => unhide B1, fun h => absurd h (by decide)⟩
  · by_cases g2 : eng = 1 ∨ eng = 2
    · have CE1 := hide (fun Y => by have := unhide CE Y; rw [decide_eq_true g2] at this; exact this)
      have r1 : R = if ck ≠ 0 then (ck : Int) else if decide (0 < xn) = true then 1 else if decide (60 ≤ N) = true then 4 else 0 := by
        rw [unhide HR, wrongB_rest (by simp; omega) (decide_eq_true g2)]
      have HR1 := hide r1
      clear HR CE r1 g2
      go_enter Tryz.func13, Tryz.ntmps13
      go_upto_region 1 with fail
      rw [unhide HW]
      go_wp2_with fail
      refine (unhide CN _ (Below.refl _ _)).mono ?_
      rintro x w1 ⟨rfl, b1⟩
      have B1 := hide b1
      have x1 := Below.stay b1 (unhide XW)
      have k0' : w1.cell? ⟨w.heap.size, 0, none⟩ = some (.slice xo xn xc) := (cell_of_block x1).trans rfl
      have k1' : w1.cell? ⟨w.heap.size, 1, none⟩ = some (.slice mo m mc) := (cell_of_block x1).trans rfl
      clear b1 x1 k0 k1
      go_wp2_with fail
      refine (unhide CE1 _).mono ?_
      rintro x w2 ⟨rfl, rfl⟩
      go_wp2_with fail
      refine (unhide CC _ (unhide B1)).mono ?_
      rintro x w3 ⟨rfl, b3⟩
      have B3 := hide (below_far (unhide B1) b3)
      have x3 := Below.stay (unhide B3) (unhide XW)
      have k0 : w3.cell? ⟨w.heap.size, 0, none⟩ = some (.slice xo xn xc) := (cell_of_block x3).trans rfl
      have k1 : w3.cell? ⟨w.heap.size, 1, none⟩ = some (.slice mo m mc) := (cell_of_block x3).trans rfl
      clear b3 x3 k0' k1'
      by_cases g4 : ck = 0
      · subst g4
        by_cases g5 : 0 < xn
        · have r2 : R = 1 := by rw [unhide HR1, if_neg (by simp), if_pos (decide_eq_true g5)]
          subst r2
          have CJ1 := hide (fun Y => by have := unhide CJ Y; rw [decide_eq_true g5] at this; exact this)
          clear HR1 CJ
          go_wp2_with fail
          refine (unhide CJ1 _).mono ?_
          rintro x w4 ⟨rfl, b4⟩
          have B4 := hide (below_far (below_far (unhide BW) (unhide B3)) b4)
          clear b4
          go_wp2
          go_ret
          exact ⟨rfl, fun _ => unhide B4, fun h => absurd h (by decide)⟩
        · obtain rfl : xn = 0 := by omega
          have CJ1 := hide (fun Y => by have := unhide CJ Y; rw [decide_eq_false g5] at this; exact this)
          clear CJ
          go_wp2_with fail
          refine (unhide CJ1 _).mono ?_
          rintro x w4 ⟨rfl, b4⟩
          have B4 := hide (below_far (unhide B3) b4)
          have x4 := Below.stay (unhide B4) (unhide XW)
          have k0' : w4.cell? ⟨w.heap.size, 0, none⟩ = some (.slice xo 0 xc) := (cell_of_block x4).trans rfl
          have k1' : w4.cell? ⟨w.heap.size, 1, none⟩ = some (.slice mo m mc) := (cell_of_block x4).trans rfl
          have pc4 := ((unhide B4).cell (blk_lt (unhide PC))).trans (unhide PC)
          clear b4 x4 k0 k1 CJ1 CC CE1
          by_cases g6 : 60 ≤ N
          · have r2 : R = 4 := by rw [unhide HR1, if_neg (by simp), if_neg (by simp), if_pos (decide_eq_true g6)]
            subst r2
            have q6 : (N : Int) ≥ 60 := by omega
            clear HR1
            go_wp2
            go_ret
            exact ⟨rfl, fun _ => below_far (unhide BW) (unhide B4), fun h => absurd h (by decide)⟩
          · have r2 : R = 0 := by rw [unhide HR1, if_neg (by simp), if_neg (by simp), if_neg (by simp [g6])]
            subst r2
            have q6 : ¬ (N : Int) ≥ 60 := by omega
            clear HR1
            have hN0 : 0 < N := by
              have := (unhide HNN).1
              have h0 := (List.getElem?_eq_some_iff.1 (unhide HLL)).1
              omega
            obtain ⟨bb, rfl⟩ : ∃ b, ao = some ⟨b, 0, none⟩ := by
              have hr := (unhide HX).row
              rw [unhide HRV] at hr
              obtain ⟨b, oo, oc, mo, mc, e, -⟩ := hr.at (unhide HLL)
              exact ⟨b, e⟩
            have hpw : p < w.heap.size := heap_lt (unhide HX).box
            have sWw : w.heap.size ≤ W.heap.size := (unhide BW).size
            have bwW := unhide BW
            -- the row in any later world
            have hrowY : ∀ Y, Below W.heap.size W Y → XGs (fun k => F k ∧ k < w.heap.size) base Y (.slice (some ⟨bb, 0, none⟩) N cap) gs := fun Y hY => by
              have hr := (unhide HX).row.inside.below (below_far bwW hY)
              rw [unhide HRV] at hr; exact hr
            have CAT := hide (fun (Y : World) (g : Nat) (hE : EmpG W Y g) => cat_emp hE (Nat.le_trans hbase sWw) (fun k (hk : F k ∧ k < w.heap.size) => Nat.lt_of_lt_of_le hk.2 sWw) bb N cap gs (unhide HNN).1 hl (hrowY Y hE.bl))
            have HFw : ∀ k, (F k ∧ k < w.heap.size) → k < W.heap.size := fun k hk => Nat.lt_of_lt_of_le hk.2 sWw
            have himW : InF (fun k => F k ∧ k < w.heap.size) W mo new := fun j hj => by
              obtain ⟨a, a1, a2, a3⟩ := (unhide HNN).2.2.1 j hj
              exact ⟨a, a1, ⟨a2, by have := blk_lt a3; rwa [add_block] at this⟩, (bwW.cell (blk_lt a3)).trans a3⟩
            have ONE := hide (fun (Y : World) (nb : Nat) (v : Value) (hr : XGs (fun k => F k ∧ k < w.heap.size) base Y v gs) (hbl : Below W.heap.size W Y) (hown : ∀ k, v.ownBlock = some k → W.heap.size ≤ k) (hx : Y.heap[nb]? = some (.cells #[.int .i64 (IntKind.i64.wrap (ln + 1)), .int .i64 eng, .int .i64 index, .slice xo 0 xc, .slice mo m mc] 26 (0, 0))) =>
              one_row (p := p) hr hbl hown (Nat.le_trans hbase sWw) HFw ⟨IntKind.i64.wrap (ln + 1), eng, index, new⟩ xo mo xc m mc hx (unhide HNN).2.1 himW hln (by rw [(unhide HNN).1]; exact hl))
            have CN2 := hide (fun (Y : World) (hY : Below W.heap.size W Y) => show Calls Tryz.prog 11 #[.pointer (some ⟨p, 0, none⟩)] Y fun e w' => e = .returned (.agg #[.int .i64 ln, .int .i64 le, .int .i64 lb, .slice oo 0 oc, .slice lo' z lc]) ∧ Below W.heap.size W w' ∧ KeepAll Y w' ∧ Below Y.heap.size Y w' from
              (unhide CN Y hY).mono (fun e w' h => ⟨h.1, below_far hY h.2, fun k o hk => Below.stay h.2 hk, h.2⟩))
            have PX := hide (fun (Y : World) (hY : Below W.heap.size W Y) => (hY.cell (blk_lt (unhide PC))).trans (unhide PC))
            have SX := hide (fun (Y : World) (hY : Below W.heap.size W Y) => show Y.cell? ⟨w.heap.size, 0, none⟩ = some (.slice xo 0 xc) ∧ Y.cell? ⟨w.heap.size, 1, none⟩ = some (.slice mo m mc) from
              ⟨(cell_of_block (Below.stay hY (unhide XW))).trans rfl, (cell_of_block (Below.stay hY (unhide XW))).trans rfl⟩)
            have FINX := hide (fun (v : Value) (Y : World) (h : OneG (fun k => F k ∧ k < w.heap.size) base W p (gs ++ [⟨IntKind.i64.wrap (ln + 1), eng, index, new⟩]) v Y) => show (Y.cell? ⟨p, 0, none⟩ = some (.slice (some ⟨bb, 0, none⟩) N cap) ∧ Y.frozen? ⟨p, 0, none⟩ = false) ∧ (XG F base (Y.setCell ⟨p, 0, none⟩ v) p v (gs ++ [⟨IntKind.i64.wrap (ln + 1), eng, index, new⟩]) ∧ Kp (fun k => k = p) w (Y.setCell ⟨p, 0, none⟩ v)) ∧ ∀ k, v.ownBlock = some k → w.heap.size ≤ k from by
              have hbx := Below.stay (below_far bwW h.bl) (unhide HX).box
              refine ⟨⟨(h.bl.cell (blk_lt (unhide PC))).trans (unhide PC), free_of_block hbx⟩, xseal_fin rfl (below_far bwW h.bl) hbx h.row (fun k hk => Nat.le_trans sWw (h.own k hk)) (unhide HFP) (unhide HX).lo hpw, fun k hk => Nat.le_trans sWw (h.own k hk)⟩)
            have EZ := hide (unhide B4)
            have hbd := (unhide B4).drew
            clear B3 B4 hrowY himW HFw CN
            go_upto_region 9 with fail
            clear pc4 k0' k1'
            have PA := hide (fun (Z : World) (hZ : Below W.heap.size W Z) => And.intro (unhide PX Z hZ) (And.intro (unhide PX _ hZ.drew) (And.intro (fun o => unhide PX _ (hZ.alloc hZ.size o)) (And.intro (fun o => unhide PX _ (hZ.alloc hZ.size o).drew) (And.intro (fun o o2 => unhide PX _ ((hZ.alloc hZ.size o).alloc (hZ.alloc hZ.size o).size o2)) (fun o o2 => unhide PX _ ((hZ.alloc hZ.size o).alloc (hZ.alloc hZ.size o).size o2).drew))))))
            have QA := hide (fun (Z : World) (hZ : Below W.heap.size W Z) => And.intro (unhide SX Z hZ) (And.intro (unhide SX _ hZ.drew) (And.intro (fun o => unhide SX _ (hZ.alloc hZ.size o)) (And.intro (fun o => unhide SX _ (hZ.alloc hZ.size o).drew) (And.intro (fun o o2 => unhide SX _ ((hZ.alloc hZ.size o).alloc (hZ.alloc hZ.size o).size o2)) (fun o o2 => unhide SX _ ((hZ.alloc hZ.size o).alloc (hZ.alloc hZ.size o).size o2).drew))))))
            obtain ⟨pa0, pa1, pa2, pa3, pa4, pa5⟩ := unhide PA w4 (unhide EZ)
            obtain ⟨⟨qa0, ra0⟩, ⟨qa1, ra1⟩, qa2, qa3, qa4, qa5⟩ := unhide QA w4 (unhide EZ)
            clear hbd
            go_region_law (first
                | (refine step_now (.tmp 39) rfl rfl _ rfl _ _ (unhide CN2 _ (by first | exact unhide EZ | exact (unhide EZ).drew | exact ((unhide EZ).alloc (unhide EZ).size _) | exact ((unhide EZ).alloc (unhide EZ).size _).drew | fail)) ?_
                   rintro z1 ⟨bz, hk, bz2⟩
                   first
                     | (have H2 := hide ((unhide H1).below bz2); clear H1; have H1 := H2; clear H2)
                     | skip
                   first
                     | (have ET := hide (EmpG.keep (EmpG.one (unhide EZ)).drew hk bz))
                     | (have ET := hide (EmpG.keep (EmpG.one (unhide EZ)) hk bz))
                     | skip
                   clear EZ
                   have EZ := hide bz
                   clear bz hk bz2
                   clear pa0 pa1 pa2 pa3 pa4 pa5 qa0 ra0 qa1 ra1 qa2 qa3 qa4 qa5
                   obtain ⟨pa0, pa1, pa2, pa3, pa4, pa5⟩ := unhide PA z1 (unhide EZ)
                   obtain ⟨⟨qa0, ra0⟩, ⟨qa1, ra1⟩, qa2, qa3, qa4, qa5⟩ := unhide QA z1 (unhide EZ))
                | (refine step_cat (.tmp 33) (.tmp 37) rfl rfl rfl rfl _ (unhide CAT _ _ (EmpG.one (unhide EZ)).drew) ?_
                   intro v1 z38 hc
                   obtain ⟨a1, c1, e1, -⟩ := hc.row.slice
                   rw [(unhide HNN).1] at e1
                   subst e1
                   first
                     | (have XB := hide (hc.kept _ _ (box_at z1 _) (Nat.ne_of_gt (heap_lt (unhide ET).at'))))
                     | (have XB := hide (hc.kept _ _ (two_snd z1 _ _) (Nat.succ_ne_self _)))
                     | (have XB := hide (hc.kept _ _ (two_fst z1 _ _) (Nat.ne_of_lt (Nat.lt_succ_self _))))
                     | skip
                   have H1 := hide hc.row
                   have O1 := hide hc.own
                   clear EZ
                   have EZ := hide hc.bl
                   clear hc
                   clear pa0 pa1 pa2 pa3 pa4 pa5 qa0 ra0 qa1 ra1 qa2 qa3 qa4 qa5
                   obtain ⟨pa0, pa1, pa2, pa3, pa4, pa5⟩ := unhide PA z38 (unhide EZ)
                   obtain ⟨⟨qa0, ra0⟩, ⟨qa1, ra1⟩, qa2, qa3, qa4, qa5⟩ := unhide QA z38 (unhide EZ))
                | (refine step_cat (.tmp 33) (.tmp 37) rfl rfl rfl rfl _ (unhide CAT _ _ (unhide ET)) ?_
                   intro v1 z38 hc
                   obtain ⟨a1, c1, e1, -⟩ := hc.row.slice
                   rw [(unhide HNN).1] at e1
                   subst e1
                   first
                     | (have XB := hide (hc.kept _ _ (box_at z1 _) (Nat.ne_of_gt (heap_lt (unhide ET).at'))))
                     | (have XB := hide (hc.kept _ _ (two_snd z1 _ _) (Nat.succ_ne_self _)))
                     | (have XB := hide (hc.kept _ _ (two_fst z1 _ _) (Nat.ne_of_lt (Nat.lt_succ_self _))))
                     | skip
                   have H1 := hide hc.row
                   have O1 := hide hc.own
                   clear EZ
                   have EZ := hide hc.bl
                   clear hc
                   clear pa0 pa1 pa2 pa3 pa4 pa5 qa0 ra0 qa1 ra1 qa2 qa3 qa4 qa5
                   obtain ⟨pa0, pa1, pa2, pa3, pa4, pa5⟩ := unhide PA z38 (unhide EZ)
                   obtain ⟨⟨qa0, ra0⟩, ⟨qa1, ra1⟩, qa2, qa3, qa4, qa5⟩ := unhide QA z38 (unhide EZ))
                | (refine step_cat (.tmp 33) (.tmp 37) rfl rfl rfl rfl _ (unhide CAT _ _ (EmpG.one (unhide EZ))) ?_
                   intro v1 z38 hc
                   obtain ⟨a1, c1, e1, -⟩ := hc.row.slice
                   rw [(unhide HNN).1] at e1
                   subst e1
                   first
                     | (have XB := hide (hc.kept _ _ (box_at z1 _) (Nat.ne_of_gt (heap_lt (unhide ET).at'))))
                     | (have XB := hide (hc.kept _ _ (two_snd z1 _ _) (Nat.succ_ne_self _)))
                     | (have XB := hide (hc.kept _ _ (two_fst z1 _ _) (Nat.ne_of_lt (Nat.lt_succ_self _))))
                     | skip
                   have H1 := hide hc.row
                   have O1 := hide hc.own
                   clear EZ
                   have EZ := hide hc.bl
                   clear hc
                   clear pa0 pa1 pa2 pa3 pa4 pa5 qa0 ra0 qa1 ra1 qa2 qa3 qa4 qa5
                   obtain ⟨pa0, pa1, pa2, pa3, pa4, pa5⟩ := unhide PA z38 (unhide EZ)
                   obtain ⟨⟨qa0, ra0⟩, ⟨qa1, ra1⟩, qa2, qa3, qa4, qa5⟩ := unhide QA z38 (unhide EZ))
                | (refine step_cat (.tmp 33) (.tmp 37) rfl rfl rfl rfl _ (unhide CAT _ _ ((unhide ET).alloc _)) ?_
                   intro v1 z38 hc
                   obtain ⟨a1, c1, e1, -⟩ := hc.row.slice
                   rw [(unhide HNN).1] at e1
                   subst e1
                   first
                     | (have XB := hide (hc.kept _ _ (box_at z1 _) (Nat.ne_of_gt (heap_lt (unhide ET).at'))))
                     | (have XB := hide (hc.kept _ _ (two_snd z1 _ _) (Nat.succ_ne_self _)))
                     | (have XB := hide (hc.kept _ _ (two_fst z1 _ _) (Nat.ne_of_lt (Nat.lt_succ_self _))))
                     | skip
                   have H1 := hide hc.row
                   have O1 := hide hc.own
                   clear EZ
                   have EZ := hide hc.bl
                   clear hc
                   clear pa0 pa1 pa2 pa3 pa4 pa5 qa0 ra0 qa1 ra1 qa2 qa3 qa4 qa5
                   obtain ⟨pa0, pa1, pa2, pa3, pa4, pa5⟩ := unhide PA z38 (unhide EZ)
                   obtain ⟨⟨qa0, ra0⟩, ⟨qa1, ra1⟩, qa2, qa3, qa4, qa5⟩ := unhide QA z38 (unhide EZ))
                | (refine step_cat (.tmp 33) (.tmp 37) rfl rfl rfl rfl _ (unhide CAT _ _ ((EmpG.one (unhide EZ)).alloc _)) ?_
                   intro v1 z38 hc
                   obtain ⟨a1, c1, e1, -⟩ := hc.row.slice
                   rw [(unhide HNN).1] at e1
                   subst e1
                   first
                     | (have XB := hide (hc.kept _ _ (box_at z1 _) (Nat.ne_of_gt (heap_lt (unhide ET).at'))))
                     | (have XB := hide (hc.kept _ _ (two_snd z1 _ _) (Nat.succ_ne_self _)))
                     | (have XB := hide (hc.kept _ _ (two_fst z1 _ _) (Nat.ne_of_lt (Nat.lt_succ_self _))))
                     | skip
                   have H1 := hide hc.row
                   have O1 := hide hc.own
                   clear EZ
                   have EZ := hide hc.bl
                   clear hc
                   clear pa0 pa1 pa2 pa3 pa4 pa5 qa0 ra0 qa1 ra1 qa2 qa3 qa4 qa5
                   obtain ⟨pa0, pa1, pa2, pa3, pa4, pa5⟩ := unhide PA z38 (unhide EZ)
                   obtain ⟨⟨qa0, ra0⟩, ⟨qa1, ra1⟩, qa2, qa3, qa4, qa5⟩ := unhide QA z38 (unhide EZ))
                | (refine step_cat (.tmp 33) (.tmp 37) rfl rfl rfl rfl _ (unhide CAT _ _ (EmpG.two (unhide EZ) _)) ?_
                   intro v1 z38 hc
                   obtain ⟨a1, c1, e1, -⟩ := hc.row.slice
                   rw [(unhide HNN).1] at e1
                   subst e1
                   first
                     | (have XB := hide (hc.kept _ _ (box_at z1 _) (Nat.ne_of_gt (heap_lt (unhide ET).at'))))
                     | (have XB := hide (hc.kept _ _ (two_snd z1 _ _) (Nat.succ_ne_self _)))
                     | (have XB := hide (hc.kept _ _ (two_fst z1 _ _) (Nat.ne_of_lt (Nat.lt_succ_self _))))
                     | skip
                   have H1 := hide hc.row
                   have O1 := hide hc.own
                   clear EZ
                   have EZ := hide hc.bl
                   clear hc
                   clear pa0 pa1 pa2 pa3 pa4 pa5 qa0 ra0 qa1 ra1 qa2 qa3 qa4 qa5
                   obtain ⟨pa0, pa1, pa2, pa3, pa4, pa5⟩ := unhide PA z38 (unhide EZ)
                   obtain ⟨⟨qa0, ra0⟩, ⟨qa1, ra1⟩, qa2, qa3, qa4, qa5⟩ := unhide QA z38 (unhide EZ))
                | (refine step_cat (.tmp 38) (.tmp 47) rfl rfl rfl rfl _ (unhide ONE _ _ _ ((unhide H1).below ((Below.refl _ _).alloc (Nat.le_refl _) _)) ((unhide EZ).alloc (unhide EZ).size _) (unhide O1) (box_at _ _)) ?_
                   intro v2 z2 ho
                   obtain ⟨a2, c2, e2, -⟩ := ho.row.slice
                   rw [List.length_append, (unhide HNN).1] at e2
                   subst e2
                   obtain ⟨⟨pz, fz⟩, -⟩ := unhide FINX _ _ ho
                   have FIN := hide (unhide FINX _ _ ho).2
                   clear ho)
                | (refine step_cat (.tmp 38) (.tmp 47) rfl rfl rfl rfl _ (unhide ONE _ _ _ (unhide H1) (unhide EZ) (unhide O1) (unhide XB)) ?_
                   intro v2 z2 ho
                   obtain ⟨a2, c2, e2, -⟩ := ho.row.slice
                   rw [List.length_append, (unhide HNN).1] at e2
                   subst e2
                   obtain ⟨⟨pz, fz⟩, -⟩ := unhide FINX _ _ ho
                   have FIN := hide (unhide FINX _ _ ho).2
                   clear ho)
                | fail)
            all_goals go_wp2
            all_goals go_ret
            all_goals exact ⟨rfl, fun h => absurd rfl h, fun _ => ⟨_, (unhide FIN).1.1, (unhide FIN).1.2, (unhide FIN).2⟩⟩
      · have r2 : R = (ck : Int) := by rw [unhide HR1, if_pos g4]
        subst r2
        have q4 : ((ck : Int) != 0) = true := by rw [bne_iff_ne]; omega
        have HC0 : Hid ((ck : Int) ≠ 0) := hide (by omega)
        clear HR1 CJ g4
        go_wp2_with fail
        refine (unhide CC _ (unhide B3)).mono ?_
        rintro x w4 ⟨rfl, b4⟩
        have B4 := hide (below_far (below_far (unhide BW) (unhide B3)) b4)
        clear b4
        go_wp2
        go_ret
        exact ⟨rfl, fun _ => unhide B4, fun h => absurd h (unhide HC0)⟩
    · have r1 : R = 1 := by rw [unhide HR, wrongB_first (Or.inr (decide_eq_false g2))]
      subst r1
      have CE1 := hide (fun Y => by have := unhide CE Y; rw [decide_eq_false g2] at this; exact this)
      clear HR CE CC CJ g2
      go_enter Tryz.func13, Tryz.ntmps13
      go_upto_region 1 with fail
      rw [unhide HW]
      go_wp2_with fail
      refine (unhide CN _ (Below.refl _ _)).mono ?_
      rintro x w1 ⟨rfl, b1⟩
      have B1 := hide (below_far (unhide BW) b1)
      clear b1
      go_wp2_with fail
      refine (unhide CE1 _).mono ?_
      rintro x w2 ⟨rfl, rfl⟩
      go_wp2
      go_ret
      exact ⟨rfl, fun _ => unhide B1, fun h => absurd h (by decide)⟩
end Go.Proofs.YtgllokinadjiaaaGreatDoor
