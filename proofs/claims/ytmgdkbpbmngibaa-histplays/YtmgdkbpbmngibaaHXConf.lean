/- The document's own log: Config: a contract. -/
import Derived.Test.YtmgdkbpbmngibaaHConf2
import Derived.Test.YtmgdkbpbmngibaaHRefE
import Derived.Test.YtmgdkbpbmngibaaHXFrom
namespace Go.Proofs.Ytmgdkbpbmngibaa
open Go.RowKit Go.Maps
attribute [local go_sem ↓] Go.wp_at_zero Go.wp_at_succ

theorem Cf.parts {w : World} {s0 s1 : Value} {o n : List Int} (h : Cf w (.agg #[s0, s1]) o n) : (∀ v, s0 ≠ .int .i64 v) ∧ ∀ v, s1 ≠ .int .i64 v := by
  obtain ⟨_, _, _, _, _, _, e, _⟩ := h
  simp only [Value.agg.injEq, Array.mk.injEq, List.cons.injEq, and_true] at e
  obtain ⟨rfl, rfl⟩ := e
  exact ⟨fun v h => (by cases h), fun v h => (by cases h)⟩
/-- a configuration laid into a box of two slices. -/
theorem cf_laid {z : World} {B : Nat} {s0 s1 x0 x1 u0 u1 : Value} {o n o' n' : List Int} (hB : z.heap[B]? = some (.cells #[s0, s1] 34 (0, 0))) (hs : (∀ v, s0 ≠ .int .i64 v) ∧ ∀ v, s1 ≠ .int .i64 v) (hc : Cf z (.agg #[x0, x1]) o n) (hu : Cf z (.agg #[u0, u1]) o' n') {W : World} (hW : (z.setCell ⟨B, 0, none⟩ x0).setCell ⟨B, 1, none⟩ x1 = W) :
    W.heap[B]? = some (.cells #[x0, x1] 34 (0, 0)) ∧ Cf W (.agg #[x0, x1]) o n ∧ Cf W (.agg #[u0, u1]) o' n' ∧ Kp (fun k => k = B) z W := by
  subst hW
  have ho : ∀ k, k ≠ B → ((z.setCell ⟨B, 0, none⟩ x0).setCell ⟨B, 1, none⟩ x1).heap[k]? = z.heap[k]? := fun k hk => by rw [Below.heap_setCell _ _ _ k hk, Below.heap_setCell _ _ _ k hk]
  exact ⟨two_box hB, hc.box hB hs.1 hs.2 ho, hu.box hB hs.1 hs.2 ho, two_kp z B _ _⟩

set_option maxHeartbeats 8000000 in
set_option maxRecDepth 1000000 in
theorem xconfig_any {base : Nat} {D : Nat → Prop} {w : World} {p : Nat} {b : Int} {rs : List Rw} (h : Xs base D w p b rs) (hr : rs.length ≤ 1000000) (hbase : base ≤ w.heap.size) (v : Value) (old new : List Int) (hlo : old.length ≤ 1000000) (hln : new.length ≤ 1000000) (hc : Cf w v old new) :
    Calls Try.prog 28 #[.pointer (some ⟨p, 0, none⟩), v] w fun x w' => ∃ v', x = .returned v' ∧ Cf w' v' (cfOf (old, new) (rs.map (·.2))).1 (cfOf (old, new) (rs.map (·.2))).2 ∧ Below w.heap.size w w' := by
  have hc0 := hc
  obtain ⟨ao, no, co, an, nn, cn, rfl, hno, hoc, fo, hnn, hnc, fn⟩ := hc
  obtain ⟨W, hW⟩ : ∃ W, (w.alloc (.cells #[.slice ao no co, .slice an nn cn] 34)).alloc cfZ = W := ⟨_, rfl⟩
  have bW : Below w.heap.size w W := by rw [← hW]; exact ((Below.refl _ w).alloc (Nat.le_refl _) _).alloc (by simp) _
  have x0 : W.heap[w.heap.size]? = some (.cells #[.slice ao no co, .slice an nn cn] 34 (0, 0)) := by rw [← hW]; exact (Below.heap_alloc _ _ _ (by simp)).trans (box_at _ _)
  have x1 : W.heap[w.heap.size + 1]? = some cfZ := by
    have := box_at (w.alloc (.cells #[.slice ao no co, .slice an nn cn] 34)) cfZ
    rw [hW] at this
    simpa using this
  have sW : w.heap.size + 2 ≤ W.heap.size := by have := heap_lt x1; omega
  obtain ⟨C, hC⟩ : ∃ C, w.heap.size = C := ⟨_, rfl⟩
  obtain ⟨⟨tv, ev, hbx, h2, h3, h4, h5⟩, hDp, hDl, hDb⟩ := h
  obtain ⟨ea, ec, rfl, hec, hem⟩ := h3.slice
  obtain ⟨ES, hES⟩ : ∃ ES, rs.map (·.2) = ES := ⟨_, rfl⟩
  obtain ⟨n, hn⟩ : ∃ n, ES.length = n := ⟨_, rfl⟩
  have hnr : n ≤ 1000000 := by rw [← hn, ← hES, List.length_map]; exact hr
  rw [hES] at h3 hbx h5 hec ⊢
  rw [hn] at h3 hbx h5 hec
  have HX3 := hide h3
  have HBX := hide hbx
  have PLT : Hid (p < C) := by show _ < _; rw [← hC]; exact hDl p hDp
  have OLT : Hid (∀ k, (Value.slice ea n ec).ownBlock = some k → k < C) := fun k hk => by rw [← hC]; exact hDl k (h5 k hk)
  have BS : Hid (base ≤ C) := by show _ ≤ _; rw [← hC]; exact hbase
  rw [hC] at x0 x1 sW
  have X0 := hide x0
  have X1 := hide x1
  have CF0 := hide (hc0.below bW)
  have HN := hide hn
  have HW := hide hW
  have BW := hide bW
  have HC := hide hC
  clear hW bW x0 x1 hno hnn hoc fo hnc fn hc0 hbx h2 h3 h4 h5 hDp hDl hDb hn hES hr hem hC
  go_enter Try.func28, Try.ntmps28
  go_wp2_with fail
  rw [show (w.alloc (.cells #[.slice ao no co, .slice an nn cn] 34)).alloc (.cells #[.slice none 0 0, .slice none 0 0] 34) = W from unhide HW, unhide HC]
  clear HW
  go_loopw [5, 6, 7] (fun iv _ _ wr => ∃ (k : Nat) (s0 s1 : Value) (o' n' : List Int), k ≤ n ∧ iv = .int .i64 (k : Int) ∧ wr.heap[C]? = some (.cells #[s0, s1] 34 (0, 0)) ∧ Cf wr (.agg #[s0, s1]) o' n' ∧ cfOf (old, new) (ES.take k) = (o', n') ∧ o'.length ≤ 1000000 ∧ n'.length ≤ 1000000 ∧ Kp (fun j => j = C) W wr) (fun iv _ _ _ => n - (intOf iv).toNat)
  case atStart => exact ⟨0, _, _, old, new, Nat.zero_le _, rfl, unhide X0, unhide CF0, by rw [List.take_zero]; rfl, hlo, hln, Kp.refl _ _⟩
  case round =>
    obtain ⟨k, s0, s1, o', n', hk, rfl, hbk, cfk, hof, lo, ln, kpk⟩ := hrel
    have S01 := hide cfk.parts
    have bxr : wr.heap[p]? = some (.cells #[.int .i64 b, tv, .slice ea n ec] 32 (0, 0)) := kpk.block (Below.stay (unhide BW) (unhide HBX)) (fun e => by have := unhide PLT; omega)
    obtain ⟨-, -, d2⟩ := three_cells bxr
    obtain ⟨e0, e1⟩ := two_cells hbk
    have HBK := hide hbk
    have CFK := hide cfk
    have HOF := hide hof
    have KPK := hide kpk
    have BXR := hide bxr
    clear hbk hof kpk cfk bxr
    by_cases hlt : k < n
    · obtain ⟨e, he⟩ : ∃ e, ES[k]? = some e := ⟨_, List.getElem?_eq_getElem (by rw [unhide HN]; exact hlt)⟩
      have x3r : XRow base wr (.slice ea n ec) ES := ((unhide HX3).belowX (unhide BW) (by have := unhide BS; rw [unhide HC]; exact this)).kp (unhide KPK) (fun j hj e => by have := unhide OLT j hj; omega) (fun j hj => by rw [hj]; exact unhide BS)
      obtain ⟨g, mo, mc, rfl, hcl, hin, hml⟩ := x3r.at he
      obtain ⟨f0, f1, f2, f3, f4, f5⟩ := En.six (w := wr) hcl
      have hsn := cf_snoc (old, new) ES k e he
      rw [unhide HOF] at hsn
      have hl2 := cf_len (M := 1000000) (c := (o', n')) (e := e) lo ln hml
      have cfk := unhide CFK
      obtain ⟨ao', no', co', an', nn', cn', ee, hno', hoc', fo', hnn', hnc', fn'⟩ := cfk
      simp only [Value.agg.injEq, Array.mk.injEq, List.cons.injEq, and_true] at ee
      obtain ⟨rfl, rfl⟩ := ee
      have EN := hide (fun Y (hY : Below wr.heap.size wr Y) => renter_hi ao' an' mo no' nn' e.ms.length co' cn' mc o' n' e.ms hno' hnn' rfl (by omega) (by omega) hml Y (fn'.1.below hY) (hin.ints.below hY))
      have LE := hide (fun Y (hY : Below wr.heap.size wr Y) => rleave_hi ao' an' no' nn' co' cn' o' n' hno' hnn' (by omega) Y (fn'.1.below hY))
      obtain ⟨z, hz⟩ : ∃ z, e.ms.length = z := ⟨_, rfl⟩
      rw [hz] at f4 EN
      obtain ⟨kd, hkd⟩ : ∃ kd, e.kind = kd := ⟨_, rfl⟩
      rw [hkd] at f0
      obtain ⟨Y1, hY1⟩ : ∃ Y1, wr.alloc (.cells #[.slice ao' no' co', .slice an' nn' cn'] 34) = Y1 := ⟨_, rfl⟩
      have bY1 : Below wr.heap.size wr Y1 := by rw [← hY1]; exact (Below.refl _ wr).alloc (Nat.le_refl _) _
      have xN : Y1.heap[wr.heap.size]? = some (.cells #[.slice ao' no' co', .slice an' nn' cn'] 34 (0, 0)) := by rw [← hY1]; exact box_at _ _
      have xC := Below.stay bY1 (unhide HBK)
      have NE : Hid (wr.heap.size ≠ C) := by show _ ≠ _; have := heap_lt (unhide HBK); omega
      have qk : (k : Int) < (n : Int) := by omega
      have BY1 := hide bY1
      have XN := hide xN
      have XC := hide xC
      have HSN := hide hsn
      have HL2 := hide hl2
      have SX := hide (fun (Y : World) (hY : Below wr.heap.size wr Y) => (And.intro ((hY.cell (blk_lt e0)).trans e0) (And.intro ((hY.cell (blk_lt e1)).trans e1) (And.intro ((hY.cell (blk_lt d2)).trans d2) ((hY.cell (blk_lt f4)).trans f4))) : Y.cell? ⟨C, 0, none⟩ = some (.slice ao' no' co') ∧ Y.cell? ⟨C, 1, none⟩ = some (.slice an' nn' cn') ∧ Y.cell? ⟨p, 2, none⟩ = some (.slice (some ⟨g, 0, none⟩) n ec) ∧ Y.cell? ⟨g, k * 6 + 4, none⟩ = some (.slice mo z mc)))
      have HY1 := hide hY1
      have HKD := hide hkd
      -- the end of a round in which c is set
      have FIN : Hid (∀ (Z Z2 : World) (x0 x1 : Value) (oo nn : List Int), Kp (fun j => j = C ∨ W.heap.size ≤ j) W Z → Z.heap[C]? = some (.cells #[.slice ao' no' co', .slice an' nn' cn'] 34 (0, 0)) → Cf Z (.agg #[x0, x1]) oo nn → cfStep (o', n') e = (oo, nn) → (Z.setCell ⟨C, 0, none⟩ x0).setCell ⟨C, 1, none⟩ x1 = Z2 → Z2.heap[C]? = some (.cells #[x0, x1] 34 (0, 0)) ∧ Cf Z2 (.agg #[x0, x1]) oo nn ∧ cfOf (old, new) (ES.take (k + 1)) = (oo, nn) ∧ oo.length ≤ 1000000 ∧ nn.length ≤ 1000000 ∧ Kp (fun j => j = C) W Z2) := by
        intro Z Z2 x0 x1 oo nn hk hZ hc he hz
        obtain ⟨l1, l2, -, l4⟩ := cf_laid hZ (unhide S01) hc hc hz
        have h1 := unhide HSN
        have h2 := unhide HL2
        rw [he] at h1 h2
        exact ⟨l1, l2, h1, h2.1, h2.2, (hk.mono (fun j hj x => x.elim (fun y => y) (fun y => by omega))).trans l4 (fun _ _ x => x)⟩
      have STAY : Hid (∀ (Z : World) , Kp (fun j => j = C ∨ W.heap.size ≤ j) W Z → Z.heap[C]? = some (.cells #[.slice ao' no' co', .slice an' nn' cn'] 34 (0, 0)) → Cf Z (.agg #[.slice ao' no' co', .slice an' nn' cn']) o' n' → cfStep (o', n') e = (o', n') → Z.heap[C]? = some (.cells #[.slice ao' no' co', .slice an' nn' cn'] 34 (0, 0)) ∧ Cf Z (.agg #[.slice ao' no' co', .slice an' nn' cn']) o' n' ∧ cfOf (old, new) (ES.take (k + 1)) = (o', n') ∧ o'.length ≤ 1000000 ∧ n'.length ≤ 1000000 ∧ Kp (fun j => j = C) W Z) := by
        intro Z hk hZ hc he
        have h1 := unhide HSN
        rw [he] at h1
        exact ⟨hZ, hc, h1, lo, ln, hk.mono (fun j hj x => x.elim (fun y => y) (fun y => by omega))⟩
      clear he x3r hcl hin hml hsn hl2 hno' hoc' fo' hnn' hnc' fn' hY1 bY1 xN xC hz hkd f1 f2 f3 f5
      by_cases hk2 : kd = 2
      · subst hk2
        obtain ⟨r, hr⟩ : ∃ r, barredOf o' n' e.ms = r := ⟨_, rfl⟩
        have hz0 : r = 0 → cfStep (o', n') e = (entO o' n' e.ms, entN o' n' e.ms) := fun h => by unfold cfStep entO entN; rw [unhide HKD, if_pos rfl, hr, if_pos h, if_pos h, if_pos h]
        have hz1 : ¬ r = 0 → cfStep (o', n') e = (o', n') := fun h => by unfold cfStep; rw [unhide HKD, if_pos rfl, hr, if_neg h]
        have HZ0 := hide hz0
        have HZ1 := hide hz1
        rw [hr] at EN
        clear hr hz0 hz1
        go_upto_region 6 with fail
        rw [show wr.alloc (.cells #[.slice ao' no' co', .slice an' nn' cn'] 34) = Y1 from unhide HY1]
        have d2' : Y1.cell? ⟨p, 2, none⟩ = some (.slice (some ⟨g, 0, none⟩) n ec) := ((unhide BY1).cell (blk_lt d2)).trans d2
        have f0' : Y1.cell? ⟨g, k * 6, none⟩ = some (.int .i64 2) := ((unhide BY1).cell (blk_lt f0)).trans f0
        go_upto_region 8 with fail
        have k1 : Kp (fun j => j = C ∨ W.heap.size ≤ j) W Y1 := ((unhide KPK).mono (fun j _ x => Or.inl x)).far (unhide BY1)
        have K1 := hide k1
        have S0 := unhide SX Y1.drew ((unhide BY1).drew)
        obtain ⟨n0, n1⟩ := two_cells (unhide XN)
        obtain ⟨m0, m1⟩ := two_free (unhide XN)
        obtain ⟨c0, c1⟩ := two_cells (unhide XC)
        clear k1
        by_cases hr0 : r = 0
        · have HZ := hide (unhide HZ0 hr0)
          clear HZ0 HZ1
          subst hr0
          go_region_held3 (fun Y => Y.cell? ⟨C, 0, none⟩ = some (.slice ao' no' co') ∧ Y.cell? ⟨C, 1, none⟩ = some (.slice an' nn' cn') ∧ Y.cell? ⟨p, 2, none⟩ = some (.slice (some ⟨g, 0, none⟩) n ec) ∧ Y.cell? ⟨g, k * 6 + 4, none⟩ = some (.slice mo z mc)) (first | exact S0 | exact unhide SX _ (unhide EZ) | exact unhide SY | fail)
            (first
              | (go_at_call 36
                 refine (unhide EN _ (unhide BY1).drew).mono ?_
                 rintro x z3 ⟨v3, rfl, cf3, hi3, b3⟩
                 have b4 : Below Y1.heap.size Y1 z3 := below_far ((Below.refl _ Y1).drew) b3
                 have CF3 := hide cf3
                 obtain ⟨ao3, no3, co3, an3, nn3, cn3, rfl, -⟩ := cf3
                 have hN3 := Below.stay b3 (unhide XN)
                 have hC3 := Below.stay b3 (unhide XC)
                 obtain ⟨n30, n31⟩ := two_cells hN3
                 obtain ⟨m30, m31⟩ := two_free hN3
                 have EZ := hide (below_far (unhide BY1) b4)
                 have FF := hide (cf_laid hN3 (unhide S01) (unhide CF3) (((unhide CFK).below (unhide EZ))) rfl)
                 have hC4 := (unhide FF).2.2.2.block hC3 (fun x => unhide NE x.symm)
                 obtain ⟨c40, c41⟩ := two_cells hC4
                 obtain ⟨g40, g41⟩ := two_free hC4
                 obtain ⟨n40, n41⟩ := two_cells (unhide FF).1
                 have HC4 := hide hC4
                 have KZ := hide (((unhide K1).far b4).trans (unhide FF).2.2.2 (fun j hj x => by have := (unhide KPK).size; omega))
                 have SY : Hid (((z3.setCell ⟨wr.heap.size, 0, none⟩ (.slice ao3 no3 co3)).setCell ⟨wr.heap.size, 1, none⟩ (.slice an3 nn3 cn3)).cell? ⟨C, 0, none⟩ = some (.slice ao' no' co') ∧ ((z3.setCell ⟨wr.heap.size, 0, none⟩ (.slice ao3 no3 co3)).setCell ⟨wr.heap.size, 1, none⟩ (.slice an3 nn3 cn3)).cell? ⟨C, 1, none⟩ = some (.slice an' nn' cn') ∧ ((z3.setCell ⟨wr.heap.size, 0, none⟩ (.slice ao3 no3 co3)).setCell ⟨wr.heap.size, 1, none⟩ (.slice an3 nn3 cn3)).cell? ⟨p, 2, none⟩ = some (.slice (some ⟨g, 0, none⟩) n ec) ∧ ((z3.setCell ⟨wr.heap.size, 0, none⟩ (.slice ao3 no3 co3)).setCell ⟨wr.heap.size, 1, none⟩ (.slice an3 nn3 cn3)).cell? ⟨g, k * 6 + 4, none⟩ = some (.slice mo z mc)) := by
                   have S3 := unhide SX _ (unhide EZ)
                   have lp := blk_lt d2
                   have lg := blk_lt f4
                   exact ⟨(cell_two (fun x => unhide NE x.symm)).trans S3.1, (cell_two (fun x => unhide NE x.symm)).trans S3.2.1, (cell_two (Nat.ne_of_lt lp)).trans S3.2.2.1, (cell_two (Nat.ne_of_lt lg)).trans S3.2.2.2⟩
                 have fin := hide (unhide FIN _ _ _ _ _ _ (unhide KZ) (unhide HC4) (unhide FF).2.1 (unhide HZ) rfl)
                 clear b3 b4 hi3 hN3 hC3 hC4)
              | fail)
          clear FIN STAY EN LE
          go_wp2
          go_roundw
          case rel => exact ⟨k + 1, _, _, _, _, by omega, by go_num, unhide fin⟩
          case measure => simp [intOf]; omega
        · have HZ := hide (unhide HZ1 hr0)
          clear HZ0 HZ1
          have q0 : ((r : Int) == 0) = false := by rw [beq_eq_false_iff_ne]; omega
          go_region_held3 (fun Y => Y.cell? ⟨C, 0, none⟩ = some (.slice ao' no' co') ∧ Y.cell? ⟨C, 1, none⟩ = some (.slice an' nn' cn') ∧ Y.cell? ⟨p, 2, none⟩ = some (.slice (some ⟨g, 0, none⟩) n ec) ∧ Y.cell? ⟨g, k * 6 + 4, none⟩ = some (.slice mo z mc)) (first | exact S0 | exact unhide SX _ (unhide EZ) | exact unhide SY | fail)
            (first
              | (go_at_call 36
                 refine (unhide EN _ (unhide BY1).drew).mono ?_
                 rintro x z3 ⟨v3, rfl, cf3, hi3, b3⟩
                 have b4 : Below Y1.heap.size Y1 z3 := below_far ((Below.refl _ Y1).drew) b3
                 have CF3 := hide cf3
                 obtain ⟨ao3, no3, co3, an3, nn3, cn3, rfl, -⟩ := cf3
                 have hN3 := Below.stay b3 (unhide XN)
                 have hC3 := Below.stay b3 (unhide XC)
                 obtain ⟨n30, n31⟩ := two_cells hN3
                 obtain ⟨m30, m31⟩ := two_free hN3
                 have EZ := hide (below_far (unhide BY1) b4)
                 have FF := hide (cf_laid hN3 (unhide S01) (unhide CF3) (((unhide CFK).below (unhide EZ))) rfl)
                 have hC4 := (unhide FF).2.2.2.block hC3 (fun x => unhide NE x.symm)
                 obtain ⟨c40, c41⟩ := two_cells hC4
                 obtain ⟨g40, g41⟩ := two_free hC4
                 obtain ⟨n40, n41⟩ := two_cells (unhide FF).1
                 have HC4 := hide hC4
                 have KZ := hide (((unhide K1).far b4).trans (unhide FF).2.2.2 (fun j hj x => by have := (unhide KPK).size; omega))
                 have SY : Hid (((z3.setCell ⟨wr.heap.size, 0, none⟩ (.slice ao3 no3 co3)).setCell ⟨wr.heap.size, 1, none⟩ (.slice an3 nn3 cn3)).cell? ⟨C, 0, none⟩ = some (.slice ao' no' co') ∧ ((z3.setCell ⟨wr.heap.size, 0, none⟩ (.slice ao3 no3 co3)).setCell ⟨wr.heap.size, 1, none⟩ (.slice an3 nn3 cn3)).cell? ⟨C, 1, none⟩ = some (.slice an' nn' cn') ∧ ((z3.setCell ⟨wr.heap.size, 0, none⟩ (.slice ao3 no3 co3)).setCell ⟨wr.heap.size, 1, none⟩ (.slice an3 nn3 cn3)).cell? ⟨p, 2, none⟩ = some (.slice (some ⟨g, 0, none⟩) n ec) ∧ ((z3.setCell ⟨wr.heap.size, 0, none⟩ (.slice ao3 no3 co3)).setCell ⟨wr.heap.size, 1, none⟩ (.slice an3 nn3 cn3)).cell? ⟨g, k * 6 + 4, none⟩ = some (.slice mo z mc)) := by
                   have S3 := unhide SX _ (unhide EZ)
                   have lp := blk_lt d2
                   have lg := blk_lt f4
                   exact ⟨(cell_two (fun x => unhide NE x.symm)).trans S3.1, (cell_two (fun x => unhide NE x.symm)).trans S3.2.1, (cell_two (Nat.ne_of_lt lp)).trans S3.2.2.1, (cell_two (Nat.ne_of_lt lg)).trans S3.2.2.2⟩
                 have fin := hide (unhide STAY _ (unhide KZ) (unhide HC4) (unhide FF).2.2.1 (unhide HZ))
                 clear b3 b4 hi3 hN3 hC3 hC4)
              | fail)
          clear FIN STAY EN LE
          go_wp2
          go_roundw
          case rel => exact ⟨k + 1, _, _, _, _, by omega, by go_num, unhide fin⟩
          case measure => simp [intOf]; omega
      · by_cases hk4 : kd = 4
        · subst hk4
          obtain ⟨r, hr⟩ : ∃ r, leaveOf o' = r := ⟨_, rfl⟩
          have hz0 : r = 0 → cfStep (o', n') e = ([], leaveN o' n') := fun h => by unfold cfStep; rw [unhide HKD, if_neg (by decide), if_pos rfl]; simp only; rw [hr, if_pos h]
          have hz1 : ¬ r = 0 → cfStep (o', n') e = (o', n') := fun h => by unfold cfStep; rw [unhide HKD, if_neg (by decide), if_pos rfl]; simp only; rw [hr, if_neg h]
          have HZ0 := hide hz0
          have HZ1 := hide hz1
          rw [hr] at LE
          clear hr hz0 hz1
          go_upto_region 6 with fail
          rw [show wr.alloc (.cells #[.slice ao' no' co', .slice an' nn' cn'] 34) = Y1 from unhide HY1]
          have d2' : Y1.cell? ⟨p, 2, none⟩ = some (.slice (some ⟨g, 0, none⟩) n ec) := ((unhide BY1).cell (blk_lt d2)).trans d2
          have f0' : Y1.cell? ⟨g, k * 6, none⟩ = some (.int .i64 4) := ((unhide BY1).cell (blk_lt f0)).trans f0
          go_upto_region 10 with fail
          have k1 : Kp (fun j => j = C ∨ W.heap.size ≤ j) W Y1 := ((unhide KPK).mono (fun j _ x => Or.inl x)).far (unhide BY1)
          have K1 := hide k1
          have S0 := unhide SX Y1.drew ((unhide BY1).drew)
          obtain ⟨n0, n1⟩ := two_cells (unhide XN)
          obtain ⟨m0, m1⟩ := two_free (unhide XN)
          obtain ⟨c0, c1⟩ := two_cells (unhide XC)
          clear k1
          by_cases hr0 : r = 0
          · have HZ := hide (unhide HZ0 hr0)
            clear HZ0 HZ1
            subst hr0
            go_wp2_with fail
            refine (unhide LE _ (unhide BY1)).mono ?_
            rintro x z3 ⟨v3, rfl, cf3, hi3, b3⟩
            have b4 : Below Y1.heap.size Y1 z3 := b3
            have CF3 := hide cf3
            obtain ⟨ao3, no3, co3, an3, nn3, cn3, rfl, -⟩ := cf3
            have hN3 := Below.stay b3 (unhide XN)
            have hC3 := Below.stay b3 (unhide XC)
            obtain ⟨n30, n31⟩ := two_cells hN3
            obtain ⟨m30, m31⟩ := two_free hN3
            have EZ := hide (below_far (unhide BY1) b4)
            have FF := hide (cf_laid hN3 (unhide S01) (unhide CF3) (((unhide CFK).below (unhide EZ))) rfl)
            have hC4 := (unhide FF).2.2.2.block hC3 (fun x => unhide NE x.symm)
            obtain ⟨c40, c41⟩ := two_cells hC4
            obtain ⟨g40, g41⟩ := two_free hC4
            obtain ⟨n40, n41⟩ := two_cells (unhide FF).1
            have HC4 := hide hC4
            have KZ := hide (((unhide K1).far b4).trans (unhide FF).2.2.2 (fun j hj x => by have := (unhide KPK).size; omega))
            have fin := hide (unhide FIN _ _ _ _ _ _ (unhide KZ) (unhide HC4) (unhide FF).2.1 (unhide HZ) rfl)
            clear b3 b4 hi3 hN3 hC3 hC4
            clear FIN STAY EN LE
            go_wp2
            go_roundw
            case rel => exact ⟨k + 1, _, _, _, _, by omega, by go_num, unhide fin⟩
            case measure => simp [intOf]; omega
          · have HZ := hide (unhide HZ1 hr0)
            clear HZ0 HZ1
            have q0 : ((r : Int) == 0) = false := by rw [beq_eq_false_iff_ne]; omega
            go_wp2_with fail
            refine (unhide LE _ (unhide BY1)).mono ?_
            rintro x z3 ⟨v3, rfl, cf3, hi3, b3⟩
            have b4 : Below Y1.heap.size Y1 z3 := b3
            have CF3 := hide cf3
            obtain ⟨ao3, no3, co3, an3, nn3, cn3, rfl, -⟩ := cf3
            have hN3 := Below.stay b3 (unhide XN)
            have hC3 := Below.stay b3 (unhide XC)
            obtain ⟨n30, n31⟩ := two_cells hN3
            obtain ⟨m30, m31⟩ := two_free hN3
            have EZ := hide (below_far (unhide BY1) b4)
            have FF := hide (cf_laid hN3 (unhide S01) (unhide CF3) (((unhide CFK).below (unhide EZ))) rfl)
            have hC4 := (unhide FF).2.2.2.block hC3 (fun x => unhide NE x.symm)
            obtain ⟨c40, c41⟩ := two_cells hC4
            obtain ⟨g40, g41⟩ := two_free hC4
            obtain ⟨n40, n41⟩ := two_cells (unhide FF).1
            have HC4 := hide hC4
            have KZ := hide (((unhide K1).far b4).trans (unhide FF).2.2.2 (fun j hj x => by have := (unhide KPK).size; omega))
            have fin := hide (unhide STAY _ (unhide KZ) (unhide HC4) (unhide FF).2.2.1 (unhide HZ))
            clear b3 b4 hi3 hN3 hC3 hC4
            clear FIN STAY EN LE
            go_wp2
            go_roundw
            case rel => exact ⟨k + 1, _, _, _, _, by omega, by go_num, unhide fin⟩
            case measure => simp [intOf]; omega
        · have q2 : (kd == 2) = false := by rw [beq_eq_false_iff_ne]; exact hk2
          have q4 : (kd == 4) = false := by rw [beq_eq_false_iff_ne]; exact hk4
          have hst : cfStep (o', n') e = (o', n') := by unfold cfStep; rw [unhide HKD, if_neg hk2, if_neg hk4]
          obtain ⟨c0, c1⟩ := two_cells (unhide XC)
          obtain ⟨g0, g1⟩ := two_free (unhide XC)
          have k1 : Kp (fun j => j = C ∨ W.heap.size ≤ j) W Y1 := ((unhide KPK).mono (fun j _ x => Or.inl x)).far (unhide BY1)
          have fin := hide (unhide FIN Y1 _ _ _ o' n' k1 (unhide XC) ((unhide CFK).below (unhide BY1)) hst rfl)
          obtain ⟨n0, n1⟩ := two_cells (unhide XN)
          clear hst k1 hk2 hk4 FIN STAY
          go_upto_region 6 with fail
          rw [show wr.alloc (.cells #[.slice ao' no' co', .slice an' nn' cn'] 34) = Y1 from unhide HY1]
          have d2' : Y1.cell? ⟨p, 2, none⟩ = some (.slice (some ⟨g, 0, none⟩) n ec) := ((unhide BY1).cell (blk_lt d2)).trans d2
          have f0' : Y1.cell? ⟨g, k * 6, none⟩ = some (.int .i64 kd) := ((unhide BY1).cell (blk_lt f0)).trans f0
          clear d2 f0 e0 e1 HY1
          go_wp2
          go_roundw
          case rel => exact ⟨k + 1, _, _, _, _, by omega, by go_num, unhide fin⟩
          case measure => simp [intOf]; omega
    · obtain rfl : k = n := by omega
      have hof := unhide HOF
      rw [List.take_of_length_le (by rw [unhide HN]; exact Nat.le_refl _)] at hof
      have HOF2 := hide hof
      obtain ⟨ao9, no9, co9, an9, nn9, cn9, e9, -⟩ := unhide CFK
      simp only [Value.agg.injEq, Array.mk.injEq, List.cons.injEq, and_true] at e9
      obtain ⟨rfl, rfl⟩ := e9
      have x9 := (unhide KPK).block (unhide X1) (fun e => by omega)
      obtain ⟨c0, c1⟩ := two_cells x9
      obtain ⟨g0, g1⟩ := two_free x9
      have B9 : Hid (Below w.heap.size w wr) := (unhide BW).trans ((unhide KPK).below (fun j hj => by rw [hj, unhide HC]; exact Nat.le_refl _) (by rw [unhide HC]; omega))
      have X9 := hide x9
      have qk : ¬ (k : Int) < (k : Int) := by omega
      clear x9 hof
      go_wp2
      obtain ⟨r0, r1, rb, rk⟩ := two_end (a := .slice ao9 no9 co9) (b := .slice an9 nn9 cn9) (unhide X9) (show w.heap.size ≤ C + 1 by rw [unhide HC]; exact Nat.le_succ _) (unhide B9)
      exact bodyPost_ret (v := .agg #[.slice ao9 no9 co9, .slice an9 nn9 cn9]) (by simp [results, Try.results28, go_sem, r0, r1]) rfl ⟨_, rfl, by rw [unhide HOF2]; exact (unhide CFK).box (unhide X9) (fun v h => by cases h) (fun v h => by cases h) rk, rb⟩
end Go.Proofs.Ytmgdkbpbmngibaa
