/- The walk of WireReads. -/
import Derived.Test.YtojmnlbdhpledaaDoorRdB
import Derived.Deep.RegionWith
namespace Go.Proofs.YtojmnlbdhpledaaDoor
open Go.RowKit
attribute [local go_sem ↓] Go.wp_at_zero Go.wp_at_succ

theorem below_far3 {a b c : World} (h : Below a.heap.size a b) (k : Below b.heap.size b c) : Below a.heap.size a c := h.trans (k.mono h.size)
set_option maxRecDepth 100000 in
set_option maxHeartbeats 4000000 in
theorem reads_walk (m0 : Mg) (at0 ae0 ao0 an0 : Option Addr) (act0 ace0 aco0 acn0 : Nat) (aR : Option Addr) (nR cR : Nat) (rs : List Nat) (hR : rs.length = nR) (aT : Option Addr) (nT cT : Nat) (ts : List Int) (hT : ts.length = nT) (aY : Option Addr) (nY cY : Nat) (ys : List Nat) (hY : ys.length = nY) (cut : Int) (w : World)
    (i1 : IntsAt w at0 m0.terms.length act0 m0.terms) (i2 : m0.es.length ≤ ace0 ∧ ace0 ≤ maxLen ∧ (ae0 = none → ace0 = 0) ∧ EntsAt w ae0 m0.es) (i3 : IntsAt w ao0 m0.old.length aco0 m0.old) (i4 : IntsAt w an0 m0.new.length acn0 m0.new)
    (hRr : nR ≤ cR ∧ cR ≤ maxLen ∧ (aR = none → cR = 0)) (hRb : Bytes w aR rs) (hts : Nums w aT ts) (hys : Bytes w aY ys) (hS : Start w) :
    Calls Tryd.prog 5 #[.agg #[.int .i64 m0.src, .int .i64 m0.to, .int .i64 m0.gen, .int .i64 m0.kind, .int .i64 m0.term, .int .i64 m0.index, .int .i64 m0.last, .int .i64 m0.commit, .bool m0.yes, .slice at0 m0.terms.length act0, .slice ae0 m0.es.length ace0, .slice ao0 m0.old.length aco0, .slice an0 m0.new.length acn0], .slice aR nR cR, .slice aT nT cT, .slice aY nY cY, .int .i64 cut] w fun e w' => e = .returned (.bool true) ∧ Below w.heap.size w w' := by
  obtain ⟨W, hW⟩ : ∃ W, w.alloc (.cells #[.int .i64 m0.src, .int .i64 m0.to, .int .i64 m0.gen, .int .i64 m0.kind, .int .i64 m0.term, .int .i64 m0.index, .int .i64 m0.last, .int .i64 m0.commit, .bool m0.yes, .slice at0 m0.terms.length act0, .slice ae0 m0.es.length ace0, .slice ao0 m0.old.length aco0, .slice an0 m0.new.length acn0] 41) = W := ⟨_, rfl⟩
  have x1 : W.heap[w.heap.size]? = some (.cells #[.int .i64 m0.src, .int .i64 m0.to, .int .i64 m0.gen, .int .i64 m0.kind, .int .i64 m0.term, .int .i64 m0.index, .int .i64 m0.last, .int .i64 m0.commit, .bool m0.yes, .slice at0 m0.terms.length act0, .slice ae0 m0.es.length ace0, .slice ao0 m0.old.length aco0, .slice an0 m0.new.length acn0] 41 (0, 0)) := by rw [← hW]; exact heap_alloc_new _ _
  have bW : Below w.heap.size w W := by rw [← hW]; exact (Below.refl _ w).alloc (Nat.le_refl _) _
  have FE := hide (fun w1 (b1 : Below w.heap.size w w1) => fewMsg_is m0.src m0.to m0.gen m0.kind m0.term m0.index m0.last m0.commit m0.yes at0 ae0 ao0 an0 m0.terms.length act0 m0.es.length ace0 m0.old.length aco0 m0.new.length acn0 m0.es rfl (Nat.le_trans i1.room i1.big) (Nat.le_trans i2.1 i2.2.1) (Nat.le_trans i3.room i3.big) (Nat.le_trans i4.room i4.big) w1 (i2.2.2.2.below b1))
  have GG := hide (fun w1 (b1 : Below w.heap.size w w1) => goodMsg_any m0.src m0.to m0.gen m0.kind m0.term m0.index m0.last m0.commit m0.yes at0 ae0 ao0 an0 m0.terms.length act0 m0.es.length ace0 m0.old.length aco0 m0.new.length acn0 m0.es rfl i1.room i1.big (Nat.le_trans i2.1 i2.2.1) i3.room i3.big i4.room i4.big i1.nul i3.nul i4.nul w1 w b1 i2.2.2.2)
  obtain ⟨B, hB⟩ : ∃ B, w.heap.size = B := ⟨_, rfl⟩
  have I1 := hide i1
  have I3 := hide i3
  have I4 := hide i4
  rw [hB] at x1
  have X1 := hide x1
  have HW := hide hW
  have BW := hide bW
  have HB := hide hB
  have HS := hide hS
  have HR := hide hR
  have HT := hide hT
  have HY := hide hY
  have HRR := hide hRr
  have HRB := hide hRb
  have HTS := hide hts
  have HYS := hide hys
  have hnR : nR ≤ 9223372036854775807 := by have := hRr.1; have := hRr.2.1; unfold maxLen at this; omega
  clear hW bW x1 hS i1 i2 i3 i4 hB hR hT hY hRr hRb hts hys
  go_enter Tryd.func5, Tryd.ntmps5
  go_wp2_with fail
  rw [unhide HW, unhide HB]
  clear HW
  refine (known_any W ((unhide HS).below (unhide BW))).mono ?_
  rintro r w1 ⟨rfl, b1⟩
  have E1 := hide ((b1.block _ (blk_lt' (unhide X1))).trans (unhide X1))
  have B1 := hide ((unhide BW).trans (b1.mono (unhide BW).size))
  obtain ⟨a0, a1, a2, a3, a4, a5, a6, a7, a8, a9, a10, a11, a12⟩ := mbox_cells (unhide E1)
  clear b1 BW X1
  go_wp2_with fail
  refine (unhide FE w1 (unhide B1)).mono ?_
  rintro r w2 ⟨rfl, b2⟩
  have E2 := hide ((b2.block _ (blk_lt' (unhide E1))).trans (unhide E1))
  have B2 := hide ((unhide B1).trans (b2.mono (unhide B1).size))
  clear b2 E1 B1 FE a0 a1 a2 a3 a4 a5 a6 a7 a8 a9 a10 a11 a12
  by_cases hf : ¬ ((∀ i, i < m0.es.length → (m0.es.getD i default).text.size < 300 ∧ (m0.es.getD i default).ms.length < 100) ∧ m0.es.length < 100 ∧ m0.terms.length < 100 ∧ m0.old.length < 100 ∧ m0.new.length < 100)
  · rw [decide_eq_false hf]
    clear hf
    go_wp2
    go_ret
    exact ⟨rfl, unhide B2⟩
  replace hf := Decidable.not_not.1 hf
  rw [decide_eq_true hf]
  clear hf
  by_cases hr : 1000 < nR
  · have hri : (1000 : Int) < (nR : Int) := by omega
    go_wp2
    go_ret
    exact ⟨rfl, unhide B2⟩
  have hri : ¬ (1000 : Int) < (nR : Int) := by omega
  obtain ⟨a0, a1, a2, a3, a4, a5, a6, a7, a8, a9, a10, a11, a12⟩ := mbox_cells (unhide E2)
  go_wp2_with fail
  refine (unhide GG w2 (unhide B2)).mono ?_
  rintro r w9 ⟨aol, kl, cl, rfl, h1, h2, h3, h4, ⟨vs, h5, h6⟩, b9⟩
  have E9 := hide ((b9.block _ (blk_lt' (unhide E2))).trans (unhide E2))
  have B9 := hide ((unhide B2).trans (b9.mono (unhide B2).size))
  have HBL : Hid (B < w2.heap.size) := hide (blk_lt' (unhide E2))
  obtain ⟨c0, c1, c2, c3, c4, c5, c6, c7, c8, c9, c10, c11, c12⟩ := mbox_cells (unhide E9)
  have fb : ∀ i, w9.frozen? ⟨B, i, none⟩ = false := fun i => free_of_block (unhide E9)
  obtain ⟨wz, hwz⟩ : ∃ wz, wz = (((((((((((((w9.setCell ⟨B, 0, none⟩ (.int .i64 m0.src)).setCell ⟨B, 1, none⟩ (.int .i64 m0.to)).setCell ⟨B, 2, none⟩ (.int .i64 m0.gen)).setCell ⟨B, 3, none⟩ (.int .i64 (1 + m0.kind % 15))).setCell ⟨B, 4, none⟩ (.int .i64 m0.term)).setCell ⟨B, 5, none⟩ (.int .i64 m0.index)).setCell ⟨B, 6, none⟩ (.int .i64 m0.last)).setCell ⟨B, 7, none⟩ (.int .i64 m0.commit)).setCell ⟨B, 8, none⟩ (.bool m0.yes)).setCell ⟨B, 9, none⟩ (.slice at0 (min m0.terms.length 64) act0)).setCell ⟨B, 10, none⟩ (.slice aol kl cl)).setCell ⟨B, 11, none⟩ (.slice ao0 (min m0.old.length 9) aco0)).setCell ⟨B, 12, none⟩ (.slice an0 (min m0.new.length 9) acn0)) := ⟨_, rfl⟩
  obtain ⟨hbx, hkp⟩ := chain13 (unhide E9) hwz
  have hBw : w.heap.size = B := unhide HB
  have hsm : Same B w9 wz := Same.kept hkp (Or.inl rfl)
  have e1 : (m0.terms.take 64).length = min m0.terms.length 64 := by rw [List.length_take, Nat.min_comm]
  have e2 : (m0.old.take 9).length = min m0.old.length 9 := by rw [List.length_take, Nat.min_comm]
  have e3 : (m0.new.take 9).length = min m0.new.length 9 := by rw [List.length_take, Nat.min_comm]
  have EZ : Hid (EntsAt wz aol (goodM m0).es) := hide (h6.at h1 (own_kept h5 fun k hk => hkp.2 k (h5.lt k hk).2 (by have := (h5.lt k hk).1; have := unhide HBL; omega)) (fun a u hc => by
    have hlt := blk_lt hc
    have h9 : w9.cell? a = some u := by rw [(unhide B9).cell hlt]; exact hc
    simp only [World.cell?] at h9 ⊢
    rw [hkp.2 _ (by have := (unhide B9).size; omega) (by omega)]
    exact h9))
  have T1 : Hid (IntsR wz at0 (goodM m0).terms) := hide (((unhide I1).take 64).same (by omega) (unhide B9) hsm).are
  have T3 : Hid (IntsR wz ao0 (goodM m0).old) := hide (((unhide I3).take 9).same (by omega) (unhide B9) hsm).are
  have T4 : Hid (IntsR wz an0 (goodM m0).new) := hide (((unhide I4).take 9).same (by omega) (unhide B9) hsm).are
  have BX : Hid (wz.heap[B]? = some (.cells #[.int .i64 (goodM m0).src, .int .i64 (goodM m0).to, .int .i64 (goodM m0).gen, .int .i64 (goodM m0).kind, .int .i64 (goodM m0).term, .int .i64 (goodM m0).index, .int .i64 (goodM m0).last, .int .i64 (goodM m0).commit, .bool (goodM m0).yes, .slice at0 (goodM m0).terms.length act0, .slice aol (goodM m0).es.length cl, .slice ao0 (goodM m0).old.length aco0, .slice an0 (goodM m0).new.length acn0] 41 (0, 0))) := hide (by
    show wz.heap[B]? = some (.cells #[.int .i64 m0.src, .int .i64 m0.to, .int .i64 m0.gen, .int .i64 (1 + m0.kind % 15), .int .i64 m0.term, .int .i64 m0.index, .int .i64 m0.last, .int .i64 m0.commit, .bool m0.yes, .slice at0 (m0.terms.take 64).length act0, .slice aol ((m0.es.take 64).map goodE).length cl, .slice ao0 (m0.old.take 9).length aco0, .slice an0 (m0.new.take 9).length acn0] 41 (0, 0))
    rw [e1, e2, e3, h1]; exact hbx)
  have BZ := hide ((unhide B9).trans (show Below w.heap.size w9 wz by rw [hBw]; exact hkp.1))
  have KL := hide h1
  have HWZ := hide hwz
  clear hwz hbx hkp hsm e1 e2 e3 h1 h2 h3 h4 h5 h6 b9 E2 B2 a0 a1 a2 a3 a4 a5 a6 a7 a8 a9 a10 a11 a12 GG hBw
  go_upto_region 6 with fail
  rw [← unhide HWZ]
  clear HWZ c0 c1 c2 c3 c4 c5 c6 c7 c8 c9 c10 c11 c12 fb E9 B9 I1 I3 I4 HBL
  have hgf := goodM_few m0
  have CA := hide (rencM_any (goodM m0) at0 aol ao0 an0 (goodM m0).terms.length act0 (goodM m0).es.length cl (goodM m0).old.length aco0 (goodM m0).new.length acn0 rfl rfl rfl rfl (by have := hgf.t; unfold maxLen; omega) (by have := hgf.e; unfold maxLen; omega) (by have := hgf.o; unfold maxLen; omega) (by have := hgf.n; unfold maxLen; omega) wz (unhide T1) (unhide EZ) (unhide T3) (unhide T4))
  have hlen := (MsgBytes.len ⟨goodM m0, goodM_ok m0, rfl⟩)
  obtain ⟨L, hL⟩ : ∃ L, (goodM m0).bytes = L := ⟨_, rfl⟩
  have hp : (goodM m0).put ([], 0) = (L, 0) := by rw [put_ok (goodM_ok m0) [], hL]; rfl
  rw [hp] at CA
  rw [hL] at hlen
  have CA2 : Hid (Calls Tryd.prog 17 #[.agg #[.int .i64 (goodM m0).src, .int .i64 (goodM m0).to, .int .i64 (goodM m0).gen, .int .i64 (goodM m0).kind, .int .i64 (goodM m0).term, .int .i64 (goodM m0).index, .int .i64 (goodM m0).last, .int .i64 (goodM m0).commit, .bool (goodM m0).yes, .slice at0 (goodM m0).terms.length act0, .slice aol (goodM m0).es.length cl, .slice ao0 (goodM m0).old.length aco0, .slice an0 (goodM m0).new.length acn0]] wz fun e w' => ∃ v, e = .returned (.tuple #[v, .int .i64 0]) ∧ Own wz.heap.size w' v L ∧ Below wz.heap.size wz w') := hide ((unhide CA).mono (by rintro e w' ⟨v, h1, h2, h3⟩; exact ⟨v, h1, h2, h3⟩))
  obtain ⟨g0, g1, g2, g3, g4, g5, g6, g7, g8, g9, g10, g11, g12⟩ := mbox_cells (unhide BX)
  have HGE := hide (fun e (he : e ∈ (goodM m0).es) => (goodM_ok m0).eachE e he)
  have hge : (goodM m0).es.length < 100 := hgf.e
  clear CA hp hL hgf
  generalize goodM m0 = m at *
  go_wp2_with fail
  refine (unhide CA2).mono ?_
  rintro r w5 ⟨vA, rfl, oA, b5⟩
  obtain ⟨aA, cA, rfl, -, -, -, -, -⟩ := oA.slice
  have OA := hide (own_wide oA.1 (unhide BZ).size)
  have OA2 := hide oA.2
  have B5 := hide (below_far3 (unhide BZ) b5)
  have BX5 := hide ((b5.block _ (blk_lt' (unhide BX))).trans (unhide BX))
  have E5 := hide ((unhide EZ).below b5)
  clear oA b5 CA2 g0 g1 g2 g3 g4 g5 g6 g7 g8 g9 g10 g11 g12 EZ BX BZ T1 T3 T4
  obtain ⟨nL, hnL⟩ : ∃ n, L.length = n := ⟨_, rfl⟩
  rw [hnL]
  rw [hnL] at OA hlen
  obtain ⟨g0, g1, g2, g3, g4, g5, g6, g7, g8, g9, g10, g11, g12⟩ := mbox_cells (unhide BX5)
  have HNL := hide hnL
  clear hnL
  go_upto_region 7 with fail
  go_cut [56] (fun v wd => (∃ b : Bool, v = .bool b ∧ (b = true → 0 < m.es.length)) ∧ wd = w5)
  case first =>
    by_cases h0 : 0 < m.es.length
    · have h0i : (0 : Int) < (m.es.length : Int) := by omega
      go_wp2
      go_meet
      exact ⟨⟨_, rfl, fun _ => h0⟩, rfl⟩
    · have h0i : ¬ (0 : Int) < (m.es.length : Int) := by omega
      go_wp2
      go_meet
      exact ⟨⟨false, rfl, fun h => by cases h⟩, rfl⟩
  case rest =>
  obtain ⟨⟨b, rfl, hb0⟩, hwc⟩ := hcut
  replace hwc := hwc.symm
  subst hwc
  have HB0 := hide hb0
  clear hb0
  go_upto_if 56 with fail
  go_cut [11] (fun bv wc => ∃ (ao : Option Addr) (m cap : Nat) (bs : List Nat), bv = .slice ao m cap ∧ bs.length = m ∧ 0 < m ∧ m ≤ 100000 ∧ Own w.heap.size wc (.slice ao m cap) bs ∧ Below w.heap.size w wc)
  case first =>
    as_aux_lemma =>
      cases b with
      | false =>
        go_wp2
        go_meet
        exact ⟨aA, nL, cA, L, rfl, unhide HNL, hlen.1, hlen.2, ⟨by rw [unhide HNL]; exact unhide OA, unhide OA2⟩, unhide B5⟩
      | true =>
        have h0 := unhide HB0 rfl
        obtain ⟨blk, off, r, cx, rfl, k0, k1, k2, k3, k4, k5, k6, k7, k8, k9, k10⟩ := unhide E5 0 h0
        obtain ⟨e, he⟩ : ∃ e, m.es.getD 0 default = e := ⟨_, rfl⟩
        have hem : e ∈ m.es := by rw [← he, List.getD_eq_getElem?_getD, List.getElem?_eq_getElem h0]; exact List.getElem_mem h0
        have hok := unhide HGE e hem
        rw [he] at k0 k1 k2 k3 k4 k5 k6 k7 k8
        simp only [Nat.zero_mul, Nat.add_zero] at k0 k1 k2 k3 k4 k5
        have CE := rencE_any e.kind e.client e.seq e.to e.text k7 r e.ms.length cx (Nat.le_trans k8 k9) e.ms rfl w5 k6
        have hp : putEntry e.kind e.client e.seq e.text e.ms e.to ([], 0) = (e.bytes, 0) := putE_ok hok []
        have hl2 := EntBytes.len ⟨e, hok, rfl⟩
        rw [hp] at CE
        obtain ⟨L2, hL2⟩ : ∃ L, e.bytes = L := ⟨_, rfl⟩
        rw [hL2] at CE hl2
        have CE2 : Hid (Calls Tryd.prog 10 #[.agg #[.int .i64 e.kind, .int .i64 e.client, .int .i64 e.seq, .string e.text, .slice r e.ms.length cx, .int .i64 e.to]] w5 fun x w' => ∃ v, x = .returned (.tuple #[v, .int .i64 0]) ∧ Own w5.heap.size w' v L2 ∧ Below w5.heap.size w5 w') := hide (CE.mono (by rintro x w' ⟨v, h1, h2, h3⟩; exact ⟨v, h1, h2, h3⟩))
        have h0i : (0 : Int) < (m.es.length : Int) := by omega
        clear CE hp hL2 hok hem he k6 k7 k8 k9 k10 E5
        go_wp2_with fail
        refine (unhide CE2).mono ?_
        rintro x w6 ⟨vB, rfl, oB, b6⟩
        obtain ⟨aB, cB, rfl, -, -, -, -, -⟩ := oB.slice
        have OB := hide (own_wide oB.1 (unhide B5).size)
        have OB2 := hide oB.2
        have B6 := hide (below_far3 (unhide B5) b6)
        clear oB b6 CE2 k0 k1 k2 k3 k4 k5 g0 g1 g2 g3 g4 g5 g6 g7 g8 g9 g10 g11 g12
        go_wp2
        go_meet
        exact ⟨aB, L2.length, cB, L2, rfl, rfl, hl2.1, hl2.2, ⟨unhide OB, unhide OB2⟩, unhide B6⟩
  case rest =>
    clear OA OA2 B5 BX5 E5 HGE hge HB0 HNL hlen g0 g1 g2 g3 g4 g5 g6 g7 g8 g9 g10 g11 g12 KL
    obtain ⟨ao, n, cap, bs, rfl, hn, hn0, hn8, ho, br⟩ := hcut
    have HN := hide hn
    have OW := hide ho
    have BR := hide br
    clear hn ho br
    go_upto_block 0 with fail
    go_cut [] (fun wc => ∃ (bs : List Nat), bs.length = n ∧ Own w.heap.size wc (.slice ao n cap) bs ∧ Below w.heap.size w wc)
    case first =>
      go_wp2_with fail
      go_loopg [13] 3 (fun g iv wr => ∃ (i : Nat) (bs : List Nat), i + g = 3 ∧ iv = .int .i64 (i : Int) ∧ bs.length = n ∧ Own w.heap.size wr (.slice ao n cap) bs ∧ Below w.heap.size w wr)
      case atStart => exact ⟨0, bs, rfl, rfl, unhide HN, unhide OW, unhide BR⟩
      case round =>
        clear OW HN BR
        obtain ⟨i, bs, hig, rfl, hm, ho, br2⟩ := hrel
        have HIG := hide hig
        have HMM := hide hm
        have OW := hide ho
        have B2 := hide br2
        have s2 := br2.size
        have hi3 : i ≤ 3 := by omega
        clear hig hm ho br2
        by_cases h1 : i < nT
        · by_cases h2 : i < nY
          · by_cases h3 : i < 3
            · obtain ⟨g, rfl⟩ : ∃ g, ao = some ⟨g, 0, none⟩ := by
                rcases (unhide OW).1.2 with ⟨e, _⟩ | ⟨g, cap', cur, e, _⟩
                · simp only [Value.slice.injEq] at e; omega
                · simp only [Value.slice.injEq] at e; exact ⟨g, e.1⟩
              obtain ⟨ada, rfl, hca, _⟩ := unhide HTS i (by rw [unhide HT]; exact h1)
              obtain ⟨adb, rfl, hcb⟩ := (unhide HYS).2 i (by rw [unhide HY]; exact h2)
              have hcaL := blk_lt hca
              have hcbL := blk_lt hcb
              have hca2 : wr.cell? (ada.add i) = some (.int .i64 (ts.getD i 0)) := by rw [(unhide B2).cell hcaL]; exact hca
              have hcb2 : wr.cell? (adb.add i) = some (.int .u8 ((ys.getD i 0 : Nat) : Int)) := by rw [(unhide B2).cell hcbL]; exact hcb
              obtain ⟨y, ey⟩ : ∃ y, ts.getD i 0 = y := ⟨_, rfl⟩
              obtain ⟨z, ez⟩ : ∃ z, ys.getD i 0 = z := ⟨_, rfl⟩
              rw [ey] at hca2
              rw [ez] at hcb2
              obtain ⟨j, ej⟩ : ∃ j : Nat, y % (n : Int) = (j : Int) := ⟨(y % (n : Int)).toNat, by have := Int.emod_nonneg y (show (n : Int) ≠ 0 by omega); omega⟩
              have hjm : j < n := by have := Int.emod_lt_of_pos y (show (0 : Int) < (n : Int) by omega); omega
              have how : wr.ownsRow w.heap.size 5 1 (.slice (some ⟨g, 0, none⟩) n cap) n (u8s bs) := by have h := (unhide OW).1; rw [unhide HMM] at h; exact h
              have hcj : wr.cell? ⟨g, j, none⟩ = some (.int .u8 ((bs.getD j 0 : Nat) : Int)) := by
                rw [how.cellAt j (by omega), u8s, List.getElem?_map, List.getD_eq_getElem?_getD, List.getElem?_eq_getElem (by rw [unhide HMM]; exact hjm)]; rfl
              obtain ⟨x, ex⟩ : ∃ x, bs.getD j 0 = x := ⟨_, rfl⟩
              rw [ex] at hcj
              have hfz := how.frozenAt j
              have hst := how.stored j (.int .u8 (((x + z) % 256 : Nat) : Int))
              have hg1 := (how.lt g rfl).1
              have hea := u8_add x z
              have j1 : (j : Int) < (n : Int) := by omega
              have EJ := hide ej
              have HST := hide hst
              have eset : (u8s bs).set j (.int .u8 (((x + z) % 256 : Nat) : Int)) = u8s (bs.set j ((x + z) % 256)) := by rw [u8s, u8s, List.map_set]
              have ESET := hide eset
              clear hca hcb ej ey ez ex how hst eset
              go_wp2
              go_region_with (first
                | (go_at_call 24; refine (within_nat y _ j (unhide EJ) _ (by omega) (by omega)).mono ?_; rintro e w' ⟨rfl, rfl⟩))
              all_goals go_wp2
              all_goals go_roundg (3 - (i + 1))
              all_goals first
                | (have := unhide HIG; omega)
                | skip
              all_goals
                have hv : ((x : Int) + (z : Int)) % 256 = (((x + z) % 256 : Nat) : Int) := by omega
                rw [hv]
                have hst := unhide HST
                refine ⟨i + 1, bs.set j ((x + z) % 256), by omega, by go_num, by rw [List.length_set]; exact unhide HMM, ⟨?_, ?_⟩, ((unhide B2).setCell (p := ⟨g, j, none⟩) hg1 _).drew⟩
                · rw [List.length_set, unhide HMM, ← unhide ESET]; exact own_below hst.1 (Below.refl _ _).drew
                · intro q hq
                  rcases List.mem_or_eq_of_mem_set hq with h | h
                  · exact (unhide OW).2 q h
                  · omega
            · go_wp2
              go_meet
              exact ⟨bs, unhide HMM, unhide OW, unhide B2⟩
          · go_wp2
            go_meet
            exact ⟨bs, unhide HMM, unhide OW, unhide B2⟩
        · go_wp2
          go_meet
          exact ⟨bs, unhide HMM, unhide OW, unhide B2⟩
    case rest =>
      clear OW BR HN
      obtain ⟨bs, hn, ho, br⟩ := hcut
      have GB := hide (own_given ho hn (by omega))
      obtain ⟨w3, hw3⟩ : ∃ w3, w3 = wc := ⟨_, rfl⟩
      subst hw3
      have BR := hide br
      clear hn ho br HTS HYS HT HY
      as_aux_lemma =>
        go_upto_region 13 with fail
        go_cut [99] (fun v wd => (∃ b : Bool, v = .bool b) ∧ wd = w3)
        case first =>
          go_wp2
          go_meet
          exact ⟨⟨_, rfl⟩, rfl⟩
        case rest =>
          obtain ⟨⟨b', rfl⟩, hwc⟩ := hcut
          replace hwc := hwc.symm
          subst hwc
          go_upto_if 99 with fail
          go_cut [11] (fun bv wd => ∃ (ao' : Option Addr) (n' cap' : Nat) (bs' : List Nat), bv = .slice ao' n' cap' ∧ n' ≤ 100000 ∧ Given wd ao' n' cap' bs' ∧ Below w.heap.size w wd)
          case first =>
            cases b' with
            | false =>
              go_wp2
              go_meet
              exact ⟨ao, n, cap, bs, rfl, hn8, unhide GB, unhide BR⟩
            | true =>
              have hrm : n ≤ cap := (unhide GB).room
              go_wp2_with fail
              refine (within_some _ n hn8 _).mono ?_
              rintro r w4 ⟨k, hk, rfl, rfl⟩
              have k1 : (0 : Int) ≤ (k : Int) := by omega
              have k2 : (k : Int) ≤ (cap : Int) := by omega
              go_wp2
              go_meet
              exact ⟨ao, k, cap, bs.take k, by go_num, by omega, (unhide GB).take k hk, unhide BR⟩
          case rest =>
            clear GB BR
            obtain ⟨ao', n', cap', bs', rfl, hn', gb, br⟩ := hcut
            obtain ⟨w4, hw4⟩ : ∃ w4, w4 = wc := ⟨_, rfl⟩
            subst hw4
            have GB := hide gb
            have BR := hide br
            have GR := hide (show Given w4 aR nR cR rs from ⟨unhide HR, (unhide HRR).1, (unhide HRR).2.2, by omega, (unhide HRB).below br⟩)
            clear gb br
            go_upto_region 15 with fail
            go_cut [14] (fun rv wd => ∃ ad : Addr, rv = .slice (some ad) 3 3 ∧ (∀ j, j < 3 → ∃ (ao : Option Addr) (n cap : Nat) (bs : List Nat), wd.cell? (ad.add j) = some (.slice ao n cap) ∧ n ≤ 200000 ∧ Given wd ao n cap bs) ∧ Below w.heap.size w wd)
            case first =>
              as_aux_lemma =>
                have ownE := own_empty w4.heap.size w4 (Nat.le_refl _)
                have bE : Below w4.heap.size w4 (w4.alloc (.cells #[] 5)) := (Below.refl _ w4).alloc (Nat.le_refl _) _
                have OE := hide ownE
                have BE := hide bE
                have GE := hide ((unhide GB).below bE)
                have sE := bE.size
                clear ownE bE
                go_wp2_with (at_builtin; refine wpList_append_bytes rfl (.tmp 109) (.tmp 110) rfl w4.heap.size _ [] 0 rfl rfl (unhide OE) ao' n' cap' bs' rfl (unhide GE).len (unhide GE).are (unhide GE).nul (by omega) sE ?_)
                intro ao5 cap5 w5' o5 b5 _
                have B5 := hide ((unhide BE).trans b5)
                have O5 := hide o5
                have G5 := hide ((unhide GR).below (unhide B5))
                have s5 : w4.heap.size ≤ w5'.heap.size := (unhide B5).size
                clear o5 b5 OE BE GE
                go_wp2_with (at_builtin; refine wpList_append_bytes rfl (.tmp 111) (.tmp 112) rfl w4.heap.size _ bs' n' (unhide GB).len rfl (unhide O5) aR nR cR rs rfl (unhide G5).len (unhide G5).are (unhide G5).nul (by omega) s5 ?_)
                intro ao6 cap6 w6 o6 b6 _
                have B6 := hide ((unhide B5).trans b6)
                have G6 : Hid (Given w6 ao6 (n' + nR) cap6 (bs' ++ rs)) := hide (own_given o6 (by rw [List.length_append, (unhide GB).len, (unhide GR).len]) (by omega))
                clear o6 b6 O5 G5 B5
                go_wp2_with fail
                go_meet
                obtain ⟨W7, hW7⟩ : ∃ W, w6.alloc (.cells #[.slice ao' n' cap', .slice ao6 (n' + nR) cap6, .slice aR nR cR] 27) = W := ⟨_, rfl⟩
                have b7 : Below w6.heap.size w6 W7 := by rw [← hW7]; exact (Below.refl _ w6).alloc (Nat.le_refl _) _
                have x7 : W7.heap[w6.heap.size]? = some (.cells #[.slice ao' n' cap', .slice ao6 (n' + nR) cap6, .slice aR nR cR] 27 (0, 0)) := by rw [← hW7]; exact heap_alloc_new _ _
                have b47 : Below w4.heap.size w4 W7 := below_far3 (unhide B6) b7
                rw [hW7]
                refine ⟨⟨w6.heap.size, 0, none⟩, rfl, fun j hj => ?_, below_far3 (unhide BR) b47⟩
                have hadd : (⟨w6.heap.size, 0, none⟩ : Addr).add j = ⟨w6.heap.size, j, none⟩ := by rw [Addr.add_lit, Nat.zero_add]
                rw [hadd]
                rcases (show j = 0 ∨ j = 1 ∨ j = 2 by omega) with rfl | rfl | rfl
                · exact ⟨ao', n', cap', bs', (cell_of_block x7).trans rfl, by omega, (unhide GB).below b47⟩
                · exact ⟨ao6, n' + nR, cap6, bs' ++ rs, (cell_of_block x7).trans rfl, by omega, (unhide G6).below b7⟩
                · exact ⟨aR, nR, cR, rs, (cell_of_block x7).trans rfl, by omega, (unhide GR).below b47⟩
            case rest =>
              obtain ⟨ad, rfl, hrow, br⟩ := hcut
              obtain ⟨Wz, hWz⟩ : ∃ Wz, Wz = wc := ⟨_, rfl⟩
              subst hWz
              have ROW := hide hrow
              have BRZ := hide br
              have SZ := hide ((unhide HS).below br)
              clear hrow br GB GR BR HRR HRB HR HS
              go_wp2_with fail
              go_loopg [15] 3 (fun g iv wr => ∃ j : Nat, j + g = 3 ∧ iv = .int .i64 (j : Int) ∧ Below Wz.heap.size Wz wr)
              case atStart => exact ⟨0, rfl, rfl, Below.refl _ _⟩
              case round =>
                as_aux_lemma =>
                  obtain ⟨j, hj, rfl, br⟩ := hrel
                  have HJ := hide hj
                  have hj3 : j ≤ 3 := by omega
                  have BL0 := hide br
                  clear hj br
                  by_cases hlt : ¬ j < 3
                  · go_wp2
                    go_ret
                    exact ⟨rfl, below_far3 (unhide BRZ) (unhide BL0)⟩
                  replace hlt := Decidable.not_not.1 hlt
                  have j3 : (j : Int) < 3 := by omega
                  obtain ⟨rao, rn, rcap, rbs, hrc, hrn, hrg⟩ := unhide ROW j hlt
                  have HRC := hide hrc
                  have HRG := hide hrg
                  have hb256 := hrg.are.1
                  have HB256 := hide hb256
                  have HF := hide (rdM_few hb256)
                  have HEL := hide (rdE_len rbs)
                  have HCL := hide (rdC_len rbs)
                  have HPUT := hide (fun h => rdM_ok hb256 h)
                  obtain ⟨X, hX⟩ : ∃ X, rdM rbs = X := ⟨_, rfl⟩
                  obtain ⟨f, hf⟩ : ∃ f, erM rbs = f := ⟨_, rfl⟩
                  obtain ⟨U, hU⟩ : ∃ X, rdE rbs = X := ⟨_, rfl⟩
                  obtain ⟨fu, hfu⟩ : ∃ f, erE rbs = f := ⟨_, rfl⟩
                  obtain ⟨C, hC⟩ : ∃ X, rdC rbs = X := ⟨_, rfl⟩
                  obtain ⟨fc, hfc⟩ : ∃ f, erC rbs = f := ⟨_, rfl⟩
                  have PM := hide (fun (Y : World) (ao : Option Addr) (n cap : Nat) (hg : Given Y ao n cap rbs) (hS : Start Y) => pm_any hg hS)
                  have QM := hide (fun (Y : World) (ao : Option Addr) (n cap : Nat) (hg : Given Y ao n cap rbs) => xpm_any hg)
                  have PE := hide (fun (Y : World) (ao : Option Addr) (n cap : Nat) (hg : Given Y ao n cap rbs) (hS : Start Y) => pe_any hg hS)
                  have QE := hide (fun (Y : World) (ao : Option Addr) (n cap : Nat) (hg : Given Y ao n cap rbs) => xpe_any hg)
                  have PC := hide (fun (Y : World) (ao : Option Addr) (n cap : Nat) (hg : Given Y ao n cap rbs) (hS : Start Y) => pc_any hg hS)
                  have QC := hide (fun (Y : World) (ao : Option Addr) (n cap : Nat) (hg : Given Y ao n cap rbs) => xpc_any hg)
                  simp only [MsgOut, EntOut, ConfOut, hX, hf, hU, hfu, hC, hfc] at PM QM PE QE PC QC HF HEL HCL HPUT
                  clear hX hf hU hfu hC hfc hrc hrg hb256
                  have hc0 : wr.cell? (ad.add j) = some (.slice rao rn rcap) := by rw [(unhide BL0).cell (blk_lt (unhide HRC))]; exact unhide HRC
                  have ownE := own_empty wr.heap.size wr (Nat.le_refl _)
                  have bE : Below wr.heap.size wr (wr.alloc (.cells #[] 5)) := (Below.refl _ wr).alloc (Nat.le_refl _) _
                  have OE := hide ownE
                  have BE := hide bE
                  have hcE : (wr.alloc (.cells #[] 5)).cell? (ad.add j) = some (.slice rao rn rcap) := by rw [bE.cell (blk_lt hc0)]; exact hc0
                  have GE := hide (((unhide HRG).below (unhide BL0)).below bE)
                  have sE := bE.size
                  clear ownE bE
                  go_wp2_with (at_builtin; refine wpList_append_bytes rfl (.tmp 120) (.tmp 124) rfl wr.heap.size _ [] 0 rfl rfl (unhide OE) rao rn rcap rbs rfl (unhide GE).len (unhide GE).are (unhide GE).nul (by omega) sE ?_)
                  intro ax cx w1 o1 b1 _
                  have b01 := (unhide BE).trans b1
                  have BL1 := hide (below_far3 (unhide BL0) b01)
                  have GX1 := hide (own_given o1 (unhide GE).len (by omega))
                  clear o1 b1 b01 OE BE GE hc0 hcE BL0
                  as_aux_lemma =>
                    have C1 := hide (unhide PM _ _ _ _ (unhide GX1) ((unhide SZ).below (unhide BL1)))
                    go_wp2_with fail
                    refine (unhide C1).mono ?_
                    rintro r w2 ⟨pt, pe, po, pn, pct, pce, pco, pcn, rfl, h1, h2, h3, h4, -, b2⟩
                    obtain ⟨W2, hW⟩ : ∃ W, w2.alloc (.cells #[.int .i64 X.src, .int .i64 X.to, .int .i64 X.gen, .int .i64 X.kind, .int .i64 X.term, .int .i64 X.index, .int .i64 X.last, .int .i64 X.commit, .bool X.yes, .slice pt X.terms.length pct, .slice pe X.es.length pce, .slice po X.old.length pco, .slice pn X.new.length pcn] 41) = W := ⟨_, rfl⟩
                    have bW : Below w2.heap.size w2 W2 := by rw [← hW]; exact (Below.refl _ _).alloc (Nat.le_refl _) _
                    have N2 : Hid (MBx W2 w2.heap.size X pt pe po pn pct pce pco pcn) := hide ⟨by rw [← hW]; exact heap_alloc_new _ _, h1.below bW, h2.below bW, h3.below bW, h4.below bW⟩
                    obtain ⟨Z2, hZ⟩ : ∃ Z, w2.heap.size = Z := ⟨_, rfl⟩
                    rw [hZ] at N2
                    have bb := below_far3 b2 bW
                    have BL2 := hide (below_far3 (unhide BL1) bb)
                    have GX2 := hide ((unhide GX1).below bb)
                    have HW := hide hW
                    have HZ := hide hZ
                    clear C1 h1 h2 h3 h4 b2 bW bb hW hZ BL1 GX1 
                    go_upto_region 21 with fail
                    rw [unhide HW, unhide HZ]
                    clear HW HZ
                    have C1 := hide (unhide QM _ _ _ _ ((unhide HRG).below (unhide BL2)))
                    have hc : W2.cell? (ad.add j) = some (.slice rao rn rcap) := by rw [(unhide BL2).cell (blk_lt (unhide HRC))]; exact unhide HRC
                    go_wp2_with fail
                    refine (unhide C1).mono ?_
                    rintro r w3 ⟨qt, qe, qo, qn, qct, qce, qco, qcn, rfl, h1, h2, h3, h4, -, b2⟩
                    obtain ⟨W3, hW⟩ : ∃ W, w3.alloc (.cells #[.int .i64 X.src, .int .i64 X.to, .int .i64 X.gen, .int .i64 X.kind, .int .i64 X.term, .int .i64 X.index, .int .i64 X.last, .int .i64 X.commit, .bool X.yes, .slice qt X.terms.length qct, .slice qe X.es.length qce, .slice qo X.old.length qco, .slice qn X.new.length qcn] 41) = W := ⟨_, rfl⟩
                    have bW : Below w3.heap.size w3 W3 := by rw [← hW]; exact (Below.refl _ _).alloc (Nat.le_refl _) _
                    have N3 : Hid (MBx W3 w3.heap.size X qt qe qo qn qct qce qco qcn) := hide ⟨by rw [← hW]; exact heap_alloc_new _ _, h1.below bW, h2.below bW, h3.below bW, h4.below bW⟩
                    obtain ⟨Z3, hZ⟩ : ∃ Z, w3.heap.size = Z := ⟨_, rfl⟩
                    rw [hZ] at N3
                    have bb := below_far3 b2 bW
                    have BL3 := hide (below_far3 (unhide BL2) bb)
                    have GX3 := hide ((unhide GX2).below bb)
                    have N2_3 := hide ((unhide N2).below bb)
                    have HW := hide hW
                    have HZ := hide hZ
                    clear hc C1 h1 h2 h3 h4 b2 bW bb hW hZ BL2 GX2 N2
                    go_upto_region 22 with fail
                    rw [unhide HW, unhide HZ]
                    clear HW HZ
                    as_aux_lemma =>
                      have C1 := hide (unhide PE _ _ _ _ (unhide GX3) ((unhide SZ).below (unhide BL3)))
                      go_wp2_with fail
                      refine (unhide C1).mono ?_
                      rintro r w4 ⟨ua, uc, rfl, h1, b2⟩
                      obtain ⟨W4, hW⟩ : ∃ W, w4.alloc (.cells #[.int .i64 U.kind, .int .i64 U.client, .int .i64 U.seq, .string (str U.data), .slice ua U.members.length uc, .int .i64 U.to'] 24) = W := ⟨_, rfl⟩
                      have bW : Below w4.heap.size w4 W4 := by rw [← hW]; exact (Below.refl _ _).alloc (Nat.le_refl _) _
                      have N4 : Hid (EBx W4 w4.heap.size U ua uc) := hide ⟨by rw [← hW]; exact heap_alloc_new _ _, h1.below bW⟩
                      obtain ⟨Z4, hZ⟩ : ∃ Z, w4.heap.size = Z := ⟨_, rfl⟩
                      rw [hZ] at N4
                      have bb := below_far3 b2 bW
                      have BL4 := hide (below_far3 (unhide BL3) bb)
                      have GX4 := hide ((unhide GX3).below bb)
                      have N2_4 := hide ((unhide N2_3).below bb)
                      have N3_4 := hide ((unhide N3).below bb)
                      have HW := hide hW
                      have HZ := hide hZ
                      clear C1 h1 b2 bW bb hW hZ BL3 GX3 N2_3 N3
                      go_upto_region 23 with fail
                      rw [unhide HW, unhide HZ]
                      clear HW HZ
                      have C1 := hide (unhide QE _ _ _ _ ((unhide HRG).below (unhide BL4)))
                      have hc : W4.cell? (ad.add j) = some (.slice rao rn rcap) := by rw [(unhide BL4).cell (blk_lt (unhide HRC))]; exact unhide HRC
                      go_wp2_with fail
                      refine (unhide C1).mono ?_
                      rintro r w5 ⟨va, vc, rfl, h1, b2⟩
                      obtain ⟨W5, hW⟩ : ∃ W, w5.alloc (.cells #[.int .i64 U.kind, .int .i64 U.client, .int .i64 U.seq, .string (str U.data), .slice va U.members.length vc, .int .i64 U.to'] 24) = W := ⟨_, rfl⟩
                      have bW : Below w5.heap.size w5 W5 := by rw [← hW]; exact (Below.refl _ _).alloc (Nat.le_refl _) _
                      have N5 : Hid (EBx W5 w5.heap.size U va vc) := hide ⟨by rw [← hW]; exact heap_alloc_new _ _, h1.below bW⟩
                      obtain ⟨Z5, hZ⟩ : ∃ Z, w5.heap.size = Z := ⟨_, rfl⟩
                      rw [hZ] at N5
                      have bb := below_far3 b2 bW
                      have BL5 := hide (below_far3 (unhide BL4) bb)
                      have GX5 := hide ((unhide GX4).below bb)
                      have N2_5 := hide ((unhide N2_4).below bb)
                      have N3_5 := hide ((unhide N3_4).below bb)
                      have N4_5 := hide ((unhide N4).below bb)
                      have HW := hide hW
                      have HZ := hide hZ
                      clear hc C1 h1 b2 bW bb hW hZ BL4 GX4 N2_4 N3_4 N4
                      go_upto_region 24 with fail
                      rw [unhide HW, unhide HZ]
                      clear HW HZ
                      as_aux_lemma =>
                        have C1 := hide (unhide PC _ _ _ _ (unhide GX5) ((unhide SZ).below (unhide BL5)))
                        go_wp2_with fail
                        refine (unhide C1).mono ?_
                        rintro r w6 ⟨cao, can, cco, ccn, rfl, h1, h2, b2⟩
                        obtain ⟨W6, hW⟩ : ∃ W, w6.alloc (.cells #[.slice cao C.1.length cco, .slice can C.2.length ccn] 39) = W := ⟨_, rfl⟩
                        have bW : Below w6.heap.size w6 W6 := by rw [← hW]; exact (Below.refl _ _).alloc (Nat.le_refl _) _
                        have N6 : Hid (CBx W6 w6.heap.size C cao can cco ccn) := hide ⟨by rw [← hW]; exact heap_alloc_new _ _, h1.below bW, h2.below bW⟩
                        obtain ⟨Z6, hZ⟩ : ∃ Z, w6.heap.size = Z := ⟨_, rfl⟩
                        rw [hZ] at N6
                        have bb := below_far3 b2 bW
                        have BL6 := hide (below_far3 (unhide BL5) bb)
                        have GX6 := hide ((unhide GX5).below bb)
                        have N2_6 := hide ((unhide N2_5).below bb)
                        have N3_6 := hide ((unhide N3_5).below bb)
                        have N4_6 := hide ((unhide N4_5).below bb)
                        have N5_6 := hide ((unhide N5).below bb)
                        have HW := hide hW
                        have HZ := hide hZ
                        clear C1 h1 h2 b2 bW bb hW hZ BL5 GX5 N2_5 N3_5 N4_5 N5
                        go_upto_region 25 with fail
                        rw [unhide HW, unhide HZ]
                        clear HW HZ
                        have C1 := hide (unhide QC _ _ _ _ ((unhide HRG).below (unhide BL6)))
                        have hc : W6.cell? (ad.add j) = some (.slice rao rn rcap) := by rw [(unhide BL6).cell (blk_lt (unhide HRC))]; exact unhide HRC
                        go_wp2_with fail
                        refine (unhide C1).mono ?_
                        rintro r w7 ⟨dao, dan, dco, dcn, rfl, h1, h2, b2⟩
                        obtain ⟨W7, hW⟩ : ∃ W, w7.alloc (.cells #[.slice dao C.1.length dco, .slice dan C.2.length dcn] 39) = W := ⟨_, rfl⟩
                        have bW : Below w7.heap.size w7 W7 := by rw [← hW]; exact (Below.refl _ _).alloc (Nat.le_refl _) _
                        have N7 : Hid (CBx W7 w7.heap.size C dao dan dco dcn) := hide ⟨by rw [← hW]; exact heap_alloc_new _ _, h1.below bW, h2.below bW⟩
                        obtain ⟨Z7, hZ⟩ : ∃ Z, w7.heap.size = Z := ⟨_, rfl⟩
                        rw [hZ] at N7
                        have bb := below_far3 b2 bW
                        have BL7 := hide (below_far3 (unhide BL6) bb)
                        have GX7 := hide ((unhide GX6).below bb)
                        have N2_7 := hide ((unhide N2_6).below bb)
                        have N3_7 := hide ((unhide N3_6).below bb)
                        have N4_7 := hide ((unhide N4_6).below bb)
                        have N5_7 := hide ((unhide N5_6).below bb)
                        have N6_7 := hide ((unhide N6).below bb)
                        have HW := hide hW
                        have HZ := hide hZ
                        clear hc C1 h1 h2 b2 bW bb hW hZ BL6 GX6 N2_6 N3_6 N4_6 N5_6 N6
                        go_upto_region 26 with fail
                        rw [unhide HW, unhide HZ]
                        clear HW HZ
                        as_aux_lemma =>
                          obtain ⟨a0, a1, a2, a3, a4, a5, a6, a7, a8, a9, a10, a11, a12⟩ := mbox_cells (unhide N2_7).box
                          obtain ⟨c0, c1, c2, c3, c4, c5, c6, c7, c8, c9, c10, c11, c12⟩ := mbox_cells (unhide N3_7).box
                          have C1 := hide (mbx_same (unhide N2_7) (unhide N3_7) (unhide HF))
                          go_wp2_with fail
                          refine (unhide C1).mono ?_
                          rintro r w8 ⟨rfl, b8⟩
                          have BL8 := hide (below_far3 (unhide BL7) b8)
                          have GX8 := hide ((unhide GX7).below b8)
                          have P8 := hide ((unhide N2_7).below b8)
                          have U8 := hide ((unhide N4_7).below b8)
                          have V8 := hide ((unhide N5_7).below b8)
                          have C8 := hide ((unhide N6_7).below b8)
                          have D8 := hide ((unhide N7).below b8)
                          clear C1 b8 a0 a1 a2 a3 a4 a5 a6 a7 a8 a9 a10 a11 a12 c0 c1 c2 c3 c4 c5 c6 c7 c8 c9 c10 c11 c12 BL7 GX7 N2_7 N3_7 N4_7 N5_7 N6_7 N7
                          as_aux_lemma =>
                            have a0 : w8.cell? ⟨Z4, 0, none⟩ = some (.int .i64 U.kind) := (cell_of_block (unhide U8).box).trans rfl
                            have a1 : w8.cell? ⟨Z4, 1, none⟩ = some (.int .i64 U.client) := (cell_of_block (unhide U8).box).trans rfl
                            have a2 : w8.cell? ⟨Z4, 2, none⟩ = some (.int .i64 U.seq) := (cell_of_block (unhide U8).box).trans rfl
                            have a3 : w8.cell? ⟨Z4, 3, none⟩ = some (.string (str U.data)) := (cell_of_block (unhide U8).box).trans rfl
                            have a4 : w8.cell? ⟨Z4, 4, none⟩ = some (.slice ua U.members.length uc) := (cell_of_block (unhide U8).box).trans rfl
                            have a5 : w8.cell? ⟨Z4, 5, none⟩ = some (.int .i64 U.to') := (cell_of_block (unhide U8).box).trans rfl
                            have c0 : w8.cell? ⟨Z5, 0, none⟩ = some (.int .i64 U.kind) := (cell_of_block (unhide V8).box).trans rfl
                            have c1 : w8.cell? ⟨Z5, 1, none⟩ = some (.int .i64 U.client) := (cell_of_block (unhide V8).box).trans rfl
                            have c2 : w8.cell? ⟨Z5, 2, none⟩ = some (.int .i64 U.seq) := (cell_of_block (unhide V8).box).trans rfl
                            have c3 : w8.cell? ⟨Z5, 3, none⟩ = some (.string (str U.data)) := (cell_of_block (unhide V8).box).trans rfl
                            have c4 : w8.cell? ⟨Z5, 4, none⟩ = some (.slice va U.members.length vc) := (cell_of_block (unhide V8).box).trans rfl
                            have c5 : w8.cell? ⟨Z5, 5, none⟩ = some (.int .i64 U.to') := (cell_of_block (unhide V8).box).trans rfl
                            have C1 := hide (ebx_same (unhide U8) (unhide V8) (unhide HEL))
                            go_wp2_with fail
                            refine (unhide C1).mono ?_
                            rintro r w9 ⟨rfl, b9⟩
                            have BL9 := hide (below_far3 (unhide BL8) b9)
                            have GX9 := hide ((unhide GX8).below b9)
                            have P9 := hide ((unhide P8).below b9)
                            have C9 := hide ((unhide C8).below b9)
                            have D9 := hide ((unhide D8).below b9)
                            clear C1 b9 a0 a1 a2 a3 a4 a5 c0 c1 c2 c3 c4 c5 BL8 GX8 P8 U8 V8 C8 D8
                            as_aux_lemma =>
                              have a0 : w9.cell? ⟨Z6, 0, none⟩ = some (.slice cao C.1.length cco) := (cell_of_block (unhide C9).box).trans rfl
                              have c0 : w9.cell? ⟨Z7, 0, none⟩ = some (.slice dao C.1.length dco) := (cell_of_block (unhide D9).box).trans rfl
                              have C1 := hide (ints_same (ca := cco) (cb := dco) (unhide C9).o (unhide D9).o (unhide HCL).1)
                              go_wp2_with fail
                              refine (unhide C1).mono ?_
                              rintro r w10 ⟨rfl, b10⟩
                              have BL10 := hide (below_far3 (unhide BL9) b10)
                              have GX10 := hide ((unhide GX9).below b10)
                              have P10 := hide ((unhide P9).below b10)
                              have C10 := hide ((unhide C9).below b10)
                              have D10 := hide ((unhide D9).below b10)
                              clear C1 b10 a0 c0 BL9 GX9 P9 C9 D9
                              have a1 : w10.cell? ⟨Z6, 1, none⟩ = some (.slice can C.2.length ccn) := (cell_of_block (unhide C10).box).trans rfl
                              have c1 : w10.cell? ⟨Z7, 1, none⟩ = some (.slice dan C.2.length dcn) := (cell_of_block (unhide D10).box).trans rfl
                              have C1 := hide (ints_same (ca := ccn) (cb := dcn) (unhide C10).n (unhide D10).n (unhide HCL).2)
                              go_wp2_with fail
                              refine (unhide C1).mono ?_
                              rintro r w11 ⟨rfl, b11⟩
                              have BL11 := hide (below_far3 (unhide BL10) b11)
                              have GX11 := hide ((unhide GX10).below b11)
                              have P11 := hide ((unhide P10).below b11)
                              clear C1 b11 a1 c1 BL10 GX10 P10 C10 D10
                              as_aux_lemma =>
                                by_cases hz : f = 0
                                · have hput := unhide HPUT hz
                                  subst hz
                                  obtain ⟨a0, a1, a2, a3, a4, a5, a6, a7, a8, a9, a10, a11, a12⟩ := mbox_cells (unhide P11).box
                                  have C1 := hide (mbx_enc (unhide P11) (unhide HF) ((unhide SZ).below (unhide BL11)) hput)
                                  clear hput
                                  go_wp2_with fail
                                  refine (unhide C1).mono ?_
                                  rintro r w12 ⟨vy, rfl, oy, b12⟩
                                  obtain ⟨ay, cy, rfl, -, -, yy, -, -⟩ := oy.slice
                                  have BL12 := hide (below_far3 (unhide BL11) b12)
                                  have gx := (unhide GX11).below b12
                                  obtain ⟨z, hz⟩ : ∃ z, str rbs = z := ⟨_, rfl⟩
                                  have cv1 := conv_str (cap := cy) yy gx.len
                                  have cv2 := conv_str (cap := cx) gx.are gx.len
                                  rw [hz] at cv1 cv2
                                  rw [gx.len]
                                  clear C1 oy b12 yy gx hz a0 a1 a2 a3 a4 a5 a6 a7 a8 a9 a10 a11 a12
                                  go_wp2
                                  go_roundg (3 - (j + 1))
                                  case measure => have := unhide HJ; omega
                                  case rel => exact ⟨j + 1, by omega, by go_num, unhide BL12⟩
                                · have hzi : ¬ ((f : Int) = 0) := by omega
                                  have hzb : ((f : Int) == 0) = false := by rw [beq_eq_false_iff_ne]; exact hzi
                                  clear hz
                                  go_wp2
                                  go_roundg (3 - (j + 1))
                                  case measure => have := unhide HJ; omega
                                  case rel => exact ⟨j + 1, by omega, by go_num, unhide BL11⟩
end Go.Proofs.YtojmnlbdhpledaaDoor
