/- hist: From: a contract. -/
import Derived.Test.YtjplhiflemmkfaaGreatDoorHhHAdd
namespace Go.Proofs.YtjplhiflemmkfaaGreatDoor.Hh
open Go.RowKit Go.Maps

theorem Ir.more' {a c : Nat} {w : World} {v : Value} {ys : List Int} (h : Ir a w v ys) (hc : c ≤ a) : Ir c w v ys := by
  refine ⟨h.1, ?_⟩
  rcases h.2 with e | ⟨g, cap, cur, e1, e2, e3⟩
  · exact Or.inl e
  · exact Or.inr ⟨g, cap, cur, e1, Nat.le_trans hc e2, e3⟩
/-- what From answers. -/
def FromIs (w w' : World) (l : List Rw) (x : Ending) : Prop :=
  ∃ tv ev N, x = .returned (.tuple #[tv, ev]) ∧ Ir w.heap.size w' tv (l.map (·.1)) ∧ ERow N w.heap.size w' ev (l.map (·.2)) ∧ Below w.heap.size w w'

set_option maxRecDepth 20000 in
set_option maxHeartbeats 4000000 in
theorem from_any {D : Nat → Prop} {w : World} {p : Nat} {b : Int} {rs : List Rw} (h : Hs D w p b rs) (hf : Fit b rs) (i : Int) :
    Calls Tryz.prog 146 #[.pointer (some ⟨p, 0, none⟩), .int .i64 i] w fun x w' => FromIs w w' (rs.drop (aheadOf b rs i)) x := by
  have hkl : aheadOf b rs i ≤ rs.length := by unfold aheadOf; split <;> omega
  have AH := hide (ahead_any (h.below ((Below.refl _ w).drew)) hf i)
  obtain ⟨a, ha⟩ : ∃ a, aheadOf b rs i = a := ⟨_, rfl⟩
  rw [ha] at AH hkl ⊢
  have n1 := hf.n1
  obtain ⟨⟨rv, hbx, hrr⟩, -, -⟩ := h
  obtain ⟨ao, ca, rfl, hc1, hc2, hc3⟩ := hrr.slice
  obtain ⟨n, hn⟩ : ∃ n, rs.length = n := ⟨_, rfl⟩
  rw [hn] at hkl hbx hrr n1 hc1
  have c1 : w.drew.cell? ⟨p, 1, none⟩ = some (.slice ao n ca) := (cell_of_block (w := w.drew) hbx).trans rfl
  have HX := hide hbx
  have HR := hide hrr
  have HN := hide hn
  have hcm : ca ≤ 9223372036854775807 := hc2
  have zac : a ≤ ca := by omega
  clear hbx hrr hn ha hf
  by_cases hend : a = n
  · subst hend
    have hdr : rs.drop a = [] := List.drop_of_length_le (by rw [unhide HN]; exact Nat.le_refl _)
    rw [hdr]
    clear hdr
    cases ao with
    | none =>
      obtain ⟨hz, rfl⟩ := hc3 rfl
      have a0 : a = 0 := by omega
      subst a0
      go_enter Tryz.func146, Tryz.ntmps146
      go_wp2_with fail
      go_cut [17, 18, 19, 6, 7] (fun v17 v18 v19 v6 v7 wc => v18 = .int .i64 0 ∧ v19 = .int .i64 0 ∧ v6 = .slice none 0 0 ∧ v7 = .slice none 0 0 ∧ Below w.heap.size w wc)
      case first =>
        go_region_with (go_at_call 166; refine (unhide AH).mono ?_; rintro x w2 ⟨rfl, b2⟩; have B2 := hide (below_far ((Below.refl _ w).drew) b2); have c2 : w2.cell? ⟨p, 1, none⟩ = some (.slice none 0 0) := (cell_of_block (Below.stay (unhide B2) (unhide HX))).trans rfl; clear b2)
        all_goals go_wp2_with fail
        all_goals go_meet
        all_goals exact ⟨rfl, rfl, rfl, rfl, unhide B2⟩
      case rest =>
        obtain ⟨rfl, rfl, rfl, rfl, hb⟩ := hcut
        have B := hide hb
        clear hb
        go_wp2_with fail
        go_loopw [19, 6, 7, 9] (fun iv tv lv _ wr => iv = .int .i64 0 ∧ tv = .slice none 0 0 ∧ lv = .slice none 0 0 ∧ Below w.heap.size w wr) (fun _ _ _ _ _ => 0)
        case atStart => exact ⟨rfl, rfl, rfl, unhide B⟩
        case round =>
          obtain ⟨rfl, rfl, rfl, hb⟩ := hrel
          have B := hide hb
          clear hb
          go_wp2
          go_ret2
          exact ⟨_, _, fun _ => False, rfl, Ir.nil _ _, ERow.nil _ _ _, unhide B⟩
    | some ad =>
      go_enter Tryz.func146, Tryz.ntmps146
      go_wp2_with fail
      go_cut [17, 18, 19, 6, 7] (fun v17 v18 v19 v6 v7 wc => v18 = .int .i64 0 ∧ v19 = .int .i64 0 ∧ v6 = .slice none 0 0 ∧ v7 = .slice none 0 0 ∧ Below w.heap.size w wc)
      case first =>
        go_region_with (go_at_call 166; refine (unhide AH).mono ?_; rintro x w2 ⟨rfl, b2⟩; have B2 := hide (below_far ((Below.refl _ w).drew) b2); have c2 : w2.cell? ⟨p, 1, none⟩ = some (.slice (some ad) a ca) := (cell_of_block (Below.stay (unhide B2) (unhide HX))).trans rfl; clear b2)
        all_goals go_wp2_with fail
        all_goals go_meet
        all_goals exact ⟨rfl, rfl, rfl, rfl, unhide B2⟩
      case rest =>
        obtain ⟨rfl, rfl, rfl, rfl, hb⟩ := hcut
        have B := hide hb
        clear hb
        go_wp2_with fail
        go_loopw [19, 6, 7, 9] (fun iv tv lv _ wr => iv = .int .i64 0 ∧ tv = .slice none 0 0 ∧ lv = .slice none 0 0 ∧ Below w.heap.size w wr) (fun _ _ _ _ _ => 0)
        case atStart => exact ⟨rfl, rfl, rfl, unhide B⟩
        case round =>
          obtain ⟨rfl, rfl, rfl, hb⟩ := hrel
          have B := hide hb
          clear hb
          go_wp2
          go_ret2
          exact ⟨_, _, fun _ => False, rfl, Ir.nil _ _, ERow.nil _ _ _, unhide B⟩
  · have hlt : a < n := by omega
    obtain ⟨r0, hr0⟩ : ∃ r0, rs[0]? = some r0 := ⟨_, List.getElem?_eq_getElem (by rw [unhide HN]; omega)⟩
    obtain ⟨g, -, -, rfl, -⟩ := (unhide HR).at hr0
    have z1 : ¬ ca = a := by omega
    clear hr0 hc3 hend
    go_enter Tryz.func146, Tryz.ntmps146
    go_wp2_with fail
    go_cut [17, 18, 19, 6, 7] (fun v17 v18 v19 v6 v7 wc => v17 = .slice (some ⟨g, a * 7, none⟩) (n - a) (ca - a) ∧ v18 = .int .i64 ((n - a : Nat) : Int) ∧ v19 = .int .i64 0 ∧ v6 = .slice none 0 0 ∧ v7 = .slice none 0 0 ∧ Below w.heap.size w wc)
    case first =>
      go_region_with (go_at_call 166; refine (unhide AH).mono ?_; rintro x w2 ⟨rfl, b2⟩; have B2 := hide (below_far ((Below.refl _ w).drew) b2); have c2 : w2.cell? ⟨p, 1, none⟩ = some (.slice (some ⟨g, 0, none⟩) n ca) := (cell_of_block (Below.stay (unhide B2) (unhide HX))).trans rfl; clear b2)
      all_goals go_wp2_with fail
      all_goals go_meet
      all_goals exact ⟨rfl, rfl, rfl, rfl, rfl, unhide B2⟩
    case rest =>
      obtain ⟨rfl, rfl, rfl, rfl, rfl, hb⟩ := hcut
      have B := hide hb
      obtain ⟨m, hm⟩ : ∃ m, n - a = m := ⟨_, rfl⟩
      rw [hm]
      obtain ⟨cm, hcm2⟩ : ∃ cm, ca - a = cm := ⟨_, rfl⟩
      rw [hcm2]
      have HL : Hid ((rs.drop a).length = m) := by show _ = _; rw [List.length_drop, unhide HN]; exact hm
      have hm6 : m ≤ 1000000 := by omega
      clear hb AH c1 hm hcm2 hc1 hcm z1 zac hc2 hkl
      go_wp2_with fail
      go_loopw [19, 6, 7, 9] (fun iv tv lv _ wr => ∃ (k : Nat) (N : Nat → Prop), k ≤ m ∧ iv = .int .i64 (k : Int) ∧ Ir w.heap.size wr tv (((rs.drop a).take k).map (·.1)) ∧ ERow N w.heap.size wr lv (((rs.drop a).take k).map (·.2)) ∧ (∀ j, tv.ownBlock = some j → ¬ N j) ∧ (∀ j, N j → j < wr.heap.size) ∧ Below w.heap.size w wr) (fun iv _ _ _ _ => m - (intOf iv).toNat)
      case atStart => exact ⟨0, fun _ => False, Nat.zero_le _, rfl, Ir.nil _ _, ERow.nil _ _ _, fun _ _ x => x, fun _ x => x.elim, unhide B⟩
      case round =>
        obtain ⟨k, N, hk, rfl, hI, hE, hNt, hNl, hb⟩ := hrel
        obtain ⟨X1, hX1⟩ : ∃ X1, ((rs.drop a).take k).map (·.1) = X1 := ⟨_, rfl⟩
        obtain ⟨X2, hX2⟩ : ∃ X2, ((rs.drop a).take k).map (·.2) = X2 := ⟨_, rfl⟩
        rw [hX1] at hI
        rw [hX2] at hE
        have XX := hide (And.intro hX1 hX2)
        have HI := hide hI
        have HE := hide hE
        have NT := hide hNt
        have NL := hide hNl
        have BR := hide hb
        clear hI hE hNt hNl hb B hX1 hX2
        by_cases hk2 : k < m
        · obtain ⟨r, hr⟩ : ∃ r, (rs.drop a)[k]? = some r := ⟨_, List.getElem?_eq_getElem (by rw [unhide HL]; exact hk2)⟩
          have hr2 : rs[a + k]? = some r := by rw [List.getElem?_drop] at hr; exact hr
          obtain ⟨t, e⟩ := r
          obtain ⟨g', mo, mc, eg, hDg, hcl0, hir, -, hms⟩ := (unhide HR).at hr2
          cases eg
          have hcl : ∀ (j : Nat) (u : Value), (rwCells (t, e) (.slice mo e.ms.length mc))[j]? = some u → wr.cell? ⟨g, (a + k) * 7 + j, none⟩ = some u := fun j u hj => by
            have := hcl0 j u hj
            rw [(unhide BR).cell (blk_lt this)]; exact this
          obtain ⟨e0, e1, e2, e3, e4, e5, e6⟩ := En.seven hcl
          simp only at e0 e1 e2 e3 e4 e5 e6 hir hms
          have hq : (k : Int) < (m : Int) := by omega
          rw [show (a + k) * 7 = a * 7 + k * 7 by omega] at e0 e1 e2 e3 e4 e5 e6
          obtain ⟨W, hW⟩ : ∃ W, wr.alloc (.cells #[.int .i64 t, .int .i64 e.kind, .int .i64 e.client, .int .i64 e.seq, .string e.text, .slice mo e.ms.length mc, .int .i64 e.dest] 203) = W := ⟨_, rfl⟩
          have bW : Below wr.heap.size wr W := by rw [← hW]; exact (Below.refl _ wr).alloc (Nat.le_refl _) _
          have xW : W.heap[wr.heap.size]? = some (.cells #[.int .i64 t, .int .i64 e.kind, .int .i64 e.client, .int .i64 e.seq, .string e.text, .slice mo e.ms.length mc, .int .i64 e.dest] 203 (0, 0)) := by rw [← hW]; exact box_at _ _
          have a0 : W.cell? ⟨wr.heap.size, 0, none⟩ = some (.int .i64 t) := (cell_of_block xW).trans rfl
          obtain ⟨V, hV⟩ : ∃ V, W.alloc (.cells #[.int .i64 t] 3) = V := ⟨_, rfl⟩
          have bV : Below W.heap.size W V := by rw [← hV]; exact (Below.refl _ W).alloc (Nat.le_refl _) _
          have hVc : V.cell? ⟨W.heap.size, 0, none⟩ = some (.int .i64 t) := by rw [← hV]; exact (cell_of_block (box_at W _)).trans rfl
          have bWV := below_far bW bV
          have HIV := hide (Ir.below (unhide HI) bWV)
          have HEV := hide ((unhide HE).below bWV)
          have XV := hide (Below.stay bV xW)
          have IRV := hide hir
          have BV := hide (below_far (unhide BR) bWV)
          have VC := hide hVc
          have HW := hide hW
          have HV := hide hV
          have sV := bWV.size
          have SV := hide sV
          have hl2 : Hid (X1.length ≤ 1000000 ∧ X2.length ≤ 1000000) := by
            rw [← (unhide XX).1, ← (unhide XX).2]
            refine ⟨?_, ?_⟩ <;> (rw [List.length_map, List.length_take]; omega)
          have HT : Hid (X1 ++ [t] = ((rs.drop a).take (k + 1)).map (·.1) ∧ X2 ++ [e] = ((rs.drop a).take (k + 1)).map (·.2)) := by
            rw [← (unhide XX).1, ← (unhide XX).2]
            refine ⟨?_, ?_⟩ <;> (rw [List.take_add_one, hr, List.map_append]; rfl)
          have s0 := (unhide BV).size
          have hxne : Hid (V.heap[wr.heap.size]? = some (.cells #[.int .i64 t, .int .i64 e.kind, .int .i64 e.client, .int .i64 e.seq, .string e.text, .slice mo e.ms.length mc, .int .i64 e.dest] 203 (0, 0))) := unhide XV
          clear hr hr2 hir hcl hcl0 bW xW hW hV bV hVc bWV sV hDg
          go_upto_region 6 with fail
          rw [unhide HW]
          go_wp2_with (rw [unhide HV]; refine wpList_appAt rfl (.tmp 23) (.tmp 26) rfl w.heap.size u6 _ rfl (unhide HIV) W.heap.size t rfl (unhide VC) (unhide hl2).1 s0 ?_)
          intro tv2 w2 hI2 hg2 hat2
          have x2 : w2.heap[wr.heap.size]? = some (.cells #[.int .i64 t, .int .i64 e.kind, .int .i64 e.client, .int .i64 e.seq, .string e.text, .slice mo e.ms.length mc, .int .i64 e.dest] 203 (0, 0)) := (hg2.block _ (heap_lt (unhide hxne)) (fun x => by
            obtain ⟨_, cur, fr, hc⟩ := own_tag (unhide HIV) _ x.symm
            have hq := unhide hxne
            rw [hc] at hq; cases hq)).trans (unhide hxne)
          have b2 : Below w.heap.size w w2 := (unhide BV).trans ((Below.refl _ V).grown hg2 s0 (fun j hj => ((unhide HIV).lt j hj).1))
          have E2 := hide ((unhide HEV).grownI (unhide HIV) (unhide NT) hg2)
          have NT2 : Hid (∀ j, tv2.ownBlock = some j → ¬ N j ∧ j < w2.heap.size) := fun j hj => ⟨fun x => by
            rcases hat2 with q | q
            · exact unhide NT j (q ▸ hj) x
            · rw [q] at hj; cases hj
              have := unhide NL _ x
              have := unhide SV
              omega, (hI2.lt j hj).2⟩
          have TW := hide (htwin_any e mo mc w2 (Ir.inF (Ir.below (unhide IRV) b2)).ints hms)
          have a1 : w2.cell? ⟨wr.heap.size, 1, none⟩ = some (.int .i64 e.kind) := (cell_of_block x2).trans rfl
          have a2 : w2.cell? ⟨wr.heap.size, 2, none⟩ = some (.int .i64 e.client) := (cell_of_block x2).trans rfl
          have a3 : w2.cell? ⟨wr.heap.size, 3, none⟩ = some (.int .i64 e.seq) := (cell_of_block x2).trans rfl
          have a4 : w2.cell? ⟨wr.heap.size, 4, none⟩ = some (.string e.text) := (cell_of_block x2).trans rfl
          have a5 : w2.cell? ⟨wr.heap.size, 5, none⟩ = some (.slice mo e.ms.length mc) := (cell_of_block x2).trans rfl
          have a6 : w2.cell? ⟨wr.heap.size, 6, none⟩ = some (.int .i64 e.dest) := (cell_of_block x2).trans rfl
          have I2 := hide hI2
          have B2 := hide b2
          have NL2 : Hid (∀ j, N j → j < w2.heap.size) := fun j hj => Nat.lt_of_lt_of_le (unhide NL j hj) (Nat.le_trans (unhide SV) hg2.size)
          clear hI2 hg2 hat2 x2 b2 a0 e0 e1 e2 e3 e4 e5 e6
          go_wp2_with fail
          refine (unhide TW).mono ?_
          rintro x w3 ⟨mv, rfl, o3, b3⟩
          obtain ⟨mo2, mc2, rfl, -⟩ := o3.slice
          obtain ⟨Z, hZ⟩ : ∃ Z, w3.alloc (.cells #[.int .i64 e.kind, .int .i64 e.client, .int .i64 e.seq, .string e.text, .slice mo2 e.ms.length mc2, .int .i64 e.dest] 43) = Z := ⟨_, rfl⟩
          have bZ : Below w3.heap.size w3 Z := by rw [← hZ]; exact (Below.refl _ w3).alloc (Nat.le_refl _) _
          have xZ : Z.heap[w3.heap.size]? = some (.cells (e.cells (.slice mo2 e.ms.length mc2)).toArray 43 (0, 0)) := by rw [← hZ]; exact box_at _ _
          have b3Z := below_far b3 bZ
          have EZ := hide (((unhide E2).below b3Z).mono (M := fun j => N j ∨ (Value.slice mo2 e.ms.length mc2).ownBlock = some j) (fun _ x => Or.inl x))
          have MZ := hide (Ir.below (Ir.more' o3 (unhide B2).size) bZ)
          have IZ := hide (Ir.below (unhide I2) b3Z)
          have BZ := hide (below_far (unhide B2) b3Z)
          have XZ := hide xZ
          have HZ := hide hZ
          have sZ := (unhide BZ).size
          have NT3 : Hid (∀ j, tv2.ownBlock = some j → ¬ (N j ∨ (Value.slice mo2 e.ms.length mc2).ownBlock = some j)) := fun j hj x => by
            rcases x with x | x
            · exact (unhide NT2 j hj).1 x
            · have := (o3.lt j x).1
              have := (unhide NT2 j hj).2
              omega
          have NL3 : Hid (∀ j, (N j ∨ (Value.slice mo2 e.ms.length mc2).ownBlock = some j) → j < Z.heap.size) := fun j hj => by
            rcases hj with x | x
            · exact Nat.lt_of_lt_of_le (unhide NL2 j x) b3Z.size
            · exact Nat.lt_of_lt_of_le (o3.lt j x).2 bZ.size
          clear o3 b3 bZ xZ b3Z hZ TW a1 a2 a3 a4 a5 a6 E2 NT2 NL2 I2 B2
          go_wp2_with (rw [unhide HZ]; refine wpList_pushEn rfl (.tmp 28) (.tmp 32) rfl _ w.heap.size u7 _ rfl (unhide EZ) w3.heap.size e (.slice mo2 e.ms.length mc2) rfl (unhide XZ) (unhide MZ) (fun _ x => Or.inr x) hms (unhide hl2).2 sZ ?_)
          intro lv2 w4 hE4 hg4 hat4
          have b4 : Below w.heap.size w w4 := (unhide BZ).trans ((Below.refl _ Z).grown hg4 sZ (fun j hj => by
            obtain ⟨xs, q1, _⟩ := unhide EZ
            exact (q1.lt j hj).1))
          have i4 : Ir w.heap.size w4 tv2 (X1 ++ [t]) := own_kept (unhide IZ) fun j hj => hg4.block j ((unhide IZ).lt j hj).2 (fun x => by
            obtain ⟨xs, q1, _⟩ := unhide EZ
            obtain ⟨_, cur, fr, hc⟩ := own_tag q1 j x.symm
            obtain ⟨_, cur', fr', hc'⟩ := own_tag (unhide IZ) j hj
            rw [hc] at hc'; cases hc')
          rw [(unhide HT).1] at i4
          rw [(unhide HT).2] at hE4
          have I4 := hide i4
          have E4 := hide hE4
          have B4 := hide b4
          have NL4 : Hid (∀ j, (N j ∨ (Value.slice mo2 e.ms.length mc2).ownBlock = some j) → j < w4.heap.size) := fun j hj => Nat.lt_of_lt_of_le (unhide NL3 j hj) hg4.size
          clear i4 hE4 b4 hg4 hat4
          go_wp2
          go_roundw
          case rel => exact ⟨k + 1, _, by omega, by go_num, unhide I4, unhide E4, unhide NT3, unhide NL4, unhide B4⟩
          case measure => simp [intOf]; omega
        · obtain rfl : k = m := by omega
          have hI := unhide HI
          have hE := unhide HE
          rw [← (unhide XX).1] at hI
          rw [← (unhide XX).2] at hE
          rw [List.take_of_length_le (by rw [unhide HL]; exact Nat.le_refl _)] at hI hE
          have HI2 := hide hI
          have HE2 := hide hE
          clear hI hE
          go_wp2
          go_ret2
          exact ⟨_, _, _, rfl, unhide HI2, unhide HE2, unhide BR⟩
end Go.Proofs.YtjplhiflemmkfaaGreatDoor.Hh
