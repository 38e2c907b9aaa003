/- The document's Save: a contract. -/
import Derived.Test.YtgllokinadjiaaaGreatDoorSXSeal
import Derived.Test.YtgllokinadjiaaaGreatDoorWwXNum
import Derived.Test.YtgllokinadjiaaaGreatDoorWwRConf
import Derived.Test.YtgllokinadjiaaaGreatDoorSFit
namespace Go.Proofs.YtgllokinadjiaaaGreatDoor
open Go.RowKit Go.Maps
open Ww (KO num8 nums told putConfig confBytes Bytes)
attribute [local go_sem ↓] Go.wp_at_zero Go.wp_at_succ

theorem run_appB {w : World} (ty : TypeId) (base : Nat) (v : Value) (bs : List Nat) (hown : Ww.Own base w v bs) (ad : Addr) (m c : Nat) (ys : List Nat) (hm : ys.length = m) (hy : Bytes w (some ad) ys) (hl : bs.length + m ≤ 1000000000) (hb : base ≤ w.heap.size) :
    ∃ v' w', (Builtin.append_ #[53, 53] ty #[v, .slice (some ad) m c]).run Tryz.prog w = .ok v' w' ∧ Ww.Own base w' v' (bs ++ ys) ∧ KO base v v' w w' := by
  obtain ⟨i0, hi, hz0, hz1, hz2⟩ := info_parts Ww.Tryz.info5
  obtain ⟨v', w', hr, own', g', _, hat⟩ := run_append_own_at (P := Tryz.prog) w base 53 ty 5 i0 (.int .u8 0) 1 1 Tryz.underlying53 hi hz0 hz1 hz2 rfl (by decide) v bs.length (Ww.u8s bs) hown.1 ad m c (Ww.u8s ys) (by rw [Ww.u8s, List.length_map, hm]; omega)
    (fun j u hj => by
      rw [Ww.u8s, List.getElem?_map] at hj
      cases hq : ys[j]? with
      | none => rw [hq] at hj; simp at hj
      | some z =>
        rw [hq] at hj; simp at hj; subst hj
        obtain ⟨a', e, hcell⟩ := hy.2 j (List.getElem?_eq_some_iff.1 hq).1
        cases e
        rw [hcell, List.getD_eq_getElem?_getD, hq]; rfl)
    (Ww.u8s_one ys) (by unfold maxLen; omega) (by omega) hb
  refine ⟨v', w', hr, ⟨?_, ?_⟩, Ww.ko_append hown.1 g' hb hat⟩
  · rw [List.length_append, hm, show Ww.u8s (bs ++ ys) = Ww.u8s bs ++ Ww.u8s ys by simp [Ww.u8s]]; exact own'
  · intro z hz
    rcases List.mem_append.1 hz with hz | hz
    · exact hown.2 z hz
    · exact hy.1 z hz
/-- an append of bytes that is known to run so. -/
theorem step_catB {w : World} {ops : Array Oper} {o : Oper} {a : Act} {K : Act → World → Prop} {Q : Exit → Act → World → Prop} {E : Prop} (s x : Operand) (ho : o.op = .call { callee := .builtin .append, args := #[s, x], argTypes := #[53, 53] }) (hg : o.guard = none)
    {v z : Value} (hs : a.eval s = v) (hx : a.eval x = z) (P : Value → World → Prop) (hr : ∃ v' w', (Builtin.append_ #[53, 53] o.type #[v, z]).run Tryz.prog w = .ok v' w' ∧ P v' w') (h : ∀ v' w', P v' w' → K (a.put o.dst v') w') :
    if Region.wanted o (yielded ops a.tmps) = true then Oper.wp Tryz.prog o a w K Q else E := by
  refine step_on hg ?_
  obtain ⟨v', w', h1, h2⟩ := hr
  unfold Oper.wp execOp
  simp only [ho, resolve, invoke, builtin, Sem.run_bind, Sem.run_pure, Result.andThen_ok, List.map_toArray, List.map_cons, List.map_nil, hs, hx, h1]
  exact h v' w' h2
theorem own_less {a c : Nat} {w : World} {v : Value} {bs : List Nat} (h : Ww.Own a w v bs) (hc : c ≤ a) : Ww.Own c w v bs := by
  refine ⟨⟨h.1.1, ?_⟩, h.2⟩
  rcases h.1.2 with e | ⟨g, cap, cur, e1, e2, e3⟩
  · exact Or.inl e
  · exact Or.inr ⟨g, cap, cur, e1, Nat.le_trans hc e2, e3⟩
theorem nums3 (bk : List Nat) (a b c : Int) (cs : List Nat) : ((bk ++ num8 a) ++ num8 b) ++ num8 c ++ cs = bk ++ (nums [a, b, c] ++ cs) := by simp [nums]
theorem flat_len (l : List Gn) (h : ∀ g ∈ l, g.ms.length ≤ 7) : ((l.map genBytes).flatten).length ≤ 100 * l.length := by
  induction l with
  | nil => simp
  | cons g l ih =>
    have h1 := ih (fun x hx => h x (by simp [hx]))
    have h2 := h g (by simp)
    simp only [List.map_cons, List.flatten_cons, List.length_append, genBytes_len, List.length_cons]
    omega
set_option maxRecDepth 20000 in
set_option maxHeartbeats 8000000 in
theorem xsave_any {F : Nat → Prop} {base : Nat} {w : World} {p : Nat} {rv : Value} {gs : List Gn} (h : XG F base w p rv gs) {n : Nat} (hn : gs.length = n) (hl : n < 256) (hms : ∀ g ∈ gs, g.ms.length ≤ 7) :
    Calls Tryz.prog 23 #[.pointer (some ⟨p, 0, none⟩)] w fun e w' => ∃ v, e = .returned v ∧ Ww.Own w.heap.size w' v (saveBytes gs) ∧ Below w.heap.size w w' := by
  obtain ⟨ao, ca, rfl, -, -, -⟩ := h.row.slice
  have hbx := h.box
  have hrr := h.row
  rw [hn] at hbx hrr
  obtain ⟨W, hW⟩ : ∃ W, w.alloc (.cells #[.int .u8 (n : Int)] 5) = W := ⟨_, rfl⟩
  have bW : Below w.heap.size w W := by rw [← hW]; exact (Below.refl _ w).alloc (Nat.le_refl _) _
  have oW : Ww.Own w.heap.size W (.slice (some ⟨w.heap.size, 0, none⟩) 1 1) [n] := by rw [← hW]; exact own_one w n hl
  have pc : w.cell? ⟨p, 0, none⟩ = some (.slice ao n ca) := (cell_of_block hbx).trans rfl
  have hu8 : IntKind.u8.wrap (n : Int) = (n : Int) := by rw [IntKind.wrap_u8]; omega
  have HPC := hide pc
  have HR := hide hrr
  have HN := hide hn
  have HMS := hide hms
  have HW := hide hW
  have BW := hide bW
  have OW := hide oW
  have NUM := hide (fun (v : Value) (bs : List Nat) (y : Int) (Y : World) (hO : Ww.Own w.heap.size Y v bs) (hl : bs.length ≤ 900000000) (hb : w.heap.size ≤ Y.heap.size) => Ww.xgnumK w.heap.size v bs y Y hO hl hb)
  clear h hbx hrr hn hW bW oW hms
  go_enter Tryz.func23, Tryz.ntmps23
  go_upto_region 2 with fail
  rw [unhide HW]
  clear pc
  go_wp2
  go_loopw [4, 3, 5, 6] (fun i bv _ _ wr => ∃ k : Nat, k ≤ n ∧ i = .int .i64 k ∧ Ww.Own w.heap.size wr bv ([n] ++ ((gs.take k).map genBytes).flatten) ∧ Below w.heap.size w wr) (fun i _ _ _ _ => n - (intOf i).toNat)
  case atStart => exact ⟨0, Nat.zero_le _, rfl, by simpa using unhide OW, unhide BW⟩
  case round =>
    obtain ⟨k, hk, rfl, ho, hb⟩ := hrel
    have pc := (hb.cell (blk_lt (unhide HPC))).trans (unhide HPC)
    by_cases hlt : k < n
    · obtain ⟨g, hg⟩ : ∃ g, gs[k]? = some g := ⟨_, List.getElem?_eq_getElem (by rw [unhide HN]; exact hlt)⟩
      obtain ⟨b, oo, oc, mo, mc, rfl, c0w, c1w, c2w, c3w, c4w, him, -⟩ := (unhide HR).at hg
      have h7 := unhide HMS g (List.mem_of_getElem? hg)
      obtain ⟨y, hy⟩ : ∃ y, g.ms.length = y := ⟨_, rfl⟩
      rw [hy] at c4w
      have c0 := (hb.cell (blk_lt c0w)).trans c0w
      have c1 := (hb.cell (blk_lt c1w)).trans c1w
      have c2 := (hb.cell (blk_lt c2w)).trans c2w
      have c3 := (hb.cell (blk_lt c3w)).trans c3w
      have c4 := (hb.cell (blk_lt c4w)).trans c4w
      obtain ⟨bk, hbk⟩ : ∃ bk, [n] ++ ((gs.take k).map genBytes).flatten = bk := ⟨_, rfl⟩
      rw [hbk] at ho
      have HQ : Hid ([n] ++ ((gs.take (k + 1)).map genBytes).flatten = bk ++ (nums [g.n, g.eng, g.base] ++ confBytes [] g.ms)) := hide (by
        rw [take_succ gs g k (by rw [unhide HN]; exact hlt), List.map_append, List.flatten_append, ← List.append_assoc, hbk, List.getD_eq_getElem?_getD, hg]
        simp [genBytes])
      have hbl : bk.length ≤ 1 + 100 * k := by
        rw [← hbk, List.length_append, List.length_singleton]
        have h1 := flat_len (gs.take k) (fun g hg => unhide HMS g (List.mem_of_mem_take hg))
        rw [List.length_take] at h1
        omega
      have CE := Ww.rencC_any oo mo 0 y oc mc (by unfold maxLen; omega) (by unfold maxLen; omega) [] g.ms rfl hy wr (fun i hi => by simp at hi) (him.ints.below hb)
      rw [(told_conf h7).1, (told_conf h7).2] at CE
      obtain ⟨gn, hgn⟩ : ∃ x, g.n = x := ⟨_, rfl⟩
      obtain ⟨ge, hge⟩ : ∃ x, g.eng = x := ⟨_, rfl⟩
      obtain ⟨gb, hgb⟩ : ∃ x, g.base = x := ⟨_, rfl⟩
      rw [hgn, hge, hgb] at HQ
      rw [hgn] at c0 c0w
      rw [hge] at c1 c1w
      rw [hgb] at c2 c2w
      obtain ⟨cb, hcb⟩ : ∃ x, confBytes [] g.ms = x := ⟨_, rfl⟩
      have hcl : cb.length ≤ 60 ∧ 0 < cb.length := by
        rw [← hcb]
        simp only [confBytes, List.length_append, Ww.nums_len, List.length_cons, List.length_nil]
        omega
      rw [hcb] at CE HQ
      have CE' := hide CE
      have SX : Hid (∀ Y, Below w.heap.size w Y → (Y.cell? ⟨p, 0, none⟩ = some (.slice (some ⟨b, 0, none⟩) n ca) ∧ Y.cell? ⟨b, k * 5, none⟩ = some (.int .i64 gn) ∧ Y.cell? ⟨b, k * 5 + 1, none⟩ = some (.int .i64 ge) ∧ Y.cell? ⟨b, k * 5 + 2, none⟩ = some (.int .i64 gb))) := hide (fun Y hY =>
        ⟨(hY.cell (blk_lt (unhide HPC))).trans (unhide HPC), (hY.cell (blk_lt c0w)).trans c0w, (hY.cell (blk_lt c1w)).trans c1w, (hY.cell (blk_lt c2w)).trans c2w⟩)
      obtain ⟨ao3, c3', e3, -⟩ := ho.slice
      obtain ⟨d3, hd3⟩ : ∃ d, bk.length = d := ⟨_, rfl⟩
      rw [hd3] at e3
      subst e3
      have HO := hide ho
      have HB := hide hb
      have HBL := hide hbl
      have HCL := hide hcl
      have q1 : (k : Int) < (n : Int) := by omega
      have q0 : (0 : Int) ≤ (k : Int) := by omega
      clear c0w c1w c2w c3w c4w ho hb hg hy hbk hbl h7 CE hgn hge hgb hcb hcl him hd3
      go_wp2_with fail
      refine (unhide CE').mono ?_
      rintro e w4 ⟨v4, rfl, o4, b4⟩
      obtain ⟨ao4, cp4, rfl, -, -, by4, -, -⟩ := o4.slice
      obtain ⟨ad4, rfl⟩ : ∃ ad, ao4 = some ad := by
        obtain ⟨a, e, -⟩ := by4.2 0 (unhide HCL).2
        exact ⟨a, e⟩
      obtain ⟨dc, hdc⟩ : ∃ d, cb.length = d := ⟨_, rfl⟩
      rw [hdc] at o4
      rw [hdc]
      have O0 : Hid (Ww.Own w.heap.size w4 (.slice ao3 d3 c3') bk) := hide ⟨own_below (unhide HO).1 b4, (unhide HO).2⟩
      have HV3 := hide (fun q (hq : (Value.slice ao3 d3 c3').ownBlock = some q) => ((unhide HO).1.lt q hq).2)
      have OC := hide o4
      have EZ := hide ((((unhide HB).trans (b4.mono (unhide HB).size))).drew)
      have L0 : Hid (bk.length ≤ 900000000) := hide (by have := unhide HBL; omega)
      have HDC := hide hdc
      have BYC := hide (fun (v' : Value) (Y : World) (hk : KO w.heap.size (.slice ao3 d3 c3') v' w4 Y) => show Bytes Y (some ad4) cb from by
        have hs : w4.heap.size ≤ Y.heap.size := hk.size
        have hown : Ww.Own w.heap.size Y (.slice (some ad4) dc cp4) cb := by
          have hlo : Ww.Own w.heap.size w4 (.slice (some ad4) dc cp4) cb := own_less o4 (unhide HB).size
          refine ⟨Kept.own hk.1 hlo.1 (fun q hq e => ?_), hlo.2⟩
          have h1 := (o4.1.lt q hq).1
          have h2 := unhide HV3 q e
          omega
        obtain ⟨ao', cap', e, -, -, hby, -, -⟩ := hown.slice
        cases e
        exact hby)
      have W4S := hide b4.size
      clear o4 b4 by4 hdc CE' c0 c1 c2 c3 c4 pc
      go_upto_region 6 with fail
      go_region_held3 (fun Y => Y.cell? ⟨p, 0, none⟩ = some (.slice (some ⟨b, 0, none⟩) n ca) ∧ Y.cell? ⟨b, k * 5, none⟩ = some (.int .i64 gn) ∧ Y.cell? ⟨b, k * 5 + 1, none⟩ = some (.int .i64 ge) ∧ Y.cell? ⟨b, k * 5 + 2, none⟩ = some (.int .i64 gb))
        (first | with_reducible exact unhide SX _ (unhide EZ) | with_reducible exact unhide SX _ (unhide EZ).drew | fail)
        (first
          | (go_at_call 41
             first
               | (refine (unhide NUM _ _ gb _ (unhide O2) (unhide L2) (unhide EZ).size).mono ?_
                  rintro z n3 ⟨v7, rfl, o7, k7⟩
                  obtain ⟨a7, c7, e7, -⟩ := o7.slice
                  obtain ⟨d7, hd7⟩ : ∃ d, (((bk ++ num8 gn) ++ num8 ge) ++ num8 gb).length = d := ⟨_, rfl⟩
                  rw [hd7] at e7
                  subst e7
                  have O3 := hide o7
                  have L3 : Hid (((((bk ++ num8 gn) ++ num8 ge) ++ num8 gb)).length + dc ≤ 1000000000) := hide (by simp only [List.length_append, Ww.num8_len]; have := unhide HBL; have := (unhide HCL).1; have := unhide HDC; omega)
                  have K3 := hide ((unhide K2).trans k7)
                  have EN := hide ((unhide EZ).trans k7.below)
                  clear EZ o7 k7 hd7; have EZ := EN; clear EN)
               | (refine (unhide NUM _ _ ge _ (unhide O1) (unhide L1) (unhide EZ).size).mono ?_
                  rintro z n2 ⟨v6, rfl, o6, k6⟩
                  obtain ⟨a6, c6, e6, -⟩ := o6.slice
                  obtain ⟨d6, hd6⟩ : ∃ d, ((bk ++ num8 gn) ++ num8 ge).length = d := ⟨_, rfl⟩
                  rw [hd6] at e6
                  subst e6
                  have O2 := hide o6
                  have L2 : Hid (((bk ++ num8 gn) ++ num8 ge).length ≤ 900000000) := hide (by simp only [List.length_append, Ww.num8_len]; have := unhide HBL; omega)
                  have K2 := hide ((unhide K1).trans k6)
                  have EN := hide ((unhide EZ).trans k6.below)
                  clear EZ o6 k6 hd6; have EZ := EN; clear EN)
               | (refine (unhide NUM _ _ gn _ (show Ww.Own w.heap.size w4.drew (.slice ao3 d3 c3') bk from unhide O0) (unhide L0) (unhide EZ).size).mono ?_
                  rintro z n1 ⟨v5, rfl, o5, k5⟩
                  obtain ⟨a5, c5, e5, -⟩ := o5.slice
                  obtain ⟨d5, hd5⟩ : ∃ d, (bk ++ num8 gn).length = d := ⟨_, rfl⟩
                  rw [hd5] at e5
                  subst e5
                  have O1 := hide o5
                  have L1 : Hid ((bk ++ num8 gn).length ≤ 900000000) := hide (by simp only [List.length_append, Ww.num8_len]; have := unhide HBL; omega)
                  have K1 := hide (KO.fresh k5 ((Below.refl w4.heap.size w4).drew) (Nat.le_trans (unhide HB).size (unhide W4S)))
                  have EN := hide ((unhide EZ).trans k5.below)
                  clear EZ o5 k5 hd5; have EZ := EN; clear EN)
               | fail)
          | (with_reducible refine step_catB (.tmp 62) (.tmp 63) (by with_unfolding_all rfl) (by with_unfolding_all rfl) (by with_unfolding_all rfl) (by with_unfolding_all rfl) _ (run_appB 53 w.heap.size _ _ (unhide O3) ad4 dc cp4 cb (unhide HDC) (unhide BYC _ _ (unhide K3)) (unhide L3) (unhide EZ).size) ?_
             intro v8 z8 h8
             obtain ⟨o8, k8⟩ := h8
             obtain ⟨a8, c8, e8, -⟩ := o8.slice
             obtain ⟨d8, hd8⟩ : ∃ d, ((((bk ++ num8 gn) ++ num8 ge) ++ num8 gb) ++ cb).length = d := ⟨_, rfl⟩
             rw [hd8] at e8
             subst e8
             have O8 := hide o8
             have EN := hide ((unhide EZ).trans k8.below)
             clear EZ o8 k8 hd8; have EZ := EN; clear EN)
          | fail)
      all_goals go_wp2
      all_goals go_roundw
      all_goals first
        | exact ⟨k + 1, by omega, by go_num, by rw [unhide HQ, ← nums3]; exact unhide O8, unhide EZ⟩
        | (simp [intOf]; omega)
    · obtain rfl : k = n := by omega
      have HO := hide ho
      have HB := hide hb
      have q1 : ¬ (k : Int) < (k : Int) := by omega
      clear ho hb
      go_wp2
      go_ret
      have ho := unhide HO
      rw [List.take_of_length_le (by rw [unhide HN]; exact Nat.le_refl _)] at ho
      exact ⟨_, rfl, by unfold saveBytes; rw [unhide HN]; exact ho, unhide HB⟩
end Go.Proofs.YtgllokinadjiaaaGreatDoor
