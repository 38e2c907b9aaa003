/- mayBeRead: a contract. -/
import Derived.Test.YtndpkpkijfplaaaGClaims
import Derived.Deep.RegionHeld3
import Derived.Deep.DrawnRows
namespace Go.Proofs.Ytndpkpkijfplaaa
open Go.RowKit Go.Maps
attribute [local go_sem ↓] Go.wp_at_zero Go.wp_at_succ

/-- the greatest number of each client. -/
def IMap (w : World) (q c : Nat) (f : Int → Int) : Prop :=
  ∃ M : DataW Value, w.ownsMap Try.prog 3 asIs q c M ∧ ∀ x, wf64 x → M.atKey (.int .i64 x) (.held (.int .i64 0)) = .held (.int .i64 (f x))
theorem IMap.stay {w w' : World} {q c : Nat} {f : Int → Int} (h : IMap w q c f) (hq : w'.heap[q]? = w.heap[q]?) : IMap w' q c f := by
  obtain ⟨M, h1, h2⟩ := h; exact ⟨M, owns_stay h1 hq, h2⟩
theorem IMap.lt {w : World} {q c : Nat} {f : Int → Int} (h : IMap w q c f) : q < w.heap.size := by
  obtain ⟨M, h1, h2⟩ := h; exact h1.lt
theorem IMap.below {w w' : World} {q c : Nat} {f : Int → Int} (h : IMap w q c f) (hb : Below w.heap.size w w') : IMap w' q c f := h.stay (hb.block q h.lt)
theorem IMap.obj {w : World} {q c : Nat} {f : Int → Int} (h : IMap w q c f) : ∃ es cl, w.heap[q]? = some (.map es cl) := by
  obtain ⟨M, h1, h2⟩ := h; exact owns_obj h1
theorem IMap.look {w : World} {q c : Nat} {f : Int → Int} (h : IMap w q c f) {x : Int} (hx : wf64 x) : (Instr.lookup 75 (.map (some q)) (.int .i64 x) false).run Try.prog w = .ok (.int .i64 (f x)) w := by
  obtain ⟨M, h1, h2⟩ := h
  obtain ⟨v, ps, r1, r2⟩ := h1.lookup keyedI Try.underlying75 (zeroI w) rfl (keyOf_int_mk Try.underlying3 hx)
  rw [h2 x hx] at r2
  simp only [asIs, Option.some.injEq, Prod.mk.injEq, DataW.held.injEq] at r2
  rw [r2.1] at r1
  exact r1
theorem IMap.store {w : World} {q c : Nat} {f : Int → Int} (h : IMap w q c f) {x v : Int} (hx : wf64 x) (hc : c < 1000000000) :
    ∃ w', (Instr.mapUpdate 75 (.map (some q)) (.int .i64 x) (.int .i64 v)).run Try.prog w = .ok () w' ∧ IMap w' q (c + 1) (fun y => if y = x then v else f y) ∧ w.grownBy w' (some q) := by
  obtain ⟨M, h1, h2⟩ := h
  obtain ⟨w', r1, r2, r3⟩ := h1.update keyedI Try.underlying75 (by unfold maxLen; omega) (keyOf_int_mk Try.underlying3 hx) (val := .int .i64 v) (d := .held (.int .i64 v)) (ps := []) rfl
  have hm := h1.isMap
  refine ⟨w', r1, ⟨_, r2, fun y hy => ?_⟩, r3⟩
  show _ = DataW.held (Value.int .i64 (if y = x then v else f y))
  by_cases e : y = x
  · rw [if_pos e, e]; exact atKey_put_same hm (by simp [WideAt.IsKeyLit]) _ _
  · rw [if_neg e, atKey_put_other (by simpa using e)]; exact h2 y hy
theorem IMap.made (w : World) : IMap (w.alloc (.map #[] 0)) w.heap.size 0 (fun _ => 0) := ⟨.map [], World.ownsMap_made w Try.prog 3 asIs, fun _ _ => rfl⟩
/-- what a look-up of a request tells, and leaves in a box. -/
def Found (A wc : World) (v8 v9 : Value) (o : Option En) : Prop :=
  match o with
  | none => v9 = .bool false
  | some e => v9 = .bool true ∧ ∃ b8 mo mc, v8 = .pointer (some ⟨b8, 0, none⟩) ∧ EnA A e mo ∧ wc.heap[b8]? = some (.cells #[.int .i64 e.kind, .int .i64 e.client, .int .i64 e.seq, .string e.text, .slice mo e.ms.length mc, .int .i64 e.dest] 29 (0, 0))
/-- an entry's numbers. -/
def En.wf (e : En) : Prop := wf64 e.client ∧ wf64 e.seq
set_option maxRecDepth 20000 in
set_option maxHeartbeats 4000000 in
/-- mayBeRead over any entries. -/
theorem mayBeRead_any {A w : World} {p a b d n : Nat} {S : Kn} (h : KnA A w p a b d n S) (hA : Below A.heap.size A w) {F : Nat → Prop} (ao : Option Addr) (m cap : Nat) (es : List En) (hm : es.length = m) (hl : m ≤ 1000000) (hr : EsR F w ao es) (hw : ∀ x ∈ es, En.wf x) :
    Calls Try.prog 28 #[.pointer (some ⟨p, 0, none⟩), .slice ao m cap] w fun x w' => x = .returned (.bool (mayRead S es)) ∧ Below w.heap.size w w' := by
  obtain ⟨R, hR⟩ : ∃ R, mayRead S es = R := ⟨_, rfl⟩
  rw [hR]
  have HRR := hide hR
  obtain ⟨W, hW⟩ : ∃ W, w.alloc (.map #[] 0) = W := ⟨_, rfl⟩
  have bW : Below w.heap.size w W := by rw [← hW]; exact (Below.refl _ w).alloc (Nat.le_refl _) _
  have iW : IMap W w.heap.size 0 (fun _ => 0) := by rw [← hW]; exact IMap.made w
  obtain ⟨g, hg⟩ : ∃ g, w.heap.size = g := ⟨_, rfl⟩
  rw [hg] at iW bW
  have HG := hide hg
  have HR := hide hr
  have HM := hide hm
  have HWF := hide hw
  have HK := hide h
  have BW := hide bW
  have IW := hide iW
  have HA := hide hA
  have HW := hide hW
  have hmm := @run_makeMap Try.prog
  clear hr hm hw h bW iW hA hg hW hR
  go_enter Try.func28, Try.ntmps28
  go_upto_region 2 with fail
  rw [unhide HW]
  rw [unhide HG]
  go_wp2_with fail
  clear hmm
  go_loopw [13, 7, 8, 9] (fun i _ _ _ wr => ∃ k : Nat, k ≤ m ∧ i = .int .i64 k ∧ (∀ (j : Nat) (e : En), j < k → es[j]? = some e → mayReadE S (topTo (es.take j)) e) ∧ IMap wr g k (topTo (es.take k)) ∧ Below g w wr) (fun i _ _ _ _ => m - (intOf i).toNat)
  case atStart => exact ⟨0, Nat.zero_le _, rfl, fun j e hj => by omega, unhide IW, unhide BW⟩
  case round =>
    obtain ⟨k, hk, rfl, hall, hi, hb⟩ := hrel
    have ALL := hide hall
    have IM := hide hi
    have HB := hide hb
    clear hall hi hb
    by_cases hlt : k < m
    · obtain ⟨e, he⟩ : ∃ e, es[k]? = some e := ⟨_, List.getElem?_eq_getElem (by rw [unhide HM]; exact hlt)⟩
      obtain ⟨go, off, mo, mc, rfl, c0, c1, c2, c3, c4, c5, hin, hml⟩ := EsR.at (unhide HR) he
      have bb : Below w.heap.size w wr := by rw [unhide HG]; exact unhide HB
      replace c0 := (bb.cell (blk_lt c0)).trans c0
      replace c1 := (bb.cell (blk_lt c1)).trans c1
      replace c2 := (bb.cell (blk_lt c2)).trans c2
      replace c3 := (bb.cell (blk_lt c3)).trans c3
      replace c4 := (bb.cell (blk_lt c4)).trans c4
      replace c5 := (bb.cell (blk_lt c5)).trans c5
      have q : (k : Int) < m := by omega
      obtain ⟨W, hW, bW, xW⟩ := boxE wr e mo mc
      obtain ⟨B, hB⟩ : ∃ B, wr.heap.size = B := ⟨_, rfl⟩
      rw [hB] at xW
      have HGW : Hid (g ≤ wr.heap.size) := hide (by have := bb.size; have := unhide HG; omega)
      have kW := ((unhide HK).below bb).below bW
      have iW := (unhide IM).below bW
      obtain ⟨hwc, hws⟩ := unhide HWF e (List.mem_of_getElem? he)
      have INM : Hid (EnA W e mo) := ⟨(hin.ints.below bb).below bW, hml⟩
      obtain ⟨V, hV⟩ : ∃ V, (W.alloc (zbox 29)).drew = V := ⟨_, rfl⟩
      have bV : Below W.heap.size W V := by rw [← hV]; exact ((Below.refl _ W).alloc (Nat.le_refl _) _).drew
      have xV : V.heap[W.heap.size]? = some (zbox 29) := by rw [← hV]; exact box_at W _
      have bD : Below W.heap.size W W.drew := (Below.refl _ W).drew
      have SSF : Hid (∀ (Y : World), Below W.heap.size W Y → Y.cell? ⟨p, 0, none⟩ = some (.map (some a)) ∧ Y.cell? ⟨B, 0, none⟩ = some (.int .i64 e.kind) ∧ Y.cell? ⟨B, 1, none⟩ = some (.int .i64 e.client) ∧ Y.cell? ⟨B, 2, none⟩ = some (.int .i64 e.seq) ∧ Y.cell? ⟨B, 3, none⟩ = some (.string e.text) ∧ Y.cell? ⟨B, 4, none⟩ = some (.slice mo e.ms.length mc) ∧ Y.cell? ⟨B, 5, none⟩ = some (.int .i64 e.dest)) := fun Y hY => by
        have hx := Below.stay hY xW
        obtain ⟨z0, z1, z2, z3, z4, z5⟩ := six_of hx
        exact ⟨(cell_of_block (kW.below hY).box).trans rfl, z0, z1, z2, z3, z4, z5⟩
      have SD := hide (unhide SSF _ bD)
      have SV' := unhide SSF _ bV
      have RD := hide (requestOf_any e mo mc W.drew)
      have RV' := requestOf_any e mo mc V
      have XV' := xV
      rw [← hV] at SV' RV' XV'
      have SV := hide SV'
      have RV := hide RV'
      have XV := hide XV'
      have BD := hide bD
      have BV' := bV
      rw [← hV] at BV'
      have BV := hide BV'
      obtain ⟨o, ho⟩ : ∃ o, S.calls e.client e.seq = o := ⟨_, rfl⟩
      have KW := hide kW
      have IW2 := hide iW
      have WF : Hid (wf64 e.client ∧ wf64 e.seq) := ⟨hwc, hws⟩
      have HE := hide he
      have BW2 := hide bW
      have HO := hide ho
      have XW2 := hide xW
      have HW2 := hide hW
      clear kW iW hwc hws hin hml bV xV bD SV' RV' XV' BV' he bW bb hV ho xW hW
      clear V
      go_upto_region 5 with fail
      rw [unhide HW2]
      clear HW2 hB c0 c1 c2 c3 c4 c5
      cases o with
      | none =>
        have LK : Hid (∀ Y, Below W.heap.size W Y → (Instr.lookup 56 (.map (some a)) (.agg #[.int .i64 e.client, .int .i64 e.seq]) true).run Try.prog Y = .ok (.tuple #[zent, .bool false]) Y) := fun Y hY =>
          ((unhide KW).below hY).calls_none (unhide WF).1 (unhide WF).2 (unhide HO)
        go_cut [8, 9] (fun t8 t9 wc => Found A wc t8 t9 none ∧ Below W.heap.size W wc)
        case first =>
          go_region_held3 (fun Y => Y.cell? ⟨p, 0, none⟩ = some (.map (some a)) ∧ Y.cell? ⟨B, 0, none⟩ = some (.int .i64 e.kind) ∧ Y.cell? ⟨B, 1, none⟩ = some (.int .i64 e.client) ∧ Y.cell? ⟨B, 2, none⟩ = some (.int .i64 e.seq) ∧ Y.cell? ⟨B, 3, none⟩ = some (.string e.text) ∧ Y.cell? ⟨B, 4, none⟩ = some (.slice mo e.ms.length mc) ∧ Y.cell? ⟨B, 5, none⟩ = some (.int .i64 e.dest))
            (first | with_reducible exact unhide SD | with_reducible exact unhide SV | with_reducible exact unhide T1 | with_reducible exact unhide T2 | with_reducible exact unhide T3 | with_reducible exact unhide T4 | with_reducible exact unhide T5 | fail)
            (first
            | (go_at_call 36
               with_reducible refine (unhide RD).mono ?_
               rintro z w1 ⟨rfl, b1⟩
               have bw1 := below_far (unhide BD) b1
               have bw2 := bw1.alloc (Nat.le_trans bw1.size (Nat.le_refl _)) (zbox 29)
               have bw3 := bw1.alloc (Nat.le_trans bw1.size (Nat.le_refl _)) (zbox 29)
               have lk1 := unhide LK w1 bw1
               have lk2 := unhide LK _ bw2
               have T1 := hide (unhide SSF w1 bw1)
               have T2 := hide (unhide SSF _ bw2)
               have T3 := hide (unhide SSF _ bw3)
               have E3 := hide bw3
               have X3 := hide (box_at w1 (zbox 29))
               clear b1 bw1 bw2 bw3)
            | (go_at_call 36
               with_reducible refine (unhide RV).mono ?_
               rintro z w2 ⟨rfl, b1⟩
               have bw1 := below_far (unhide BV) b1
               have x2 := Below.stay b1 (unhide XV)
               obtain ⟨v0, v1, v2, v3, v4, v5⟩ := six_of x2
               have fv : ∀ i, w2.frozen? ⟨W.heap.size, i, none⟩ = false := fun i => free_of_block x2
               have lk1 := unhide LK w2 bw1
               have T4 := hide (unhide SSF w2 bw1)
               have HE := six_end (v0 := (.int .i64 0)) (v1 := (.int .i64 0)) (v2 := (.int .i64 0)) (v3 := (.string ⟨#[]⟩)) (v4 := (.slice none 0 0)) (v5 := (.int .i64 0)) x2 (Nat.le_refl _) bw1 _ rfl
               have T5 := hide (unhide SSF _ HE.2.1)
               have E3 := hide HE.2.1
               have X3 := hide HE.1
               clear b1 bw1 x2 HE)
            | fail)
          all_goals go_wp2
          all_goals go_meet
          all_goals exact ⟨rfl, unhide E3⟩
        case rest =>
          obtain ⟨h9, hwc⟩ := hcut
          have h9' : u9 = .bool false := h9
          subst h9'
          obtain rfl : R = false := by
            rw [← unhide HRR]
            refine mayRead_no (unhide HE) (fun h => ?_)
            have h1 := h.1
            unfold wasCalled at h1
            rw [unhide HO] at h1
            cases h1
          have FIN := hide ((unhide HB).trans ((below_far (unhide BW2) hwc).mono (unhide HGW)))
          clear hwc h9
          go_wp2
          go_ret
          exact ⟨rfl, by rw [unhide HG]; exact unhide FIN⟩
      | some e' =>
        obtain ⟨mo', mc', hea, hlk⟩ := (unhide KW).calls_some (unhide WF).1 (unhide WF).2 (unhide HO)
        have LK := hide hlk
        have EA := hide hea
        clear hlk hea
        go_cut [8, 9] (fun t8 t9 wc => Found A wc t8 t9 (some e') ∧ Below W.heap.size W wc)
        case first =>
          go_region_held3 (fun Y => Y.cell? ⟨p, 0, none⟩ = some (.map (some a)) ∧ Y.cell? ⟨B, 0, none⟩ = some (.int .i64 e.kind) ∧ Y.cell? ⟨B, 1, none⟩ = some (.int .i64 e.client) ∧ Y.cell? ⟨B, 2, none⟩ = some (.int .i64 e.seq) ∧ Y.cell? ⟨B, 3, none⟩ = some (.string e.text) ∧ Y.cell? ⟨B, 4, none⟩ = some (.slice mo e.ms.length mc) ∧ Y.cell? ⟨B, 5, none⟩ = some (.int .i64 e.dest))
            (first | with_reducible exact unhide SD | with_reducible exact unhide SV | with_reducible exact unhide T1 | with_reducible exact unhide T2 | with_reducible exact unhide T3 | with_reducible exact unhide T4 | with_reducible exact unhide T5 | fail)
            (first
            | (go_at_call 36
               with_reducible refine (unhide RD).mono ?_
               rintro z w1 ⟨rfl, b1⟩
               have bw1 := below_far (unhide BD) b1
               have bw2 := bw1.alloc (Nat.le_trans bw1.size (Nat.le_refl _)) (zbox 29)
               have bw3 := bw1.alloc (Nat.le_trans bw1.size (Nat.le_refl _)) ((.cells #[.int .i64 e'.kind, .int .i64 e'.client, .int .i64 e'.seq, .string e'.text, .slice mo' e'.ms.length mc', .int .i64 e'.dest] 29 : Obj))
               have lk1 := unhide LK w1 bw1
               have lk2 := unhide LK _ bw2
               have T1 := hide (unhide SSF w1 bw1)
               have T2 := hide (unhide SSF _ bw2)
               have T3 := hide (unhide SSF _ bw3)
               have E3 := hide bw3
               have X3 := hide (box_at w1 ((.cells #[.int .i64 e'.kind, .int .i64 e'.client, .int .i64 e'.seq, .string e'.text, .slice mo' e'.ms.length mc', .int .i64 e'.dest] 29 : Obj)))
               clear b1 bw1 bw2 bw3)
            | (go_at_call 36
               with_reducible refine (unhide RV).mono ?_
               rintro z w2 ⟨rfl, b1⟩
               have bw1 := below_far (unhide BV) b1
               have x2 := Below.stay b1 (unhide XV)
               obtain ⟨v0, v1, v2, v3, v4, v5⟩ := six_of x2
               have fv : ∀ i, w2.frozen? ⟨W.heap.size, i, none⟩ = false := fun i => free_of_block x2
               have lk1 := unhide LK w2 bw1
               have T4 := hide (unhide SSF w2 bw1)
               have HE := six_end (v0 := (.int .i64 e'.kind)) (v1 := (.int .i64 e'.client)) (v2 := (.int .i64 e'.seq)) (v3 := (.string e'.text)) (v4 := (.slice mo' e'.ms.length mc')) (v5 := (.int .i64 e'.dest)) x2 (Nat.le_refl _) bw1 _ rfl
               have T5 := hide (unhide SSF _ HE.2.1)
               have E3 := hide HE.2.1
               have X3 := hide HE.1
               clear b1 bw1 x2 HE)
            | fail)
          all_goals go_wp2
          all_goals go_meet
          all_goals exact ⟨⟨rfl, _, mo', mc', rfl, unhide EA, unhide X3⟩, unhide E3⟩
        case rest =>
          obtain ⟨h9, hwc⟩ := hcut
          obtain ⟨rfl, b8, mo2, mc2, rfl, hea, x8⟩ := h9
          have xb := Below.stay hwc (unhide XW2)
          obtain ⟨z0, z1, z2, z3, z4, z5⟩ := six_of x8
          obtain ⟨t0, t1, t2, t3, t4, t5⟩ := six_of xb
          have hAw : Below A.heap.size A wc := ((unhide HA).trans ((by rw [unhide HG]; exact unhide HB : Below w.heap.size w wr).mono (unhide HA).size)).trans (((below_far (unhide BW2) hwc)).mono (by have := (unhide HA).size; have := (unhide HB).size; have := unhide HG; omega))
          have SE := hide (sameEntry_any e'.kind e'.client e'.seq e'.dest e.kind e.client e.seq e.dest e'.text e.text mo2 mo e'.ms.length e.ms.length mc2 mc e'.ms e.ms rfl rfl (by have := hea.2; omega) wc (hea.1.below hAw) ((unhide INM).1.below hwc))
          have IM3 := (unhide IW2).below hwc
          have HWC := hide hwc
          have XB := hide xb
          have IM4 := hide IM3
          clear hwc xb x8 hAw hea IM3 LK EA SSF SD SV RD RV XV BD BV
          by_cases hsame : sameP e' e
          · rw [decide_eq_true hsame] at SE
            have HS := hide hsame
            clear hsame
            go_wp2_with fail
            refine (unhide SE).mono ?_
            rintro z w5 ⟨rfl, b5⟩
            have xb5 := Below.stay b5 (unhide XB)
            obtain ⟨t0, t1, t2, t3, t4, t5⟩ := six_of xb5
            have i5 := (unhide IM4).below b5
            have lk5 := i5.look (unhide WF).1
            have B5 := hide ((unhide HB).trans ((below_far (below_far (unhide BW2) (unhide HWC)) b5).mono (unhide HGW)))
            have I5 := hide i5
            clear b5 xb5 i5
            by_cases hseq : e.seq ≤ topTo (es.take k) e.client
            · obtain rfl : R = false := by
                rw [← unhide HRR]
                exact mayRead_no (unhide HE) (fun h => by have := h.2; omega)
              go_wp2
              go_ret
              exact ⟨rfl, by rw [unhide HG]; exact unhide B5⟩
            · obtain ⟨w6, u1, u2, u3⟩ := (unhide I5).store (v := e.seq) (unhide WF).1 (by omega)
              have FIN : Hid ((∀ (j : Nat) (x : En), j < k + 1 → es[j]? = some x → mayReadE S (topTo (es.take j)) x) ∧ IMap w6 g (k + 1) (topTo (es.take (k + 1))) ∧ Below g w w6) := by
                refine ⟨fun j x hj hx => ?_, ?_, ?_⟩
                · by_cases hjk : j < k
                  · exact unhide ALL j x hjk hx
                  · obtain rfl : j = k := by omega
                    rw [unhide HE] at hx
                    cases hx
                    refine ⟨?_, by omega⟩
                    unfold wasCalled
                    rw [unhide HO]
                    exact decide_eq_true (unhide HS)
                · rw [topTo_take (unhide HE)]; exact u2
                · exact (unhide B5).grown u3 (by have := (unhide HG); have := (unhide B5).size; omega) (fun k' e' => by cases e'; exact Nat.le_refl _)
              clear u2 u3 I5 B5
              go_wp2
              go_roundw
              case rel => exact ⟨k + 1, by omega, by go_num, unhide FIN⟩
              case measure => simp [intOf]; omega
          · rw [decide_eq_false hsame] at SE
            obtain rfl : R = false := by
              rw [← unhide HRR]
              refine mayRead_no (unhide HE) (fun h => ?_)
              have h1 := h.1
              unfold wasCalled at h1
              rw [unhide HO] at h1
              exact hsame (of_decide_eq_true h1)
            clear hsame
            go_wp2_with fail
            refine (unhide SE).mono ?_
            rintro z w5 ⟨rfl, b5⟩
            have FIN := hide ((unhide HB).trans ((below_far (below_far (unhide BW2) (unhide HWC)) b5).mono (unhide HGW)))
            clear b5
            go_wp2
            go_ret
            exact ⟨rfl, by rw [unhide HG]; exact unhide FIN⟩
    · obtain rfl : k = m := by omega
      have q : ¬ (k : Int) < (k : Int) := by omega
      obtain rfl : R = true := by
        rw [← unhide HRR]
        exact (mayRead_iff S es).2 (fun i e hi => unhide ALL i e (by have := (List.getElem?_eq_some_iff.1 hi).1; rw [unhide HM] at this; exact this) hi)
      go_wp2
      go_ret
      exact ⟨rfl, by rw [unhide HG]; exact unhide HB⟩
end Go.Proofs.Ytndpkpkijfplaaa
