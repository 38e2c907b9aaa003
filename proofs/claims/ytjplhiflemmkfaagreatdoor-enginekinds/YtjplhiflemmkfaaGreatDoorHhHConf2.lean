/- hist.Config: a contract. hist: Entry: a contract. -/
import Derived.Test.YtjplhiflemmkfaaGreatDoorHhHConf
import Derived.Test.YtjplhiflemmkfaaGreatDoorHhHFrom2
import Derived.Test.YtjplhiflemmkfaaGreatDoorHhHTerm
namespace Go.Proofs.YtjplhiflemmkfaaGreatDoor.Hh
open Go.RowKit Go.Maps
attribute [local go_sem ↓] Go.wp_at_zero Go.wp_at_succ

theorem cf_len {M : Nat} {c : List Int × List Int} {e : En} (h1 : c.1.length ≤ M) (h2 : c.2.length ≤ M) (he : e.ms.length ≤ M) : (cfStep c e).1.length ≤ M ∧ (cfStep c e).2.length ≤ M := by
  unfold cfStep
  split
  · split
    · exact ⟨h2, he⟩
    · exact ⟨h1, h2⟩
  · split
    · split
      · refine ⟨Nat.zero_le _, ?_⟩
        unfold leaveN; split
        · exact Nat.zero_le _
        · exact h2
      · exact ⟨h1, h2⟩
    · exact ⟨h1, h2⟩
theorem cf_snoc (c : List Int × List Int) (es : List En) (k : Nat) (e : En) (h : es[k]? = some e) : cfOf c (es.take (k + 1)) = cfStep (cfOf c (es.take k)) e := by
  unfold cfOf
  rw [List.take_add_one, h, List.foldl_append]; rfl
theorem cell_two {z : World} {B q j : Nat} {a b : Value} (h : q ≠ B) : ((z.setCell ⟨B, 0, none⟩ a).setCell ⟨B, 1, none⟩ b).cell? ⟨q, j, none⟩ = z.cell? ⟨q, j, none⟩ :=
  World.cell?_of_block (w := z) (a := ⟨q, j, none⟩) (by rw [Below.heap_setCell _ _ _ _ h, Below.heap_setCell _ _ _ _ h])
abbrev cfZ : Obj := .cells #[.slice none 0 0, .slice none 0 0] 26

theorem two_box {y : World} {B : Nat} {x0 x1 a b : Value} {t : TypeId} {fr : Nat × Nat} (hz : y.heap[B]? = some (.cells #[x0, x1] t fr)) : ((y.setCell ⟨B, 0, none⟩ a).setCell ⟨B, 1, none⟩ b).heap[B]? = some (.cells #[a, b] t fr) := by
  have h0 : (y.setCell ⟨B, 0, none⟩ a).heap[B]? = some (.cells #[a, x1] t fr) := setCell_block (p := B) (i := 0) hz
  exact setCell_block (p := B) (i := 1) h0
theorem two_kp (y : World) (B : Nat) (a b : Value) : Kp (fun k => k = B) y ((y.setCell ⟨B, 0, none⟩ a).setCell ⟨B, 1, none⟩ b) :=
  (Kp.setCell (D := fun k => k = B) (p := ⟨B, 0, none⟩) (Kp.refl _ y) rfl a).setCell (p := ⟨B, 1, none⟩) rfl b
theorem cf_of {W y : World} {old new : List Int} {a1 a2 : Option Addr} {p1 p2 : Nat} (j1 : Ir W.heap.size y (.slice a1 old.length p1) old) (j2 : Ir W.heap.size y (.slice a2 new.length p2) new) : Cf y (.agg #[.slice a1 old.length p1, .slice a2 new.length p2]) old new := by
  obtain ⟨b1, q1, e1, f1, l1, _⟩ := j1.slice
  obtain ⟨b2, q2, e2, f2, l2, _⟩ := j2.slice
  cases e1
  cases e2
  exact ⟨_, _, _, _, _, _, rfl, rfl, l1, f1, rfl, l2, f2⟩
theorem cf_fin {W y : World} {B : Nat} {old new : List Int} {a1 a2 : Option Addr} {p1 p2 : Nat} (hz : y.heap[B]? = some cfZ) (hB : W.heap.size ≤ B) (hb : Below W.heap.size W y) (j1 : Ir W.heap.size y (.slice a1 old.length p1) old) (j2 : Ir W.heap.size y (.slice a2 new.length p2) new) :
    ((y.setCell ⟨B, 0, none⟩ (.slice a1 old.length p1)).setCell ⟨B, 1, none⟩ (.slice a2 new.length p2)).heap[B]? = some (.cells #[.slice a1 old.length p1, .slice a2 new.length p2] 26 (0, 0)) ∧ Cf ((y.setCell ⟨B, 0, none⟩ (.slice a1 old.length p1)).setCell ⟨B, 1, none⟩ (.slice a2 new.length p2)) (.agg #[.slice a1 old.length p1, .slice a2 new.length p2]) old new ∧ Below W.heap.size W ((y.setCell ⟨B, 0, none⟩ (.slice a1 old.length p1)).setCell ⟨B, 1, none⟩ (.slice a2 new.length p2)) := by
  obtain ⟨b1, q1, e1, f1, l1, _⟩ := j1.slice
  obtain ⟨b2, q2, e2, f2, l2, _⟩ := j2.slice
  cases e1
  cases e2
  have ho : ∀ k, k ≠ B → ((y.setCell ⟨B, 0, none⟩ (.slice a1 old.length p1)).setCell ⟨B, 1, none⟩ (.slice a2 new.length p2)).heap[k]? = y.heap[k]? := fun k hk => by rw [Below.heap_setCell _ _ _ k hk, Below.heap_setCell _ _ _ k hk]
  exact ⟨two_box hz, ⟨_, _, _, _, _, _, rfl, rfl, l1, fr_box f1 hz (fun v h => by cases h) (fun v h => by cases h) ho, rfl, l2, fr_box f2 hz (fun v h => by cases h) (fun v h => by cases h) ho⟩, (hb.setCell (p := ⟨B, 0, none⟩) hB _).setCell (p := ⟨B, 1, none⟩) hB _⟩

set_option maxHeartbeats 8000000 in
set_option maxRecDepth 1000000 in
theorem hconfig_any {D : Nat → Prop} {w : World} {p : Nat} {b : Int} {rs : List Rw} (h : Hs D w p b rs) (hr : rs.length ≤ 1000000) (v : Value) (old new : List Int) (hlo : old.length ≤ 1000000) (hln : new.length ≤ 1000000) (hc : Cf w v old new) :
    Calls Tryz.prog 99 #[.pointer (some ⟨p, 0, none⟩), v] w fun x w' => ∃ v', x = .returned v' ∧ Cf w' v' (cfOf (old, new) (rs.map (·.2))).1 (cfOf (old, new) (rs.map (·.2))).2 ∧ Below w.heap.size w w' := by
  obtain ⟨ao, no, co, an, nn, cn, rfl, hno, hoc, fo, hnn, hnc, fn⟩ := hc
  obtain ⟨W, hW⟩ : ∃ W, (w.alloc (.cells #[.slice ao no co, .slice an nn cn] 26)).alloc cfZ = W := ⟨_, rfl⟩
  have bW : Below w.heap.size w W := by rw [← hW]; exact ((Below.refl _ w).alloc (Nat.le_refl _) _).alloc (by simp) _
  have x0 : W.heap[w.heap.size]? = some (.cells #[.slice ao no co, .slice an nn cn] 26 (0, 0)) := by rw [← hW]; exact (Below.heap_alloc _ _ _ (by simp)).trans (box_at _ _)
  have x1 : W.heap[w.heap.size + 1]? = some cfZ := by
    have := box_at (w.alloc (.cells #[.slice ao no co, .slice an nn cn] 26)) cfZ
    rw [hW] at this
    simpa using this
  have sW : w.heap.size + 2 ≤ W.heap.size := by have := heap_lt x1; omega
  have N1 := hide (fun Y (hY : Below W.heap.size W Y) => numbers_any ao no co old hno Y ((fo.1.below bW).below hY) (by omega))
  have N2 := hide (fun Y (hY : Below W.heap.size W Y) => numbers_any an nn cn new hnn Y ((fn.1.below bW).below hY) (by omega))
  have SX := hide (fun Y (hY : Below W.heap.size W Y) => two_cells (Below.stay hY x0))
  have X1 := hide x1
  have HS := hide (fun Y (hY : Below W.heap.size W Y) => (h.below bW).below hY)
  have DL := hide h.lt
  have HW := hide hW
  have BW := hide bW
  have HNO := hide hno
  have HNN := hide hnn
  obtain ⟨c0, c1⟩ := unhide SX W.drew (Below.refl _ W).drew
  have EZ := hide (Below.refl W.heap.size W).drew
  clear h hW bW x0 x1 hno hnn hoc fo hnc fn
  go_enter Tryz.func99, Tryz.ntmps99
  go_upto_region 1 with fail
  rw [show (w.alloc (.cells #[.slice ao no co, .slice an nn cn] 26)).alloc (.cells #[.slice none 0 0, .slice none 0 0] 26) = W from unhide HW]
  clear HW
  go_cut [5] (fun v5 wc => ∃ B s0 s1, v5 = .pointer (some ⟨B, 0, none⟩) ∧ w.heap.size + 2 ≤ B ∧ wc.heap[B]? = some (.cells #[s0, s1] 26 (0, 0)) ∧ Cf wc (.agg #[s0, s1]) old new ∧ Below W.heap.size W wc)
  case first =>
    go_region_held3 (fun Y => Y.cell? ⟨w.heap.size, 0, none⟩ = some (.slice ao no co) ∧ Y.cell? ⟨w.heap.size, 1, none⟩ = some (.slice an nn cn))
      (first | exact unhide SX _ (unhide EZ) | exact unhide SX _ ((unhide EZ).alloc (unhide EZ).size _) | exact ⟨(cell_two (by omega)).trans (unhide SX _ (unhide EZ)).1, (cell_two (by omega)).trans (unhide SX _ (unhide EZ)).2⟩ | exact ⟨(cell_two (by omega)).trans (unhide SX _ ((unhide EZ).alloc (unhide EZ).size _)).1, (cell_two (by omega)).trans (unhide SX _ ((unhide EZ).alloc (unhide EZ).size _)).2⟩ | fail)
      (first
        | (go_at_call_of 167 (Value.slice ao no co)
           refine (unhide N1 _ (by first | exact unhide EZ | exact (unhide EZ).alloc (unhide EZ).size _ | fail)).mono ?_
           rintro x z1 ⟨v1, rfl, i1, b1⟩
           obtain ⟨a1, p1, rfl, -, -, -⟩ := i1.slice
           have E0 : Hid (Below W.heap.size W z1) := by first | exact below_far (unhide EZ) b1 | exact below_far ((unhide EZ).alloc (unhide EZ).size _) b1 | fail
           first
             | have KB := hide (Below.stay b1 (show (W.alloc cfZ).drew.heap[W.heap.size]? = some cfZ from box_at W cfZ))
             | have KB := hide True.intro
           have I1 : Hid (Ir W.heap.size z1 (.slice a1 old.length p1) old) := by first | exact i1.more' (Nat.le_refl _) | exact i1.more' (by simp) | fail
           have sz1 : W.heap.size ≤ z1.heap.size := (unhide E0).size
           clear EZ b1 i1; have EZ := E0; clear E0)
        | (go_at_call_of 167 (Value.slice an nn cn)
           refine (unhide N2 _ (by first | exact unhide EZ | exact (unhide EZ).alloc (unhide EZ).size _ | fail)).mono ?_
           rintro x z2 ⟨v2, rfl, i2, b2⟩
           obtain ⟨a2, p2, rfl, -, -, -⟩ := i2.slice
           have E0 : Hid (Below W.heap.size W z2) := by first | exact below_far (unhide EZ) b2 | exact below_far ((unhide EZ).alloc (unhide EZ).size _) b2 | fail
           have J1 : Hid (Ir W.heap.size z2 (.slice a1 old.length p1) old) := by
             first
               | exact (unhide I1).below b2
               | exact ((unhide I1).below ((Below.refl _ z1).alloc (Nat.le_refl _) cfZ)).below b2
               | fail
           have sz2 : W.heap.size ≤ z2.heap.size := (unhide E0).size
           have J2 : Hid (Ir W.heap.size z2 (.slice a2 new.length p2) new) := by first | exact i2.more' (unhide EZ).size | exact i2.more' ((unhide EZ).alloc (unhide EZ).size _).size | fail
           first
             | (have KC := hide (Below.stay b2 (unhide KB)); obtain ⟨d0, d1⟩ := two_cells (unhide KC); obtain ⟨g0, g1⟩ := two_free (unhide KC))
             | (have KC := hide (Below.stay b2 (box_at z1 cfZ)); obtain ⟨d0, d1⟩ := two_cells (unhide KC); obtain ⟨g0, g1⟩ := two_free (unhide KC))
             | (have KC := hide (box_at z2 cfZ); obtain ⟨d0, d1⟩ := two_cells (unhide KC); obtain ⟨g0, g1⟩ := two_free (unhide KC))
           clear EZ b2 i2; have EZ := E0; clear E0))
    all_goals go_wp2_with fail
    all_goals go_meet
    all_goals first
      | exact ⟨W.heap.size, _, _, rfl, sW, cf_fin (unhide KC) (Nat.le_refl _) (unhide EZ) (unhide J1) (unhide J2)⟩
      | exact ⟨z1.heap.size, _, _, rfl, by omega, cf_fin (unhide KC) sz1 (unhide EZ) (unhide J1) (unhide J2)⟩
      | exact ⟨z2.heap.size, _, _, rfl, by omega, box_at _ _, (cf_of (unhide J1) (unhide J2)).below ((Below.refl _ z2).alloc (Nat.le_refl _) _), (unhide EZ).alloc (unhide EZ).size _⟩
      | fail
  case rest =>
    obtain ⟨B, s0, s1, rfl, hB, hb5, cf5, bl5⟩ := hcut
    obtain ⟨y1, hy1⟩ : ∃ y1, y1 = wc := ⟨_, rfl⟩
    subst hy1
    have hs1 := unhide HS y1 bl5
    obtain ⟨⟨rv, hbx, hrr⟩, hown, hlt⟩ := hs1
    obtain ⟨ar, cr, rfl, hcr, hcm, hnil⟩ := hrr.slice
    obtain ⟨n, hn⟩ : ∃ n, rs.length = n := ⟨_, rfl⟩
    rw [hn] at hbx
    have m1 : y1.cell? ⟨p, 1, none⟩ = some (.slice ar n cr) := (cell_of_block hbx).trans rfl
    have DLT : Hid (∀ j, D j → j ≠ B) := fun j hj e => by have := unhide DL j hj; omega
    have HRR := hide hrr
    have HN := hide hn
    have CF5 := hide cf5
    have HB5 := hide hb5
    have X15 := hide (Below.stay bl5 (unhide X1))
    have BL5 := hide (below_far (unhide BW) bl5)
    have hr' : n ≤ 1000000 := by omega
    have ZB : Hid (B ≠ w.heap.size + 1) := by show B ≠ _; omega
    clear hbx hrr hn cf5 hb5 bl5 hown hlt hcr hcm hnil N1 N2 SX HS X1 c0 c1 EZ BW
    go_wp2_with fail
    go_loopw [20, 7] (fun iv _ wr => ∃ (k : Nat) (s0 s1 : Value) (o' n' : List Int), k ≤ n ∧ iv = .int .i64 (k : Int) ∧ wr.heap[B]? = some (.cells #[s0, s1] 26 (0, 0)) ∧ Cf wr (.agg #[s0, s1]) o' n' ∧ cfOf (old, new) ((rs.map (·.2)).take k) = (o', n') ∧ o'.length ≤ 1000000 ∧ n'.length ≤ 1000000 ∧ Kp (fun j => j = B) y1 wr) (fun iv _ _ => n - (intOf iv).toNat)
    case atStart => exact ⟨0, s0, s1, old, new, Nat.zero_le _, rfl, unhide HB5, unhide CF5, by rw [List.take_zero]; rfl, hlo, hln, Kp.refl _ _⟩
    case round =>
      obtain ⟨k, s0, s1, o', n', hk, rfl, hbk, cfk, hof, lo, ln, kpk⟩ := hrel
      have HBK := hide hbk
      have CFK := hide cfk
      have HOF := hide hof
      have KPK := hide kpk
      have S01 : Hid ((∀ v, s0 ≠ .int .i64 v) ∧ ∀ v, s1 ≠ .int .i64 v) := by
        obtain ⟨_, _, _, _, _, _, e, _⟩ := cfk
        simp only [Value.agg.injEq, Array.mk.injEq, List.cons.injEq, and_true] at e
        obtain ⟨rfl, rfl⟩ := e
        exact ⟨fun v h => (by cases h), fun v h => (by cases h)⟩
      clear hbk cfk hof kpk
      by_cases hlt : k < n
      · obtain ⟨r, hr⟩ : ∃ r, rs[k]? = some r := ⟨_, List.getElem?_eq_getElem (by rw [unhide HN]; exact hlt)⟩
        obtain ⟨g, mo, mc, rfl, hDg, hcl, hir, hmd, hml⟩ := ((unhide HRR).kp (unhide KPK) (fun j hj => unhide DLT j hj)).at hr
        obtain ⟨f0, f1, f2, f3, f4, f5, f6⟩ := En.seven (w := wr) hcl
        have hsn := cf_snoc (old, new) (rs.map (·.2)) k r.2 (by rw [List.getElem?_map, hr]; rfl)
        rw [unhide HOF] at hsn
        have hl2 := cf_len (M := 1000000) (c := (o', n')) (e := r.2) lo ln hml
        obtain ⟨t, e⟩ := r
        simp only at f0 f1 f2 f3 f4 f5 f6 hir hml hsn hl2
        obtain ⟨Y1, hY1⟩ : ∃ Y1, wr.alloc (.cells #[.int .i64 t, .int .i64 e.kind, .int .i64 e.client, .int .i64 e.seq, .string e.text, .slice mo e.ms.length mc, .int .i64 e.dest] 203) = Y1 := ⟨_, rfl⟩
        have bY1 : Below wr.heap.size wr Y1 := by rw [← hY1]; exact (Below.refl _ wr).alloc (Nat.le_refl _) _
        have xY1 : Y1.heap[wr.heap.size]? = some (.cells #[.int .i64 t, .int .i64 e.kind, .int .i64 e.client, .int .i64 e.seq, .string e.text, .slice mo e.ms.length mc, .int .i64 e.dest] 203 (0, 0)) := by rw [← hY1]; exact box_at _ _
        have v1 : Y1.cell? ⟨wr.heap.size, 1, none⟩ = some (.int .i64 e.kind) := (cell_of_block xY1).trans rfl
        have v2 : Y1.cell? ⟨wr.heap.size, 2, none⟩ = some (.int .i64 e.client) := (cell_of_block xY1).trans rfl
        have v3 : Y1.cell? ⟨wr.heap.size, 3, none⟩ = some (.int .i64 e.seq) := (cell_of_block xY1).trans rfl
        have v4 : Y1.cell? ⟨wr.heap.size, 4, none⟩ = some (.string e.text) := (cell_of_block xY1).trans rfl
        have v5 : Y1.cell? ⟨wr.heap.size, 5, none⟩ = some (.slice mo e.ms.length mc) := (cell_of_block xY1).trans rfl
        have v6 : Y1.cell? ⟨wr.heap.size, 6, none⟩ = some (.int .i64 e.dest) := (cell_of_block xY1).trans rfl
        obtain ⟨c0, c1⟩ := two_cells (Below.stay bY1 (unhide HBK))
        have BE := hide (behind_any (.agg #[s0, s1]) o' n' lo ln e mo e.ms.length mc rfl hml Y1 ((unhide CFK).below bY1) (hir.inF.ints.below bY1))
        obtain ⟨z, hz⟩ : ∃ z, e.ms.length = z := ⟨_, rfl⟩
        rw [hz] at f5 v5 BE hY1
        have qk : (k : Int) < (n : Int) := by omega
        have HY1 := hide hY1
        have BY1 := hide bY1
        have HSN := hide hsn
        have HL2 := hide hl2
        clear hr hcl hir hmd hml hsn hl2 hDg hY1 bY1 xY1 hz
        go_upto_region 5 with fail
        rw [unhide HY1]
        clear HY1 f0 f1 f2 f3 f4 f5 f6
        go_wp2_with fail
        refine (unhide BE).mono ?_
        rintro x z3 ⟨v3', rfl, cf3, b3⟩
        have CF3 := hide cf3
        obtain ⟨ao3, no3, co3, an3, nn3, cn3, rfl, -⟩ := cf3
        have hb3 := Below.stay b3 (Below.stay (unhide BY1) (unhide HBK))
        obtain ⟨d0, d1⟩ := two_cells hb3
        obtain ⟨g0, g1⟩ := two_free hb3
        have FIN : Hid (∀ a b, (a = .slice ao3 no3 co3) → (b = .slice an3 nn3 cn3) → ((z3.setCell ⟨B, 0, none⟩ a).setCell ⟨B, 1, none⟩ b).heap[B]? = some (.cells #[a, b] 26 (0, 0)) ∧ Cf ((z3.setCell ⟨B, 0, none⟩ a).setCell ⟨B, 1, none⟩ b) (.agg #[a, b]) (cfStep (o', n') e).1 (cfStep (o', n') e).2 ∧ cfOf (old, new) ((rs.map (·.2)).take (k + 1)) = ((cfStep (o', n') e).1, (cfStep (o', n') e).2) ∧ (cfStep (o', n') e).1.length ≤ 1000000 ∧ (cfStep (o', n') e).2.length ≤ 1000000 ∧ Kp (fun j => j = B) y1 ((z3.setCell ⟨B, 0, none⟩ a).setCell ⟨B, 1, none⟩ b)) := fun a b ha hb => by
          subst ha
          subst hb
          refine ⟨two_box hb3, ?_, unhide HSN, (unhide HL2).1, (unhide HL2).2, (((unhide KPK).far (unhide BY1)).far b3).trans (two_kp z3 B _ _) (fun _ _ x => x)⟩
          exact (unhide CF3).box hb3 (unhide S01).1 (unhide S01).2 (fun j hj => by rw [Below.heap_setCell _ _ _ j hj, Below.heap_setCell _ _ _ j hj])
        clear hb3 b3 BE
        go_wp2
        go_roundw
        case rel => exact ⟨k + 1, _, _, _, _, by omega, by go_num, unhide FIN _ _ rfl rfl⟩
        case measure => simp [intOf]; omega
      · obtain rfl : k = n := by omega
        have hof := unhide HOF
        rw [List.take_of_length_le (by rw [List.length_map, unhide HN]; exact Nat.le_refl _)] at hof
        have HOF2 := hide hof
        obtain ⟨ao9, no9, co9, an9, nn9, cn9, e9, -⟩ := unhide CFK
        simp only [Value.agg.injEq, Array.mk.injEq, List.cons.injEq, and_true] at e9
        obtain ⟨rfl, rfl⟩ := e9
        have x9 := (unhide KPK).block (unhide X15) (fun e => unhide ZB e.symm)
        obtain ⟨c0, c1⟩ := two_cells (unhide HBK)
        obtain ⟨d0, d1⟩ := two_cells x9
        obtain ⟨g0, g1⟩ := two_free x9
        have B9 : Hid (Below w.heap.size w wr) := (unhide BL5).trans ((unhide KPK).below (fun j hj => by rw [hj]; omega) (unhide BL5).size)
        have X9 := hide x9
        have qk : ¬ (k : Int) < (k : Int) := by omega
        clear x9 hof
        go_wp2
        obtain ⟨r0, r1, rb, rk⟩ := two_end (a := .slice ao9 no9 co9) (b := .slice an9 nn9 cn9) (unhide X9) (Nat.le_succ _) (unhide B9)
        exact bodyPost_ret (v := .agg #[.slice ao9 no9 co9, .slice an9 nn9 cn9]) (by simp [results, Tryz.results99, go_sem, r0, r1]) rfl ⟨_, rfl, by rw [unhide HOF2]; exact (unhide CFK).box (unhide X9) (fun v h => by cases h) (fun v h => by cases h) rk, rb⟩
end Go.Proofs.YtjplhiflemmkfaaGreatDoor.Hh
namespace Go.Proofs.YtjplhiflemmkfaaGreatDoor.Hh
open Go.RowKit Go.Maps

def zeroEn : En := ⟨0, 0, 0, ⟨#[]⟩, [], 0⟩
/-- the entry at an index. -/
def entOf (b : Int) (rs : List Rw) (i : Int) : En := match rowAt b rs i with | some r => r.2 | none => zeroEn
theorem Ir.more {a c : Nat} {w : World} {v : Value} {ys : List Int} (h : Ir a w v ys) (hc : c ≤ a) : Ir c w v ys := by
  refine ⟨h.1, ?_⟩
  rcases h.2 with e | ⟨g, cap, cur, e1, e2, e3⟩
  · exact Or.inl e
  · exact Or.inr ⟨g, cap, cur, e1, Nat.le_trans hc e2, e3⟩

set_option maxRecDepth 20000 in
set_option maxHeartbeats 2000000 in
theorem entry_any {D : Nat → Prop} {w : World} {p : Nat} {b : Int} {rs : List Rw} (h : Hs D w p b rs) (hf : Fit b rs) (i : Int) :
    Calls Tryz.prog 98 #[.pointer (some ⟨p, 0, none⟩), .int .i64 i] w fun e w' => ∃ mv, e = .returned (.tuple #[.agg #[.int .i64 (entOf b rs i).kind, .int .i64 (entOf b rs i).client, .int .i64 (entOf b rs i).seq, .string (entOf b rs i).text, mv, .int .i64 (entOf b rs i).dest], .bool (rowAt b rs i).isSome]) ∧ Ir w.heap.size w' mv (entOf b rs i).ms ∧ Below w.heap.size w w' := by
  obtain ⟨W, hW⟩ : ∃ W, w.alloc (.cells #[.int .i64 0, .int .i64 0, .int .i64 0, .string ⟨#[]⟩, .slice none 0 0, .int .i64 0] 43) = W := ⟨_, rfl⟩
  have bW : Below w.heap.size w W := by rw [← hW]; exact (Below.refl _ w).alloc (Nat.le_refl _) _
  have xW : W.heap[w.heap.size]? = some (.cells #[.int .i64 0, .int .i64 0, .int .i64 0, .string ⟨#[]⟩, .slice none 0 0, .int .i64 0] 43 (0, 0)) := by rw [← hW]; exact box_at _ _
  have HA := hide (has_any (h.below bW) hf i)
  have AH := hide (fun Y (hY : Below W.heap.size W Y) => ahead_any ((h.below bW).below hY) hf i)
  have BW := hide bW
  have HW := hide hW
  by_cases hi : b < i ∧ i ≤ b + (rs.length : Int)
  · obtain ⟨r, hr1, hr2⟩ := rowAt_some hi
    have ht : entOf b rs i = r.2 := by unfold entOf; rw [hr1]
    rw [ht, hr1]
    rw [decide_eq_true hi] at HA
    rw [aheadOf_in hi] at AH
    obtain ⟨k, hk⟩ : ∃ k, (i - b - 1).toNat = k := ⟨_, rfl⟩
    rw [hk] at AH hr2
    obtain ⟨⟨rv, hbx, hrr⟩, _, _⟩ := h.below bW
    obtain ⟨ao, cap, rfl, h1, h2, h3⟩ := hrr.slice
    have hkn : k < rs.length := (List.getElem?_eq_some_iff.1 hr2).1
    obtain ⟨n, hn⟩ : ∃ n, rs.length = n := ⟨_, rfl⟩
    rw [hn] at hkn hbx hrr h1
    obtain ⟨g, mo, mc, rfl, hg, hcl, hir, _, hms⟩ := hrr.at hr2
    obtain ⟨t, e⟩ := r
    obtain ⟨_, e1, e2, e3, e4, e5, e6⟩ := En.seven hcl
    simp only at e1 e2 e3 e4 e5 e6 hir hms ⊢
    have TW := hide (fun Y (hY : Below W.heap.size W Y) => htwin_any e mo mc Y (hir.inF.ints.below hY) hms)
    obtain ⟨kind, client, seq, text, ms, dest⟩ := e
    simp only at e1 e2 e3 e4 e5 e6 TW hir hms ⊢
    obtain ⟨z, hz⟩ : ∃ z, ms.length = z := ⟨_, rfl⟩
    rw [hz] at e5 TW
    have HX := hide hbx
    have XW := hide xW
    have E1 := hide e1
    have E2 := hide e2
    have E3 := hide e3
    have E4 := hide e4
    have E5 := hide e5
    have E6 := hide e6
    have hkI : (k : Int) < (n : Int) := by omega
    have hk0 : (0 : Int) ≤ (k : Int) := by omega
    clear hcl hrr hbx hr1 hr2 ht hn hi hk h3 hg e1 e2 e3 e4 e5 e6 hir hms hz hW xW bW
    go_enter Tryz.func98, Tryz.ntmps98
    go_wp2_with fail
    rw [unhide HW]
    refine (unhide HA).mono ?_
    rintro e w1 ⟨rfl, b1⟩
    have X1 := Below.stay b1 (unhide HX)
    have c1 : w1.drew.cell? ⟨p, 1, none⟩ = some (.slice (some ⟨g, 0, none⟩) n cap) := (cell_of_block (w := w1.drew) X1).trans rfl
    have A1 := hide (unhide AH w1.drew b1.drew)
    have B1 := hide b1
    clear b1 HA AH X1
    go_upto_region 3 with fail
    go_region_with (first
      | (go_at_call 166; refine (unhide A1).mono ?_; rintro e w2 ⟨rfl, b2⟩
         have B2 := hide (below_far (unhide B1).drew b2)
         have c2 : w2.cell? ⟨p, 1, none⟩ = some (.slice (some ⟨g, 0, none⟩) n cap) := (cell_of_block (Below.stay (unhide B2) (unhide HX))).trans rfl
         have d1 : w2.cell? ⟨g, k * 7 + 1, none⟩ = some (.int .i64 kind) := by rw [(unhide B2).cell (blk_lt (unhide E1))]; exact unhide E1
         have d2 : w2.cell? ⟨g, k * 7 + 2, none⟩ = some (.int .i64 client) := by rw [(unhide B2).cell (blk_lt (unhide E2))]; exact unhide E2
         have d3 : w2.cell? ⟨g, k * 7 + 3, none⟩ = some (.int .i64 seq) := by rw [(unhide B2).cell (blk_lt (unhide E3))]; exact unhide E3
         have d4 : w2.cell? ⟨g, k * 7 + 4, none⟩ = some (.string text) := by rw [(unhide B2).cell (blk_lt (unhide E4))]; exact unhide E4
         have d5 : w2.cell? ⟨g, k * 7 + 5, none⟩ = some (.slice mo z mc) := by rw [(unhide B2).cell (blk_lt (unhide E5))]; exact unhide E5
         have d6 : w2.cell? ⟨g, k * 7 + 6, none⟩ = some (.int .i64 dest) := by rw [(unhide B2).cell (blk_lt (unhide E6))]; exact unhide E6
         have T2 := hide (unhide TW w2 (unhide B2))
         clear b2)
      | (go_at_call 165; refine (unhide T2).mono ?_; rintro e w3 ⟨mv, rfl, o3, b3⟩
         obtain ⟨mo2, mc2, rfl, -⟩ := o3.slice
         have B3 := hide (below_far (unhide B2) b3)
         have x3 := Below.stay (unhide B3) (unhide XW)
         have X3 := hide x3
         have z0 : w3.cell? ⟨w.heap.size, 0, none⟩ = some (.int .i64 0) := (cell_of_block x3).trans rfl
         have z1 : w3.cell? ⟨w.heap.size, 1, none⟩ = some (.int .i64 0) := (cell_of_block x3).trans rfl
         have z2 : w3.cell? ⟨w.heap.size, 2, none⟩ = some (.int .i64 0) := (cell_of_block x3).trans rfl
         have z3 : w3.cell? ⟨w.heap.size, 3, none⟩ = some (.string ⟨#[]⟩) := (cell_of_block x3).trans rfl
         have z4 : w3.cell? ⟨w.heap.size, 4, none⟩ = some (.slice none 0 0) := (cell_of_block x3).trans rfl
         have z5 : w3.cell? ⟨w.heap.size, 5, none⟩ = some (.int .i64 0) := (cell_of_block x3).trans rfl
         have fz : ∀ i, w3.frozen? ⟨w.heap.size, i, none⟩ = false := fun i => free_of_block x3
         have O3 := hide (o3.more (unhide B2).size)
         clear b3 x3 o3))
    all_goals go_wp2
    all_goals
      obtain ⟨V, hV⟩ : ∃ V : World, V = ((((((w3.setCell ⟨w.heap.size, 0, none⟩ (.int .i64 kind)).setCell ⟨w.heap.size, 1, none⟩ (.int .i64 client)).setCell ⟨w.heap.size, 2, none⟩ (.int .i64 seq)).setCell ⟨w.heap.size, 3, none⟩ (.string text)).setCell ⟨w.heap.size, 4, none⟩ (.slice mo2 ms.length mc2)).setCell ⟨w.heap.size, 5, none⟩ (.int .i64 dest)) := ⟨_, rfl⟩
      rw [← hV]
      obtain ⟨d0, d1, d2, d3, d4, d5, bV, kV⟩ := six_end (unhide X3) (Nat.le_refl _) (below_far (unhide BW) (unhide B3)) V hV
      exact bodyPost_ret (v := .tuple #[.agg #[.int .i64 kind, .int .i64 client, .int .i64 seq, .string text, .slice mo2 ms.length mc2, .int .i64 dest], .bool true]) (by simp [results, Tryz.results98, go_sem, d0, d1, d2, d3, d4, d5]) rfl ⟨_, rfl, ((unhide O3).other kV (unhide X3) (by decide)).more (unhide BW).size, bV⟩
  · have ht : entOf b rs i = zeroEn := by unfold entOf; rw [rowAt_none hi]
    rw [ht, rowAt_none hi]
    rw [decide_eq_false hi] at HA
    have XW := hide xW
    clear ht hi AH h hW xW bW
    go_enter Tryz.func98, Tryz.ntmps98
    go_wp2_with fail
    rw [unhide HW]
    refine (unhide HA).mono ?_
    rintro e w1 ⟨rfl, b1⟩
    have B1 := hide (below_far (unhide BW) b1)
    have x3 := Below.stay b1 (unhide XW)
    have X3 := hide x3
    have z0 : w1.cell? ⟨w.heap.size, 0, none⟩ = some (.int .i64 0) := (cell_of_block x3).trans rfl
    have z1 : w1.cell? ⟨w.heap.size, 1, none⟩ = some (.int .i64 0) := (cell_of_block x3).trans rfl
    have z2 : w1.cell? ⟨w.heap.size, 2, none⟩ = some (.int .i64 0) := (cell_of_block x3).trans rfl
    have z3 : w1.cell? ⟨w.heap.size, 3, none⟩ = some (.string ⟨#[]⟩) := (cell_of_block x3).trans rfl
    have z4 : w1.cell? ⟨w.heap.size, 4, none⟩ = some (.slice none 0 0) := (cell_of_block x3).trans rfl
    have z5 : w1.cell? ⟨w.heap.size, 5, none⟩ = some (.int .i64 0) := (cell_of_block x3).trans rfl
    have fz : ∀ i, w1.frozen? ⟨w.heap.size, i, none⟩ = false := fun i => free_of_block x3
    clear b1 HA x3
    go_wp2
    obtain ⟨V, hV⟩ : ∃ V : World, V = ((((((w1.setCell ⟨w.heap.size, 0, none⟩ (.int .i64 0)).setCell ⟨w.heap.size, 1, none⟩ (.int .i64 0)).setCell ⟨w.heap.size, 2, none⟩ (.int .i64 0)).setCell ⟨w.heap.size, 3, none⟩ (.string ⟨#[]⟩)).setCell ⟨w.heap.size, 4, none⟩ (.slice none 0 0)).setCell ⟨w.heap.size, 5, none⟩ (.int .i64 0)) := ⟨_, rfl⟩
    rw [← hV]
    obtain ⟨d0, d1, d2, d3, d4, d5, bV, kV⟩ := six_end (unhide X3) (Nat.le_refl _) (unhide B1) V hV
    exact bodyPost_ret (v := .tuple #[.agg #[.int .i64 0, .int .i64 0, .int .i64 0, .string ⟨#[]⟩, .slice none 0 0, .int .i64 0], .bool false]) (by simp [results, Tryz.results98, go_sem, d0, d1, d2, d3, d4, d5]) rfl ⟨_, rfl, Ir.nil _ _, bV⟩
end Go.Proofs.YtjplhiflemmkfaaGreatDoor.Hh
