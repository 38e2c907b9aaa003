/- The document's ParseMsg: a contract. -/
import Derived.Test.YtojmnlbdhpledaaDoorXR5
import Derived.Test.YtojmnlbdhpledaaDoorReaderS
import Derived.Deep.AppendLies
import Derived.Deep.CutBlock
import Derived.Deep.RegionLaw
import Derived.Deep.Upon
import Derived.Deep.DrawnRows
namespace Go.Proofs.YtojmnlbdhpledaaDoor
open Go.RowKit
attribute [local go_sem ↓] Go.wp_at_zero Go.wp_at_succ

theorem Xg.er {base : Nat} {a w : World} {p : Nat} {ao : Option Addr} {n cap : Nat} {bs : List Nat} {s t : Nat × Nat} (h : Xg base a w p ao n cap bs s) (he : s.2 = t.2) (h0 : s.2 ≠ 0) : Xg base a w p ao n cap bs t :=
  ⟨h.q.er he h0, h.src, h.sz, h.on, h.pl⟩
theorem rconfig_er {bs : List Nat} {s : Nat × Nat} (h : (rconfig bs s).2.2 = 0) : s.2 = 0 := by
  simp only [rconfig] at h
  exact rlist_er (bs := bs) (q := 5) (rlist_er (bs := bs) (q := 5) h)
theorem step_xentry {base : Nat} {a0 w : World} {p : Nat} {ao : Option Addr} {n cap : Nat} {bs : List Nat} {s : Nat × Nat} {ats : Array TypeId} {ops : Array Oper} {o : Oper} {a : Act} {K : Act → World → Prop} {Q : Exit → Act → World → Prop} {E : Prop} (x : Operand)
    (ho : o.op = .call { callee := .value (.func 52), args := #[x], argTypes := ats }) (hg : o.guard = none) (hx : a.eval x = .pointer (some ⟨p, 0, none⟩)) (hm : Xg base a0 w p ao n cap bs s)
    (h : ∀ (y : Ent) (ao2 : Option Addr) (nx cap2 : Nat) w', y.members.length = nx → w'.ownsRow w.heap.size 3 1 (.slice ao2 nx cap2) nx (i64s y.members) → ((rentry bs s).2.2 = 0 → y = (rentry bs s).1) → Xg base a0 w' p ao n cap bs (rentry bs s).2 → Only base [92] w w' → K (a.put o.dst (.agg #[.int .i64 y.kind, .int .i64 y.client, .int .i64 y.seq, .string (str y.data), .slice ao2 nx cap2, .int .i64 y.to'])) w') :
    if Region.wanted o (yielded ops a.tmps) = true then Oper.wp Tryd.prog o a w K Q else E := by
  have hw : Region.wanted o (yielded ops a.tmps) = true := by simp [Region.wanted, hg]
  rw [if_pos hw]
  have e : (execOp a.eval o).run Tryd.prog w = .ok (.enter 52 #[.pointer (some ⟨p, 0, none⟩)]) w := by
    unfold execOp
    simp only [ho, resolve, invoke, Sem.run_bind, List.map_toArray, List.map_cons, List.map_nil, hx]
    simp [Act.eval, Deferred.ofValue, Result.andThen]
  unfold Oper.wp
  rw [e, Oper.upon_enter]
  refine (xentry_any hm).mono ?_
  rintro e w' ⟨y, v, rfl, h1, h2, h3, h4, h5⟩
  obtain ⟨ao2, cap2, rfl⟩ := row_slice h1
  exact h y ao2 _ cap2 w' rfl h1 h3 h4 h5
theorem Xg.mostx {base : Nat} {a w : World} {p : Nat} {ao : Option Addr} {n cap : Nat} {bs : List Nat} {s : Nat × Nat} (h : Xg base a w p ao n cap bs s) (most e : Nat) (he : e ≠ 0) (hm : most ≤ 255) :
    Calls Tryd.prog 50 #[.pointer (some ⟨p, 0, none⟩), .int .i64 (most : Int), .int .i64 (e : Int)] w fun r w' => r = .returned (.int .i64 ((xmost bs most e s).1 : Nat)) ∧ Xg base a w' p ao n cap bs (xmost bs most e s).2 ∧ Only base [92] w w' := by
  refine (xmost_any base p ao n cap s bs most e he hm w h.q (h.src.only h.on) (Nat.le_trans h.sz h.on.size)).mono ?_
  rintro r w' ⟨rfl, h1, h2⟩
  exact ⟨rfl, ⟨h1, h.src, h.sz, h.on.trans h2, h.pl⟩, h2⟩

set_option maxRecDepth 20000 in
set_option maxHeartbeats 8000000 in
theorem xpParseMsg_any (ao : Option Addr) (n cap : Nat) (bs : List Nat) (w : World) (hg : Given w ao n cap bs) :
    Calls Tryd.prog 25 #[.slice ao n cap] w fun e w' => ∃ cs, e = .returned (.tuple #[.agg cs, .int .i64 (((rend n (rmsg bs (0, 0)).2).2 : Nat) : Int)]) ∧ Below w.heap.size w w' ∧
      ((rend n (rmsg bs (0, 0)).2).2 = 0 → MsgIs w.heap.size w' cs (rmsg bs (0, 0)).1) ∧
      ((rend n (rmsg bs (0, 0)).2).2 ≠ 0 → cs = #[.int .i64 0, .int .i64 0, .int .i64 0, .int .i64 0, .int .i64 0, .int .i64 0, .int .i64 0, .int .i64 0, .bool false, .slice none 0 0, .slice none 0 0, .slice none 0 0, .slice none 0 0]) := by
  obtain ⟨W0, hW0⟩ : ∃ W, w.alloc (.cells #[.int .i64 0, .int .i64 0, .int .i64 0, .int .i64 0, .int .i64 0, .int .i64 0, .int .i64 0, .int .i64 0, .bool false, .slice none 0 0, .slice none 0 0, .slice none 0 0, .slice none 0 0] 41) = W := ⟨_, rfl⟩
  have b0 : Below w.heap.size w W0 := by rw [← hW0]; exact (Below.refl _ w).alloc (Nat.le_refl _) _
  have x0 : W0.heap[w.heap.size]? = some (.cells #[.int .i64 0, .int .i64 0, .int .i64 0, .int .i64 0, .int .i64 0, .int .i64 0, .int .i64 0, .int .i64 0, .bool false, .slice none 0 0, .slice none 0 0, .slice none 0 0, .slice none 0 0] 41 (0, 0)) := by rw [← hW0]; exact heap_alloc_new _ _
  obtain ⟨p, hp⟩ : ∃ p, w.heap.size + 1 = p := ⟨_, rfl⟩
  have hp0 : W0.heap.size = p := by rw [← hW0, ← hp]; simp
  obtain ⟨W1, hW1⟩ : ∃ W, W0.alloc (.cells #[.slice ao n cap, .int .i64 0, .int .i64 0] 92) = W := ⟨_, rfl⟩
  have b1 : Below W0.heap.size W0 W1 := by rw [← hW1]; exact (Below.refl _ W0).alloc (Nat.le_refl _) _
  have x1 : W1.heap[p]? = some (.cells #[.slice ao n cap, .int .i64 0, .int .i64 0] 92 (0, 0)) := by rw [← hW1, ← hp0]; exact heap_alloc_new _ _
  have RB := hide ((b1.block _ (heap_lt x0)).trans x0)
  have bb : Below w.heap.size w W1 := b0.trans (b1.mono b0.size)
  have GX : Hid (Xg w.heap.size W1 W1 p ao n cap bs (0, 0)) := hide ⟨⟨0, x1, by rw [← hp0]; exact b0.size, (fun _ => rfl), Nat.zero_le _⟩, ⟨hg.len, hg.room, hg.nul, hg.big, fun _ ho => hg.are.below (bb.trans ho.below)⟩, bb.size, Only.refl _ _ _, heap_lt x1⟩
  have BB := hide bb
  have HW0 := hide hW0
  have HW1 := hide hW1
  have HPP := hide hp
  have HN := hide hg.len
  clear hW0 b0 x0 hp hp0 hW1 b1 x1 bb hg
  go_enter Tryd.func25, Tryd.ntmps25
  go_wp2_with fail
  rw [unhide HW0, unhide HW1, unhide HPP]
  clear HW0 HW1 HPP
  refine ((unhide GX).num).mono ?_
  rintro r w1 ⟨rfl, g1, k1⟩
  have RB1 := hide (k1.block (unhide RB) (by decide))
  obtain ⟨m0, hm0⟩ : ∃ x, rint bs (0, 0) = x := ⟨_, rfl⟩
  obtain ⟨s0, hs0⟩ : ∃ x, rtake n 8 (0, 0) = x := ⟨_, rfl⟩
  rw [hm0]
  rw [hs0] at g1
  have HM0 := hide hm0
  have HS0 := hide hs0
  obtain ⟨E, hE⟩ : ∃ E, w1.heap.size = E := ⟨_, rfl⟩
  obtain ⟨V0, hV0⟩ : ∃ W, w1.alloc (.cells #[.int .i64 m0, .int .i64 0, .int .i64 0, .int .i64 0, .int .i64 0, .int .i64 0, .int .i64 0, .int .i64 0, .bool false, .slice none 0 0, .slice none 0 0, .slice none 0 0, .slice none 0 0] 41) = W := ⟨_, rfl⟩
  have sE : W1.heap.size ≤ E := by rw [← hE]; exact g1.on.size
  have bV0 : Below W1.heap.size w1 V0 := by rw [← hV0]; exact (Below.refl _ w1).alloc (by rw [hE]; exact sE) _
  have NE : Hid (w.heap.size ≠ E) := hide (fun hx => by have := heap_lt (unhide RB); omega)
  have EB0 := hide (show V0.heap[E]? = some (.cells #[.int .i64 m0, .int .i64 0, .int .i64 0, .int .i64 0, .int .i64 0, .int .i64 0, .int .i64 0, .int .i64 0, .bool false, .slice none 0 0, .slice none 0 0, .slice none 0 0, .slice none 0 0] 41 (0, 0)) by rw [← hV0, ← hE]; exact heap_alloc_new _ _)
  have RB0 := hide (show V0.heap[w.heap.size]? = some (.cells #[.int .i64 0, .int .i64 0, .int .i64 0, .int .i64 0, .int .i64 0, .int .i64 0, .int .i64 0, .int .i64 0, .bool false, .slice none 0 0, .slice none 0 0, .slice none 0 0, .slice none 0 0] 41 (0, 0)) by rw [← hV0]; exact (Below.heap_alloc _ _ _ (heap_lt (unhide RB1))).trans (unhide RB1))
  have G0 := hide (g1.fresh bV0)
  have HV := hide hV0
  have HE := hide hE
  clear g1 k1 hV0 hE bV0 RB RB1 GX hm0 hs0
  go_upto_region 3 with fail
  rw [unhide HV, unhide HE]
  clear HV HE
  go_wp2_with fail
  refine ((unhide G0).num).mono ?_
  rintro r w1 ⟨rfl, g1, k1⟩
  have RBk := k1.block (unhide RB0) (by decide)
  have EBk := k1.block (unhide EB0) (by decide)
  obtain ⟨m1, hm1⟩ : ∃ x, rint bs s0 = x := ⟨_, rfl⟩
  obtain ⟨s1, hs1⟩ : ∃ x, rtake n 8 s0 = x := ⟨_, rfl⟩
  rw [hm1]
  rw [hs1] at g1
  have HM1 := hide hm1
  have HS1 := hide hs1
  obtain ⟨V1, hV1⟩ : ∃ W, w1.setCell ⟨E, 1, none⟩ (.int .i64 m1) = W := ⟨_, rfl⟩
  obtain ⟨bWk, xWk, yWk⟩ := two_set (i := 1) (v := .int .i64 m1) sE EBk
  rw [hV1] at bWk xWk yWk
  have ek : w1.cell? ⟨E, 1, none⟩ = some (.int .i64 0) := (cell_of_block EBk).trans rfl
  have fk : w1.frozen? ⟨E, 1, none⟩ = false := free_of_block EBk
  have EB1 := hide (show V1.heap[E]? = some (.cells #[.int .i64 m0, .int .i64 m1, .int .i64 0, .int .i64 0, .int .i64 0, .int .i64 0, .int .i64 0, .int .i64 0, .bool false, .slice none 0 0, .slice none 0 0, .slice none 0 0, .slice none 0 0] 41 (0, 0)) from xWk)
  have RB1 := hide ((yWk _ (unhide NE)).trans RBk)
  have G1 := hide (g1.fresh bWk)
  have HWk := hide hV1
  clear g1 k1 RBk EBk bWk xWk yWk hV1 G0 RB0 EB0 hm1 hs1
  go_upto_region 4 with fail
  rw [unhide HWk]
  clear HWk ek fk
  go_wp2_with fail
  refine ((unhide G1).num).mono ?_
  rintro r w2 ⟨rfl, g2, k2⟩
  have RBk := k2.block (unhide RB1) (by decide)
  have EBk := k2.block (unhide EB1) (by decide)
  obtain ⟨m2, hm2⟩ : ∃ x, rint bs s1 = x := ⟨_, rfl⟩
  obtain ⟨s2, hs2⟩ : ∃ x, rtake n 8 s1 = x := ⟨_, rfl⟩
  rw [hm2]
  rw [hs2] at g2
  have HM2 := hide hm2
  have HS2 := hide hs2
  obtain ⟨V2, hV2⟩ : ∃ W, w2.setCell ⟨E, 2, none⟩ (.int .i64 m2) = W := ⟨_, rfl⟩
  obtain ⟨bWk, xWk, yWk⟩ := two_set (i := 2) (v := .int .i64 m2) sE EBk
  rw [hV2] at bWk xWk yWk
  have ek : w2.cell? ⟨E, 2, none⟩ = some (.int .i64 0) := (cell_of_block EBk).trans rfl
  have fk : w2.frozen? ⟨E, 2, none⟩ = false := free_of_block EBk
  have EB2 := hide (show V2.heap[E]? = some (.cells #[.int .i64 m0, .int .i64 m1, .int .i64 m2, .int .i64 0, .int .i64 0, .int .i64 0, .int .i64 0, .int .i64 0, .bool false, .slice none 0 0, .slice none 0 0, .slice none 0 0, .slice none 0 0] 41 (0, 0)) from xWk)
  have RB2 := hide ((yWk _ (unhide NE)).trans RBk)
  have G2 := hide (g2.fresh bWk)
  have HWk := hide hV2
  clear g2 k2 RBk EBk bWk xWk yWk hV2 G1 RB1 EB1 hm2 hs2
  go_upto_region 5 with fail
  rw [unhide HWk]
  clear HWk ek fk
  go_wp2_with fail
  refine ((unhide G2).mostx 15 3 (by decide) (by decide)).mono ?_
  rintro r w3 ⟨rfl, g3, k3⟩
  have RBk := k3.block (unhide RB2) (by decide)
  have EBk := k3.block (unhide EB2) (by decide)
  obtain ⟨⟨v3, t31, er⟩, hx3⟩ : ∃ x, xmost bs 15 3 s2 = x := ⟨_, rfl⟩
  obtain ⟨⟨kk, s3⟩, hk3⟩ : ∃ x, rrule bs 2 s2 = x := ⟨_, rfl⟩
  have HK3 : Hid ((kk, s3) = if er = 0 ∧ v3 < 1 then (0, (t31, 3)) else (v3, (t31, er))) := hide (by rw [← hk3, kind_rule, hx3])
  rw [hx3]
  rw [hx3] at g3
  simp only at g3
  simp only
  have HKR := hide hk3
  obtain ⟨V3, hV3⟩ : ∃ W, w3.setCell ⟨E, 3, none⟩ (.int .i64 (v3 : Int)) = W := ⟨_, rfl⟩
  obtain ⟨bWk, xWk, yWk⟩ := two_set (i := 3) (v := .int .i64 (v3 : Int)) sE EBk
  rw [hV3] at bWk xWk yWk
  have ek : w3.cell? ⟨E, 3, none⟩ = some (.int .i64 0) := (cell_of_block EBk).trans rfl
  have fk : w3.frozen? ⟨E, 3, none⟩ = false := free_of_block EBk
  have EB3 := hide (show V3.heap[E]? = some (.cells #[.int .i64 m0, .int .i64 m1, .int .i64 m2, .int .i64 (v3 : Int), .int .i64 0, .int .i64 0, .int .i64 0, .int .i64 0, .bool false, .slice none 0 0, .slice none 0 0, .slice none 0 0, .slice none 0 0] 41 (0, 0)) from xWk)
  have RB3 := hide ((yWk _ (unhide NE)).trans RBk)
  have G3 := hide (g3.fresh bWk)
  have HWk := hide hV3
  clear g3 k3 RBk EBk bWk xWk yWk hV3 G2 RB2 EB2 hx3 hk3
  go_upto_region 6 with fail
  rw [unhide HWk]
  clear HWk ek fk
  obtain ⟨pos, hp, hbp, hpe, hpn⟩ := (unhide G3).q
  simp only at hp hpe
  have c2 : V3.cell? ⟨p, 2, none⟩ = some (.int .i64 (er : Int)) := (cell_of_block hp).trans rfl
  have f2 : V3.frozen? ⟨p, 2, none⟩ = false := free_of_block hp
  have c3 : V3.cell? ⟨E, 3, none⟩ = some (.int .i64 (v3 : Int)) := (cell_of_block (unhide EB3)).trans rfl
  have HP := hide hp
  have HPE := hide hpe
  clear hp hpe
  go_cut [32] (fun v32 wd => v32 = .bool (decide (er = 0 ∧ v3 < 1)) ∧ wd = V3)
  case first =>
    by_cases he : er = 0
    · subst he
      by_cases hv : v3 < 1
      · have q1 : (v3 : Int) < 1 := by omega
        go_wp2
        go_meet
        exact ⟨by simp [hv], rfl⟩
      · have q1 : ¬ (v3 : Int) < 1 := by omega
        go_wp2
        go_meet
        exact ⟨by simp [hv], rfl⟩
    · have q1 : ((er : Int) == 0) = false := by simp; omega
      have HE0 := hide he
      clear he
      go_wp2
      go_meet
      exact ⟨by rw [decide_eq_false (fun x => unhide HE0 x.1)], rfl⟩
  case rest =>
    obtain ⟨rfl, hwc⟩ := hcut
    replace hwc := hwc.symm
    subst hwc
    go_upto_if 32 with fail
    go_cut [] (fun wd => Xg w.heap.size W1 wd p ao n cap bs s3 ∧ wd.heap[E]? = some (.cells #[.int .i64 m0, .int .i64 m1, .int .i64 m2, .int .i64 (kk : Int), .int .i64 0, .int .i64 0, .int .i64 0, .int .i64 0, .bool false, .slice none 0 0, .slice none 0 0, .slice none 0 0, .slice none 0 0] 41 (0, 0)) ∧ wd.heap[w.heap.size]? = some (.cells #[.int .i64 0, .int .i64 0, .int .i64 0, .int .i64 0, .int .i64 0, .int .i64 0, .int .i64 0, .int .i64 0, .bool false, .slice none 0 0, .slice none 0 0, .slice none 0 0, .slice none 0 0] 41 (0, 0)))
    case first =>
      by_cases hb : er = 0 ∧ v3 < 1
      · obtain ⟨he, hv⟩ := hb
        have hk := unhide HK3
        rw [if_pos ⟨he, hv⟩] at hk
        simp only [Prod.mk.injEq] at hk
        obtain ⟨hkk, hs3⟩ := hk
        have hv0 : v3 = 0 := by omega
        subst he
        subst hv0
        obtain ⟨V4, hV4⟩ : ∃ W, V3.setCell ⟨p, 2, none⟩ (.int .i64 3) = W := ⟨_, rfl⟩
        have o4 : Only w.heap.size [92] V3 V4 := by rw [← hV4]; exact (Only.refl _ _ _).setCell (p := ⟨p, 2, none⟩) hbp _ (unhide HP) (by simp)
        have x4 : V4.heap[p]? = some (.cells #[.slice ao n cap, .int .i64 (pos : Int), .int .i64 3] 92 (0, 0)) := by rw [← hV4]; exact setCell_block (unhide HP)
        have FIN : Hid (Xg w.heap.size W1 V4 p ao n cap bs s3 ∧ V4.heap[E]? = some (.cells #[.int .i64 m0, .int .i64 m1, .int .i64 m2, .int .i64 (kk : Int), .int .i64 0, .int .i64 0, .int .i64 0, .int .i64 0, .bool false, .slice none 0 0, .slice none 0 0, .slice none 0 0, .slice none 0 0] 41 (0, 0)) ∧ V4.heap[w.heap.size]? = some (.cells #[.int .i64 0, .int .i64 0, .int .i64 0, .int .i64 0, .int .i64 0, .int .i64 0, .int .i64 0, .int .i64 0, .bool false, .slice none 0 0, .slice none 0 0, .slice none 0 0, .slice none 0 0] 41 (0, 0))) := hide (by
          rw [hkk, hs3]
          exact ⟨⟨⟨pos, x4, hbp, (fun h => by cases h), hpn⟩, (unhide G3).src, (unhide G3).sz, (unhide G3).on.trans o4, (unhide G3).pl⟩, o4.block (unhide EB3) (by decide), o4.block (unhide RB3) (by decide)⟩)
        have HV4 := hide hV4
        clear hkk hs3 hV4 o4 x4
        go_wp2
        go_meet
        rw [unhide HV4]
        exact unhide FIN
      · have hk := unhide HK3
        rw [if_neg hb] at hk
        simp only [Prod.mk.injEq] at hk
        obtain ⟨hkk, hs3⟩ := hk
        have FIN : Hid (Xg w.heap.size W1 V3 p ao n cap bs s3 ∧ V3.heap[E]? = some (.cells #[.int .i64 m0, .int .i64 m1, .int .i64 m2, .int .i64 (kk : Int), .int .i64 0, .int .i64 0, .int .i64 0, .int .i64 0, .bool false, .slice none 0 0, .slice none 0 0, .slice none 0 0, .slice none 0 0] 41 (0, 0)) ∧ V3.heap[w.heap.size]? = some (.cells #[.int .i64 0, .int .i64 0, .int .i64 0, .int .i64 0, .int .i64 0, .int .i64 0, .int .i64 0, .int .i64 0, .bool false, .slice none 0 0, .slice none 0 0, .slice none 0 0, .slice none 0 0] 41 (0, 0))) := hide (by
          rw [hkk, hs3]
          exact ⟨unhide G3, unhide EB3, unhide RB3⟩)
        have hd : decide (er = 0 ∧ v3 < 1) = false := decide_eq_false hb
        rw [hd]
        clear hkk hs3 hb hd
        go_wp2
        go_meet
        exact unhide FIN
    case rest =>
      obtain ⟨gk, ebk, rbk⟩ := hcut
      have G3 := hide gk
      have EB3 := hide ebk
      have RB3 := hide rbk
      clear gk ebk rbk c2 f2 c3 HP HPE hbp hpn HK3
      go_wp2_with fail
      refine ((unhide G3).num).mono ?_
      rintro r w4 ⟨rfl, g4, k4⟩
      have RBk := k4.block (unhide RB3) (by decide)
      have EBk := k4.block (unhide EB3) (by decide)
      obtain ⟨m4, hm4⟩ : ∃ x, rint bs s3 = x := ⟨_, rfl⟩
      obtain ⟨s4, hs4⟩ : ∃ x, rtake n 8 s3 = x := ⟨_, rfl⟩
      rw [hm4]
      rw [hs4] at g4
      have HM4 := hide hm4
      have HS4 := hide hs4
      obtain ⟨V4, hV4⟩ : ∃ W, w4.setCell ⟨E, 4, none⟩ (.int .i64 m4) = W := ⟨_, rfl⟩
      obtain ⟨bWk, xWk, yWk⟩ := two_set (i := 4) (v := .int .i64 m4) sE EBk
      rw [hV4] at bWk xWk yWk
      have ek : w4.cell? ⟨E, 4, none⟩ = some (.int .i64 0) := (cell_of_block EBk).trans rfl
      have fk : w4.frozen? ⟨E, 4, none⟩ = false := free_of_block EBk
      have EB4 := hide (show V4.heap[E]? = some (.cells #[.int .i64 m0, .int .i64 m1, .int .i64 m2, .int .i64 (kk : Int), .int .i64 m4, .int .i64 0, .int .i64 0, .int .i64 0, .bool false, .slice none 0 0, .slice none 0 0, .slice none 0 0, .slice none 0 0] 41 (0, 0)) from xWk)
      have RB4 := hide ((yWk _ (unhide NE)).trans RBk)
      have G4 := hide (g4.fresh bWk)
      have HWk := hide hV4
      clear g4 k4 RBk EBk bWk xWk yWk hV4 G3 RB3 EB3 hm4 hs4
      go_upto_region 9 with fail
      rw [unhide HWk]
      clear HWk ek fk
      go_wp2_with fail
      refine ((unhide G4).num).mono ?_
      rintro r w5 ⟨rfl, g5, k5⟩
      have RBk := k5.block (unhide RB4) (by decide)
      have EBk := k5.block (unhide EB4) (by decide)
      obtain ⟨m5, hm5⟩ : ∃ x, rint bs s4 = x := ⟨_, rfl⟩
      obtain ⟨s5, hs5⟩ : ∃ x, rtake n 8 s4 = x := ⟨_, rfl⟩
      rw [hm5]
      rw [hs5] at g5
      have HM5 := hide hm5
      have HS5 := hide hs5
      obtain ⟨V5, hV5⟩ : ∃ W, w5.setCell ⟨E, 5, none⟩ (.int .i64 m5) = W := ⟨_, rfl⟩
      obtain ⟨bWk, xWk, yWk⟩ := two_set (i := 5) (v := .int .i64 m5) sE EBk
      rw [hV5] at bWk xWk yWk
      have ek : w5.cell? ⟨E, 5, none⟩ = some (.int .i64 0) := (cell_of_block EBk).trans rfl
      have fk : w5.frozen? ⟨E, 5, none⟩ = false := free_of_block EBk
      have EB5 := hide (show V5.heap[E]? = some (.cells #[.int .i64 m0, .int .i64 m1, .int .i64 m2, .int .i64 (kk : Int), .int .i64 m4, .int .i64 m5, .int .i64 0, .int .i64 0, .bool false, .slice none 0 0, .slice none 0 0, .slice none 0 0, .slice none 0 0] 41 (0, 0)) from xWk)
      have RB5 := hide ((yWk _ (unhide NE)).trans RBk)
      have G5 := hide (g5.fresh bWk)
      have HWk := hide hV5
      clear g5 k5 RBk EBk bWk xWk yWk hV5 G4 RB4 EB4 hm5 hs5
      go_upto_region 10 with fail
      rw [unhide HWk]
      clear HWk ek fk
      go_wp2_with fail
      refine ((unhide G5).num).mono ?_
      rintro r w6 ⟨rfl, g6, k6⟩
      have RBk := k6.block (unhide RB5) (by decide)
      have EBk := k6.block (unhide EB5) (by decide)
      obtain ⟨m6, hm6⟩ : ∃ x, rint bs s5 = x := ⟨_, rfl⟩
      obtain ⟨s6, hs6⟩ : ∃ x, rtake n 8 s5 = x := ⟨_, rfl⟩
      rw [hm6]
      rw [hs6] at g6
      have HM6 := hide hm6
      have HS6 := hide hs6
      obtain ⟨V6, hV6⟩ : ∃ W, w6.setCell ⟨E, 6, none⟩ (.int .i64 m6) = W := ⟨_, rfl⟩
      obtain ⟨bWk, xWk, yWk⟩ := two_set (i := 6) (v := .int .i64 m6) sE EBk
      rw [hV6] at bWk xWk yWk
      have ek : w6.cell? ⟨E, 6, none⟩ = some (.int .i64 0) := (cell_of_block EBk).trans rfl
      have fk : w6.frozen? ⟨E, 6, none⟩ = false := free_of_block EBk
      have EB6 := hide (show V6.heap[E]? = some (.cells #[.int .i64 m0, .int .i64 m1, .int .i64 m2, .int .i64 (kk : Int), .int .i64 m4, .int .i64 m5, .int .i64 m6, .int .i64 0, .bool false, .slice none 0 0, .slice none 0 0, .slice none 0 0, .slice none 0 0] 41 (0, 0)) from xWk)
      have RB6 := hide ((yWk _ (unhide NE)).trans RBk)
      have G6 := hide (g6.fresh bWk)
      have HWk := hide hV6
      clear g6 k6 RBk EBk bWk xWk yWk hV6 G5 RB5 EB5 hm6 hs6
      go_upto_region 11 with fail
      rw [unhide HWk]
      clear HWk ek fk
      go_wp2_with fail
      refine ((unhide G6).num).mono ?_
      rintro r w7 ⟨rfl, g7, k7⟩
      have RBk := k7.block (unhide RB6) (by decide)
      have EBk := k7.block (unhide EB6) (by decide)
      obtain ⟨m7, hm7⟩ : ∃ x, rint bs s6 = x := ⟨_, rfl⟩
      obtain ⟨s7, hs7⟩ : ∃ x, rtake n 8 s6 = x := ⟨_, rfl⟩
      rw [hm7]
      rw [hs7] at g7
      have HM7 := hide hm7
      have HS7 := hide hs7
      obtain ⟨V7, hV7⟩ : ∃ W, w7.setCell ⟨E, 7, none⟩ (.int .i64 m7) = W := ⟨_, rfl⟩
      obtain ⟨bWk, xWk, yWk⟩ := two_set (i := 7) (v := .int .i64 m7) sE EBk
      rw [hV7] at bWk xWk yWk
      have ek : w7.cell? ⟨E, 7, none⟩ = some (.int .i64 0) := (cell_of_block EBk).trans rfl
      have fk : w7.frozen? ⟨E, 7, none⟩ = false := free_of_block EBk
      have EB7 := hide (show V7.heap[E]? = some (.cells #[.int .i64 m0, .int .i64 m1, .int .i64 m2, .int .i64 (kk : Int), .int .i64 m4, .int .i64 m5, .int .i64 m6, .int .i64 m7, .bool false, .slice none 0 0, .slice none 0 0, .slice none 0 0, .slice none 0 0] 41 (0, 0)) from xWk)
      have RB7 := hide ((yWk _ (unhide NE)).trans RBk)
      have G7 := hide (g7.fresh bWk)
      have HWk := hide hV7
      clear g7 k7 RBk EBk bWk xWk yWk hV7 G6 RB6 EB6 hm7 hs7
      go_upto_region 12 with fail
      rw [unhide HWk]
      clear HWk ek fk
      go_wp2_with fail
      refine ((unhide G7).most 3 1 12 (by decide) (by decide) ref3).mono ?_
      rintro r w8 ⟨rfl, g8, k8⟩
      have RBk := k8.block (unhide RB7) (by decide)
      have EBk := k8.block (unhide EB7) (by decide)
      obtain ⟨⟨y8, s8⟩, hy8⟩ : ∃ x, rrule bs 3 s7 = x := ⟨_, rfl⟩
      rw [hy8]
      rw [hy8] at g8
      simp only at g8
      simp only
      have HY8 := hide hy8
      obtain ⟨V8, hV8⟩ : ∃ W, w8.setCell ⟨E, 8, none⟩ (.bool ((y8 : Int) == 1)) = W := ⟨_, rfl⟩
      obtain ⟨bWk, xWk, yWk⟩ := two_set (i := 8) (v := .bool ((y8 : Int) == 1)) sE EBk
      rw [hV8] at bWk xWk yWk
      have ek : w8.cell? ⟨E, 8, none⟩ = some (.bool false) := (cell_of_block EBk).trans rfl
      have fk : w8.frozen? ⟨E, 8, none⟩ = false := free_of_block EBk
      have EB8 := hide (show V8.heap[E]? = some (.cells #[.int .i64 m0, .int .i64 m1, .int .i64 m2, .int .i64 (kk : Int), .int .i64 m4, .int .i64 m5, .int .i64 m6, .int .i64 m7, .bool ((y8 : Int) == 1), .slice none 0 0, .slice none 0 0, .slice none 0 0, .slice none 0 0] 41 (0, 0)) from xWk)
      have RB8 := hide ((yWk _ (unhide NE)).trans RBk)
      have G8 := hide (g8.fresh bWk)
      have HWk := hide hV8
      clear g8 k8 RBk EBk bWk xWk yWk hV8 G7 RB7 EB7 hy8
      go_upto_region 13 with fail
      rw [unhide HWk]
      clear HWk ek fk
      go_wp2_with fail
      refine ((unhide G8).list 6 64 (by decide) ref6).mono ?_
      rintro r w9 ⟨ao9, cap9, ls, rfl, o9, l9, y9, g9, k9⟩
      have RBk := k9.block (unhide RB8) (by decide)
      have EBk := k9.block (unhide EB8) (by decide)
      obtain ⟨⟨q9, s9⟩, hr9⟩ : ∃ x, rlist bs 6 s8 = x := ⟨_, rfl⟩
      rw [hr9] at g9 y9
      simp only at g9 y9
      obtain ⟨n9, hn9⟩ : ∃ x, ls.length = x := ⟨_, rfl⟩
      rw [hn9] at o9 l9
      rw [hn9]
      have HR9 := hide hr9
      have HN9 := hide hn9
      have HY9 := hide y9
      have HL9 := hide l9
      obtain ⟨V9, hV9⟩ : ∃ W, w9.setCell ⟨E, 9, none⟩ (.slice ao9 n9 cap9) = W := ⟨_, rfl⟩
      obtain ⟨bWk, xWk, yWk⟩ := two_set (i := 9) (v := .slice ao9 n9 cap9) sE EBk
      rw [hV9] at bWk xWk yWk
      have oWk : Only W1.heap.size [41] w9 V9 := by rw [← hV9]; exact (Only.refl _ _ _).setCell (p := ⟨E, 9, none⟩) sE _ EBk (by simp)
      have ek : w9.cell? ⟨E, 9, none⟩ = some (.slice none 0 0) := (cell_of_block EBk).trans rfl
      have fk : w9.frozen? ⟨E, 9, none⟩ = false := free_of_block EBk
      have EB9 := hide (show V9.heap[E]? = some (.cells #[.int .i64 m0, .int .i64 m1, .int .i64 m2, .int .i64 (kk : Int), .int .i64 m4, .int .i64 m5, .int .i64 m6, .int .i64 m7, .bool ((y8 : Int) == 1), .slice ao9 n9 cap9, .slice none 0 0, .slice none 0 0, .slice none 0 0] 41 (0, 0)) from xWk)
      have RB9 := hide ((yWk _ (unhide NE)).trans RBk)
      have G9 := hide (g9.fresh bWk)
      have O9 := hide (own_only (own_wide o9 (unhide G8).on.size) oWk (by decide))
      have HWk := hide hV9
      clear g9 k9 RBk EBk bWk xWk yWk oWk hV9 G8 RB8 EB8 hr9 hn9 y9 l9 o9
      go_upto_region 14 with fail
      rw [unhide HWk]
      clear HWk ek fk
      go_wp2_with fail
      refine ((unhide G9).most 6 64 4 (by decide) (by decide) ref6).mono ?_
      rintro r wA ⟨rfl, gA, kA⟩
      have hkle := rrule_le bs 6 s9
      obtain ⟨⟨k, t⟩, hkt⟩ : ∃ x, rrule bs 6 s9 = x := ⟨_, rfl⟩
      rw [hkt] at gA hkle
      rw [hkt]
      simp only at gA hkle
      simp only
      have RBA := hide (kA.block (unhide RB9) (by decide))
      have EBA := hide (kA.block (unhide EB9) (by decide))
      have OA := hide (own_only (unhide O9) kA (by decide))
      have HKT := hide hkt
      have GA := hide gA
      clear hkt gA kA G9 RB9 EB9 O9
      obtain ⟨i0, hi, hz0, hz1, hz2⟩ := info_parts Tryd.info_entry
      go_upto_block 0 with fail
      go_cut [] (fun wd => ∃ (xs : List Ent) (vs : List Value) (aoE : Option Addr) (jE capE : Nat), xs.length = jE ∧ wd.ownsRow W1.heap.size 24 6 (.slice aoE jE capE) jE (ecells xs vs) ∧ Mems W1.heap.size wd xs vs ∧ ((rentriesN bs k t).2.2 = 0 → xs = (rentriesN bs k t).1) ∧ Xg w.heap.size W1 wd p ao n cap bs (rentriesN bs k t).2 ∧ wd.heap[E]? = some (.cells #[.int .i64 m0, .int .i64 m1, .int .i64 m2, .int .i64 (kk : Int), .int .i64 m4, .int .i64 m5, .int .i64 m6, .int .i64 m7, .bool ((y8 : Int) == 1), .slice ao9 n9 cap9, .slice aoE jE capE, .slice none 0 0, .slice none 0 0] 41 (0, 0)) ∧ wd.heap[w.heap.size]? = some (.cells #[.int .i64 0, .int .i64 0, .int .i64 0, .int .i64 0, .int .i64 0, .int .i64 0, .int .i64 0, .int .i64 0, .bool false, .slice none 0 0, .slice none 0 0, .slice none 0 0, .slice none 0 0] 41 (0, 0)) ∧ wd.ownsRow W1.heap.size 3 1 (.slice ao9 n9 cap9) n9 (i64s ls))
      case first =>
        go_wp2_with fail
        go_loopg [7] k (fun g iv wr => ∃ (j : Nat) (xs : List Ent) (vs : List Value) (aoE : Option Addr) (capE : Nat), j + g = k ∧ iv = .int .i64 (j : Int) ∧ xs.length = j ∧ wr.ownsRow W1.heap.size 24 6 (.slice aoE j capE) j (ecells xs vs) ∧ Mems W1.heap.size wr xs vs ∧ ((rentriesN bs j t).2.2 = 0 → xs = (rentriesN bs j t).1) ∧ Xg w.heap.size W1 wr p ao n cap bs (rentriesN bs j t).2 ∧ wr.heap[E]? = some (.cells #[.int .i64 m0, .int .i64 m1, .int .i64 m2, .int .i64 (kk : Int), .int .i64 m4, .int .i64 m5, .int .i64 m6, .int .i64 m7, .bool ((y8 : Int) == 1), .slice ao9 n9 cap9, .slice aoE j capE, .slice none 0 0, .slice none 0 0] 41 (0, 0)) ∧ wr.heap[w.heap.size]? = some (.cells #[.int .i64 0, .int .i64 0, .int .i64 0, .int .i64 0, .int .i64 0, .int .i64 0, .int .i64 0, .int .i64 0, .bool false, .slice none 0 0, .slice none 0 0, .slice none 0 0, .slice none 0 0] 41 (0, 0)) ∧ wr.ownsRow W1.heap.size 3 1 (.slice ao9 n9 cap9) n9 (i64s ls))
        case atStart => exact ⟨0, [], [], none, 0, by omega, rfl, rfl, World.ownsRow_nil _ _ _ _, Mems.nil _ _, (fun _ => rfl), unhide GA, unhide EBA, unhide RBA, unhide OA⟩
        case round =>
          obtain ⟨j, xs, vs, aoE, capE, hj, rfl, hxl, ho, hm, hx, hr, he9, hr9, ho9⟩ := hrel
          have HJ := hide hj
          have HXL := hide hxl
          have HO := hide ho
          have HM := hide hm
          have HX := hide hx
          have HR := hide hr
          have HE9 := hide he9
          have HR9' := hide hr9
          have HO9 := hide ho9
          have sr : W1.heap.size ≤ wr.heap.size := hr.on.size
          have hjk : j ≤ k := by omega
          obtain ⟨er, her⟩ : ∃ er, (rentriesN bs j t).2.2 = er := ⟨_, rfl⟩
          have c2 : wr.cell? ⟨p, 2, none⟩ = some (.int .i64 (er : Int)) := by
            obtain ⟨pos, hp, _⟩ := hr.q
            rw [her] at hp
            exact (cell_of_block hp).trans rfl
          have HER := hide her
          clear hj hxl ho hm hx hr he9 hr9 ho9 her
          by_cases hlt : j < k
          · by_cases he : er = 0
            · subst he
              have q1 : (j : Int) < (k : Int) := by omega
              obtain ⟨⟨rx, ru⟩, hre⟩ : ∃ x, rentry bs (rentriesN bs j t).2 = x := ⟨_, rfl⟩
              have ER : Hid (rentriesN bs (j + 1) t = ((rentriesN bs j t).1 ++ [rx], ru)) := by show _ = _; rw [rentriesN, hre]
              have HRE := hide hre
              clear hre
              have HXX := hide (unhide HX (unhide HER))
              have HOD := hide (own_only (unhide HO) ((Only.refl W1.heap.size [] wr).drew) (by simp))
              have HMD := hide ((unhide HM).only ((Only.refl W1.heap.size [] wr).drew) (by simp))
              have HO9D := hide (own_only (unhide HO9) ((Only.refl W1.heap.size [] wr).drew) (by simp))
              have HE9D := hide (show wr.drew.heap[E]? = _ from unhide HE9)
              have HR9D := hide (show wr.drew.heap[w.heap.size]? = _ from unhide HR9')
              have c10 : wr.cell? ⟨E, 10, none⟩ = some (.slice aoE j capE) := (cell_of_block (unhide HE9)).trans rfl
              clear HX
              go_upto_region 18 with fail
              go_region_law
                  (first
                    | (refine step_xentry (.tmp 71) rfl rfl rfl ((unhide HR).fresh ((Below.refl W1.heap.size wr).drew)) ?_
                       intro x ao2 nx cap2 w2 hnx o2 y2 g2 k2
                       rw [unhide HRE] at y2 g2
                       simp only at y2 g2
                       have O2 := hide (own_only (unhide HOD) k2 (by decide))
                       have M2 := hide (((unhide HMD).only k2 (by decide)).snoc (own_wide (by rw [hnx]; exact o2) sr))
                       have T2 := hide (own_only (unhide HO9D) k2 (by decide))
                       have E2 := hide (k2.block (unhide HE9D) (by decide))
                       have B2 := hide (k2.block (unhide HR9D) (by decide))
                       have R2 := hide g2
                       have Y2 := hide y2
                       have s2 : W1.heap.size ≤ w2.heap.size := g2.on.size
                       have EC := hide (ecells_snoc (unhide HM).1 x (.slice ao2 nx cap2))
                       have ON := hide (ent_one x ao2 nx cap2)
                       have d10 : w2.cell? ⟨E, 10, none⟩ = some (.slice aoE j capE) := (cell_of_block (unhide E2)).trans rfl
                       have XA := hide (fun o => show (w2.alloc o).cell? ⟨E, 10, none⟩ = some (.slice aoE j capE) from by rw [((Below.refl w2.heap.size w2).alloc (Nat.le_refl _) o).cell (heap_lt (unhide E2))]; exact (cell_of_block (unhide E2)).trans rfl)
                       have cA := unhide XA (.cells #[.int .i64 x.kind, .int .i64 x.client, .int .i64 x.seq, .string (str x.data), .slice ao2 nx cap2, .int .i64 x.to'] 24)
                       clear o2 y2 g2 k2 hnx)
                    | (refine step_append_lies _ rfl (.tmp 70) (.tmp 73) 37 rfl W1.heap.size 24 i0 _ 6 72 Tryd.underlying37 hi hz0 hz1 hz2 rfl (by decide) (.slice aoE j capE) j (ecells xs vs) rfl ((unhide O2).alloc _) ⟨w2.heap.size, 0, none⟩ 1 1 [.int .i64 x.kind, .int .i64 x.client, .int .i64 x.seq, .string (str x.data), .slice ao2 nx cap2, .int .i64 x.to'] rfl rfl news_at (unhide ON) (by decide) (by unfold maxLen; omega) (by omega) (by simp; omega) (w2.heap.size + 1) (by simp) ?_
                       intro g3 cap3 w3 own3 grow3 lies3 glt3
                       have p3 := (Only.refl W1.heap.size [24] w2).alloc s2 (.cells #[.int .i64 x.kind, .int .i64 x.client, .int .i64 x.seq, .string (str x.data), .slice ao2 nx cap2, .int .i64 x.to'] 24)
                       have p4 := p3.own ((unhide O2).alloc _) grow3 (by simp; omega) (Nat.le_refl _) (by simp)
                       have O3 := hide own3
                       have M3 := hide ((unhide M2).only p4 (by decide))
                       have T3 := hide (own_only (unhide T2) p4 (by decide))
                       have E3 := hide (p4.block (unhide E2) (by decide))
                       have B3 := hide (p4.block (unhide B2) (by decide))
                       have R3 := hide ((unhide R2).fresh p4.below)
                       have e10 : w3.cell? ⟨E, 10, none⟩ = some (.slice aoE j capE) := (cell_of_block (unhide E3)).trans rfl
                       have f10 : w3.frozen? ⟨E, 10, none⟩ = false := free_of_block (unhide E3)
                       clear own3 grow3 lies3 glt3 p3 p4))
              all_goals
                obtain ⟨bW, xW, yW⟩ := two_set (i := 10) (v := .slice (some ⟨g3, 0, none⟩) (j + 1) cap3) sE (unhide E3)
                have oW : Only W1.heap.size [41] w3 (w3.setCell ⟨E, 10, none⟩ (.slice (some ⟨g3, 0, none⟩) (j + 1) cap3)) := (Only.refl _ _ _).setCell (p := ⟨E, 10, none⟩) sE _ (unhide E3) (by simp)
                have Z1 := hide (own_only (unhide O3) oW (by decide))
                have Z2 := hide ((unhide M3).only oW (by decide))
                have Z4 := hide ((unhide R3).fresh bW)
                have Z5 := hide xW
                have Z6 := hide ((yW _ (unhide NE)).trans (unhide B3))
                have Z7 := hide (own_only (unhide T3) oW (by decide))
                clear bW xW yW oW
                go_wp2
                go_roundg (k - (j + 1))
                case measure => have := unhide HJ; omega
                case rel =>
                  refine ⟨j + 1, xs ++ [x], vs ++ [.slice ao2 nx cap2], some ⟨g3, 0, none⟩, cap3, by omega, by go_num, by rw [List.length_append, unhide HXL]; rfl, ?_, unhide Z2, ?_, ?_, unhide Z5, unhide Z6, unhide Z7⟩
                  · rw [unhide EC]; exact unhide Z1
                  · rw [unhide ER]
                    intro h0
                    rw [unhide HXX, unhide Y2 h0]
                  · rw [unhide ER]; exact unhide Z4
            · have q1 : (j : Int) < (k : Int) := by omega
              have q2 : ((er : Int) == 0) = false := by simp; omega
              have HE : Hid ((rentriesN bs k t).2.2 = (rentriesN bs j t).2.2 ∧ (rentriesN bs j t).2.2 ≠ 0) := hide (by
                have h0 : (rentriesN bs j t).2.2 ≠ 0 := by rw [unhide HER]; exact he
                refine ⟨?_, h0⟩
                have := rentriesN_er bs t j h0 (k - j)
                rwa [show j + (k - j) = k by omega] at this)
              clear he
              go_wp2_with fail
              go_meet
              exact ⟨xs, vs, aoE, j, capE, unhide HXL, unhide HO, unhide HM, fun h0 => absurd ((unhide HE).1.symm.trans h0) (unhide HE).2, (unhide HR).er (unhide HE).1.symm (unhide HE).2, unhide HE9, unhide HR9', unhide HO9⟩
          · have ej : j = k := by omega
            subst ej
            go_wp2_with fail
            go_meet
            exact ⟨xs, vs, aoE, j, capE, unhide HXL, unhide HO, unhide HM, unhide HX, unhide HR, unhide HE9, unhide HR9', unhide HO9⟩
      case rest =>
        obtain ⟨xs, vs, aoE, jE, capE, hxl, h1, h2, h3, h4, h5, h6, h7⟩ := hcut
        obtain ⟨⟨qe, sB⟩, hqe⟩ : ∃ x, rentriesN bs k t = x := ⟨_, rfl⟩
        rw [hqe] at h3 h4
        simp only at h3 h4
        have HQE := hide hqe
        have HXL := hide hxl
        have P1 := hide h1
        have P2 := hide h2
        have P3 := hide h3
        have P4 := hide h4
        have P5 := hide h5
        have P6 := hide h6
        have P7 := hide h7
        clear hqe hxl h1 h2 h3 h4 h5 h6 h7 GA RBA EBA OA
        go_wp2_with fail
        refine (xconfig_any (unhide P4)).mono ?_
        rintro r wC ⟨v1, v2, c1, c2, rfl, oc1, oc2, lc, yc, gC, kC⟩
        obtain ⟨ao1, cap1, rfl⟩ := row_slice oc1
        obtain ⟨ao2, cap2, rfl⟩ := row_slice oc2
        obtain ⟨n1, hn1⟩ : ∃ nm, c1.length = nm := ⟨_, rfl⟩
        obtain ⟨n2, hn2⟩ : ∃ nm, c2.length = nm := ⟨_, rfl⟩
        rw [hn1] at oc1
        rw [hn2] at oc2
        rw [hn1, hn2]
        have HN1 := hide hn1
        have HN2 := hide hn2
        obtain ⟨⟨qc, sC⟩, hqc⟩ : ∃ x, rconfig bs sB = x := ⟨_, rfl⟩
        have HCE : Hid (sC.2 = 0 → sB.2 = 0) := hide (fun h => rconfig_er (bs := bs) (s := sB) (by rw [hqc]; exact h))
        rw [hqc] at yc gC
        simp only at yc gC
        have HQC := hide hqc
        have YC := hide yc
        have EBk := kC.block (unhide P5) (by decide)
        have RBk := kC.block (unhide P6) (by decide)
        have sz4 := (unhide P4).on.size
        obtain ⟨VC, hVC⟩ : ∃ W, (wC.setCell ⟨E, 11, none⟩ (.slice ao1 n1 cap1)).setCell ⟨E, 12, none⟩ (.slice ao2 n2 cap2) = W := ⟨_, rfl⟩
        have q9 : Only W1.heap.size [41] wC VC ∧ VC.heap[E]? = some (.cells #[.int .i64 m0, .int .i64 m1, .int .i64 m2, .int .i64 (kk : Int), .int .i64 m4, .int .i64 m5, .int .i64 m6, .int .i64 m7, .bool ((y8 : Int) == 1), .slice ao9 n9 cap9, .slice aoE jE capE, .slice ao1 n1 cap1, .slice ao2 n2 cap2] 41 (0, 0)) := by
          rw [← hVC]
          exact set_one (set_one ⟨Only.refl _ _ _, EBk⟩ sE (by simp) 11 _) sE (by simp) 12 _
        have RBC := hide (show VC.heap[w.heap.size]? = some (.cells #[.int .i64 0, .int .i64 0, .int .i64 0, .int .i64 0, .int .i64 0, .int .i64 0, .int .i64 0, .int .i64 0, .bool false, .slice none 0 0, .slice none 0 0, .slice none 0 0, .slice none 0 0] 41 (0, 0)) by
          rw [← hVC, Below.heap_setCell _ _ _ _ (unhide NE), Below.heap_setCell _ _ _ _ (unhide NE)]
          exact RBk)
        have EBC := hide q9.2
        have GC := hide (gC.fresh q9.1.below)
        have D1 := hide (own_only (own_only (unhide P1) kC (by decide)) q9.1 (by decide))
        have D2 := hide (((unhide P2).only kC (by decide)).only q9.1 (by decide))
        have D7 := hide (own_only (own_only (unhide P7) kC (by decide)) q9.1 (by decide))
        have C1' := hide (own_wide (own_only oc1 q9.1 (by decide)) sz4)
        have C2' := hide (own_wide (own_only oc2 q9.1 (by decide)) sz4)
        have KB : Hid (Below w.heap.size w VC) := hide ((unhide BB).trans (unhide GC).on.below)
        have e11 : wC.cell? ⟨E, 11, none⟩ = some (.slice none 0 0) := (cell_of_block EBk).trans rfl
        have e12 : wC.cell? ⟨E, 12, none⟩ = some (.slice none 0 0) := (cell_of_block EBk).trans rfl
        have fzE : ∀ i, wC.frozen? ⟨E, i, none⟩ = false := fun i => free_of_block EBk
        have HWk := hide hVC
        clear hn1 hn2 hqc yc gC kC oc1 oc2 lc EBk RBk hVC q9 P1 P2 P4 P5 P6 P7 sz4
        go_upto_region 20 with fail
        rw [unhide HWk]
        clear HWk e11 e12 fzE
        have RMM : Hid (rmsg bs (0, 0) = (⟨m0, m1, m2, (kk : Int), m4, m5, m6, m7, (y8 : Int) == 1, q9, qe, qc.1, qc.2⟩, sC)) := hide (by
          unfold rmsg rentries
          simp only [unhide HN, unhide HM0, unhide HS0, unhide HM1, unhide HS1, unhide HM2, unhide HS2, unhide HKR, unhide HM4, unhide HS4, unhide HM5, unhide HS5, unhide HM6, unhide HS6, unhide HM7, unhide HS7, unhide HY8, unhide HR9, unhide HKT, unhide HQE, unhide HQC])
        obtain ⟨er, her⟩ : ∃ er, (rend n sC).2 = er := ⟨_, rfl⟩
        have C1 := xend_any w.heap.size p ao n cap sC VC (unhide GC).q
        rw [her] at C1
        have CC1 := hide C1
        have HER := hide her
        clear C1 her
        go_wp2_with fail
        refine (unhide CC1).mono ?_
        rintro r w3 ⟨rfl, d3, hd3⟩
        have b3 : Below VC.heap.size VC w3 := by rw [hd3]; exact drewN_below VC d3
        clear hd3 CC1
        by_cases hr0 : er = 0
        · subst hr0
          have EB3 := hide ((b3.block _ (heap_lt (unhide EBC))).trans (unhide EBC))
          have RB4 := hide ((b3.block _ (heap_lt (unhide RBC))).trans (unhide RBC))
          have KB3 := hide ((unhide KB).trans (b3.mono (unhide KB).size))
          have o3 : Only VC.heap.size [] VC w3 := Only.of_below (ts := []) b3 (Nat.le_refl _)
          have Q1 := hide (own_only (unhide D1) o3 (by simp))
          have Q2 := hide ((unhide D2).only o3 (by simp))
          have Q7 := hide (own_only (unhide D7) o3 (by simp))
          have Q8 := hide (own_only (unhide C1') o3 (by simp))
          have Q9 := hide (own_only (unhide C2') o3 (by simp))
          have hr0 : sC.2 = 0 := by
            have := unhide HER
            unfold rend at this
            split at this
            · simp only at this; split at this
              · cases this
              · assumption
            · exact this
          have HR0 := hide hr0
          clear b3 o3 hr0
          have a0 : w3.cell? ⟨E, 0, none⟩ = some (.int .i64 m0) := (cell_of_block (unhide EB3)).trans rfl
          have z0 : w3.cell? ⟨w.heap.size, 0, none⟩ = some (.int .i64 0) := (cell_of_block (unhide RB4)).trans rfl
          have a1 : w3.cell? ⟨E, 1, none⟩ = some (.int .i64 m1) := (cell_of_block (unhide EB3)).trans rfl
          have z1 : w3.cell? ⟨w.heap.size, 1, none⟩ = some (.int .i64 0) := (cell_of_block (unhide RB4)).trans rfl
          have a2 : w3.cell? ⟨E, 2, none⟩ = some (.int .i64 m2) := (cell_of_block (unhide EB3)).trans rfl
          have z2 : w3.cell? ⟨w.heap.size, 2, none⟩ = some (.int .i64 0) := (cell_of_block (unhide RB4)).trans rfl
          have a3 : w3.cell? ⟨E, 3, none⟩ = some (.int .i64 (kk : Int)) := (cell_of_block (unhide EB3)).trans rfl
          have z3 : w3.cell? ⟨w.heap.size, 3, none⟩ = some (.int .i64 0) := (cell_of_block (unhide RB4)).trans rfl
          have a4 : w3.cell? ⟨E, 4, none⟩ = some (.int .i64 m4) := (cell_of_block (unhide EB3)).trans rfl
          have z4 : w3.cell? ⟨w.heap.size, 4, none⟩ = some (.int .i64 0) := (cell_of_block (unhide RB4)).trans rfl
          have a5 : w3.cell? ⟨E, 5, none⟩ = some (.int .i64 m5) := (cell_of_block (unhide EB3)).trans rfl
          have z5 : w3.cell? ⟨w.heap.size, 5, none⟩ = some (.int .i64 0) := (cell_of_block (unhide RB4)).trans rfl
          have a6 : w3.cell? ⟨E, 6, none⟩ = some (.int .i64 m6) := (cell_of_block (unhide EB3)).trans rfl
          have z6 : w3.cell? ⟨w.heap.size, 6, none⟩ = some (.int .i64 0) := (cell_of_block (unhide RB4)).trans rfl
          have a7 : w3.cell? ⟨E, 7, none⟩ = some (.int .i64 m7) := (cell_of_block (unhide EB3)).trans rfl
          have z7 : w3.cell? ⟨w.heap.size, 7, none⟩ = some (.int .i64 0) := (cell_of_block (unhide RB4)).trans rfl
          have a8 : w3.cell? ⟨E, 8, none⟩ = some (.bool ((y8 : Int) == 1)) := (cell_of_block (unhide EB3)).trans rfl
          have z8 : w3.cell? ⟨w.heap.size, 8, none⟩ = some (.bool false) := (cell_of_block (unhide RB4)).trans rfl
          have a9 : w3.cell? ⟨E, 9, none⟩ = some (.slice ao9 n9 cap9) := (cell_of_block (unhide EB3)).trans rfl
          have z9 : w3.cell? ⟨w.heap.size, 9, none⟩ = some (.slice none 0 0) := (cell_of_block (unhide RB4)).trans rfl
          have a10 : w3.cell? ⟨E, 10, none⟩ = some (.slice aoE jE capE) := (cell_of_block (unhide EB3)).trans rfl
          have z10 : w3.cell? ⟨w.heap.size, 10, none⟩ = some (.slice none 0 0) := (cell_of_block (unhide RB4)).trans rfl
          have a11 : w3.cell? ⟨E, 11, none⟩ = some (.slice ao1 n1 cap1) := (cell_of_block (unhide EB3)).trans rfl
          have z11 : w3.cell? ⟨w.heap.size, 11, none⟩ = some (.slice none 0 0) := (cell_of_block (unhide RB4)).trans rfl
          have a12 : w3.cell? ⟨E, 12, none⟩ = some (.slice ao2 n2 cap2) := (cell_of_block (unhide EB3)).trans rfl
          have z12 : w3.cell? ⟨w.heap.size, 12, none⟩ = some (.slice none 0 0) := (cell_of_block (unhide RB4)).trans rfl
          have fz : ∀ i, w3.frozen? ⟨w.heap.size, i, none⟩ = false := fun i => free_of_block (unhide RB4)
          go_wp2
          obtain ⟨w8, h8⟩ : ∃ w8 : World, w8 = (((((((((((((w3.setCell ⟨w.heap.size, 0, none⟩ (.int .i64 m0)).setCell ⟨w.heap.size, 1, none⟩ (.int .i64 m1)).setCell ⟨w.heap.size, 2, none⟩ (.int .i64 m2)).setCell ⟨w.heap.size, 3, none⟩ (.int .i64 (kk : Int))).setCell ⟨w.heap.size, 4, none⟩ (.int .i64 m4)).setCell ⟨w.heap.size, 5, none⟩ (.int .i64 m5)).setCell ⟨w.heap.size, 6, none⟩ (.int .i64 m6)).setCell ⟨w.heap.size, 7, none⟩ (.int .i64 m7)).setCell ⟨w.heap.size, 8, none⟩ (.bool ((y8 : Int) == 1))).setCell ⟨w.heap.size, 9, none⟩ (.slice ao9 n9 cap9)).setCell ⟨w.heap.size, 10, none⟩ (.slice aoE jE capE)).setCell ⟨w.heap.size, 11, none⟩ (.slice ao1 n1 cap1)).setCell ⟨w.heap.size, 12, none⟩ (.slice ao2 n2 cap2)) := ⟨_, rfl⟩
          rw [← h8]
          have q8 : Only w.heap.size [41] w3 w8 ∧ w8.heap[w.heap.size]? = some (.cells #[.int .i64 m0, .int .i64 m1, .int .i64 m2, .int .i64 (kk : Int), .int .i64 m4, .int .i64 m5, .int .i64 m6, .int .i64 m7, .bool ((y8 : Int) == 1), .slice ao9 n9 cap9, .slice aoE jE capE, .slice ao1 n1 cap1, .slice ao2 n2 cap2] 41 (0, 0)) := by
            exact set13 (unhide RB4) (Nat.le_refl _) (by simp) w8 h8
          have d0 : w8.cell? ⟨w.heap.size, 0, none⟩ = some (.int .i64 m0) := (cell_of_block q8.2).trans rfl
          have d1 : w8.cell? ⟨w.heap.size, 1, none⟩ = some (.int .i64 m1) := (cell_of_block q8.2).trans rfl
          have d2 : w8.cell? ⟨w.heap.size, 2, none⟩ = some (.int .i64 m2) := (cell_of_block q8.2).trans rfl
          have d3 : w8.cell? ⟨w.heap.size, 3, none⟩ = some (.int .i64 (kk : Int)) := (cell_of_block q8.2).trans rfl
          have d4 : w8.cell? ⟨w.heap.size, 4, none⟩ = some (.int .i64 m4) := (cell_of_block q8.2).trans rfl
          have d5 : w8.cell? ⟨w.heap.size, 5, none⟩ = some (.int .i64 m5) := (cell_of_block q8.2).trans rfl
          have d6 : w8.cell? ⟨w.heap.size, 6, none⟩ = some (.int .i64 m6) := (cell_of_block q8.2).trans rfl
          have d7 : w8.cell? ⟨w.heap.size, 7, none⟩ = some (.int .i64 m7) := (cell_of_block q8.2).trans rfl
          have d8 : w8.cell? ⟨w.heap.size, 8, none⟩ = some (.bool ((y8 : Int) == 1)) := (cell_of_block q8.2).trans rfl
          have d9 : w8.cell? ⟨w.heap.size, 9, none⟩ = some (.slice ao9 n9 cap9) := (cell_of_block q8.2).trans rfl
          have d10 : w8.cell? ⟨w.heap.size, 10, none⟩ = some (.slice aoE jE capE) := (cell_of_block q8.2).trans rfl
          have d11 : w8.cell? ⟨w.heap.size, 11, none⟩ = some (.slice ao1 n1 cap1) := (cell_of_block q8.2).trans rfl
          have d12 : w8.cell? ⟨w.heap.size, 12, none⟩ = some (.slice ao2 n2 cap2) := (cell_of_block q8.2).trans rfl
          refine bodyPost_ret (v := .tuple #[.agg #[.int .i64 m0, .int .i64 m1, .int .i64 m2, .int .i64 (kk : Int), .int .i64 m4, .int .i64 m5, .int .i64 m6, .int .i64 m7, .bool ((y8 : Int) == 1), .slice ao9 n9 cap9, .slice aoE jE capE, .slice ao1 n1 cap1, .slice ao2 n2 cap2], .int .i64 0]) (by simp [results, Tryd.results25, go_sem, d0, d1, d2, d3, d4, d5, d6, d7, d8, d9, d10, d11, d12]) rfl ?_
          rw [unhide RMM]
          have e0 := unhide HR0
          have sBz := unhide HCE e0
          have ex := unhide P3 sBz
          have ec := unhide YC e0
          have el : ls = q9 := unhide HY9 (by
            have h := sBz
            by_cases hs9 : s9.2 = 0
            · exact hs9
            · exfalso
              have ht : t.2 ≠ 0 := fun hz => hs9 (rrule_er (bs := bs) (q := 6) (s := s9) (by rw [unhide HKT]; exact hz))
              have hn := rentriesN_er bs t 0 ht k
              rw [Nat.zero_add, unhide HQE] at hn
              exact ht (hn.symm.trans h))
          refine ⟨#[.int .i64 m0, .int .i64 m1, .int .i64 m2, .int .i64 (kk : Int), .int .i64 m4, .int .i64 m5, .int .i64 m6, .int .i64 m7, .bool ((y8 : Int) == 1), .slice ao9 n9 cap9, .slice aoE jE capE, .slice ao1 n1 cap1, .slice ao2 n2 cap2], by rw [unhide HER]; rfl, (unhide KB3).trans q8.1.below, fun _ => ⟨.slice ao9 n9 cap9, .slice aoE jE capE, .slice ao1 n1 cap1, .slice ao2 n2 cap2, vs, rfl, ?_⟩, fun h => absurd (unhide HER) h⟩
          rw [← ec, ← ex, ← el]
          have sW : w.heap.size ≤ W1.heap.size := (unhide BB).size
          refine ⟨?_, ?_, ?_, ?_, ?_⟩
          · simp only [unhide HN9]
            exact own_wide (own_only (unhide Q7) q8.1 (by decide)) sW
          · simp only [unhide HXL]
            exact own_wide (own_only (unhide Q1) q8.1 (by decide)) sW
          · exact ((unhide Q2).only q8.1 (by decide)).wide sW
          · simp only [unhide HN1]
            exact own_wide (own_only (unhide Q8) q8.1 (by decide)) sW
          · simp only [unhide HN2]
            exact own_wide (own_only (unhide Q9) q8.1 (by decide)) sW
        · have q1 : ((er : Int) != 0) = true := by simp; omega
          have C1 := xend_any w.heap.size p ao n cap sC w3 ((unhide GC).q.below b3)
          rw [unhide HER] at C1
          have CC1 := hide C1
          have RB4 := hide ((b3.block _ (heap_lt (unhide RBC))).trans (unhide RBC))
          have KB3 := hide ((unhide KB).trans (b3.mono (unhide KB).size))
          have HR0 := hide hr0
          clear C1 hr0 b3
          go_wp2_with fail
          refine (unhide CC1).mono ?_
          rintro r w4 ⟨rfl, d4, hd4⟩
          have b4 : Below w3.heap.size w3 w4 := by rw [hd4]; exact drewN_below w3 d4
          have RB5 := hide ((b4.block _ (heap_lt (unhide RB4))).trans (unhide RB4))
          have KB4 := hide ((unhide KB3).trans (b4.mono (unhide KB3).size))
          clear hd4 b4 CC1
          have z0 : w4.cell? ⟨w.heap.size, 0, none⟩ = some (.int .i64 0) := (cell_of_block (unhide RB5)).trans rfl
          have z1 : w4.cell? ⟨w.heap.size, 1, none⟩ = some (.int .i64 0) := (cell_of_block (unhide RB5)).trans rfl
          have z2 : w4.cell? ⟨w.heap.size, 2, none⟩ = some (.int .i64 0) := (cell_of_block (unhide RB5)).trans rfl
          have z3 : w4.cell? ⟨w.heap.size, 3, none⟩ = some (.int .i64 0) := (cell_of_block (unhide RB5)).trans rfl
          have z4 : w4.cell? ⟨w.heap.size, 4, none⟩ = some (.int .i64 0) := (cell_of_block (unhide RB5)).trans rfl
          have z5 : w4.cell? ⟨w.heap.size, 5, none⟩ = some (.int .i64 0) := (cell_of_block (unhide RB5)).trans rfl
          have z6 : w4.cell? ⟨w.heap.size, 6, none⟩ = some (.int .i64 0) := (cell_of_block (unhide RB5)).trans rfl
          have z7 : w4.cell? ⟨w.heap.size, 7, none⟩ = some (.int .i64 0) := (cell_of_block (unhide RB5)).trans rfl
          have z8 : w4.cell? ⟨w.heap.size, 8, none⟩ = some (.bool false) := (cell_of_block (unhide RB5)).trans rfl
          have z9 : w4.cell? ⟨w.heap.size, 9, none⟩ = some (.slice none 0 0) := (cell_of_block (unhide RB5)).trans rfl
          have z10 : w4.cell? ⟨w.heap.size, 10, none⟩ = some (.slice none 0 0) := (cell_of_block (unhide RB5)).trans rfl
          have z11 : w4.cell? ⟨w.heap.size, 11, none⟩ = some (.slice none 0 0) := (cell_of_block (unhide RB5)).trans rfl
          have z12 : w4.cell? ⟨w.heap.size, 12, none⟩ = some (.slice none 0 0) := (cell_of_block (unhide RB5)).trans rfl
          have fz : ∀ i, w4.frozen? ⟨w.heap.size, i, none⟩ = false := fun i => free_of_block (unhide RB5)
          go_wp2
          obtain ⟨w8, h8⟩ : ∃ w8 : World, w8 = (((((((((((((w4.setCell ⟨w.heap.size, 0, none⟩ (.int .i64 0)).setCell ⟨w.heap.size, 1, none⟩ (.int .i64 0)).setCell ⟨w.heap.size, 2, none⟩ (.int .i64 0)).setCell ⟨w.heap.size, 3, none⟩ (.int .i64 0)).setCell ⟨w.heap.size, 4, none⟩ (.int .i64 0)).setCell ⟨w.heap.size, 5, none⟩ (.int .i64 0)).setCell ⟨w.heap.size, 6, none⟩ (.int .i64 0)).setCell ⟨w.heap.size, 7, none⟩ (.int .i64 0)).setCell ⟨w.heap.size, 8, none⟩ (.bool false)).setCell ⟨w.heap.size, 9, none⟩ (.slice none 0 0)).setCell ⟨w.heap.size, 10, none⟩ (.slice none 0 0)).setCell ⟨w.heap.size, 11, none⟩ (.slice none 0 0)).setCell ⟨w.heap.size, 12, none⟩ (.slice none 0 0)) := ⟨_, rfl⟩
          rw [← h8]
          have q8 : Only w.heap.size [41] w4 w8 ∧ w8.heap[w.heap.size]? = some (.cells #[.int .i64 0, .int .i64 0, .int .i64 0, .int .i64 0, .int .i64 0, .int .i64 0, .int .i64 0, .int .i64 0, .bool false, .slice none 0 0, .slice none 0 0, .slice none 0 0, .slice none 0 0] 41 (0, 0)) := by
            exact set13 (unhide RB5) (Nat.le_refl _) (by simp) w8 h8
          have d0 : w8.cell? ⟨w.heap.size, 0, none⟩ = some (.int .i64 0) := (cell_of_block q8.2).trans rfl
          have d1 : w8.cell? ⟨w.heap.size, 1, none⟩ = some (.int .i64 0) := (cell_of_block q8.2).trans rfl
          have d2 : w8.cell? ⟨w.heap.size, 2, none⟩ = some (.int .i64 0) := (cell_of_block q8.2).trans rfl
          have d3 : w8.cell? ⟨w.heap.size, 3, none⟩ = some (.int .i64 0) := (cell_of_block q8.2).trans rfl
          have d4 : w8.cell? ⟨w.heap.size, 4, none⟩ = some (.int .i64 0) := (cell_of_block q8.2).trans rfl
          have d5 : w8.cell? ⟨w.heap.size, 5, none⟩ = some (.int .i64 0) := (cell_of_block q8.2).trans rfl
          have d6 : w8.cell? ⟨w.heap.size, 6, none⟩ = some (.int .i64 0) := (cell_of_block q8.2).trans rfl
          have d7 : w8.cell? ⟨w.heap.size, 7, none⟩ = some (.int .i64 0) := (cell_of_block q8.2).trans rfl
          have d8 : w8.cell? ⟨w.heap.size, 8, none⟩ = some (.bool false) := (cell_of_block q8.2).trans rfl
          have d9 : w8.cell? ⟨w.heap.size, 9, none⟩ = some (.slice none 0 0) := (cell_of_block q8.2).trans rfl
          have d10 : w8.cell? ⟨w.heap.size, 10, none⟩ = some (.slice none 0 0) := (cell_of_block q8.2).trans rfl
          have d11 : w8.cell? ⟨w.heap.size, 11, none⟩ = some (.slice none 0 0) := (cell_of_block q8.2).trans rfl
          have d12 : w8.cell? ⟨w.heap.size, 12, none⟩ = some (.slice none 0 0) := (cell_of_block q8.2).trans rfl
          refine bodyPost_ret (v := .tuple #[.agg #[.int .i64 0, .int .i64 0, .int .i64 0, .int .i64 0, .int .i64 0, .int .i64 0, .int .i64 0, .int .i64 0, .bool false, .slice none 0 0, .slice none 0 0, .slice none 0 0, .slice none 0 0], .int .i64 (er : Int)]) (by simp [results, Tryd.results25, go_sem, d0, d1, d2, d3, d4, d5, d6, d7, d8, d9, d10, d11, d12]) rfl ?_
          rw [unhide RMM, unhide HER]
          exact ⟨_, rfl, (unhide KB4).trans q8.1.below, fun h => absurd h (unhide HR0), fun _ => rfl⟩
end Go.Proofs.YtojmnlbdhpledaaDoor
