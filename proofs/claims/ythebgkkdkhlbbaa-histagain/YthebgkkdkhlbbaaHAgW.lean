/- HistAgain: the walk. -/
import Derived.Test.YthebgkkdkhlbbaaHAgB
import Derived.Test.YthebgkkdkhlbbaaHSame
import Derived.Test.YthebgkkdkhlbbaaHFrom2
import Derived.Deep.RegionHeld3
import Derived.Deep.DrawnRows
import Derived.Deep.DeepCutAuto
import Derived.Deep.CutBlock
namespace Go.Proofs.Ythebgkkdkhlbbaa
open Go.RowKit Go.Maps
attribute [local go_sem ↓] Go.wp_at_zero Go.wp_at_succ

theorem calls_one {w : World} {c : HC} {at' ae : Option Addr} {ct ce : Nat} (h : CallIs w c at' ct ae ce) : CallsR (w.alloc (boxC c.put c.index c.term (.slice at' c.terms.length ct) (.slice ae c.es.length ce))) (some ⟨w.heap.size, 0, none⟩) [c] := fun i x hi => by
  have hi0 : i = 0 := by have := (List.getElem?_eq_some_iff.1 hi).1; simp at this; exact this
  subst hi0
  simp only [List.getElem?_cons_zero, Option.some.injEq] at hi
  subst hi
  refine ⟨w.heap.size, 0, at', ae, ct, ce, rfl, fun j u hj => ?_, h.below ((Below.refl _ w).alloc (Nat.le_refl _) _)⟩
  rw [cell_of_block (box_at w _), ← Array.getElem?_toList]
  simp only [Nat.zero_mul, Nat.zero_add, Nat.add_zero]
  exact hj

set_option maxRecDepth 1000000 in
set_option maxHeartbeats 16000000 in
theorem again_walk (ao : Option Addr) (n cap : Nat) (cs : List HC) (hn : cs.length = n) (hn6 : n ≤ maxLen) (c : HC) (at' ae : Option Addr) (ct ce : Nat) (front : Int) (w : World) (hc : CallsR w ao cs) (hi : CallIs w c at' ct ae ce) :
    Calls Try.prog 4 #[.slice ao n cap, .agg #[.bool c.put, .int .i64 c.index, .int .i64 c.term, .slice at' c.terms.length ct, .slice ae c.es.length ce], .int .i64 front] w fun e w' => e = .returned (.bool true) ∧ Below w.heap.size w w' := by
  obtain ⟨W0, hW0⟩ : ∃ W0, w.alloc (boxC c.put c.index c.term (.slice at' c.terms.length ct) (.slice ae c.es.length ce)) = W0 := ⟨_, rfl⟩
  have b0 : Below w.heap.size w W0 := by rw [← hW0]; exact (Below.refl _ w).alloc (Nat.le_refl _) _
  have x0 : W0.heap[w.heap.size]? = some (boxC c.put c.index c.term (.slice at' c.terms.length ct) (.slice ae c.es.length ce)) := by rw [← hW0]; exact box_at _ _
  obtain ⟨base, hbase⟩ : ∃ base, w.heap.size = base := ⟨_, rfl⟩
  rw [hbase] at x0
  have KN := hide (hknown_any W0)
  have FE := hide (fun Y (h : Below w.heap.size w Y) => few_any ao n cap cs hn hn6 Y (hc.below h))
  have HC' := hide hc
  have HI := hide hi
  have HN := hide hn
  have B0 := hide b0
  have X0 := hide x0
  have HW0 := hide hW0
  have HBS := hide hbase
  clear hc hi hn hn6 b0 x0 hW0
  go_enter Try.func4, Try.ntmps4
  go_wp2_with fail
  rw [show w.alloc (.cells #[.bool c.put, .int .i64 c.index, .int .i64 c.term, .slice at' c.terms.length ct, .slice ae c.es.length ce] 37) = W0 from unhide HW0]
  refine (unhide KN).mono ?_
  rintro e w1 ⟨rfl, b1⟩
  have B1 := hide (below_far (unhide B0) b1)
  have X1 := hide (Below.stay b1 (unhide X0))
  have F1 := hide (unhide FE _ (unhide B1))
  clear b1 KN FE X0 B0 HW0
  go_wp2_with fail
  refine (unhide F1).mono ?_
  rintro e w2 ⟨⟨r, rfl, hr⟩, b2⟩
  have B2 := hide (below_far (unhide B1) b2)
  have x2 := Below.stay b2 (unhide X1)
  have HR := hide hr
  clear b2 F1 hr
  cases r
  · clear x2
    go_wp2
    go_ret
    exact ⟨rfl, unhide B2⟩
  · obtain ⟨hn60, hfew⟩ := unhide HR rfl
    rw [unhide HN] at hn60
    have HFEW := hide hfew
    obtain ⟨c0, c1, c2, c3, c4⟩ := five_cells x2
    obtain ⟨W3, hW3⟩ : ∃ W3, w2.alloc (boxC c.put c.index c.term (.slice at' c.terms.length ct) (.slice ae c.es.length ce)) = W3 := ⟨_, rfl⟩
    have b3 : Below w2.heap.size w2 W3 := by rw [← hW3]; exact (Below.refl _ w2).alloc (Nat.le_refl _) _
    have F2 := hide (few_any (some ⟨w2.heap.size, 0, none⟩) 1 1 [c] rfl (by decide) W3 (by rw [← hW3]; exact calls_one ((unhide HI).below (unhide B2))))
    have B3 := hide (below_far (unhide B2) b3)
    have X3 := hide (Below.stay b3 x2)
    have HW3 := hide hW3
    clear HR hfew x2 hW3 b3 X1 B1
    go_wp2_with fail
    rw [show w2.alloc (.cells #[.bool c.put, .int .i64 c.index, .int .i64 c.term, .slice at' c.terms.length ct, .slice ae c.es.length ce] 37) = W3 from unhide HW3]
    refine (unhide F2).mono ?_
    rintro e w4 ⟨⟨r, rfl, hr⟩, b4⟩
    have B4 := hide (below_far (unhide B3) b4)
    have X4 := hide (Below.stay b4 (unhide X3))
    have HR := hide hr
    clear b4 F2 hr HW3 c0 c1 c2 c3 c4 X3 B3
    cases r
    · go_wp2
      go_ret
      exact ⟨rfl, unhide B4⟩
    · have hcf := (unhide HR rfl).2 c (by simp)
      have hct := hcf.t
      have hce := hcf.n
      have hcm := hide hcf.m
      have NW := hide (hnew_any 0 w4)
      clear HR hcf
      go_wp2_with fail
      refine (unhide NW).mono ?_
      rintro e w5 ⟨rfl, h5, b5⟩
      obtain ⟨ph, hph⟩ : ∃ ph, w4.heap.size = ph := ⟨_, rfl⟩
      rw [hph] at h5
      rw [hph]
      obtain ⟨W6, hW6⟩ : ∃ W6, w5.alloc (.cells #[.int .i64 0, .slice none 0 0, .slice none 0 0] 32) = W6 := ⟨_, rfl⟩
      have b6 : Below w5.heap.size w5 W6 := by rw [← hW6]; exact (Below.refl _ w5).alloc (Nat.le_refl _) _
      have x6 : W6.heap[w5.heap.size]? = some (.cells #[.int .i64 0, .slice none 0 0, .slice none 0 0] 32 (0, 0)) := by rw [← hW6]; exact box_at _ _
      obtain ⟨px, hpx⟩ : ∃ px, w5.heap.size = px := ⟨_, rfl⟩
      have hl5 := h5.lt ph rfl
      have hx4 := heap_lt (unhide X4)
      have sB4 := (unhide B4).size
      have AG6 : Hid (Ag base w W6 ph px [] [] (fun k => k = ph) (fun k => k = px) (fun k => k = base)) := by
        have hb45 := unhide HBS
        refine ⟨h5.below b6, ⟨⟨_, _, by rw [← hpx]; exact x6, Ir.nil 0 W6, XRow.nil base W6, fun k hk => by simp [Value.ownBlock] at hk, fun k hk => by simp [Value.ownBlock] at hk⟩, rfl, fun k hk => by rw [hk, ← hpx]; exact heap_lt x6, fun k hk => by rw [hk]; omega⟩, fun k hk => by rw [hk]; omega, fun k (hk : k = ph) (x : k = px) => by omega, by simp, by simp, ?_, ?_, fun k (hk : k = base) => ⟨fun (x : k = ph) => by omega, fun (x : k = px) => by omega⟩, fun k hk => ?_⟩
        · rw [← hb45]; exact below_far (below_far (unhide B4) b5) b6
        · have := b6.size; omega
        · have := heap_lt (unhide X4); have := b5.size; have := b6.size; rw [hk]; omega
      have X6 : Hid (W6.heap[base]? = some (boxC c.put c.index c.term (.slice at' c.terms.length ct) (.slice ae c.es.length ce))) := by
        exact Below.stay b6 (Below.stay b5 (unhide X4))
      have HW6 := hide hW6
      have HPX := hide hpx
      clear h5 b5 b6 x6 hW6 hpx hph hl5 hx4 sB4 X4 NW
      go_wp2_with fail
      rw [unhide HW6, unhide HPX]
      clear HW6 HPX
      go_loopw [9, 10] (fun iv _ wr => ∃ (k : Nat) (rs rx : List Rw) (Dh Dx : Nat → Prop), k ≤ n ∧ iv = .int .i64 (k : Int) ∧ Ag base w wr ph px rs rx Dh Dx (fun k => k = base) ∧ wr.heap[base]? = some (boxC c.put c.index c.term (.slice at' c.terms.length ct) (.slice ae c.es.length ce))) (fun iv _ _ => n - (intOf iv).toNat)
      case atStart => exact ⟨0, [], [], _, _, Nat.zero_le _, rfl, unhide AG6, unhide X6⟩
      case round =>
        clear AG6 X6
        obtain ⟨k, rs, rx, Dh, Dx, hk, rfl, hag, hbx⟩ := hrel
        have AG := hide hag
        have BX0 := hide hbx
        clear hag hbx
        by_cases hlt : k < n
        · have qk : (k : Int) < (n : Int) := by omega
          obtain ⟨ck, hck⟩ : ∃ ck, cs[k]? = some ck := ⟨_, List.getElem?_eq_getElem (by rw [unhide HN]; exact hlt)⟩
          have fk := unhide HFEW ck (List.mem_of_getElem? hck)
          obtain ⟨gk, ok, ak, ek, tk, uk, rfl, d0, d1, d2, d3, d4, cik⟩ := (unhide HC').at hck
          have blw := (unhide AG).bl
          rw [← unhide HBS] at blw
          have m0 := (blw.cell (blk_lt d0)).trans d0
          have m1 := (blw.cell (blk_lt d1)).trans d1
          have m2 := (blw.cell (blk_lt d2)).trans d2
          have m3 := (blw.cell (blk_lt d3)).trans d3
          have m4 := (blw.cell (blk_lt d4)).trans d4
          have CIK := hide cik
          have fk1 := fk.t
          have fk2 := fk.n
          have FKM := hide fk.m
          obtain ⟨tsk, htsk⟩ : ∃ tsk, ck.terms = tsk := ⟨_, rfl⟩
          obtain ⟨esk, hesk⟩ : ∃ esk, ck.es = esk := ⟨_, rfl⟩
          obtain ⟨mk, hmk⟩ : ∃ mk, ck.terms.length = mk := ⟨_, rfl⟩
          obtain ⟨nk, hnk⟩ : ∃ nk, ck.es.length = nk := ⟨_, rfl⟩
          rw [hmk] at m3 fk1
          rw [hnk] at m4 fk2
          obtain ⟨Y1, hY1⟩ : ∃ Y1, wr.alloc (boxC ck.put ck.index ck.term (.slice ak mk tk) (.slice ek nk uk)) = Y1 := ⟨_, rfl⟩
          have bY1 : Below wr.heap.size wr Y1 := by rw [← hY1]; exact (Below.refl _ wr).alloc (Nat.le_refl _) _
          have BXC : Hid (Y1.heap[wr.heap.size]? = some (boxC ck.put ck.index ck.term (.slice ak mk tk) (.slice ek nk uk))) := by show _ = _; rw [← hY1]; exact box_at _ _
          obtain ⟨Bk, hBk⟩ : ∃ Bk, wr.heap.size = Bk := ⟨_, rfl⟩
          have AGo := hide (((unhide AG).below bY1).more (P := fun j => j = base ∨ j = Bk) (fun j hj => by
            rcases hj with y | y
            · exact Or.inl y
            · refine Or.inr ⟨fun x => ?_, fun x => ?_, ?_⟩
              · have := (unhide AG).hs.lt j x; omega
              · have := (unhide AG).xs.lt j x; omega
              · rw [y, ← hBk]; exact heap_lt (unhide BXC)))
          rw [hBk] at BXC
          have BXL := BXC
          have HBB : Hid (base ≤ Bk) := by have := (unhide AG).sz; show _ ≤ _; omega
          have QB : Hid (∀ j, j = Bk → (j = base ∨ j = Bk)) := fun j hj => Or.inr hj
          have BXB := hide (Below.stay bY1 (unhide BX0))
          have HY1 := hide hY1
          have HBK := hide hBk
          have NEB : Hid (base ≠ Bk) := by have := (unhide AG).ql base rfl; show _ ≠ _; omega
          clear AG BX0
          have AG := AGo
          have hmk' := hmk
          have HNK := hide hnk
          clear AGo blw d0 d1 d2 d3 d4 cik fk hck bY1 hY1 hBk htsk hesk hnk
          go_upto_region 10 with fail
          rw [show wr.alloc (.cells #[.bool ck.put, .int .i64 ck.index, .int .i64 ck.term, .slice ak mk tk, .slice ek nk uk] 37) = Y1 from unhide HY1, unhide HBK]
          clear HY1 m0 m1 m2 m3 m4
          obtain ⟨Y2, hY2⟩ : ∃ Y2, Y1.alloc (.cells #[] 3) = Y2 := ⟨_, rfl⟩
          have bY2 : Below Y1.heap.size Y1 Y2 := by rw [← hY2]; exact (Below.refl _ Y1).alloc (Nat.le_refl _) _
          have oY2 : Ir Y1.heap.size Y2 (.slice (some ⟨Y1.heap.size, 0, none⟩) 0 0) [] := by rw [← hY2]; exact empty_ints Y1
          have tY2 : IntsR Y2 ak ck.terms := ((unhide CIK).t.below (show Below w.heap.size w Y1 by rw [hbase]; exact (unhide AG).bl)).below bY2
          obtain ⟨c0, c1, c2, c3, c4⟩ := five_cells (Below.stay bY2 (unhide BXC))
          have c3a : (Y1.alloc (.cells #[] 3)).cell? ⟨Bk, 3, none⟩ = some (.slice ak mk tk) := by rw [hY2]; exact c3
          have HY2 := hide hY2
          have BY2 := hide bY2
          have OY2 := hide oY2
          have TY2 := hide tY2
          have sY2 : Y1.heap.size ≤ Y2.heap.size := bY2.size
          have mm6 : ([] : List Int).length + mk ≤ 1000000000 := by show 0 + mk ≤ _; omega
          clear hY2 bY2 oY2 tY2
          go_upto_region 10 with fail
          skip
          go_wp2_with (rw [unhide HY2]; refine wpList_app rfl (.tmp 46) (.tmp 48) rfl Y1.heap.size (.slice (some ⟨Y1.heap.size, 0, none⟩) 0 0) [] rfl (unhide OY2) ak mk tk ck.terms rfl hmk' (unhide TY2) mm6 sY2 ?_)
          intro v3 z3 hI3 hg3
          try rw [List.nil_append] at hI3
          have bz3 : Below Y1.heap.size Y1 z3 := (unhide BY2).grown hg3 sY2 (fun k hk => by simp [Value.ownBlock] at hk; omega)
          obtain ⟨a3, c3', rfl, -, hcc3, -⟩ := hI3.slice
          rw [hmk'] at hI3 hcc3 ⊢
          have q3 := Below.stay bz3 (unhide BXC)
          have e3 := (five_cells q3).2.2.2.1
          have g3 : z3.frozen? ⟨Bk, 3, none⟩ = false := free_of_block q3
          obtain ⟨y4, hy4⟩ : ∃ y4, z3.setCell ⟨Bk, 3, none⟩ (.slice a3 mk c3') = y4 := ⟨_, rfl⟩
          have q4 : y4.heap[Bk]? = some (boxC ck.put ck.index ck.term (.slice a3 mk c3') (.slice ek nk uk)) := by rw [← hy4]; exact setCell_block q3
          have hB : base ≤ Bk := unhide HBB
          have i4 : Ir Y1.heap.size y4 (.slice a3 mk c3') ck.terms := hI3.other (B := Bk) (fun k hk => by rw [← hy4]; exact Below.heap_setCell _ _ _ k hk) q3 (by decide)
          have k4 : Kp (fun k => k = Bk) z3 y4 := by rw [← hy4]; exact Kp.setCell (D := fun k => k = Bk) (p := ⟨Bk, 3, none⟩) (Kp.refl _ z3) rfl _
          have ag3 := (unhide AG).below bz3
          have kp4 := hide ((Kp.of_below (D := fun k => k = Bk) bz3).trans k4 (fun _ _ x => x))
          have ag4 := ag3.own k4 (fun k hk => unhide QB k hk) (fun k hk => by rw [hk]; exact hB)
          have own4 : ∀ k, (Value.slice a3 mk c3').ownBlock = some k → Y1.heap.size ≤ k ∧ k < y4.heap.size := fun k hk => i4.lt k hk
          have szy := (unhide AG).sz
          obtain ⟨f0, f1, f2, f3, f4⟩ := five_cells q4
          have NE := hide (near_any (b2 := Y1.heap.size) ag4.xs ag4.fitx ck.put ck.index ck.term a3 mk c3' ck.terms hmk' (by omega) i4 (fun k hk x => by have := (own4 k hk).1; have := (unhide AG).xs.lt k x; omega) (fun k hk => by have := (own4 k hk).1; omega) ek nk uk (by omega) (by have := (unhide CIK).e1; rwa [unhide HNK] at this) (unhide CIK).e2)
          have HY4 := hide hy4
          have Q4 := hide q4
          have AG4 := hide ag4
          have OWN4 := hide own4
          have HB4 := hide hB
          clear hI3 hg3 bz3 q3 q4 i4 k4 ag3 ag4 own4 hy4 hB hcc3 OY2 TY2 BY2 HY2 sY2 c0 c1 c2 c3 c3a c4 BXC
          go_upto_region 11 with fail
          rw [unhide HY4]
          clear HY4 e3 g3
          go_wp2_with fail
          refine (unhide NE).mono ?_
          rintro e z5 ⟨i5, t5, ts5, rfl, l5, ir5, k5⟩
          have nB : ¬ (Value.slice a3 mk c3').ownBlock = some Bk := fun x => by have := (unhide OWN4 _ x).1; have := heap_lt (unhide BXL); omega
          have q5 : z5.heap[Bk]? = some (boxC ck.put ck.index ck.term (.slice a3 mk c3') (.slice ek nk uk)) := k5.block (unhide Q4) nB
          obtain ⟨h0, h1, h2, h3, h4⟩ := five_cells q5
          have kf : ∀ j, z5.frozen? ⟨Bk, j, none⟩ = false := fun j => free_of_block q5
          have kf0 := kf 0
          have kf1 := kf 1
          have kf2 := kf 2
          have kf3 := kf 3
          have kf4 := kf 4
          obtain ⟨K, hK⟩ : ∃ K, min mk nk = K := ⟨_, rfl⟩
          rw [hK]
          have hKm : K ≤ mk ∧ K ≤ nk := by omega
          obtain ⟨y5, hy5⟩ : ∃ y5, five z5 Bk (.bool ck.put) (.int .i64 i5) (.int .i64 t5) (.slice a3 K c3') (.slice ek K uk) = y5 := ⟨_, rfl⟩
          have k6 : Kp (fun k => k = Bk) z5 y5 := by rw [← hy5]; exact five_kp _ _ _ _ _
          have bx5 : Bx w y5 Bk Y1.heap.size ck.put i5 t5 a3 mk c3' K ts5 ek uk := ⟨by rw [← hy5]; exact five_box q5 _ _ _ _ _, ir5.kp k6 (fun k hk x => nB (by rw [← x]; exact hk)), l5, hKm.1⟩
          have ag5 := ((unhide AG4).kp k5 (fun k hk x => by have := (unhide OWN4 k hk).1; have := (unhide AG).hs.lt k x; omega) (fun k hk x => by have := (unhide OWN4 k hk).1; have := (unhide AG).xs.lt k x; omega) (fun k hk => by have := (unhide OWN4 k hk).1; omega)).own k6 (fun k hk => unhide QB k hk) (fun k hk => by rw [hk]; exact unhide HB4)
          have ag6 : Ag base w y5 ph px rs rx Dh Dx (fun j => j = base ∨ j = Bk ∨ (Value.slice a3 mk c3').ownBlock = some j) := ag5.more (fun j hj => by
            rcases hj with y | y | y
            · exact Or.inl (Or.inl y)
            · exact Or.inl (Or.inr y)
            · refine Or.inr ⟨fun x => ?_, fun x => ?_, ?_⟩
              · have := (unhide OWN4 j y).1; have := (unhide AG).hs.lt j x; omega
              · have := (unhide OWN4 j y).1; have := (unhide AG).xs.lt j x; omega
              · exact (bx5.t.lt j y).2)
          have KP5 := hide (((unhide kp4).trans k5 (fun j hj x => absurd hj (by have := (unhide OWN4 j x).1; omega))).trans k6 (fun _ _ x => x))
          have HY5 := hide hy5
          have BX5 := hide bx5
          have AG5 := hide ag6
          have KM := hide hKm
          clear NE kp4 q5 nB kf k5 k6 bx5 ag5 ag6 ir5 l5 Q4 AG4 hy5 hK f0 f1 f2 f3 f4 AG HB4
          unfold five at HY5
          go_upto_region 12 with fail
          rw [unhide HY5]
          clear HY5 h0 h1 h2 h3 h4 kf0 kf1 kf2 kf3 kf4
          obtain ⟨p0, p1, p2, p3, p4⟩ := five_cells (unhide BX5).c
          have hF1 : ∀ j, (j < base ∨ (Value.slice a3 mk c3').ownBlock = some j) → ¬ Dh j := fun j hj x => by
            rcases hj with y | y
            · have := (unhide AG5).dh j x; omega
            · exact ((unhide AG5).fr j (Or.inr (Or.inr y))).1 x
          have ents := ents_for (wr := y5) (unhide CIK).e (unhide FKM) (show Below w.heap.size w y5 by rw [hbase]; exact (unhide AG5).bl) K (fun j => j < base ∨ (Value.slice a3 mk c3').ownBlock = some j) (fun j hj => Or.inl (by omega))
          rw [hbase] at ents
          have lt5 : (ts5.take K).length = K := by rw [List.length_take, (unhide BX5).l]; exact Nat.min_eq_left (unhide KM).1
          have le5 : (ck.es.take K).length = K := by rw [List.length_take, unhide HNK]; exact Nat.min_eq_left (unhide KM).2
          have trm := (unhide BX5).terms K (fun j => j < base ∨ (Value.slice a3 mk c3').ownBlock = some j) (fun j hj => Or.inr hj)
          have k80 : K ≤ 80 := by have := (unhide KM).1; omega
          have HP := hide (put_any (unhide AG5).hs (unhide AG5).fith (by have := (unhide AG5).lh; omega) i5 t5 a3 K c3' (ts5.take K) lt5 (by omega) trm ek K uk (ck.es.take K) le5 (by omega) ents.1 hF1)
          have b5x : Hid (y5.heap[base]? = some (boxC c.put c.index c.term (.slice at' c.terms.length ct) (.slice ae c.es.length ce))) := (unhide KP5).block (unhide BXB) (unhide NEB)
          have TRM := hide trm
          have ENT := hide ents.2
          have HF1 := hide hF1
          clear trm ents hF1
          go_wp2_with fail
          refine (unhide HP).mono ?_
          rintro e y6 ⟨rfl, h6, k6⟩
          have ag6 := (unhide AG5).hput h6 k6 (putRows_le (unhide AG5).lh)
          have bx6 := (unhide BX5).kp k6 ((unhide AG5).fr Bk (Or.inr (Or.inl rfl))).1 (fun j hj => ((unhide AG5).fr j (Or.inr (Or.inr hj))).1)
          have b6x := k6.block (unhide b5x) ((unhide AG5).fr base (Or.inl rfl)).1
          obtain ⟨r0, r1, r2, r3, r4⟩ := five_cells bx6.c
          have hFx : ∀ j, (j < base ∨ (Value.slice a3 mk c3').ownBlock = some j) → ¬ Dx j := fun j hj x => by
            rcases hj with y | y
            · have := ag6.xs.low j x; omega
            · exact (ag6.fr j (Or.inr (Or.inr y))).2 x
          have hFl : ∀ j, (j < base ∨ (Value.slice a3 mk c3').ownBlock = some j) → j < y6.heap.size := fun j hj => by
            rcases hj with y | y
            · have := ag6.sz; omega
            · exact (bx6.t.lt j y).2
          have XP := hide (xput_any ag6.xs ag6.fitx (by have := ag6.lx; omega) i5 t5 a3 K c3' (ts5.take K) lt5 (by omega) ((unhide TRM).kp k6 (unhide HF1)) ek K uk (ck.es.take K) le5 (by omega) ((unhide ENT).kp k6 (unhide HF1) (unhide AG5).dh) hFx hFl ag6.sz)
          have AG6' := hide ag6
          have B6X := hide b6x
          clear h6 k6 ag6 bx6 b6x HP TRM ENT HF1 hFx hFl p0 p1 p2 p3 p4
          go_wp2_with fail
          refine (unhide XP).mono ?_
          rintro e y7 ⟨rfl, x7, k7⟩
          have FIN := hide (And.intro (((unhide AG6').xput x7 k7 (putRows_le (unhide AG6').lx)).more (P := fun j => j = base) (fun j hj => Or.inl (Or.inl hj))) (k7.block (unhide B6X) ((unhide AG6').fr base (Or.inl rfl)).2))
          clear x7 k7 XP r0 r1 r2 r3 r4
          go_wp2
          go_roundw
          case rel => exact ⟨k + 1, _, _, _, _, by omega, by go_num, unhide FIN⟩
          case measure => simp [intOf]; omega
        · obtain rfl : k = n := by omega
          obtain ⟨mc, hmc⟩ : ∃ mc, c.terms.length = mc := ⟨_, rfl⟩
          obtain ⟨nc, hnc⟩ : ∃ nc, c.es.length = nc := ⟨_, rfl⟩
          rw [hmc] at BX0 hct
          rw [hnc] at BX0 hce
          have BXC := BX0
          have BXL := BX0
          have HBB : Hid (base ≤ base) := Nat.le_refl _
          have QB : Hid (∀ j, j = base → j = base) := fun j hj => hj
          have HNK := hide hnc
          have qk : ¬ (k : Int) < (k : Int) := by omega
          clear hnc BX0
          obtain ⟨Y2, hY2⟩ : ∃ Y2, wr.alloc (.cells #[] 3) = Y2 := ⟨_, rfl⟩
          have bY2 : Below wr.heap.size wr Y2 := by rw [← hY2]; exact (Below.refl _ wr).alloc (Nat.le_refl _) _
          have oY2 : Ir wr.heap.size Y2 (.slice (some ⟨wr.heap.size, 0, none⟩) 0 0) [] := by rw [← hY2]; exact empty_ints wr
          have tY2 : IntsR Y2 at' c.terms := ((unhide HI).t.below (show Below w.heap.size w wr by rw [hbase]; exact (unhide AG).bl)).below bY2
          obtain ⟨c0, c1, c2, c3, c4⟩ := five_cells (Below.stay bY2 (unhide BXC))
          have c3a : (wr.alloc (.cells #[] 3)).cell? ⟨base, 3, none⟩ = some (.slice at' mc ct) := by rw [hY2]; exact c3
          have HY2 := hide hY2
          have BY2 := hide bY2
          have OY2 := hide oY2
          have TY2 := hide tY2
          have sY2 : wr.heap.size ≤ Y2.heap.size := bY2.size
          have mm6 : ([] : List Int).length + mc ≤ 1000000000 := by show 0 + mc ≤ _; omega
          clear hY2 bY2 oY2 tY2
          go_upto_region 14 with fail
          skip
          go_wp2_with (rw [unhide HY2]; refine wpList_app rfl (.tmp 74) (.tmp 76) rfl wr.heap.size (.slice (some ⟨wr.heap.size, 0, none⟩) 0 0) [] rfl (unhide OY2) at' mc ct c.terms rfl hmc (unhide TY2) mm6 sY2 ?_)
          intro v3 z3 hI3 hg3
          try rw [List.nil_append] at hI3
          have bz3 : Below wr.heap.size wr z3 := (unhide BY2).grown hg3 sY2 (fun k hk => by simp [Value.ownBlock] at hk; omega)
          obtain ⟨a3, c3', rfl, -, hcc3, -⟩ := hI3.slice
          rw [hmc] at hI3 hcc3 ⊢
          have q3 := Below.stay bz3 (unhide BXC)
          have e3 := (five_cells q3).2.2.2.1
          have g3 : z3.frozen? ⟨base, 3, none⟩ = false := free_of_block q3
          obtain ⟨y4, hy4⟩ : ∃ y4, z3.setCell ⟨base, 3, none⟩ (.slice a3 mc c3') = y4 := ⟨_, rfl⟩
          have q4 : y4.heap[base]? = some (boxC c.put c.index c.term (.slice a3 mc c3') (.slice ae nc ce)) := by rw [← hy4]; exact setCell_block q3
          have hB : base ≤ base := unhide HBB
          have i4 : Ir wr.heap.size y4 (.slice a3 mc c3') c.terms := hI3.other (B := base) (fun k hk => by rw [← hy4]; exact Below.heap_setCell _ _ _ k hk) q3 (by decide)
          have k4 : Kp (fun k => k = base) z3 y4 := by rw [← hy4]; exact Kp.setCell (D := fun k => k = base) (p := ⟨base, 3, none⟩) (Kp.refl _ z3) rfl _
          have ag3 := (unhide AG).below bz3
          have kp4 := hide ((Kp.of_below (D := fun k => k = base) bz3).trans k4 (fun _ _ x => x))
          have ag4 := ag3.own k4 (fun k hk => unhide QB k hk) (fun k hk => by rw [hk]; exact hB)
          have own4 : ∀ k, (Value.slice a3 mc c3').ownBlock = some k → wr.heap.size ≤ k ∧ k < y4.heap.size := fun k hk => i4.lt k hk
          have szy := (unhide AG).sz
          obtain ⟨f0, f1, f2, f3, f4⟩ := five_cells q4
          have NE := hide (near_any (b2 := wr.heap.size) ag4.xs ag4.fitx c.put c.index c.term a3 mc c3' c.terms hmc (by omega) i4 (fun k hk x => by have := (own4 k hk).1; have := (unhide AG).xs.lt k x; omega) (fun k hk => by have := (own4 k hk).1; omega) ae nc ce (by omega) (by have := (unhide HI).e1; rwa [unhide HNK] at this) (unhide HI).e2)
          have HY4 := hide hy4
          have Q4 := hide q4
          have AG4 := hide ag4
          have OWN4 := hide own4
          have HB4 := hide hB
          clear hI3 hg3 bz3 q3 q4 i4 k4 ag3 ag4 own4 hy4 hB hcc3 OY2 TY2 BY2 HY2 sY2 c0 c1 c2 c3 c3a c4 BXC
          go_upto_region 15 with fail
          rw [unhide HY4]
          clear HY4 e3 g3
          go_wp2_with fail
          refine (unhide NE).mono ?_
          rintro e z5 ⟨i5, t5, ts5, rfl, l5, ir5, k5⟩
          have nB : ¬ (Value.slice a3 mc c3').ownBlock = some base := fun x => by have := (unhide OWN4 _ x).1; have := heap_lt (unhide BXL); omega
          have q5 : z5.heap[base]? = some (boxC c.put c.index c.term (.slice a3 mc c3') (.slice ae nc ce)) := k5.block (unhide Q4) nB
          obtain ⟨h0, h1, h2, h3, h4⟩ := five_cells q5
          have kf : ∀ j, z5.frozen? ⟨base, j, none⟩ = false := fun j => free_of_block q5
          have kf0 := kf 0
          have kf1 := kf 1
          have kf2 := kf 2
          have kf3 := kf 3
          have kf4 := kf 4
          obtain ⟨K, hK⟩ : ∃ K, min mc nc = K := ⟨_, rfl⟩
          rw [hK]
          have hKm : K ≤ mc ∧ K ≤ nc := by omega
          obtain ⟨y5, hy5⟩ : ∃ y5, five z5 base (.bool c.put) (.int .i64 i5) (.int .i64 t5) (.slice a3 K c3') (.slice ae K ce) = y5 := ⟨_, rfl⟩
          have k6 : Kp (fun k => k = base) z5 y5 := by rw [← hy5]; exact five_kp _ _ _ _ _
          have bx5 : Bx w y5 base wr.heap.size c.put i5 t5 a3 mc c3' K ts5 ae ce := ⟨by rw [← hy5]; exact five_box q5 _ _ _ _ _, ir5.kp k6 (fun k hk x => nB (by rw [← x]; exact hk)), l5, hKm.1⟩
          have ag5 := ((unhide AG4).kp k5 (fun k hk x => by have := (unhide OWN4 k hk).1; have := (unhide AG).hs.lt k x; omega) (fun k hk x => by have := (unhide OWN4 k hk).1; have := (unhide AG).xs.lt k x; omega) (fun k hk => by have := (unhide OWN4 k hk).1; omega)).own k6 (fun k hk => unhide QB k hk) (fun k hk => by rw [hk]; exact unhide HB4)
          have ag6 : Ag base w y5 ph px rs rx Dh Dx (fun j => j = base ∨ (Value.slice a3 mc c3').ownBlock = some j) := ag5.more (fun j hj => by
            rcases hj with y | y
            · exact Or.inl y
            · refine Or.inr ⟨fun x => ?_, fun x => ?_, ?_⟩
              · have := (unhide OWN4 j y).1; have := (unhide AG).hs.lt j x; omega
              · have := (unhide OWN4 j y).1; have := (unhide AG).xs.lt j x; omega
              · exact (bx5.t.lt j y).2)
          have KP5 := hide (((unhide kp4).trans k5 (fun j hj x => absurd hj (by have := (unhide OWN4 j x).1; omega))).trans k6 (fun _ _ x => x))
          have HY5 := hide hy5
          have BX5 := hide bx5
          have AG5 := hide ag6
          have KM := hide hKm
          clear NE kp4 q5 nB kf k5 k6 bx5 ag5 ag6 ir5 l5 Q4 AG4 hy5 hK f0 f1 f2 f3 f4 AG HB4
          unfold five at HY5
          go_upto_region 16 with fail
          rw [unhide HY5]
          clear HY5 h0 h1 h2 h3 h4 kf0 kf1 kf2 kf3 kf4
          obtain ⟨p0, p1, p2, p3, p4⟩ := five_cells (unhide BX5).c
          have hF1 : ∀ j, (j < base ∨ (Value.slice a3 mc c3').ownBlock = some j) → ¬ Dh j := fun j hj x => by
            rcases hj with y | y
            · have := (unhide AG5).dh j x; omega
            · exact ((unhide AG5).fr j (Or.inr y)).1 x
          have ENS := hide (fun (Y : World) (hY : Below base w Y) (J : Nat) => (ents_for (wr := Y) (unhide HI).e (unhide hcm) (show Below w.heap.size w Y by rw [hbase]; exact hY) J (fun j => j < base ∨ (Value.slice a3 mc c3').ownBlock = some j) (fun j hj => Or.inl (by omega))).1)
          have LT5 : Hid (∀ J, J ≤ K → (ts5.take J).length = J) := fun J hJ => by rw [List.length_take, (unhide BX5).l]; have := (unhide KM).1; omega
          have LE5 : Hid (∀ J, J ≤ K → (c.es.take J).length = J) := fun J hJ => by rw [List.length_take, unhide HNK]; have := (unhide KM).2; omega
          have k80 : K ≤ 80 := by have := (unhide KM).1; omega
          have HP := hide (put_any (unhide AG5).hs (unhide AG5).fith (by have := (unhide AG5).lh; omega) i5 t5 a3 K c3' (ts5.take K) (unhide LT5 K (Nat.le_refl _)) (by omega) ((unhide BX5).terms K _ (fun j hj => Or.inr hj)) ae K ce (c.es.take K) (unhide LE5 K (Nat.le_refl _)) (by omega) (unhide ENS y5 (unhide AG5).bl K) hF1)
          obtain ⟨N0, hN0⟩ : ∃ N0, putNo 0 rs i5 t5 (ts5.take K) K = N0 := ⟨_, rfl⟩
          obtain ⟨PN, hPN⟩ : ∃ PN, putN 0 rs i5 t5 (ts5.take K) K = PN := ⟨_, rfl⟩
          obtain ⟨R, hR⟩ : ∃ R, putRows 0 rs i5 t5 (ts5.take K) (c.es.take K) = R := ⟨_, rfl⟩
          have hRl : R.length ≤ 64 := by rw [← hR]; exact putRows_le (unhide AG5).lh
          rw [hN0, hPN, hR] at HP
          have HN0 := hide hN0
          have HPN := hide hPN
          have HRR := hide hR
          clear hN0 hPN hR hF1
          go_wp2_with fail
          refine (unhide HP).mono ?_
          rintro e y6 ⟨rfl, h6, k6⟩
          have ag6 := (unhide AG5).hput h6 k6 hRl
          have bx6 := (unhide BX5).kp k6 ((unhide AG5).fr base (Or.inl rfl)).1 (fun j hj => ((unhide AG5).fr j (Or.inr hj)).1)
          have AG6 := hide ag6
          have BX6 := hide bx6
          clear h6 k6 ag6 bx6 HP AG5 BX5 p0 p1 p2 p3 p4
          by_cases h0 : N0 = 0
          · subst h0
            obtain ⟨D6, hD6⟩ : ∃ D6 : Nat → Prop, News Dh y5 y6 = D6 := ⟨_, rfl⟩
            rw [hD6] at AG6
            have FR := hide (from_any (unhide AG6).hs (unhide AG6).fith 0)
            rw [show aheadOf 0 R 0 = 0 by unfold aheadOf; rw [if_pos (by decide)]] at FR
            simp only [List.drop_zero] at FR
            have PG := hide (fun J (hJ : J ≤ K) => put_again (unhide LE5 K (Nat.le_refl _)) (unhide HN0) hJ)
            rw [unhide HRR] at PG
            clear hD6
            go_wp2_with fail
            refine (unhide FR).mono ?_
            rintro e y7 ⟨tv, ev, N7, rfl, i7, e7, b7⟩
            obtain ⟨at7, ct7, rfl, -⟩ := i7.slice
            obtain ⟨ae7, ce7, rfl, -⟩ := e7.slice
            have it7 : InF (fun j => y6.heap.size ≤ j ∧ j < y7.heap.size) y7 at7 (R.map (·.1)) := i7.inF.mono (fun j hj => i7.lt j hj)
            have et7 := e7.esR
            obtain ⟨lr, hlr⟩ : ∃ lr, R.length = lr := ⟨_, rfl⟩
            simp only [List.length_map, hlr]
            have ag7 := (unhide AG6).below b7
            have bx7 := (unhide BX6).below b7
            have nd7 : ∀ j, (y6.heap.size ≤ j ∧ j < y7.heap.size) → ¬ D6 j := fun j hj x => by have := (unhide AG6).hs.lt j x; omega
            have IT7 := hide it7
            have ET7 := hide et7
            have AG7 := hide ag7
            have BX7 := hide bx7
            have ND7 := hide nd7
            have HLR := hide hlr
            obtain ⟨p0, p1, p2, p3, p4⟩ := five_cells bx7.c
            have q0 := Int.emod_nonneg front (show (K : Int) + 1 ≠ 0 by omega)
            have q1 := Int.emod_lt_of_pos front (show (0 : Int) < (K : Int) + 1 by omega)
            obtain ⟨kk, hkk⟩ : ∃ kk : Nat, front % ((K : Int) + 1) = (kk : Int) := ⟨(front % ((K : Int) + 1)).toNat, by omega⟩
            have WF := hide (within_any front ((K : Int) + 1) y7 (by omega) (by omega))
            rw [hkk] at WF
            have hkK : kk ≤ K := by omega
            clear i7 e7 b7 it7 et7 ag7 bx7 nd7 FR hlr q0 q1 hkk AG6 BX6
            go_wp2_with fail
            refine (unhide WF).mono ?_
            rintro e zz ⟨rfl, hw⟩
            replace hw := hw.symm
            subst hw
            clear WF
            -- the front of it
            obtain ⟨pa1, pa2, pa3⟩ := unhide PG kk hkK
            rw [List.take_take, Nat.min_eq_left hkK] at pa1 pa2 pa3
            rw [List.take_take, Nat.min_eq_left hkK] at pa2
            have hF7 : ∀ j, (j < base ∨ (Value.slice a3 mc c3').ownBlock = some j) → ¬ D6 j := fun j hj x => by
              rcases hj with y | y
              · have := (unhide AG7).dh j x; omega
              · exact ((unhide AG7).fr j (Or.inr y)).1 x
            have y7d : Below y7.heap.size y7 y7.drew := (Below.refl _ y7).drew
            have HP2 := hide (put_any (((unhide AG7).below y7d).hs) (unhide AG7).fith (by have := (unhide AG7).lh; omega) i5 t5 a3 kk c3' (ts5.take kk) (unhide LT5 kk hkK) (by omega) (((unhide BX7).below y7d).terms kk _ (fun j hj => Or.inr hj)) ae kk ce (c.es.take kk) (unhide LE5 kk hkK) (by omega) (unhide ENS y7.drew ((unhide AG7).below y7d).bl kk) hF7)
            rw [pa1, pa2, pa3] at HP2
            have S7 := hide (fun (Y : World) (hb : Y.heap[base]? = y7.heap[base]?) => five_cells (hb.trans (unhide BX7).c))
            obtain ⟨s0, s1, s2, s3, s4⟩ := unhide S7 y7.drew rfl
            have g1 : (0 : Int) ≤ (kk : Int) := by omega
            have g2 : (kk : Int) ≤ (c3' : Int) := by
              obtain ⟨_, c', e', _, h1, _⟩ := (unhide BX7).t.slice
              simp only [Value.slice.injEq] at e'
              have := (unhide BX7).l; have := (unhide KM).1; omega
            have g3 : (kk : Int) ≤ (ce : Int) := by have := (unhide HI).e1; rw [unhide HNK] at this; have := (unhide KM).2; omega
            have S9' : Hid True := trivial
            clear pa1 pa2 pa3 hF7 y7d p0 p1 p2 p3 p4
            go_upto_region 21 with fail
            go_cut [16, 17] (fun v16 v17 wd => v16 = .int .i64 (i5 + (kk : Int)) ∧ v17 = .int .i64 0 ∧ Hs (News D6 y7.drew wd) wd ph 0 R ∧ Kp D6 y7.drew wd)
            case first =>
              go_region_held3 (fun Y => Y.cell? ⟨base, 0, none⟩ = some (.bool c.put) ∧ Y.cell? ⟨base, 1, none⟩ = some (.int .i64 i5) ∧ Y.cell? ⟨base, 2, none⟩ = some (.int .i64 t5) ∧ Y.cell? ⟨base, 3, none⟩ = some (.slice a3 K c3') ∧ Y.cell? ⟨base, 4, none⟩ = some (.slice ae K ce)) (first | exact unhide SZ | exact ⟨s0, s1, s2, s3, s4⟩ | fail) (first
                | (go_at_call 15; refine (unhide HP2).mono ?_; rintro e y9 ⟨rfl, h9, k9⟩
                   have SZ := hide (unhide S7 y9 (k9.2 base (heap_lt (unhide BX7).c) ((unhide AG7).fr base (Or.inl rfl)).1))
                   have F9 := hide (And.intro h9 k9)
                   clear h9 k9))
              all_goals go_wp2_with fail
              all_goals go_meet
              all_goals exact ⟨rfl, rfl, unhide F9⟩
            case rest =>
              obtain ⟨rfl, rfl, h9, k9⟩ := hcut
              obtain ⟨y9, hy9⟩ : ∃ y9, y9 = wc := ⟨_, rfl⟩
              subst hy9
              have k9' : Kp D6 y7 y9 := (Kp.of_below (D := D6) (Below.refl _ y7).drew).trans k9 (fun _ _ x => x)
              have ag9 := ((unhide AG7).below (Below.refl _ y7).drew).hput h9 k9 hRl
              have bx9 := (unhide BX7).kp k9' ((unhide AG7).fr base (Or.inl rfl)).1 (fun j hj => ((unhide AG7).fr j (Or.inr hj)).1)
              have it9 := (unhide IT7).kp k9' (unhide ND7)
              have et9 := (unhide ET7).kp k9' (unhide ND7)
              obtain ⟨D9, hD9⟩ : ∃ D9 : Nat → Prop, News D6 y7.drew y9 = D9 := ⟨_, rfl⟩
              have nd9 : ∀ j, (y6.heap.size ≤ j ∧ j < y7.heap.size) → ¬ D9 j := fun j hj x => by
                rw [← hD9] at x
                rcases x with y | y
                · exact unhide ND7 j hj y
                · have : y7.drew.heap.size = y7.heap.size := rfl
                  omega
              rw [hD9] at ag9
              obtain ⟨pa1, pa2, pa3⟩ := unhide PG K (Nat.le_refl _)
              rw [List.take_take, Nat.min_self] at pa1 pa2 pa3
              rw [List.take_take, Nat.min_self] at pa2
              have hF9 : ∀ j, (j < base ∨ (Value.slice a3 mc c3').ownBlock = some j) → ¬ D9 j := fun j hj x => by
                rcases hj with y | y
                · have := ag9.dh j x; omega
                · exact (ag9.fr j (Or.inr y)).1 x
              have HP3 := hide (put_any ag9.hs ag9.fith (by have := ag9.lh; omega) i5 t5 a3 K c3' (ts5.take K) (unhide LT5 K (Nat.le_refl _)) (by omega) (bx9.terms K _ (fun j hj => Or.inr hj)) ae K ce (c.es.take K) (unhide LE5 K (Nat.le_refl _)) (by omega) (unhide ENS y9 ag9.bl K) hF9)
              rw [pa1, pa2, pa3] at HP3
              obtain ⟨p0, p1, p2, p3, p4⟩ := five_cells bx9.c
              have hPN : PN = i5 + (K : Int) := by
                rw [← unhide HPN]; unfold putN; rw [if_pos (unhide HN0)]
              have AG9 := hide ag9
              have BX9 := hide bx9
              have IT9 := hide it9
              have ET9 := hide et9
              have ND9 := hide nd9
              clear h9 k9 k9' ag9 bx9 it9 et9 nd9 hD9 hF9 pa1 pa2 pa3 s0 s1 s2 s3 s4 HP2 AG7 BX7 IT7 ET7 ND7 S7
              go_wp2_with fail
              refine (unhide HP3).mono ?_
              rintro e y10 ⟨rfl, h10, k10⟩
              have ag10 := (unhide AG9).hput h10 k10 hRl
              have bx10 := (unhide BX9).kp k10 ((unhide AG9).fr base (Or.inl rfl)).1 (fun j hj => ((unhide AG9).fr j (Or.inr hj)).1)
              have it10 := (unhide IT9).kp k10 (unhide ND9)
              have et10 := (unhide ET9).kp k10 (unhide ND9)
              have FR2 := hide (from_any ag10.hs ag10.fith 0)
              rw [show aheadOf 0 R 0 = 0 by unfold aheadOf; rw [if_pos (by decide)]] at FR2
              simp only [List.drop_zero] at FR2
              have AG10 := hide ag10
              have BX10 := hide bx10
              have IT10 := hide it10
              have ET10 := hide et10
              clear h10 k10 ag10 bx10 it10 et10 HP3 AG9 BX9 IT9 ET9 ND9 p0 p1 p2 p3 p4
              go_wp2_with fail
              refine (unhide FR2).mono ?_
              rintro e y11 ⟨tv, ev, N11, rfl, i11, e11, b11⟩
              obtain ⟨at11, ct11, rfl, -⟩ := i11.slice
              obtain ⟨ae11, ce11, rfl, -⟩ := e11.slice
              simp only [List.length_map, unhide HLR]
              have lr64 : lr ≤ 64 := by rw [← unhide HLR]; exact hRl
              have SI := hide (sints_eq at7 at11 lr ct7 ct11 (R.map (·.1)) (by rw [List.length_map]; exact unhide HLR) (by omega) y11 ((unhide IT10).below b11).ints i11.inF.ints)
              have SE := hide (fun (Y : World) (hY : Below y11.heap.size y11 Y) => rsames_eq (R.map (·.2)) lr (by rw [List.length_map]; exact unhide HLR) (by omega) ae7 ae11 ce7 ce11 Y (((unhide ET10).below b11).below hY) (e11.esR.below hY))
              obtain ⟨p0, p1, p2, p3, p4⟩ := five_cells ((unhide BX10).below b11).c
              have FB : Hid (Below w.heap.size w y11) := by show Below _ _ _; rw [hbase]; exact ((unhide AG10).below b11).bl
              have wk : IntKind.i64.wrap (i5 + (kk : Int)) = i5 + (kk : Int) := IntWalk.i64_in _ (by have := (putNo_zero (unhide HN0)); omega)
              clear i11 e11 b11 FR2 AG10 BX10 IT10 ET10
              subst hPN
              go_wp2_with fail
              refine (unhide SI).mono ?_
              rintro e z1 ⟨rfl, bz1⟩
              have SE1 := hide (unhide SE z1 bz1)
              have FB1 := hide (below_far (unhide FB) bz1)
              clear bz1 SI SE FB
              go_wp2_with fail
              refine (unhide SE1).mono ?_
              rintro e z2 ⟨rfl, bz2⟩
              have FB2 := hide (below_far (unhide FB1) bz2)
              clear bz2 SE1 FB1
              go_wp2
              go_ret
              exact ⟨rfl, unhide FB2⟩
          · have hne : ((N0 : Int) != 0) = true := by rw [bne_iff_ne]; omega
            have FB : Hid (Below w.heap.size w y6) := by show Below _ _ _; rw [hbase]; exact (unhide AG6).bl
            go_wp2
            go_ret
            exact ⟨rfl, unhide FB⟩
end Go.Proofs.Ythebgkkdkhlbbaa
