/- HistPlays: the walk. -/
import Derived.Test.YtmgdkbpbmngibaaHPlA
import Derived.Deep.RegionHeld3
import Derived.Deep.DrawnRows
import Derived.Deep.DeepCutAuto
import Derived.Deep.CutBlock
namespace Go.Proofs.Ytmgdkbpbmngibaa
open Go.RowKit Go.Maps
attribute [local go_sem ↓] Go.wp_at_zero Go.wp_at_succ

set_option maxRecDepth 1000000 in
set_option maxHeartbeats 16000000 in
theorem plays_walk (bi : Int) (ao : Option Addr) (n cap : Nat) (cs : List HC) (hn : cs.length = n) (hn6 : n ≤ maxLen) (bits : Int) (w : World) (hc : CallsR w ao cs) :
    Calls Try.prog 3 #[.int .i64 bi, .slice ao n cap, .int .i64 bits] w fun e w' => e = .returned (.bool true) ∧ Below w.heap.size w w' := by
  obtain ⟨base, hbase⟩ : ∃ base, w.heap.size = base := ⟨_, rfl⟩
  have KN := hide (hknown_any w)
  have FE := hide (fun Y (h : Below w.heap.size w Y) => few_any ao n cap cs hn hn6 Y (hc.below h))
  have HC' := hide hc
  have HN := hide hn
  have HBS := hide hbase
  clear hc hn hn6
  go_enter Try.func3, Try.ntmps3
  go_wp2_with fail
  refine (unhide KN).mono ?_
  rintro e w1 ⟨rfl, b1⟩
  have B1 := hide b1
  have F1 := hide (unhide FE _ b1)
  clear b1 KN FE
  go_wp2_with fail
  refine (unhide F1).mono ?_
  rintro e w2 ⟨⟨r, rfl, hr⟩, b2⟩
  have B2 := hide (below_far (unhide B1) b2)
  have HR := hide hr
  clear b2 F1 hr B1
  cases r
  · go_wp2
    go_ret
    exact ⟨rfl, unhide B2⟩
  · obtain ⟨hn60, hfew⟩ := unhide HR rfl
    rw [unhide HN] at hn60
    have HFEW := hide hfew
    obtain ⟨b, hb⟩ : ∃ b, bi % 30 = b := ⟨_, rfl⟩
    have hb0 : 0 ≤ b ∧ b ≤ 29 := by omega
    have WI := hide (within_any bi 30 w2 (by decide) (by decide))
    rw [hb] at WI
    have NW := hide (hnew_any b w2)
    clear hfew HR hb
    go_wp2_with fail
    refine (unhide WI).mono ?_
    rintro e w3 ⟨rfl, hw⟩
    replace hw := hw.symm
    subst hw
    clear WI
    go_wp2_with fail
    refine (unhide NW).mono ?_
    rintro e w4 ⟨rfl, h4, b4⟩
    obtain ⟨ph, hph⟩ : ∃ ph, w2.heap.size = ph := ⟨_, rfl⟩
    rw [hph] at h4
    rw [hph]
    obtain ⟨W5, hW5⟩ : ∃ W5, w4.alloc (.cells #[.int .i64 b, .slice none 0 0, .slice none 0 0] 32) = W5 := ⟨_, rfl⟩
    have b5 : Below w4.heap.size w4 W5 := by rw [← hW5]; exact (Below.refl _ w4).alloc (Nat.le_refl _) _
    have x5 : W5.heap[w4.heap.size]? = some (.cells #[.int .i64 b, .slice none 0 0, .slice none 0 0] 32 (0, 0)) := by rw [← hW5]; exact box_at _ _
    obtain ⟨px, hpx⟩ : ∃ px, w4.heap.size = px := ⟨_, rfl⟩
    have PL := hide (plain_new bits W5)
    have hl4 := h4.lt ph rfl
    have sB2 := (unhide B2).size
    have TG5 : Hid (Tg base w W5 ph px b [] [] (fun k => k = ph) (fun k => k = px) (fun _ => False)) := by
      have hb45 := unhide HBS
      refine ⟨h4.below b5, ⟨⟨_, _, by rw [← hpx]; exact x5, Ir.nil 0 W5, XRow.nil base W5, fun k hk => by simp [Value.ownBlock] at hk, fun k hk => by simp [Value.ownBlock] at hk⟩, rfl, fun k hk => by rw [hk, ← hpx]; exact heap_lt x5, fun k hk => by rw [hk]; omega⟩, fun k hk => by rw [hk]; omega, fun k (hk : k = ph) (x : k = px) => by omega, by simp, by simp, ?_, ?_, fun _ x => x.elim, fun _ x => x.elim, hb0.1, hb0.2⟩
      · rw [← hb45]; exact below_far (below_far (unhide B2) b4) b5
      · have := b5.size; omega
    have PP : Hid (ph < W5.heap.size ∧ px < W5.heap.size) := ⟨by have := b5.size; omega, by rw [← hpx]; exact heap_lt x5⟩
    have HW5 := hide hW5
    have HPX := hide hpx
    clear h4 b4 b5 x5 hW5 hpx hph hl4 sB2 NW B2
    go_wp2_with fail
    rw [unhide HW5, unhide HPX]
    clear HW5 HPX
    refine (unhide PL).mono ?_
    rintro e w6 ⟨an, nc, cc, rfl, hnew, hncc, fr6, b6, hi6⟩
    obtain ⟨W7, hW7⟩ : ∃ W7, w6.alloc (.cells #[.slice none 0 0, .slice an nc cc] 34) = W7 := ⟨_, rfl⟩
    have b7 : Below w6.heap.size w6 W7 := by rw [← hW7]; exact (Below.refl _ w6).alloc (Nat.le_refl _) _
    have x7 : W7.heap[w6.heap.size]? = some (.cells #[.slice none 0 0, .slice an nc cc] 34 (0, 0)) := by rw [← hW7]; exact box_at _ _
    obtain ⟨cb, hcb⟩ : ∃ cb, w6.heap.size = cb := ⟨_, rfl⟩
    obtain ⟨new, hnw⟩ : ∃ new, plainOf (bitOf bits) = new := ⟨_, rfl⟩
    have hn7 : new.length ≤ 7 := by rw [← hnw]; exact plain_len _
    rw [hnw] at hnew fr6
    have hne : new ≠ [] := by rw [← hnw]; unfold plainOf; split <;> simp_all
    have hne : new ≠ [] := by rw [← hnw]; unfold plainOf; split <;> simp_all
    have hne : new ≠ [] := by rw [← hnw]; unfold plainOf; split <;> simp_all
    have hne : new ≠ [] := by rw [← hnw]; unfold plainOf; split <;> simp_all
    obtain ⟨Q0, hQ0⟩ : ∃ Q0 : Nat → Prop, Q0 = (fun k => k = cb ∨ ∃ a, an = some a ∧ a.block = k) := ⟨_, rfl⟩
    have q0l : ∀ k, Q0 k → W5.heap.size ≤ k ∧ k < W7.heap.size := fun k hk => by
      rw [hQ0] at hk
      rcases hk with e | ⟨a, ha, hk⟩
      · rw [e, ← hcb]; exact ⟨b6.size, heap_lt x7⟩
      · have := hi6 a ha
        have := fr6.lt hne a ha
        have := b7.size
        omega
    have TG7 : Hid (Tg base w W7 ph px b [] [] (fun k => k = ph) (fun k => k = px) Q0) := (((unhide TG5).below b6).below b7).more (fun k hk => Or.inr ⟨fun (x : k = ph) => by have := (q0l k hk).1; have := (unhide PP).1; omega, fun (x : k = px) => by have := (q0l k hk).1; have := (unhide PP).2; omega, (q0l k hk).2⟩)
    have CB7 : Hid (Cb W7 cb an nc cc new Q0) := ⟨by rw [← hcb]; exact x7, fr6.below b7, ⟨hnew, hncc, by omega⟩, by rw [hQ0]; exact Or.inl rfl, fun a ha => by rw [hQ0]; exact Or.inr ⟨a, ha, rfl⟩⟩
    have HW7 := hide hW7
    have HCB := hide hcb
    have hnc6 : nc ≤ 1000000 := by omega
    clear hQ0 q0l b6 hi6 fr6 b7 x7 hW7 hcb hnw hne hnew hn7 TG5 PP PL hncc
    go_wp2_with fail
    rw [unhide HW7, unhide HCB]
    clear HW7 HCB
    go_loopw [10, 11] (fun iv _ wr => ∃ (k : Nat) (rs : List Rw) (Dh Dx : Nat → Prop), k ≤ n ∧ iv = .int .i64 (k : Int) ∧ Tg base w wr ph px b rs rs Dh Dx Q0 ∧ Cb wr cb an nc cc new Q0) (fun iv _ _ => n - (intOf iv).toNat)
    case atStart => exact ⟨0, [], _, _, Nat.zero_le _, rfl, unhide TG7, unhide CB7⟩
    case round =>
      clear TG7 CB7
      obtain ⟨k, rs, Dh, Dx, hk, rfl, htg, hcb⟩ := hrel
      have TG := hide htg
      have CB := hide hcb
      clear htg hcb
      by_cases hlt : k < n
      · have qk : (k : Int) < (n : Int) := by omega
        obtain ⟨ck, hck⟩ : ∃ ck, cs[k]? = some ck := ⟨_, List.getElem?_eq_getElem (by rw [unhide HN]; exact hlt)⟩
        have fk := unhide HFEW ck (List.mem_of_getElem? hck)
        obtain ⟨gk, ok, ak, ek, tk, uk, rfl, d0, d1, d2, d3, d4, cik⟩ := (unhide HC').at hck
        have blw := (unhide TG).bl
        rw [← unhide HBS] at blw
        have m0 := (blw.cell (blk_lt d0)).trans d0
        have m1 := (blw.cell (blk_lt d1)).trans d1
        have m2 := (blw.cell (blk_lt d2)).trans d2
        have m3 := (blw.cell (blk_lt d3)).trans d3
        have m4 := (blw.cell (blk_lt d4)).trans d4
        have CIK := hide cik
        have fk1 := fk.t
        have fk2 := fk.n
        have FKM := hide fk.m
        obtain ⟨mk, hmk⟩ : ∃ mk, ck.terms.length = mk := ⟨_, rfl⟩
        obtain ⟨nk, hnk⟩ : ∃ nk, ck.es.length = nk := ⟨_, rfl⟩
        rw [hmk] at m3 fk1
        rw [hnk] at m4 fk2
        obtain ⟨put, hput⟩ : ∃ put, ck.put = put := ⟨_, rfl⟩
        rw [hput] at m0
        obtain ⟨Y1, hY1⟩ : ∃ Y1, wr.alloc (boxC put ck.index ck.term (.slice ak mk tk) (.slice ek nk uk)) = Y1 := ⟨_, rfl⟩
        have bY1 : Below wr.heap.size wr Y1 := by rw [← hY1]; exact (Below.refl _ wr).alloc (Nat.le_refl _) _
        have BXC : Hid (Y1.heap[wr.heap.size]? = some (boxC put ck.index ck.term (.slice ak mk tk) (.slice ek nk uk))) := by show _ = _; rw [← hY1]; exact box_at _ _
        obtain ⟨Bk, hBk⟩ : ∃ Bk, wr.heap.size = Bk := ⟨_, rfl⟩
        rw [hBk] at BXC
        have QLT : Hid (∀ j, Q0 j → j < Bk) := fun j hj => by rw [← hBk]; exact (unhide TG).ql j hj
        have TG1 := hide (((unhide TG).below bY1).more (P := fun j => Q0 j ∨ j = Bk) (fun j hj => by
          rcases hj with y | y
          · exact Or.inl y
          · refine Or.inr ⟨fun x => ?_, fun x => ?_, ?_⟩
            · have := (unhide TG).hs.lt j x; omega
            · have := (unhide TG).xs.lt j x; omega
            · rw [y]; exact heap_lt (unhide BXC)))
        have HBB : Hid (base ≤ Bk) := by have := (unhide TG).sz; show _ ≤ _; omega
        have CB1 := hide ((unhide CB).below bY1)
        have HY1 := hide hY1
        have HBK := hide hBk
        have hmk' := hmk
        have HNK := hide hnk
        clear TG CB blw d0 d1 d2 d3 d4 cik fk hck bY1 hY1 hBk hnk hput
        go_upto_region 12 with fail
        rw [show wr.alloc (.cells #[.bool put, .int .i64 ck.index, .int .i64 ck.term, .slice ak mk tk, .slice ek nk uk] 37) = Y1 from unhide HY1, unhide HBK]
        clear HY1 m0 m1 m2 m3 m4
        obtain ⟨Y2, hY2⟩ : ∃ Y2, Y1.alloc (.cells #[] 3) = Y2 := ⟨_, rfl⟩
        have bY2 : Below Y1.heap.size Y1 Y2 := by rw [← hY2]; exact (Below.refl _ Y1).alloc (Nat.le_refl _) _
        have oY2 : Ir Y1.heap.size Y2 (.slice (some ⟨Y1.heap.size, 0, none⟩) 0 0) [] := by rw [← hY2]; exact empty_ints Y1
        have tY2 : IntsR Y2 ak ck.terms := ((unhide CIK).t.below (show Below w.heap.size w Y1 by rw [hbase]; exact (unhide TG1).bl)).below bY2
        obtain ⟨c0, c1, c2, c3, c4⟩ := five_cells (Below.stay bY2 (unhide BXC))
        have c3a : (Y1.alloc (.cells #[] 3)).cell? ⟨Bk, 3, none⟩ = some (.slice ak mk tk) := by rw [hY2]; exact c3
        have HY2 := hide hY2
        have BY2 := hide bY2
        have OY2 := hide oY2
        have TY2 := hide tY2
        have sY2 : Y1.heap.size ≤ Y2.heap.size := bY2.size
        have mm6 : ([] : List Int).length + mk ≤ 1000000000 := by show 0 + mk ≤ _; omega
        clear hY2 bY2 oY2 tY2
        go_wp2_with (rw [unhide HY2]; refine wpList_app rfl (.tmp 49) (.tmp 51) rfl Y1.heap.size (.slice (some ⟨Y1.heap.size, 0, none⟩) 0 0) [] rfl (unhide OY2) ak mk tk ck.terms rfl hmk' (unhide TY2) mm6 sY2 ?_)
        intro v3 z3 hI3 hg3
        try rw [List.nil_append] at hI3
        have bz3 : Below Y1.heap.size Y1 z3 := (unhide BY2).grown hg3 sY2 (fun k hk => by simp [Value.ownBlock] at hk; omega)
        obtain ⟨a3, c3', rfl, -, hcc3, -⟩ := hI3.slice
        rw [hmk'] at hI3 hcc3 ⊢
        have q3 := Below.stay bz3 (unhide BXC)
        have e3 := (five_cells q3).2.2.2.1
        have g3 : z3.frozen? ⟨Bk, 3, none⟩ = false := free_of_block q3
        obtain ⟨y4, hy4⟩ : ∃ y4, z3.setCell ⟨Bk, 3, none⟩ (.slice a3 mk c3') = y4 := ⟨_, rfl⟩
        have q4 : y4.heap[Bk]? = some (boxC put ck.index ck.term (.slice a3 mk c3') (.slice ek nk uk)) := by rw [← hy4]; exact setCell_block q3
        have hB : base ≤ Bk := unhide HBB
        have i4 : Ir Y1.heap.size y4 (.slice a3 mk c3') ck.terms := hI3.other (B := Bk) (fun k hk => by rw [← hy4]; exact Below.heap_setCell _ _ _ k hk) q3 (by decide)
        have k4 : Kp (fun k => k = Bk) z3 y4 := by rw [← hy4]; exact Kp.setCell (D := fun k => k = Bk) (p := ⟨Bk, 3, none⟩) (Kp.refl _ z3) rfl _
        have tg4 := ((unhide TG1).below bz3).own k4 (fun k hk => Or.inr hk) (fun k hk => by rw [hk]; exact hB)
        have cb4 := ((unhide CB1).below bz3).kp k4 (fun k hk x => by have := unhide QLT k hk; omega)
        have own4 : ∀ k, (Value.slice a3 mk c3').ownBlock = some k → Bk < k ∧ k < y4.heap.size := fun k hk => ⟨by have := (i4.lt k hk).1; have := heap_lt (unhide BXC); omega, (i4.lt k hk).2⟩
        have tg5 : Tg base w y4 ph px b rs rs Dh Dx (fun j => Q0 j ∨ j = Bk ∨ (Value.slice a3 mk c3').ownBlock = some j) := tg4.more (fun j hj => by
          rcases hj with y | y | y
          · exact Or.inl (Or.inl y)
          · exact Or.inl (Or.inr y)
          · refine Or.inr ⟨fun x => ?_, fun x => ?_, (own4 j y).2⟩
            · have := (i4.lt j y).1; have := (unhide TG1).hs.lt j x; omega
            · have := (i4.lt j y).1; have := (unhide TG1).xs.lt j x; omega)
        have NE := hide (near_any (b2 := Y1.heap.size) tg5.xs tg5.fitx put ck.index ck.term a3 mk c3' ck.terms hmk' (by omega) i4 (fun k hk x => (tg5.fr k (Or.inr (Or.inr hk))).2 x) (fun k hk => by have := (own4 k hk).1; omega) ek nk uk (by omega) (by have := (unhide CIK).e1; rwa [unhide HNK] at this) (unhide CIK).e2)
        have HY4 := hide hy4
        have Q4 := hide q4
        have I4 := hide i4
        have TG4 := hide tg5
        have CB4 := hide cb4
        have OWN4 := hide own4
        clear hI3 hg3 bz3 q3 q4 i4 k4 tg4 tg5 cb4 own4 hy4 hB hcc3 OY2 TY2 BY2 HY2 sY2 c0 c1 c2 c3 c3a c4 BXC TG1 CB1
        as_aux_lemma =>
          go_upto_if 56 with fail
          rw [unhide HY4]
          clear HY4 e3 g3
          go_cut [] (fun wc => ∃ (i5 t5 : Int) (K1 K2 : Nat) (ts5 : List Int), K2 ≤ nk ∧ Bq wc Bk Y1.heap.size put i5 t5 a3 mk c3' K1 ts5 ek K2 uk ∧ Tg base w wc ph px b rs rs Dh Dx (fun j => Q0 j ∨ j = Bk ∨ (Value.slice a3 mk c3').ownBlock = some j) ∧ Cb wc cb an nc cc new Q0)
          case first =>
            by_cases h4 : (0 : Int) < (k : Int) % 4
            · obtain ⟨f0, f1, f2, f3, f4⟩ := five_cells (unhide Q4)
              as_aux_lemma =>
                go_wp2_with fail
                refine (unhide NE).mono ?_
                rintro e z5 ⟨i5, t5, ts5, rfl, l5, ir5, k5⟩
                have nB : ¬ (Value.slice a3 mk c3').ownBlock = some Bk := fun x => by have := (unhide OWN4 _ x).1; omega
                have q5 : z5.heap[Bk]? = some (boxC put ck.index ck.term (.slice a3 mk c3') (.slice ek nk uk)) := k5.block (unhide Q4) nB
                obtain ⟨h0, h1, h2, h3, h4'⟩ := five_cells q5
                have kf : ∀ j, z5.frozen? ⟨Bk, j, none⟩ = false := fun j => free_of_block q5
                have kf0 := kf 0
                have kf1 := kf 1
                have kf2 := kf 2
                have kf3 := kf 3
                have kf4 := kf 4
                obtain ⟨K, hK⟩ : ∃ K, min mk nk = K := ⟨_, rfl⟩
                rw [hK]
                have hKm : K ≤ mk ∧ K ≤ nk := by omega
                obtain ⟨y5, hy5⟩ : ∃ y5, five z5 Bk (.bool put) (.int .i64 i5) (.int .i64 t5) (.slice a3 K c3') (.slice ek K uk) = y5 := ⟨_, rfl⟩
                have k6 : Kp (fun k => k = Bk) z5 y5 := by rw [← hy5]; exact five_kp _ _ _ _ _
                have bq5 : Bq y5 Bk Y1.heap.size put i5 t5 a3 mk c3' K ts5 ek K uk := ⟨by rw [← hy5]; exact five_box q5 _ _ _ _ _, ir5.kp k6 (fun k hk x => nB (by rw [← x]; exact hk)), l5, hKm.1⟩
                have tg5 := (((unhide TG4).own k5 (fun j hj => Or.inr (Or.inr hj)) (fun j hj => by have := (unhide OWN4 j hj).1; have := unhide HBB; omega))).own k6 (fun j hj => Or.inr (Or.inl hj)) (fun j hj => by rw [hj]; exact unhide HBB)
                have cb5 := (((unhide CB4).kp k5 (fun j hj x => by have := (unhide OWN4 j x).1; have := unhide QLT j hj; omega))).kp k6 (fun j hj x => by have := unhide QLT j hj; omega)
                have FIN := hide (And.intro hKm.2 (And.intro bq5 (And.intro tg5 cb5)))
                have HY5 := hide hy5
                clear NE q5 nB kf k5 k6 bq5 tg5 cb5 ir5 l5 Q4 I4 TG4 CB4 hy5 hK hKm f0 f1 f2 f3 f4
                unfold five at HY5
                as_aux_lemma =>
                  go_wp2_with fail
                  rw [unhide HY5]
                  go_meet
                  exact ⟨i5, t5, K, K, ts5, unhide FIN⟩
            · go_wp2_with fail
              go_meet
              exact ⟨ck.index, ck.term, mk, nk, ck.terms, Nat.le_refl _, ⟨unhide Q4, unhide I4, hmk', Nat.le_refl _⟩, unhide TG4, unhide CB4⟩
          case rest =>
            obtain ⟨i5, t5, K1, K2, ts5, hK2, hbq, htg, hcb⟩ := hcut
            obtain ⟨y, hy⟩ : ∃ y, y = wc := ⟨_, rfl⟩
            subst hy
            obtain ⟨Q1, hQ1⟩ : ∃ Q1 : Nat → Prop, (fun j => Q0 j ∨ j = Bk ∨ (Value.slice a3 mk c3').ownBlock = some j) = Q1 := ⟨_, rfl⟩
            rw [hQ1] at htg
            have qB : Q1 Bk := by rw [← hQ1]; exact Or.inr (Or.inl rfl)
            have qA : ∀ j, (Value.slice a3 mk c3').ownBlock = some j → Q1 j := fun j hj => by rw [← hQ1]; exact Or.inr (Or.inr hj)
            have q0 : ∀ j, Q0 j → Q1 j := fun j hj => by rw [← hQ1]; exact Or.inl hj
            obtain ⟨TS, hTS⟩ : ∃ TS, ts5.take K1 = TS := ⟨_, rfl⟩
            obtain ⟨ES, hES⟩ : ∃ ES, ck.es.take K2 = ES := ⟨_, rfl⟩
            have lT : TS.length = K1 := by rw [← hTS, List.length_take, hbq.l]; exact Nat.min_eq_left hbq.k
            have lE : ES.length = K2 := by rw [← hES, List.length_take, unhide HNK]; exact Nat.min_eq_left hK2
            have kk1 : K1 ≤ 80 := by have := hbq.k; omega
            have kk2 : K2 ≤ 80 := by omega
            have CE : Hid (∀ (Y : World) (F : Nat → Prop), Below base w Y → (∀ j, j < base → F j) → EsR F Y ek ES ∧ XEs F base Y ek ES) := fun Y F hY hF => by
              have := ents_for (wr := Y) (unhide CIK).e (unhide FKM) (show Below w.heap.size w Y by rw [hbase]; exact hY) K2 F (fun j hj => hF j (by omega))
              rw [hES, hbase] at this
              exact this
            have CT : Hid (∀ (Y : World) (F : Nat → Prop), Bq Y Bk Y1.heap.size put i5 t5 a3 mk c3' K1 ts5 ek K2 uk → (∀ j, (Value.slice a3 mk c3').ownBlock = some j → F j) → InF F Y a3 TS) := fun Y F hY hF => by
              rw [← hTS]; exact hY.terms K1 F hF
            have TG := hide htg
            have CB := hide hcb
            have BQ := hide hbq
            have QB := hide qB
            have QA := hide qA
            have QZ := hide q0
            have LT := hide lT
            have LE := hide lE
            clear htg hcb hbq hTS hES hQ1 qB qA q0 NE Q4 I4 TG4 CB4 OWN4 lT lE hK2
            obtain ⟨p0, p1, p2, p3, p4⟩ := five_cells (unhide BQ).c
            as_aux_lemma =>
              go_upto_if 61 with fail
              go_cut [] (fun wc => ∃ (rs' : List Rw) (Dh' Dx' : Nat → Prop), Bq wc Bk Y1.heap.size put i5 t5 a3 mk c3' K1 ts5 ek K2 uk ∧ Tg base w wc ph px b rs' rs' Dh' Dx' Q1 ∧ Cb wc cb an nc cc new Q0)
              case first =>
                cases put
                · go_upto_if 104 with fail
                  go_cut [16] (fun v16 wc => ∃ t6 : Int, v16 = .int .i64 t6 ∧ Bq wc Bk Y1.heap.size false i5 t5 a3 mk c3' K1 ts5 ek K2 uk ∧ Tg base w wc ph px b rs rs Dh Dx Q1 ∧ Cb wc cb an nc cc new Q0)
                  case first =>
                    by_cases h3 : (0 : Int) < (k : Int) % 3
                    · have XL := hide (fun (Y : World) (hY : Below y.heap.size y Y) => xlast_any ((unhide TG).below hY).xs ((unhide TG).below hY).fitx)
                      have XT := hide (fun (Y : World) (hY : Below y.heap.size y Y) => xterm_any ((unhide TG).below hY).xs ((unhide TG).below hY).fitx (b + (rs.length : Int)))
                      have WI := hide (fun (Y : World) => within_any t5 2 Y (by decide) (by decide))
                      obtain ⟨L, hL⟩ : ∃ L, b + (rs.length : Int) = L := ⟨_, rfl⟩
                      rw [hL] at XL XT
                      obtain ⟨q, hq⟩ : ∃ q, termOf b rs L = q := ⟨_, rfl⟩
                      rw [hq] at XT
                      obtain ⟨m2, hm2⟩ : ∃ m2, t5 % 2 = m2 := ⟨_, rfl⟩
                      rw [hm2] at WI
                      clear hL hq hm2
                      have SX := hide (fun (Y : World) (hY : Below y.heap.size y Y) => (five_cells (Below.stay hY (unhide BQ).c)).2.2.1)
                      have S0 := unhide SX y.drew ((Below.refl _ y).drew)
                      have EZ := hide ((Below.refl y.heap.size y).drew)
                      as_aux_lemma =>
                        go_upto_region 22 with fail
                        go_region_held3 (fun Y => Y.cell? ⟨Bk, 2, none⟩ = some (.int .i64 t5)) (first | with_reducible exact S0 | with_reducible exact unhide SX _ (unhide EZ) | fail)
                          (first
                            | (go_at_call 18
                               refine (unhide XL _ (unhide EZ)).mono ?_
                               rintro x z1 ⟨rfl, bz⟩
                               have EN := hide (below_far (unhide EZ) bz)
                               clear EZ bz; have EZ := EN; clear EN)
                            | (go_at_call 17
                               refine (unhide XT _ (unhide EZ)).mono ?_
                               rintro x z2 ⟨rfl, bz⟩
                               have EN := hide (below_far (unhide EZ) bz)
                               clear EZ bz; have EZ := EN; clear EN)
                            | (go_at_call 11
                               refine (unhide WI _).mono ?_
                               rintro x z3 ⟨rfl, hz⟩
                               replace hz := hz.symm
                               subst hz)
                            | fail)
                        all_goals go_wp2_with fail
                        all_goals go_meet
                        all_goals exact ⟨_, rfl, (unhide BQ).below (unhide EZ), (unhide TG).below (unhide EZ), (unhide CB).below (unhide EZ)⟩
                    · go_wp2_with fail
                      go_meet
                      exact ⟨t5, rfl, unhide BQ, unhide TG, unhide CB⟩
                  case rest =>
                    obtain ⟨t6, rfl, hbq, htg, hcb⟩ := hcut
                    have AP := hide (append_any (F := fun j => j < base) htg.hs htg.fith t6 ek K2 uk ES (unhide LE) (by omega) (unhide CE _ _ htg.bl (fun j hj => hj)).1 (fun j hj x => by have := htg.dh j x; omega) (fun j hj => by have := htg.sz; omega))
                    obtain ⟨PN, hPN⟩ : ∃ PN, appN b rs t6 K2 = PN := ⟨_, rfl⟩
                    obtain ⟨PE, hPE⟩ : ∃ PE, appNo b rs t6 K2 = PE := ⟨_, rfl⟩
                    rw [hPN, hPE] at AP
                    obtain ⟨r0, r1, r2, r3, r4⟩ := five_cells hbq.c
                    have PEQ := hide (And.intro hPN hPE)
                    have BQ2 := hide hbq
                    have TG2 := hide htg
                    have CB2 := hide hcb
                    clear hbq htg hcb BQ TG CB p0 p1 p2 p3 p4 hPN hPE
                    as_aux_lemma =>
                      go_wp2_with fail
                      refine (unhide AP).mono ?_
                      rintro e y6 ⟨rfl, h6, k6⟩
                      have tg6 := (unhide TG2).hput h6 k6 (appRows_leb (unhide TG2).b0 (unhide TG2).lh)
                      have bq6 := (unhide BQ2).kp k6 ((unhide TG2).fr _ (unhide QB)).1 (fun j hj => ((unhide TG2).fr j (unhide QA j hj)).1)
                      have cb6 := (unhide CB2).kp k6 (fun j hj => ((unhide TG2).fr j (unhide QZ j hj)).1)
                      have XA := hide (xappend_any (F := fun j => j < base) tg6.xs tg6.fitx t6 ek K2 uk ES (unhide LE) (by omega) (unhide CE _ _ tg6.bl (fun j hj => hj)).2 (fun j hj x => by have := tg6.xs.low j x; omega) (fun j hj => by have := tg6.sz; omega) tg6.sz)
                      rw [(unhide PEQ).1, (unhide PEQ).2] at XA
                      obtain ⟨s0, s1, s2, s3, s4⟩ := five_cells bq6.c
                      have BQ3 := hide bq6
                      have TG3 := hide tg6
                      have CB3 := hide cb6
                      clear h6 k6 tg6 bq6 cb6 AP BQ2 TG2 CB2 r0 r1 r2 r3 r4
                      as_aux_lemma =>
                        go_wp2_with fail
                        refine (unhide XA).mono ?_
                        rintro e y7 ⟨rfl, x7, k7⟩
                        have FIN := hide (And.intro ((unhide BQ3).kp k7 ((unhide TG3).fr _ (unhide QB)).2 (fun j hj => ((unhide TG3).fr j (unhide QA j hj)).2)) (And.intro ((unhide TG3).xput x7 k7 (appRows_leb (unhide TG3).b0 (unhide TG3).lx)) ((unhide CB3).kp k7 (fun j hj => ((unhide TG3).fr j (unhide QZ j hj)).2))))
                        clear x7 k7 XA BQ3 TG3 CB3 s0 s1 s2 s3 s4
                        go_wp2_with fail
                        go_meet
                        exact ⟨_, _, _, unhide FIN⟩
                · have SZ := (unhide TG).sz
                  have PU := hide (fun (Z : World) (a1 : Option Addr) (c1 : Nat) (a2 : Option Addr) (c2 : Nat) (hZ : Below y.heap.size y Z) (h4 : Ir y.heap.size Z (.slice a1 TS.length c1) TS) (h5 : XN base y Z (.slice a2 ES.length c2) ES) => put_any (F := fun j => j < base ∨ y.heap.size ≤ j) ((unhide TG).below hZ).hs ((unhide TG).below hZ).fith (by have := (unhide TG).lh; omega) i5 t5 a1 TS.length c1 TS rfl (by rw [unhide LT]; omega) (h4.inF.mono (fun j hj => Or.inr (h4.lt j hj).1)) a2 ES.length c2 ES rfl (by rw [unhide LE]; omega) h5.esR (fun j hj x => by
                    have h1 := (unhide TG).dh j x
                    have h2 := (unhide TG).hs.lt j x
                    rcases hj with z | z <;> omega))
                  obtain ⟨PN, hPN⟩ : ∃ PN, putN b rs i5 t5 TS ES.length = PN := ⟨_, rfl⟩
                  obtain ⟨PE, hPE⟩ : ∃ PE, putNo b rs i5 t5 TS ES.length = PE := ⟨_, rfl⟩
                  have PEQ : Hid (putN b rs i5 t5 TS K2 = PN ∧ putNo b rs i5 t5 TS K2 = PE) := by rw [← unhide LE]; exact ⟨hPN, hPE⟩
                  rw [hPN, hPE] at PU
                  clear hPN hPE
                  have SX := hide (fun (Y : World) (hY : Below y.heap.size y Y) => (five_cells (Below.stay hY (unhide BQ).c)).2)
                  as_aux_lemma =>
                    go_upto_region 16 with fail
                    go_cut [12, 13] (fun v12 v13 wc => v12 = .int .i64 PN ∧ v13 = .int .i64 ((PE : Nat) : Int) ∧ ∃ Dh', Bq wc Bk Y1.heap.size true i5 t5 a3 mk c3' K1 ts5 ek K2 uk ∧ Tg base w wc ph px b (putRows b rs i5 t5 TS ES) rs Dh' Dx Q1 ∧ Cb wc cb an nc cc new Q0)
                    case first =>
                      have S0 := unhide SX y.drew ((Below.refl _ y).drew)
                      have EZ := hide (Below.refl y.heap.size y)
                      as_aux_lemma =>
                        go_region_held3 (fun Y => Y.cell? ⟨Bk, 1, none⟩ = some (.int .i64 i5) ∧ Y.cell? ⟨Bk, 2, none⟩ = some (.int .i64 t5) ∧ Y.cell? ⟨Bk, 3, none⟩ = some (.slice a3 K1 c3') ∧ Y.cell? ⟨Bk, 4, none⟩ = some (.slice ek K2 uk)) (first | with_reducible exact S0 | with_reducible exact S6 | with_reducible exact unhide SX _ ((unhide EZ).alloc (unhide EZ).size _).drew | with_reducible exact unhide SX _ (((unhide EZ).alloc (unhide EZ).size _).alloc ((unhide EZ).alloc (unhide EZ).size _).size _).drew | with_reducible exact unhide SX _ (unhide EZ) | with_reducible exact unhide SX _ ((unhide EZ).alloc (unhide EZ).size _) | with_reducible exact unhide SX _ (((unhide EZ).alloc (unhide EZ).size _).alloc ((unhide EZ).alloc (unhide EZ).size _).size _) | fail)
                          (first
                            | (with_reducible refine step_appI (.tmp 68) (.tmp 70) (by with_unfolding_all rfl) (by with_unfolding_all rfl) ?_
                               first
                                 | (have E1 := (emp_1 (t := 3) (unhide EZ)).drew
                                    with_reducible refine wp_catIE E1 (.tmp 68) (.tmp 70) (by with_unfolding_all rfl) (by with_unfolding_all rfl) a3 K1 c3' TS (by with_unfolding_all rfl) (unhide LT) (((unhide CT _ (fun _ => True) ((unhide BQ).below E1.bl) (fun _ _ => True.intro)).ints)) (by omega) ?_
                                    intro v1 z1 hR1 hg1
                                    have HO := hide (E1.entsFar ((unhide H5).belowX ((Below.refl _ _).alloc (Nat.le_refl _) _) (Nat.le_trans SZ (unhide EZ).size)) SZ hg1)
                                    clear H5
                                    have H5 := HO
                                    clear HO
                                    obtain ⟨a1, c1, rfl, -⟩ := hR1.slice
                                    have EN := hide (E1.grown hg1)
                                    have H4 := hide hR1
                                    clear E1 hR1 hg1 EZ
                                    have EZ := EN
                                    clear EN)
                                 | (have E1 := (emp_1 (t := 3) (unhide EZ))
                                    with_reducible refine wp_catIE E1 (.tmp 68) (.tmp 70) (by with_unfolding_all rfl) (by with_unfolding_all rfl) a3 K1 c3' TS (by with_unfolding_all rfl) (unhide LT) (((unhide CT _ (fun _ => True) ((unhide BQ).below E1.bl) (fun _ _ => True.intro)).ints)) (by omega) ?_
                                    intro v1 z1 hR1 hg1
                                    have HO := hide (E1.entsFar ((unhide H5).belowX ((Below.refl _ _).alloc (Nat.le_refl _) _) (Nat.le_trans SZ (unhide EZ).size)) SZ hg1)
                                    clear H5
                                    have H5 := HO
                                    clear HO
                                    obtain ⟨a1, c1, rfl, -⟩ := hR1.slice
                                    have EN := hide (E1.grown hg1)
                                    have H4 := hide hR1
                                    clear E1 hR1 hg1 EZ
                                    have EZ := EN
                                    clear EN)
                                 | (have E1 := (emp_1 (t := 3) (unhide EZ)).drew
                                    with_reducible refine wp_catIE E1 (.tmp 68) (.tmp 70) (by with_unfolding_all rfl) (by with_unfolding_all rfl) a3 K1 c3' TS (by with_unfolding_all rfl) (unhide LT) (((unhide CT _ (fun _ => True) ((unhide BQ).below E1.bl) (fun _ _ => True.intro)).ints)) (by omega) ?_
                                    intro v1 z1 hR1 hg1
                                    obtain ⟨a1, c1, rfl, -⟩ := hR1.slice
                                    have EN := hide (E1.grown hg1)
                                    have H4 := hide hR1
                                    clear E1 hR1 hg1 EZ
                                    have EZ := EN
                                    clear EN)
                                 | (have E1 := (emp_1 (t := 3) (unhide EZ))
                                    with_reducible refine wp_catIE E1 (.tmp 68) (.tmp 70) (by with_unfolding_all rfl) (by with_unfolding_all rfl) a3 K1 c3' TS (by with_unfolding_all rfl) (unhide LT) (((unhide CT _ (fun _ => True) ((unhide BQ).below E1.bl) (fun _ _ => True.intro)).ints)) (by omega) ?_
                                    intro v1 z1 hR1 hg1
                                    obtain ⟨a1, c1, rfl, -⟩ := hR1.slice
                                    have EN := hide (E1.grown hg1)
                                    have H4 := hide hR1
                                    clear E1 hR1 hg1 EZ
                                    have EZ := EN
                                    clear EN)
                                 | (have E1 := (emp_2 (t := 3) (unhide EZ) (.cells #[] 60)).drew
                                    with_reducible refine wp_catIE E1 (.tmp 68) (.tmp 70) (by with_unfolding_all rfl) (by with_unfolding_all rfl) a3 K1 c3' TS (by with_unfolding_all rfl) (unhide LT) (((unhide CT _ (fun _ => True) ((unhide BQ).below E1.bl) (fun _ _ => True.intro)).ints)) (by omega) ?_
                                    intro v1 z1 hR1 hg1
                                    have KE := hide (E1.far (emp_3 (t := 60) (unhide EZ) (.cells #[] 3)).drew (by decide) hg1)
                                    obtain ⟨a1, c1, rfl, -⟩ := hR1.slice
                                    have EN := hide (E1.grown hg1)
                                    have H4 := hide hR1
                                    clear E1 hR1 hg1 EZ
                                    have EZ := EN
                                    clear EN)
                                 | (have E1 := (emp_3 (t := 3) (unhide EZ) (.cells #[] 60)).drew
                                    with_reducible refine wp_catIE E1 (.tmp 68) (.tmp 70) (by with_unfolding_all rfl) (by with_unfolding_all rfl) a3 K1 c3' TS (by with_unfolding_all rfl) (unhide LT) (((unhide CT _ (fun _ => True) ((unhide BQ).below E1.bl) (fun _ _ => True.intro)).ints)) (by omega) ?_
                                    intro v1 z1 hR1 hg1
                                    have KE := hide (E1.far (emp_2 (t := 60) (unhide EZ) (.cells #[] 3)).drew (by decide) hg1)
                                    obtain ⟨a1, c1, rfl, -⟩ := hR1.slice
                                    have EN := hide (E1.grown hg1)
                                    have H4 := hide hR1
                                    clear E1 hR1 hg1 EZ
                                    have EZ := EN
                                    clear EN)
                                 | (have E1 := (emp_2 (t := 3) (unhide EZ) (.cells #[] 60))
                                    with_reducible refine wp_catIE E1 (.tmp 68) (.tmp 70) (by with_unfolding_all rfl) (by with_unfolding_all rfl) a3 K1 c3' TS (by with_unfolding_all rfl) (unhide LT) (((unhide CT _ (fun _ => True) ((unhide BQ).below E1.bl) (fun _ _ => True.intro)).ints)) (by omega) ?_
                                    intro v1 z1 hR1 hg1
                                    have KE := hide (E1.far (emp_3 (t := 60) (unhide EZ) (.cells #[] 3)) (by decide) hg1)
                                    obtain ⟨a1, c1, rfl, -⟩ := hR1.slice
                                    have EN := hide (E1.grown hg1)
                                    have H4 := hide hR1
                                    clear E1 hR1 hg1 EZ
                                    have EZ := EN
                                    clear EN)
                                 | (have E1 := (emp_3 (t := 3) (unhide EZ) (.cells #[] 60))
                                    with_reducible refine wp_catIE E1 (.tmp 68) (.tmp 70) (by with_unfolding_all rfl) (by with_unfolding_all rfl) a3 K1 c3' TS (by with_unfolding_all rfl) (unhide LT) (((unhide CT _ (fun _ => True) ((unhide BQ).below E1.bl) (fun _ _ => True.intro)).ints)) (by omega) ?_
                                    intro v1 z1 hR1 hg1
                                    have KE := hide (E1.far (emp_2 (t := 60) (unhide EZ) (.cells #[] 3)) (by decide) hg1)
                                    obtain ⟨a1, c1, rfl, -⟩ := hR1.slice
                                    have EN := hide (E1.grown hg1)
                                    have H4 := hide hR1
                                    clear E1 hR1 hg1 EZ
                                    have EZ := EN
                                    clear EN)
                                 | (have E1 := unhide KI
                                    with_reducible refine wp_catIE E1 (.tmp 68) (.tmp 70) (by with_unfolding_all rfl) (by with_unfolding_all rfl) a3 K1 c3' TS (by with_unfolding_all rfl) (unhide LT) (((unhide CT _ (fun _ => True) ((unhide BQ).below E1.bl) (fun _ _ => True.intro)).ints)) (by omega) ?_
                                    intro v1 z1 hR1 hg1
                                    have HO := hide (E1.entsFar (unhide H5) SZ hg1)
                                    clear H5
                                    have H5 := HO
                                    clear HO
                                    obtain ⟨a1, c1, rfl, -⟩ := hR1.slice
                                    have EN := hide (E1.grown hg1)
                                    have H4 := hide hR1
                                    clear E1 hR1 hg1 EZ
                                    have EZ := EN
                                    clear EN)
                                 | fail)
                            | (with_reducible refine step_appE (.tmp 72) (.tmp 74) (by with_unfolding_all rfl) (by with_unfolding_all rfl) ?_
                               first
                                 | (have E1 := (emp_1 (t := 60) (unhide EZ)).drew
                                    with_reducible refine wp_catEE E1 SZ (.tmp 72) (.tmp 74) (by with_unfolding_all rfl) (by with_unfolding_all rfl) ek K2 uk ES (by with_unfolding_all rfl) (unhide LE) (((unhide CE _ (fun _ => True) ((unhide TG).bl.trans (E1.bl.mono (unhide TG).sz)) (fun _ _ => True.intro)).2)) (by omega) ?_
                                    intro v2 z2 hR2 hg2
                                    have HO := hide (E1.intsFar ((unhide H4).below ((Below.refl _ _).alloc (Nat.le_refl _) _)) hg2)
                                    clear H4
                                    have H4 := HO
                                    clear HO
                                    obtain ⟨a2, c2, rfl, -⟩ := hR2.slice
                                    have EN := hide (E1.grown hg2)
                                    have H5 := hide hR2
                                    clear E1 hR2 hg2 EZ
                                    have EZ := EN
                                    clear EN)
                                 | (have E1 := (emp_1 (t := 60) (unhide EZ))
                                    with_reducible refine wp_catEE E1 SZ (.tmp 72) (.tmp 74) (by with_unfolding_all rfl) (by with_unfolding_all rfl) ek K2 uk ES (by with_unfolding_all rfl) (unhide LE) (((unhide CE _ (fun _ => True) ((unhide TG).bl.trans (E1.bl.mono (unhide TG).sz)) (fun _ _ => True.intro)).2)) (by omega) ?_
                                    intro v2 z2 hR2 hg2
                                    have HO := hide (E1.intsFar ((unhide H4).below ((Below.refl _ _).alloc (Nat.le_refl _) _)) hg2)
                                    clear H4
                                    have H4 := HO
                                    clear HO
                                    obtain ⟨a2, c2, rfl, -⟩ := hR2.slice
                                    have EN := hide (E1.grown hg2)
                                    have H5 := hide hR2
                                    clear E1 hR2 hg2 EZ
                                    have EZ := EN
                                    clear EN)
                                 | (have E1 := (emp_1 (t := 60) (unhide EZ)).drew
                                    with_reducible refine wp_catEE E1 SZ (.tmp 72) (.tmp 74) (by with_unfolding_all rfl) (by with_unfolding_all rfl) ek K2 uk ES (by with_unfolding_all rfl) (unhide LE) (((unhide CE _ (fun _ => True) ((unhide TG).bl.trans (E1.bl.mono (unhide TG).sz)) (fun _ _ => True.intro)).2)) (by omega) ?_
                                    intro v2 z2 hR2 hg2
                                    obtain ⟨a2, c2, rfl, -⟩ := hR2.slice
                                    have EN := hide (E1.grown hg2)
                                    have H5 := hide hR2
                                    clear E1 hR2 hg2 EZ
                                    have EZ := EN
                                    clear EN)
                                 | (have E1 := (emp_1 (t := 60) (unhide EZ))
                                    with_reducible refine wp_catEE E1 SZ (.tmp 72) (.tmp 74) (by with_unfolding_all rfl) (by with_unfolding_all rfl) ek K2 uk ES (by with_unfolding_all rfl) (unhide LE) (((unhide CE _ (fun _ => True) ((unhide TG).bl.trans (E1.bl.mono (unhide TG).sz)) (fun _ _ => True.intro)).2)) (by omega) ?_
                                    intro v2 z2 hR2 hg2
                                    obtain ⟨a2, c2, rfl, -⟩ := hR2.slice
                                    have EN := hide (E1.grown hg2)
                                    have H5 := hide hR2
                                    clear E1 hR2 hg2 EZ
                                    have EZ := EN
                                    clear EN)
                                 | (have E1 := (emp_2 (t := 60) (unhide EZ) (.cells #[] 3)).drew
                                    with_reducible refine wp_catEE E1 SZ (.tmp 72) (.tmp 74) (by with_unfolding_all rfl) (by with_unfolding_all rfl) ek K2 uk ES (by with_unfolding_all rfl) (unhide LE) (((unhide CE _ (fun _ => True) ((unhide TG).bl.trans (E1.bl.mono (unhide TG).sz)) (fun _ _ => True.intro)).2)) (by omega) ?_
                                    intro v2 z2 hR2 hg2
                                    have KI := hide (E1.far (emp_3 (t := 3) (unhide EZ) (.cells #[] 60)).drew (by decide) hg2)
                                    obtain ⟨a2, c2, rfl, -⟩ := hR2.slice
                                    have EN := hide (E1.grown hg2)
                                    have H5 := hide hR2
                                    clear E1 hR2 hg2 EZ
                                    have EZ := EN
                                    clear EN)
                                 | (have E1 := (emp_3 (t := 60) (unhide EZ) (.cells #[] 3)).drew
                                    with_reducible refine wp_catEE E1 SZ (.tmp 72) (.tmp 74) (by with_unfolding_all rfl) (by with_unfolding_all rfl) ek K2 uk ES (by with_unfolding_all rfl) (unhide LE) (((unhide CE _ (fun _ => True) ((unhide TG).bl.trans (E1.bl.mono (unhide TG).sz)) (fun _ _ => True.intro)).2)) (by omega) ?_
                                    intro v2 z2 hR2 hg2
                                    have KI := hide (E1.far (emp_2 (t := 3) (unhide EZ) (.cells #[] 60)).drew (by decide) hg2)
                                    obtain ⟨a2, c2, rfl, -⟩ := hR2.slice
                                    have EN := hide (E1.grown hg2)
                                    have H5 := hide hR2
                                    clear E1 hR2 hg2 EZ
                                    have EZ := EN
                                    clear EN)
                                 | (have E1 := (emp_2 (t := 60) (unhide EZ) (.cells #[] 3))
                                    with_reducible refine wp_catEE E1 SZ (.tmp 72) (.tmp 74) (by with_unfolding_all rfl) (by with_unfolding_all rfl) ek K2 uk ES (by with_unfolding_all rfl) (unhide LE) (((unhide CE _ (fun _ => True) ((unhide TG).bl.trans (E1.bl.mono (unhide TG).sz)) (fun _ _ => True.intro)).2)) (by omega) ?_
                                    intro v2 z2 hR2 hg2
                                    have KI := hide (E1.far (emp_3 (t := 3) (unhide EZ) (.cells #[] 60)) (by decide) hg2)
                                    obtain ⟨a2, c2, rfl, -⟩ := hR2.slice
                                    have EN := hide (E1.grown hg2)
                                    have H5 := hide hR2
                                    clear E1 hR2 hg2 EZ
                                    have EZ := EN
                                    clear EN)
                                 | (have E1 := (emp_3 (t := 60) (unhide EZ) (.cells #[] 3))
                                    with_reducible refine wp_catEE E1 SZ (.tmp 72) (.tmp 74) (by with_unfolding_all rfl) (by with_unfolding_all rfl) ek K2 uk ES (by with_unfolding_all rfl) (unhide LE) (((unhide CE _ (fun _ => True) ((unhide TG).bl.trans (E1.bl.mono (unhide TG).sz)) (fun _ _ => True.intro)).2)) (by omega) ?_
                                    intro v2 z2 hR2 hg2
                                    have KI := hide (E1.far (emp_2 (t := 3) (unhide EZ) (.cells #[] 60)) (by decide) hg2)
                                    obtain ⟨a2, c2, rfl, -⟩ := hR2.slice
                                    have EN := hide (E1.grown hg2)
                                    have H5 := hide hR2
                                    clear E1 hR2 hg2 EZ
                                    have EZ := EN
                                    clear EN)
                                 | (have E1 := unhide KE
                                    with_reducible refine wp_catEE E1 SZ (.tmp 72) (.tmp 74) (by with_unfolding_all rfl) (by with_unfolding_all rfl) ek K2 uk ES (by with_unfolding_all rfl) (unhide LE) (((unhide CE _ (fun _ => True) ((unhide TG).bl.trans (E1.bl.mono (unhide TG).sz)) (fun _ _ => True.intro)).2)) (by omega) ?_
                                    intro v2 z2 hR2 hg2
                                    have HO := hide (E1.intsFar (unhide H4) hg2)
                                    clear H4
                                    have H4 := HO
                                    clear HO
                                    obtain ⟨a2, c2, rfl, -⟩ := hR2.slice
                                    have EN := hide (E1.grown hg2)
                                    have H5 := hide hR2
                                    clear E1 hR2 hg2 EZ
                                    have EZ := EN
                                    clear EN)
                                 | fail)
                            | (go_at_call 15
                               refine (unhide PU _ _ _ _ _ (unhide EZ) (unhide H4) (unhide H5)).mono ?_
                               rintro x y6 ⟨rfl, h6, k6⟩
                               have tg6 := ((unhide TG).below (unhide EZ)).hput h6 k6 (putRows_leb (unhide TG).b0 (unhide TG).lh)
                               have bq6 := ((unhide BQ).below (unhide EZ)).kp k6 ((unhide TG).fr _ (unhide QB)).1 (fun j hj => ((unhide TG).fr j (unhide QA j hj)).1)
                               have cb6 := ((unhide CB).below (unhide EZ)).kp k6 (fun j hj => ((unhide TG).fr j (unhide QZ j hj)).1)
                               have S6 := (five_cells bq6.c).2
                               have FI := hide (And.intro bq6 (And.intro tg6 cb6))
                               clear h6 k6 tg6 bq6 cb6)
                            | fail)
                        all_goals go_wp2_with fail
                        all_goals go_meet
                        all_goals exact ⟨rfl, rfl, _, unhide FI⟩
                    case rest =>
                      obtain ⟨rfl, rfl, Dh', hbq, htg, hcb⟩ := hcut
                      have XP := hide (xput_any (F := fun j => j < base ∨ (Value.slice a3 mk c3').ownBlock = some j) htg.xs htg.fitx (by have := htg.lx; omega) i5 t5 a3 K1 c3' TS (unhide LT) (by omega) (unhide CT _ _ hbq (fun j hj => Or.inr hj)) ek K2 uk ES (unhide LE) (by omega) (unhide CE _ _ htg.bl (fun j hj => Or.inl hj)).2 (fun j hj x => by
                          rcases hj with z | z
                          · have := htg.xs.low j x; omega
                          · exact (htg.fr j (unhide QA j z)).2 x) (fun j hj => by
                          rcases hj with z | z
                          · have := htg.sz; omega
                          · exact htg.ql j (unhide QA j z)) htg.sz)
                      rw [(unhide PEQ).1, (unhide PEQ).2] at XP
                      obtain ⟨r0, r1, r2, r3, r4⟩ := five_cells hbq.c
                      have BQ2 := hide hbq
                      have TG2 := hide htg
                      have CB2 := hide hcb
                      clear hbq htg hcb PU SX BQ TG CB p0 p1 p2 p3 p4
                      as_aux_lemma =>
                        go_wp2_with fail
                        refine (unhide XP).mono ?_
                        rintro e y7 ⟨rfl, x7, k7⟩
                        have FIN := hide (And.intro ((unhide BQ2).kp k7 ((unhide TG2).fr _ (unhide QB)).2 (fun j hj => ((unhide TG2).fr j (unhide QA j hj)).2)) (And.intro ((unhide TG2).xput x7 k7 (putRows_leb (unhide TG2).b0 (unhide TG2).lx)) ((unhide CB2).kp k7 (fun j hj => ((unhide TG2).fr j (unhide QZ j hj)).2))))
                        clear x7 k7 XP BQ2 TG2 CB2 r0 r1 r2 r3 r4
                        go_wp2_with fail
                        go_meet
                        exact ⟨_, _, _, unhide FIN⟩
              case rest =>
                clear BQ TG CB p0 p1 p2 p3 p4 CE CT QB QA CIK FKM
                obtain ⟨rs', Dh', Dx', hbq, htg, hcb⟩ := hcut
                obtain ⟨y8, hy8⟩ : ∃ y8, y8 = wc := ⟨_, rfl⟩
                subst hy8
                obtain ⟨d, hd⟩ : ∃ d, aheadOf b rs' i5 = d := ⟨_, rfl⟩
                have FR := hide (from_any htg.hs htg.fith i5)
                have XF := hide (fun (Y : World) (hY : Below y8.heap.size y8 Y) => xfrom_any (htg.below hY).xs (htg.below hY).fitx i5 (Nat.le_trans htg.sz hY.size))
                rw [hd] at FR XF
                obtain ⟨TT, hTT⟩ : ∃ TT, (rs'.drop d).map (·.1) = TT := ⟨_, rfl⟩
                obtain ⟨EE, hEE⟩ : ∃ EE, (rs'.drop d).map (·.2) = EE := ⟨_, rfl⟩
                unfold FromIs at FR
                rw [hTT, hEE] at FR XF
                have lTT : TT.length ≤ 64 ∧ EE.length ≤ 64 := by rw [← hTT, ← hEE, List.length_map, List.length_map, List.length_drop]; have := htg.lh; omega
                obtain ⟨p0, p1, p2, p3, p4⟩ := five_cells hbq.c
                have BQ := hide hbq
                have TG := hide htg
                have CB := hide hcb
                clear hbq htg hcb hTT hEE hd
                as_aux_lemma =>
                  go_wp2_with fail
                  refine (unhide FR).mono ?_
                  rintro e z1 ⟨tv, ev, N, rfl, i1, e1, b1⟩
                  obtain ⟨at1, ct1, rfl, -⟩ := i1.slice
                  obtain ⟨ae1, ce1, rfl, -⟩ := e1.slice
                  have F1 := hide (And.intro i1.inF.ints e1.esR)
                  have XF1 := hide (unhide XF _ b1)
                  obtain ⟨r0, r1, r2, r3, r4⟩ := five_cells (Below.stay b1 (unhide BQ).c)
                  have B1 := hide b1
                  clear FR XF i1 e1 b1 p0 p1 p2 p3 p4
                  as_aux_lemma =>
                    go_wp2_with fail
                    refine (unhide XF1).mono ?_
                    rintro e z2 ⟨tv2, ev2, rfl, i2, x2, b2⟩
                    obtain ⟨at2, ct2, rfl, -⟩ := i2.slice
                    obtain ⟨ae2, ce2, rfl, -⟩ := x2.slice
                    have b12 := below_far (unhide B1) b2
                    have sz2 : base ≤ z2.heap.size := Nat.le_trans (unhide TG).sz b12.size
                    have SI := hide (fun (Y : World) (hY : Below z2.heap.size z2 Y) => sints_eq at1 at2 TT.length ct1 ct2 TT rfl (by omega) Y (((unhide F1).1.below b2).below hY) (i2.inF.ints.below hY))
                    have SE := hide (fun (Y : World) (hY : Below z2.heap.size z2 Y) => rsames_eq EE EE.length rfl (by omega) ae1 ae2 ce1 ce2 Y (((unhide F1).2.below b2).below hY) ((x2.esR sz2).below hY))
                    have tg2 := (unhide TG).below b12
                    have cb2 := (unhide CB).below b12
                    have bq2 := (unhide BQ).below b12
                    have SA := hide (fun (Y : World) (hY : Below z2.heap.size z2 Y) => same_any (tg2.below hY).hs (tg2.below hY).xs (tg2.below hY).fith (Nat.le_trans sz2 hY.size))
                    have NH := hide (fun (Y : World) (hY : Below z2.heap.size z2 Y) => newer_any (tg2.below hY).hs (tg2.below hY).fith i5 t5)
                    have NX := hide (fun (Y : World) (hY : Below z2.heap.size z2 Y) => xnewer_any (tg2.below hY).xs (tg2.below hY).fitx i5 t5)
                    obtain ⟨nv, hnv⟩ : ∃ nv, newerOf b rs' i5 t5 = nv := ⟨_, rfl⟩
                    rw [hnv] at NH NX
                    have nl := cb2.l
                    have CH := hide (fun (Y : World) (hY : Below z2.heap.size z2 Y) => hconfig_any (tg2.below hY).hs (by have := tg2.lh; omega) (.agg #[.slice none 0 0, .slice an nc cc]) [] new (by decide) (by omega) (cb2.below hY).cf)
                    have CX := hide (fun (Y : World) (hY : Below z2.heap.size z2 Y) => xconfig_any (tg2.below hY).xs (by have := tg2.lx; omega) (Nat.le_trans sz2 hY.size) (.agg #[.slice none 0 0, .slice an nc cc]) [] new (by decide) (by omega) (cb2.below hY).cf)
                    have cl := cfOf_len (M := 1000000) (rs'.map (·.2)) ([], new) (Nat.zero_le _) (show new.length ≤ 1000000 by omega) tg2.xs.ms
                    obtain ⟨O, hO⟩ : ∃ O, (cfOf ([], new) (rs'.map (·.2))).1 = O := ⟨_, rfl⟩
                    obtain ⟨M, hM⟩ : ∃ M, (cfOf ([], new) (rs'.map (·.2))).2 = M := ⟨_, rfl⟩
                    rw [hO, hM] at CH CX cl
                    have CL := hide cl
                    have SX := hide (fun (Y : World) (hY : Below z2.heap.size z2 Y) => (And.intro (five_cells (Below.stay hY bq2.c)).2.1 (And.intro (five_cells (Below.stay hY bq2.c)).2.2.1 (And.intro (two_cells (Below.stay hY cb2.c)).1 (two_cells (Below.stay hY cb2.c)).2)) : Y.cell? ⟨Bk, 1, none⟩ = some (.int .i64 i5) ∧ Y.cell? ⟨Bk, 2, none⟩ = some (.int .i64 t5) ∧ Y.cell? ⟨cb, 0, none⟩ = some (.slice none 0 0) ∧ Y.cell? ⟨cb, 1, none⟩ = some (.slice an nc cc)))
                    have S0 := unhide SX z2.drew ((Below.refl _ z2).drew)
                    have EZ := hide ((Below.refl z2.heap.size z2).drew)
                    have TG2 := hide tg2
                    have CB2 := hide cb2
                    clear tg2 cb2 bq2 cl hO hM hnv nl i2 x2 b2 b12 F1 XF1 B1 BQ TG CB r0 r1 r2 r3 r4
                    as_aux_lemma =>
                      go_upto_region 29 with fail
                      go_region_held3 (fun Y => Y.cell? ⟨Bk, 1, none⟩ = some (.int .i64 i5) ∧ Y.cell? ⟨Bk, 2, none⟩ = some (.int .i64 t5) ∧ Y.cell? ⟨cb, 0, none⟩ = some (.slice none 0 0) ∧ Y.cell? ⟨cb, 1, none⟩ = some (.slice an nc cc)) (first | with_reducible exact S0 | with_reducible exact unhide SX _ (unhide EZ) | fail)
                              (first
                                | (go_at_call 23
                                   refine (unhide SA _ (unhide EZ)).mono ?_
                                   rintro x zz ⟨rfl, bz⟩
                                   have EN := hide (below_far (unhide EZ) bz)
                                   clear EZ bz; have EZ := EN; clear EN)
                                | (go_at_call 24
                                   refine (unhide NH _ (unhide EZ)).mono ?_
                                   rintro x zz ⟨rfl, bz⟩
                                   have EN := hide (below_far (unhide EZ) bz)
                                   clear EZ bz; have EZ := EN; clear EN)
                                | (go_at_call 25
                                   refine (unhide NX _ (unhide EZ)).mono ?_
                                   rintro x zz ⟨rfl, bz⟩
                                   have EN := hide (below_far (unhide EZ) bz)
                                   clear EZ bz; have EZ := EN; clear EN)
                                | (go_at_call 27
                                   refine (unhide CH _ (unhide EZ)).mono ?_
                                   rintro x zz ⟨v1, rfl, cf1, bz⟩
                                   first
                                     | (have CO := hide ((unhide CF2).below bz); clear CF2; have CF2 := CO; clear CO)
                                     | skip
                                   have CF1 := hide cf1
                                   obtain ⟨_, _, _, _, _, _, rfl, -⟩ := cf1
                                   have EN := hide (below_far (unhide EZ) bz)
                                   clear EZ bz; have EZ := EN; clear EN)
                                | (go_at_call 28
                                   refine (unhide CX _ (unhide EZ)).mono ?_
                                   rintro x zz ⟨v2, rfl, cf2, bz⟩
                                   first
                                     | (have CO := hide ((unhide CF1).below bz); clear CF1; have CF1 := CO; clear CO)
                                     | skip
                                   have CF2 := hide cf2
                                   obtain ⟨_, _, _, _, _, _, rfl, -⟩ := cf2
                                   have EN := hide (below_far (unhide EZ) bz)
                                   clear EZ bz; have EZ := EN; clear EN)
                                | (go_at_call 26
                                   refine (same_cf (unhide CF1) (unhide CF2) (unhide CL).1 (unhide CL).2).mono ?_
                                   rintro x zz ⟨rfl, bz⟩
                                   have EN := hide (below_far (unhide EZ) bz)
                                   clear EZ bz; have EZ := EN; clear EN)
                                | (go_at_call 29
                                   refine (unhide SI _ (unhide EZ)).mono ?_
                                   rintro x zz ⟨rfl, bz⟩
                                   have EN := hide (below_far (unhide EZ) bz)
                                   clear EZ bz; have EZ := EN; clear EN)
                                | (go_at_call 30
                                   refine (unhide SE _ (unhide EZ)).mono ?_
                                   rintro x zz ⟨rfl, bz⟩
                                   have EN := hide (below_far (unhide EZ) bz)
                                   clear EZ bz; have EZ := EN; clear EN)
                                | fail)
                      all_goals (
                        have FIN := hide (And.intro (((unhide TG2).below (unhide EZ)).more (P := Q0) (fun j hj => Or.inl (unhide QZ j hj))) ((unhide CB2).below (unhide EZ)))
                        clear TG2 CB2
                        go_wp2
                        go_roundw
                        case rel => exact ⟨k + 1, rs', Dh', Dx', by omega, by go_num, unhide FIN⟩
                        case measure => simp [intOf]; omega)
      · obtain rfl : k = n := by omega
        have B9 : Hid (Below w.heap.size w wr) := by rw [unhide HBS]; exact (unhide TG).bl
        have qk : ¬ (k : Int) < (k : Int) := by omega
        go_wp2
        go_ret
        first | exact ⟨rfl, unhide B9⟩ | exact ⟨rfl, (unhide TG).bl⟩
end Go.Proofs.Ytmgdkbpbmngibaa
