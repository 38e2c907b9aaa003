/- The walk of WalPlays. -/
import Derived.Test.YtbgaedialdpljaaDoorWCalls
import Derived.Test.YtbgaedialdpljaaDoorWLaws
namespace Go.Proofs.YtbgaedialdpljaaDoor
open Go.RowKit

/-- what a round carries: a log, and the rows that it ought to have. -/
structure Pl (W w : World) (p l : Nat) (q : Option Nat) (XS : List (List Nat)) (syn ops n : Nat) (ao : Option Addr) (m cap : Nat) (vs : List Value) : Prop where
  lg : Lg p w l p q (Ls 1048576 XS syn ops) n
  hn : takes XS = n
  hm : XS.length = m
  own : w.ownsRow p 32 1 (.slice ao m cap) m vs
  rv : RowVals W vs XS
  fit : Fit XS
  below : Below W.heap.size W w
  size : p ≤ w.heap.size
section
variable {W w w' : World} {p l : Nat} {q : Option Nat} {XS : List (List Nat)} {syn ops n : Nat} {ao : Option Addr} {m cap : Nat} {vs : List Value}
theorem Pl.later (h : Pl W w p l q XS syn ops n ao m cap vs) (hb : Below w.heap.size w w') : Pl W w' p l q XS syn ops n ao m cap vs :=
  ⟨h.lg.below hb, h.hn, h.hm, own_below h.own hb, h.rv, h.fit, h.below.trans (hb.mono h.below.size), Nat.le_trans h.size hb.size⟩
theorem Pl.arg (h : Pl W w p l q XS syn ops n ao m cap vs) : RowsArg w ao XS := rows_at h.own h.hm (h.rv.below h.below)
theorem pall (g a : Addr) (h : Pl W w p l q XS syn ops n ao m cap vs) (hS : Start W g a) :
    Calls Tryd.prog 18 #[.pointer (some ⟨l, 0, none⟩)] w fun e w' => ∃ ao' cap', e = .returned (.slice ao' m cap') ∧ RowsArg w' ao' XS ∧ Pl W w' p l q XS syn ops n ao m cap vs := by
  refine (nall p l p q 1048576 syn ops n XS g a w h.lg (hS.below h.below) h.fit h.hn (by decide) m h.hm).mono ?_
  rintro e w' ⟨ao', cap', rfl, h1, _, h2⟩
  exact ⟨ao', cap', rfl, h1, h.later h2⟩
theorem psame (ao' : Option Addr) (cap' : Nat) (h : Pl W w p l q XS syn ops n ao m cap vs) (hr : RowsArg w ao' XS) (hl : m ≤ 1000) :
    Calls Tryd.prog 17 #[.slice ao' m cap', .slice ao m cap] w fun e w' => e = .returned (.bool true) ∧ Pl W w' p l q XS syn ops n ao m cap vs := by
  refine (same_any ao' ao m m cap' cap XS XS h.hm h.hm w hr h.arg (by omega) (by omega)).mono ?_
  rintro e w' ⟨b, rfl, h1, h2⟩
  exact ⟨by rw [h1 rfl], h.later h2⟩
theorem psize (h : Pl W w p l q XS syn ops n ao m cap vs) : Calls Tryd.prog 19 #[.pointer (some ⟨l, 0, none⟩)] w fun e w' => e = .returned (.int .i64 (n : Int)) ∧ w' = w := wsize_any p l p q _ n w h.lg
theorem psizes (h : Pl W w p l q XS syn ops n ao m cap vs) (hl : m ≤ 1000) : Calls Tryd.prog 20 #[.slice ao m cap] w fun e w' => e = .returned (.int .i64 (n : Int)) ∧ w' = w := by
  have := size_any ao m cap XS h.hm w h.arg h.fit hl
  rw [h.hn] at this; exact this
end
/-- a block of another kind stays, whatever a log does. -/
theorem Lg.box {base b : Nat} {w w' : World} {l p : Nat} {q : Option Nat} {s : St} {n bx : Nat} {cs : Array Value} {fr : Nat × Nat} (h : Lg base w l p q s n) (hb : w.heap[bx]? = some (.cells cs 34 fr)) (hk : Kept b (lfoot l p q) w w') : w'.heap[bx]? = some (.cells cs 34 fr) := by
  rw [hk.2 bx (blk_lt' hb) (fun hf => ?_)]
  · exact hb
  · obtain ⟨_, h2, u, hu, _, hp, hown, _⟩ := h
    rcases hf with rfl | rfl | hf
    · rw [h2] at hb; cases hb
    · rw [hp] at hb; cases hb
    · exact hown.ne hb (by decide) bx (hu.trans hf) rfl
theorem own_bytes {base : Nat} {w : World} {ao : Option Addr} {n cap : Nat} {bs : List Nat} (h : Own base w (.slice ao n cap) bs) : Bytes w ao bs ∧ (ao = none → cap = 0) ∧ n ≤ cap := by
  obtain ⟨ao', cap', e, h0, _, h1, h2, _⟩ := h.slice
  simp only [Value.slice.injEq] at e
  obtain ⟨rfl, e2, rfl⟩ := e
  exact ⟨h1, h2, by omega⟩
/-- a byte of a row of the call's own is turned. -/
theorem own_store {base : Nat} {w : World} {g l cap : Nat} {b : List Nat} (h : Own base w (.slice (some ⟨g, 0, none⟩) l cap) b) (hl : b.length = l) (j v : Nat) (hv : v < 256) :
    Own base (w.setCell ⟨g, j, none⟩ (.int .u8 (v : Int))) (.slice (some ⟨g, 0, none⟩) l cap) (b.set j v) ∧ Kept base (fun k => (Value.slice (some ⟨g, 0, none⟩) l cap).ownBlock = some k) w (w.setCell ⟨g, j, none⟩ (.int .u8 (v : Int))) := by
  have how : w.ownsRow base 5 1 (.slice (some ⟨g, 0, none⟩) l cap) l (u8s b) := by have h1 := h.1; rw [hl] at h1; exact h1
  have hg := (how.lt g rfl).1
  refine ⟨⟨?_, ?_⟩, (Kept.refl base (fun k => (Value.slice (some ⟨g, 0, none⟩) l cap).ownBlock = some k) w).setCell (p := ⟨g, j, none⟩) hg rfl _⟩
  · have e : (u8s b).set j (.int .u8 (v : Int)) = u8s (b.set j v) := by rw [u8s, u8s, List.map_set]
    rw [List.length_set, hl, ← e]; exact (how.stored j _).1
  · intro y hy
    rcases List.mem_or_eq_of_mem_set hy with h1 | h1
    · exact h.2 y h1
    · omega
theorem own_apart {base b b' : Nat} {w w' : World} {v u : Value} {bs : List Nat} {m : Nat} {vs : List Value} {f : Nat → Prop} (ho : w.ownsRow b 32 1 v m vs) (h : Own base w u bs) (hk : Kept b' f w w') (hf : ∀ k, f k → u.ownBlock = some k) : w'.ownsRow b 32 1 v m vs := by
  refine hk.own ho fun k e hfk => ?_
  obtain ⟨_, cur, fr, hc⟩ := own_tag ho k e
  exact h.ne hc (by decide) k (hf k hfk) rfl
theorem box_apart {base b' : Nat} {w w' : World} {u : Value} {bs : List Nat} {bx : Nat} {cs : Array Value} {fr : Nat × Nat} {f : Nat → Prop} (hb : w.heap[bx]? = some (.cells cs 34 fr)) (h : Own base w u bs) (hk : Kept b' f w w') (hf : ∀ k, f k → u.ownBlock = some k) : w'.heap[bx]? = some (.cells cs 34 fr) := by
  rw [hk.2 bx (blk_lt' hb) (fun e => h.ne hb (by decide) bx (hf bx e) rfl)]; exact hb
/-- a row is put behind the others. -/
theorem Pl.push {W w w' : World} {p l : Nat} {q : Option Nat} {XS : List (List Nat)} {syn ops n m cap : Nat} {ao : Option Addr} {vs : List Value} {b : List Nat} {r : Option Addr} {lb cx : Nat} {ao' : Option Addr} {cap' : Nat} {o : Obj}
    (hl : Lg p w l p q (Ls 1048576 (XS ++ [b]) syn ops) n) (hn : takes (XS ++ [b]) = n) (hm : XS.length = m) (hown : w.ownsRow p 32 1 (.slice ao m cap) m vs) (hrv : RowVals W vs XS) (hfit : Fit XS) (hbel : Below W.heap.size W w) (hW : W.heap.size ≤ p) (hs : p ≤ w.heap.size)
    (hb : b.length = lb) (hby : Bytes W r b) (hlc : lb ≤ cx) (hnx : r = none → cx = 0) (hlb : lb ≤ 65536) (own' : w'.ownsRow p 32 1 (.slice ao' (m + 1) cap') (m + 1) (vs ++ [.slice r lb cx])) (k : Kept p (fun k => (Value.slice ao m cap).ownBlock = some k) (w.alloc o) w') :
    Pl W w' p l q (XS ++ [b]) syn ops n ao' (m + 1) cap' (vs ++ [.slice r lb cx]) := by
  have kk : Kept p (fun k => (Value.slice ao m cap).ownBlock = some k) w w' := (Kept.of_below ((Below.refl _ w).alloc (Nat.le_refl _) _) hs).trans k (fun _ _ x => x)
  exact ⟨hl.grown hown kk, hn, by rw [List.length_append, hm]; rfl, own', hrv.snoc hb hby hlc hnx, hfit.snoc hby.1 (by omega), hbel.trans (kk.1.mono hW), Nat.le_trans hs kk.size⟩

set_option maxRecDepth 20000 in
set_option maxHeartbeats 8000000 in
theorem plays_walk (aoc : Option Addr) (nc cc : Nat) (g a : Addr) (w : World) (hC : CallsAt w aoc nc) (hS : Start w g a) :
    Calls Tryd.prog 3 #[.slice aoc nc cc] w fun e w' => e = .returned (.bool true) ∧ Below w.heap.size w w' := by
  have HS := hide hS
  have hz := hS.low
  have HC := hide hC
  clear hS hC
  go_enter Tryd.func3, Tryd.ntmps3
  go_wp2_with fail
  refine (known_any g a w (unhide HS)).mono ?_
  rintro e w1 ⟨rfl, b1⟩
  have B1 := hide b1
  have s1 := b1.size
  have z1 : 4 ≤ w1.heap.size := Nat.le_trans hz s1
  clear b1
  go_wp2_with fail
  refine (new_ok 1048576 w1 (by decide) (by decide)).mono ?_
  rintro e w2 ⟨rfl, t2, b2⟩
  have s2 := b2.size
  have B2 := hide ((unhide B1).trans (b2.mono s1))
  have HO := hide (nopen w1.heap.size w1.heap.size none 1048576 0 0 0 [] g a w2 t2 ((unhide HS).below (unhide B2)) s2 Fit.nil rfl (by decide))
  clear t2 b2
  go_wp2_with fail
  refine (unhide HO).mono ?_
  rintro e w3 ⟨l3, rfl, hl3, lg3, b3⟩
  have pl3 : Pl w w3 w1.heap.size l3 none [] 0 0 0 none 0 0 [] := ⟨lg3, rfl, rfl, World.ownsRow_nil _ _ _ _, RowVals.nil w, Fit.nil, (unhide B2).trans (b3.mono (unhide B2).size), Nat.le_trans s2 b3.size⟩
  have PL3 := hide pl3
  obtain ⟨p, ep⟩ : ∃ p, w1.heap.size = p := ⟨_, rfl⟩
  rw [ep] at PL3 s1 z1 ⊢
  clear lg3 b3 pl3 HO B1 B2 ep s2 hl3
  go_wp2_with fail
  go_loopg [5, 6, 7, 8] 60 (fun gg lv ev av iv wr => ∃ (i l : Nat) (q : Option Nat) (XS : List (List Nat)) (syn ops n : Nat) (ao : Option Addr) (m cap : Nat) (vs : List Value), i + gg = 60 ∧ iv = .int .i64 (i : Int) ∧ lv = .pointer (some ⟨l, 0, none⟩) ∧ ev = .int .i64 0 ∧ av = .slice ao m cap ∧ m ≤ 8 + i ∧ n ≤ 2464 + 308 * i ∧ ops ≤ i ∧ Pl w wr p l q XS syn ops n ao m cap vs)
  case atStart => exact ⟨0, l3, none, [], 0, 0, 0, none, 0, 0, [], rfl, rfl, rfl, rfl, rfl, by omega, by omega, by omega, unhide PL3⟩
  case round =>
    obtain ⟨i, l, q, XS, syn, ops, n, ao, m, cap, vs, hig, rfl, rfl, rfl, rfl, hmb, hnb, hob, pl⟩ := hrel
    have HIG := hide hig
    have hi60 : i ≤ 60 := by omega
    have PL := hide pl
    clear hig pl PL3
    by_cases h1 : i < nc
    · by_cases h2 : i < 60
      · obtain ⟨ad, kind, r, lb, cx, b, ro, rl, rc, xs, rfl, hc0, hc1, hc2, hbl, hby, hcx, hnx, hxl, hra⟩ := unhide HC i h1
        obtain ⟨blk, off, spot⟩ := ad
        have hspot : spot = none := by
          obtain ⟨ad0, _, _, _, _, _, _, _, _, _, e0, hc00, _⟩ := unhide HC 0 (by omega)
          cases e0
          simpa [Addr.add] using World.cell?_spot hc00
        subst hspot
        rw [Addr.add_lit] at hc0 hc1 hc2
        rw [← Nat.add_assoc] at hc1 hc2
        have BR := (unhide PL).below
        have k0 : wr.cell? ⟨blk, off + i * 3, none⟩ = some (.int .i64 kind) := by rw [BR.cell (blk_lt hc0)]; exact hc0
        have k1 : wr.cell? ⟨blk, off + i * 3 + 1, none⟩ = some (.slice r lb cx) := by rw [BR.cell (blk_lt hc1)]; exact hc1
        have k2 : wr.cell? ⟨blk, off + i * 3 + 2, none⟩ = some (.slice ro rl rc) := by rw [BR.cell (blk_lt hc2)]; exact hc2
        obtain ⟨kk, ekk⟩ : ∃ kk : Nat, kind % 4 = (kk : Int) := ⟨(kind % 4).toNat, by omega⟩
        have hkk : kk < 4 := by omega
        have EKK := hide ekk
        have HBL := hide hbl
        have HBY := hide hby
        have HNX := hide hnx
        have HXL := hide hxl
        have HRA := hide hra
        clear hc0 hc1 hc2 hbl hby hnx BR ekk hxl hra
        go_wp2_with fail
        have ba : Below wr.heap.size wr (wr.alloc (.cells #[.int .i64 kind, .slice r lb cx, .slice ro rl rc] 34)) := (Below.refl _ wr).alloc (Nat.le_refl _) _
        have hnbx : (wr.alloc (.cells #[.int .i64 kind, .slice r lb cx, .slice ro rl rc] 34)).heap[wr.heap.size]? = some (.cells #[.int .i64 kind, .slice r lb cx, .slice ro rl rc] 34 (0, 0)) := heap_alloc_new _ _
        generalize ewb : wr.alloc (.cells #[.int .i64 kind, .slice r lb cx, .slice ro rl rc] 34) = wb at *
        clear ewb
        have PLB := hide ((unhide PL).later ba)
        obtain ⟨bx, ebx⟩ : ∃ bx, wr.heap.size = bx := ⟨_, rfl⟩
        rw [ebx] at hnbx ⊢
        have HNB := hide hnbx
        clear hnbx k0 k1 k2 ba ebx PL
        refine (within_at kind 4 kk (unhide EKK) wb (by omega) (by omega)).mono ?_
        rintro e wb' ⟨rfl, rfl⟩
        have cb1 : wb'.cell? ⟨bx, 1, none⟩ = some (.slice r lb cx) := (cell_of_block (unhide HNB)).trans rfl
        have cb2 : wb'.cell? ⟨bx, 2, none⟩ = some (.slice ro rl rc) := (cell_of_block (unhide HNB)).trans rfl
        have hk5 : kk = 0 ∨ kk = 1 ∨ kk = 2 ∨ kk = 3 := by omega
        clear hkk EKK
        rcases hk5 with rfl | rfl | rfl | rfl
        · by_cases h3 : 300 < lb
          · go_wp2
            go_roundg (60 - (i + 1))
            case measure => have := unhide HIG; omega
            case rel => exact ⟨i + 1, l, q, XS, syn, ops, n, ao, m, cap, vs, by omega, by go_num, rfl, rfl, rfl, by omega, by omega, by omega, unhide PLB⟩
          · have sb := (unhide PLB).size
            have hbxl : bx < wb'.heap.size := blk_lt' (unhide HNB)
            have bE : Below wb'.heap.size wb' (wb'.alloc (.cells #[] 5)) := (Below.refl _ wb').alloc (Nat.le_refl _) _
            have OE := hide (own_empty p wb' sb)
            have YE := hide ((unhide HBY).below ((unhide PLB).below.trans (bE.mono (unhide PLB).below.size)))
            clear bE
            go_wp2_with (at_builtin; refine wpList_append_bytes rfl (.tmp 48) (.tmp 50) rfl p _ [] 0 rfl rfl (unhide OE) r lb cx b rfl (unhide HBL) (unhide YE) (unhide HNX) (by omega) (by simp; omega) ?_)
            intro aom capm w5 o5 k5 hat5
            have hfr : ∀ k, (Value.slice aom lb capm).ownBlock = some k → wb'.heap.size ≤ k := fun k hk => by
              rcases hat5 with h1 | h1
              · rw [h1] at hk; simp only [Value.ownBlock, Option.some.injEq] at hk; omega
              · rw [h1] at hk; simp at hk; omega
            have b5 := below_new k5 (fun k hk => by simp only [Value.ownBlock, Option.some.injEq] at hk; omega)
            have O5 : Hid (Own p w5 (.slice aom lb capm) b) := by
              show Own p w5 (.slice aom lb capm) b
              simpa using o5
            have PL5 := hide ((unhide PLB).later b5)
            have HN5 : Hid (w5.heap[bx]? = some (.cells #[.int .i64 kind, .slice r lb cx, .slice ro rl rc] 34 (0, 0))) := by show w5.heap[bx]? = _; rw [b5.block bx (blk_lt' (unhide HNB))]; exact unhide HNB
            have HFR := hide hfr
            clear o5 k5 hat5 hfr b5 OE YE cb1 cb2
            obtain ⟨y5, nl5, hc5⟩ := own_bytes (unhide O5)
            have Y5 := hide y5
            have NL5 := hide nl5
            clear y5 nl5
            go_wp2_with fail
            refine (nappend p l p q 1048576 syn ops n XS g a aom lb capm b (unhide HBL) w5 (unhide PL5).lg ((unhide HS).below (unhide PL5).below) z1 (unhide PL5).size (unhide PL5).hn (by omega) (unhide Y5) (unhide NL5) hc5 (by omega) (by decide) (by omega)).mono ?_
            rintro e w6 ⟨q6, rfl, l6, k6, f6⟩
            have O6 : Hid (Own p w6 (.slice aom lb capm) b) := (unhide O5).kept k6 (fun k hk hf => by have := unhide HFR k hk; have := ((unhide PLB).lg.lt k hf).2; omega)
            have DIS : Hid (∀ k, lfoot l p q6 k → ¬ (Value.slice aom lb capm).ownBlock = some k) := fun k hf hk => by
              have h5 := unhide HFR k hk
              rcases hf with rfl | rfl | hf
              · have := ((unhide PLB).lg.lt k (Or.inl rfl)).2; omega
              · have := ((unhide PLB).lg.lt k (Or.inr (Or.inl rfl))).2; omega
              · rcases f6 k hf with h6 | h6
                · have := ((unhide PLB).lg.lt k (Or.inr (Or.inr h6))).2; omega
                · have := ((unhide O5).1.lt k hk).2; omega
            have OA6 := hide ((unhide PL5).lg.rows (unhide PL5).own k6)
            have HN6 := hide ((unhide PL5).lg.box (unhide HN5) k6)
            have B6 := hide ((unhide PL5).below.trans (k6.1.mono s1))
            have L6 := hide l6
            have s6 : p ≤ w6.heap.size := Nat.le_trans (unhide PL5).size k6.size
            have RV := hide (unhide PLB).rv
            have FT := hide (unhide PLB).fit
            have HM := hide (unhide PLB).hm
            have TX : Hid (takes (XS ++ [b]) = n + (8 + lb)) := by show _ = _; rw [takes_snoc, (unhide PLB).hn, unhide HBL]
            clear l6 k6 f6 O5 PL5 HN5 HFR Y5 NL5 hc5 HNB PLB
            go_wp2_with fail
            go_loopg [11] lb (fun gg jv wt => ∃ (j : Nat) (b' : List Nat), j + gg = lb ∧ jv = .int .i64 (j : Int) ∧ b'.length = lb ∧ Own p wt (.slice aom lb capm) b' ∧ Kept p (fun k => (Value.slice aom lb capm).ownBlock = some k) w6 wt)
            case atStart => exact ⟨0, b, by omega, rfl, unhide HBL, unhide O6, Kept.refl _ _ _⟩
            case round =>
              obtain ⟨j, b', hjg, rfl, hbl', ob', kt⟩ := hrel
              have HJG := hide hjg
              have hjl : j ≤ lb := by omega
              have HBL2 := hide hbl'
              have OB := hide ob'
              have KT := hide kt
              clear hjg hbl' ob' kt
              by_cases hj : j < lb
              · obtain ⟨gm, rfl⟩ : ∃ gm, aom = some ⟨gm, 0, none⟩ := by
                  rcases (unhide OB).1.2 with ⟨e, _⟩ | ⟨gm, cap', cur, e, _⟩
                  · simp only [Value.slice.injEq] at e; omega
                  · simp only [Value.slice.injEq] at e; exact ⟨gm, e.1⟩
                have how : wr.ownsRow p 5 1 (.slice (some ⟨gm, 0, none⟩) lb capm) lb (u8s b') := by have h1 := (unhide OB).1; rw [unhide HBL2] at h1; exact h1
                have hcj : wr.cell? ⟨gm, j, none⟩ = some (.int .u8 ((b'.getD j 0 : Nat) : Int)) := by
                  rw [how.cellAt j (by omega), u8s, List.getElem?_map, List.getD_eq_getElem?_getD, List.getElem?_eq_getElem (by rw [unhide HBL2]; exact hj)]; rfl
                have hfz := how.frozenAt j
                have j1 : (j : Int) < (lb : Int) := by omega
                have hst := own_store (unhide OB) (unhide HBL2) j 238 (by decide)
                have OS := hide hst.1
                have KS := hide ((unhide KT).trans hst.2 (fun _ _ x => x))
                clear how hst
                go_wp2
                go_roundg (lb - (j + 1))
                case measure => have := unhide HJG; omega
                case rel => exact ⟨j + 1, b'.set j 238, by omega, by go_num, by rw [List.length_set]; exact unhide HBL2, unhide OS, unhide KS⟩
              · have L7 := hide ((unhide L6).kept (unhide KT) (unhide DIS))
                have OA7 := hide (own_apart (unhide OA6) (unhide O6) (unhide KT) (fun _ x => x))
                have hn7 := box_apart (unhide HN6) (unhide O6) (unhide KT) (fun _ x => x)
                have cb1 : wr.cell? ⟨bx, 1, none⟩ = some (.slice r lb cx) := (cell_of_block hn7).trans rfl
                have B7 := hide ((unhide B6).trans ((unhide KT).1.mono s1))
                have s7 : p ≤ wr.heap.size := Nat.le_trans s6 (unhide KT).size
                clear hn7 L6 OA6 HN6 B6 O6 DIS OB KT
                go_wp2_with (at_builtin; refine wpList_append_rows rfl (.tmp 65) (.tmp 68) rfl p _ vs m rfl ((unhide OA7).alloc _) (some ⟨wr.heap.size, 0, none⟩) 1 1 [.slice r lb cx] rfl rfl built_one (one_slice _ _ _) (fun e => by cases e) (by omega) (by simp; omega) ?_)
                intro aoA capA w8 o8 k8 _
                have PLX := hide (Pl.push (unhide L7) (unhide TX) (unhide HM) (unhide OA7) (unhide RV) (unhide FT) (unhide B7) s1 s7 (unhide HBL) (unhide HBY) hcx (unhide HNX) (by omega) o8 k8)
                clear o8 k8 L7 OA7 B7 cb1
                go_wp2_with fail
                refine (pall g a (unhide PLX) (unhide HS)).mono ?_
                rintro e w9 ⟨ao9, cap9, rfl, r9, pl9⟩
                have R9 := hide r9
                have PL9 := hide pl9
                clear r9 pl9 PLX
                go_wp2_with fail
                refine (psame ao9 cap9 (unhide PL9) (unhide R9) (by omega)).mono ?_
                rintro e wa ⟨rfl, pla⟩
                have PLA := hide pla
                clear pla PL9 R9
                go_wp2_with fail
                refine (psize (unhide PLA)).mono ?_
                rintro e wa' ⟨rfl, rfl⟩
                go_wp2_with fail
                refine (psizes (unhide PLA) (by omega)).mono ?_
                rintro e wa'' ⟨rfl, rfl⟩
                go_wp2
                go_roundg (60 - (i + 1))
                case measure => have := unhide HIG; omega
                case rel => exact ⟨i + 1, l, q6, (XS ++ [b]), syn, (ops + 1), (n + (8 + lb)), aoA, (m + 1), capA, (vs ++ [.slice r lb cx]), by omega, by go_num, rfl, rfl, rfl, by omega, by omega, by omega, unhide PLA⟩
        · go_wp2_with fail
          refine (nsync p l p q 1048576 syn ops n XS g a wb' (unhide PLB).lg ((unhide HS).below (unhide PLB).below) (unhide PLB).size (unhide PLB).hn (by omega)).mono ?_
          rintro e w8 ⟨rfl, l8, k8⟩
          have PLX : Hid (Pl w w8 p l q XS n (ops + 1) n ao m cap vs) := ⟨l8, (unhide PLB).hn, (unhide PLB).hm, (unhide PLB).lg.tape.rows (unhide PLB).own k8, (unhide PLB).rv, (unhide PLB).fit, (unhide PLB).below.trans (k8.1.mono s1), Nat.le_trans (unhide PLB).size k8.size⟩
          clear l8 k8 PLB HNB cb1 cb2
          go_wp2_with fail
          refine (pall g a (unhide PLX) (unhide HS)).mono ?_
          rintro e w9 ⟨ao9, cap9, rfl, r9, pl9⟩
          have R9 := hide r9
          have PL9 := hide pl9
          clear r9 pl9 PLX
          go_wp2_with fail
          refine (psame ao9 cap9 (unhide PL9) (unhide R9) (by omega)).mono ?_
          rintro e wa ⟨rfl, pla⟩
          have PLA := hide pla
          clear pla PL9 R9
          go_wp2_with fail
          refine (psize (unhide PLA)).mono ?_
          rintro e wa' ⟨rfl, rfl⟩
          go_wp2_with fail
          refine (psizes (unhide PLA) (by omega)).mono ?_
          rintro e wa'' ⟨rfl, rfl⟩
          go_wp2
          go_roundg (60 - (i + 1))
          case measure => have := unhide HIG; omega
          case rel => exact ⟨i + 1, l, q, XS, n, (ops + 1), n, ao, m, cap, vs, by omega, by go_num, rfl, rfl, rfl, by omega, by omega, by omega, unhide PLA⟩
        · obtain ⟨ms, hms⟩ : ∃ ms, (smallOf xs).length = ms := ⟨_, rfl⟩
          have hsm := small_any w ro rl rc xs (unhide HXL) wb' (unhide HRA) (unhide PLB).below ms hms
          have hfs := fit_small (unhide HRA)
          have htk := takes_small xs
          have hln := smallOf_len xs
          rw [hms] at hln
          generalize smallOf xs = YS at *
          obtain ⟨ky, hky⟩ : ∃ ky, takes YS = ky := ⟨_, rfl⟩
          rw [hky] at htk
          have HSM := hide hsm
          have HFS := hide hfs
          have HMS := hide hms
          have HKY := hide hky
          clear hsm hfs hms hky
          go_wp2_with fail
          refine (unhide HSM).mono ?_
          rintro e w5 ⟨ao5, cap5, vs5, rfl, o5, rv5, _, b5⟩
          have O5 := hide (own_rebase o5 (unhide PLB).size)
          have RV5 := hide rv5
          have PL5 := hide ((unhide PLB).later b5)
          have RA5 := hide (rows_at (unhide O5) (unhide HMS) ((unhide RV5).below (unhide PL5).below))
          clear o5 rv5 b5 HSM PLB HNB cb1 cb2
          go_wp2_with fail
          refine (nkeep p l p q 1048576 syn ops n ky XS YS g a ao5 ms cap5 (unhide HMS) w5 (unhide PL5).lg ((unhide HS).below (unhide PL5).below) (unhide PL5).size (by omega) (unhide RA5) (unhide HFS) (by omega) (unhide HKY) (by omega)).mono ?_
          rintro e w8 ⟨q8, rfl, l8, k8, _⟩
          have PLX : Hid (Pl w w8 p l q8 YS ky (ops + 1) ky ao5 ms cap5 vs5) := ⟨l8, unhide HKY, unhide HMS, (unhide PL5).lg.rows (unhide O5) k8, unhide RV5, unhide HFS, (unhide PL5).below.trans (k8.1.mono s1), Nat.le_trans (unhide PL5).size k8.size⟩
          clear l8 k8 PL5 O5 RV5 RA5
          go_wp2_with fail
          refine (pall g a (unhide PLX) (unhide HS)).mono ?_
          rintro e w9 ⟨ao9, cap9, rfl, r9, pl9⟩
          have R9 := hide r9
          have PL9 := hide pl9
          clear r9 pl9 PLX
          go_wp2_with fail
          refine (psame ao9 cap9 (unhide PL9) (unhide R9) (by omega)).mono ?_
          rintro e wa ⟨rfl, pla⟩
          have PLA := hide pla
          clear pla PL9 R9
          go_wp2_with fail
          refine (psize (unhide PLA)).mono ?_
          rintro e wa' ⟨rfl, rfl⟩
          go_wp2_with fail
          refine (psizes (unhide PLA) (by omega)).mono ?_
          rintro e wa'' ⟨rfl, rfl⟩
          go_wp2
          go_roundg (60 - (i + 1))
          case measure => have := unhide HIG; omega
          case rel => exact ⟨i + 1, l, q8, YS, ky, (ops + 1), ky, ao5, ms, cap5, vs5, by omega, by go_num, rfl, rfl, rfl, by omega, by omega, by omega, unhide PLA⟩
        · go_wp2_with fail
          refine (nopen p p q 1048576 syn ops n XS g a wb' (unhide PLB).lg.tape ((unhide HS).below (unhide PLB).below) (unhide PLB).size (unhide PLB).fit (unhide PLB).hn (by decide)).mono ?_
          rintro e w8 ⟨l8, rfl, _, lg8, b8⟩
          have PLX : Hid (Pl w w8 p l8 q XS syn ops n ao m cap vs) := ⟨lg8, (unhide PLB).hn, (unhide PLB).hm, own_below (unhide PLB).own b8, (unhide PLB).rv, (unhide PLB).fit, (unhide PLB).below.trans (b8.mono (unhide PLB).below.size), Nat.le_trans (unhide PLB).size b8.size⟩
          clear lg8 b8 PLB HNB cb1 cb2
          go_wp2_with fail
          refine (pall g a (unhide PLX) (unhide HS)).mono ?_
          rintro e w9 ⟨ao9, cap9, rfl, r9, pl9⟩
          have R9 := hide r9
          have PL9 := hide pl9
          clear r9 pl9 PLX
          go_wp2_with fail
          refine (psame ao9 cap9 (unhide PL9) (unhide R9) (by omega)).mono ?_
          rintro e wa ⟨rfl, pla⟩
          have PLA := hide pla
          clear pla PL9 R9
          go_wp2_with fail
          refine (psize (unhide PLA)).mono ?_
          rintro e wa' ⟨rfl, rfl⟩
          go_wp2_with fail
          refine (psizes (unhide PLA) (by omega)).mono ?_
          rintro e wa'' ⟨rfl, rfl⟩
          go_wp2
          go_roundg (60 - (i + 1))
          case measure => have := unhide HIG; omega
          case rel => exact ⟨i + 1, l8, q, XS, syn, ops, n, ao, m, cap, vs, by omega, by go_num, rfl, rfl, rfl, by omega, by omega, by omega, unhide PLA⟩
      · have e60 : i = 60 := by omega
        go_wp2
        go_ret
        exact ⟨rfl, (unhide PL).below⟩
    · go_wp2
      go_ret
      exact ⟨rfl, (unhide PL).below⟩
end Go.Proofs.YtbgaedialdpljaaDoor
