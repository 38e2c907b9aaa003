/- The document's reader: readEntry: a contract. -/
import Derived.Test.YtojmnlbdhpledaaDoorXR1
import Derived.Test.YtojmnlbdhpledaaDoorReader
import Derived.Deep.RegionHeld3
import Derived.Deep.DrawnRows
namespace Go.Proofs.YtojmnlbdhpledaaDoor
open Go.RowKit


/-- the document's reader, under way since a. -/
structure Xg (base : Nat) (a w : World) (p : Nat) (ao : Option Addr) (n cap : Nat) (bs : List Nat) (s : Nat × Nat) : Prop where
  q : Xq base w p ao n cap s
  src : SrcX base a ao n cap bs
  sz : base ≤ a.heap.size
  on : Only base [92] a w
  pl : p < a.heap.size
theorem Xg.start {base : Nat} {a w : World} {p : Nat} {ao : Option Addr} {n cap : Nat} {bs : List Nat} {s : Nat × Nat} (h : Xg base a w p ao n cap bs s) : Xg base w w p ao n cap bs s :=
  ⟨h.q, h.src.only h.on, Nat.le_trans h.sz h.on.size, Only.refl _ _ _, h.q.lt⟩
theorem Xg.back {base : Nat} {a w w' : World} {p : Nat} {ao : Option Addr} {n cap : Nat} {bs : List Nat} {s t : Nat × Nat} (h : Xg base a w p ao n cap bs s) (k : Xg base w w' p ao n cap bs t) : Xg base a w' p ao n cap bs t :=
  ⟨k.q, h.src, h.sz, h.on.trans k.on, h.pl⟩
theorem Xg.fresh {base : Nat} {a w w' : World} {p : Nat} {ao : Option Addr} {n cap : Nat} {bs : List Nat} {s : Nat × Nat} (h : Xg base a w p ao n cap bs s) (hb : Below a.heap.size w w') : Xg base a w' p ao n cap bs s := by
  obtain ⟨⟨pos, hp, h2⟩, h3, h4, h5, h6⟩ := h
  exact ⟨⟨pos, by rw [hb.block p h6]; exact hp, h2⟩, h3, h4, h5.fresh hb h4, h6⟩
theorem Xg.num {base : Nat} {a w : World} {p : Nat} {ao : Option Addr} {n cap : Nat} {bs : List Nat} {s : Nat × Nat} (h : Xg base a w p ao n cap bs s) :
    Calls Tryd.prog 49 #[.pointer (some ⟨p, 0, none⟩)] w fun r w' => r = .returned (.int .i64 (rint bs s)) ∧ Xg base a w' p ao n cap bs (rtake n 8 s) ∧ Only base [92] w w' := by
  refine (xnum_any base p ao n cap s bs w h.q (h.src.only h.on) (Nat.le_trans h.sz h.on.size)).mono ?_
  rintro r w' ⟨rfl, h1, h2⟩
  exact ⟨rfl, ⟨h1, h.src, h.sz, h.on.trans h2, h.pl⟩, h2⟩
theorem Xg.most {base : Nat} {a w : World} {p : Nat} {ao : Option Addr} {n cap : Nat} {bs : List Nat} {s : Nat × Nat} (h : Xg base a w p ao n cap bs s) (q most e : Nat) (he : e ≠ 0) (hm : most ≤ 255) (hq : ∀ v : Nat, refuse q (v : Int) = if most < v then e else 0) :
    Calls Tryd.prog 50 #[.pointer (some ⟨p, 0, none⟩), .int .i64 (most : Int), .int .i64 (e : Int)] w fun r w' => r = .returned (.int .i64 ((rrule bs q s).1 : Nat)) ∧ Xg base a w' p ao n cap bs (rrule bs q s).2 ∧ Only base [92] w w' := by
  have U := xmost_any base p ao n cap s bs most e he hm w h.q (h.src.only h.on) (Nat.le_trans h.sz h.on.size)
  rw [xmost_rule bs most e q s he hq] at U
  refine U.mono ?_
  rintro r w' ⟨rfl, h1, h2⟩
  exact ⟨rfl, ⟨h1, h.src, h.sz, h.on.trans h2, h.pl⟩, h2⟩
theorem Xg.list {base : Nat} {a w : World} {p : Nat} {ao : Option Addr} {n cap : Nat} {bs : List Nat} {s : Nat × Nat} (h : Xg base a w p ao n cap bs s) (q most : Nat) (hm : most ≤ 255) (hq : ∀ v : Nat, refuse q (v : Int) = if most < v then 4 else 0) :
    Calls Tryd.prog 51 #[.pointer (some ⟨p, 0, none⟩), .int .i64 (most : Int)] w fun r w' => ∃ ao' cap' ys, r = .returned (.slice ao' ys.length cap') ∧ w'.ownsRow w.heap.size 3 1 (.slice ao' ys.length cap') ys.length (i64s ys) ∧ ys.length ≤ 64 ∧ ((rlist bs q s).2.2 = 0 → ys = (rlist bs q s).1) ∧ Xg base a w' p ao n cap bs (rlist bs q s).2 ∧ Only base [92] w w' := by
  refine (xlist_any base p q most hm hq ao n cap s bs w h.q (h.src.only h.on) (Nat.le_trans h.sz h.on.size)).mono ?_
  rintro r w' ⟨v, ys, rfl, h1, hl, h2, h3, h4⟩
  obtain ⟨ao', cap', rfl⟩ := row_slice h1
  exact ⟨ao', cap', ys, rfl, h1, hl, h2, ⟨h3, h.src, h.sz, h.on.trans h4, h.pl⟩, h4⟩
theorem ref0 (v : Nat) : refuse 0 (v : Int) = if 4 < v then 3 else 0 := by unfold refuse rule; simp only; split <;> split <;> omega
theorem ref1 (v : Nat) : refuse 1 (v : Int) = if 2 < v then 3 else 0 := by unfold refuse rule; simp only; split <;> split <;> omega
theorem ref4 (v : Nat) : refuse 4 (v : Int) = if 16 < v then 5 else 0 := by unfold refuse rule; simp only; split <;> split <;> omega
theorem ref5 (v : Nat) : refuse 5 (v : Int) = if 9 < v then 4 else 0 := by unfold refuse rule; simp only; split <;> split <;> omega
theorem rrule_er {bs : List Nat} {q : Nat} {s : Nat × Nat} (h : (rrule bs q s).2.2 = 0) : s.2 = 0 := by
  by_cases hs : s.2 = 0
  · exact hs
  · exfalso
    unfold rrule at h
    rw [rtake_er hs] at h
    split at h
    · exact hs h
    · simp [hs] at h
theorem str_nil : str [] = ⟨#[]⟩ := rfl
theorem heap_lt {w : World} {k : Nat} {o : Obj} (h : w.heap[k]? = some o) : k < w.heap.size := (Array.getElem?_eq_some_iff.1 h).1
theorem two_set {w y : World} {B i : Nat} {v : Value} {cur : Array Value} {t : TypeId} (hB : w.heap.size ≤ B) (hc : y.heap[B]? = some (.cells cur t (0, 0))) : Below w.heap.size y (y.setCell ⟨B, i, none⟩ v) ∧ (y.setCell ⟨B, i, none⟩ v).heap[B]? = some (.cells (cur.setIfInBounds i v) t (0, 0)) ∧ ∀ k, k ≠ B → (y.setCell ⟨B, i, none⟩ v).heap[k]? = y.heap[k]? :=
  ⟨(Below.refl _ _).setCell (p := ⟨B, i, none⟩) hB v, setCell_block hc, fun k hk => Below.heap_setCell _ _ _ k hk⟩

set_option maxRecDepth 20000 in
set_option maxHeartbeats 8000000 in
theorem xentry_any {base : Nat} {a w : World} {p : Nat} {ao : Option Addr} {n cap : Nat} {bs : List Nat} {s : Nat × Nat} (h : Xg base a w p ao n cap bs s) :
    Calls Tryd.prog 52 #[.pointer (some ⟨p, 0, none⟩)] w fun r w' => ∃ (x : Ent) (v : Value), r = .returned (.agg (x.cells v)) ∧ w'.ownsRow w.heap.size 3 1 v x.members.length (i64s x.members) ∧ x.members.length ≤ 64 ∧ ((rentry bs s).2.2 = 0 → x = (rentry bs s).1) ∧ Xg base a w' p ao n cap bs (rentry bs s).2 ∧ Only base [92] w w' := by
  have E1 : Hid (rentry bs s = (⟨(rrule bs 0 s).1, rint bs (rrule bs 0 s).2, rint bs (rtake n 8 (rrule bs 0 s).2), (rtext bs (rtake n 8 (rtake n 8 (rrule bs 0 s).2))).1, (rlist bs 5 (rtext bs (rtake n 8 (rtake n 8 (rrule bs 0 s).2))).2).1, (rrule bs 1 (rlist bs 5 (rtext bs (rtake n 8 (rtake n 8 (rrule bs 0 s).2))).2).2).1⟩, (rrule bs 1 (rlist bs 5 (rtext bs (rtake n 8 (rtake n 8 (rrule bs 0 s).2))).2).2).2)) := by show _ = _; unfold rentry; rw [h.src.len]
  have H := hide h
  obtain ⟨W0, hW0⟩ : ∃ W, w.alloc (.cells #[.int .i64 0, .int .i64 0, .int .i64 0, .string ⟨#[]⟩, .slice none 0 0, .int .i64 0] 24) = W := ⟨_, rfl⟩
  have b0 : Below w.heap.size w W0 := by rw [← hW0]; exact (Below.refl _ w).alloc (Nat.le_refl _) _
  have x0 : W0.heap[w.heap.size]? = some (.cells #[.int .i64 0, .int .i64 0, .int .i64 0, .string ⟨#[]⟩, .slice none 0 0, .int .i64 0] 24 (0, 0)) := by rw [← hW0]; exact heap_alloc_new _ _
  have G0 := hide (h.start.fresh b0)
  have RB := hide x0
  have HW0 := hide hW0
  have HN := hide h.src.len
  have HNUL := hide h.src.nul
  have hbig := h.src.big
  have hroom := h.src.room
  clear h b0 x0 hW0
  go_enter Tryd.func52, Tryd.ntmps52
  go_wp2_with fail
  rw [unhide HW0]
  clear HW0
  refine ((unhide G0).most 0 4 3 (by decide) (by decide) ref0).mono ?_
  rintro r w1 ⟨rfl, g1, k1⟩
  have RB1 := hide (k1.block (unhide RB) (by decide))
  generalize rrule bs 0 s = ka at *
  obtain ⟨ka, sa⟩ := ka
  simp only at g1
  obtain ⟨E, hE⟩ : ∃ E, w1.heap.size = E := ⟨_, rfl⟩
  obtain ⟨W1, hW1⟩ : ∃ W, w1.alloc (.cells #[.int .i64 (ka : Int), .int .i64 0, .int .i64 0, .string ⟨#[]⟩, .slice none 0 0, .int .i64 0] 24) = W := ⟨_, rfl⟩
  have sE : w.heap.size ≤ E := by rw [← hE]; exact g1.on.size
  have bW1 : Below w.heap.size w1 W1 := by rw [← hW1]; exact (Below.refl _ w1).alloc (by rw [hE]; exact sE) _
  have NE : Hid (w.heap.size ≠ E) := hide (fun hx => by have := heap_lt (unhide RB1); omega)
  have EB := hide (show W1.heap[E]? = some (.cells #[.int .i64 (ka : Int), .int .i64 0, .int .i64 0, .string ⟨#[]⟩, .slice none 0 0, .int .i64 0] 24 (0, 0)) by rw [← hW1, ← hE]; exact heap_alloc_new _ _)
  have RB2 := hide (show W1.heap[w.heap.size]? = some (.cells #[.int .i64 0, .int .i64 0, .int .i64 0, .string ⟨#[]⟩, .slice none 0 0, .int .i64 0] 24 (0, 0)) by rw [← hW1]; exact (Below.heap_alloc _ _ _ (heap_lt (unhide RB1))).trans (unhide RB1))
  have G1 := hide (g1.fresh bW1)
  have HW1 := hide hW1
  have HE := hide hE
  clear g1 k1 hW1 hE bW1 RB RB1 G0
  go_upto_region 2 with fail
  rw [unhide HW1, unhide HE]
  clear HW1 HE
  go_wp2_with fail
  refine ((unhide G1).num).mono ?_
  rintro r w2 ⟨rfl, g2, k2⟩
  have RBk := k2.block (unhide RB2) (by decide)
  have EBk := k2.block (unhide EB) (by decide)
  generalize rint bs (ka, sa).2 = yb at *
  generalize rtake n 8 (ka, sa).2 = sb at *
  obtain ⟨W2, hW2⟩ : ∃ W, w2.setCell ⟨E, 1, none⟩ (.int .i64 yb) = W := ⟨_, rfl⟩
  obtain ⟨bWk, xWk, yWk⟩ := two_set (i := 1) (v := .int .i64 yb) sE EBk
  rw [hW2] at bWk xWk yWk
  have e2 : w2.cell? ⟨E, 1, none⟩ = some (.int .i64 0) := (cell_of_block EBk).trans rfl
  have f2 : w2.frozen? ⟨E, 1, none⟩ = false := free_of_block EBk
  have EB2 := hide (show W2.heap[E]? = some (.cells #[.int .i64 (ka : Int), .int .i64 yb, .int .i64 0, .string ⟨#[]⟩, .slice none 0 0, .int .i64 0] 24 (0, 0)) from xWk)
  have RB3 := hide ((yWk _ (unhide NE)).trans RBk)
  have G2 := hide (g2.fresh bWk)
  have HWk := hide hW2
  clear g2 k2 RBk EBk bWk xWk yWk hW2 G1 RB2 EB
  go_upto_region 3 with fail
  rw [unhide HWk]
  clear HWk e2 f2
  go_wp2_with fail
  refine ((unhide G2).num).mono ?_
  rintro r w3 ⟨rfl, g3, k3⟩
  have RBk := k3.block (unhide RB3) (by decide)
  have EBk := k3.block (unhide EB2) (by decide)
  generalize rint bs sb = yc at *
  generalize rtake n 8 sb = sc at *
  obtain ⟨W3, hW3⟩ : ∃ W, w3.setCell ⟨E, 2, none⟩ (.int .i64 yc) = W := ⟨_, rfl⟩
  obtain ⟨bWk, xWk, yWk⟩ := two_set (i := 2) (v := .int .i64 yc) sE EBk
  rw [hW3] at bWk xWk yWk
  have e3 : w3.cell? ⟨E, 2, none⟩ = some (.int .i64 0) := (cell_of_block EBk).trans rfl
  have f3 : w3.frozen? ⟨E, 2, none⟩ = false := free_of_block EBk
  have EB3 := hide (show W3.heap[E]? = some (.cells #[.int .i64 (ka : Int), .int .i64 yb, .int .i64 yc, .string ⟨#[]⟩, .slice none 0 0, .int .i64 0] 24 (0, 0)) from xWk)
  have RB4 := hide ((yWk _ (unhide NE)).trans RBk)
  have G3 := hide (g3.fresh bWk)
  have HWk := hide hW3
  clear g3 k3 RBk EBk bWk xWk yWk hW3 G2 RB3 EB2
  go_upto_region 4 with fail
  rw [unhide HWk]
  clear HWk e3 f3
  go_wp2_with fail
  refine ((unhide G3).most 4 16 5 (by decide) (by decide) ref4).mono ?_
  rintro r w4 ⟨rfl, g4, k4⟩
  have RB5 := hide (k4.block (unhide RB4) (by decide))
  have EB4 := hide (k4.block (unhide EB3) (by decide))
  have hnn := rrule_le bs 4 sc
  generalize hrt : rtext bs sc = rt at *
  have hrt2 : rt = (taken bs (rrule bs 4 sc).1 (rrule bs 4 sc).2, rtake n (rrule bs 4 sc).1 (rrule bs 4 sc).2) := by rw [← hrt]; unfold rtext; rw [unhide HN]
  clear hrt
  generalize rrule bs 4 sc = nd at *
  obtain ⟨nn, s4⟩ := nd
  simp only at g4 hnn hrt2
  have HRT := hide hrt2
  have G4 := hide g4
  obtain ⟨pos, hp, hbp, hpe, hpn⟩ := g4.q
  obtain ⟨s41, er⟩ := s4
  simp only at hp hpe
  have c2 : w4.cell? ⟨p, 2, none⟩ = some (.int .i64 (er : Int)) := (cell_of_block hp).trans rfl
  have c1 : w4.cell? ⟨p, 1, none⟩ = some (.int .i64 (pos : Int)) := (cell_of_block hp).trans rfl
  have c0 : w4.cell? ⟨p, 0, none⟩ = some (.slice ao n cap) := (cell_of_block hp).trans rfl
  have HP := hide hp
  clear hp g4 k4 G3 RB4 EB3 hrt2
  by_cases he : er = 0
  · subst he
    obtain rfl := hpe rfl
    by_cases hc : n - pos < nn
    · have hci : (n : Int) - (pos : Int) < (nn : Int) := by omega
      have e1 : rtake n nn (pos, 0) = (pos, 8) := by unfold rtake; rw [if_neg (by simp), if_pos hc]
      have e2 : taken bs nn (pos, 0) = [] := taken_no (by rw [unhide HN, e1]; simp)
      have hrt := unhide HRT
      rw [e1, e2] at hrt
      subst hrt
      obtain ⟨d, hd⟩ : ∃ d : List Nat, [] = d := ⟨_, rfl⟩
      obtain ⟨sd, hsd⟩ : ∃ sd : Nat × Nat, (pos, 8) = sd := ⟨_, rfl⟩
      rw [hd, hsd] at E1
      have HD := hide hd
      have HSD := hide hsd
      clear hd hsd e1 e2 HRT hpe
      go_wp2_with fail
      go_quiet (fail)
      obtain ⟨v5, hv5⟩ : ∃ v5, w4.drewN nq = v5 := ⟨_, rfl⟩
      have hp5 : v5.heap[p]? = some (.cells #[.slice ao n cap, .int .i64 (pos : Int), .int .i64 ((0 : Nat) : Int)] 92 (0, 0)) := by rw [← hv5]; exact unhide HP
      have k5 : Only base [92] w4 v5 := by rw [← hv5]; exact only_drewN w4 nq (Nat.le_trans (unhide G4).sz (unhide G4).on.size)
      rw [hv5]
      have d2 : v5.cell? ⟨p, 2, none⟩ = some (.int .i64 ((0 : Nat) : Int)) := (cell_of_block hp5).trans rfl
      have f2 : v5.frozen? ⟨p, 2, none⟩ = false := free_of_block hp5
      obtain ⟨W5, hW5⟩ : ∃ W, v5.setCell ⟨p, 2, none⟩ (.int .i64 8) = W := ⟨_, rfl⟩
      have o5 : Only base [92] w4 W5 := by rw [← hW5]; exact k5.setCell (p := ⟨p, 2, none⟩) hbp _ hp5 (by simp)
      have x5 : W5.heap[p]? = some (.cells #[.slice ao n cap, .int .i64 (pos : Int), .int .i64 8] 92 (0, 0)) := by rw [← hW5]; exact setCell_block hp5
      have EB5 := hide (show W5.heap[E]? = some (.cells #[.int .i64 (ka : Int), .int .i64 yb, .int .i64 yc, .string (str d), .slice none 0 0, .int .i64 0] 24 (0, 0)) by rw [← unhide HD]; exact o5.block (unhide EB4) (by decide))
      have RB6 := hide (o5.block (unhide RB5) (by decide))
      have G5 : Hid (Xg base w W5 p ao n cap bs sd) := hide (by rw [← unhide HSD]; exact ⟨⟨pos, x5, hbp, (fun h => by cases h), hpn⟩, (unhide G4).src, (unhide G4).sz, (unhide G4).on.trans o5, (unhide G4).pl⟩)
      have c2' : W5.cell? ⟨p, 2, none⟩ = some (.int .i64 8) := (cell_of_block x5).trans rfl
      have HWk := hide hW5
      clear hv5 hp5 k5 hW5 o5 x5 HD HSD c0 c1 c2 G4 EB4 RB5 HP
      go_upto_region 7 with fail
      rw [unhide HWk]
      clear HWk d2 f2
      go_wp2_with fail
      refine ((unhide G5).list 5 9 (by decide) ref5).mono ?_
      rintro r w6 ⟨ao6, cap6, ys, rfl, o6, l6, y6, g6, k6⟩
      have RBk := k6.block (unhide RB6) (by decide)
      have EBk := k6.block (unhide EB5) (by decide)
      have z5 : Hid (w.heap.size ≤ W5.heap.size) := hide (unhide G5).on.size
      generalize rlist bs 5 (d, sd).2 = m at *
      obtain ⟨m, sm⟩ := m
      simp only at y6 g6
      obtain ⟨nm, hnm⟩ : ∃ nm, ys.length = nm := ⟨_, rfl⟩
      rw [hnm] at o6 l6
      rw [hnm]
      obtain ⟨W6, hW6⟩ : ∃ W, w6.setCell ⟨E, 4, none⟩ (.slice ao6 nm cap6) = W := ⟨_, rfl⟩
      obtain ⟨bWk, xWk, yWk⟩ := two_set (i := 4) (v := .slice ao6 nm cap6) sE EBk
      rw [hW6] at bWk xWk yWk
      have oWk : Only w.heap.size [24] w6 W6 := by rw [← hW6]; exact (Only.refl _ _ _).setCell (p := ⟨E, 4, none⟩) sE _ EBk (by simp)
      have e6 : w6.cell? ⟨E, 4, none⟩ = some (.slice none 0 0) := (cell_of_block EBk).trans rfl
      have f6 : w6.frozen? ⟨E, 4, none⟩ = false := free_of_block EBk
      have EB6 := hide (show W6.heap[E]? = some (.cells #[.int .i64 (ka : Int), .int .i64 yb, .int .i64 yc, .string (str d), .slice ao6 nm cap6, .int .i64 0] 24 (0, 0)) from xWk)
      have RB7 := hide ((yWk _ (unhide NE)).trans RBk)
      have G6 := hide (g6.fresh bWk)
      have O6 := hide (own_only o6 oWk (by decide))
      have HWk := hide hW6
      have Y6 := hide y6
      have HNM := hide hnm
      have L6 := hide l6
      clear g6 k6 RBk EBk bWk xWk yWk oWk hW6 o6 l6 y6 hnm G5 RB6 EB5
      go_upto_region 11 with fail
      rw [unhide HWk]
      clear HWk e6 f6
      go_wp2_with fail
      refine ((unhide G6).most 1 2 3 (by decide) (by decide) ref1).mono ?_
      rintro r w7 ⟨rfl, g7, k7⟩
      have RBk := k7.block (unhide RB7) (by decide)
      have EBk := k7.block (unhide EB6) (by decide)
      have HER : Hid ((rrule bs 1 (m, sm).2).2.2 = 0 → sm.2 = 0) := hide (fun h => rrule_er (s := sm) h)
      have ok7 := own_only (unhide O6) k7 (by decide)
      generalize rrule bs 1 (m, sm).2 = t at *
      obtain ⟨t, st⟩ := t
      simp only at g7 HER
      obtain ⟨W7, hW7⟩ : ∃ W, w7.setCell ⟨E, 5, none⟩ (.int .i64 (t : Int)) = W := ⟨_, rfl⟩
      obtain ⟨bWk, xWk, yWk⟩ := two_set (i := 5) (v := .int .i64 (t : Int)) sE EBk
      rw [hW7] at bWk xWk yWk
      have oWk : Only w.heap.size [24] w7 W7 := by rw [← hW7]; exact (Only.refl _ _ _).setCell (p := ⟨E, 5, none⟩) sE _ EBk (by simp)
      have e7 : w7.cell? ⟨E, 5, none⟩ = some (.int .i64 0) := (cell_of_block EBk).trans rfl
      have f7 : w7.frozen? ⟨E, 5, none⟩ = false := free_of_block EBk
      have EB7 := hide (show W7.heap[E]? = some (.cells #[.int .i64 (ka : Int), .int .i64 yb, .int .i64 yc, .string (str d), .slice ao6 nm cap6, .int .i64 (t : Int)] 24 (0, 0)) from xWk)
      have RB8 := hide ((yWk _ (unhide NE)).trans RBk)
      have G7 := hide (g7.fresh bWk)
      have O7 := hide (own_only ok7 oWk (by decide))
      have HWk := hide hW7
      clear g7 k7 RBk EBk bWk xWk yWk oWk hW7 ok7 G6 RB7 EB6 O6
      go_upto_region 12 with fail
      rw [unhide HWk]
      clear HWk e7 f7
      have a0 : W7.cell? ⟨E, 0, none⟩ = some (.int .i64 (ka : Int)) := (cell_of_block (unhide EB7)).trans rfl
      have z0' : W7.cell? ⟨w.heap.size, 0, none⟩ = some (.int .i64 0) := (cell_of_block (unhide RB8)).trans rfl
      have a1 : W7.cell? ⟨E, 1, none⟩ = some (.int .i64 yb) := (cell_of_block (unhide EB7)).trans rfl
      have z1' : W7.cell? ⟨w.heap.size, 1, none⟩ = some (.int .i64 0) := (cell_of_block (unhide RB8)).trans rfl
      have a2 : W7.cell? ⟨E, 2, none⟩ = some (.int .i64 yc) := (cell_of_block (unhide EB7)).trans rfl
      have z2' : W7.cell? ⟨w.heap.size, 2, none⟩ = some (.int .i64 0) := (cell_of_block (unhide RB8)).trans rfl
      have a3 : W7.cell? ⟨E, 3, none⟩ = some (.string (str d)) := (cell_of_block (unhide EB7)).trans rfl
      have z3' : W7.cell? ⟨w.heap.size, 3, none⟩ = some (.string ⟨#[]⟩) := (cell_of_block (unhide RB8)).trans rfl
      have a4 : W7.cell? ⟨E, 4, none⟩ = some (.slice ao6 nm cap6) := (cell_of_block (unhide EB7)).trans rfl
      have z4' : W7.cell? ⟨w.heap.size, 4, none⟩ = some (.slice none 0 0) := (cell_of_block (unhide RB8)).trans rfl
      have a5 : W7.cell? ⟨E, 5, none⟩ = some (.int .i64 (t : Int)) := (cell_of_block (unhide EB7)).trans rfl
      have z5' : W7.cell? ⟨w.heap.size, 5, none⟩ = some (.int .i64 0) := (cell_of_block (unhide RB8)).trans rfl
      have fz : ∀ i, W7.frozen? ⟨w.heap.size, i, none⟩ = false := fun i => free_of_block (unhide RB8)
      go_wp2
      obtain ⟨w8, h8⟩ : ∃ w8 : World, w8 = ((((((W7.setCell ⟨w.heap.size, 0, none⟩ (.int .i64 (ka : Int))).setCell ⟨w.heap.size, 1, none⟩ (.int .i64 yb)).setCell ⟨w.heap.size, 2, none⟩ (.int .i64 yc)).setCell ⟨w.heap.size, 3, none⟩ (.string (str d))).setCell ⟨w.heap.size, 4, none⟩ (.slice ao6 nm cap6)).setCell ⟨w.heap.size, 5, none⟩ (.int .i64 (t : Int))) := ⟨_, rfl⟩
      rw [← h8]
      have q8 : Only w.heap.size [24] W7 w8 ∧ w8.heap[w.heap.size]? = some (.cells #[.int .i64 (ka : Int), .int .i64 yb, .int .i64 yc, .string (str d), .slice ao6 nm cap6, .int .i64 (t : Int)] 24 (0, 0)) := by
        rw [h8]
        exact set_one (set_one (set_one (set_one (set_one (set_one ⟨Only.refl _ _ _, unhide RB8⟩ (Nat.le_refl _) (by simp) 0 _) (Nat.le_refl _) (by simp) 1 _) (Nat.le_refl _) (by simp) 2 _) (Nat.le_refl _) (by simp) 3 _) (Nat.le_refl _) (by simp) 4 _) (Nat.le_refl _) (by simp) 5 _
      have c0' : w8.cell? ⟨w.heap.size, 0, none⟩ = some (.int .i64 (ka : Int)) := (cell_of_block q8.2).trans rfl
      have c1' : w8.cell? ⟨w.heap.size, 1, none⟩ = some (.int .i64 yb) := (cell_of_block q8.2).trans rfl
      have c2' : w8.cell? ⟨w.heap.size, 2, none⟩ = some (.int .i64 yc) := (cell_of_block q8.2).trans rfl
      have c3' : w8.cell? ⟨w.heap.size, 3, none⟩ = some (.string (str d)) := (cell_of_block q8.2).trans rfl
      have c4' : w8.cell? ⟨w.heap.size, 4, none⟩ = some (.slice ao6 nm cap6) := (cell_of_block q8.2).trans rfl
      have c5' : w8.cell? ⟨w.heap.size, 5, none⟩ = some (.int .i64 (t : Int)) := (cell_of_block q8.2).trans rfl
      have g8 := (unhide G7).fresh q8.1.below
      refine bodyPost_ret (v := .agg #[.int .i64 (ka : Int), .int .i64 yb, .int .i64 yc, .string (str d), .slice ao6 nm cap6, .int .i64 (t : Int)]) (by simp [results, Tryd.results52, go_sem, c0', c1', c2', c3', c4', c5']) rfl ?_
      rw [unhide E1]
      refine ⟨⟨ka, yb, yc, d, ys, t⟩, .slice ao6 nm cap6, rfl, ?_, by rw [unhide HNM]; exact unhide L6, ?_, (unhide H).back g8, g8.on⟩
      · simp only [unhide HNM]
        exact own_wide (own_only (unhide O7) q8.1 (by decide)) (unhide z5)
      · intro h0
        rw [unhide Y6 (unhide HER h0)]
    · have hci : ¬ (n : Int) - (pos : Int) < (nn : Int) := by omega
      have e1 : rtake n nn (pos, 0) = (pos + nn, 0) := by unfold rtake; rw [if_neg (by simp), if_neg hc]
      have e2 : taken bs nn (pos, 0) = (bs.drop pos).take nn := by unfold taken; rw [unhide HN, e1, if_pos rfl]
      have hrt := unhide HRT
      rw [e1, e2] at hrt
      subst hrt
      obtain ⟨d, hd⟩ : ∃ d : List Nat, (bs.drop pos).take nn = d := ⟨_, rfl⟩
      obtain ⟨sd, hsd⟩ : ∃ sd : Nat × Nat, (pos + nn, 0) = sd := ⟨_, rfl⟩
      rw [hd, hsd] at E1
      have HD := hide hd
      have HSD := hide hsd
      clear hd hsd e1 e2 HRT hpe
      go_wp2_with fail
      go_quiet (fail)
      obtain ⟨v5, hv5⟩ : ∃ v5, w4.drewN nq = v5 := ⟨_, rfl⟩
      have b5 : Below w4.heap.size w4 v5 := by rw [← hv5]; exact drewN_below w4 nq
      have hp5 : v5.heap[p]? = some (.cells #[.slice ao n cap, .int .i64 (pos : Int), .int .i64 ((0 : Nat) : Int)] 92 (0, 0)) := by rw [← hv5]; exact unhide HP
      have G5 := hide ((unhide G4).fresh (b5.mono (unhide G4).on.size))
      have EB5 := hide ((b5.block _ (heap_lt (unhide EB4))).trans (unhide EB4))
      have RB6 := hide ((b5.block _ (heap_lt (unhide RB5))).trans (unhide RB5))
      rw [hv5]
      have d0 : v5.cell? ⟨p, 0, none⟩ = some (.slice ao n cap) := (cell_of_block hp5).trans rfl
      have d1 : v5.cell? ⟨p, 1, none⟩ = some (.int .i64 (pos : Int)) := (cell_of_block hp5).trans rfl
      have d2 : v5.cell? ⟨p, 2, none⟩ = some (.int .i64 ((0 : Nat) : Int)) := (cell_of_block hp5).trans rfl
      have d3 : v5.cell? ⟨E, 3, none⟩ = some (.string ⟨#[]⟩) := (cell_of_block (unhide EB5)).trans rfl
      have f3 : v5.frozen? ⟨E, 3, none⟩ = false := free_of_block (unhide EB5)
      have HP5 := hide hp5
      have SX : Hid (∀ Y, Below w.heap.size v5 Y → Y.cell? ⟨p, 0, none⟩ = some (.slice ao n cap) ∧ Y.cell? ⟨p, 1, none⟩ = some (.int .i64 (pos : Int)) ∧ Bytes Y ao bs) := hide (fun Y hY => by
        have g := (unhide G5).fresh hY
        have hy : Y.heap[p]? = _ := (hY.block p g.pl).trans (unhide HP5)
        exact ⟨(cell_of_block hy).trans rfl, (cell_of_block hy).trans rfl, g.src.stay Y g.on⟩)
      have EZ := hide (Below.refl w.heap.size v5)
      have EZ2 : Hid (∀ u, Below w.heap.size v5 (v5.setCell ⟨E, 3, none⟩ u)) := hide (fun u => (Below.refl _ _).setCell (p := ⟨E, 3, none⟩) sE u)
      clear hv5 b5 hp5 c0 c1 c2 G4 EB4 RB5 HP
      go_upto_region 8 with fail
      go_cut [] (fun wd => Below w.heap.size v5 wd ∧ wd.heap[E]? = some (.cells #[.int .i64 (ka : Int), .int .i64 yb, .int .i64 yc, .string (str d), .slice none 0 0, .int .i64 0] 24 (0, 0)) ∧ ∀ k, k ≠ E → wd.heap[k]? = v5.heap[k]?)
      case first =>
        by_cases hcp : cap = pos
        · obtain rfl : n = pos := by omega
          obtain rfl : nn = 0 := by omega
          subst hcp
          have hb0 : (0 : Int) ≤ (cap : Int) := by omega
          have hb1 : (cap : Int) ≤ (cap : Int) := by omega
          have hw0 : IntKind.i64.wrap (cap : Int) = (cap : Int) := IntWalk.i64_in _ (by omega)
          have hd0 : d = [] := by rw [← unhide HD]; simp
          subst hd0
          clear HD
          have SC : Hid (∀ Y, Below w.heap.size v5 Y → Y.cell? ⟨p, 0, none⟩ = some (.slice ao cap cap) ∧ Y.cell? ⟨p, 1, none⟩ = some (.int .i64 (cap : Int)) ∧ (convert 27 9 (.slice ao 0 0)).run Tryd.prog Y = .ok (.string (str [])) Y) := hide (fun Y hY => ⟨(unhide SX Y hY).1, (unhide SX Y hY).2.1, conv_str (bs := []) ⟨by simp, by simp⟩ rfl⟩)
          go_region_held3 (fun Y => Y.cell? ⟨p, 0, none⟩ = some (.slice ao cap cap) ∧ Y.cell? ⟨p, 1, none⟩ = some (.int .i64 (cap : Int)) ∧ (convert 27 9 (.slice ao 0 0)).run Tryd.prog Y = .ok (.string (str [])) Y)
            (first | with_reducible exact unhide SC _ (unhide EZ) | with_reducible exact unhide SC _ (unhide EZ).drew | with_reducible exact unhide SC _ (unhide EZ2 _) | with_reducible exact unhide SC _ (unhide EZ2 _).drew | with_reducible exact unhide SC _ ((unhide EZ).drew.setCell (p := ⟨E, 3, none⟩) sE _) | fail) (fail)
          all_goals
            go_wp2
            go_meet
            first
              | exact two_set sE (unhide EB5)
              | (obtain ⟨t1, t2, t3⟩ := two_set (i := 3) (v := .string (str d)) sE (unhide EB5); exact ⟨t1.drew, t2, t3⟩)
              | (obtain ⟨t1, t2, t3⟩ := two_set (i := 3) (v := .string (str [])) sE (unhide EB5); exact ⟨t1.drew, t2, t3⟩)
        · have hb0 : (0 : Int) ≤ (pos : Int) := by omega
          have hb3 : (0 : Int) ≤ (pos : Int) + (nn : Int) := by omega
          have hw0 : IntKind.i64.wrap ((pos : Int) + (nn : Int)) = (pos : Int) + (nn : Int) := IntWalk.i64_in _ (by omega)
          have hb1 : (pos : Int) ≤ (pos : Int) + (nn : Int) := by omega
          have hb2 : (pos : Int) + (nn : Int) ≤ (cap : Int) := by omega
          obtain ⟨ad, rfl⟩ : ∃ ad, ao = some ad := by
            cases ao with
            | none => exact absurd (unhide HNUL rfl) (by omega)
            | some ad => exact ⟨ad, rfl⟩
          have SC : Hid (∀ Y, Below w.heap.size v5 Y → Y.cell? ⟨p, 0, none⟩ = some (.slice (some ad) n cap) ∧ Y.cell? ⟨p, 1, none⟩ = some (.int .i64 (pos : Int)) ∧ (convert 27 9 (.slice (some (ad.add pos)) nn (cap - pos))).run Tryd.prog Y = .ok (.string (str d)) Y ∧ (convert 27 9 (.slice (some (ad.add pos)) (((pos : Int) + (nn : Int)).toNat - pos) (cap - pos))).run Tryd.prog Y = .ok (.string (str d)) Y) := hide (fun Y hY => by
            have hb := ((unhide SX Y hY).2.2.drop pos).take nn
            rw [unhide HD] at hb
            have hl : d.length = nn := by rw [← unhide HD, List.length_take, List.length_drop, unhide HN]; omega
            exact ⟨(unhide SX Y hY).1, (unhide SX Y hY).2.1, conv_str hb hl, by rw [show ((pos : Int) + (nn : Int)).toNat - pos = nn by omega]; exact conv_str hb hl⟩)
          go_region_held3 (fun Y => Y.cell? ⟨p, 0, none⟩ = some (.slice (some ad) n cap) ∧ Y.cell? ⟨p, 1, none⟩ = some (.int .i64 (pos : Int)) ∧ (convert 27 9 (.slice (some (ad.add pos)) nn (cap - pos))).run Tryd.prog Y = .ok (.string (str d)) Y ∧ (convert 27 9 (.slice (some (ad.add pos)) (((pos : Int) + (nn : Int)).toNat - pos) (cap - pos))).run Tryd.prog Y = .ok (.string (str d)) Y)
            (first | with_reducible exact unhide SC _ (unhide EZ) | with_reducible exact unhide SC _ (unhide EZ).drew | with_reducible exact unhide SC _ (unhide EZ2 _) | with_reducible exact unhide SC _ (unhide EZ2 _).drew | with_reducible exact unhide SC _ ((unhide EZ).drew.setCell (p := ⟨E, 3, none⟩) sE _) | fail) (fail)
          all_goals
            go_wp2
            go_meet
            first
              | exact two_set sE (unhide EB5)
              | (obtain ⟨t1, t2, t3⟩ := two_set (i := 3) (v := .string (str d)) sE (unhide EB5); exact ⟨t1.drew, t2, t3⟩)
              | (obtain ⟨t1, t2, t3⟩ := two_set (i := 3) (v := .string (str [])) sE (unhide EB5); exact ⟨t1.drew, t2, t3⟩)
      case rest =>
        obtain ⟨bc, xc, yc'⟩ := hcut
        have hpE : p ≠ E := by have := (unhide G5).pl; omega
        have hpc := (yc' p hpE).trans (unhide HP5)
        have gc := (unhide G5).fresh bc
        have h1 : wc.cell? ⟨p, 1, none⟩ = some (.int .i64 (pos : Int)) := (cell_of_block hpc).trans rfl
        have h1f : wc.frozen? ⟨p, 1, none⟩ = false := free_of_block hpc
        obtain ⟨W5, hW5⟩ : ∃ W, wc.setCell ⟨p, 1, none⟩ (.int .i64 ((pos : Int) + (nn : Int))) = W := ⟨_, rfl⟩
        have o5 : Only base [92] wc W5 := by rw [← hW5]; exact (Only.refl _ _ _).setCell (p := ⟨p, 1, none⟩) hbp _ hpc (by simp)
        have x5 : W5.heap[p]? = some (.cells #[.slice ao n cap, .int .i64 ((pos : Int) + (nn : Int)), .int .i64 ((0 : Nat) : Int)] 92 (0, 0)) := by rw [← hW5]; exact setCell_block hpc
        have EB9 := hide (o5.block xc (by decide))
        have RB9 := hide (o5.block ((yc' _ (unhide NE)).trans (unhide RB6)) (by decide))
        have G9 : Hid (Xg base w W5 p ao n cap bs sd) := hide (by
          rw [← unhide HSD]
          exact ⟨⟨pos + nn, by rw [show (((pos + nn : Nat)) : Int) = (pos : Int) + (nn : Int) by omega]; exact x5, hbp, (fun _ => rfl), by omega⟩, gc.src, gc.sz, gc.on.trans o5, gc.pl⟩)
        have HWk := hide hW5
        clear G5 EB5 RB6 d0 d1 d2 d3 f3 bc xc yc' hpE hpc gc hW5 o5 x5 SX EZ EZ2 HP5 HD HSD
        have G5 := hide (unhide G9)
        have EB5 := hide (unhide EB9)
        have RB6 := hide (unhide RB9)
        clear G9 EB9 RB9
        go_upto_region 10 with fail
        rw [unhide HWk]
        clear HWk h1 h1f
        go_wp2_with fail
        refine ((unhide G5).list 5 9 (by decide) ref5).mono ?_
        rintro r w6 ⟨ao6, cap6, ys, rfl, o6, l6, y6, g6, k6⟩
        have RBk := k6.block (unhide RB6) (by decide)
        have EBk := k6.block (unhide EB5) (by decide)
        have z5 : Hid (w.heap.size ≤ W5.heap.size) := hide (unhide G5).on.size
        generalize rlist bs 5 (d, sd).2 = m at *
        obtain ⟨m, sm⟩ := m
        simp only at y6 g6
        obtain ⟨nm, hnm⟩ : ∃ nm, ys.length = nm := ⟨_, rfl⟩
        rw [hnm] at o6 l6
        rw [hnm]
        obtain ⟨W6, hW6⟩ : ∃ W, w6.setCell ⟨E, 4, none⟩ (.slice ao6 nm cap6) = W := ⟨_, rfl⟩
        obtain ⟨bWk, xWk, yWk⟩ := two_set (i := 4) (v := .slice ao6 nm cap6) sE EBk
        rw [hW6] at bWk xWk yWk
        have oWk : Only w.heap.size [24] w6 W6 := by rw [← hW6]; exact (Only.refl _ _ _).setCell (p := ⟨E, 4, none⟩) sE _ EBk (by simp)
        have e6 : w6.cell? ⟨E, 4, none⟩ = some (.slice none 0 0) := (cell_of_block EBk).trans rfl
        have f6 : w6.frozen? ⟨E, 4, none⟩ = false := free_of_block EBk
        have EB6 := hide (show W6.heap[E]? = some (.cells #[.int .i64 (ka : Int), .int .i64 yb, .int .i64 yc, .string (str d), .slice ao6 nm cap6, .int .i64 0] 24 (0, 0)) from xWk)
        have RB7 := hide ((yWk _ (unhide NE)).trans RBk)
        have G6 := hide (g6.fresh bWk)
        have O6 := hide (own_only o6 oWk (by decide))
        have HWk := hide hW6
        have Y6 := hide y6
        have HNM := hide hnm
        have L6 := hide l6
        clear g6 k6 RBk EBk bWk xWk yWk oWk hW6 o6 l6 y6 hnm G5 RB6 EB5
        go_upto_region 11 with fail
        rw [unhide HWk]
        clear HWk e6 f6
        go_wp2_with fail
        refine ((unhide G6).most 1 2 3 (by decide) (by decide) ref1).mono ?_
        rintro r w7 ⟨rfl, g7, k7⟩
        have RBk := k7.block (unhide RB7) (by decide)
        have EBk := k7.block (unhide EB6) (by decide)
        have HER : Hid ((rrule bs 1 (m, sm).2).2.2 = 0 → sm.2 = 0) := hide (fun h => rrule_er (s := sm) h)
        have ok7 := own_only (unhide O6) k7 (by decide)
        generalize rrule bs 1 (m, sm).2 = t at *
        obtain ⟨t, st⟩ := t
        simp only at g7 HER
        obtain ⟨W7, hW7⟩ : ∃ W, w7.setCell ⟨E, 5, none⟩ (.int .i64 (t : Int)) = W := ⟨_, rfl⟩
        obtain ⟨bWk, xWk, yWk⟩ := two_set (i := 5) (v := .int .i64 (t : Int)) sE EBk
        rw [hW7] at bWk xWk yWk
        have oWk : Only w.heap.size [24] w7 W7 := by rw [← hW7]; exact (Only.refl _ _ _).setCell (p := ⟨E, 5, none⟩) sE _ EBk (by simp)
        have e7 : w7.cell? ⟨E, 5, none⟩ = some (.int .i64 0) := (cell_of_block EBk).trans rfl
        have f7 : w7.frozen? ⟨E, 5, none⟩ = false := free_of_block EBk
        have EB7 := hide (show W7.heap[E]? = some (.cells #[.int .i64 (ka : Int), .int .i64 yb, .int .i64 yc, .string (str d), .slice ao6 nm cap6, .int .i64 (t : Int)] 24 (0, 0)) from xWk)
        have RB8 := hide ((yWk _ (unhide NE)).trans RBk)
        have G7 := hide (g7.fresh bWk)
        have O7 := hide (own_only ok7 oWk (by decide))
        have HWk := hide hW7
        clear g7 k7 RBk EBk bWk xWk yWk oWk hW7 ok7 G6 RB7 EB6 O6
        go_upto_region 12 with fail
        rw [unhide HWk]
        clear HWk e7 f7
        have a0 : W7.cell? ⟨E, 0, none⟩ = some (.int .i64 (ka : Int)) := (cell_of_block (unhide EB7)).trans rfl
        have z0' : W7.cell? ⟨w.heap.size, 0, none⟩ = some (.int .i64 0) := (cell_of_block (unhide RB8)).trans rfl
        have a1 : W7.cell? ⟨E, 1, none⟩ = some (.int .i64 yb) := (cell_of_block (unhide EB7)).trans rfl
        have z1' : W7.cell? ⟨w.heap.size, 1, none⟩ = some (.int .i64 0) := (cell_of_block (unhide RB8)).trans rfl
        have a2 : W7.cell? ⟨E, 2, none⟩ = some (.int .i64 yc) := (cell_of_block (unhide EB7)).trans rfl
        have z2' : W7.cell? ⟨w.heap.size, 2, none⟩ = some (.int .i64 0) := (cell_of_block (unhide RB8)).trans rfl
        have a3 : W7.cell? ⟨E, 3, none⟩ = some (.string (str d)) := (cell_of_block (unhide EB7)).trans rfl
        have z3' : W7.cell? ⟨w.heap.size, 3, none⟩ = some (.string ⟨#[]⟩) := (cell_of_block (unhide RB8)).trans rfl
        have a4 : W7.cell? ⟨E, 4, none⟩ = some (.slice ao6 nm cap6) := (cell_of_block (unhide EB7)).trans rfl
        have z4' : W7.cell? ⟨w.heap.size, 4, none⟩ = some (.slice none 0 0) := (cell_of_block (unhide RB8)).trans rfl
        have a5 : W7.cell? ⟨E, 5, none⟩ = some (.int .i64 (t : Int)) := (cell_of_block (unhide EB7)).trans rfl
        have z5' : W7.cell? ⟨w.heap.size, 5, none⟩ = some (.int .i64 0) := (cell_of_block (unhide RB8)).trans rfl
        have fz : ∀ i, W7.frozen? ⟨w.heap.size, i, none⟩ = false := fun i => free_of_block (unhide RB8)
        go_wp2
        obtain ⟨w8, h8⟩ : ∃ w8 : World, w8 = ((((((W7.setCell ⟨w.heap.size, 0, none⟩ (.int .i64 (ka : Int))).setCell ⟨w.heap.size, 1, none⟩ (.int .i64 yb)).setCell ⟨w.heap.size, 2, none⟩ (.int .i64 yc)).setCell ⟨w.heap.size, 3, none⟩ (.string (str d))).setCell ⟨w.heap.size, 4, none⟩ (.slice ao6 nm cap6)).setCell ⟨w.heap.size, 5, none⟩ (.int .i64 (t : Int))) := ⟨_, rfl⟩
        rw [← h8]
        have q8 : Only w.heap.size [24] W7 w8 ∧ w8.heap[w.heap.size]? = some (.cells #[.int .i64 (ka : Int), .int .i64 yb, .int .i64 yc, .string (str d), .slice ao6 nm cap6, .int .i64 (t : Int)] 24 (0, 0)) := by
          rw [h8]
          exact set_one (set_one (set_one (set_one (set_one (set_one ⟨Only.refl _ _ _, unhide RB8⟩ (Nat.le_refl _) (by simp) 0 _) (Nat.le_refl _) (by simp) 1 _) (Nat.le_refl _) (by simp) 2 _) (Nat.le_refl _) (by simp) 3 _) (Nat.le_refl _) (by simp) 4 _) (Nat.le_refl _) (by simp) 5 _
        have c0' : w8.cell? ⟨w.heap.size, 0, none⟩ = some (.int .i64 (ka : Int)) := (cell_of_block q8.2).trans rfl
        have c1' : w8.cell? ⟨w.heap.size, 1, none⟩ = some (.int .i64 yb) := (cell_of_block q8.2).trans rfl
        have c2' : w8.cell? ⟨w.heap.size, 2, none⟩ = some (.int .i64 yc) := (cell_of_block q8.2).trans rfl
        have c3' : w8.cell? ⟨w.heap.size, 3, none⟩ = some (.string (str d)) := (cell_of_block q8.2).trans rfl
        have c4' : w8.cell? ⟨w.heap.size, 4, none⟩ = some (.slice ao6 nm cap6) := (cell_of_block q8.2).trans rfl
        have c5' : w8.cell? ⟨w.heap.size, 5, none⟩ = some (.int .i64 (t : Int)) := (cell_of_block q8.2).trans rfl
        have g8 := (unhide G7).fresh q8.1.below
        refine bodyPost_ret (v := .agg #[.int .i64 (ka : Int), .int .i64 yb, .int .i64 yc, .string (str d), .slice ao6 nm cap6, .int .i64 (t : Int)]) (by simp [results, Tryd.results52, go_sem, c0', c1', c2', c3', c4', c5']) rfl ?_
        rw [unhide E1]
        refine ⟨⟨ka, yb, yc, d, ys, t⟩, .slice ao6 nm cap6, rfl, ?_, by rw [unhide HNM]; exact unhide L6, ?_, (unhide H).back g8, g8.on⟩
        · simp only [unhide HNM]
          exact own_wide (own_only (unhide O7) q8.1 (by decide)) (unhide z5)
        · intro h0
          rw [unhide Y6 (unhide HER h0)]
  · have e1 : rtake n nn (s41, er) = (s41, er) := rtake_er he
    have e2 : taken bs nn (s41, er) = [] := taken_no (by rw [unhide HN, e1]; exact he)
    have hrt := unhide HRT
    rw [e1, e2] at hrt
    subst hrt
    obtain ⟨d, hd⟩ : ∃ d : List Nat, [] = d := ⟨_, rfl⟩
    obtain ⟨sd, hsd⟩ : ∃ sd : Nat × Nat, (s41, er) = sd := ⟨_, rfl⟩
    rw [hd, hsd] at E1
    have HD := hide hd
    have HSD := hide hsd
    clear hd hsd
    have q1 : ((er : Int) == 0) = false := by simp; omega
    clear e1 e2 HRT hpe
    go_wp2_with fail
    go_quiet (fail)
    obtain ⟨W5, hW5⟩ : ∃ W, w4.drewN nq = W := ⟨_, rfl⟩
    have b5 : Below w4.heap.size w4 W5 := by rw [← hW5]; exact drewN_below w4 nq
    have EB5 := hide (show W5.heap[E]? = some (.cells #[.int .i64 (ka : Int), .int .i64 yb, .int .i64 yc, .string (str d), .slice none 0 0, .int .i64 0] 24 (0, 0)) by rw [← unhide HD, b5.block _ (heap_lt (unhide EB4))]; exact unhide EB4)
    have RB6 := hide (show W5.heap[w.heap.size]? = some (.cells #[.int .i64 0, .int .i64 0, .int .i64 0, .string ⟨#[]⟩, .slice none 0 0, .int .i64 0] 24 (0, 0)) by rw [b5.block _ (heap_lt (unhide RB5))]; exact unhide RB5)
    have G5 : Hid (Xg base w W5 p ao n cap bs sd) := hide (by rw [← unhide HSD]; exact (unhide G4).fresh (b5.mono (unhide G4).on.size))
    have c2' : W5.cell? ⟨p, 2, none⟩ = some (.int .i64 (er : Int)) := (b5.cell (blk_lt c2)).trans c2
    rw [hW5]
    clear hW5 b5 HD HSD c0 c1 c2 G4 EB4 RB5 HP
    go_wp2_with fail
    refine ((unhide G5).list 5 9 (by decide) ref5).mono ?_
    rintro r w6 ⟨ao6, cap6, ys, rfl, o6, l6, y6, g6, k6⟩
    have RBk := k6.block (unhide RB6) (by decide)
    have EBk := k6.block (unhide EB5) (by decide)
    have z5 : Hid (w.heap.size ≤ W5.heap.size) := hide (unhide G5).on.size
    generalize rlist bs 5 (d, sd).2 = m at *
    obtain ⟨m, sm⟩ := m
    simp only at y6 g6
    obtain ⟨nm, hnm⟩ : ∃ nm, ys.length = nm := ⟨_, rfl⟩
    rw [hnm] at o6 l6
    rw [hnm]
    obtain ⟨W6, hW6⟩ : ∃ W, w6.setCell ⟨E, 4, none⟩ (.slice ao6 nm cap6) = W := ⟨_, rfl⟩
    obtain ⟨bWk, xWk, yWk⟩ := two_set (i := 4) (v := .slice ao6 nm cap6) sE EBk
    rw [hW6] at bWk xWk yWk
    have oWk : Only w.heap.size [24] w6 W6 := by rw [← hW6]; exact (Only.refl _ _ _).setCell (p := ⟨E, 4, none⟩) sE _ EBk (by simp)
    have e6 : w6.cell? ⟨E, 4, none⟩ = some (.slice none 0 0) := (cell_of_block EBk).trans rfl
    have f6 : w6.frozen? ⟨E, 4, none⟩ = false := free_of_block EBk
    have EB6 := hide (show W6.heap[E]? = some (.cells #[.int .i64 (ka : Int), .int .i64 yb, .int .i64 yc, .string (str d), .slice ao6 nm cap6, .int .i64 0] 24 (0, 0)) from xWk)
    have RB7 := hide ((yWk _ (unhide NE)).trans RBk)
    have G6 := hide (g6.fresh bWk)
    have O6 := hide (own_only o6 oWk (by decide))
    have HWk := hide hW6
    have Y6 := hide y6
    have HNM := hide hnm
    have L6 := hide l6
    clear g6 k6 RBk EBk bWk xWk yWk oWk hW6 o6 l6 y6 hnm G5 RB6 EB5
    go_upto_region 11 with fail
    rw [unhide HWk]
    clear HWk e6 f6
    go_wp2_with fail
    refine ((unhide G6).most 1 2 3 (by decide) (by decide) ref1).mono ?_
    rintro r w7 ⟨rfl, g7, k7⟩
    have RBk := k7.block (unhide RB7) (by decide)
    have EBk := k7.block (unhide EB6) (by decide)
    have HER : Hid ((rrule bs 1 (m, sm).2).2.2 = 0 → sm.2 = 0) := hide (fun h => rrule_er (s := sm) h)
    have ok7 := own_only (unhide O6) k7 (by decide)
    generalize rrule bs 1 (m, sm).2 = t at *
    obtain ⟨t, st⟩ := t
    simp only at g7 HER
    obtain ⟨W7, hW7⟩ : ∃ W, w7.setCell ⟨E, 5, none⟩ (.int .i64 (t : Int)) = W := ⟨_, rfl⟩
    obtain ⟨bWk, xWk, yWk⟩ := two_set (i := 5) (v := .int .i64 (t : Int)) sE EBk
    rw [hW7] at bWk xWk yWk
    have oWk : Only w.heap.size [24] w7 W7 := by rw [← hW7]; exact (Only.refl _ _ _).setCell (p := ⟨E, 5, none⟩) sE _ EBk (by simp)
    have e7 : w7.cell? ⟨E, 5, none⟩ = some (.int .i64 0) := (cell_of_block EBk).trans rfl
    have f7 : w7.frozen? ⟨E, 5, none⟩ = false := free_of_block EBk
    have EB7 := hide (show W7.heap[E]? = some (.cells #[.int .i64 (ka : Int), .int .i64 yb, .int .i64 yc, .string (str d), .slice ao6 nm cap6, .int .i64 (t : Int)] 24 (0, 0)) from xWk)
    have RB8 := hide ((yWk _ (unhide NE)).trans RBk)
    have G7 := hide (g7.fresh bWk)
    have O7 := hide (own_only ok7 oWk (by decide))
    have HWk := hide hW7
    clear g7 k7 RBk EBk bWk xWk yWk oWk hW7 ok7 G6 RB7 EB6 O6
    go_upto_region 12 with fail
    rw [unhide HWk]
    clear HWk e7 f7
    have a0 : W7.cell? ⟨E, 0, none⟩ = some (.int .i64 (ka : Int)) := (cell_of_block (unhide EB7)).trans rfl
    have z0' : W7.cell? ⟨w.heap.size, 0, none⟩ = some (.int .i64 0) := (cell_of_block (unhide RB8)).trans rfl
    have a1 : W7.cell? ⟨E, 1, none⟩ = some (.int .i64 yb) := (cell_of_block (unhide EB7)).trans rfl
    have z1' : W7.cell? ⟨w.heap.size, 1, none⟩ = some (.int .i64 0) := (cell_of_block (unhide RB8)).trans rfl
    have a2 : W7.cell? ⟨E, 2, none⟩ = some (.int .i64 yc) := (cell_of_block (unhide EB7)).trans rfl
    have z2' : W7.cell? ⟨w.heap.size, 2, none⟩ = some (.int .i64 0) := (cell_of_block (unhide RB8)).trans rfl
    have a3 : W7.cell? ⟨E, 3, none⟩ = some (.string (str d)) := (cell_of_block (unhide EB7)).trans rfl
    have z3' : W7.cell? ⟨w.heap.size, 3, none⟩ = some (.string ⟨#[]⟩) := (cell_of_block (unhide RB8)).trans rfl
    have a4 : W7.cell? ⟨E, 4, none⟩ = some (.slice ao6 nm cap6) := (cell_of_block (unhide EB7)).trans rfl
    have z4' : W7.cell? ⟨w.heap.size, 4, none⟩ = some (.slice none 0 0) := (cell_of_block (unhide RB8)).trans rfl
    have a5 : W7.cell? ⟨E, 5, none⟩ = some (.int .i64 (t : Int)) := (cell_of_block (unhide EB7)).trans rfl
    have z5' : W7.cell? ⟨w.heap.size, 5, none⟩ = some (.int .i64 0) := (cell_of_block (unhide RB8)).trans rfl
    have fz : ∀ i, W7.frozen? ⟨w.heap.size, i, none⟩ = false := fun i => free_of_block (unhide RB8)
    go_wp2
    obtain ⟨w8, h8⟩ : ∃ w8 : World, w8 = ((((((W7.setCell ⟨w.heap.size, 0, none⟩ (.int .i64 (ka : Int))).setCell ⟨w.heap.size, 1, none⟩ (.int .i64 yb)).setCell ⟨w.heap.size, 2, none⟩ (.int .i64 yc)).setCell ⟨w.heap.size, 3, none⟩ (.string (str d))).setCell ⟨w.heap.size, 4, none⟩ (.slice ao6 nm cap6)).setCell ⟨w.heap.size, 5, none⟩ (.int .i64 (t : Int))) := ⟨_, rfl⟩
    rw [← h8]
    have q8 : Only w.heap.size [24] W7 w8 ∧ w8.heap[w.heap.size]? = some (.cells #[.int .i64 (ka : Int), .int .i64 yb, .int .i64 yc, .string (str d), .slice ao6 nm cap6, .int .i64 (t : Int)] 24 (0, 0)) := by
      rw [h8]
      exact set_one (set_one (set_one (set_one (set_one (set_one ⟨Only.refl _ _ _, unhide RB8⟩ (Nat.le_refl _) (by simp) 0 _) (Nat.le_refl _) (by simp) 1 _) (Nat.le_refl _) (by simp) 2 _) (Nat.le_refl _) (by simp) 3 _) (Nat.le_refl _) (by simp) 4 _) (Nat.le_refl _) (by simp) 5 _
    have c0' : w8.cell? ⟨w.heap.size, 0, none⟩ = some (.int .i64 (ka : Int)) := (cell_of_block q8.2).trans rfl
    have c1' : w8.cell? ⟨w.heap.size, 1, none⟩ = some (.int .i64 yb) := (cell_of_block q8.2).trans rfl
    have c2' : w8.cell? ⟨w.heap.size, 2, none⟩ = some (.int .i64 yc) := (cell_of_block q8.2).trans rfl
    have c3' : w8.cell? ⟨w.heap.size, 3, none⟩ = some (.string (str d)) := (cell_of_block q8.2).trans rfl
    have c4' : w8.cell? ⟨w.heap.size, 4, none⟩ = some (.slice ao6 nm cap6) := (cell_of_block q8.2).trans rfl
    have c5' : w8.cell? ⟨w.heap.size, 5, none⟩ = some (.int .i64 (t : Int)) := (cell_of_block q8.2).trans rfl
    have g8 := (unhide G7).fresh q8.1.below
    refine bodyPost_ret (v := .agg #[.int .i64 (ka : Int), .int .i64 yb, .int .i64 yc, .string (str d), .slice ao6 nm cap6, .int .i64 (t : Int)]) (by simp [results, Tryd.results52, go_sem, c0', c1', c2', c3', c4', c5']) rfl ?_
    rw [unhide E1]
    refine ⟨⟨ka, yb, yc, d, ys, t⟩, .slice ao6 nm cap6, rfl, ?_, by rw [unhide HNM]; exact unhide L6, ?_, (unhide H).back g8, g8.on⟩
    · simp only [unhide HNM]
      exact own_wide (own_only (unhide O7) q8.1 (by decide)) (unhide z5)
    · intro h0
      rw [unhide Y6 (unhide HER h0)]
end Go.Proofs.YtojmnlbdhpledaaDoor
