/- net's take: a contract. -/
import Derived.Test.YtnplhoekkoomiaaNSend
import Derived.Test.YtnplhoekkoomiaaNDel
namespace Go.Proofs.Ytnplhoekkoomiaa
open Go.RowKit Go.Maps

theorem picked_nat (n m : Int) (k : Nat) (hk : n % m = k) (w : World) (h1 : 0 < m) (h2 : m ≤ 1000000000000) :
    Calls Try.prog 22 #[.int .i64 n, .int .i64 m] w fun ev w' => ev = .returned (.int .i64 (k : Int)) ∧ w' = w := by
  rw [← hk]; exact picked_any n m w h1 h2

theorem setRow_only {base g : Nat} {w : World} {cur cs : Array Value} {t : TypeId} {fr : Nat × Nat} (h : w.heap[g]? = some (.cells cur t fr)) (hb : base ≤ g) : Only base [t] w (w.setRow g cs) := by
  refine ⟨⟨rfl, rfl, rfl, by simp [World.setRow], fun k hk => setRow_other w g k cs (by omega)⟩, fun k hk hn => setRow_other w g k cs (fun e => ?_)⟩
  subst e; exact hn _ _ _ h (by simp)

/-- copy(s[1:], s[:i]), the pieces of one row. -/
theorem step_move {w : World} {ops : Array Oper} {o : Oper} {a : Act} {K : Act → World → Prop} {Q : Exit → Act → World → Prop} {E : Prop} (hgd : o.guard = none) (d s : Operand)
    (ho : o.op = .call { callee := .builtin .copy, args := #[d, s], argTypes := #[50, 50] }) (g off i dLen dCap sCap : Nat) (hd : a.eval d = .slice (some ⟨g, off + 1, none⟩) dLen dCap) (hs : a.eval s = .slice (some ⟨g, off, none⟩) i sCap) (hi : i ≤ dLen)
    (cur : Array Value) (hg : w.heap[g]? = some (.cells cur 55 (0, 0))) (hfit : off + 1 + i ≤ cur.size) (h1 : ∀ j v, j < i → cur[off + j]? = some v → v.oneCell' = true) (base : Nat) (hb : base ≤ g)
    (h : ∀ w' cur', w'.heap[g]? = some (.cells cur' 55 (0, 0)) → cur'.size = cur.size → (∀ j, j < i → cur'[off + 1 + j]? = cur[off + j]?) → (∀ j, j < off + 1 ∨ off + 1 + i ≤ j → cur'[j]? = cur[j]?) → Only base [55] w w' → K (a.put o.dst (goInt i)) w') :
    if Region.wanted o (yielded ops a.tmps) = true then Oper.wp Try.prog o a w K Q else E := by
  refine step_on hgd ?_
  obtain ⟨cs, hcs⟩ : ∃ cs, cs = (cur.toList.drop off).take i := ⟨_, rfl⟩
  have hl : cs.length = i := by rw [hcs]; simp; omega
  have hget : ∀ j, j < i → cs[j]? = cur[off + j]? := fun j hj => by rw [hcs, List.getElem?_take_of_lt hj, List.getElem?_drop, Array.getElem?_toList]
  have hrun := run_copy_row (P := Try.prog) w 50 50 o.type 55 g (off + 1) dLen dCap ⟨g, off, none⟩ i sCap cur 55 cs Try.underlying50 (by kernel_rfl) hg (by rw [hl]; exact (Nat.min_eq_left hi).symm)
    (fun j v hj => by
      have hji : j < i := by have := (List.getElem?_eq_some_iff.1 hj).1; omega
      rw [Addr.add_lit, cell_of_block hg, ← hget j hji]; exact hj)
    (by rw [hl]; exact hfit)
    (fun v hv => by
      obtain ⟨j, hj⟩ := List.getElem?_of_mem hv
      have hji : j < i := by have := (List.getElem?_eq_some_iff.1 hj).1; omega
      exact h1 j v hji (by rw [← hget j hji]; exact hj))
  unfold Oper.wp
  simp [execOp, ho, resolve, invoke, builtin, hd, hs, hrun, Result.andThen]
  rw [hl]
  refine h _ _ (setRow_heap w g cur _ _ _ hg) ?_ ?_ ?_ (setRow_only hg hb)
  · simp [hl]; omega
  · intro j hj
    rw [List.getElem?_toArray, List.getElem?_append_right (by simp; omega), List.getElem?_append_left (by simp [hl]; omega)]
    rw [← hget j hj]
    congr 1
    simp; omega
  · intro j hj
    rw [List.getElem?_toArray]
    rcases hj with hj | hj
    · rw [List.getElem?_append_left (by simp; omega), List.getElem?_take_of_lt hj, Array.getElem?_toList]
    · rw [List.getElem?_append_right (by simp; omega), List.getElem?_append_right (by simp [hl]; omega), List.getElem?_drop, Array.getElem?_toList]
      congr 1
      simp [hl]; omega

theorem Ms.erase {base : Nat} {w : World} {bs : List Nat} {ms : List M} (h : Ms base w bs ms) (i : Nat) : Ms base w (bs.eraseIdx i) (ms.eraseIdx i) := by
  refine ⟨by simp [List.length_eraseIdx, h.1], fun j b m hb hm => ?_⟩
  rw [List.getElem?_eraseIdx] at hb hm
  split at hb
  · rename_i h0; rw [if_pos h0] at hm; exact h.2 j b m hb hm
  · rename_i h0; rw [if_neg h0] at hm; exact h.2 _ b m hb hm

set_option maxRecDepth 20000 in
set_option maxHeartbeats 2000000 in
theorem take_any {base p at' : Nat} {kk : Int} {bs : List Nat} {ms : List M} {side : List Int} {lost b : Nat} (w : World) (h : Nt base w p bs ms side lost) (hl : ms.length ≤ 1000000) (hk : kk % (ms.length : Int) = (at' : Int)) (hb : bs[at']? = some b) (hbase : base ≤ w.heap.size) :
    Calls Try.prog 21 #[.pointer (some ⟨p, 0, none⟩), .int .i64 kk] w fun e w' => e = .returned (.pointer (some ⟨b, 0, none⟩)) ∧ Nt base w' p (bs.eraseIdx at') (ms.eraseIdx at') side lost ∧ Only base [53, 55] w w' := by
  obtain ⟨v, mv, p1, p2, p3, p4, p5⟩ := h
  have hlt := (List.getElem?_eq_some_iff.1 hb).1
  rcases p3 with ⟨rfl, rfl⟩ | ⟨g, off, cap, cur, rfl, hg, hh, hc, hcm, hs, hp⟩
  · simp at hlt
  rw [← p4.1] at hk hl
  obtain ⟨k, hkn⟩ : ∃ k, bs.length = k + 1 := ⟨bs.length - 1, by omega⟩
  rw [hkn] at p2 hk hl hc hlt
  have cb : w.cell? ⟨g, off + at', none⟩ = some (.pointer (some ⟨b, 0, none⟩)) := (cell_of_block hh).trans (hp at' b hb)
  have c0 : w.cell? ⟨p, 0, none⟩ = some (.slice (some ⟨g, off, none⟩) (k + 1) cap) := (cell_of_block p2).trans rfl
  have f0 : w.frozen? ⟨p, 0, none⟩ = false := free_of_block p2
  have hgp : g ≠ p := fun e => by subst e; rw [hh] at p2; cases p2
  have hcm' : cap ≤ 9223372036854775807 := hcm
  have HK : Hid (kk % ((k + 1 : Nat) : Int) = (at' : Int)) := hk
  have H2 := hide p2
  have H4 := hide p4
  have H5 := hide p5
  have HH := hide hh
  have HS := hide hs
  have HP := hide hp
  have HB := hide hb
  have HKN := hide hkn
  have PK := hide (picked_nat kk ((k + 1 : Nat) : Int) at' hk w (by omega) (by omega))
  clear p2 p4 p5 hh hs hp hb hk hkn
  have hdiv : (k + 1) / 2 ≤ k := by omega
  by_cases hlo : at' < (k + 1) / 2
  · have q1 : (at' : Int) < ((k : Int) + 1) / 2 := by omega
    go_enter Try.func21, Try.ntmps21
    go_wp2_with fail
    refine (unhide PK).mono ?_
    rintro e w1 ⟨rfl, rfl⟩
    have z1 : ¬ cap = 1 := by omega
    have z2 : at' ≤ cap := by omega
    have z3 : 1 ≤ cap := by omega
    have z4 : ¬ (1 = cap) := by omega
    have H1C : Hid (∀ j v, j < at' → cur[off + j]? = some v → v.oneCell' = true) := fun j v hj hv => by
      have hjl : j < bs.length := by rw [unhide HKN]; omega
      have := unhide HP j bs[j] (List.getElem?_eq_getElem hjl)
      rw [this] at hv; cases hv; rfl
    have HHD : Hid (w1.drew.heap[g]? = some (.cells cur 55 (0, 0))) := unhide HH
    have HFIT : Hid (off + 1 + at' ≤ cur.size) := by show _ ≤ _; rw [unhide HS]; omega
    go_upto_region 4 with fail
    go_region_held_law (fun x => x.cell? ⟨p, 0, none⟩ = some (.slice (some ⟨g, off, none⟩) (k + 1) cap))
      (first | exact unhide X2 | exact c0)
      (first
        | (refine step_move rfl (.tmp 33) (.tmp 39) rfl g off at' k (cap - 1) cap (by simp [Act.eval]) (by simp [Act.eval]) (by omega) cur (unhide HHD) (unhide HFIT) (unhide H1C) base hg ?_
           intro w2 cur2 y1 y2 y3 y4 o2
           have X2 := hide (show w2.cell? ⟨p, 0, none⟩ = some (.slice (some ⟨g, off, none⟩) (k + 1) cap) from by rw [o2.cells (w := w1.drew) (unhide H2) (by decide)]; exact c0)
           have Y1 := hide y1
           have Y2 := hide y2
           have Y3 := hide y3
           have Y4 := hide y4
           have O2 := hide o2
           clear y1 y2 y3 y4 o2))
    all_goals
      have y1 := unhide Y1
      have e0 : cur2[off]? = cur[off]? := unhide Y4 off (by omega)
      have hb0 : 0 < bs.length := by rw [unhide HKN]; omega
      have hcur0 := unhide HP 0 bs[0] (List.getElem?_eq_getElem hb0)
      rw [Nat.add_zero] at hcur0
      obtain ⟨u0, c1⟩ : ∃ u0, w2.cell? ⟨g, off, none⟩ = some (.pointer u0) := ⟨_, (cell_of_block y1).trans (e0.trans hcur0)⟩
      have f1 : w2.frozen? ⟨g, off, none⟩ = false := free_of_block y1
      have c2 := unhide X2
      have p2 : w2.heap[p]? = _ := (unhide O2).block (w := w1.drew) (unhide H2) (by decide)
      have f2 : w2.frozen? ⟨p, 0, none⟩ = false := free_of_block p2
      have o3 : Only base [55] w2 (w2.setCell ⟨g, off, none⟩ (.pointer none)) := (Only.refl _ _ w2).setCell (p := ⟨g, off, none⟩) hg _ y1 (by simp)
      have o4 : Only base [55] w1 (w2.setCell ⟨g, off, none⟩ (.pointer none)) := (((Only.refl base [55] w1).drew).trans (unhide O2)).trans o3
      have hel : (bs.eraseIdx at').length = k := by rw [List.length_eraseIdx, if_pos (by rw [unhide HKN]; omega), unhide HKN]; rfl
      have hway : Way base (w2.setCell ⟨g, off, none⟩ (.pointer none)) (.slice (some ⟨g, off + 1, none⟩) k (cap - 1)) (bs.eraseIdx at') := by
        refine Or.inr ⟨g, off + 1, cap - 1, _, by rw [hel], hg, setCell_block y1, by rw [hel]; omega, by unfold maxLen at hcm ⊢; omega, by rw [Array.size_setIfInBounds, unhide Y2, unhide HS]; omega, fun i c hc => ?_⟩
        rw [Array.getElem?_setIfInBounds, if_neg (by omega)]
        have hil := (List.getElem?_eq_some_iff.1 hc).1
        rw [List.getElem?_eraseIdx] at hc
        split at hc
        · rename_i h0
          rw [unhide Y3 i h0]; exact unhide HP i c hc
        · rename_i h0
          rw [unhide Y4 (off + 1 + i) (by omega), show off + 1 + i = off + (i + 1) by omega]
          exact unhide HP (i + 1) c hc
      have nt := nt_way (v' := .slice (some ⟨g, off + 1, none⟩) k (cap - 1)) p1 (o4.block (unhide H2) (by decide)) hway (((unhide H4).only o4 (by decide)).erase at') ((unhide H5).only o4)
      have NT := hide nt
      have O4 := hide o4
      clear y1 e0 hb0 hcur0 p2 o3 o4 hel hway nt c0 f0 cb
    all_goals go_wp2
    all_goals go_ret
    all_goals exact ⟨rfl, (unhide NT).1, ((unhide O4).mono (Nat.le_refl _) (by simp)).trans ((unhide NT).2.mono (Nat.le_refl _) (by simp))⟩
  · have q1 : ¬ (at' : Int) < ((k : Int) + 1) / 2 := by omega
    have DEL := hide (delete_any (bs := bs) (at' := at') w (unhide HKN) hg (unhide HH) hc hcm (unhide HS) (unhide HP) (by omega))
    go_enter Try.func21, Try.ntmps21
    go_wp2_with fail
    refine (unhide PK).mono ?_
    rintro e w1 ⟨rfl, rfl⟩
    go_wp2_with fail
    refine (unhide DEL).mono ?_
    rintro e w2 ⟨rfl, way2, o2⟩
    have p2 := o2.block (unhide H2) (by decide)
    have c2 : w2.cell? ⟨p, 0, none⟩ = some (.slice (some ⟨g, off, none⟩) (k + 1) cap) := (cell_of_block p2).trans rfl
    have f2 : w2.frozen? ⟨p, 0, none⟩ = false := free_of_block p2
    have NT := hide (nt_way p1 p2 way2 (((unhide H4).only o2 (by decide)).erase at') ((unhide H5).only o2))
    have O2 := hide o2
    clear p2 way2 o2 c0 f0 cb
    go_wp2
    go_ret
    exact ⟨rfl, (unhide NT).1, ((unhide O2).mono (Nat.le_refl _) (by simp)).trans ((unhide NT).2.mono (Nat.le_refl _) (by simp))⟩
end Go.Proofs.Ytnplhoekkoomiaa
