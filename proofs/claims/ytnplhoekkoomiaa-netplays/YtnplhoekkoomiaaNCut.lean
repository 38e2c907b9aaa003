/- net's Cut: a contract. -/
import Derived.Test.YtnplhoekkoomiaaNFunc
import Derived.Maps.Own
namespace Go.Proofs.Ytnplhoekkoomiaa
open Go.RowKit Go.Maps

theorem deleteFunc_nil (p : Nat) (w : World) : Calls Try.prog 23 #[.slice none 0 0, cutsOf p] w fun e w' => e = .returned (.slice none 0 0) ∧ w' = w := by
  go_enter Try.func23, Try.ntmps23
  go_wp2_with fail
  refine (index_nil p w).mono ?_
  rintro e w1 ⟨rfl, rfl⟩
  go_wp2
  go_ret
  exact ⟨rfl, rfl⟩

theorem keep_fst (side : List Int) : ∀ (bs : List Nat) (ms : List M), bs.length = ms.length → (keep side (bs.zip ms)).map (·.2) = ms.filter (passB side)
  | [], [], _ => rfl
  | b :: bs, m :: ms, h => by
    have ih := keep_fst side bs ms (by simpa using h)
    unfold keep at ih ⊢
    rw [List.zip_cons_cons, List.filter_cons, List.filter_cons]
    split <;> simp [ih]
  | [], _ :: _, h => by simp at h
  | _ :: _, [], h => by simp at h
theorem filter_count (side : List Int) (ms : List M) : (ms.filter (passB side)).length + lostN side ms = ms.length := by
  induction ms with
  | nil => rfl
  | cons m ms ih =>
    unfold lostN at ih ⊢
    rw [List.filter_cons, List.filter_cons]
    cases h : cutB side m.f m.t <;> simp [passB, h] at ih ⊢ <;> omega
theorem Ms.keep {base : Nat} {w : World} {bs : List Nat} {ms : List M} (h : Ms base w bs ms) (side : List Int) : Ms base w ((Go.Proofs.Ytnplhoekkoomiaa.keep side (bs.zip ms)).map (·.1)) (ms.filter (passB side)) := by
  rw [← keep_fst side bs ms h.1]
  refine ⟨by simp, fun i b m hb hm => ?_⟩
  rw [List.getElem?_map] at hb hm
  cases hq : (Go.Proofs.Ytnplhoekkoomiaa.keep side (bs.zip ms))[i]? with
  | none => rw [hq] at hb; simp at hb
  | some q =>
    rw [hq] at hb hm
    simp at hb hm
    subst hb hm
    have hmem : q ∈ bs.zip ms := (List.mem_filter.1 (List.mem_of_getElem? hq)).1
    obtain ⟨j, hj⟩ := List.getElem?_of_mem hmem
    rw [List.getElem?_zip_eq_some] at hj
    exact h.2 j q.1 q.2 hj.1 hj.2

/-- numbers behind an address. -/
def Ints (w : World) (ao : Option Addr) (ys : List Int) : Prop := ∀ (i : Nat) (y : Int), ys[i]? = some y → ∃ a, ao = some a ∧ w.cell? (a.add i) = some (.int .i64 y)

theorem has_put {D : DataW Unit} (hD : IsMap D) (x y : Int) (d : DataW Unit) (ys : List Int) (h : ∀ x : Int, Maps.has D (.int .i64 x) = decide (x ∈ ys)) : Maps.has (D.put (.int .i64 y) d) (.int .i64 x) = decide (x ∈ ys ++ [y]) := by
  by_cases e : x = y
  · subst e
    rw [has_put_same hD (by simp [WideAt.IsKeyLit])]; simp
  · rw [has_put_other (by simpa using e), h x]
    simp [e]

set_option maxRecDepth 20000 in
set_option maxHeartbeats 2000000 in
theorem cut_any {base p ny cap : Nat} {ao : Option Addr} {bs : List Nat} {ms : List M} {side0 ys : List Int} {lost : Nat} (w : World) (h : Nt base w p bs ms side0 lost) (hmf : ∀ m ∈ ms, M.wf m) (hl : ms.length ≤ 1000000) (hlo : lost ≤ 1000000) (hbase : base ≤ w.heap.size)
    (hny : ys.length = ny) (hnb : ny ≤ 1000000) (hyf : ∀ y ∈ ys, (Lit.int .i64 y).wf = true) (hy : ∀ w', Only base [53, 55] w w' → Ints w' ao ys) :
    Calls Try.prog 15 #[.pointer (some ⟨p, 0, none⟩), .slice ao ny cap] w fun e w' => e = .returned (.tuple #[]) ∧ (∃ bs', Nt base w' p bs' (ms.filter (passB ys)) ys (lost + lostN ys ms)) ∧ Only base [53, 55] w w' := by
  obtain ⟨v, mv, p1, p2, p3, p4, p5⟩ := h
  have c1 : w.cell? ⟨p, 1, none⟩ = some mv := (cell_of_block p2).trans rfl
  have f1 : w.frozen? ⟨p, 1, none⟩ = false := free_of_block p2
  have hplt := blk_lt' p2
  have hmm := @run_makeMap Try.prog
  obtain ⟨W, hW⟩ : ∃ W, (w.setCell ⟨p, 1, none⟩ (.map (some w.heap.size))).alloc (.map #[] 0) = W := ⟨_, rfl⟩
  have oA : Only base [53, 55] w (w.setCell ⟨p, 1, none⟩ (.map (some w.heap.size))) := (Only.refl _ _ w).setCell (p := ⟨p, 1, none⟩) p1 _ p2 (by simp)
  have pA : (w.setCell ⟨p, 1, none⟩ (.map (some w.heap.size))).heap[p]? = some (.cells #[v, .map (some w.heap.size), .int .i64 (lost : Int)] 53 (0, 0)) := setCell_block p2
  have oW : Only base [53, 55] w W := by rw [← hW]; exact oA.alloc (by rw [setCell_size]; exact hbase) _
  have pW : W.heap[p]? = some (.cells #[v, .map (some w.heap.size), .int .i64 (lost : Int)] 53 (0, 0)) := by rw [← hW]; exact (Below.heap_alloc _ _ p (by rw [setCell_size]; exact hplt)).trans pA
  have mW : W.ownsMap (H := Unit) Try.prog 3 unitElem w.heap.size 0 (.map []) := by
    have := World.ownsMap_made (H := Unit) (w.setCell ⟨p, 1, none⟩ (.map (some w.heap.size))) Try.prog 3 unitElem
    rw [setCell_size, hW] at this; exact this
  have kW : ∀ j, j < w.heap.size → j ≠ p → W.heap[j]? = w.heap[j]? := fun j hj hjp => by
    rw [← hW, Below.heap_alloc _ _ j (by rw [setCell_size]; exact hj)]; exact Below.heap_setCell w ⟨p, 1, none⟩ _ j hjp
  have HW := hide hW
  have OW := hide oW
  have PW := hide pW
  have MW := hide mW
  have P2 := hide p2
  have P3 := hide p3
  have P4 := hide p4
  have HY := hide hy
  have HNY := hide hny
  have HYF := hide hyf
  have HMF := hide hmf
  have KW := hide kW
  clear hW oW pW mW p2 p3 p4 p5 hy hny hyf oA pA hmf kW
  go_enter Try.func15, Try.ntmps15
  go_upto_region 1 with fail
  rw [unhide HW]
  clear HW
  go_wp2_with fail
  go_loopg [13] ny (fun gg iv wr => ∃ (k : Nat) (D : DataW Unit), k + gg = ny ∧ iv = .int .i64 (k : Int) ∧ wr.heap[p]? = some (.cells #[v, .map (some w.heap.size), .int .i64 (lost : Int)] 53 (0, 0)) ∧ wr.ownsMap (H := Unit) Try.prog 3 unitElem w.heap.size k D ∧ (∀ x : Int, Maps.has D (.int .i64 x) = decide (x ∈ ys.take k)) ∧ Only base [53, 55] w wr ∧ (∀ j, j < w.heap.size → j ≠ p → wr.heap[j]? = w.heap[j]?))
  case atStart => exact ⟨0, .map [], by omega, rfl, unhide PW, unhide MW, fun x => by simp [Maps.has], unhide OW, unhide KW⟩
  case round =>
    obtain ⟨k, D, hgk, rfl, hbox, hown, hhas, honly, hkept⟩ := hrel
    have hkn : k ≤ ny := by omega
    by_cases hlt : k < ny
    · obtain ⟨y, hyk⟩ : ∃ y, ys[k]? = some y := ⟨_, List.getElem?_eq_getElem (by rw [unhide HNY]; exact hlt)⟩
      obtain ⟨a, rfl, ca⟩ := unhide HY wr honly k y hyk
      have cm : wr.cell? ⟨p, 1, none⟩ = some (.map (some w.heap.size)) := (cell_of_block hbox).trans rfl
      have hwy := unhide HYF y (List.mem_of_getElem? hyk)
      have HS : Hid (ys.take (k + 1) = ys.take k ++ [y]) := by show _ = _; rw [List.take_add_one, hyk]; rfl
      have HG := hide hgk
      have HB := hide hbox
      have HOW := hide hown
      have HHAS := hide hhas
      have HON := hide honly
      have HKE := hide hkept
      have HWY := hide hwy
      clear hgk hbox hown hhas honly hkept hwy hyk PW MW OW KW
      go_wp2_with (first | (at_mapUpdate; refine wpList_mapUpdate_own _ rfl _ _ _ 51 rfl 3 58 keyed Try.underlying51 _ w.heap.size k D rfl (unhide HOW) (by unfold maxLen; omega) _ _ (.int .i64 y) rfl rfl (keyOf_int_mk Try.underlying3 (unhide HWY)) _ [] unitElem_mk ?_; intro w2 own2 grow2) | go_in)
      have hb2 : ∀ j, j < wr.heap.size → j ≠ w.heap.size → w2.heap[j]? = wr.heap[j]? := fun j hj hne => grow2.block j hj (fun e => hne (by simpa using e))
      have FIN : Hid (w2.heap[p]? = some (.cells #[v, .map (some w.heap.size), .int .i64 (lost : Int)] 53 (0, 0)) ∧ Only base [53, 55] w w2 ∧ (∀ j, j < w.heap.size → j ≠ p → w2.heap[j]? = w.heap[j]?)) := by
        have hsz := (unhide HON).size
        refine ⟨by rw [hb2 p (by omega) (by omega)]; exact unhide HB, ⟨(unhide HON).1.grown grow2 (Nat.le_trans hbase hsz) (fun j hj => by cases hj; exact hbase), fun j hj hn => ?_⟩, fun j hj hne => ?_⟩
        · rw [hb2 j (by omega) (by omega)]; exact (unhide HON).2 j hj hn
        · rw [hb2 j (by omega) (by omega)]; exact unhide HKE j hj hne
      have OW2 := hide own2
      clear hb2 grow2 own2
      go_roundg (ny - (k + 1))
      case measure => have := unhide HG; omega
      case rel =>
        exact ⟨k + 1, _, by omega, by go_num, (unhide FIN).1, unhide OW2, fun x => by rw [unhide HS]; exact has_put (unhide HOW).isMap x y _ _ (unhide HHAS), (unhide FIN).2.1, (unhide FIN).2.2⟩
    · obtain rfl : k = ny := by omega
      have et : ys.take k = ys := by rw [← unhide HNY, List.take_length]
      rw [et] at hhas
      have sd : Sd base wr (.map (some w.heap.size)) ys := Or.inr ⟨_, _, D, rfl, hbase, hown, hhas⟩
      have hsz := honly.size
      have w3 : Way base wr v bs := (unhide P3).kept fun j cur hj => hkept j (blk_lt' hj) (fun e => by subst e; rw [unhide P2] at hj; cases hj)
      have m3 : Ms base wr bs ms := (unhide P4).only honly (by decide)
      have sr : base ≤ wr.heap.size := Nat.le_trans hbase hsz
      have hblen := m3.1
      clear hgk et hown hhas PW MW OW KW hkept P2 P3 P4
      rcases id w3 with ⟨rfl, rfl⟩ | ⟨g, off, cap', cur, rfl, hg, hh, hc, hcm, hs, hp⟩
      · obtain rfl : ms = [] := List.eq_nil_of_length_eq_zero hblen.symm
        have e0 : wr.cell? ⟨p, 0, none⟩ = some (.slice none 0 0) := (cell_of_block hbox).trans rfl
        have e2 : wr.cell? ⟨p, 2, none⟩ = some (.int .i64 (lost : Int)) := (cell_of_block hbox).trans rfl
        have g0 : wr.frozen? ⟨p, 0, none⟩ = false := free_of_block hbox
        have g2 : wr.frozen? ⟨p, 2, none⟩ = false := free_of_block hbox
        have NT := hide (show Nt base wr p [] [] ys lost from ⟨_, _, p1, hbox, w3, m3, sd⟩)
        have ON := hide honly
        clear hbox w3 m3 sd honly
        go_wp2_with fail
        refine (deleteFunc_nil p wr).mono ?_
        rintro e w1 ⟨rfl, rfl⟩
        go_upto_region 8 with fail
        rw [setCell_same e0]
        go_region
        all_goals go_wp2
        all_goals go_end0
        all_goals rw [setCell_same e2]
        all_goals exact ⟨rfl, ⟨[], (unhide NT).below (Below.refl _ _).drew⟩, (unhide ON).drew⟩
      · obtain ⟨n, hn⟩ : ∃ n, bs.length = n := ⟨_, rfl⟩
        have hzl : (bs.zip ms).length = n := by rw [List.length_zip]; omega
        have DF := deleteFunc_any (ps := bs.zip ms) (n := n) (cap := cap') wr hbox sd hg sr hh hs (by omega) hcm hzl (by omega)
          (fun x q hq => hp x q.1 (List.getElem?_zip_eq_some.1 hq).1)
          (fun q hq => by
            obtain ⟨x, hx⟩ := List.getElem?_of_mem hq
            obtain ⟨hx1, hx2⟩ := List.getElem?_zip_eq_some.1 hx
            exact ⟨(m3.2 x q.1 q.2 hx1 hx2).2, unhide HMF q.2 (List.mem_of_getElem? hx2)⟩)
        rw [hn] at hbox
        have e0 : wr.cell? ⟨p, 0, none⟩ = some (.slice (some ⟨g, off, none⟩) n cap') := (cell_of_block hbox).trans rfl
        have hn6 : n ≤ 1000000 := by omega
        have HBOX := hide hbox
        have HDF := hide DF
        have HM3 := hide m3
        have HSD := hide sd
        have ON := hide honly
        have HCT := hide (filter_count ys ms)
        have HNB := hide (hblen.symm.trans hn)
        clear hbox DF w3 m3 sd honly hh hs hp hzl hn hblen hc hcm
        go_wp2_with fail
        refine (unhide HDF).mono ?_
        rintro e w1 ⟨⟨v1, rfl, way1⟩, o1⟩
        obtain ⟨ao1, cap1, rfl, _, hcm1⟩ := way1.slice
        have b1 := o1.block (unhide HBOX) (by decide)
        have NT := nt_way p1 b1 way1 (((unhide HM3).only o1 (by decide)).keep ys) ((unhide HSD).only o1)
        have hkl : ((keep ys (bs.zip ms)).map (·.1)).length = (ms.filter (passB ys)).length := (((unhide HM3).only o1 (by decide)).keep ys).1
        obtain ⟨m, hm⟩ : ∃ m, ((keep ys (bs.zip ms)).map (·.1)).length = m := ⟨_, rfl⟩
        obtain ⟨W2, hW2⟩ : ∃ W2, w1.setCell ⟨p, 0, none⟩ (.slice ao1 m cap1) = W2 := ⟨_, rfl⟩
        rw [hm] at hkl NT
        rw [hW2] at NT
        have hct := unhide HCT
        rw [← hkl, unhide HNB] at hct
        have d0 : w1.cell? ⟨p, 0, none⟩ = some (.slice (some ⟨g, off, none⟩) n cap') := (cell_of_block b1).trans rfl
        have h0 : w1.frozen? ⟨p, 0, none⟩ = false := free_of_block b1
        have b2 : W2.heap[p]? = some (.cells #[.slice ao1 m cap1, .map (some w.heap.size), .int .i64 (lost : Int)] 53 (0, 0)) := by rw [← hW2]; exact setCell_block b1
        have x0 : W2.cell? ⟨p, 0, none⟩ = some (.slice ao1 m cap1) := (cell_of_block b2).trans rfl
        have x2 : W2.cell? ⟨p, 2, none⟩ = some (.int .i64 (lost : Int)) := (cell_of_block b2).trans rfl
        have y2 : W2.frozen? ⟨p, 2, none⟩ = false := free_of_block b2
        obtain ⟨vz, mz, q1, q2, q3, q4, q5⟩ := NT.1
        have NL := hide (nt_lost (w := W2) (lost + lostN ys ms) q1 q2 q3 q4 q5)
        have ON2 := hide (((unhide ON).trans (o1.mono (Nat.le_refl _) (by simp))).trans (NT.2.mono (Nat.le_refl _) (by simp)))
        have HCT2 : Hid ((lost : Int) + ((n : Int) - (m : Int)) = ((lost + lostN ys ms : Nat) : Int)) := by show _ = _; omega
        have hmn : m ≤ n := by omega
        have HW2 := hide hW2
        rw [hm]
        clear way1 o1 b1 NT hkl hm hW2 hct b2 q2 q3 q4 q5 HDF HCT e0
        go_upto_region 8 with fail
        rw [unhide HW2]
        clear HW2 d0 h0
        go_region
        all_goals go_wp2
        all_goals go_end0
        all_goals rw [unhide HCT2]
        all_goals exact ⟨rfl, ⟨_, (unhide NL).1.below (Below.refl _ _).drew⟩, ((unhide ON2).trans ((unhide NL).2.mono (Nat.le_refl _) (by simp))).drew⟩
end Go.Proofs.Ytnplhoekkoomiaa
