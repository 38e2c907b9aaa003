/- hist: place: a contract. hist: Append: a contract. The document's own log: Append: a contract. The document's own log: Append: a contract. Rows laid behind rows, at a step of a region: numbers, entries. -/
import Derived.Test.YtjplhiflemmkfaaGreatDoorHhHTerm
import Derived.Test.YtjplhiflemmkfaaGreatDoorHhHDel
import Derived.Test.YtjplhiflemmkfaaGreatDoorHhHXRef
import Derived.Test.YtjplhiflemmkfaaGreatDoorHhHAdd
import Derived.Deep.RegionLaw
namespace Go.Proofs.YtjplhiflemmkfaaGreatDoor.Hh
open Go.RowKit Go.Maps

/-- a log in which an entry stands at an index. -/
def placed (b : Int) (rs : List Rw) (i t : Int) (e : En) : List Rw := if termOf b rs i = t then rs else rs.take (aheadOf b rs i) ++ [(t, e)]
theorem Hs.more {D : Nat → Prop} {w w' : World} {p : Nat} {b : Int} {rs : List Rw} (h : Hs D w' p b rs) : Hs (News D w w') w' p b rs := by
  obtain ⟨⟨rv, h1, h2⟩, h3, h4⟩ := h
  exact ⟨⟨rv, h1, h2.mono (fun _ x => Or.inl x)⟩, Or.inl h3, fun k x => x.elim (h4 k) (fun y => y.2)⟩
theorem Hs.news {D : Nat → Prop} {a w w' : World} {p : Nat} {b : Int} {rs : List Rw} (ha : a.heap.size ≤ w.heap.size) (h : Hs (News D w w') w' p b rs) : Hs (News D a w') w' p b rs := by
  obtain ⟨⟨rv, h1, h2⟩, h3, h4⟩ := h
  have hs : ∀ k, News D w w' k → News D a w' k := fun k x => x.elim Or.inl (fun y => Or.inr ⟨Nat.le_trans ha y.1, y.2⟩)
  refine ⟨⟨rv, h1, h2.mono hs⟩, hs p h3, fun k x => ?_⟩
  rcases x with x | x
  · exact h4 k (Or.inl x)
  · exact x.2
theorem Hs.join {D : Nat → Prop} {a m c d : World} {p : Nat} {b : Int} {rs : List Rw} (h1 : a.heap.size ≤ c.heap.size) (h2 : m.heap.size ≤ d.heap.size) (h : Hs (News (News D a m) c d) d p b rs) : Hs (News D a d) d p b rs := by
  obtain ⟨⟨rv, q1, q2⟩, q3, q4⟩ := h
  have hs : ∀ k, News (News D a m) c d k → News D a d k := fun k x => by
    rcases x with (x | x) | x
    · exact Or.inl x
    · exact Or.inr ⟨x.1, Nat.lt_of_lt_of_le x.2 h2⟩
    · exact Or.inr ⟨Nat.le_trans h1 x.1, x.2⟩
  refine ⟨⟨rv, q1, q2.mono hs⟩, hs p q3, fun k x => ?_⟩
  rcases x with x | x
  · exact q4 k (Or.inl (Or.inl x))
  · exact x.2
theorem Kp.join {D : Nat → Prop} {a m c d : World} (h : Kp D a m) (k : Below m.heap.size m c) (q : Kp (News D a m) c d) : Kp D a d :=
  (h.far k).trans q (fun j hj x => x.elim id (fun y => absurd hj (by omega)))
theorem del_put {D : Nat → Prop} {w w2 w3 : World} {p : Nat} {b : Int} {rs : List Rw} {rv v : Value} {k : Nat} (hp : D p) (hl : ∀ j, D j → j < w.heap.size) (hb : Below w.heap.size w w2) (hx : w2.heap[p]? = some (.cells #[.int .i64 b, rv] 132 (0, 0))) (hr : RRow D w2 rv rs) (h3 : RRow D w3 v (rs.take k)) (hk : Kp (fun j => rv.ownBlock = some j) w2 w3) :
    w3.cell? ⟨p, 1, none⟩ = some rv ∧ w3.frozen? ⟨p, 1, none⟩ = false ∧ Hs D (w3.setCell ⟨p, 1, none⟩ v) p b (rs.take k) ∧ Kp D w (w3.setCell ⟨p, 1, none⟩ v) := by
  have p3 : w3.heap[p]? = some (.cells #[.int .i64 b, rv] 132 (0, 0)) := hk.block hx (fun e => by
    obtain ⟨_, cur, fr, hc⟩ := hr.tag p e
    rw [hx] at hc; cases hc)
  have k3 : Kp D w w3 := ((Kp.of_below (D := D) hb).trans (hk.mono (fun j _ e => (hr.tag j e).1)) (fun _ _ x => x))
  refine ⟨(cell_of_block p3).trans rfl, free_of_block p3, ⟨⟨v, setCell_block p3, h3.other (fun j hj => Below.heap_setCell _ _ _ j hj) p3⟩, hp, fun j hj => ?_⟩, k3.setCell (p := ⟨p, 1, none⟩) hp v⟩
  exact Nat.lt_of_lt_of_le (hl j hj) (k3.setCell (p := ⟨p, 1, none⟩) hp v).size

set_option maxRecDepth 20000 in
set_option maxHeartbeats 2000000 in
theorem place_any {D F : Nat → Prop} {w : World} {p : Nat} {b : Int} {rs : List Rw} (h : Hs D w p b rs) (hf : Fit b rs) (i t : Int) (e : En) (mo : Option Addr) (cap : Nat) (hb : InF F w mo e.ms) (hFD : ∀ k, F k → ¬ D k) (hl : e.ms.length ≤ 1000000) :
    Calls Tryz.prog 229 #[.pointer (some ⟨p, 0, none⟩), .int .i64 i, .int .i64 t, .agg #[.int .i64 e.kind, .int .i64 e.client, .int .i64 e.seq, .string e.text, .slice mo e.ms.length cap, .int .i64 e.dest]] w fun x w' =>
      x = .returned (.tuple #[]) ∧ Hs (News D w w') w' p b (placed b rs i t e) ∧ Kp D w w' := by
  obtain ⟨W, hW⟩ : ∃ W, w.alloc (.cells #[.int .i64 e.kind, .int .i64 e.client, .int .i64 e.seq, .string e.text, .slice mo e.ms.length cap, .int .i64 e.dest] 43) = W := ⟨_, rfl⟩
  have bW : Below w.heap.size w W := by rw [← hW]; exact (Below.refl _ w).alloc (Nat.le_refl _) _
  have xW : W.heap[w.heap.size]? = some (.cells #[.int .i64 e.kind, .int .i64 e.client, .int .i64 e.seq, .string e.text, .slice mo e.ms.length cap, .int .i64 e.dest] 43 (0, 0)) := by rw [← hW]; exact box_at _ _
  have hW1 := h.below bW
  have TE := hide (term_any hW1 hf i)
  have AH := hide (fun Y (hY : Below W.heap.size W Y) => ahead_any (hW1.below hY) hf i)
  have HH := hide hW1
  have HW := hide hW
  have BW := hide bW
  have XW := hide xW
  have hlt := hide h.lt
  have hDp := hide h.own
  have HB := hide hb
  have n1 := hf.n1
  have FD := hide hFD
  clear hb hW bW xW hW1 h hf hFD
  by_cases ht : termOf b rs i = t
  · have hpl : placed b rs i t e = rs := by unfold placed; rw [if_pos ht]
    rw [hpl]
    rw [ht] at TE
    clear hpl ht AH XW HB
    go_enter Tryz.func229, Tryz.ntmps229
    go_wp2_with fail
    rw [unhide HW]
    refine (unhide TE).mono ?_
    rintro x w1 ⟨rfl, b1⟩
    have B1 := hide b1
    clear b1 TE
    go_wp2
    refine bodyPost_ret (results_none rfl _ _ _) rfl ?_
    exact ⟨rfl, ((unhide HH).below (unhide B1)).more, Kp.of_below (below_far (unhide BW) (unhide B1))⟩
  · have hpl : placed b rs i t e = rs.take (aheadOf b rs i) ++ [(t, e)] := by unfold placed; rw [if_neg ht]
    rw [hpl]
    obtain ⟨q, hq⟩ : ∃ q, termOf b rs i = q := ⟨_, rfl⟩
    rw [hq] at TE ht
    have hne : (q == t) = false := by rw [beq_eq_false_iff_ne]; exact ht
    have hkl : aheadOf b rs i ≤ rs.length := by unfold aheadOf; split <;> omega
    obtain ⟨k, hk⟩ : ∃ k, aheadOf b rs i = k := ⟨_, rfl⟩
    rw [hk] at AH hkl ⊢
    obtain ⟨⟨rv, hbx, hrr⟩, -, -⟩ := unhide HH
    obtain ⟨ao, ca, rfl, -⟩ := hrr.slice
    obtain ⟨n, hn⟩ : ∃ n, rs.length = n := ⟨_, rfl⟩
    rw [hn] at hkl hbx hrr n1
    have HX := hide hbx
    have HR := hide hrr
    have HN := hide hn
    have HKL := hide hkl
    clear hbx hrr hk hq ht hpl hn hkl
    go_enter Tryz.func229, Tryz.ntmps229
    go_wp2_with fail
    rw [unhide HW]
    refine (unhide TE).mono ?_
    rintro x w1 ⟨rfl, b1⟩
    have B1 := hide b1
    have c1 : w1.drew.cell? ⟨p, 1, none⟩ = some (.slice ao n ca) := (cell_of_block (w := w1.drew) (Below.stay b1 (unhide HX))).trans rfl
    have A1 := hide (unhide AH w1.drew b1.drew)
    clear b1 TE AH
    go_upto_region 2 with fail
    go_cut [] (fun wc => Hs D wc p b (rs.take k) ∧ Kp D w wc ∧ wc.heap[w.heap.size]? = some (.cells #[.int .i64 e.kind, .int .i64 e.client, .int .i64 e.seq, .string e.text, .slice mo e.ms.length cap, .int .i64 e.dest] 43 (0, 0)))
    case first =>
      go_region_with (first
        | (go_at_call 166; refine (unhide A1).mono ?_; rintro e w2 ⟨rfl, b2⟩
           have B2 := hide (below_far (unhide B1).drew b2)
           have x2 := Below.stay (unhide B2) (unhide HX)
           have X2 := hide x2
           have c2 : w2.cell? ⟨p, 1, none⟩ = some (.slice ao n ca) := (cell_of_block x2).trans rfl
           have R2 := hide ((unhide HR).kp (E := fun _ => False) (Kp.of_below (unhide B2)) (fun _ _ x => x))
           have D2 := hide (hdelete_any (unhide R2) (unhide HN) (unhide HKL))
           clear b2 x2)
        | (go_at_call 273; refine (unhide D2).mono ?_; rintro x w3 ⟨v3, rfl, r3, k3⟩
           obtain ⟨ao3, ca3, rfl, -⟩ := r3.slice
           obtain ⟨n3, hn3⟩ : ∃ n3, (rs.take k).length = n3 := ⟨_, rfl⟩
           rw [hn3] at r3 ⊢
           obtain ⟨c3, f3, h4, k4⟩ := del_put (unhide hDp) (unhide hlt) (below_far (unhide BW) (unhide B2)) (unhide X2) (unhide R2) r3 k3
           have H4 := hide h4
           have K4 := hide k4
           have X4 := hide (Kp.block (w := w3) (w' := w3.setCell ⟨p, 1, none⟩ (.slice ao3 n3 ca3)) (D := D) ((Kp.refl D w3).setCell (p := ⟨p, 1, none⟩) (unhide hDp) _) (Kp.block k3 (Below.stay (unhide B2) (unhide XW)) (fun x => Nat.lt_irrefl _ ((unhide hlt) _ (((unhide R2).tag _ x).1)))) (fun x => Nat.lt_irrefl _ ((unhide hlt) _ x)))
           clear r3 k3 h4 k4 hn3))
      all_goals go_wp2_with fail
      all_goals go_meet
      all_goals exact ⟨unhide H4, unhide K4, unhide X4⟩
    case rest =>
      obtain ⟨h4, k4, x4⟩ := hcut
      have AD := hide (add_any h4 (by rw [List.length_take, unhide HN]; omega) t e mo cap ((unhide HB).kp k4 (unhide FD)).ints hl)
      have K4 := hide k4
      have a0 : wc.cell? ⟨w.heap.size, 0, none⟩ = some (.int .i64 e.kind) := (cell_of_block x4).trans rfl
      have a1 : wc.cell? ⟨w.heap.size, 1, none⟩ = some (.int .i64 e.client) := (cell_of_block x4).trans rfl
      have a2 : wc.cell? ⟨w.heap.size, 2, none⟩ = some (.int .i64 e.seq) := (cell_of_block x4).trans rfl
      have a3 : wc.cell? ⟨w.heap.size, 3, none⟩ = some (.string e.text) := (cell_of_block x4).trans rfl
      have a4 : wc.cell? ⟨w.heap.size, 4, none⟩ = some (.slice mo e.ms.length cap) := (cell_of_block x4).trans rfl
      have a5 : wc.cell? ⟨w.heap.size, 5, none⟩ = some (.int .i64 e.dest) := (cell_of_block x4).trans rfl
      clear h4 k4 x4 HH HX HR A1 c1 XW
      go_wp2_with fail
      refine (unhide AD).mono ?_
      rintro x w5 ⟨rfl, h5, k5⟩
      have H5 := hide (h5.news (unhide K4).size)
      have K5 := hide ((unhide K4).trans k5 (fun _ _ x => x))
      clear h5 k5 AD
      go_wp2
      go_end0
      exact ⟨rfl, unhide H5, unhide K5⟩
end Go.Proofs.YtjplhiflemmkfaaGreatDoor.Hh
namespace Go.Proofs.YtjplhiflemmkfaaGreatDoor.Hh
open Go.RowKit Go.Maps

/-- what Append answers, and leaves. -/
def appNo (b : Int) (rs : List Rw) (t : Int) (n : Nat) : Nat := if 1 ≤ t ∧ termOf b rs (b + (rs.length : Int)) ≤ t then (if b + (rs.length : Int) + (n : Int) ≤ 64 then 0 else 14) else 1
def appRows (b : Int) (rs : List Rw) (t : Int) (es : List En) : List Rw := if appNo b rs t es.length = 0 then rs ++ es.map (fun e => (t, e)) else rs
def appN (b : Int) (rs : List Rw) (t : Int) (n : Nat) : Int := if appNo b rs t n = 0 then b + (rs.length : Int) + (n : Int) else 0
theorem climbs_one (a t : Int) : climbsOf a [t] = decide (1 ≤ t ∧ a ≤ t) := by
  unfold climbsOf climbsOf
  rw [Bool.and_true]
  congr 1
  apply propext; omega
set_option maxRecDepth 20000 in
set_option maxHeartbeats 4000000 in
theorem append_any {D F : Nat → Prop} {w : World} {p : Nat} {b : Int} {rs : List Rw} (h : Hs D w p b rs) (hf : Fit b rs) (t : Int) (ao : Option Addr) (n cap : Nat) (es : List En) (hn : es.length = n) (hn6 : n ≤ 1000000) (hes : EsR F w ao es) (hFD : ∀ k, F k → ¬ D k) (hFl : ∀ k, F k → k < w.heap.size) :
    Calls Tryz.prog 80 #[.pointer (some ⟨p, 0, none⟩), .int .i64 t, .slice ao n cap] w fun x w' =>
      x = .returned (.tuple #[.int .i64 (appN b rs t n), .int .i64 ((appNo b rs t n : Nat) : Int)]) ∧ Hs (News D w w') w' p b (appRows b rs t es) ∧ Kp D w w' := by
  obtain ⟨R, hR⟩ : ∃ R, appNo b rs t n = R := ⟨_, rfl⟩
  have hN : appN b rs t n = if R = 0 then b + (rs.length : Int) + (n : Int) else 0 := by unfold appN; rw [hR]
  have hA : appRows b rs t es = if R = 0 then rs ++ es.map (fun e => (t, e)) else rs := by unfold appRows; rw [hn, hR]
  rw [hN, hA, hR]
  unfold appNo at hR
  have hb0 := hf.b0
  have hb1 := hf.b1
  have hn1 := hf.n1
  have LA := hide (fun Y (hY : Below w.heap.size w Y) => last_any (h.below hY) hf)
  have L0 := hide (last_any h hf)
  have TE := hide (fun Y (hY : Below w.heap.size w Y) => term_any (h.below hY) hf (b + (rs.length : Int)))
  obtain ⟨L, hL⟩ : ∃ L, b + (rs.length : Int) = L := ⟨_, rfl⟩
  obtain ⟨q, hq⟩ : ∃ q, termOf b rs (b + (rs.length : Int)) = q := ⟨_, rfl⟩
  rw [hq, hL] at hR
  rw [hq] at TE
  rw [hL] at LA TE L0 ⊢
  have hLb : 0 ≤ L ∧ L ≤ 2000000 := by omega
  have HH := hide h
  have HE := hide hes
  have HF := hide hf
  have FD := hide hFD
  have FL := hide hFl
  have HN := hide hn
  have HL := hide hL
  have HR := hide hR
  clear h hes hf hFD hFl hn hL hR hN hA hb0 hb1 hn1 hq
  go_enter Tryz.func80, Tryz.ntmps80
  go_wp2_with fail
  refine (unhide L0).mono ?_
  rintro x w1 ⟨rfl, b1⟩
  have T1 := hide (unhide TE _ b1)
  have B1 := hide b1
  clear b1 L0 TE
  go_wp2_with fail
  refine (unhide T1).mono ?_
  rintro x w2 ⟨rfl, b2⟩
  have B2 := hide (below_far (unhide B1) b2)
  obtain ⟨W, hW⟩ : ∃ W, w2.alloc (.cells #[.int .i64 t] 3) = W := ⟨_, rfl⟩
  have bW : Below w2.heap.size w2 W := by rw [← hW]; exact (Below.refl _ w2).alloc (Nat.le_refl _) _
  have CL := hide (hclimbs_any q (some ⟨w2.heap.size, 0, none⟩) 1 1 [t] rfl (by decide) W (fun i hi => by
    have hi0 : i = 0 := by simp at hi; omega
    subst hi0
    exact ⟨_, rfl, by rw [Addr.add_lit, ← hW]; exact (cell_of_block (box_at w2 _)).trans rfl⟩))
  rw [climbs_one] at CL
  have HW := hide hW
  have BW := hide (below_far (unhide B2) bW)
  clear b2 T1 B1 bW hW
  go_wp2_with fail
  rw [unhide HW]
  refine (unhide CL).mono ?_
  rintro x w3 ⟨rfl, b3⟩
  have B3 := hide (below_far (unhide BW) b3)
  have L3 := hide (unhide LA _ (unhide B3))
  clear b3 CL BW HW B2
  by_cases hc : 1 ≤ t ∧ q ≤ t
  · rw [decide_eq_true hc]
    have r1 := unhide HR
    rw [if_pos hc] at r1
    have HR1 := hide r1
    clear r1 HR hc
    go_wp2_with fail
    refine (unhide L3).mono ?_
    rintro x w4 ⟨rfl, b4⟩
    have B4 := hide (below_far (unhide B3) b4)
    have FI := hide (fits_any L n (by omega) hn6 w4)
    clear b4 L3 B3
    go_wp2_with fail
    refine (unhide FI).mono ?_
    rintro x w5 ⟨rfl, hw⟩
    replace hw := hw.symm
    subst hw
    clear FI
    by_cases hfi : L + (n : Int) ≤ 64
    · have d1 : decide (L + (n : Int) ≤ 64) = true := decide_eq_true hfi
      obtain rfl : 0 = R := by have := unhide HR1; rwa [if_pos hfi] at this
      clear HR1
      go_wp2_with fail
      go_loopw [26, 9] (fun iv _ wr => ∃ k : Nat, k ≤ n ∧ iv = .int .i64 (k : Int) ∧ Hs (News D w wr) wr p b (rs ++ (es.take k).map (fun e => (t, e))) ∧ Kp D w wr) (fun iv _ _ => n - (intOf iv).toNat)
      case atStart => exact ⟨0, Nat.zero_le _, rfl, by rw [List.take_zero, List.map_nil, List.append_nil]; exact ((unhide HH).below (unhide B4)).more, Kp.of_below (unhide B4)⟩
      case round =>
        obtain ⟨k, hk, rfl, hs, hkp⟩ := hrel
        have HS := hide hs
        have KP := hide hkp
        clear hs hkp
        by_cases hlt : k < n
        · obtain ⟨e, he⟩ : ∃ e, es[k]? = some e := ⟨_, List.getElem?_eq_getElem (by rw [unhide HN]; exact hlt)⟩
          have hE := (unhide HE).kp (unhide KP) (unhide FD)
          obtain ⟨g, off, mo, mc, rfl, c0, c1, c2, c3, c4, c5, him, hml⟩ := hE.at he
          have hq : (k : Int) < (n : Int) := by omega
          obtain ⟨W, hW⟩ : ∃ W, wr.alloc (.cells #[.int .i64 e.kind, .int .i64 e.client, .int .i64 e.seq, .string e.text, .slice mo e.ms.length mc, .int .i64 e.dest] 43) = W := ⟨_, rfl⟩
          have bW : Below wr.heap.size wr W := by rw [← hW]; exact (Below.refl _ wr).alloc (Nat.le_refl _) _
          have xW : W.heap[wr.heap.size]? = some (.cells #[.int .i64 e.kind, .int .i64 e.client, .int .i64 e.seq, .string e.text, .slice mo e.ms.length mc, .int .i64 e.dest] 43 (0, 0)) := by rw [← hW]; exact box_at _ _
          have AD := hide (add_any ((unhide HS).below bW) (by rw [List.length_append, List.length_map, List.length_take]; have := (unhide HF).n1; have := (unhide HF).b0; have := unhide HL; omega) t e mo mc (him.below bW).ints hml)
          have a0 : W.cell? ⟨wr.heap.size, 0, none⟩ = some (.int .i64 e.kind) := (cell_of_block xW).trans rfl
          have a1 : W.cell? ⟨wr.heap.size, 1, none⟩ = some (.int .i64 e.client) := (cell_of_block xW).trans rfl
          have a2 : W.cell? ⟨wr.heap.size, 2, none⟩ = some (.int .i64 e.seq) := (cell_of_block xW).trans rfl
          have a3 : W.cell? ⟨wr.heap.size, 3, none⟩ = some (.string e.text) := (cell_of_block xW).trans rfl
          have a4 : W.cell? ⟨wr.heap.size, 4, none⟩ = some (.slice mo e.ms.length mc) := (cell_of_block xW).trans rfl
          have a5 : W.cell? ⟨wr.heap.size, 5, none⟩ = some (.int .i64 e.dest) := (cell_of_block xW).trans rfl
          have HT : Hid (rs ++ (es.take k).map (fun e => (t, e)) ++ [(t, e)] = rs ++ (es.take (k + 1)).map (fun e => (t, e))) := by
            show _ = _
            rw [List.take_add_one, he, List.append_assoc, List.map_append]; rfl
          have BW := hide bW
          have HW := hide hW
          clear hE him bW xW he hW
          go_upto_region 8 with fail
          rw [unhide HW]
          go_wp2_with fail
          refine (unhide AD).mono ?_
          rintro x w6 ⟨rfl, h6, k6⟩
          rw [unhide HT] at h6
          have H6 := hide (Hs.join (Nat.le_trans (unhide KP).size (unhide BW).size) (Nat.le_trans (unhide BW).size k6.size) h6)
          have K6 := hide (Kp.join (unhide KP) (unhide BW) k6)
          clear h6 k6 AD HS a0 a1 a2 a3 a4 a5 c0 c1 c2 c3 c4 c5 HT
          go_wp2
          go_roundw
          case rel => exact ⟨k + 1, by omega, by go_num, unhide H6, unhide K6⟩
          case measure => simp [intOf]; omega
        · obtain rfl : k = n := by omega
          have hs := unhide HS
          rw [List.take_of_length_le (by rw [unhide HN]; exact Nat.le_refl _)] at hs
          have LF := hide (last_any hs (by
            refine ⟨(unhide HF).b0, (unhide HF).b1, ?_⟩
            rw [List.length_append, List.length_map, unhide HN]; have := unhide HL; have := (unhide HF).b0; omega))
          have e1 : b + (((rs ++ es.map (fun e => (t, e))).length : Nat) : Int) = L + (k : Int) := by
            rw [List.length_append, List.length_map, unhide HN]; have := unhide HL; omega
          rw [e1] at LF
          have H7 := hide hs
          clear hs HS e1
          go_wp2_with fail
          refine (unhide LF).mono ?_
          rintro x w7 ⟨rfl, b7⟩
          have B7 := hide b7
          clear b7 LF
          go_wp2
          go_ret2
          refine ⟨rfl, ?_, (unhide KP).far (unhide B7)⟩
          exact Hs.join (m := wr) (c := w7) (Nat.le_trans (unhide KP).size (unhide B7).size) (unhide B7).size (((unhide H7).below (unhide B7)).more)
    · have d1 : decide (L + (n : Int) ≤ 64) = false := decide_eq_false hfi
      obtain rfl : 14 = R := by have := unhide HR1; rwa [if_neg hfi] at this
      clear HR1 hfi
      go_wp2
      go_ret2
      exact ⟨rfl, ((unhide HH).below (unhide B4)).more, Kp.of_below (unhide B4)⟩
  · rw [decide_eq_false hc]
    obtain rfl : 1 = R := by have := unhide HR; rwa [if_neg hc] at this
    clear HR hc
    go_wp2
    go_ret2
    exact ⟨rfl, ((unhide HH).below (unhide B3)).more, Kp.of_below (unhide B3)⟩
end Go.Proofs.YtjplhiflemmkfaaGreatDoor.Hh
namespace Go.Proofs.YtjplhiflemmkfaaGreatDoor.Hh
open Go.RowKit Go.Maps

theorem XRow.keep {base : Nat} {w w' : World} {v : Value} {es : List En} (h : XRow base w v es) (hk : ∀ k, v.ownBlock = some k → w'.heap[k]? = w.heap[k]?) (hb : Below base w w') : XRow base w' v es := by
  obtain ⟨xs, h1, h2⟩ := h
  refine ⟨xs, own_kept h1 hk, fun i e hi => ?_⟩
  obtain ⟨mo, cap, k1, k2, k3⟩ := h2 i e hi
  refine ⟨mo, cap, k1, fun j hj => ?_, k3⟩
  obtain ⟨a, a1, a2, a3⟩ := k2 j hj
  exact ⟨a, a1, a2, by rw [hb.cell (by rw [add_block]; exact a2)]; exact a3⟩
theorem XRow.tag {base : Nat} {w : World} {v : Value} {es : List En} (h : XRow base w v es) : ∀ k, v.ownBlock = some k → base ≤ k ∧ k < w.heap.size ∧ ∃ cur fr, w.heap[k]? = some (.cells cur 43 fr) := fun k hk => by
  obtain ⟨xs, h1, _⟩ := h
  exact ⟨(h1.lt k hk).1, (h1.lt k hk).2, (own_tag h1 k hk).2⟩
/-- entries to be laid into the document's log: their members lie in memory that came in. -/
def XEs (F : Nat → Prop) (base : Nat) (w : World) (ao : Option Addr) (es : List En) : Prop :=
  ∀ (i : Nat) (e : En), es[i]? = some e → ∃ g off mo cap, ao = some ⟨g, off, none⟩ ∧ F g ∧ (∀ (j : Nat) (u : Value), (e.cells (.slice mo e.ms.length cap))[j]? = some u → w.cell? ⟨g, off + i * 6 + j, none⟩ = some u) ∧ InF (fun k => k < base) w mo e.ms ∧ e.ms.length ≤ 1000000
theorem XEs.kp {F D : Nat → Prop} {base : Nat} {w w' : World} {ao : Option Addr} {es : List En} (h : XEs F base w ao es) (hk : Kp D w w') (hd : ∀ k, F k → ¬ D k) (hb : ∀ k, D k → base ≤ k) : XEs F base w' ao es := fun i e hi => by
  obtain ⟨g, off, mo, cap, h1, h2, h3, h4, h5⟩ := h i e hi
  exact ⟨g, off, mo, cap, h1, h2, fun j u hj => hk.cell (h3 j u hj) (hd _ h2), h4.kp hk (fun k hk' x => by have := hb k x; omega), h5⟩
theorem EsR.xes {base : Nat} {w : World} {ao : Option Addr} {es : List En} (h : EsR (fun k => k < base) w ao es) : XEs (fun k => k < base) base w ao es := h
theorem xes_lit (base : Nat) (w : World) (es : List En) (hm : ∀ e ∈ es, e.ms = []) (cs : Array Value) (hc : cs.toList = es.flatMap fun e => e.cells (.slice none 0 0)) (flat : ∀ (i : Nat) (e : En) (j : Nat) (u : Value), es[i]? = some e → (e.cells (.slice none 0 0))[j]? = some u → (es.flatMap fun e => e.cells (.slice none 0 0))[i * 6 + j]? = some u) : XEs (fun k => k = w.heap.size) base (w.alloc (.cells cs 43)) (some ⟨w.heap.size, 0, none⟩) es := fun i e hi => by
  have h0 := hm e (List.mem_of_getElem? hi)
  refine ⟨w.heap.size, 0, none, 0, rfl, rfl, fun j u hj => ?_, by rw [h0]; exact InF.nil _ _ _, by rw [h0]; simp⟩
  rw [h0] at hj
  rw [cell_of_block (box_at w _), ← Array.getElem?_toList, hc, Nat.zero_add]
  exact flat i e j u hi hj
/-- one entry more. -/
theorem run_pushX {base : Nat} {w : World} {v : Value} {es : List En} (h : XRow base w v es) (ty : TypeId) (nb : Nat) (e : En) (mo : Option Addr) (mc : Nat) (hx : w.heap[nb]? = some (.cells (e.cells (.slice mo e.ms.length mc)).toArray 43 (0, 0))) (hm : InF (fun k => k < base) w mo e.ms) (hml : e.ms.length ≤ 1000000) (hl : es.length ≤ 1000000) (hb : base ≤ w.heap.size) :
    ∃ v' w', (Builtin.append_ #[48, 48] ty #[v, .slice (some ⟨nb, 0, none⟩) 1 1]).run Tryz.prog w = .ok v' w' ∧ XRow base w' v' (es ++ [e]) ∧ w.grownBy w' v.ownBlock ∧ (v'.ownBlock = v.ownBlock ∨ v'.ownBlock = some w.heap.size) := by
  obtain ⟨i0, hi, hz0, hz1, hz2⟩ := info_parts Tryz.infoEn
  obtain ⟨xs, h1, h3⟩ := h
  obtain ⟨v', w', hr, o', g', _, hat⟩ := run_append_own_at (P := Tryz.prog) w base 48 ty 43 i0 _ 6 72 Tryz.underlying48 hi hz0 hz1 hz2 rfl (by decide) v es.length xs h1 ⟨nb, 0, none⟩ 1 1 (e.cells (.slice mo e.ms.length mc)) rfl
    (fun j u hj => by rw [Addr.add_lit, Nat.zero_add, cell_of_block hx]; simpa using hj) (En.cells_one e rfl) (by unfold maxLen; omega) (by omega) hb
  have bb : Below base w w' := (Below.refl _ _).grown g' hb (fun k hk => (h1.lt k hk).1)
  have keep : ∀ (u : Option Addr) (ys : List Int), InF (fun k => k < base) w u ys → InF (fun k => k < base) w' u ys := fun u ys hu j hj => by
    obtain ⟨a, a1, a2, a3⟩ := hu j hj
    exact ⟨a, a1, a2, by rw [bb.cell (by rw [add_block]; exact a2)]; exact a3⟩
  refine ⟨v', w', hr, ⟨_, by rw [List.length_append]; exact o', fun i q hq => ?_⟩, g', hat⟩
  have hxl : xs.length = es.length * 6 := h1.1
  by_cases he : i < es.length
  · rw [List.getElem?_append_left he] at hq
    obtain ⟨u, c, u1, u2, u4⟩ := h3 i q hq
    refine ⟨u, c, fun j z hj => ?_, keep u _ u2, u4⟩
    have hj6 : j < 6 := (List.getElem?_eq_some_iff.1 hj).1
    rw [List.getElem?_append_left (by omega)]; exact u1 j z hj
  · rw [List.getElem?_append_right (by omega)] at hq
    have hi0 : i = es.length := by have := (List.getElem?_eq_some_iff.1 hq).1; simp at this; omega
    subst hi0
    simp at hq
    subst hq
    refine ⟨mo, mc, fun j c hj => ?_, keep mo _ hm, hml⟩
    rw [List.getElem?_append_right (by omega), show es.length * 6 + j - xs.length = j by omega]; exact hj
theorem wp_pushX {w : World} {o : Oper} {a : Act} {K : Act → World → Prop} {Q : Exit → Act → World → Prop} (s x : Operand)
    (ho : o.op = .call { callee := .builtin .append, args := #[s, x], argTypes := #[48, 48] }) (base : Nat) (v : Value) (es : List En) (hs : a.eval s = v) (h : XRow base w v es)
    (nb : Nat) (e : En) (mo : Option Addr) (mc : Nat) (hx : a.eval x = .slice (some ⟨nb, 0, none⟩) 1 1) (hc : w.heap[nb]? = some (.cells (e.cells (.slice mo e.ms.length mc)).toArray 43 (0, 0))) (hm : InF (fun k => k < base) w mo e.ms) (hml : e.ms.length ≤ 1000000) (hl : es.length ≤ 1000000) (hb : base ≤ w.heap.size)
    (hk : ∀ v' w', XRow base w' v' (es ++ [e]) → w.grownBy w' v.ownBlock → (v'.ownBlock = v.ownBlock ∨ v'.ownBlock = some w.heap.size) → K (a.put o.dst v') w') : Oper.wp Tryz.prog o a w K Q := by
  obtain ⟨v', w', hr, h1, h2, h3⟩ := run_pushX h o.type nb e mo mc hc hm hml hl hb
  unfold Oper.wp execOp
  simp only [ho, resolve, invoke, builtin, Sem.run_bind, Sem.run_pure, Result.andThen_ok, List.map_toArray, List.map_cons, List.map_nil, hs, hx, hr]
  exact hk v' w' h1 h2 h3
theorem step_appE {w : World} {ops : Array Oper} {o : Oper} {a : Act} {K : Act → World → Prop} {Q : Exit → Act → World → Prop} {E : Prop} (s x : Operand) (_ho : o.op = .call { callee := .builtin .append, args := #[s, x], argTypes := #[48, 48] }) (hg : o.guard = none) (h : Oper.wp Tryz.prog o a w K Q) :
    if Region.wanted o (yielded ops a.tmps) = true then Oper.wp Tryz.prog o a w K Q else E := step_on hg h
end Go.Proofs.YtjplhiflemmkfaaGreatDoor.Hh
namespace Go.Proofs.YtjplhiflemmkfaaGreatDoor.Hh
open Go.RowKit Go.Maps

end Go.Proofs.YtjplhiflemmkfaaGreatDoor.Hh
namespace Go.Proofs.YtjplhiflemmkfaaGreatDoor.Hh
open Go.RowKit Go.Maps

theorem run_catI {w : World} {base : Nat} {v : Value} {xs : List Int} (hown : Ir base w v xs) (ty : TypeId) (ao : Option Addr) (m c : Nat) (ys : List Int) (hm : ys.length = m) (hy : IntsR w ao ys) (hl : xs.length + m ≤ 1000000000) (hb : base ≤ w.heap.size) :
    ∃ v' w', (Builtin.append_ #[24, 24] ty #[v, .slice ao m c]).run Tryz.prog w = .ok v' w' ∧ Ir base w' v' (xs ++ ys) ∧ w.grownBy w' v.ownBlock ∧ (v'.ownBlock = v.ownBlock ∨ v'.ownBlock = some w.heap.size) := by
  obtain ⟨i0, hi0, hz0, hz1, hz2⟩ := info_parts Tryz.infoI
  cases ao with
  | none =>
    obtain rfl := hy.none_nil
    simp only [List.length_nil] at hm
    subst hm
    obtain ⟨av, cv, rfl, _, hc, _⟩ := hown.slice
    have hr := run_append_nothing (P := Tryz.prog) w 24 24 ty 3 i0 Tryz.underlying24 hi0 av xs.length cv hc (.slice none 0 c) (Src.ofNil w Tryz.underlying24 c)
    exact ⟨_, _, hr, by simpa using hown, ⟨rfl, rfl, rfl, Nat.le_refl _, fun _ _ _ => rfl⟩, Or.inl rfl⟩
  | some ad =>
    obtain ⟨v', w', hr, o', g', _, hat⟩ := run_append_own_at (P := Tryz.prog) w base 24 ty 3 i0 _ 1 8 Tryz.underlying24 hi0 hz0 hz1 hz2 rfl (by decide) v xs.length (i64s xs) hown ad m c (i64s ys) (by rw [i64s, List.length_map, hm]; omega)
      (fun j u hj => by
        rw [i64s, List.getElem?_map] at hj
        cases hq : ys[j]? with
        | none => rw [hq] at hj; simp at hj
        | some y =>
          rw [hq] at hj; simp at hj; subst hj
          obtain ⟨a, e, hcell⟩ := hy j (List.getElem?_eq_some_iff.1 hq).1
          cases e
          rw [hcell, List.getD_eq_getElem?_getD, hq]; rfl)
      (i64s_one ys) (by unfold maxLen; omega) (by omega) hb
    refine ⟨v', w', hr, ?_, g', hat⟩
    unfold Ir
    rw [List.length_append, hm, i64s_append]; exact o'
theorem wp_catI {w : World} {o : Oper} {a : Act} {K : Act → World → Prop} {Q : Exit → Act → World → Prop} (s x : Operand)
    (ho : o.op = .call { callee := .builtin .append, args := #[s, x], argTypes := #[24, 24] }) (base : Nat) (v : Value) (xs : List Int) (hown : Ir base w v xs) (hs : a.eval s = v)
    (ao : Option Addr) (m c : Nat) (ys : List Int) (hx : a.eval x = .slice ao m c) (hm : ys.length = m) (hy : IntsR w ao ys) (hl : xs.length + m ≤ 1000000000) (hb : base ≤ w.heap.size)
    (h : ∀ v' w', Ir base w' v' (xs ++ ys) → w.grownBy w' v.ownBlock → (v'.ownBlock = v.ownBlock ∨ v'.ownBlock = some w.heap.size) → K (a.put o.dst v') w') :
    Oper.wp Tryz.prog o a w K Q := by
  obtain ⟨v', w', hr, h1, h2, h3⟩ := run_catI hown o.type ao m c ys hm hy hl hb
  unfold Oper.wp execOp
  simp only [ho, resolve, invoke, builtin, Sem.run_bind, Sem.run_pure, Result.andThen_ok, List.map_toArray, List.map_cons, List.map_nil, hs, hx, hr]
  exact h v' w' h1 h2 h3

theorem step_appI {w : World} {ops : Array Oper} {o : Oper} {a : Act} {K : Act → World → Prop} {Q : Exit → Act → World → Prop} {E : Prop} (s x : Operand) (_ho : o.op = .call { callee := .builtin .append, args := #[s, x], argTypes := #[24, 24] }) (hg : o.guard = none) (h : Oper.wp Tryz.prog o a w K Q) :
    if Region.wanted o (yielded ops a.tmps) = true then Oper.wp Tryz.prog o a w K Q else E := step_on hg h
/-- a front of a row of entries, laid behind another one. -/
theorem run_catX {base : Nat} {w : World} {v : Value} {es : List En} (h : XRow base w v es) (ty : TypeId) (ao : Option Addr) (n cap : Nat) (ES : List En) (hE : XRow base w (.slice ao n cap) ES) (k c : Nat) (hk : k ≤ ES.length) (hl : es.length + k ≤ 1000000) (hb : base ≤ w.heap.size) :
    ∃ v' w', (Builtin.append_ #[48, 48] ty #[v, .slice ao k c]).run Tryz.prog w = .ok v' w' ∧ XRow base w' v' (es ++ ES.take k) ∧ w.grownBy w' v.ownBlock ∧ (v'.ownBlock = v.ownBlock ∨ v'.ownBlock = some w.heap.size) := by
  obtain ⟨i0, hi, hz0, hz1, hz2⟩ := info_parts Tryz.infoEn
  obtain ⟨xs, h1, h3⟩ := h
  obtain ⟨ys, y1, y3⟩ := hE
  rcases y1.2 with ⟨e1, e2⟩ | ⟨g, cap', cur, e1, e2, e3, e4⟩
  · have k0 : k = 0 := by omega
    subst k0
    have ha : ao = none := by simp only [Value.slice.injEq] at e1; exact e1.1
    subst ha
    obtain ⟨av, cv, rfl, hc, _⟩ := XRow.slice (base := base) (w := w) (v := v) (es := es) ⟨xs, h1, h3⟩
    have hr := run_append_nothing (P := Tryz.prog) w 48 48 ty 43 i0 Tryz.underlying48 hi av es.length cv hc (.slice none 0 c) (Src.ofNil w Tryz.underlying48 c)
    exact ⟨_, _, hr, by rw [List.take_zero, List.append_nil]; exact ⟨xs, h1, h3⟩, ⟨rfl, rfl, rfl, Nat.le_refl _, fun _ _ _ => rfl⟩, Or.inl rfl⟩
  · have ha : ao = some ⟨g, 0, none⟩ := by simp only [Value.slice.injEq] at e1; exact e1.1
    subst ha
    have hyl : ys.length = ES.length * 6 := y1.1
    have hin : ∀ (q : Nat) (u : Value), (ys.take (k * 6))[q]? = some u → ys[q]? = some u ∧ q < k * 6 := fun q u hq => by
      have hlt := (List.getElem?_eq_some_iff.1 hq).1
      rw [List.length_take] at hlt
      rw [List.getElem?_take_of_lt (by omega)] at hq
      exact ⟨hq, by omega⟩
    obtain ⟨v', w', hr, o', g', _, hat⟩ := run_append_own_at (P := Tryz.prog) w base 48 ty 43 i0 _ 6 72 Tryz.underlying48 hi hz0 hz1 hz2 rfl (by decide) v es.length xs h1 ⟨g, 0, none⟩ k c (ys.take (k * 6)) (by rw [List.length_take]; omega)
      (fun j u hj => World.ownsRow.cells (by rw [e1] at y1; exact y1) (g := g) rfl j u (hin j u hj).1)
      (fun u hu => by
        obtain ⟨q, hq⟩ := List.getElem?_of_mem hu
        obtain ⟨hq1, hq2⟩ := hin q u hq
        obtain ⟨e, he⟩ : ∃ e, ES[q / 6]? = some e := ⟨_, List.getElem?_eq_getElem (by omega)⟩
        obtain ⟨mo, mc, k1, _, _⟩ := y3 (q / 6) e he
        obtain ⟨u', hu'⟩ : ∃ u', (e.cells (.slice mo e.ms.length mc))[q % 6]? = some u' := ⟨_, List.getElem?_eq_getElem (by show q % 6 < 6; omega)⟩
        have := k1 (q % 6) u' hu'
        rw [show q / 6 * 6 + q % 6 = q by omega, hq1] at this
        cases this
        exact En.cells_one e rfl u (List.mem_of_getElem? hu')) (by unfold maxLen; omega) (by omega) hb
    have bb : Below base w w' := (Below.refl _ _).grown g' hb (fun k hk => (h1.lt k hk).1)
    have keep : ∀ (u : Option Addr) (zs : List Int), InF (fun k => k < base) w u zs → InF (fun k => k < base) w' u zs := fun u zs hu j hj => by
      obtain ⟨a, a1, a2, a3⟩ := hu j hj
      exact ⟨a, a1, a2, by rw [bb.cell (by rw [add_block]; exact a2)]; exact a3⟩
    have hxl : xs.length = es.length * 6 := h1.1
    refine ⟨v', w', hr, ⟨_, by rw [List.length_append, List.length_take, Nat.min_eq_left hk]; exact o', fun i q hq => ?_⟩, g', hat⟩
    by_cases he : i < es.length
    · rw [List.getElem?_append_left he] at hq
      obtain ⟨u, c, u1, u2, u4⟩ := h3 i q hq
      refine ⟨u, c, fun j z hj => ?_, keep u _ u2, u4⟩
      have hj6 : j < 6 := (List.getElem?_eq_some_iff.1 hj).1
      rw [List.getElem?_append_left (by omega)]; exact u1 j z hj
    · rw [List.getElem?_append_right (by omega)] at hq
      have hik : i - es.length < k := by have := (List.getElem?_eq_some_iff.1 hq).1; rw [List.length_take] at this; omega
      rw [List.getElem?_take_of_lt hik] at hq
      obtain ⟨u, c, u1, u2, u4⟩ := y3 _ q hq
      refine ⟨u, c, fun j z hj => ?_, keep u _ u2, u4⟩
      have hj6 : j < 6 := (List.getElem?_eq_some_iff.1 hj).1
      rw [List.getElem?_append_right (by omega), show i * 6 + j - xs.length = (i - es.length) * 6 + j by omega, List.getElem?_take_of_lt (by omega)]
      exact u1 j z hj
theorem wp_catX {w : World} {o : Oper} {a : Act} {K : Act → World → Prop} {Q : Exit → Act → World → Prop} (s x : Operand)
    (ho : o.op = .call { callee := .builtin .append, args := #[s, x], argTypes := #[48, 48] }) (base : Nat) (v : Value) (es : List En) (h : XRow base w v es) (hs : a.eval s = v)
    (ao : Option Addr) (n cap : Nat) (ES : List En) (hE : XRow base w (.slice ao n cap) ES) (k c : Nat) (hk : k ≤ ES.length) (hx : a.eval x = .slice ao k c) (hl : es.length + k ≤ 1000000) (hb : base ≤ w.heap.size)
    (hK : ∀ v' w', XRow base w' v' (es ++ ES.take k) → w.grownBy w' v.ownBlock → (v'.ownBlock = v.ownBlock ∨ v'.ownBlock = some w.heap.size) → K (a.put o.dst v') w') :
    Oper.wp Tryz.prog o a w K Q := by
  obtain ⟨v', w', hr, h1, h2, h3⟩ := run_catX h o.type ao n cap ES hE k c hk hl hb
  unfold Oper.wp execOp
  simp only [ho, resolve, invoke, builtin, Sem.run_bind, Sem.run_pure, Result.andThen_ok, List.map_toArray, List.map_cons, List.map_nil, hs, hx, hr]
  exact hK v' w' h1 h2 h3
/-- no numbers, no entries, in memory of their own. -/
theorem empty_ints (w : World) : Ir w.heap.size (w.alloc (.cells #[] 3)) (.slice (some ⟨w.heap.size, 0, none⟩) 0 0) [] :=
  ⟨rfl, Or.inr ⟨w.heap.size, 0, #[], rfl, Nat.le_refl _, heap_alloc_new _ _, by simp [maxLen, i64s]⟩⟩
theorem empty_ents (base : Nat) (w : World) (hb : base ≤ w.heap.size) : XRow base (w.alloc (.cells #[] 43)) (.slice (some ⟨w.heap.size, 0, none⟩) 0 0) [] :=
  ⟨[], ⟨rfl, Or.inr ⟨w.heap.size, 0, #[], rfl, hb, heap_alloc_new _ _, by simp [maxLen]⟩⟩, fun i e hi => by simp at hi⟩
end Go.Proofs.YtjplhiflemmkfaaGreatDoor.Hh
