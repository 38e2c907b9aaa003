/- hist: place: a contract. -/
import Derived.Test.YtmgdkbpbmngibaaHRead
import Derived.Test.YtmgdkbpbmngibaaHDel
namespace Go.Proofs.Ytmgdkbpbmngibaa
open Go.RowKit Go.Maps

/-- a log in which an entry stands at an index. -/
def placed (b : Int) (rs : List Rw) (i t : Int) (e : En) : List Rw := if termOf b rs i = t then rs else rs.take (aheadOf b rs i) ++ [(t, e)]
theorem Hs.more {D : Nat → Prop} {w w' : World} {p : Nat} {b : Int} {rs : List Rw} (h : Hs D w' p b rs) : Hs (News D w w') w' p b rs := by
  obtain ⟨⟨rv, h1, h2⟩, h3, h4⟩ := h
  exact ⟨⟨rv, h1, h2.mono (fun _ x => Or.inl x)⟩, Or.inl h3, fun k x => x.elim (h4 k) (fun y => y.2)⟩
theorem Hs.news {D : Nat → Prop} {a w w' : World} {p : Nat} {b : Int} {rs : List Rw} (ha : a.heap.size ≤ w.heap.size) (h : Hs (News D w w') w' p b rs) : Hs (News D a w') w' p b rs := by
  obtain ⟨⟨rv, h1, h2⟩, h3, h4⟩ := h
  have hs : ∀ k, News D w w' k → News D a w' k := fun k x => x.elim Or.inl (fun y => Or.inr ⟨Nat.le_trans ha y.1, y.2⟩)
  refine ⟨⟨rv, h1, h2.mono hs⟩, hs p h3, fun k x => ?_⟩
  rcases x with x | x
  · exact h4 k (Or.inl x)
  · exact x.2
theorem Hs.join {D : Nat → Prop} {a m c d : World} {p : Nat} {b : Int} {rs : List Rw} (h1 : a.heap.size ≤ c.heap.size) (h2 : m.heap.size ≤ d.heap.size) (h : Hs (News (News D a m) c d) d p b rs) : Hs (News D a d) d p b rs := by
  obtain ⟨⟨rv, q1, q2⟩, q3, q4⟩ := h
  have hs : ∀ k, News (News D a m) c d k → News D a d k := fun k x => by
    rcases x with (x | x) | x
    · exact Or.inl x
    · exact Or.inr ⟨x.1, Nat.lt_of_lt_of_le x.2 h2⟩
    · exact Or.inr ⟨Nat.le_trans h1 x.1, x.2⟩
  refine ⟨⟨rv, q1, q2.mono hs⟩, hs p q3, fun k x => ?_⟩
  rcases x with x | x
  · exact q4 k (Or.inl (Or.inl x))
  · exact x.2
theorem Kp.join {D : Nat → Prop} {a m c d : World} (h : Kp D a m) (k : Below m.heap.size m c) (q : Kp (News D a m) c d) : Kp D a d :=
  (h.far k).trans q (fun j hj x => x.elim id (fun y => absurd hj (by omega)))
theorem del_put {D : Nat → Prop} {w w2 w3 : World} {p : Nat} {b : Int} {rs : List Rw} {rv v : Value} {k : Nat} (hp : D p) (hl : ∀ j, D j → j < w.heap.size) (hb : Below w.heap.size w w2) (hx : w2.heap[p]? = some (.cells #[.int .i64 b, rv] 73 (0, 0))) (hr : RRow D w2 rv rs) (h3 : RRow D w3 v (rs.take k)) (hk : Kp (fun j => rv.ownBlock = some j) w2 w3) :
    w3.cell? ⟨p, 1, none⟩ = some rv ∧ w3.frozen? ⟨p, 1, none⟩ = false ∧ Hs D (w3.setCell ⟨p, 1, none⟩ v) p b (rs.take k) ∧ Kp D w (w3.setCell ⟨p, 1, none⟩ v) := by
  have p3 : w3.heap[p]? = some (.cells #[.int .i64 b, rv] 73 (0, 0)) := hk.block hx (fun e => by
    obtain ⟨_, cur, fr, hc⟩ := hr.tag p e
    rw [hx] at hc; cases hc)
  have k3 : Kp D w w3 := ((Kp.of_below (D := D) hb).trans (hk.mono (fun j _ e => (hr.tag j e).1)) (fun _ _ x => x))
  refine ⟨(cell_of_block p3).trans rfl, free_of_block p3, ⟨⟨v, setCell_block p3, h3.other (fun j hj => Below.heap_setCell _ _ _ j hj) p3⟩, hp, fun j hj => ?_⟩, k3.setCell (p := ⟨p, 1, none⟩) hp v⟩
  exact Nat.lt_of_lt_of_le (hl j hj) (k3.setCell (p := ⟨p, 1, none⟩) hp v).size

set_option maxRecDepth 20000 in
set_option maxHeartbeats 2000000 in
theorem place_any {D F : Nat → Prop} {w : World} {p : Nat} {b : Int} {rs : List Rw} (h : Hs D w p b rs) (hf : Fit b rs) (i t : Int) (e : En) (mo : Option Addr) (cap : Nat) (hb : InF F w mo e.ms) (hFD : ∀ k, F k → ¬ D k) (hl : e.ms.length ≤ 1000000) :
    Calls Try.prog 41 #[.pointer (some ⟨p, 0, none⟩), .int .i64 i, .int .i64 t, .agg #[.int .i64 e.kind, .int .i64 e.client, .int .i64 e.seq, .string e.text, .slice mo e.ms.length cap, .int .i64 e.dest]] w fun x w' =>
      x = .returned (.tuple #[]) ∧ Hs (News D w w') w' p b (placed b rs i t e) ∧ Kp D w w' := by
  obtain ⟨W, hW⟩ : ∃ W, w.alloc (.cells #[.int .i64 e.kind, .int .i64 e.client, .int .i64 e.seq, .string e.text, .slice mo e.ms.length cap, .int .i64 e.dest] 60) = W := ⟨_, rfl⟩
  have bW : Below w.heap.size w W := by rw [← hW]; exact (Below.refl _ w).alloc (Nat.le_refl _) _
  have xW : W.heap[w.heap.size]? = some (.cells #[.int .i64 e.kind, .int .i64 e.client, .int .i64 e.seq, .string e.text, .slice mo e.ms.length cap, .int .i64 e.dest] 60 (0, 0)) := by rw [← hW]; exact box_at _ _
  have hW1 := h.below bW
  have TE := hide (term_any hW1 hf i)
  have AH := hide (fun Y (hY : Below W.heap.size W Y) => ahead_any (hW1.below hY) hf i)
  have HH := hide hW1
  have HW := hide hW
  have BW := hide bW
  have XW := hide xW
  have hlt := hide h.lt
  have hDp := hide h.own
  have HB := hide hb
  have n1 := hf.n1
  have FD := hide hFD
  clear hb hW bW xW hW1 h hf hFD
  by_cases ht : termOf b rs i = t
  · have hpl : placed b rs i t e = rs := by unfold placed; rw [if_pos ht]
    rw [hpl]
    rw [ht] at TE
    clear hpl ht AH XW HB
    go_enter Try.func41, Try.ntmps41
    go_wp2_with fail
    rw [unhide HW]
    refine (unhide TE).mono ?_
    rintro x w1 ⟨rfl, b1⟩
    have B1 := hide b1
    clear b1 TE
    go_wp2
    refine bodyPost_ret (results_none rfl _ _ _) rfl ?_
    exact ⟨rfl, ((unhide HH).below (unhide B1)).more, Kp.of_below (below_far (unhide BW) (unhide B1))⟩
  · have hpl : placed b rs i t e = rs.take (aheadOf b rs i) ++ [(t, e)] := by unfold placed; rw [if_neg ht]
    rw [hpl]
    obtain ⟨q, hq⟩ : ∃ q, termOf b rs i = q := ⟨_, rfl⟩
    rw [hq] at TE ht
    have hne : (q == t) = false := by rw [beq_eq_false_iff_ne]; exact ht
    have hkl : aheadOf b rs i ≤ rs.length := by unfold aheadOf; split <;> omega
    obtain ⟨k, hk⟩ : ∃ k, aheadOf b rs i = k := ⟨_, rfl⟩
    rw [hk] at AH hkl ⊢
    obtain ⟨⟨rv, hbx, hrr⟩, -, -⟩ := unhide HH
    obtain ⟨ao, ca, rfl, -⟩ := hrr.slice
    obtain ⟨n, hn⟩ : ∃ n, rs.length = n := ⟨_, rfl⟩
    rw [hn] at hkl hbx hrr n1
    have HX := hide hbx
    have HR := hide hrr
    have HN := hide hn
    have HKL := hide hkl
    clear hbx hrr hk hq ht hpl hn hkl
    go_enter Try.func41, Try.ntmps41
    go_wp2_with fail
    rw [unhide HW]
    refine (unhide TE).mono ?_
    rintro x w1 ⟨rfl, b1⟩
    have B1 := hide b1
    have c1 : w1.drew.cell? ⟨p, 1, none⟩ = some (.slice ao n ca) := (cell_of_block (w := w1.drew) (Below.stay b1 (unhide HX))).trans rfl
    have A1 := hide (unhide AH w1.drew b1.drew)
    clear b1 TE AH
    go_upto_region 2 with fail
    go_cut [] (fun wc => Hs D wc p b (rs.take k) ∧ Kp D w wc ∧ wc.heap[w.heap.size]? = some (.cells #[.int .i64 e.kind, .int .i64 e.client, .int .i64 e.seq, .string e.text, .slice mo e.ms.length cap, .int .i64 e.dest] 60 (0, 0)))
    case first =>
      go_region_with (first
        | (go_at_call 45; refine (unhide A1).mono ?_; rintro e w2 ⟨rfl, b2⟩
           have B2 := hide (below_far (unhide B1).drew b2)
           have x2 := Below.stay (unhide B2) (unhide HX)
           have X2 := hide x2
           have c2 : w2.cell? ⟨p, 1, none⟩ = some (.slice ao n ca) := (cell_of_block x2).trans rfl
           have R2 := hide ((unhide HR).kp (E := fun _ => False) (Kp.of_below (unhide B2)) (fun _ _ x => x))
           have D2 := hide (hdelete_any (unhide R2) (unhide HN) (unhide HKL))
           clear b2 x2)
        | (go_at_call 56; refine (unhide D2).mono ?_; rintro x w3 ⟨v3, rfl, r3, k3⟩
           obtain ⟨ao3, ca3, rfl, -⟩ := r3.slice
           obtain ⟨n3, hn3⟩ : ∃ n3, (rs.take k).length = n3 := ⟨_, rfl⟩
           rw [hn3] at r3 ⊢
           obtain ⟨c3, f3, h4, k4⟩ := del_put (unhide hDp) (unhide hlt) (below_far (unhide BW) (unhide B2)) (unhide X2) (unhide R2) r3 k3
           have H4 := hide h4
           have K4 := hide k4
           have X4 := hide (Kp.block (w := w3) (w' := w3.setCell ⟨p, 1, none⟩ (.slice ao3 n3 ca3)) (D := D) ((Kp.refl D w3).setCell (p := ⟨p, 1, none⟩) (unhide hDp) _) (Kp.block k3 (Below.stay (unhide B2) (unhide XW)) (fun x => Nat.lt_irrefl _ ((unhide hlt) _ (((unhide R2).tag _ x).1)))) (fun x => Nat.lt_irrefl _ ((unhide hlt) _ x)))
           clear r3 k3 h4 k4 hn3))
      all_goals go_wp2_with fail
      all_goals go_meet
      all_goals exact ⟨unhide H4, unhide K4, unhide X4⟩
    case rest =>
      obtain ⟨h4, k4, x4⟩ := hcut
      have AD := hide (add_any h4 (by rw [List.length_take, unhide HN]; omega) t e mo cap ((unhide HB).kp k4 (unhide FD)).ints hl)
      have K4 := hide k4
      have a0 : wc.cell? ⟨w.heap.size, 0, none⟩ = some (.int .i64 e.kind) := (cell_of_block x4).trans rfl
      have a1 : wc.cell? ⟨w.heap.size, 1, none⟩ = some (.int .i64 e.client) := (cell_of_block x4).trans rfl
      have a2 : wc.cell? ⟨w.heap.size, 2, none⟩ = some (.int .i64 e.seq) := (cell_of_block x4).trans rfl
      have a3 : wc.cell? ⟨w.heap.size, 3, none⟩ = some (.string e.text) := (cell_of_block x4).trans rfl
      have a4 : wc.cell? ⟨w.heap.size, 4, none⟩ = some (.slice mo e.ms.length cap) := (cell_of_block x4).trans rfl
      have a5 : wc.cell? ⟨w.heap.size, 5, none⟩ = some (.int .i64 e.dest) := (cell_of_block x4).trans rfl
      clear h4 k4 x4 HH HX HR A1 c1 XW
      go_wp2_with fail
      refine (unhide AD).mono ?_
      rintro x w5 ⟨rfl, h5, k5⟩
      have H5 := hide (h5.news (unhide K4).size)
      have K5 := hide ((unhide K4).trans k5 (fun _ _ x => x))
      clear h5 k5 AD
      go_wp2
      go_end0
      exact ⟨rfl, unhide H5, unhide K5⟩
end Go.Proofs.Ytmgdkbpbmngibaa
