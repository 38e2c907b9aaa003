/- hist: Append: a contract. -/
import Derived.Test.YtmgdkbpbmngibaaHBarred
import Derived.Test.YtmgdkbpbmngibaaHAdd
import Derived.Test.YtmgdkbpbmngibaaHPlace
namespace Go.Proofs.Ytmgdkbpbmngibaa
open Go.RowKit Go.Maps

/-- what Append answers, and leaves. -/
def appNo (b : Int) (rs : List Rw) (t : Int) (n : Nat) : Nat := if 1 ≤ t ∧ termOf b rs (b + (rs.length : Int)) ≤ t then (if b + (rs.length : Int) + (n : Int) ≤ 64 then 0 else 14) else 1
def appRows (b : Int) (rs : List Rw) (t : Int) (es : List En) : List Rw := if appNo b rs t es.length = 0 then rs ++ es.map (fun e => (t, e)) else rs
def appN (b : Int) (rs : List Rw) (t : Int) (n : Nat) : Int := if appNo b rs t n = 0 then b + (rs.length : Int) + (n : Int) else 0
theorem climbs_one (a t : Int) : climbsOf a [t] = decide (1 ≤ t ∧ a ≤ t) := by
  unfold climbsOf climbsOf
  rw [Bool.and_true]
  congr 1
  apply propext; omega
set_option maxRecDepth 20000 in
set_option maxHeartbeats 4000000 in
theorem append_any {D F : Nat → Prop} {w : World} {p : Nat} {b : Int} {rs : List Rw} (h : Hs D w p b rs) (hf : Fit b rs) (t : Int) (ao : Option Addr) (n cap : Nat) (es : List En) (hn : es.length = n) (hn6 : n ≤ 1000000) (hes : EsR F w ao es) (hFD : ∀ k, F k → ¬ D k) (hFl : ∀ k, F k → k < w.heap.size) :
    Calls Try.prog 19 #[.pointer (some ⟨p, 0, none⟩), .int .i64 t, .slice ao n cap] w fun x w' =>
      x = .returned (.tuple #[.int .i64 (appN b rs t n), .int .i64 ((appNo b rs t n : Nat) : Int)]) ∧ Hs (News D w w') w' p b (appRows b rs t es) ∧ Kp D w w' := by
  obtain ⟨R, hR⟩ : ∃ R, appNo b rs t n = R := ⟨_, rfl⟩
  have hN : appN b rs t n = if R = 0 then b + (rs.length : Int) + (n : Int) else 0 := by unfold appN; rw [hR]
  have hA : appRows b rs t es = if R = 0 then rs ++ es.map (fun e => (t, e)) else rs := by unfold appRows; rw [hn, hR]
  rw [hN, hA, hR]
  unfold appNo at hR
  have hb0 := hf.b0
  have hb1 := hf.b1
  have hn1 := hf.n1
  have LA := hide (fun Y (hY : Below w.heap.size w Y) => last_any (h.below hY) hf)
  have L0 := hide (last_any h hf)
  have TE := hide (fun Y (hY : Below w.heap.size w Y) => term_any (h.below hY) hf (b + (rs.length : Int)))
  obtain ⟨L, hL⟩ : ∃ L, b + (rs.length : Int) = L := ⟨_, rfl⟩
  obtain ⟨q, hq⟩ : ∃ q, termOf b rs (b + (rs.length : Int)) = q := ⟨_, rfl⟩
  rw [hq, hL] at hR
  rw [hq] at TE
  rw [hL] at LA TE L0 ⊢
  have hLb : 0 ≤ L ∧ L ≤ 2000000 := by omega
  have HH := hide h
  have HE := hide hes
  have HF := hide hf
  have FD := hide hFD
  have FL := hide hFl
  have HN := hide hn
  have HL := hide hL
  have HR := hide hR
  clear h hes hf hFD hFl hn hL hR hN hA hb0 hb1 hn1 hq
  go_enter Try.func19, Try.ntmps19
  go_wp2_with fail
  refine (unhide L0).mono ?_
  rintro x w1 ⟨rfl, b1⟩
  have T1 := hide (unhide TE _ b1)
  have B1 := hide b1
  clear b1 L0 TE
  go_wp2_with fail
  refine (unhide T1).mono ?_
  rintro x w2 ⟨rfl, b2⟩
  have B2 := hide (below_far (unhide B1) b2)
  obtain ⟨W, hW⟩ : ∃ W, w2.alloc (.cells #[.int .i64 t] 3) = W := ⟨_, rfl⟩
  have bW : Below w2.heap.size w2 W := by rw [← hW]; exact (Below.refl _ w2).alloc (Nat.le_refl _) _
  have CL := hide (hclimbs_any q (some ⟨w2.heap.size, 0, none⟩) 1 1 [t] rfl (by decide) W (fun i hi => by
    have hi0 : i = 0 := by simp at hi; omega
    subst hi0
    exact ⟨_, rfl, by rw [Addr.add_lit, ← hW]; exact (cell_of_block (box_at w2 _)).trans rfl⟩))
  rw [climbs_one] at CL
  have HW := hide hW
  have BW := hide (below_far (unhide B2) bW)
  clear b2 T1 B1 bW hW
  go_wp2_with fail
  rw [unhide HW]
  refine (unhide CL).mono ?_
  rintro x w3 ⟨rfl, b3⟩
  have B3 := hide (below_far (unhide BW) b3)
  have L3 := hide (unhide LA _ (unhide B3))
  clear b3 CL BW HW B2
  by_cases hc : 1 ≤ t ∧ q ≤ t
  · rw [decide_eq_true hc]
    have r1 := unhide HR
    rw [if_pos hc] at r1
    have HR1 := hide r1
    clear r1 HR hc
    go_wp2_with fail
    refine (unhide L3).mono ?_
    rintro x w4 ⟨rfl, b4⟩
    have B4 := hide (below_far (unhide B3) b4)
    have FI := hide (fits_any L n (by omega) hn6 w4)
    clear b4 L3 B3
    go_wp2_with fail
    refine (unhide FI).mono ?_
    rintro x w5 ⟨rfl, hw⟩
    replace hw := hw.symm
    subst hw
    clear FI
    by_cases hfi : L + (n : Int) ≤ 64
    · have d1 : decide (L + (n : Int) ≤ 64) = true := decide_eq_true hfi
      obtain rfl : 0 = R := by have := unhide HR1; rwa [if_pos hfi] at this
      clear HR1
      go_wp2_with fail
      go_loopw [26, 9] (fun iv _ wr => ∃ k : Nat, k ≤ n ∧ iv = .int .i64 (k : Int) ∧ Hs (News D w wr) wr p b (rs ++ (es.take k).map (fun e => (t, e))) ∧ Kp D w wr) (fun iv _ _ => n - (intOf iv).toNat)
      case atStart => exact ⟨0, Nat.zero_le _, rfl, by rw [List.take_zero, List.map_nil, List.append_nil]; exact ((unhide HH).below (unhide B4)).more, Kp.of_below (unhide B4)⟩
      case round =>
        obtain ⟨k, hk, rfl, hs, hkp⟩ := hrel
        have HS := hide hs
        have KP := hide hkp
        clear hs hkp
        by_cases hlt : k < n
        · obtain ⟨e, he⟩ : ∃ e, es[k]? = some e := ⟨_, List.getElem?_eq_getElem (by rw [unhide HN]; exact hlt)⟩
          have hE := (unhide HE).kp (unhide KP) (unhide FD)
          obtain ⟨g, off, mo, mc, rfl, c0, c1, c2, c3, c4, c5, him, hml⟩ := hE.at he
          have hq : (k : Int) < (n : Int) := by omega
          obtain ⟨W, hW⟩ : ∃ W, wr.alloc (.cells #[.int .i64 e.kind, .int .i64 e.client, .int .i64 e.seq, .string e.text, .slice mo e.ms.length mc, .int .i64 e.dest] 60) = W := ⟨_, rfl⟩
          have bW : Below wr.heap.size wr W := by rw [← hW]; exact (Below.refl _ wr).alloc (Nat.le_refl _) _
          have xW : W.heap[wr.heap.size]? = some (.cells #[.int .i64 e.kind, .int .i64 e.client, .int .i64 e.seq, .string e.text, .slice mo e.ms.length mc, .int .i64 e.dest] 60 (0, 0)) := by rw [← hW]; exact box_at _ _
          have AD := hide (add_any ((unhide HS).below bW) (by rw [List.length_append, List.length_map, List.length_take]; have := (unhide HF).n1; have := (unhide HF).b0; have := unhide HL; omega) t e mo mc (him.below bW).ints hml)
          have a0 : W.cell? ⟨wr.heap.size, 0, none⟩ = some (.int .i64 e.kind) := (cell_of_block xW).trans rfl
          have a1 : W.cell? ⟨wr.heap.size, 1, none⟩ = some (.int .i64 e.client) := (cell_of_block xW).trans rfl
          have a2 : W.cell? ⟨wr.heap.size, 2, none⟩ = some (.int .i64 e.seq) := (cell_of_block xW).trans rfl
          have a3 : W.cell? ⟨wr.heap.size, 3, none⟩ = some (.string e.text) := (cell_of_block xW).trans rfl
          have a4 : W.cell? ⟨wr.heap.size, 4, none⟩ = some (.slice mo e.ms.length mc) := (cell_of_block xW).trans rfl
          have a5 : W.cell? ⟨wr.heap.size, 5, none⟩ = some (.int .i64 e.dest) := (cell_of_block xW).trans rfl
          have HT : Hid (rs ++ (es.take k).map (fun e => (t, e)) ++ [(t, e)] = rs ++ (es.take (k + 1)).map (fun e => (t, e))) := by
            show _ = _
            rw [List.take_add_one, he, List.append_assoc, List.map_append]; rfl
          have BW := hide bW
          have HW := hide hW
          clear hE him bW xW he hW
          go_upto_region 8 with fail
          rw [unhide HW]
          go_wp2_with fail
          refine (unhide AD).mono ?_
          rintro x w6 ⟨rfl, h6, k6⟩
          rw [unhide HT] at h6
          have H6 := hide (Hs.join (Nat.le_trans (unhide KP).size (unhide BW).size) (Nat.le_trans (unhide BW).size k6.size) h6)
          have K6 := hide (Kp.join (unhide KP) (unhide BW) k6)
          clear h6 k6 AD HS a0 a1 a2 a3 a4 a5 c0 c1 c2 c3 c4 c5 HT
          go_wp2
          go_roundw
          case rel => exact ⟨k + 1, by omega, by go_num, unhide H6, unhide K6⟩
          case measure => simp [intOf]; omega
        · obtain rfl : k = n := by omega
          have hs := unhide HS
          rw [List.take_of_length_le (by rw [unhide HN]; exact Nat.le_refl _)] at hs
          have LF := hide (last_any hs (by
            refine ⟨(unhide HF).b0, (unhide HF).b1, ?_⟩
            rw [List.length_append, List.length_map, unhide HN]; have := unhide HL; have := (unhide HF).b0; omega))
          have e1 : b + (((rs ++ es.map (fun e => (t, e))).length : Nat) : Int) = L + (k : Int) := by
            rw [List.length_append, List.length_map, unhide HN]; have := unhide HL; omega
          rw [e1] at LF
          have H7 := hide hs
          clear hs HS e1
          go_wp2_with fail
          refine (unhide LF).mono ?_
          rintro x w7 ⟨rfl, b7⟩
          have B7 := hide b7
          clear b7 LF
          go_wp2
          go_ret2
          refine ⟨rfl, ?_, (unhide KP).far (unhide B7)⟩
          exact Hs.join (m := wr) (c := w7) (Nat.le_trans (unhide KP).size (unhide B7).size) (unhide B7).size (((unhide H7).below (unhide B7)).more)
    · have d1 : decide (L + (n : Int) ≤ 64) = false := decide_eq_false hfi
      obtain rfl : 14 = R := by have := unhide HR1; rwa [if_neg hfi] at this
      clear HR1 hfi
      go_wp2
      go_ret2
      exact ⟨rfl, ((unhide HH).below (unhide B4)).more, Kp.of_below (unhide B4)⟩
  · rw [decide_eq_false hc]
    obtain rfl : 1 = R := by have := unhide HR; rwa [if_neg hc] at this
    clear HR hc
    go_wp2
    go_ret2
    exact ⟨rfl, ((unhide HH).below (unhide B3)).more, Kp.of_below (unhide B3)⟩
end Go.Proofs.Ytmgdkbpbmngibaa
