/- nothing, Check: contracts. -/
import Derived.Test.YtndpkpkijfplaaaGTake
namespace Go.Proofs.Ytndpkpkijfplaaa
open Go.RowKit Go.Maps
attribute [local go_sem ↓] Go.wp_at_zero Go.wp_at_succ

theorem nothing_any (w : World) : Calls Try.prog 19 #[] w fun e w' => ∃ p a b d, e = .returned (.pointer (some ⟨p, 0, none⟩)) ∧ KnA w w' p a b d 0 Kn.nothing ∧ Below w.heap.size w w' := by
  have hmm := @run_makeMap Try.prog
  go_enter Try.func19, Try.ntmps19
  go_wp2
  go_ret
  obtain ⟨w1, h1⟩ : ∃ x, w.alloc (.map #[] 0) = x := ⟨_, rfl⟩
  obtain ⟨w2, h2⟩ : ∃ x, w1.alloc (.map #[] 0) = x := ⟨_, rfl⟩
  obtain ⟨w3, h3⟩ : ∃ x, w2.alloc (.map #[] 0) = x := ⟨_, rfl⟩
  have s1 : w1.heap.size = w.heap.size + 1 := by rw [← h1]; simp
  have s2 : w2.heap.size = w.heap.size + 2 := by rw [← h2]; simp [s1]
  have s3 : w3.heap.size = w.heap.size + 3 := by rw [← h3]; simp [s2]
  have b1 : Below w.heap.size w w1 := by rw [← h1]; exact (Below.refl _ w).alloc (Nat.le_refl _) _
  have b2 : Below w1.heap.size w1 w2 := by rw [← h2]; exact (Below.refl _ w1).alloc (Nat.le_refl _) _
  have b3 : Below w2.heap.size w2 w3 := by rw [← h3]; exact (Below.refl _ w2).alloc (Nat.le_refl _) _
  obtain ⟨w4, h4⟩ : ∃ x, w3.alloc (.cells #[.map (some w.heap.size), .map (some (w.heap.size + 1)), .map (some (w.heap.size + 2))] 60) = x := ⟨_, rfl⟩
  have b4 : Below w3.heap.size w3 w4 := by rw [← h4]; exact (Below.refl _ w3).alloc (Nat.le_refl _) _
  have x4 : w4.heap[w.heap.size + 3]? = some (.cells #[.map (some w.heap.size), .map (some (w.heap.size + 1)), .map (some (w.heap.size + 2))] 60 (0, 0)) := by rw [← s3, ← h4]; exact box_at _ _
  have m1 : CMap w w1 w.heap.size 0 Kn.nothing.calls := by rw [← h1]; exact ⟨.map [], World.ownsMap_made w Try.prog 62 asIs, fun x y _ _ => ⟨rfl, fun e he => by cases he⟩⟩
  have m2 : PMap w2 (w.heap.size + 1) 0 Kn.nothing.place := by rw [← h2, ← s1]; exact ⟨.map [], World.ownsMap_made w1 Try.prog 62 asIs, fun x y _ _ => ⟨rfl, rfl⟩⟩
  have m3 : HMap w3 (w.heap.size + 2) 0 Kn.nothing.holder := by rw [← h3, ← s2]; exact ⟨.map [], World.ownsMap_made w2 Try.prog 3 asIs, fun x _ => ⟨rfl, rfl⟩⟩
  have bb : Below w.heap.size w w4 := below_far b1 (below_far b2 (below_far b3 b4))
  have KN : KnA w w4 (w.heap.size + 3) w.heap.size (w.heap.size + 1) (w.heap.size + 2) 0 Kn.nothing :=
    ⟨x4, m1.stay ((below_far b2 (below_far b3 b4)).block _ (by omega)), m2.stay ((below_far b3 b4).block _ (by omega)), m3.stay (b4.block _ (by omega)), by omega⟩
  subst h4
  subst h3
  subst h2
  subst h1
  exact ⟨_, _, _, _, rfl, KN, bb⟩
/-- events in memory. -/
def EvR (A : World) (F : Nat → Prop) (ao : Option Addr) (vs : List Ev) : Prop :=
  ∀ (i : Nat) (v : Ev), vs[i]? = some v → ∃ g off mo mc eo ec, ao = some ⟨g, off, none⟩ ∧ (∀ (j : Nat) (u : Value), (evv v mo mc eo ec)[j]? = some u → A.cell? ⟨g, off + i * 11 + j, none⟩ = some u) ∧ EvA A F v mo eo
theorem cells11 {w : World} {g n : Nat} {c0 c1 c2 c3 c4 c5 c6 c7 c8 c9 c10 : Value} (h : ∀ (j : Nat) (u : Value), (#[c0, c1, c2, c3, c4, c5, c6, c7, c8, c9, c10])[j]? = some u → w.cell? ⟨g, n + j, none⟩ = some u) :
    w.cell? ⟨g, n, none⟩ = some c0 ∧ w.cell? ⟨g, n + 1, none⟩ = some c1 ∧ w.cell? ⟨g, n + 2, none⟩ = some c2 ∧ w.cell? ⟨g, n + 3, none⟩ = some c3 ∧ w.cell? ⟨g, n + 4, none⟩ = some c4 ∧ w.cell? ⟨g, n + 5, none⟩ = some c5 ∧ w.cell? ⟨g, n + 6, none⟩ = some c6 ∧ w.cell? ⟨g, n + 7, none⟩ = some c7 ∧ w.cell? ⟨g, n + 8, none⟩ = some c8 ∧ w.cell? ⟨g, n + 9, none⟩ = some c9 ∧ w.cell? ⟨g, n + 10, none⟩ = some c10 :=
  ⟨h 0 _ rfl, h 1 _ rfl, h 2 _ rfl, h 3 _ rfl, h 4 _ rfl, h 5 _ rfl, h 6 _ rfl, h 7 _ rfl, h 8 _ rfl, h 9 _ rfl, h 10 _ rfl⟩
set_option maxRecDepth 20000 in
set_option maxHeartbeats 4000000 in
/-- Check over any events. -/
theorem check_any {F : Nat → Prop} (ao : Option Addr) (m cap : Nat) (vs : List Ev) (hm : vs.length = m) (hl : m ≤ 400) (w : World) (hr : EvR w F ao vs) :
    Calls Try.prog 12 #[.slice ao m cap] w fun x w' => x = .returned (.int .i64 (checkOf vs)) ∧ Below w.heap.size w w' := by
  have HR := hide hr
  have HM := hide hm
  have NO := hide (nothing_any w)
  obtain ⟨R, hR⟩ : ∃ R, checkOf vs = R := ⟨_, rfl⟩
  rw [hR]
  have HRR := hide hR
  clear hr hm hR
  go_enter Try.func12, Try.ntmps12
  go_wp2_with fail
  refine (unhide NO).mono ?_
  rintro z w0 ⟨p, a, b, d, rfl, h0, b0⟩
  have K0 := hide h0
  have B0 := hide b0
  clear h0 b0 NO
  go_wp2_with fail
  go_loopw [9, 4, 5] (fun i _ _ wr => ∃ (k : Nat) (S : Kn), k ≤ m ∧ i = .int .i64 k ∧ knowOf (vs.take k) = some S ∧ KnA w wr p a b d (k * 200002) S ∧ Below w.heap.size w wr) (fun i _ _ _ => m - (intOf i).toNat)
  case atStart => exact ⟨0, _, Nat.zero_le _, rfl, rfl, unhide K0, unhide B0⟩
  case round =>
    obtain ⟨k, S, hk, rfl, hst, hkn, hb⟩ := hrel
    have ST := hide hst
    have KN := hide hkn
    have HB := hide hb
    clear hst hkn hb
    by_cases hlt : k < m
    · obtain ⟨v, hv⟩ : ∃ v, vs[k]? = some v := ⟨_, List.getElem?_eq_getElem (by rw [unhide HM]; exact hlt)⟩
      obtain ⟨g, off, mo, mc, eo, ec, rfl, hc, hev⟩ := unhide HR k v hv
      obtain ⟨c0, c1, c2, c3, c4, c5, c6, c7, c8, c9, c10⟩ := cells11 hc
      have bb := unhide HB
      replace c0 := (bb.cell (blk_lt c0)).trans c0
      replace c1 := (bb.cell (blk_lt c1)).trans c1
      replace c2 := (bb.cell (blk_lt c2)).trans c2
      replace c3 := (bb.cell (blk_lt c3)).trans c3
      replace c4 := (bb.cell (blk_lt c4)).trans c4
      replace c5 := (bb.cell (blk_lt c5)).trans c5
      replace c6 := (bb.cell (blk_lt c6)).trans c6
      replace c7 := (bb.cell (blk_lt c7)).trans c7
      replace c8 := (bb.cell (blk_lt c8)).trans c8
      replace c9 := (bb.cell (blk_lt c9)).trans c9
      replace c10 := (bb.cell (blk_lt c10)).trans c10
      have q : (k : Int) < m := by omega
      obtain ⟨W, hW⟩ : ∃ W, wr.alloc (.cells (evv v mo mc eo ec) 31) = W := ⟨_, rfl⟩
      have bW : Below wr.heap.size wr W := by rw [← hW]; exact (Below.refl _ wr).alloc (Nat.le_refl _) _
      have xW : W.heap[wr.heap.size]? = some (.cells (evv v mo mc eo ec) 31 (0, 0)) := by rw [← hW]; exact box_at _ _
      obtain ⟨y0, y1, y2, y3, y4, y5, y6, y7, y8, y9, y10⟩ := box11 xW
      have bwW := below_far bb bW
      have TK := hide (take_any ((unhide KN).below bW) bwW mc ec hev (by have := hev.len; omega))
      have HW := hide hW
      have BW := hide bwW
      have HV := hide hv
      have LE := hide hev.len
      clear bb hW bW xW bwW hv hc hev
      go_upto_region 5 with fail
      rw [unhide HW]
      go_wp2_with fail
      refine (unhide TK).mono ?_
      rintro z w1 ⟨hz, hkp⟩
      have bb1 : Below w.heap.size w w1 := (unhide BW).trans (Kp.below hkp (fun k' hk' => by
        obtain ⟨f1, f2, f3, f4, -⟩ := (unhide KN).far
        rcases hk' with rfl | rfl | rfl
        · exact f2
        · exact f3
        · exact f4) (unhide BW).size)
      have B1 := hide bb1
      rcases hz with ⟨h0, rfl⟩ | ⟨S', h0, rfl, h1⟩
      · have FIN : Hid (R = (k : Int)) := by
          show _ = _
          rw [← unhide HRR]
          exact check_at (unhide HV) (unhide ST) h0
        clear h0 hkp bb1
        go_wp2
        go_ret
        exact ⟨ret_int (unhide FIN).symm, unhide B1⟩
      · have FIN : Hid (knowOf (vs.take (k + 1)) = some S' ∧ KnA w w1 p a b d ((k + 1) * 200002) S') := ⟨know_take (unhide HV) (unhide ST) h0, h1.mono (by have := unhide LE; omega)⟩
        clear h0 h1 hkp bb1
        go_wp2
        go_roundw
        case rel => exact ⟨k + 1, S', by omega, by go_num, (unhide FIN).1, (unhide FIN).2, unhide B1⟩
        case measure => simp [intOf]; omega
    · obtain rfl : k = m := by omega
      have q : ¬ (k : Int) < (k : Int) := by omega
      have FIN : Hid (R = -1) := by
        show _ = _
        rw [← unhide HRR]
        have st := unhide ST
        rw [List.take_of_length_le (by rw [unhide HM]; exact Nat.le_refl _)] at st
        exact check_all st
      go_wp2
      go_ret
      exact ⟨ret_int (unhide FIN).symm, unhide HB⟩
end Go.Proofs.Ytndpkpkijfplaaa
