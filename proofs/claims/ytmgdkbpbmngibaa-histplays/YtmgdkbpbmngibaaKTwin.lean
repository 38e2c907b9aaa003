/- conf.twin: a contract. -/
import Derived.Test.YtmgdkbpbmngibaaKRow
import Derived.Laws.CopyOwn
import Derived.Test.YtmgdkbpbmngibaaHBase
namespace Go.Proofs.Ytmgdkbpbmngibaa
open Go.RowKit

theorem Try.sizeI : (Try.prog.info? 3).map (·.size) = some 1 := by kernel_rfl
theorem splice_all {α : Type} (L cs : List α) (h : L.length = cs.length) : splice L 0 cs = cs := by
  unfold splice
  simp [h]
set_option maxHeartbeats 1000000 in
theorem twin_any (ao : Option Addr) (n cap : Nat) (ys : List Int) (hn : ys.length = n) (w : World) (hb : IntsR w ao ys) (hl : n ≤ 1000000000) :
    Calls Try.prog 62 #[.slice ao n cap] w fun e w' => ∃ v, e = .returned v ∧ Ir w.heap.size w' v ys ∧ Below w.heap.size w w' := by
  obtain ⟨i0, hi, hz0, hz1, hz2⟩ := info_parts Try.infoI
  have HB := hide hb
  have HN := hide hn
  clear hb hn
  go_enter Try.func62, Try.ntmps62
  go_wp2_with (at_make; refine wpList_make_full _ rfl _ _ 29 rfl w.heap.size 3 i0 (.int .i64 0) 1 Try.underlying29 hi hz0 hz1 .i64 .i64 _ _ n rfl rfl rfl rfl (by rw [hz2]; omega) (by unfold maxLen; omega) (Nat.le_refl _) ?_)
  intro w1 hown1 hgrow1
  obtain ⟨cur, hg, hcs⟩ : ∃ cur : Array Value, w1.heap[w.heap.size]? = some (.cells cur.toList.toArray 3 (0, 0)) ∧ cur.toList.length = n := by
    rcases hown1.2 with ⟨h, _⟩ | ⟨g, cap, cur, hv, _, hh, _, _, hc, _⟩
    · cases h
    · cases hv
      exact ⟨cur, by simpa using hh, by simpa using hc⟩
  have b1 : Below w.heap.size w w1 := (Below.refl _ _).grown hgrow1 (Nat.le_refl _) (fun k hk => by cases hk)
  have hmin : (i64s ys).length = Nat.min n n := by rw [show Nat.min n n = n from Nat.min_self n]; simp [i64s, unhide HN]
  have hfit : 0 + (i64s ys).length ≤ cur.toList.length := by rw [hcs]; simp [i64s, unhide HN]
  have hpos : 0 < (i64s ys).length → ∃ ad, ao = some ad ∧ ∀ j v, (i64s ys)[j]? = some v → w1.cell? (ad.add j) = some v := by
    intro h0
    cases ao with
    | none => have e := (unhide HB).none_nil; subst e; simp [i64s] at h0
    | some a =>
      refine ⟨a, rfl, fun j u hj => ?_⟩
      rw [i64s, List.getElem?_map] at hj
      cases hq : ys[j]? with
      | none => rw [hq] at hj; simp at hj
      | some y =>
        rw [hq] at hj; simp at hj; subst hj
        obtain ⟨a', e, hcell⟩ := ((unhide HB).below b1) j (List.getElem?_eq_some_iff.1 hq).1
        cases e
        rw [hcell, List.getD_eq_getElem?_getD, hq]; rfl
  have HG := hide hg
  have HC := hide hcs
  have B1 := hide b1
  have HM := hide hmin
  have HF := hide hfit
  have HPO := hide hpos
  clear hg hcs b1 hown1 hgrow1 hmin hfit hpos
  go_wp2_with (refine wpList_copy_splice rfl (.tmp 7) (.tmp 8) 29 29 rfl 3 Try.underlying29 Try.sizeI _ _ _ _ _ _ rfl rfl w.heap.size 0 cur.toList 3 (unhide HG) (i64s ys) (unhide HM) (fun h0 => ⟨rfl, unhide HPO h0⟩) (unhide HF) (i64s_one ys) w.heap.size w (unhide B1) (Nat.le_refl _) ?_)
  intro w2 hg2 hb2
  have B2 := hide hb2
  clear hb2
  go_wp2
  go_ret
  have hg3 := unhide hg2
  rw [splice_all _ _ (by rw [unhide HC]; simp [i64s, unhide HN])] at hg3
  refine ⟨_, rfl, ⟨by simp [i64s], Or.inr ⟨w.heap.size, n, _, by rw [unhide HN]; rfl, Nat.le_refl _, hg3, by rw [unhide HN]; exact Nat.le_refl _, by unfold maxLen; omega, by simp [i64s, unhide HN], ?_⟩⟩, unhide B2⟩
  rw [Nat.mul_one, List.take_of_length_le (by simp [i64s])]
end Go.Proofs.Ytmgdkbpbmngibaa
