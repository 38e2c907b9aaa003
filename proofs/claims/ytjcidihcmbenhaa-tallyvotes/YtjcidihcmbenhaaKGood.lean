/- synodallaw8's Good: a contract. -/
import Derived.Test.YtjcidihcmbenhaaKCf
namespace Go.Proofs.Ytjcidihcmbenhaa
open Go.RowKit

/-- what a store into the first cell of a box leaves. -/
theorem one_end {w y : World} {B : Nat} {a x0 x1 : Value} {t : TypeId} (hz : y.heap[B]? = some (.cells #[x0, x1] t (0, 0))) (hB : w.heap.size ≤ B) (hb : Below w.heap.size w y) :
    (y.setCell ⟨B, 0, none⟩ a).heap[B]? = some (.cells #[a, x1] t (0, 0)) ∧ Below w.heap.size w (y.setCell ⟨B, 0, none⟩ a) ∧ ∀ k, k ≠ B → (y.setCell ⟨B, 0, none⟩ a).heap[k]? = y.heap[k]? := by
  refine ⟨by simp [World.setCell, Array.getElem?_modify, hz], hb.setCell (p := ⟨B, 0, none⟩) hB a, fun k hk => ?_⟩
  rw [Below.heap_setCell _ _ _ k hk]

set_option maxHeartbeats 1000000 in
theorem good_any (o n : Int) (w : World) : Calls Try.prog 9 #[.int .i64 o, .int .i64 n] w fun e w' => ∃ v, e = .returned v ∧ Cf w' v (lst (bitOf o) 9) (plainOf (bitOf n)) ∧ Below w.heap.size w w' := by
  obtain ⟨W, hW, bW, xW, sW⟩ := boxed w (.slice none 0 0) (.slice none 0 0)
  have PL := hide (plain_new n W)
  have HW := hide hW
  have BW := hide bW
  have XW := hide xW
  have SW := hide sW
  clear hW bW xW sW
  go_enter Try.func9, Try.ntmps9
  go_wp2_with fail
  rw [unhide HW]
  refine (unhide PL).mono ?_
  rintro e w1 ⟨an, nn, cn, rfl, hn, hc, fr, b1, hnew⟩
  obtain ⟨ps, hps⟩ : ∃ ps, plainOf (bitOf n) = ps := ⟨_, rfl⟩
  rw [hps] at hn fr
  have KN : Hid (∀ a, an = some a → a.block ≠ w1.heap.size ∧ a.block ≠ w.heap.size) := fun a ha => by
    have h1 := hnew a ha
    have h2 := unhide SW
    have h3 : a.block < w1.heap.size := by
      obtain ⟨a', e', hcell⟩ := fr.1 0 (by rw [← hps]; exact plain_pos _)
      have := blk_lt hcell
      rw [add_block] at this
      rw [ha] at e'; cases e'; exact this
    omega
  clear hnew
  have B1 := hide ((unhide BW).trans (b1.mono (unhide BW).size))
  obtain ⟨W2, hW2, bW2, xW2, sW2⟩ := boxed w1 (.slice none 0 0) (.slice an nn cn)
  have X2 := hide (Below.stay bW2 (Below.stay b1 (unhide XW)))
  have FR := hide (fr.below bW2)
  have HN := hide hn
  have HC := hide hc
  have HPS := hide hps
  have XC := hide xW2
  have HW2 := hide hW2
  have B2 := hide ((unhide B1).trans (bW2.mono (unhide B1).size))
  have LA := hide (list_any o W2)
  have SZ : Hid (w.heap.size < w1.heap.size ∧ w1.heap.size < W2.heap.size) := by
    refine ⟨?_, by rw [sW2]; exact Nat.lt_succ_self _⟩
    have := b1.size
    have := unhide SW
    omega
  clear hps hn hc fr b1 hW2 bW2 xW2 sW2 PL HW
  go_upto_region 2 with fail
  rw [unhide HW2]
  clear HW2
  go_wp2_with fail
  refine (unhide LA).mono ?_
  rintro e w3 ⟨v3, rfl, o3, b3⟩
  have B3 := hide ((unhide B2).trans (b3.mono (unhide B2).size))
  have x3 := Below.stay b3 (unhide X2)
  have y3 := Below.stay b3 (unhide XC)
  obtain ⟨a3, p3, rfl, f3, l3, _⟩ := o3.slice
  have k3 : Hid (∀ a, a3 = some a → a.block ≠ w.heap.size ∧ a.block ≠ w1.heap.size) := fun a ha => by
    have := o3.blk a ha
    have := unhide SZ
    omega
  have F3 := hide f3
  have L3 := hide l3
  have X3 := hide x3
  have Y3 := hide y3
  have FR3 := hide ((unhide FR).below b3)
  obtain ⟨d0, d1⟩ := two_cells x3
  obtain ⟨g0, g1⟩ := two_free x3
  obtain ⟨e0, e1⟩ := two_cells y3
  obtain ⟨h0, h1⟩ := two_free y3
  obtain ⟨L, hL⟩ : ∃ L, (lst (bitOf o) 9).length = L := ⟨_, rfl⟩
  rw [hL]
  have HL := hide hL
  clear o3 b3 f3 l3 x3 y3 LA hL
  go_upto_region 3 with fail
  obtain ⟨W4, hW4⟩ : ∃ W4, w3.setCell ⟨w1.heap.size, 0, none⟩ (.slice a3 L p3) = W4 := ⟨_, rfl⟩
  obtain ⟨z1, zb, zk⟩ := one_end (a := .slice a3 L p3) (unhide Y3) (Nat.le_of_lt (unhide SZ).1) (unhide B3)
  rw [hW4] at z1 zb zk ⊢
  have z0 := (zk w.heap.size (Nat.ne_of_lt (unhide SZ).1)).trans (unhide X3)
  have Z0 := hide z0
  have ZB := hide zb
  have F4 := hide ((unhide F3).other zk (fun a ha => (unhide k3 a ha).2))
  have BLK : Hid (∀ a, an = some a → a.block ≠ w1.heap.size ∧ a.block ≠ w.heap.size) := unhide KN
  have FR4 := hide ((unhide FR3).other zk (fun a ha => (unhide BLK a ha).1))
  clear d0 d1 g0 g1 e0 e1 h0 h1 hW4 zk zb
  obtain ⟨d0, d1⟩ := two_cells z0
  obtain ⟨g0, g1⟩ := two_free z0
  obtain ⟨e0, e1⟩ := two_cells z1
  clear z0 z1
  go_wp2
  obtain ⟨r0, r1, rb, rk⟩ := two_end (a := .slice a3 L p3) (b := .slice an nn cn) (unhide Z0) (Nat.le_refl _) (unhide ZB)
  refine bodyPost_ret (v := .agg #[.slice a3 L p3, .slice an nn cn]) (by simp [results, Try.results9, go_sem, r0, r1]) rfl ⟨_, rfl, ?_, rb⟩
  rw [unhide HPS]
  exact ⟨_, _, _, _, _, _, rfl, unhide HL, by rw [← unhide HL]; exact unhide L3, (unhide F4).other rk (fun a ha => (unhide k3 a ha).1), unhide HN, unhide HC, (unhide FR4).other rk (fun a ha => (unhide BLK a ha).2)⟩
end Go.Proofs.Ytjcidihcmbenhaa
