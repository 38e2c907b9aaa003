/- synodallaw8's Plain, known: contracts. -/
import Derived.Test.YtgllokinadjiaaaKList
import Derived.Test.YtgllokinadjiaaaKMost
namespace Go.Proofs.Ytgllokinadjiaaa
open Go.RowKit

theorem two_free {w : World} {B : Nat} {x y : Value} {t : TypeId} (h : w.heap[B]? = some (.cells #[x, y] t (0, 0))) : w.frozen? ⟨B, 0, none⟩ = false ∧ w.frozen? ⟨B, 1, none⟩ = false := by
  constructor <;> simp [World.frozen?, h]
theorem plain_full {β : Nat → Bool} {L : Nat} (h : (lst β 9).length = L) (h0 : ¬ L = 0) : plainOf β = lst β 9 := by
  unfold plainOf
  rw [if_neg (fun e => by rw [e] at h; simp at h; omega)]
theorem plain_zero {β : Nat → Bool} {L : Nat} (h : (lst β 9).length = L) (h0 : L = 0) : plainOf β = [0] := by
  unfold plainOf
  rw [if_pos (List.eq_nil_of_length_eq_zero (by omega))]

/-- what two stores into a box leave. -/
theorem two_end {w y : World} {B : Nat} {a b x0 x1 : Value} {t : TypeId} (hz : y.heap[B]? = some (.cells #[x0, x1] t (0, 0))) (hB : w.heap.size ≤ B) (hb : Below w.heap.size w y) :
    ((y.setCell ⟨B, 0, none⟩ a).setCell ⟨B, 1, none⟩ b).cell? ⟨B, 0, none⟩ = some a ∧ ((y.setCell ⟨B, 0, none⟩ a).setCell ⟨B, 1, none⟩ b).cell? ⟨B, 1, none⟩ = some b ∧
    Below w.heap.size w ((y.setCell ⟨B, 0, none⟩ a).setCell ⟨B, 1, none⟩ b) ∧ ∀ k, k ≠ B → ((y.setCell ⟨B, 0, none⟩ a).setCell ⟨B, 1, none⟩ b).heap[k]? = y.heap[k]? := by
  have hh : ((y.setCell ⟨B, 0, none⟩ a).setCell ⟨B, 1, none⟩ b).heap[B]? = some (.cells #[a, b] t (0, 0)) := by
    simp [World.setCell, Array.getElem?_modify, hz]
  obtain ⟨h1, h2⟩ := two_cells hh
  refine ⟨h1, h2, (hb.setCell (p := ⟨B, 0, none⟩) hB a).setCell (p := ⟨B, 1, none⟩) hB b, fun k hk => ?_⟩
  rw [Below.heap_setCell _ _ _ k hk, Below.heap_setCell _ _ _ k hk]
theorem IntsR.other {y W : World} {B : Nat} {ao : Option Addr} {xs : List Int} (h : IntsR y ao xs) (hk : ∀ k, k ≠ B → W.heap[k]? = y.heap[k]?) (hb : ∀ a, ao = some a → a.block ≠ B) : IntsR W ao xs := fun i hi => by
  obtain ⟨a, e, hc⟩ := h i hi
  refine ⟨a, e, ?_⟩
  rw [← hc]
  exact World.cell?_of_block (by rw [add_block]; exact hk _ (hb a e))
theorem Fr.other {y W : World} {B : Nat} {ao : Option Addr} {xs : List Int} (h : Fr y ao xs) (hk : ∀ k, k ≠ B → W.heap[k]? = y.heap[k]?) (hb : ∀ a, ao = some a → a.block ≠ B) : Fr W ao xs := ⟨h.1.other hk hb, h.2⟩
theorem Ir.blk {base : Nat} {w : World} {ao : Option Addr} {n c : Nat} {xs : List Int} (h : Ir base w (.slice ao n c) xs) : ∀ a, ao = some a → base ≤ a.block := fun a ha => by
  subst ha
  exact (h.lt a.block rfl).1

set_option maxHeartbeats 1000000 in
theorem plain_new (bits : Int) (w : World) : Calls Try.prog 8 #[.int .i64 bits] w fun e w' =>
    ∃ an n c, e = .returned (.agg #[.slice none 0 0, .slice an n c]) ∧ (plainOf (bitOf bits)).length = n ∧ n ≤ c ∧ Fr w' an (plainOf (bitOf bits)) ∧ Below w.heap.size w w' ∧ ∀ a, an = some a → w.heap.size ≤ a.block := by
  obtain ⟨W, hW⟩ : ∃ W, w.alloc (.cells #[.slice none 0 0, .slice none 0 0] 29) = W := ⟨_, rfl⟩
  have bW : Below w.heap.size w W := by rw [← hW]; exact (Below.refl _ w).alloc (Nat.le_refl _) _
  have xW : W.heap[w.heap.size]? = some (.cells #[.slice none 0 0, .slice none 0 0] 29 (0, 0)) := by rw [← hW]; exact box_at _ _
  have sW : w.heap.size < W.heap.size := by rw [← hW]; simp
  have LA := hide (list_any bits W)
  have HW := hide hW
  have BW := hide bW
  have XW := hide xW
  have SW := hide sW
  clear hW bW xW sW
  go_enter Try.func8, Try.ntmps8
  go_wp2_with fail
  rw [unhide HW]
  refine (unhide LA).mono ?_
  rintro e w1 ⟨v, rfl, o1, b1⟩
  have B1 := hide ((unhide BW).trans (b1.mono (unhide BW).size))
  have x1 := (b1.block w.heap.size (unhide SW)).trans (unhide XW)
  obtain ⟨c0, c1⟩ := two_cells x1
  obtain ⟨f0, f1⟩ := two_free x1
  obtain ⟨ao, cap, rfl, fr, hc, _⟩ := o1.slice
  obtain ⟨L, hL⟩ : ∃ L, (lst (bitOf bits) 9).length = L := ⟨_, rfl⟩
  rw [hL] at hc ⊢
  have X1 := hide x1
  have FR := hide fr
  have HC := hide hc
  have HL := hide hL
  have BLK : Hid (∀ a, ao = some a → w.heap.size < a.block) := fun a ha => by
    have := o1.blk a ha
    have := unhide SW
    omega
  have HLT : Hid (w.heap.size < w1.heap.size) := by
    show w.heap.size < w1.heap.size
    exact Nat.lt_of_lt_of_le (unhide SW) b1.size
  clear o1 b1 x1 fr hc hL LA HW BW XW SW
  by_cases h0 : L = 0
  · have PZ := hide (plain_zero (unhide HL) h0)
    subst h0
    obtain ⟨W4, hW4⟩ : ∃ W4, w1.alloc (.cells #[.int .i64 0] 3) = W4 := ⟨_, rfl⟩
    have b4 : Below w1.heap.size w1 W4 := by rw [← hW4]; exact (Below.refl _ w1).alloc (Nat.le_refl _) _
    have x4 := (b4.block w.heap.size (unhide HLT)).trans (unhide X1)
    have I4 : Hid (IntsR W4 (some ⟨w1.heap.size, 0, none⟩) [0]) := by rw [← hW4]; exact one_int w1 0
    have HW4 := hide hW4
    have X4 := hide x4
    have B4 := hide ((unhide B1).trans (b4.mono (unhide B1).size))
    obtain ⟨d0, d1⟩ := two_cells x4
    obtain ⟨g0, g1⟩ := two_free x4
    clear hW4 b4 x4 c0 c1 f0 f1
    go_upto_region 4 with fail
    rw [unhide HW4]
    clear HW4
    go_wp2
    obtain ⟨r0, r1, rb, rk⟩ := two_end (a := .slice none 0 0) (b := .slice (some ⟨w1.heap.size, 0, none⟩) 1 1) (unhide X4) (Nat.le_refl _) (unhide B4)
    refine bodyPost_ret (v := .agg #[.slice none 0 0, .slice (some ⟨w1.heap.size, 0, none⟩) 1 1]) (by simp [results, Try.results8, go_sem, r0, r1]) rfl ⟨_, _, _, rfl, by rw [unhide PZ]; rfl, Nat.le_refl _, ?_, rb, fun a ha => by cases ha; exact Nat.le_of_lt (unhide HLT)⟩
    rw [unhide PZ]
    have hlt := unhide HLT
    exact ⟨(unhide I4).other rk (fun a ha => by cases ha; exact Nat.ne_of_gt hlt), fun a ha => by cases ha; exact ⟨_, _, rfl⟩⟩
  · have PF := hide (plain_full (unhide HL) h0)
    have h0' : ((L : Int) == 0) = false := by simp; omega
    clear h0
    go_upto_region 4 with fail
    clear h0'
    go_wp2
    obtain ⟨r0, r1, rb, rk⟩ := two_end (a := .slice none 0 0) (b := .slice ao L cap) (unhide X1) (Nat.le_refl _) (unhide B1)
    refine bodyPost_ret (v := .agg #[.slice none 0 0, .slice ao L cap]) (by simp [results, Try.results8, go_sem, r0, r1]) rfl ⟨_, _, _, rfl, by rw [unhide PF]; exact unhide HL, unhide HC, ?_, rb, fun a ha => Nat.le_of_lt (unhide BLK a ha)⟩
    rw [unhide PF]
    exact (unhide FR).other rk (fun a ha => Nat.ne_of_gt (unhide BLK a ha))
theorem plain_any (bits : Int) (w : World) : Calls Try.prog 8 #[.int .i64 bits] w fun e w' =>
    ∃ an n c, e = .returned (.agg #[.slice none 0 0, .slice an n c]) ∧ (plainOf (bitOf bits)).length = n ∧ n ≤ c ∧ Fr w' an (plainOf (bitOf bits)) ∧ Below w.heap.size w w' :=
  (plain_new bits w).mono fun _ _ ⟨an, n, c, h1, h2, h3, h4, h5, _⟩ => ⟨an, n, c, h1, h2, h3, h4, h5⟩
end Go.Proofs.Ytgllokinadjiaaa
