/- HistCuts: what it asks of numbers and lists; a Put of one entry. -/
import Derived.Test.YthebgkkdkhlbbabHGrown
import Derived.Test.YthebgkkdkhlbbabHFrom2
import Derived.Test.YthebgkkdkhlbbabHSame
namespace Go.Proofs.Ythebgkkdkhlbbab
open Go.RowKit Go.Maps

theorem InF.take {F : Nat → Prop} {w : World} {ao : Option Addr} {ys : List Int} (h : InF F w ao ys) (k : Nat) : InF F w ao (ys.take k) := fun i hi => by
  rw [List.length_take] at hi
  obtain ⟨a, a1, a2, a3⟩ := h i (by omega)
  exact ⟨a, a1, a2, by rw [a3, List.getD_eq_getElem?_getD, List.getD_eq_getElem?_getD, List.getElem?_take_of_lt (by omega)]⟩
theorem EsR.take {F : Nat → Prop} {w : World} {ao : Option Addr} {es : List En} (h : EsR F w ao es) (k : Nat) : EsR F w ao (es.take k) := fun i e hi => by
  have hik : i < k := by have := (List.getElem?_eq_some_iff.1 hi).1; rw [List.length_take] at this; omega
  rw [List.getElem?_take_of_lt hik] at hi
  exact h i e hi
theorem Grow.last {rs : List Rw} {t : Int} (h : Grow rs t) {m : Nat} {r : Rw} (hm : rs.length = m + 1) (hr : rs[m]? = some r) : ∀ q ∈ rs, 1 ≤ q.1 ∧ q.1 ≤ r.1 := fun q hq => by
  obtain ⟨i, hi, rfl⟩ := List.getElem_of_mem hq
  obtain ⟨hm2, rfl⟩ := List.getElem?_eq_some_iff.1 hr
  refine ⟨(h.lo _ (List.getElem_mem hi)).1, ?_⟩
  by_cases e : i = m
  · subst e; exact Int.le_refl _
  · exact List.pairwise_iff_getElem.1 h.up i m hi hm2 (by omega)
theorem Grow.termLe {rs : List Rw} {t : Int} (h : Grow rs t) {m : Nat} {r : Rw} (hm : rs.length = m + 1) (hr : rs[m]? = some r) (i : Int) : 0 ≤ termOf 0 rs i ∧ termOf 0 rs i ≤ r.1 := by
  have h1 := h.last hm hr r (List.mem_of_getElem? hr)
  rcases termOf_mem 0 rs i with e | ⟨q, hq, e⟩
  · rw [e]; omega
  · rw [e]; have := h.last hm hr q hq; omega
/-- what is ahead is refused, if its term does not fit. -/
theorem cuts_no {rs : List Rw} {t : Int} (h : Grow rs t) {m : Nat} {r : Rw} (hm : rs.length = m + 1) (hr : rs[m]? = some r) {a : Nat} (ha : a < m + 1) (h0 : 0 < a) {top : Int} (ht : r.1 < top) : putNo 0 rs (a : Int) (termOf 0 rs (a : Int) + 1) [top + 1] 1 = 2 := by
  unfold putNo
  have := h.termLe hm hr (a : Int)
  rw [if_pos (show [top + 1].length = 1 from rfl), climbs_one, decide_eq_true (by omega), if_pos rfl, if_neg (by omega), if_neg (by rw [hm]; omega), if_pos ⟨by omega, by omega⟩]
/-- what is put where another term stands cuts off all from there on. -/
theorem cuts_yes {rs : List Rw} {t : Int} (h : Grow rs t) {m : Nat} {r : Rw} (hm : rs.length = m + 1) (hm40 : m < 40) (hr : rs[m]? = some r) {a : Nat} (ha : a < m + 1) {top : Int} (ht : r.1 < top) (e : En) : putNo 0 rs (a : Int) (termOf 0 rs (a : Int)) [top] 1 = 0 ∧ putRows 0 rs (a : Int) (termOf 0 rs (a : Int)) [top] [e] = rs.take a ++ [(top, e)] := by
  have h1 := h.termLe hm hr (a : Int)
  have h2 := h.last hm hr r (List.mem_of_getElem? hr)
  have h0 : putNo 0 rs (a : Int) (termOf 0 rs (a : Int)) [top] 1 = 0 := by
    unfold putNo
    rw [if_pos (show [top].length = 1 from rfl), climbs_one, decide_eq_true (by omega), if_pos rfl, if_neg (by omega), if_neg (by rw [hm]; omega), if_neg (fun x => x.2 rfl), if_pos (by omega)]
  refine ⟨h0, ?_⟩
  unfold putRows
  rw [if_pos (show putNo 0 rs (a : Int) (termOf 0 rs (a : Int)) [top] [e].length = 0 from h0)]
  show placed 0 rs ((a : Int) + 1) top e = _
  unfold placed
  have h3 := h.termLe hm hr ((a : Int) + 1)
  rw [if_neg (by omega)]
  have : aheadOf 0 rs ((a : Int) + 1) = a := by unfold aheadOf; rw [if_neg (by omega), hm]; omega
  rw [this]
/-- what a Put leaves. -/
def PP (low : Nat) (D : Nat → Prop) (x w' : World) (p : Nat) (R : List Rw) : Prop := ∃ D' : Nat → Prop, Hs D' w' p 0 R ∧ (∀ j, D' j → low ≤ j) ∧ (∀ j, D' j → D j ∨ x.heap.size ≤ j) ∧ Kp D x w'
def e9 : En := enOf 1 9 9
abbrev boxE : Obj := .cells #[.int .i64 1, .int .i64 9, .int .i64 9, .string ⟨#[]⟩, .slice none 0 0, .int .i64 0] 32
abbrev boxI (v : Int) : Obj := .cells #[.int .i64 v] 3
theorem put_one {low : Nat} {D : Nat → Prop} {x Y : World} {p : Nat} {rs : List Rw} (h : Hs D x p 0 rs) (hlow : ∀ j, D j → low ≤ j) (hlx : low ≤ x.heap.size) (hl : rs.length ≤ 1000) (hY : Below x.heap.size x Y) (i t v : Int) {bi be : Nat} (hI : Y.heap[bi]? = some (boxI v)) (hE : Y.heap[be]? = some boxE) (l1 : x.heap.size ≤ bi) (l2 : x.heap.size ≤ be) :
    Calls Try.prog 11 #[.pointer (some ⟨p, 0, none⟩), .int .i64 i, .int .i64 t, .slice (some ⟨bi, 0, none⟩) 1 1, .slice (some ⟨be, 0, none⟩) 1 1] Y fun e w' => e = .returned (.tuple #[.int .i64 (putN 0 rs i t [v] 1), .int .i64 ((putNo 0 rs i t [v] 1 : Nat) : Int)]) ∧ PP low D x w' p (putRows 0 rs i t [v] [e9]) := by
  refine (put_any (F := fun j => x.heap.size ≤ j) (h.below hY) ⟨by decide, by decide, by omega⟩ hl i t (some ⟨bi, 0, none⟩) 1 1 [v] rfl (by decide) (fun k hk => ?_) (some ⟨be, 0, none⟩) 1 1 [e9] rfl (by decide) (fun k e hk => ?_) (fun j hj y => by have := h.lt j y; omega)).mono ?_
  · have hk0 : k = 0 := by simp at hk; omega
    subst hk0
    exact ⟨_, rfl, l1, by rw [Addr.add_lit]; exact (cell_of_block hI).trans rfl⟩
  · have hk0 : k = 0 := by have := (List.getElem?_eq_some_iff.1 hk).1; simp at this; omega
    subst hk0
    simp at hk
    subst hk
    refine ⟨be, 0, none, 0, rfl, l2, fun j u hj => ?_, InF.nil _ _ _, Nat.zero_le _⟩
    rw [cell_of_block hE]
    have hj6 : j < 6 := (List.getElem?_eq_some_iff.1 hj).1
    have h6 : j = 0 ∨ j = 1 ∨ j = 2 ∨ j = 3 ∨ j = 4 ∨ j = 5 := by omega
    rcases h6 with rfl | rfl | rfl | rfl | rfl | rfl <;> exact hj
  · rintro e w' ⟨rfl, h5, k5⟩
    refine ⟨rfl, _, h5, fun j hj => hj.elim (hlow j) (fun y => by have := hY.size; omega), fun j hj => hj.elim Or.inl (fun y => Or.inr (Nat.le_trans hY.size y.1)), (Kp.of_below hY).trans k5 (fun _ _ z => z)⟩
theorem box_two (z : World) (a b : Obj) : ((z.alloc a).alloc b).heap[z.heap.size]? = some a ∧ ((z.alloc a).alloc b).heap[z.heap.size + 1]? = some b ∧ Below z.heap.size z ((z.alloc a).alloc b) := by
  refine ⟨(Below.heap_alloc _ _ _ (by simp)).trans (box_at _ _), by have := box_at (z.alloc a) b; simpa using this, ((Below.refl _ z).alloc (Nat.le_refl _) a).alloc (by simp) b⟩
end Go.Proofs.Ythebgkkdkhlbbab
