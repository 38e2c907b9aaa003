/- What is under way: rows of pointers, appended to, cut, moved. -/
import Derived.Test.YtnplhoekkoomiaaNCopy
import Derived.Deep.AppendSrc
import Derived.Deep.Upon
import Derived.Laws.CopyOwn
namespace Go.Proofs.Ytnplhoekkoomiaa
open Go.RowKit Go.Maps

theorem Try.infoP : (Try.prog.info? 55).map (fun i => (i.zero, i.size, i.bytes)) = some (some (.pointer none), 1, 8) := by kernel_rfl

theorem setCells_block {g : Nat} {t : TypeId} {fr : Nat × Nat} : ∀ (vs : List Value) (o : Nat) (w : World) (cur : Array Value), w.heap[g]? = some (.cells cur t fr) →
    ∃ cur', (w.setCells g o vs).heap[g]? = some (.cells cur' t fr) ∧ cur'.size = cur.size ∧ (∀ j, j < o ∨ o + vs.length ≤ j → cur'[j]? = cur[j]?) ∧ ∀ j u, vs[j]? = some u → o + j < cur.size → cur'[o + j]? = some u
  | [], o, w, cur, h => ⟨cur, h, rfl, fun _ _ => rfl, fun j u hj => by simp at hj⟩
  | v :: r, o, w, cur, h => by
    obtain ⟨cur', h1, h2, h3, h4⟩ := setCells_block r (o + 1) (w.setCell ⟨g, o, none⟩ v) _ (setCell_block h)
    refine ⟨cur', h1, by rw [h2]; simp, fun j hj => ?_, fun j u hj hl => ?_⟩
    · rw [h3 j (by simp only [List.length_cons] at hj; omega), Array.getElem?_setIfInBounds]
      rw [if_neg (by simp only [List.length_cons] at hj; omega)]
    · cases j with
      | zero =>
        simp only [List.getElem?_cons_zero, Option.some.injEq] at hj
        subst hj
        rw [Nat.add_zero] at hl ⊢
        rw [h3 o (by omega), Array.getElem?_setIfInBounds, if_pos rfl, if_pos hl]
      | succ j =>
        rw [List.getElem?_cons_succ] at hj
        have := h4 j u hj (by simp; omega)
        rw [show o + (j + 1) = o + 1 + j by omega]; exact this
theorem setCells_only {base g o : Nat} {vs : List Value} {t : TypeId} {fr : Nat × Nat} {w : World} {cur : Array Value} (h : w.heap[g]? = some (.cells cur t fr)) (hb : base ≤ g) : Only base [t] w (w.setCells g o vs) := by
  have hk := World.keptBut_setCells g (may := fun p => p.block = g) vs o w (fun _ _ => rfl)
  refine ⟨?_, fun k hk' hn => World.heap_setCells_other w g o vs hk' (fun e => ?_)⟩
  · clear hk
    induction vs generalizing w o cur with
    | nil => exact Below.refl _ _
    | cons v r ih => exact ((Below.refl _ w).setCell (p := ⟨g, o, none⟩) hb v).trans (ih (setCell_block h))
  · subst e; exact hn _ _ _ h (by simp)

/-- append of one pointer. -/
theorem run_push {base : Nat} {w : World} {v : Value} {bs : List Nat} (h : Way base w v bs) (ty : TypeId) (nb b : Nat) (hx : w.cell? ⟨nb, 0, none⟩ = some (.pointer (some ⟨b, 0, none⟩))) (hl : bs.length ≤ 1000000) (hb : base ≤ w.heap.size) :
    ∃ v' w', (Builtin.append_ #[50, 50] ty #[v, .slice (some ⟨nb, 0, none⟩) 1 1]).run Try.prog w = .ok v' w' ∧ Way base w' v' (bs ++ [b]) ∧ Only base [55] w w' := by
  obtain ⟨i0, hi, hz0, hz1, hz2⟩ := info_parts Try.infoP
  have hsrc : Src Try.prog i0.size 50 (.slice (some ⟨nb, 0, none⟩) 1 1) 1 [.pointer (some ⟨b, 0, none⟩)] w := by
    refine Src.ofSlice w Try.underlying50 ⟨nb, 0, none⟩ 1 1 _ (by rw [hz1]; rfl) (fun j u hj => ?_) (fun u hu => ?_)
    · cases j with
      | zero => rw [Addr.add_lit]; simp only [List.getElem?_cons_zero, Option.some.injEq] at hj; rw [← hj]; exact hx
      | succ j => simp at hj
    · simp only [List.mem_singleton] at hu; subst hu; rfl
  have hlen : (bs ++ [b]).length = bs.length + 1 := by simp
  -- a new row
  have grow : ∀ (ao : Option Addr) (cap : Nat) (olds : List Value), v = .slice ao bs.length cap → (Builtin.firstCells i0.size bs.length (.slice ao bs.length cap)).run Try.prog w.drew = .ok olds.toArray w.drew → olds.length = bs.length → (∀ i c : Nat, bs[i]? = some c → olds[i]? = some (.pointer (some ⟨c, 0, none⟩))) → cap < bs.length + 1 → cap ≤ maxLen →
      ∃ v' w', (Builtin.append_ #[50, 50] ty #[v, .slice (some ⟨nb, 0, none⟩) 1 1]).run Try.prog w = .ok v' w' ∧ Way base w' v' (bs ++ [b]) ∧ Only base [55] w w' := by
    intro ao cap olds e hold hol hpt hcap hcm
    subst e
    have hr := run_append_grow_src (P := Try.prog) w 50 50 ty 55 i0 (.pointer none) Try.underlying50 hi hz0 ao bs.length cap olds hold _ 1 _ hsrc hcap (by omega) (growslice_fits (by omega) (by rw [hz2]; omega))
    refine ⟨_, _, hr, Or.inr ⟨w.heap.size, 0, _, _, by rw [hlen], hb, heap_alloc_new w.drew _, by rw [hlen]; exact grownCap_ge w _ _ _, grownCap_le_maxLen w _ _ _ (by unfold maxLen; omega), ?_, ?_⟩, ?_⟩
    · have hge := grownCap_ge w (bs.length + 1) cap 55
      simp only [Array.size_append, List.size_toArray, List.length_append, size_zeroCells, hol, List.length_singleton]
      show bs.length + 1 + (grownCap w (bs.length + 1) cap 55 - (bs.length + 1)) * 1 = 0 + grownCap w (bs.length + 1) cap 55
      omega
    · intro i c hc
      rw [Nat.zero_add]
      have hi' : i < bs.length + 1 := by
        have := (List.getElem?_eq_some_iff.1 hc).1
        simpa using this
      rw [Array.getElem?_append_left (by simp [hol]; omega)]
      simp only [List.getElem?_toArray]
      rw [List.getElem?_append] at hc ⊢
      rw [hol]
      split
      · rename_i h0; rw [if_pos h0] at hc; exact hpt i c hc
      · rename_i h0
        rw [if_neg h0] at hc
        obtain rfl : i = bs.length := by omega
        simp at hc ⊢
        exact hc
    · exact Only.of_below ((((Below.refl _ w).drew).alloc (Nat.le_refl _) _)) hb
  rcases h with ⟨rfl, rfl⟩ | ⟨g, off, cap, cur, rfl, hg, hh, hc, hm, hs, hp⟩
  · exact grow none 0 [] rfl (run_firstCells_none w.drew _ 0 0 0) rfl (fun i c hc => by simp at hc) (by simp) (by decide)
  · by_cases hroom : bs.length + 1 ≤ cap
    · have hr := run_append_room_src (P := Try.prog) w 50 50 ty 55 i0 Try.underlying50 hi g off bs.length cap _ 1 _ hsrc hroom
        (fun j hj => by
          simp only [List.length_singleton] at hj
          rw [hz1, cell_of_block hh, Array.getElem?_eq_getElem (by omega)]; rfl)
        (fun j _ => free_of_block hh)
      rw [hz1] at hr
      obtain ⟨cur', k1, k2, k3, k4⟩ := setCells_block [.pointer (some ⟨b, 0, none⟩)] (off + bs.length * 1) w cur hh
      refine ⟨_, _, hr, Or.inr ⟨g, off, cap, cur', by rw [hlen], hg, k1, by rw [hlen]; exact hroom, hm, by rw [k2, hs], ?_⟩, setCells_only hh hg⟩
      intro i c hc
      rw [List.getElem?_append] at hc
      split at hc
      · rename_i h0
        rw [k3 _ (by omega)]; exact hp i c hc
      · rename_i h0
        have hi' : i - bs.length < 1 := by have := (List.getElem?_eq_some_iff.1 hc).1; simpa using this
        obtain rfl : i = bs.length := by omega
        simp at hc
        subst hc
        have := k4 0 _ rfl (by omega)
        rw [show off + bs.length = off + bs.length * 1 + 0 by omega]; exact this
    · have holds : ∀ j u, (cur.toList.drop off |>.take bs.length)[j]? = some u → w.drew.cell? ((⟨g, off, none⟩ : Addr).add j) = some u := by
        intro j u hj
        rw [Addr.add_lit]
        have hj' : j < bs.length := by have := (List.getElem?_eq_some_iff.1 hj).1; simp at this; omega
        rw [List.getElem?_take_of_lt hj', List.getElem?_drop] at hj
        have e : w.drew.cell? ⟨g, off + j, none⟩ = cur[off + j]? := cell_of_block (w := w.drew) hh
        rw [e, ← Array.getElem?_toList]; exact hj
      have hol : (cur.toList.drop off |>.take bs.length).length = bs.length := by simp; omega
      refine grow (some ⟨g, off, none⟩) cap (cur.toList.drop off |>.take bs.length) rfl (run_firstCells_some w.drew i0.size bs.length ⟨g, off, none⟩ bs.length cap _ (by rw [hz1, hol]; omega) holds) hol (fun i c hc => ?_) (by omega) hm
      have hi' := (List.getElem?_eq_some_iff.1 hc).1
      rw [List.getElem?_take_of_lt hi', List.getElem?_drop, Array.getElem?_toList]
      exact hp i c hc
end Go.Proofs.Ytnplhoekkoomiaa
