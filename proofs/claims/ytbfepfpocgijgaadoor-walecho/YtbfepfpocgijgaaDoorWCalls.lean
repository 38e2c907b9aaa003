/- Arguments: what a slice of a log's calls holds. -/
import Derived.Test.YtbfepfpocgijgaaDoorWArgs
import Derived.Deep.Strs
namespace Go.Proofs.YtbfepfpocgijgaaDoor
open Go.ChangeShapes Go.WideShapes Go.ChangeAt Go.RowKit Go.Deep

set_option maxRecDepth 100000 in
theorem bytes_trod {H : Type} {enc : TypeId × Value → H} {W : World} {fuel : Nat} {v : Value} {d : DataW H × List MemPlace}
    (hf : DataW.trod enc Tryd.prog W 0 (fun _ => true) true fuel 32 [v] = some d) : ∃ ao n cap bs, v = .slice ao n cap ∧ bs.length = n ∧ n ≤ cap ∧ cap ≤ maxLen ∧ Bytes W ao bs ∧ (ao = none → n = 0 ∧ cap = 0) := by
  rcases open_ints Tryd.underlying32 Tryd.underlying5 Tryd.cells5 hf with ⟨hcs, hx⟩ | ⟨a, len, cap, zs, hcs, _, hl, hm, hz, hx, hcell, hwz⟩
  · simp only [List.cons.injEq, and_true] at hcs
    subst hcs
    exact ⟨none, 0, 0, [], rfl, rfl, Nat.le_refl _, by decide, ⟨by simp, by simp⟩, fun _ => ⟨rfl, rfl⟩⟩
  · simp only [List.cons.injEq, and_true] at hcs
    subst hcs
    simp only [if_true] at hz
    have key : ∀ i, i < len → 0 ≤ zs.getD i 0 ∧ zs.getD i 0 < 256 := by
      intro i hi
      have hi' : i < zs.length := by omega
      refine u8_wf (hwz _ ?_)
      rw [List.getD_eq_getElem?_getD, List.getElem?_eq_getElem hi']; exact List.getElem_mem hi'
    have hlen : ((zs.take len).map Int.toNat).length = len := by simp; omega
    have hget : ∀ i, i < len → ((zs.take len).map Int.toNat).getD i 0 = (zs.getD i 0).toNat := by
      intro i hi
      have hi' : i < zs.length := by omega
      simp [List.getD_eq_getElem?_getD, List.getElem?_take_of_lt hi, List.getElem?_eq_getElem hi']
    refine ⟨some a, len, cap, (zs.take len).map Int.toNat, rfl, hlen, hl, hm, ⟨?_, ?_⟩, (fun h => by cases h)⟩
    · intro x hx
      obtain ⟨i, hi, rfl⟩ := List.mem_iff_getElem.1 hx
      rw [hlen] at hi
      have := hget i hi
      have k := key i hi
      rw [List.getD_eq_getElem?_getD, List.getElem?_eq_getElem (by rw [hlen]; exact hi)] at this
      simp only [Option.getD_some] at this
      omega
    · intro i hi
      rw [hlen] at hi
      refine ⟨a, rfl, ?_⟩
      rw [hcell i (by omega), hget i hi, Int.toNat_of_nonneg (key i hi).1]
set_option maxRecDepth 100000 in
theorem rows_trod {H : Type} {enc : TypeId × Value → H} {W : World} {fuel : Nat} {v : Value} {d : DataW H × List MemPlace}
    (hf : DataW.trod enc Tryd.prog W 0 (fun _ => true) true fuel 31 [v] = some d) : ∃ ao n cap xs, v = .slice ao n cap ∧ xs.length = n ∧ n ≤ cap ∧ RowsArg W ao xs := by
  rcases open_int_rows Tryd.underlying31 Tryd.underlying32 Tryd.underlying5 Tryd.cells27 Tryd.cells5 hf with ⟨hcs, _⟩ | ⟨a, len, cap, A, L, C, Z, hcs, _, hl, _, _, hr⟩
  · simp only [List.cons.injEq, and_true] at hcs
    subst hcs
    exact ⟨none, 0, 0, [], rfl, rfl, Nat.le_refl _, fun i hi => by simp at hi⟩
  · simp only [List.cons.injEq, and_true] at hcs
    subst hcs
    have one : ∀ r, r < len → ((((Z r).take (L r)).map Int.toNat).length = L r ∧ Bytes W (A r) (((Z r).take (L r)).map Int.toNat)) := by
      intro r hrl
      obtain ⟨_, h2, _, h4, h5, h6, h7⟩ := hr r (by omega)
      have hlen : (((Z r).take (L r)).map Int.toNat).length = L r := by simp; omega
      have key : ∀ i, i < L r → 0 ≤ (Z r).getD i 0 ∧ (Z r).getD i 0 < 256 := by
        intro i hi
        have hi' : i < (Z r).length := by omega
        refine u8_wf (h5 _ ?_)
        rw [List.getD_eq_getElem?_getD, List.getElem?_eq_getElem hi']; exact List.getElem_mem hi'
      have hget : ∀ i, i < L r → (((Z r).take (L r)).map Int.toNat).getD i 0 = ((Z r).getD i 0).toNat := by
        intro i hi
        have hi' : i < (Z r).length := by omega
        simp [List.getD_eq_getElem?_getD, List.getElem?_take_of_lt hi, List.getElem?_eq_getElem hi']
      refine ⟨hlen, ?_, ?_⟩
      · intro x hx
        obtain ⟨i, hi, rfl⟩ := List.mem_iff_getElem.1 hx
        rw [hlen] at hi
        have := hget i hi
        have k := key i hi
        rw [List.getD_eq_getElem?_getD, List.getElem?_eq_getElem (by rw [hlen]; exact hi)] at this
        simp only [Option.getD_some] at this
        omega
      · intro i hi
        rw [hlen] at hi
        cases hA : A r with
        | none => have := h6 hA; omega
        | some a' =>
          refine ⟨a', rfl, ?_⟩
          rw [(h7 a' hA).2 i (by omega), hget i hi, Int.toNat_of_nonneg (key i hi).1]
    have hg : ∀ i, i < len → ((List.range len).map fun r => ((Z r).take (L r)).map Int.toNat).getD i [] = ((Z i).take (L i)).map Int.toNat := by
      intro i hi
      simp [List.getD_eq_getElem?_getD, hi]
    refine ⟨some a, len, cap, (List.range len).map fun r => ((Z r).take (L r)).map Int.toNat, rfl, by simp, hl, ?_⟩
    · intro i hi
      simp only [List.length_map, List.length_range] at hi
      obtain ⟨h1, h2, _, _, _, h6, _⟩ := hr i (by omega)
      rw [hg i hi]
      refine ⟨a, A i, C i, rfl, ?_, (one i hi).2, ?_, h6⟩
      · rw [(one i hi).1]; exact h1
      · rw [(one i hi).1]; exact h2

/-- a slice's calls. -/
def CallsAt (w : World) (ao : Option Addr) (n : Nat) : Prop :=
  ∀ i, i < n → ∃ a kind r l cx b ro rl rc xs, ao = some a ∧ w.cell? (a.add (i * 3)) = some (.int .i64 kind) ∧ w.cell? (a.add (i * 3 + 1)) = some (.slice r l cx) ∧ w.cell? (a.add (i * 3 + 2)) = some (.slice ro rl rc) ∧
    b.length = l ∧ Bytes w r b ∧ l ≤ cx ∧ (r = none → cx = 0) ∧ xs.length = rl ∧ RowsArg w ro xs
theorem Tryd.cellsC : Tryd.prog.cellsOf 34 = 3 := by kernel_rfl
theorem Tryd.cells31 : Tryd.prog.cellsOf 32 = 1 := by kernel_rfl
theorem Tryd.cells32 : Tryd.prog.cellsOf 31 = 1 := by kernel_rfl
set_option maxRecDepth 100000 in
theorem calls_open {H : Type} {enc : TypeId × Value → H} {W : World} {base : Nat} {v : Value} {d : DataW H} {p : List MemPlace} (hv : Value.okWide Tryd.prog W .any base 22 v)
    (h : DataW.Trod enc Tryd.prog W 0 (fun _ => true) true 22 v d p) : ∃ ao n cap, v = .slice ao n cap ∧ n ≤ cap ∧ cap ≤ maxLen ∧ CallsAt W ao n := by
  obtain ⟨a0, len0, cap0, rfl⟩ := okWide_slice Tryd.underlying22 hv
  obtain ⟨fuel, hf⟩ := h
  rcases DataW.trod_slice Tryd.underlying22 hf with ⟨hcs, _⟩ | ⟨a, len, cap, elems, rest, n, _, hcs, _, _, hl, hm, hel, hx, _⟩
  · simp [Value.cells] at hcs
    obtain ⟨rfl, rfl, rfl⟩ := hcs
    exact ⟨none, 0, 0, rfl, Nat.le_refl _, by decide, fun i hi => by omega⟩
  · simp [Value.cells] at hcs
    obtain ⟨rfl, rfl, rfl⟩ := hcs
    refine ⟨some a, len0, cap0, rfl, hl, hm, fun i hi => ?_⟩
    have hi' := hx i hi
    rw [List.getElem?_eq_getElem (by omega), Tryd.cellsC] at hi'
    obtain ⟨cs, hc, ht⟩ := Option.bind_eq_some_iff.1 hi'
    obtain ⟨_, hlen, hcell⟩ := World.cells?_some hc
    obtain ⟨y0, y1, y2, m, _, _, g0, g1, g2⟩ := trod_struct3 Tryd.underlying34 ht
    match cs, hlen with
    | [v0, v1, v2], _ =>
      simp [Tryd.cells3, Tryd.cells31, Tryd.cells32] at g0 g1 g2
      obtain ⟨n0, e0, _, _⟩ := DataW.trod_int Tryd.underlying3 g0
      simp only [List.cons.injEq, and_true] at e0
      subst e0
      obtain ⟨r, l, cx, b, rfl, hb, h1, _, h3, h4⟩ := bytes_trod g1
      obtain ⟨ro, rl, rc, xs, rfl, hxs, _, hra⟩ := rows_trod g2
      have c0 := hcell 0 (by omega)
      have c1 := hcell 1 (by omega)
      have c2 := hcell 2 (by omega)
      rw [Addr.add_add] at c0 c1 c2
      exact ⟨a, n0, r, l, cx, b, ro, rl, rc, xs, rfl, by simpa using c0, by simpa using c1, by simpa using c2, hb, h3, h1, fun h => (h4 h).2, hxs, hra⟩
end Go.Proofs.YtbfepfpocgijgaaDoor
