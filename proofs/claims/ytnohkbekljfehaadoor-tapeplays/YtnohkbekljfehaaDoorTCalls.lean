/- Arguments: what a slice of calls holds. -/
import Derived.Test.YtnohkbekljfehaaDoorTArgs
import Derived.Deep.Strs
namespace Go.Proofs.YtnohkbekljfehaaDoor
open Go.ChangeShapes Go.WideShapes Go.ChangeAt Go.RowKit Go.Deep

set_option maxRecDepth 100000 in
theorem bytes_trod {H : Type} {enc : TypeId × Value → H} {W : World} {fuel : Nat} {v : Value} {d : DataW H × List MemPlace}
    (hf : DataW.trod enc Tryd.prog W 0 (fun _ => true) true fuel 31 [v] = some d) : ∃ ao n cap bs, v = .slice ao n cap ∧ bs.length = n ∧ n ≤ cap ∧ cap ≤ maxLen ∧ Bytes W ao bs ∧ (ao = none → n = 0 ∧ cap = 0) := by
  rcases open_ints Tryd.underlying31 Tryd.underlying5 Tryd.cells5 hf with ⟨hcs, hx⟩ | ⟨a, len, cap, zs, hcs, _, hl, hm, hz, hx, hcell, hwz⟩
  · simp only [List.cons.injEq, and_true] at hcs
    subst hcs
    exact ⟨none, 0, 0, [], rfl, rfl, Nat.le_refl _, by decide, ⟨by simp, by simp⟩, fun _ => ⟨rfl, rfl⟩⟩
  · simp only [List.cons.injEq, and_true] at hcs
    subst hcs
    simp only [if_true] at hz
    have key : ∀ i, i < len → 0 ≤ zs.getD i 0 ∧ zs.getD i 0 < 256 := by
      intro i hi
      have hi' : i < zs.length := by omega
      refine u8_wf (hwz _ ?_)
      rw [List.getD_eq_getElem?_getD, List.getElem?_eq_getElem hi']; exact List.getElem_mem hi'
    have hlen : ((zs.take len).map Int.toNat).length = len := by simp; omega
    have hget : ∀ i, i < len → ((zs.take len).map Int.toNat).getD i 0 = (zs.getD i 0).toNat := by
      intro i hi
      have hi' : i < zs.length := by omega
      simp [List.getD_eq_getElem?_getD, List.getElem?_take_of_lt hi, List.getElem?_eq_getElem hi']
    refine ⟨some a, len, cap, (zs.take len).map Int.toNat, rfl, hlen, hl, hm, ⟨?_, ?_⟩, (fun h => by cases h)⟩
    · intro x hx
      obtain ⟨i, hi, rfl⟩ := List.mem_iff_getElem.1 hx
      rw [hlen] at hi
      have := hget i hi
      have k := key i hi
      rw [List.getD_eq_getElem?_getD, List.getElem?_eq_getElem (by rw [hlen]; exact hi)] at this
      simp only [Option.getD_some] at this
      omega
    · intro i hi
      rw [hlen] at hi
      refine ⟨a, rfl, ?_⟩
      rw [hcell i (by omega), hget i hi, Int.toNat_of_nonneg (key i hi).1]


/-- a slice's calls. -/
def CallsAt (w : World) (ao : Option Addr) (n : Nat) : Prop :=
  ∀ i, i < n → ∃ a kind num r l cx b, ao = some a ∧ w.cell? (a.add (i * 3)) = some (.int .i64 kind) ∧ w.cell? (a.add (i * 3 + 1)) = some (.int .i64 num) ∧ w.cell? (a.add (i * 3 + 2)) = some (.slice r l cx) ∧
    b.length = l ∧ Bytes w r b ∧ l ≤ cx ∧ (r = none → cx = 0) ∧ -9223372036854775808 ≤ num ∧ num ≤ 9223372036854775807
theorem Tryd.cellsC : Tryd.prog.cellsOf 33 = 3 := by kernel_rfl
theorem Tryd.cells31 : Tryd.prog.cellsOf 31 = 1 := by kernel_rfl
set_option maxRecDepth 100000 in
theorem calls_open {H : Type} {enc : TypeId × Value → H} {W : World} {base : Nat} {v : Value} {d : DataW H} {p : List MemPlace} (hv : Value.okWide Tryd.prog W .any base 22 v)
    (h : DataW.Trod enc Tryd.prog W 0 (fun _ => true) true 22 v d p) : ∃ ao n cap, v = .slice ao n cap ∧ n ≤ cap ∧ cap ≤ maxLen ∧ CallsAt W ao n := by
  obtain ⟨a0, len0, cap0, rfl⟩ := okWide_slice Tryd.underlying22 hv
  obtain ⟨fuel, hf⟩ := h
  rcases DataW.trod_slice Tryd.underlying22 hf with ⟨hcs, _⟩ | ⟨a, len, cap, elems, rest, n, _, hcs, _, _, hl, hm, hel, hx, _⟩
  · simp [Value.cells] at hcs
    obtain ⟨rfl, rfl, rfl⟩ := hcs
    exact ⟨none, 0, 0, rfl, Nat.le_refl _, by decide, fun i hi => by omega⟩
  · simp [Value.cells] at hcs
    obtain ⟨rfl, rfl, rfl⟩ := hcs
    refine ⟨some a, len0, cap0, rfl, hl, hm, fun i hi => ?_⟩
    have hi' := hx i hi
    rw [List.getElem?_eq_getElem (by omega), Tryd.cellsC] at hi'
    obtain ⟨cs, hc, ht⟩ := Option.bind_eq_some_iff.1 hi'
    obtain ⟨_, hlen, hcell⟩ := World.cells?_some hc
    obtain ⟨y0, y1, y2, m, _, _, g0, g1, g2⟩ := trod_struct3 Tryd.underlying33 ht
    match cs, hlen with
    | [v0, v1, v2], _ =>
      simp [Tryd.cells3, Tryd.cells31] at g0 g1 g2
      obtain ⟨n0, e0, _, _⟩ := DataW.trod_int Tryd.underlying3 g0
      obtain ⟨n1, e1, _, w1⟩ := DataW.trod_int Tryd.underlying3 g1
      simp only [List.cons.injEq, and_true] at e0 e1
      subst e0 e1
      obtain ⟨r, l, cx, b, rfl, hb, h1, _, h3, h4⟩ := bytes_trod g2
      have c0 := hcell 0 (by omega)
      have c1 := hcell 1 (by omega)
      have c2 := hcell 2 (by omega)
      rw [Addr.add_add] at c0 c1 c2
      have hw := i64_wf w1
      exact ⟨a, n0, n1, r, l, cx, b, rfl, by simpa using c0, by simpa using c1, by simpa using c2, hb, h3, h1, fun h => (h4 h).2, hw.1, hw.2⟩
end Go.Proofs.YtnohkbekljfehaaDoor
