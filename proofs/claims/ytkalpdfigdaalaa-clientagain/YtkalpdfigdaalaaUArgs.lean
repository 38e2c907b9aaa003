/- Arguments: a slice of entries. -/
import Derived.Test.YtkalpdfigdaalaaKArgs
import Derived.Test.YtkalpdfigdaalaaUEsA
namespace Go.Proofs.Ytkalpdfigdaalaa
open Go.ChangeShapes Go.WideShapes Go.ChangeAt Go.RowKit

theorem Try.cells9 : Try.prog.cellsOf 9 = 1 := by kernel_rfl
theorem Try.cellsI : Try.prog.cellsOf 23 = 1 := by kernel_rfl
theorem Try.cellsE : Try.prog.cellsOf 31 = 6 := by kernel_rfl

section
variable {H : Type} {enc : TypeId × Value → H} {W : World} {fuel : Nat} {cs : List Value} {x : DataW H × List MemPlace}
set_option maxRecDepth 100000 in
theorem ints_trod2 (h : DataW.trod enc Try.prog W 0 (fun _ => true) true fuel 23 cs = some x) : ∃ ao n cap ys, cs = [.slice ao n cap] ∧ ys.length = n ∧ n ≤ cap ∧ cap ≤ maxLen ∧ (ao = none → cap = 0) ∧ IntsR W ao ys := by
  rcases open_ints Try.underlying23 Try.underlying3 Try.cells3 h with ⟨hcs, _⟩ | ⟨a, len, cap, zs, hcs, _, hl, hm, hz, _, hcell, _⟩
  · exact ⟨none, 0, 0, [], hcs, rfl, Nat.le_refl _, by decide, fun _ => rfl, fun j hj => by simp at hj⟩
  · simp only [if_true] at hz
    have hlen : (zs.take len).length = len := by simp; omega
    refine ⟨some a, len, cap, zs.take len, hcs, hlen, hl, hm, (fun h => by cases h), fun j hj => ⟨a, rfl, ?_⟩⟩
    rw [hlen] at hj
    have hg : (zs.take len).getD j 0 = zs.getD j 0 := by simp [List.getD_eq_getElem?_getD, List.getElem?_take_of_lt hj]
    rw [hg]
    exact hcell j (by omega)
set_option maxRecDepth 100000 in
theorem entry_trod (h : DataW.trod enc Try.prog W 0 (fun _ => true) true fuel 31 cs = some x) :
    ∃ (e : En) (ao : Option Addr) (cap : Nat), cs = e.cells (.slice ao e.ms.length cap) ∧ IntsR W ao e.ms ∧ e.ms.length ≤ maxLen ∧ e.text.size ≤ maxLen ∧ wf64 e.client := by
  obtain ⟨xs, n, _, _, hl, hlen, hf⟩ := DataW.trod_struct Try.underlying31 h
  rw [Try.cellsE] at hl
  match cs, hl, xs, hlen with
  | [c0, c1, c2, c3, c4, c5], _, [y0, y1, y2, y3, y4, y5], _ =>
    have f0 := hf 0 _ rfl
    have f1 := hf 1 _ rfl
    have f2 := hf 2 _ rfl
    have f3 := hf 3 _ rfl
    have f4 := hf 4 _ rfl
    have f5 := hf 5 _ rfl
    simp [Try.cells3, Try.cells9, Try.cellsI] at f0 f1 f2 f3 f4 f5
    obtain ⟨k, e0, _⟩ := DataW.trod_int Try.underlying3 f0
    obtain ⟨c, e1, _, wc⟩ := DataW.trod_int Try.underlying3 f1
    obtain ⟨q, e2, _⟩ := DataW.trod_int Try.underlying3 f2
    obtain ⟨t, e3, _, ht⟩ := DataW.trod_string Try.underlying9 f3
    obtain ⟨ao, m, cap, ys, e4, hy1, hy2, hy3, hy4, hy⟩ := ints_trod2 f4
    obtain ⟨z, e5, _⟩ := DataW.trod_int Try.underlying3 f5
    simp only [List.cons.injEq, and_true] at e0 e1 e2 e3 e4 e5
    subst hy1
    exact ⟨⟨k, c, q, t, ys, z⟩, ao, cap, by rw [e0, e1, e2, e3, e4, e5]; rfl, hy, by show ys.length ≤ maxLen; omega, ht, wc⟩
set_option maxRecDepth 100000 in
theorem ents_trod (h : DataW.trod enc Try.prog W 0 (fun _ => true) true fuel 22 cs = some x) : ∃ ao n cap es, cs = [.slice ao n cap] ∧ es.length = n ∧ n ≤ cap ∧ cap ≤ maxLen ∧ (ao = none → cap = 0) ∧ EsA W ao es := by
  rcases DataW.trod_slice Try.underlying22 h with ⟨hcs, _⟩ | ⟨a, len, cap, elems, rest, n, _, hcs, _, _, hl, hm, hlen, hel, _, _⟩
  · exact ⟨none, 0, 0, [], hcs, rfl, Nat.le_refl _, by decide, fun _ => rfl, fun i e hi => by simp at hi⟩
  · have each : ∀ i, ∃ e : En, i < len → ∃ r cx, (∀ j u, (e.cells (.slice r e.ms.length cx))[j]? = some u → W.cell? ((a.add (i * 6)).add j) = some u) ∧ IntsR W r e.ms ∧ e.ms.length ≤ maxLen ∧ e.text.size ≤ maxLen ∧ wf64 e.client := by
      intro i
      by_cases hi : i < len
      · have h1 := hel i hi
        rw [Try.cellsE, List.getElem?_eq_getElem (by omega)] at h1
        obtain ⟨ci, hc, ht⟩ := Option.bind_eq_some_iff.1 h1
        obtain ⟨e, ao, cx, rfl, hy, hs⟩ := entry_trod ht
        refine ⟨e, fun _ => ⟨ao, cx, fun j u hj => ?_, hy, hs⟩⟩
        have h6 : j < 6 := (List.getElem?_eq_some_iff.1 hj).1
        exact ((World.cells?_some hc).2.2 j h6).trans hj
      · exact ⟨⟨0, 0, 0, ByteArray.empty, [], 0⟩, fun h => absurd h hi⟩
    obtain ⟨f, hf⟩ := Classical.axiomOfChoice each
    refine ⟨some a, len, cap, (List.range len).map f, hcs, by simp, hl, hm, (fun h => by cases h), fun i e hi => ?_⟩
    have hil : i < len := by have := (List.getElem?_eq_some_iff.1 hi).1; simpa using this
    rw [List.getElem?_map, List.getElem?_range hil] at hi
    cases hi
    have hsp : a.spot = none := by
      obtain ⟨r, cx, hc, _⟩ := hf 0 (by omega)
      have := World.cell?_spot (hc 0 _ rfl)
      simpa [Addr.add] using this
    obtain ⟨blk, off, sp⟩ := a
    simp only at hsp
    subst hsp
    obtain ⟨r, cx, hc, hy, hm1, ht⟩ := hf i hil
    refine ⟨blk, off, r, cx, rfl, fun j u hj => ?_, hy, hm1, ht⟩
    have := hc j u hj
    rw [Addr.add_lit, Addr.add_lit] at this
    exact this
end
set_option maxRecDepth 100000 in
theorem ents_open {H : Type} {enc : TypeId × Value → H} {W : World} {base : Nat} {v : Value} {d : DataW H} {p : List MemPlace} (hv : Value.okWide Try.prog W .any base 22 v)
    (h : DataW.Trod enc Try.prog W 0 (fun _ => true) true 22 v d p) : ∃ ao n cap es, v = .slice ao n cap ∧ es.length = n ∧ n ≤ maxLen ∧ EsA W ao es := by
  obtain ⟨a0, len0, cap0, rfl⟩ := okWide_slice Try.underlying22 hv
  obtain ⟨fuel, hf⟩ := h
  obtain ⟨ao, n, cap, es, hcs, h1, h2, h3, -, h4⟩ := ents_trod hf
  simp [Value.cells] at hcs
  obtain ⟨rfl, rfl, rfl⟩ := hcs
  exact ⟨_, _, _, es, rfl, h1, by omega, h4⟩
end Go.Proofs.Ytkalpdfigdaalaa
