/- Arguments: what a slice of votes, a slice of calls, holds. -/
import Derived.Test.YtijohafalcifpaaKArgs
import Derived.Test.YtijohafalcifpaaVCall
namespace Go.Proofs.Ytijohafalcifpaa
open Go.ChangeShapes Go.WideShapes Go.ChangeAt Go.RowKit

theorem Try.cells9 : Try.prog.cellsOf 9 = 1 := by kernel_rfl
theorem Try.cellsB : Try.prog.cellsOf 4 = 1 := by kernel_rfl
theorem Try.cellsI : Try.prog.cellsOf 30 = 1 := by kernel_rfl
theorem Try.cellsE : Try.prog.cellsOf 32 = 6 := by kernel_rfl
theorem Try.cellsV : Try.prog.cellsOf 54 = 8 := by kernel_rfl
theorem Try.cellsL : Try.prog.cellsOf 34 = 9 := by kernel_rfl

section
variable {H : Type} {enc : TypeId × Value → H} {W : World} {fuel : Nat} {cs : List Value} {x : DataW H × List MemPlace}
set_option maxRecDepth 100000 in
theorem ints_trod2 (h : DataW.trod enc Try.prog W 0 (fun _ => true) true fuel 30 cs = some x) : ∃ ao n cap ys, cs = [.slice ao n cap] ∧ ys.length = n ∧ n ≤ cap ∧ cap ≤ maxLen ∧ (ao = none → cap = 0) ∧ IntsR W ao ys := by
  rcases open_ints Try.underlying30 Try.underlying3 Try.cells3 h with ⟨hcs, _⟩ | ⟨a, len, cap, zs, hcs, _, hl, hm, hz, _, hcell, _⟩
  · exact ⟨none, 0, 0, [], hcs, rfl, Nat.le_refl _, by decide, fun _ => rfl, fun j hj => by simp at hj⟩
  · simp only [if_true] at hz
    have hlen : (zs.take len).length = len := by simp; omega
    refine ⟨some a, len, cap, zs.take len, hcs, hlen, hl, hm, (fun h => by cases h), fun j hj => ⟨a, rfl, ?_⟩⟩
    rw [hlen] at hj
    have hg : (zs.take len).getD j 0 = zs.getD j 0 := by simp [List.getD_eq_getElem?_getD, List.getElem?_take_of_lt hj]
    rw [hg]
    exact hcell j (by omega)
set_option maxRecDepth 100000 in
theorem entry_trod (h : DataW.trod enc Try.prog W 0 (fun _ => true) true fuel 32 cs = some x) :
    ∃ (e : En) (ao : Option Addr) (cap : Nat), cs = e.cells (.slice ao e.ms.length cap) ∧ IntsR W ao e.ms ∧ e.ms.length ≤ maxLen ∧ e.text.size ≤ maxLen := by
  obtain ⟨xs, n, _, _, hl, hlen, hf⟩ := DataW.trod_struct Try.underlying32 h
  rw [Try.cellsE] at hl
  match cs, hl, xs, hlen with
  | [c0, c1, c2, c3, c4, c5], _, [y0, y1, y2, y3, y4, y5], _ =>
    have f0 := hf 0 _ rfl
    have f1 := hf 1 _ rfl
    have f2 := hf 2 _ rfl
    have f3 := hf 3 _ rfl
    have f4 := hf 4 _ rfl
    have f5 := hf 5 _ rfl
    simp [Try.cells3, Try.cells9, Try.cellsI] at f0 f1 f2 f3 f4 f5
    obtain ⟨k, e0, _⟩ := DataW.trod_int Try.underlying3 f0
    obtain ⟨c, e1, _⟩ := DataW.trod_int Try.underlying3 f1
    obtain ⟨q, e2, _⟩ := DataW.trod_int Try.underlying3 f2
    obtain ⟨t, e3, _, ht⟩ := DataW.trod_string Try.underlying9 f3
    obtain ⟨ao, m, cap, ys, e4, hy1, hy2, hy3, hy4, hy⟩ := ints_trod2 f4
    obtain ⟨z, e5, _⟩ := DataW.trod_int Try.underlying3 f5
    simp only [List.cons.injEq, and_true] at e0 e1 e2 e3 e4 e5
    subst hy1
    exact ⟨⟨k, c, q, t, ys, z⟩, ao, cap, by rw [e0, e1, e2, e3, e4, e5]; rfl, hy, by show ys.length ≤ maxLen; omega, ht⟩
set_option maxRecDepth 100000 in
theorem vote_trod (h : DataW.trod enc Try.prog W 0 (fun _ => true) true fuel 54 cs = some x) : ∃ (c : Vt) (mo : Option Addr) (mc : Nat), cs = c.cells (.slice mo c.e.ms.length mc) ∧ IntsR W mo c.e.ms ∧ c.e.ms.length ≤ maxLen := by
  obtain ⟨xs, n, _, _, hl, hlen, hf⟩ := DataW.trod_struct Try.underlying54 h
  rw [Try.cellsV] at hl
  match cs, hl, xs, hlen with
  | [c0, c1, c2, c3, c4, c5, c6, c7], _, [y0, y1, y2], _ =>
    have f0 := hf 0 _ rfl
    have f1 := hf 1 _ rfl
    have f2 := hf 2 _ rfl
    simp [Try.cells3, Try.cellsE] at f0 f1 f2
    obtain ⟨k, e0, _⟩ := DataW.trod_int Try.underlying3 f0
    obtain ⟨c, e1, _⟩ := DataW.trod_int Try.underlying3 f1
    obtain ⟨e, mo, mc, e2, h1, h2, _⟩ := entry_trod f2
    simp only [List.cons.injEq, and_true] at e0 e1
    exact ⟨⟨k, c, e⟩, mo, mc, by rw [e0, e1, e2]; rfl, h1, h2⟩
set_option maxRecDepth 100000 in
theorem call_trod (h : DataW.trod enc Try.prog W 0 (fun _ => true) true fuel 34 cs = some x) : ∃ (c : Cl) (mo : Option Addr) (mc : Nat), cs = c.cells (.slice mo c.e.ms.length mc) ∧ IntsR W mo c.e.ms ∧ c.e.ms.length ≤ maxLen := by
  obtain ⟨xs, n, _, _, hl, hlen, hf⟩ := DataW.trod_struct Try.underlying34 h
  rw [Try.cellsL] at hl
  match cs, hl, xs, hlen with
  | [c0, c1, c2, c3, c4, c5, c6, c7, c8], _, [y0, y1, y2, y3], _ =>
    have f0 := hf 0 _ rfl
    have f1 := hf 1 _ rfl
    have f2 := hf 2 _ rfl
    have f3 := hf 3 _ rfl
    simp [Try.cells3, Try.cellsE, Try.cellsB] at f0 f1 f2 f3
    obtain ⟨b, e0, _⟩ := DataW.trod_bool Try.underlying4 f0
    obtain ⟨k, e1, _⟩ := DataW.trod_int Try.underlying3 f1
    obtain ⟨c, e2, _⟩ := DataW.trod_int Try.underlying3 f2
    obtain ⟨e, mo, mc, e3, h1, h2, _⟩ := entry_trod f3
    simp only [List.cons.injEq, and_true] at e0 e1 e2
    exact ⟨⟨b, k, c, e⟩, mo, mc, by rw [e0, e1, e2, e3]; rfl, h1, h2⟩
end
set_option maxRecDepth 100000 in
theorem avotes_open {H : Type} {enc : TypeId × Value → H} {W : World} {base : Nat} {v : Value} {d : DataW H} {p : List MemPlace} (hv : Value.okWide Try.prog W .any base 39 v)
    (h : DataW.Trod enc Try.prog W 0 (fun _ => true) true 39 v d p) : ∃ ao n cap cs, v = .slice ao n cap ∧ cs.length = n ∧ n ≤ maxLen ∧ VsA W ao cs := by
  obtain ⟨a0, len0, cap0, rfl⟩ := okWide_slice Try.underlying39 hv
  obtain ⟨fuel, hf⟩ := h
  rcases DataW.trod_slice Try.underlying39 hf with ⟨hcs, _⟩ | ⟨a, len, cap, elems, rest, n, _, hcs, _, _, hl, hm, hlen, hel, _, _⟩
  · simp [Value.cells] at hcs
    obtain ⟨rfl, rfl, rfl⟩ := hcs
    exact ⟨none, 0, 0, [], rfl, rfl, by decide, fun i c hi => by simp at hi⟩
  · simp [Value.cells] at hcs
    obtain ⟨rfl, rfl, rfl⟩ := hcs
    have each : ∀ i, ∃ c : Vt, i < len0 → ∃ mo mc, (∀ j u, (c.cells (.slice mo c.e.ms.length mc))[j]? = some u → W.cell? ((a.add (i * 8)).add j) = some u) ∧ IntsR W mo c.e.ms ∧ c.e.ms.length ≤ maxLen := by
      intro i
      by_cases hi : i < len0
      · have h1 := hel i hi
        rw [Try.cellsV, List.getElem?_eq_getElem (by omega)] at h1
        obtain ⟨ci, hc, ht⟩ := Option.bind_eq_some_iff.1 h1
        obtain ⟨c, mo, mc, rfl, hy, hz⟩ := vote_trod ht
        refine ⟨c, fun _ => ⟨mo, mc, fun j u hj => ?_, hy, hz⟩⟩
        have h6 : j < 8 := (List.getElem?_eq_some_iff.1 hj).1
        exact ((World.cells?_some hc).2.2 j h6).trans hj
      · exact ⟨⟨0, 0, zeroEn⟩, fun h => absurd h hi⟩
    obtain ⟨f, hf⟩ := Classical.axiomOfChoice each
    refine ⟨some a, len0, cap0, (List.range len0).map f, rfl, by simp, by omega, fun i c hi => ?_⟩
    have hil : i < len0 := by have := (List.getElem?_eq_some_iff.1 hi).1; simpa using this
    rw [List.getElem?_map, List.getElem?_range hil] at hi
    cases hi
    have hsp : a.spot = none := by
      obtain ⟨_, _, hc, _⟩ := hf 0 (by omega)
      have := World.cell?_spot (hc 0 _ rfl)
      simpa [Addr.add] using this
    obtain ⟨blk, off, sp⟩ := a
    simp only at hsp
    subst hsp
    obtain ⟨mo, mc, hc, hy, hz⟩ := hf i hil
    refine ⟨blk, off, mo, mc, rfl, fun j u hj => ?_, hy, hz⟩
    have := hc j u hj
    rw [Addr.add_lit, Addr.add_lit] at this
    exact this
set_option maxRecDepth 100000 in
theorem acalls_open {H : Type} {enc : TypeId × Value → H} {W : World} {base : Nat} {v : Value} {d : DataW H} {p : List MemPlace} (hv : Value.okWide Try.prog W .any base 22 v)
    (h : DataW.Trod enc Try.prog W 0 (fun _ => true) true 22 v d p) : ∃ ao n cap cs, v = .slice ao n cap ∧ cs.length = n ∧ n ≤ maxLen ∧ ClsA W ao cs := by
  obtain ⟨a0, len0, cap0, rfl⟩ := okWide_slice Try.underlying22 hv
  obtain ⟨fuel, hf⟩ := h
  rcases DataW.trod_slice Try.underlying22 hf with ⟨hcs, _⟩ | ⟨a, len, cap, elems, rest, n, _, hcs, _, _, hl, hm, hlen, hel, _, _⟩
  · simp [Value.cells] at hcs
    obtain ⟨rfl, rfl, rfl⟩ := hcs
    exact ⟨none, 0, 0, [], rfl, rfl, by decide, fun i c hi => by simp at hi⟩
  · simp [Value.cells] at hcs
    obtain ⟨rfl, rfl, rfl⟩ := hcs
    have each : ∀ i, ∃ c : Cl, i < len0 → ∃ mo mc, (∀ j u, (c.cells (.slice mo c.e.ms.length mc))[j]? = some u → W.cell? ((a.add (i * 9)).add j) = some u) ∧ IntsR W mo c.e.ms ∧ c.e.ms.length ≤ maxLen := by
      intro i
      by_cases hi : i < len0
      · have h1 := hel i hi
        rw [Try.cellsL, List.getElem?_eq_getElem (by omega)] at h1
        obtain ⟨ci, hc, ht⟩ := Option.bind_eq_some_iff.1 h1
        obtain ⟨c, mo, mc, rfl, hy, hz⟩ := call_trod ht
        refine ⟨c, fun _ => ⟨mo, mc, fun j u hj => ?_, hy, hz⟩⟩
        have h6 : j < 9 := (List.getElem?_eq_some_iff.1 hj).1
        exact ((World.cells?_some hc).2.2 j h6).trans hj
      · exact ⟨⟨false, 0, 0, zeroEn⟩, fun h => absurd h hi⟩
    obtain ⟨f, hf⟩ := Classical.axiomOfChoice each
    refine ⟨some a, len0, cap0, (List.range len0).map f, rfl, by simp, by omega, fun i c hi => ?_⟩
    have hil : i < len0 := by have := (List.getElem?_eq_some_iff.1 hi).1; simpa using this
    rw [List.getElem?_map, List.getElem?_range hil] at hi
    cases hi
    have hsp : a.spot = none := by
      obtain ⟨_, _, hc, _⟩ := hf 0 (by omega)
      have := World.cell?_spot (hc 0 _ rfl)
      simpa [Addr.add] using this
    obtain ⟨blk, off, sp⟩ := a
    simp only at hsp
    subst hsp
    obtain ⟨mo, mc, hc, hy, hz⟩ := hf i hil
    refine ⟨blk, off, mo, mc, rfl, fun j u hj => ?_, hy, hz⟩
    have := hc j u hj
    rw [Addr.add_lit, Addr.add_lit] at this
    exact this
end Go.Proofs.Ytijohafalcifpaa
