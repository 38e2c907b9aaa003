/- Arguments: what a slice of a net's calls holds. -/
import Derived.Test.YtnplhoekkoomiaaNArgs
namespace Go.Proofs.Ytnplhoekkoomiaa
open Go.ChangeShapes Go.WideShapes Go.ChangeAt Go.RowKit

theorem Try.cellsI : Try.prog.cellsOf 27 = 1 := by kernel_rfl
theorem Try.cellsC : Try.prog.cellsOf 29 = 5 := by kernel_rfl

/-- a slice's calls. -/
def CallsAt (w : World) (ao : Option Addr) (n : Nat) : Prop :=
  ∀ i, i < n → ∃ a kind nn f t r l cx ys, ao = some a ∧ w.cell? (a.add (i * 5)) = some (.int .i64 kind) ∧ w.cell? (a.add (i * 5 + 1)) = some (.int .i64 nn) ∧ w.cell? (a.add (i * 5 + 2)) = some (.int .i64 f) ∧ w.cell? (a.add (i * 5 + 3)) = some (.int .i64 t) ∧ w.cell? (a.add (i * 5 + 4)) = some (.slice r l cx) ∧
    ys.length = l ∧ l ≤ maxLen ∧ Ints w r ys ∧ ∀ y ∈ ys, (Lit.int .i64 y).wf = true

set_option maxRecDepth 100000 in
theorem calls_open {H : Type} {enc : TypeId × Value → H} {W : World} {base : Nat} {v : Value} {d : DataW H} {p : List MemPlace} (hv : Value.okWide Try.prog W .any base 22 v)
    (h : DataW.Trod enc Try.prog W 0 (fun _ => true) true 22 v d p) : ∃ ao n cap, v = .slice ao n cap ∧ n ≤ maxLen ∧ CallsAt W ao n := by
  obtain ⟨a0, len0, cap0, rfl⟩ := okWide_slice Try.underlying22 hv
  obtain ⟨fuel, hf⟩ := h
  rcases DataW.trod_slice Try.underlying22 hf with ⟨hcs, _⟩ | ⟨a, len, cap, elems, rest, n, _, hcs, _, _, hl, hm, hel, hx, _⟩
  · simp [Value.cells] at hcs
    obtain ⟨rfl, rfl, rfl⟩ := hcs
    exact ⟨none, 0, 0, rfl, by decide, fun i hi => by omega⟩
  · simp [Value.cells] at hcs
    obtain ⟨rfl, rfl, rfl⟩ := hcs
    refine ⟨some a, len0, cap0, rfl, by omega, fun i hi => ?_⟩
    have hi' := hx i hi
    rw [List.getElem?_eq_getElem (by omega), Try.cellsC] at hi'
    obtain ⟨cs, hc, ht⟩ := Option.bind_eq_some_iff.1 hi'
    obtain ⟨_, hlen, hcell⟩ := World.cells?_some hc
    obtain ⟨xs, m, _, _, hl5, hlx, hfi⟩ := DataW.trod_struct Try.underlying29 ht
    rw [Try.cellsC] at hl5
    match cs, hl5, xs, hlx with
    | [c0, c1, c2, c3, c4], _, [y0, y1, y2, y3, y4], _ =>
      have f0 := hfi 0 _ rfl
      have f1 := hfi 1 _ rfl
      have f2 := hfi 2 _ rfl
      have f3 := hfi 3 _ rfl
      have f4 := hfi 4 _ rfl
      simp [Try.cells3, Try.cellsI] at f0 f1 f2 f3 f4
      obtain ⟨k0, e0, _⟩ := DataW.trod_int Try.underlying3 f0
      obtain ⟨k1, e1, _⟩ := DataW.trod_int Try.underlying3 f1
      obtain ⟨k2, e2, _⟩ := DataW.trod_int Try.underlying3 f2
      obtain ⟨k3, e3, _⟩ := DataW.trod_int Try.underlying3 f3
      simp only [List.cons.injEq, and_true] at e0 e1 e2 e3
      subst e0 e1 e2 e3
      have hsl : ∃ a n c, c4 = .slice a n c := by
        rcases open_ints Try.underlying27 Try.underlying3 Try.cells3 f4 with ⟨hcs, _⟩ | ⟨a, len, cap, zs, hcs, _⟩
        · simp only [List.cons.injEq, and_true] at hcs; exact ⟨_, _, _, hcs⟩
        · simp only [List.cons.injEq, and_true] at hcs; exact ⟨_, _, _, hcs⟩
      obtain ⟨r, l, cx, ys, rfl, hyl, hym, hyi, hyf⟩ := ints_trod (v := c4) (d := y4.1) (p := y4.2) ⟨_, by obtain ⟨_, _, _, rfl⟩ := hsl; exact f4⟩ hsl
      have d0 := hcell 0 (by omega)
      have d1 := hcell 1 (by omega)
      have d2 := hcell 2 (by omega)
      have d3 := hcell 3 (by omega)
      have d4 := hcell 4 (by omega)
      rw [Addr.add_add] at d0 d1 d2 d3 d4
      exact ⟨a, k0, k1, k2, k3, r, l, cx, ys, rfl, by simpa using d0, by simpa using d1, by simpa using d2, by simpa using d3, by simpa using d4, hyl, hym, hyi, hyf⟩
end Go.Proofs.Ytnplhoekkoomiaa
