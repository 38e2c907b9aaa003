/- Arguments: what a slice of a link's calls holds. -/
import Derived.Test.YtkanolmcaoecgaaLArgs
namespace Go.Proofs.Ytkanolmcaoecgaa
open Go.ChangeShapes Go.WideShapes Go.ChangeAt Go.RowKit

theorem Try.cellsC : Try.prog.cellsOf 32 = 4 := by kernel_rfl
theorem Try.cellsB : Try.prog.cellsOf 4 = 1 := by kernel_rfl

/-- a slice's calls. -/
def CallsAt (w : World) (ao : Option Addr) (n : Nat) : Prop :=
  ∀ i, i < n → ∃ a st pe li nn, ao = some a ∧ w.cell? (a.add (i * 4)) = some (.bool st) ∧ w.cell? (a.add (i * 4 + 1)) = some (.int .i64 pe) ∧ w.cell? (a.add (i * 4 + 2)) = some (.int .i64 li) ∧ w.cell? (a.add (i * 4 + 3)) = some (.int .i64 nn) ∧
    (Lit.int .i64 pe).wf = true ∧ (Lit.int .i64 li).wf = true ∧ (Lit.int .i64 nn).wf = true
theorem CallsAt.sub {w w' : World} {ao : Option Addr} {n : Nat} (h : CallsAt w ao n) (hb : Below w.heap.size w w') : CallsAt w' ao n := fun i hi => by
  obtain ⟨a, st, pe, li, nn, e, c0, c1, c2, c3, r⟩ := h i hi
  exact ⟨a, st, pe, li, nn, e, by rw [hb.cell (blk_lt c0)]; exact c0, by rw [hb.cell (blk_lt c1)]; exact c1, by rw [hb.cell (blk_lt c2)]; exact c2, by rw [hb.cell (blk_lt c3)]; exact c3, r⟩

set_option maxRecDepth 100000 in
theorem calls_open {H : Type} {enc : TypeId × Value → H} {W : World} {base : Nat} {v : Value} {d : DataW H} {p : List MemPlace} (hv : Value.okWide Try.prog W .any base 22 v)
    (h : DataW.Trod enc Try.prog W 0 (fun _ => true) true 22 v d p) : ∃ ao n cap, v = .slice ao n cap ∧ n ≤ maxLen ∧ CallsAt W ao n := by
  obtain ⟨a0, len0, cap0, rfl⟩ := okWide_slice Try.underlying22 hv
  obtain ⟨fuel, hf⟩ := h
  rcases DataW.trod_slice Try.underlying22 hf with ⟨hcs, _⟩ | ⟨a, len, cap, elems, rest, n, _, hcs, _, _, hl, hm, hel, hx, _⟩
  · simp [Value.cells] at hcs
    obtain ⟨rfl, rfl, rfl⟩ := hcs
    exact ⟨none, 0, 0, rfl, by decide, fun i hi => by omega⟩
  · simp [Value.cells] at hcs
    obtain ⟨rfl, rfl, rfl⟩ := hcs
    refine ⟨some a, len0, cap0, rfl, by omega, fun i hi => ?_⟩
    have hi' := hx i hi
    rw [List.getElem?_eq_getElem (by omega), Try.cellsC] at hi'
    obtain ⟨cs, hc, ht⟩ := Option.bind_eq_some_iff.1 hi'
    obtain ⟨_, hlen, hcell⟩ := World.cells?_some hc
    obtain ⟨xs, m, _, _, hl5, hlx, hfi⟩ := DataW.trod_struct Try.underlying32 ht
    rw [Try.cellsC] at hl5
    match cs, hl5, xs, hlx with
    | [c0, c1, c2, c3], _, [y0, y1, y2, y3], _ =>
      have f0 := hfi 0 _ rfl
      have f1 := hfi 1 _ rfl
      have f2 := hfi 2 _ rfl
      have f3 := hfi 3 _ rfl
      simp [Try.cells3, Try.cellsB] at f0 f1 f2 f3
      obtain ⟨k0, e0, _⟩ := DataW.trod_bool Try.underlying4 f0
      obtain ⟨k1, e1, z1⟩ := DataW.trod_int Try.underlying3 f1
      obtain ⟨k2, e2, z2⟩ := DataW.trod_int Try.underlying3 f2
      obtain ⟨k3, e3, z3⟩ := DataW.trod_int Try.underlying3 f3
      simp only [List.cons.injEq, and_true] at e0 e1 e2 e3
      subst e0 e1 e2 e3
      have d0 := hcell 0 (by omega)
      have d1 := hcell 1 (by omega)
      have d2 := hcell 2 (by omega)
      have d3 := hcell 3 (by omega)
      rw [Addr.add_add] at d0 d1 d2 d3
      exact ⟨a, k0, k1, k2, k3, rfl, by simpa using d0, by simpa using d1, by simpa using d2, by simpa using d3, z1.2, z2.2, z3.2⟩
end Go.Proofs.Ytkanolmcaoecgaa
