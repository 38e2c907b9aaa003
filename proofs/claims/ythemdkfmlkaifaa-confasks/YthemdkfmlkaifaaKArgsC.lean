/- Arguments: what a configuration holds. -/
import Derived.Test.YthemdkfmlkaifaaKArgs
namespace Go.Proofs.Ythemdkfmlkaifaa
open Go.ChangeShapes Go.WideShapes Go.ChangeAt Go.RowKit

theorem Try.cellsI : Try.prog.cellsOf 22 = 1 := by kernel_rfl
theorem Try.cellsC : Try.prog.cellsOf 24 = 2 := by kernel_rfl
section
variable {H : Type} {enc : TypeId × Value → H} {W : World} {fuel : Nat} {cs : List Value} {x : DataW H × List MemPlace}
set_option maxRecDepth 100000 in
theorem ints_cells (h : DataW.trod enc Try.prog W 0 (fun _ => true) true fuel 22 cs = some x) : ∃ ao n cap ys, cs = [.slice ao n cap] ∧ ys.length = n ∧ n ≤ maxLen ∧ IntsR W ao ys := by
  rcases open_ints Try.underlying22 Try.underlying3 Try.cells3 h with ⟨hcs, _⟩ | ⟨a, len, cap, zs, hcs, _, hl, hm, hz, _, hcell, _⟩
  · exact ⟨none, 0, 0, [], hcs, rfl, by decide, IntsR.nil _ _⟩
  · simp only [if_true] at hz
    have hlen : (zs.take len).length = len := by simp; omega
    refine ⟨some a, len, cap, zs.take len, hcs, hlen, by omega, fun j hj => ⟨a, rfl, ?_⟩⟩
    rw [hlen] at hj
    have hg : (zs.take len).getD j 0 = zs.getD j 0 := by simp [List.getD_eq_getElem?_getD, List.getElem?_take_of_lt hj]
    rw [hg]
    exact hcell j (by omega)
set_option maxRecDepth 100000 in
theorem conf_cells (h : DataW.trod enc Try.prog W 0 (fun _ => true) true fuel 24 cs = some x) :
    ∃ ao no co lo an nn cn ln, cs = [.slice ao no co, .slice an nn cn] ∧ (lo.length = no ∧ no ≤ maxLen ∧ IntsR W ao lo) ∧ (ln.length = nn ∧ nn ≤ maxLen ∧ IntsR W an ln) := by
  obtain ⟨xs, n, _, _, hl, hlen, hf⟩ := DataW.trod_struct Try.underlying24 h
  rw [Try.cellsC] at hl
  match cs, hl, xs, hlen with
  | [c0, c1], _, [y0, y1], _ =>
    have f0 := hf 0 _ rfl
    have f1 := hf 1 _ rfl
    simp [Try.cellsI] at f0 f1
    obtain ⟨ao, no, co, lo, e0, h0⟩ := ints_cells f0
    obtain ⟨an, nn, cn, ln, e1, h1⟩ := ints_cells f1
    simp only [List.cons.injEq, and_true] at e0 e1
    exact ⟨ao, no, co, lo, an, nn, cn, ln, by rw [e0, e1], h0, h1⟩
end
set_option maxRecDepth 100000 in
theorem conf_open {H : Type} {enc : TypeId × Value → H} {W : World} {base : Nat} {v : Value} {d : DataW H} {p : List MemPlace} (hv : Value.okWide Try.prog W .any base 24 v)
    (h : DataW.Trod enc Try.prog W 0 (fun _ => true) true 24 v d p) : ∃ ao no co lo an nn cn ln, v = .agg #[.slice ao no co, .slice an nn cn] ∧ (lo.length = no ∧ no ≤ maxLen ∧ IntsR W ao lo) ∧ (ln.length = nn ∧ nn ≤ maxLen ∧ IntsR W an ln) := by
  obtain ⟨cs, rfl, _⟩ := okWide_struct Try.underlying24 hv
  obtain ⟨fuel, hf⟩ := h
  obtain ⟨ao, no, co, lo, an, nn, cn, ln, hc, h0, h1⟩ := conf_cells hf
  refine ⟨ao, no, co, lo, an, nn, cn, ln, ?_, h0, h1⟩
  simp only [Value.cells] at hc
  rw [← hc]
end Go.Proofs.Ythemdkfmlkaifaa
