/- Arguments: a generation, steps, numbers. -/
import Derived.Test.YtgllokinadjiaaaGreatDoorSXPlB
import Derived.Test.YtgllokinadjiaaaGreatDoorWwArgs
import Derived.OpenShut
namespace Go.Proofs.YtgllokinadjiaaaGreatDoor
open Go.ChangeShapes Go.WideShapes Go.ChangeAt Go.RowKit

theorem Tryz.cells3 : Tryz.prog.cellsOf 3 = 1 := by kernel_rfl
theorem Tryz.cellsI : Tryz.prog.cellsOf 22 = 1 := by kernel_rfl
theorem Tryz.cellsC : Tryz.prog.cellsOf 24 = 2 := by kernel_rfl
theorem Tryz.cellsG : Tryz.prog.cellsOf 26 = 5 := by kernel_rfl
theorem Tryz.cellsS : Tryz.prog.cellsOf 40 = 5 := by kernel_rfl
theorem in64_wf {a : Int} (h : (Lit.int .i64 a).wf = true) : in64 a := by
  simp only [Lit.wf, Bool.and_eq_true, decide_eq_true_eq] at h
  have h1 : IntKind.i64.min = -9223372036854775808 := by decide
  have h2 : IntKind.i64.max = 9223372036854775807 := by decide
  unfold in64
  omega
section
variable {H : Type} {enc : TypeId × Value → H} {W : World} {fuel : Nat} {cs : List Value} {x : DataW H × List MemPlace}
set_option maxRecDepth 100000 in
theorem ints_cells (h : DataW.trod enc Tryz.prog W 0 (fun _ => true) true fuel 22 cs = some x) : ∃ ao n cap ys, cs = [.slice ao n cap] ∧ ys.length = n ∧ IntsR W ao ys := by
  rcases open_ints Tryz.underlying22 Tryz.underlying3 Tryz.cells3 h with ⟨hcs, _⟩ | ⟨a, len, cap, zs, hcs, _, hl, hm, hz, _, hcell, _⟩
  · exact ⟨none, 0, 0, [], hcs, rfl, IntsR.nil _ _⟩
  · simp only [if_true] at hz
    have hlen : (zs.take len).length = len := by simp; omega
    refine ⟨some a, len, cap, zs.take len, hcs, hlen, fun j hj => ⟨a, rfl, ?_⟩⟩
    rw [hlen] at hj
    have hg : (zs.take len).getD j 0 = zs.getD j 0 := by simp [List.getD_eq_getElem?_getD, List.getElem?_take_of_lt hj]
    rw [hg]
    exact hcell j (by omega)
set_option maxRecDepth 100000 in
theorem conf_cells (h : DataW.trod enc Tryz.prog W 0 (fun _ => true) true fuel 24 cs = some x) :
    ∃ ao no co lo an nn cn ln, cs = [.slice ao no co, .slice an nn cn] ∧ (lo.length = no ∧ IntsR W ao lo) ∧ (ln.length = nn ∧ IntsR W an ln) := by
  obtain ⟨xs, n, _, _, hl, hlen, hf⟩ := DataW.trod_struct Tryz.underlying24 h
  rw [Tryz.cellsC] at hl
  match cs, hl, xs, hlen with
  | [c0, c1], _, [y0, y1], _ =>
    have f0 := hf 0 _ rfl
    have f1 := hf 1 _ rfl
    simp [Tryz.cellsI] at f0 f1
    obtain ⟨ao, no, co, lo, e0, h0⟩ := ints_cells f0
    obtain ⟨an, nn, cn, ln, e1, h1⟩ := ints_cells f1
    simp only [List.cons.injEq, and_true] at e0 e1
    exact ⟨ao, no, co, lo, an, nn, cn, ln, by rw [e0, e1], h0, h1⟩
set_option maxRecDepth 100000 in
theorem gen_cells (h : DataW.trod enc Tryz.prog W 0 (fun _ => true) true fuel 26 cs = some x) :
    ∃ a b d ao no co lo an nn cn ln, cs = [.int .i64 a, .int .i64 b, .int .i64 d, .slice ao no co, .slice an nn cn] ∧ (lo.length = no ∧ IntsR W ao lo) ∧ (ln.length = nn ∧ IntsR W an ln) := by
  obtain ⟨xs, n, _, _, hl, hlen, hf⟩ := DataW.trod_struct Tryz.underlying26 h
  rw [Tryz.cellsG] at hl
  match cs, hl, xs, hlen with
  | [c0, c1, c2, c3, c4], _, [y0, y1, y2, y3], _ =>
    have f0 := hf 0 _ rfl
    have f1 := hf 1 _ rfl
    have f2 := hf 2 _ rfl
    have f3 := hf 3 _ rfl
    simp [Tryz.cells3, Tryz.cellsC] at f0 f1 f2 f3
    obtain ⟨a, e0, _⟩ := DataW.trod_int Tryz.underlying3 f0
    obtain ⟨b, e1, _⟩ := DataW.trod_int Tryz.underlying3 f1
    obtain ⟨d, e2, _⟩ := DataW.trod_int Tryz.underlying3 f2
    obtain ⟨ao, no, co, lo, an, nn, cn, ln, e3, h0, h1⟩ := conf_cells f3
    simp only [List.cons.injEq, and_true] at e0 e1 e2 e3
    exact ⟨a, b, d, ao, no, co, lo, an, nn, cn, ln, by rw [e0, e1, e2, e3.1, e3.2], h0, h1⟩
set_option maxRecDepth 100000 in
theorem stp_cells (h : DataW.trod enc Tryz.prog W 0 (fun _ => true) true fuel 40 cs = some x) :
    ∃ (s : Stp) (xo mo : Option Addr) (xc mc : Nat), cs = s.cells (.slice xo s.old.length xc) (.slice mo s.new.length mc) ∧ IntsR W xo s.old ∧ IntsR W mo s.new ∧ in64 s.index ∧ in64 s.eng := by
  obtain ⟨xs, n, _, _, hl, hlen, hf⟩ := DataW.trod_struct Tryz.underlying40 h
  rw [Tryz.cellsS] at hl
  match cs, hl, xs, hlen with
  | [c0, c1, c2, c3, c4], _, [y0, y1, y2, y3], _ =>
    have f0 := hf 0 _ rfl
    have f1 := hf 1 _ rfl
    have f2 := hf 2 _ rfl
    have f3 := hf 3 _ rfl
    simp [Tryz.cells3, Tryz.cellsC] at f0 f1 f2 f3
    obtain ⟨a, e0, _, w0⟩ := DataW.trod_int Tryz.underlying3 f0
    obtain ⟨b, e1, _, w1⟩ := DataW.trod_int Tryz.underlying3 f1
    obtain ⟨d, e2, _⟩ := DataW.trod_int Tryz.underlying3 f2
    obtain ⟨ao, no, co, lo, an, nn, cn, ln, e3, ⟨h0, h0'⟩, h1, h1'⟩ := conf_cells f3
    simp only [List.cons.injEq, and_true] at e0 e1 e2 e3
    subst h0
    subst h1
    exact ⟨⟨a, b, d, lo, ln⟩, ao, an, co, cn, by rw [e0, e1, e2, e3.1, e3.2]; rfl, h0', h1', in64_wf w0, in64_wf w1⟩
end
set_option maxRecDepth 100000 in
theorem gen_open {H : Type} {enc : TypeId × Value → H} {W : World} {base : Nat} {v : Value} {d : DataW H} {p : List MemPlace} (hv : Value.okWide Tryz.prog W .any base 26 v)
    (h : DataW.Trod enc Tryz.prog W 0 (fun _ => true) true 26 v d p) : ∃ a b d' ao no co lo an nn cn ln, v = .agg #[.int .i64 a, .int .i64 b, .int .i64 d', .slice ao no co, .slice an nn cn] ∧ (lo.length = no ∧ IntsR W ao lo) ∧ (ln.length = nn ∧ IntsR W an ln) := by
  obtain ⟨cs, rfl, _⟩ := okWide_struct Tryz.underlying26 hv
  obtain ⟨fuel, hf⟩ := h
  obtain ⟨a, b, d', ao, no, co, lo, an, nn, cn, ln, hc, h0, h1⟩ := gen_cells hf
  refine ⟨a, b, d', ao, no, co, lo, an, nn, cn, ln, ?_, h0, h1⟩
  simp only [Value.cells] at hc
  rw [← hc]
set_option maxRecDepth 100000 in
theorem ints_open {H : Type} {enc : TypeId × Value → H} {W : World} {base : Nat} {v : Value} {d : DataW H} {p : List MemPlace} (hv : Value.okWide Tryz.prog W .any base 22 v)
    (h : DataW.Trod enc Tryz.prog W 0 (fun _ => true) true 22 v d p) : ∃ ao n cap ys, v = .slice ao n cap ∧ ys.length = n ∧ IntsR W ao ys := by
  obtain ⟨a0, len0, cap0, rfl⟩ := okWide_slice Tryz.underlying22 hv
  obtain ⟨fuel, hf⟩ := h
  obtain ⟨ao, n, cap, ys, hc, h0, h1⟩ := ints_cells hf
  simp [Value.cells] at hc
  obtain ⟨rfl, rfl, rfl⟩ := hc
  exact ⟨_, _, _, ys, rfl, h0, h1⟩
set_option maxRecDepth 100000 in
theorem stps_open {H : Type} {enc : TypeId × Value → H} {W : World} {base : Nat} {v : Value} {d : DataW H} {p : List MemPlace} (hv : Value.okWide Tryz.prog W .any base 27 v)
    (h : DataW.Trod enc Tryz.prog W 0 (fun _ => true) true 27 v d p) : ∃ ao n cap ss, v = .slice ao n cap ∧ ss.length = n ∧ StpA W ao ss := by
  obtain ⟨a0, len0, cap0, rfl⟩ := okWide_slice Tryz.underlying27 hv
  obtain ⟨fuel, hf⟩ := h
  rcases DataW.trod_slice Tryz.underlying27 hf with ⟨hcs, _⟩ | ⟨a, len, cap, elems, rest, n, _, hcs, _, _, hl, hm, hlen, hel, _, _⟩
  · simp [Value.cells] at hcs
    obtain ⟨rfl, rfl, rfl⟩ := hcs
    exact ⟨none, 0, 0, [], rfl, rfl, fun i c hi => by simp at hi⟩
  · simp [Value.cells] at hcs
    obtain ⟨rfl, rfl, rfl⟩ := hcs
    have each : ∀ i, ∃ s : Stp, i < len0 → ∃ xo mo xc mc, (∀ j u, (s.cells (.slice xo s.old.length xc) (.slice mo s.new.length mc))[j]? = some u → W.cell? ((a.add (i * 5)).add j) = some u) ∧ IntsR W xo s.old ∧ IntsR W mo s.new ∧ in64 s.index ∧ in64 s.eng := by
      intro i
      by_cases hi : i < len0
      · have h1 := hel i hi
        rw [Tryz.cellsS, List.getElem?_eq_getElem (by omega)] at h1
        obtain ⟨ci, hc, ht⟩ := Option.bind_eq_some_iff.1 h1
        obtain ⟨s, xo, mo, xc, mc, rfl, hy⟩ := stp_cells ht
        refine ⟨s, fun _ => ⟨xo, mo, xc, mc, fun j u hj => ?_, hy⟩⟩
        have h6 : j < 5 := (List.getElem?_eq_some_iff.1 hj).1
        exact ((World.cells?_some hc).2.2 j h6).trans hj
      · exact ⟨⟨0, 0, 0, [], []⟩, fun h => absurd h hi⟩
    obtain ⟨f, hf⟩ := Classical.axiomOfChoice each
    refine ⟨some a, len0, cap0, (List.range len0).map f, rfl, by simp, fun i c hi => ?_⟩
    have hil : i < len0 := by have := (List.getElem?_eq_some_iff.1 hi).1; simpa using this
    rw [List.getElem?_map, List.getElem?_range hil] at hi
    cases hi
    have hsp : a.spot = none := by
      obtain ⟨_, _, _, _, hc, _⟩ := hf 0 (by omega)
      have := World.cell?_spot (hc 0 _ rfl)
      simpa [Addr.add] using this
    obtain ⟨blk, off, sp⟩ := a
    simp only at hsp
    subst hsp
    obtain ⟨xo, mo, xc, mc, hc, hy⟩ := hf i hil
    refine ⟨blk, off, xo, xc, mo, mc, rfl, fun j u hj => ?_, hy⟩
    have := hc j u hj
    rw [Addr.add_lit, Addr.add_lit] at this
    exact this
end Go.Proofs.YtgllokinadjiaaaGreatDoor
