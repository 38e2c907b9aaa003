/- Arguments: what an entry and a message hold. -/
import Derived.Test.YthjpdglbliigcaaDoorArgs
import Derived.Test.YthjpdglbliigcaaDoorCutsB
namespace Go.Proofs.YthjpdglbliigcaaDoor
open Go.ChangeShapes Go.WideShapes Go.ChangeAt Go.RowKit

theorem Tryd.cells3 : Tryd.prog.cellsOf 3 = 1 := by kernel_rfl
theorem Tryd.cells9 : Tryd.prog.cellsOf 9 = 1 := by kernel_rfl
theorem Tryd.cellsB : Tryd.prog.cellsOf 4 = 1 := by kernel_rfl
theorem Tryd.cellsI : Tryd.prog.cellsOf 22 = 1 := by kernel_rfl
theorem Tryd.cellsS : Tryd.prog.cellsOf 37 = 1 := by kernel_rfl
theorem Tryd.cellsE : Tryd.prog.cellsOf 24 = 6 := by kernel_rfl
theorem Tryd.cellsC : Tryd.prog.cellsOf 39 = 2 := by kernel_rfl
theorem Tryd.cellsM : Tryd.prog.cellsOf 41 = 13 := by kernel_rfl

/-- a slice's numbers, and its room. -/
structure IntsAt (w : World) (ao : Option Addr) (n cap : Nat) (ys : List Int) : Prop where
  len : ys.length = n
  room : n ≤ cap
  big : cap ≤ maxLen
  nul : ao = none → cap = 0
  are : ∀ j, j < ys.length → ∃ a, ao = some a ∧ w.cell? (a.add j) = some (.int .i64 (ys.getD j 0))
theorem IntsAt.below {w w' : World} {ao : Option Addr} {n cap : Nat} {ys : List Int} (h : IntsAt w ao n cap ys) (hb : Below w.heap.size w w') : IntsAt w' ao n cap ys :=
  ⟨h.len, h.room, h.big, h.nul, fun j hj => by obtain ⟨a, ea, hc⟩ := h.are j hj; exact ⟨a, ea, by rw [hb.cell (blk_lt hc)]; exact hc⟩⟩
theorem IntsAt.take {w : World} {ao : Option Addr} {n cap : Nat} {ys : List Int} (h : IntsAt w ao n cap ys) (k : Nat) : IntsAt w ao (min n k) cap (ys.take k) :=
  ⟨by rw [List.length_take, h.len, Nat.min_comm], Nat.le_trans (Nat.min_le_left _ _) h.room, h.big, h.nul, fun j hj => by
    rw [List.length_take] at hj
    obtain ⟨a, ea, hc⟩ := h.are j (by omega)
    refine ⟨a, ea, ?_⟩
    rw [hc]
    simp [List.getD_eq_getElem?_getD, List.getElem?_take_of_lt (show j < k by omega)]⟩

section
variable {H : Type} {enc : TypeId × Value → H} {W : World} {fuel : Nat} {cs : List Value} {x : DataW H × List MemPlace}
set_option maxRecDepth 100000 in
theorem ints_trod (h : DataW.trod enc Tryd.prog W 0 (fun _ => true) true fuel 22 cs = some x) : ∃ ao n cap ys, cs = [.slice ao n cap] ∧ IntsAt W ao n cap ys := by
  rcases open_ints Tryd.underlying22 Tryd.underlying3 Tryd.cells3 h with ⟨hcs, _⟩ | ⟨a, len, cap, zs, hcs, _, hl, hm, hz, _, hcell, _⟩
  · exact ⟨none, 0, 0, [], hcs, rfl, Nat.le_refl _, by decide, fun _ => rfl, fun j hj => by simp at hj⟩
  · simp only [if_true] at hz
    have hlen : (zs.take len).length = len := by simp; omega
    refine ⟨some a, len, cap, zs.take len, hcs, hlen, hl, hm, (fun h => by cases h), fun j hj => ⟨a, rfl, ?_⟩⟩
    rw [hlen] at hj
    have hg : (zs.take len).getD j 0 = zs.getD j 0 := by simp [List.getD_eq_getElem?_getD, List.getElem?_take_of_lt hj]
    rw [hg]
    exact hcell j (by omega)

set_option maxRecDepth 100000 in
theorem entry_trod (h : DataW.trod enc Tryd.prog W 0 (fun _ => true) true fuel 24 cs = some x) :
    ∃ (e : En) (ao : Option Addr) (cap : Nat), cs = [.int .i64 e.kind, .int .i64 e.client, .int .i64 e.seq, .string e.text, .slice ao e.ms.length cap, .int .i64 e.to] ∧ IntsAt W ao e.ms.length cap e.ms ∧ e.text.size ≤ maxLen := by
  obtain ⟨xs, n, _, _, hl, hlen, hf⟩ := DataW.trod_struct Tryd.underlying24 h
  rw [Tryd.cellsE] at hl
  match cs, hl, xs, hlen with
  | [c0, c1, c2, c3, c4, c5], _, [y0, y1, y2, y3, y4, y5], _ =>
    have f0 := hf 0 _ rfl
    have f1 := hf 1 _ rfl
    have f2 := hf 2 _ rfl
    have f3 := hf 3 _ rfl
    have f4 := hf 4 _ rfl
    have f5 := hf 5 _ rfl
    simp [Tryd.cells3, Tryd.cells9, Tryd.cellsI] at f0 f1 f2 f3 f4 f5
    obtain ⟨k, e0, _⟩ := DataW.trod_int Tryd.underlying3 f0
    obtain ⟨c, e1, _⟩ := DataW.trod_int Tryd.underlying3 f1
    obtain ⟨q, e2, _⟩ := DataW.trod_int Tryd.underlying3 f2
    obtain ⟨t, e3, _, ht⟩ := DataW.trod_string Tryd.underlying9 f3
    obtain ⟨ao, m, cap, ys, e4, hy⟩ := ints_trod f4
    obtain ⟨z, e5, _⟩ := DataW.trod_int Tryd.underlying3 f5
    simp only [List.cons.injEq, and_true] at e0 e1 e2 e3 e4 e5
    obtain rfl := hy.len
    exact ⟨⟨k, c, q, t, ys, z⟩, ao, cap, by rw [e0, e1, e2, e3, e4, e5], hy, ht⟩

set_option maxRecDepth 100000 in
theorem ents_trod (h : DataW.trod enc Tryd.prog W 0 (fun _ => true) true fuel 37 cs = some x) : ∃ ao n cap es, cs = [.slice ao n cap] ∧ es.length = n ∧ n ≤ cap ∧ cap ≤ maxLen ∧ (ao = none → cap = 0) ∧ EntsAt W ao es := by
  rcases DataW.trod_slice Tryd.underlying37 h with ⟨hcs, _⟩ | ⟨a, len, cap, elems, rest, n, _, hcs, _, _, hl, hm, hlen, hel, _, _⟩
  · exact ⟨none, 0, 0, [], hcs, rfl, Nat.le_refl _, by decide, fun _ => rfl, fun j hj => by simp at hj⟩
  · have each : ∀ i, ∃ e : En, i < len → ∃ r cx, (∀ j u, ([.int .i64 e.kind, .int .i64 e.client, .int .i64 e.seq, .string e.text, .slice r e.ms.length cx, .int .i64 e.to] : List Value)[j]? = some u → W.cell? ((a.add (i * 6)).add j) = some u) ∧ IntsAt W r e.ms.length cx e.ms ∧ e.text.size ≤ maxLen := by
      intro i
      by_cases hi : i < len
      · have h1 := hel i hi
        rw [Tryd.cellsE, List.getElem?_eq_getElem (by omega)] at h1
        obtain ⟨ci, hc, ht⟩ := Option.bind_eq_some_iff.1 h1
        obtain ⟨e, ao, cx, rfl, hy, hs⟩ := entry_trod ht
        refine ⟨e, fun _ => ⟨ao, cx, fun j u hj => ?_, hy, hs⟩⟩
        have h6 : j < 6 := by
          by_cases h6 : j < 6
          · exact h6
          · rw [List.getElem?_eq_none (by simpa using h6)] at hj; cases hj
        exact ((World.cells?_some hc).2.2 j h6).trans hj
      · exact ⟨default, fun h => absurd h hi⟩
    obtain ⟨f, hf⟩ := Classical.axiomOfChoice each
    refine ⟨some a, len, cap, (List.range len).map f, hcs, by simp, hl, hm, (fun h => by cases h), fun i hi => ?_⟩
    rw [List.length_map, List.length_range] at hi
    have hg : ((List.range len).map f).getD i default = f i := by simp [List.getD_eq_getElem?_getD, hi]
    rw [hg]
    have hsp : a.spot = none := by
      obtain ⟨r, cx, hc, _⟩ := hf 0 (by omega)
      have := World.cell?_spot (hc 0 _ rfl)
      simpa [Addr.add] using this
    obtain ⟨blk, off, sp⟩ := a
    simp only at hsp
    subst hsp
    obtain ⟨r, cx, hc, hy, ht⟩ := hf i hi
    have hc' : ∀ j u, ([.int .i64 (f i).kind, .int .i64 (f i).client, .int .i64 (f i).seq, .string (f i).text, .slice r (f i).ms.length cx, .int .i64 (f i).to] : List Value)[j]? = some u → W.cell? ⟨blk, off + i * 6 + j, none⟩ = some u := fun j u hj => by
      have := hc j u hj
      rw [Addr.add_lit, Addr.add_lit] at this
      exact this
    exact ⟨blk, off, r, cx, rfl, hc' 0 _ rfl, hc' 1 _ rfl, hc' 2 _ rfl, hc' 3 _ rfl, hc' 4 _ rfl, hc' 5 _ rfl, hy.are, ht, hy.room, hy.big, hy.nul⟩

set_option maxRecDepth 100000 in
theorem msg_trod (h : DataW.trod enc Tryd.prog W 0 (fun _ => true) true fuel 41 cs = some x) :
    ∃ (x0 x1 x2 x3 x4 x5 x6 x7 : Int) (y : Bool) (aot aoe aoo aon : Option Addr) (nt ct ne ce no co nn cn : Nat) (ts : List Int) (es : List En) (os ns : List Int),
      cs = [.int .i64 x0, .int .i64 x1, .int .i64 x2, .int .i64 x3, .int .i64 x4, .int .i64 x5, .int .i64 x6, .int .i64 x7, .bool y, .slice aot nt ct, .slice aoe ne ce, .slice aoo no co, .slice aon nn cn] ∧
      IntsAt W aot nt ct ts ∧ (es.length = ne ∧ ne ≤ ce ∧ ce ≤ maxLen ∧ (aoe = none → ce = 0) ∧ EntsAt W aoe es) ∧ IntsAt W aoo no co os ∧ IntsAt W aon nn cn ns := by
  obtain ⟨xs, n, _, _, hl, hlen, hf⟩ := DataW.trod_struct Tryd.underlying41 h
  rw [Tryd.cellsM] at hl
  match cs, hl, xs, hlen with
  | [c0, c1, c2, c3, c4, c5, c6, c7, c8, c9, c10, c11, c12], _, [y0, y1, y2, y3, y4, y5, y6, y7, y8, y9, y10, y11], _ =>
    have f0 := hf 0 _ rfl
    have f1 := hf 1 _ rfl
    have f2 := hf 2 _ rfl
    have f3 := hf 3 _ rfl
    have f4 := hf 4 _ rfl
    have f5 := hf 5 _ rfl
    have f6 := hf 6 _ rfl
    have f7 := hf 7 _ rfl
    have f8 := hf 8 _ rfl
    have f9 := hf 9 _ rfl
    have f10 := hf 10 _ rfl
    have f11 := hf 11 _ rfl
    simp [Tryd.cells3, Tryd.cellsB, Tryd.cellsI, Tryd.cellsS, Tryd.cellsC] at f0 f1 f2 f3 f4 f5 f6 f7 f8 f9 f10 f11
    obtain ⟨x0, e0, _⟩ := DataW.trod_int Tryd.underlying3 f0
    obtain ⟨x1, e1, _⟩ := DataW.trod_int Tryd.underlying3 f1
    obtain ⟨x2, e2, _⟩ := DataW.trod_int Tryd.underlying3 f2
    obtain ⟨x3, e3, _⟩ := DataW.trod_int Tryd.underlying3 f3
    obtain ⟨x4, e4, _⟩ := DataW.trod_int Tryd.underlying3 f4
    obtain ⟨x5, e5, _⟩ := DataW.trod_int Tryd.underlying3 f5
    obtain ⟨x6, e6, _⟩ := DataW.trod_int Tryd.underlying3 f6
    obtain ⟨x7, e7, _⟩ := DataW.trod_int Tryd.underlying3 f7
    obtain ⟨y, e8, _⟩ := DataW.trod_bool Tryd.underlying4 f8
    obtain ⟨aot, nt, ct, ts, e9, ht⟩ := ints_trod f9
    obtain ⟨aoe, ne, ce, es, e10, he⟩ := ents_trod f10
    obtain ⟨zs, m, _, _, _, hlz, hz⟩ := DataW.trod_struct Tryd.underlying39 f11
    match zs, hlz with
    | [z0, z1], _ =>
      have g0 := hz 0 _ rfl
      have g1 := hz 1 _ rfl
      simp [Tryd.cellsI] at g0 g1
      obtain ⟨aoo, no, co, os, e11, ho⟩ := ints_trod g0
      obtain ⟨aon, nn, cn, ns, e12, hn⟩ := ints_trod g1
      simp only [List.cons.injEq, and_true] at e0 e1 e2 e3 e4 e5 e6 e7 e8 e9 e10 e11 e12
      exact ⟨x0, x1, x2, x3, x4, x5, x6, x7, y, aot, aoe, aoo, aon, nt, ct, ne, ce, no, co, nn, cn, ts, es, os, ns, by rw [e0, e1, e2, e3, e4, e5, e6, e7, e8, e9, e10, e11, e12], ht, he, ho, hn⟩
end

set_option maxRecDepth 100000 in
theorem entry_open {H : Type} {enc : TypeId × Value → H} {W : World} {base : Nat} {v : Value} {d : DataW H} {p : List MemPlace} (hv : Value.okWide Tryd.prog W .any base 24 v)
    (h : DataW.Trod enc Tryd.prog W 0 (fun _ => true) true 24 v d p) : ∃ (e : En) (ao : Option Addr) (cap : Nat), v = .agg #[.int .i64 e.kind, .int .i64 e.client, .int .i64 e.seq, .string e.text, .slice ao e.ms.length cap, .int .i64 e.to] ∧ IntsAt W ao e.ms.length cap e.ms ∧ e.text.size ≤ maxLen := by
  obtain ⟨cs, rfl, _⟩ := okWide_struct Tryd.underlying24 hv
  obtain ⟨fuel, hf⟩ := h
  obtain ⟨e, ao, cap, hc, hy, ht⟩ := entry_trod hf
  refine ⟨e, ao, cap, ?_, hy, ht⟩
  simp only [Value.cells] at hc
  rw [← hc]

set_option maxRecDepth 100000 in
theorem msg_open {H : Type} {enc : TypeId × Value → H} {W : World} {base : Nat} {v : Value} {d : DataW H} {p : List MemPlace} (hv : Value.okWide Tryd.prog W .any base 41 v)
    (h : DataW.Trod enc Tryd.prog W 0 (fun _ => true) true 41 v d p) : ∃ (x0 x1 x2 x3 x4 x5 x6 x7 : Int) (y : Bool) (aot aoe aoo aon : Option Addr) (nt ct ne ce no co nn cn : Nat) (ts : List Int) (es : List En) (os ns : List Int),
      v = .agg #[.int .i64 x0, .int .i64 x1, .int .i64 x2, .int .i64 x3, .int .i64 x4, .int .i64 x5, .int .i64 x6, .int .i64 x7, .bool y, .slice aot nt ct, .slice aoe ne ce, .slice aoo no co, .slice aon nn cn] ∧
      IntsAt W aot nt ct ts ∧ (es.length = ne ∧ ne ≤ ce ∧ ce ≤ maxLen ∧ (aoe = none → ce = 0) ∧ EntsAt W aoe es) ∧ IntsAt W aoo no co os ∧ IntsAt W aon nn cn ns := by
  obtain ⟨cs, rfl, _⟩ := okWide_struct Tryd.underlying41 hv
  obtain ⟨fuel, hf⟩ := h
  obtain ⟨x0, x1, x2, x3, x4, x5, x6, x7, y, aot, aoe, aoo, aon, nt, ct, ne, ce, no, co, nn, cn, ts, es, os, ns, hc, h1, h2, h3, h4⟩ := msg_trod hf
  refine ⟨x0, x1, x2, x3, x4, x5, x6, x7, y, aot, aoe, aoo, aon, nt, ct, ne, ce, no, co, nn, cn, ts, es, os, ns, ?_, h1, h2, h3, h4⟩
  simp only [Value.cells] at hc
  rw [← hc]
end Go.Proofs.YthjpdglbliigcaaDoor
