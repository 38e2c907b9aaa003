/- Arguments: what an entry and a message hold. WireCuts: what its walk calls. How many bytes a message takes. core.IsNode, core.Pack: contracts. -/
import Derived.Test.YtjplhiflemmkfaaGreatDoorArgs
import Derived.Test.YtjplhiflemmkfaaGreatDoorCutsA
import Derived.Test.YtjplhiflemmkfaaGreatDoorWriterM
import Derived.Test.YtjplhiflemmkfaaGreatDoorReadPure
import Derived.Test.YtjplhiflemmkfaaGreatDoorSame
namespace Go.Proofs.YtjplhiflemmkfaaGreatDoor
open Go.ChangeShapes Go.WideShapes Go.ChangeAt Go.RowKit

theorem Tryz.cells3 : Tryz.prog.cellsOf 3 = 1 := by kernel_rfl
theorem Tryz.cells9 : Tryz.prog.cellsOf 9 = 1 := by kernel_rfl
theorem Tryz.cellsB : Tryz.prog.cellsOf 4 = 1 := by kernel_rfl
theorem Tryz.cellsI : Tryz.prog.cellsOf 24 = 1 := by kernel_rfl
theorem Tryz.cellsS : Tryz.prog.cellsOf 48 = 1 := by kernel_rfl
theorem Tryz.cellsE : Tryz.prog.cellsOf 43 = 6 := by kernel_rfl
theorem Tryz.cellsC : Tryz.prog.cellsOf 26 = 2 := by kernel_rfl
theorem Tryz.cellsM : Tryz.prog.cellsOf 50 = 13 := by kernel_rfl

/-- a slice's numbers, and its room. -/
structure IntsAt (w : World) (ao : Option Addr) (n cap : Nat) (ys : List Int) : Prop where
  len : ys.length = n
  room : n ≤ cap
  big : cap ≤ maxLen
  nul : ao = none → cap = 0
  are : ∀ j, j < ys.length → ∃ a, ao = some a ∧ w.cell? (a.add j) = some (.int .i64 (ys.getD j 0))
theorem IntsAt.below {w w' : World} {ao : Option Addr} {n cap : Nat} {ys : List Int} (h : IntsAt w ao n cap ys) (hb : Below w.heap.size w w') : IntsAt w' ao n cap ys :=
  ⟨h.len, h.room, h.big, h.nul, fun j hj => by obtain ⟨a, ea, hc⟩ := h.are j hj; exact ⟨a, ea, by rw [hb.cell (blk_lt hc)]; exact hc⟩⟩
theorem IntsAt.take {w : World} {ao : Option Addr} {n cap : Nat} {ys : List Int} (h : IntsAt w ao n cap ys) (k : Nat) : IntsAt w ao (min n k) cap (ys.take k) :=
  ⟨by rw [List.length_take, h.len, Nat.min_comm], Nat.le_trans (Nat.min_le_left _ _) h.room, h.big, h.nul, fun j hj => by
    rw [List.length_take] at hj
    obtain ⟨a, ea, hc⟩ := h.are j (by omega)
    refine ⟨a, ea, ?_⟩
    rw [hc]
    simp [List.getD_eq_getElem?_getD, List.getElem?_take_of_lt (show j < k by omega)]⟩

section
variable {H : Type} {enc : TypeId × Value → H} {W : World} {fuel : Nat} {cs : List Value} {x : DataW H × List MemPlace}
set_option maxRecDepth 100000 in
theorem ints_trod (h : DataW.trod enc Tryz.prog W 0 (fun _ => true) true fuel 24 cs = some x) : ∃ ao n cap ys, cs = [.slice ao n cap] ∧ IntsAt W ao n cap ys := by
  rcases open_ints Tryz.underlying24 Tryz.underlying3 Tryz.cells3 h with ⟨hcs, _⟩ | ⟨a, len, cap, zs, hcs, _, hl, hm, hz, _, hcell, _⟩
  · exact ⟨none, 0, 0, [], hcs, rfl, Nat.le_refl _, by decide, fun _ => rfl, fun j hj => by simp at hj⟩
  · simp only [if_true] at hz
    have hlen : (zs.take len).length = len := by simp; omega
    refine ⟨some a, len, cap, zs.take len, hcs, hlen, hl, hm, (fun h => by cases h), fun j hj => ⟨a, rfl, ?_⟩⟩
    rw [hlen] at hj
    have hg : (zs.take len).getD j 0 = zs.getD j 0 := by simp [List.getD_eq_getElem?_getD, List.getElem?_take_of_lt hj]
    rw [hg]
    exact hcell j (by omega)

set_option maxRecDepth 100000 in
theorem entry_trod (h : DataW.trod enc Tryz.prog W 0 (fun _ => true) true fuel 43 cs = some x) :
    ∃ (e : En) (ao : Option Addr) (cap : Nat), cs = [.int .i64 e.kind, .int .i64 e.client, .int .i64 e.seq, .string e.text, .slice ao e.ms.length cap, .int .i64 e.to] ∧ IntsAt W ao e.ms.length cap e.ms ∧ e.text.size ≤ maxLen := by
  obtain ⟨xs, n, _, _, hl, hlen, hf⟩ := DataW.trod_struct Tryz.underlying43 h
  rw [Tryz.cellsE] at hl
  match cs, hl, xs, hlen with
  | [c0, c1, c2, c3, c4, c5], _, [y0, y1, y2, y3, y4, y5], _ =>
    have f0 := hf 0 _ rfl
    have f1 := hf 1 _ rfl
    have f2 := hf 2 _ rfl
    have f3 := hf 3 _ rfl
    have f4 := hf 4 _ rfl
    have f5 := hf 5 _ rfl
    simp [Tryz.cells3, Tryz.cells9, Tryz.cellsI] at f0 f1 f2 f3 f4 f5
    obtain ⟨k, e0, _⟩ := DataW.trod_int Tryz.underlying3 f0
    obtain ⟨c, e1, _⟩ := DataW.trod_int Tryz.underlying3 f1
    obtain ⟨q, e2, _⟩ := DataW.trod_int Tryz.underlying3 f2
    obtain ⟨t, e3, _, ht⟩ := DataW.trod_string Tryz.underlying9 f3
    obtain ⟨ao, m, cap, ys, e4, hy⟩ := ints_trod f4
    obtain ⟨z, e5, _⟩ := DataW.trod_int Tryz.underlying3 f5
    simp only [List.cons.injEq, and_true] at e0 e1 e2 e3 e4 e5
    obtain rfl := hy.len
    exact ⟨⟨k, c, q, t, ys, z⟩, ao, cap, by rw [e0, e1, e2, e3, e4, e5], hy, ht⟩

set_option maxRecDepth 100000 in
theorem ents_trod (h : DataW.trod enc Tryz.prog W 0 (fun _ => true) true fuel 48 cs = some x) : ∃ ao n cap es, cs = [.slice ao n cap] ∧ es.length = n ∧ n ≤ cap ∧ cap ≤ maxLen ∧ (ao = none → cap = 0) ∧ EntsAt W ao es := by
  rcases DataW.trod_slice Tryz.underlying48 h with ⟨hcs, _⟩ | ⟨a, len, cap, elems, rest, n, _, hcs, _, _, hl, hm, hlen, hel, _, _⟩
  · exact ⟨none, 0, 0, [], hcs, rfl, Nat.le_refl _, by decide, fun _ => rfl, fun j hj => by simp at hj⟩
  · have each : ∀ i, ∃ e : En, i < len → ∃ r cx, (∀ j u, ([.int .i64 e.kind, .int .i64 e.client, .int .i64 e.seq, .string e.text, .slice r e.ms.length cx, .int .i64 e.to] : List Value)[j]? = some u → W.cell? ((a.add (i * 6)).add j) = some u) ∧ IntsAt W r e.ms.length cx e.ms ∧ e.text.size ≤ maxLen := by
      intro i
      by_cases hi : i < len
      · have h1 := hel i hi
        rw [Tryz.cellsE, List.getElem?_eq_getElem (by omega)] at h1
        obtain ⟨ci, hc, ht⟩ := Option.bind_eq_some_iff.1 h1
        obtain ⟨e, ao, cx, rfl, hy, hs⟩ := entry_trod ht
        refine ⟨e, fun _ => ⟨ao, cx, fun j u hj => ?_, hy, hs⟩⟩
        have h6 : j < 6 := by
          by_cases h6 : j < 6
          · exact h6
          · rw [List.getElem?_eq_none (by simpa using h6)] at hj; cases hj
        exact ((World.cells?_some hc).2.2 j h6).trans hj
      · exact ⟨default, fun h => absurd h hi⟩
    obtain ⟨f, hf⟩ := Classical.axiomOfChoice each
    refine ⟨some a, len, cap, (List.range len).map f, hcs, by simp, hl, hm, (fun h => by cases h), fun i hi => ?_⟩
    rw [List.length_map, List.length_range] at hi
    have hg : ((List.range len).map f).getD i default = f i := by simp [List.getD_eq_getElem?_getD, hi]
    rw [hg]
    have hsp : a.spot = none := by
      obtain ⟨r, cx, hc, _⟩ := hf 0 (by omega)
      have := World.cell?_spot (hc 0 _ rfl)
      simpa [Addr.add] using this
    obtain ⟨blk, off, sp⟩ := a
    simp only at hsp
    subst hsp
    obtain ⟨r, cx, hc, hy, ht⟩ := hf i hi
    have hc' : ∀ j u, ([.int .i64 (f i).kind, .int .i64 (f i).client, .int .i64 (f i).seq, .string (f i).text, .slice r (f i).ms.length cx, .int .i64 (f i).to] : List Value)[j]? = some u → W.cell? ⟨blk, off + i * 6 + j, none⟩ = some u := fun j u hj => by
      have := hc j u hj
      rw [Addr.add_lit, Addr.add_lit] at this
      exact this
    exact ⟨blk, off, r, cx, rfl, hc' 0 _ rfl, hc' 1 _ rfl, hc' 2 _ rfl, hc' 3 _ rfl, hc' 4 _ rfl, hc' 5 _ rfl, hy.are, ht, hy.room, hy.big, hy.nul⟩

set_option maxRecDepth 100000 in
theorem msg_trod (h : DataW.trod enc Tryz.prog W 0 (fun _ => true) true fuel 50 cs = some x) :
    ∃ (x0 x1 x2 x3 x4 x5 x6 x7 : Int) (y : Bool) (aot aoe aoo aon : Option Addr) (nt ct ne ce no co nn cn : Nat) (ts : List Int) (es : List En) (os ns : List Int),
      cs = [.int .i64 x0, .int .i64 x1, .int .i64 x2, .int .i64 x3, .int .i64 x4, .int .i64 x5, .int .i64 x6, .int .i64 x7, .bool y, .slice aot nt ct, .slice aoe ne ce, .slice aoo no co, .slice aon nn cn] ∧
      IntsAt W aot nt ct ts ∧ (es.length = ne ∧ ne ≤ ce ∧ ce ≤ maxLen ∧ (aoe = none → ce = 0) ∧ EntsAt W aoe es) ∧ IntsAt W aoo no co os ∧ IntsAt W aon nn cn ns := by
  obtain ⟨xs, n, _, _, hl, hlen, hf⟩ := DataW.trod_struct Tryz.underlying50 h
  rw [Tryz.cellsM] at hl
  match cs, hl, xs, hlen with
  | [c0, c1, c2, c3, c4, c5, c6, c7, c8, c9, c10, c11, c12], _, [y0, y1, y2, y3, y4, y5, y6, y7, y8, y9, y10, y11], _ =>
    have f0 := hf 0 _ rfl
    have f1 := hf 1 _ rfl
    have f2 := hf 2 _ rfl
    have f3 := hf 3 _ rfl
    have f4 := hf 4 _ rfl
    have f5 := hf 5 _ rfl
    have f6 := hf 6 _ rfl
    have f7 := hf 7 _ rfl
    have f8 := hf 8 _ rfl
    have f9 := hf 9 _ rfl
    have f10 := hf 10 _ rfl
    have f11 := hf 11 _ rfl
    simp [Tryz.cells3, Tryz.cellsB, Tryz.cellsI, Tryz.cellsS, Tryz.cellsC] at f0 f1 f2 f3 f4 f5 f6 f7 f8 f9 f10 f11
    obtain ⟨x0, e0, _⟩ := DataW.trod_int Tryz.underlying3 f0
    obtain ⟨x1, e1, _⟩ := DataW.trod_int Tryz.underlying3 f1
    obtain ⟨x2, e2, _⟩ := DataW.trod_int Tryz.underlying3 f2
    obtain ⟨x3, e3, _⟩ := DataW.trod_int Tryz.underlying3 f3
    obtain ⟨x4, e4, _⟩ := DataW.trod_int Tryz.underlying3 f4
    obtain ⟨x5, e5, _⟩ := DataW.trod_int Tryz.underlying3 f5
    obtain ⟨x6, e6, _⟩ := DataW.trod_int Tryz.underlying3 f6
    obtain ⟨x7, e7, _⟩ := DataW.trod_int Tryz.underlying3 f7
    obtain ⟨y, e8, _⟩ := DataW.trod_bool Tryz.underlying4 f8
    obtain ⟨aot, nt, ct, ts, e9, ht⟩ := ints_trod f9
    obtain ⟨aoe, ne, ce, es, e10, he⟩ := ents_trod f10
    obtain ⟨zs, m, _, _, _, hlz, hz⟩ := DataW.trod_struct Tryz.underlying26 f11
    match zs, hlz with
    | [z0, z1], _ =>
      have g0 := hz 0 _ rfl
      have g1 := hz 1 _ rfl
      simp [Tryz.cellsI] at g0 g1
      obtain ⟨aoo, no, co, os, e11, ho⟩ := ints_trod g0
      obtain ⟨aon, nn, cn, ns, e12, hn⟩ := ints_trod g1
      simp only [List.cons.injEq, and_true] at e0 e1 e2 e3 e4 e5 e6 e7 e8 e9 e10 e11 e12
      exact ⟨x0, x1, x2, x3, x4, x5, x6, x7, y, aot, aoe, aoo, aon, nt, ct, ne, ce, no, co, nn, cn, ts, es, os, ns, by rw [e0, e1, e2, e3, e4, e5, e6, e7, e8, e9, e10, e11, e12], ht, he, ho, hn⟩
end

set_option maxRecDepth 100000 in
theorem entry_open {H : Type} {enc : TypeId × Value → H} {W : World} {base : Nat} {v : Value} {d : DataW H} {p : List MemPlace} (hv : Value.okWide Tryz.prog W .any base 43 v)
    (h : DataW.Trod enc Tryz.prog W 0 (fun _ => true) true 43 v d p) : ∃ (e : En) (ao : Option Addr) (cap : Nat), v = .agg #[.int .i64 e.kind, .int .i64 e.client, .int .i64 e.seq, .string e.text, .slice ao e.ms.length cap, .int .i64 e.to] ∧ IntsAt W ao e.ms.length cap e.ms ∧ e.text.size ≤ maxLen := by
  obtain ⟨cs, rfl, _⟩ := okWide_struct Tryz.underlying43 hv
  obtain ⟨fuel, hf⟩ := h
  obtain ⟨e, ao, cap, hc, hy, ht⟩ := entry_trod hf
  refine ⟨e, ao, cap, ?_, hy, ht⟩
  simp only [Value.cells] at hc
  rw [← hc]

set_option maxRecDepth 100000 in
theorem msg_open {H : Type} {enc : TypeId × Value → H} {W : World} {base : Nat} {v : Value} {d : DataW H} {p : List MemPlace} (hv : Value.okWide Tryz.prog W .any base 50 v)
    (h : DataW.Trod enc Tryz.prog W 0 (fun _ => true) true 50 v d p) : ∃ (x0 x1 x2 x3 x4 x5 x6 x7 : Int) (y : Bool) (aot aoe aoo aon : Option Addr) (nt ct ne ce no co nn cn : Nat) (ts : List Int) (es : List En) (os ns : List Int),
      v = .agg #[.int .i64 x0, .int .i64 x1, .int .i64 x2, .int .i64 x3, .int .i64 x4, .int .i64 x5, .int .i64 x6, .int .i64 x7, .bool y, .slice aot nt ct, .slice aoe ne ce, .slice aoo no co, .slice aon nn cn] ∧
      IntsAt W aot nt ct ts ∧ (es.length = ne ∧ ne ≤ ce ∧ ce ≤ maxLen ∧ (aoe = none → ce = 0) ∧ EntsAt W aoe es) ∧ IntsAt W aoo no co os ∧ IntsAt W aon nn cn ns := by
  obtain ⟨cs, rfl, _⟩ := okWide_struct Tryz.underlying50 hv
  obtain ⟨fuel, hf⟩ := h
  obtain ⟨x0, x1, x2, x3, x4, x5, x6, x7, y, aot, aoe, aoo, aon, nt, ct, ne, ce, no, co, nn, cn, ts, es, os, ns, hc, h1, h2, h3, h4⟩ := msg_trod hf
  refine ⟨x0, x1, x2, x3, x4, x5, x6, x7, y, aot, aoe, aoo, aon, nt, ct, ne, ce, no, co, nn, cn, ts, es, os, ns, ?_, h1, h2, h3, h4⟩
  simp only [Value.cells] at hc
  rw [← hc]
end Go.Proofs.YtjplhiflemmkfaaGreatDoor
namespace Go.Proofs.YtjplhiflemmkfaaGreatDoor
open Go.RowKit

theorem IntsAt.ints {w w1 : World} {ao : Option Addr} {n cap b : Nat} {ys : List Int} {ts : List TypeId} (h : IntsAt w ao n cap ys) (hb : w.heap.size ≤ b) (hw : Below w.heap.size w w1) : Ints b ts w1 ao ys := fun i hi => by
  obtain ⟨a, ea, hc⟩ := h.are i hi
  have hlt := blk_lt hc
  exact ⟨a, ea, by rw [hw.cell hlt]; exact hc, Or.inl (by rw [add_block] at hlt; omega)⟩
theorem EntsAt.ents {w w1 : World} {ao : Option Addr} {b : Nat} {es : List En} {ts : List TypeId} (h : EntsAt w ao es) (hb : w.heap.size ≤ b) (hw : Below w.heap.size w w1) : Ents b ts w1 ao es := fun i hi => by
  obtain ⟨blk, off, r, cx, e, h0, h1, h2, h3, h4, h5, hm, ht, _⟩ := h i hi
  have hc : ∀ a u, w.cell? a = some u → w1.cell? a = some u := fun a u h => by rw [hw.cell (blk_lt h)]; exact h
  refine ⟨blk, off, r, cx, e, hc _ _ h0, hc _ _ h1, hc _ _ h2, hc _ _ h3, hc _ _ h4, hc _ _ h5, fun j hj => ?_, ht, Or.inl (by have := blk_lt h0; simp only at this; omega)⟩
  obtain ⟨a, ea, hh⟩ := hm j hj
  have hlt := blk_lt hh
  exact ⟨a, ea, hc _ _ hh, Or.inl (by rw [add_block] at hlt; omega)⟩
theorem EntsAt.take {w : World} {ao : Option Addr} {es : List En} (h : EntsAt w ao es) (k : Nat) : EntsAt w ao (es.take k) := fun i hi => by
  rw [List.length_take] at hi
  have e : (es.take k).getD i default = es.getD i default := by simp [List.getD_eq_getElem?_getD, List.getElem?_take_of_lt (show i < k by omega)]
  rw [e]; exact h i (by omega)
theorem refuse_ok {q : Nat} {n : Int} (h1 : ((rule q).1 : Int) ≤ n) (h2 : n ≤ ((rule q).2.1 : Int)) : refuse q n = 0 := by unfold refuse; rw [if_neg (by omega)]
theorem goodE_ok (e : En) : (goodE e).ok := by
  have ht := goodT_size e.text
  refine ⟨refuse_ok (show (0 : Int) ≤ e.kind % 5 by omega) (show e.kind % 5 ≤ 4 by omega), refuse_ok (show (0 : Int) ≤ ((goodT e.text).size : Nat) by omega) (show (((goodT e.text).size : Nat) : Int) ≤ 16 by omega), ?_, refuse_ok (show (0 : Int) ≤ e.to % 3 by omega) (show e.to % 3 ≤ 2 by omega)⟩
  have h9 : (goodE e).ms.length ≤ 9 := by simp only [goodE, List.length_take]; omega
  exact refuse_ok (show (0 : Int) ≤ (((goodE e).ms.length : Nat) : Int) by omega) (show (((goodE e).ms.length : Nat) : Int) ≤ 9 by omega)
theorem len_ok6 {n : Nat} (h : n ≤ 64) : refuse 6 (n : Int) = 0 := refuse_ok (show (0 : Int) ≤ (n : Int) by omega) (show (n : Int) ≤ 64 by omega)
theorem len_ok5 {n : Nat} (h : n ≤ 9) : refuse 5 (n : Int) = 0 := refuse_ok (show (0 : Int) ≤ (n : Int) by omega) (show (n : Int) ≤ 9 by omega)
theorem kind_ok (x : Int) : refuse 2 (1 + x % 15) = 0 := refuse_ok (show (1 : Int) ≤ 1 + x % 15 by omega) (show 1 + x % 15 ≤ 15 by omega)
theorem ok6_len {n : Nat} (h : refuse 6 (n : Int) = 0) : n ≤ 64 := by have := (refuse_range h).2; omega

/-! ### bytes of a message, of an entry -/
def MsgBytes (A : List Nat) : Prop := ∃ m : Mg, m.ok ∧ m.bytes = A
def EntBytes (A : List Nat) : Prop := ∃ e : En, e.ok ∧ e.bytes = A
theorem EntBytes.len {A : List Nat} (h : EntBytes A) : 0 < A.length ∧ A.length ≤ 100000 := by
  obtain ⟨e, he, rfl⟩ := h
  have h1 := putE_len e ([], 0)
  rw [putE_ok he] at h1
  refine ⟨by simp [En.bytes], ?_⟩
  simp only [List.nil_append, List.length_nil] at h1
  omega
theorem MsgBytes.len {A : List Nat} (h : MsgBytes A) : 0 < A.length ∧ A.length ≤ 100000 := by
  obtain ⟨m, hm, rfl⟩ := h
  have e := put_ok hm []
  have h1 : (m.put ([], 0)).1.length ≤ 100000 := by
    unfold Mg.put putMsg putConfig
    have a1 := putInts_len [m.src, m.to, m.gen] ([], 0)
    have a2 := putRule_len 2 m.kind (putInts [m.src, m.to, m.gen] ([], 0))
    have a3 := putInts_len [m.term, m.index, m.last, m.commit] (putRule 2 m.kind (putInts [m.src, m.to, m.gen] ([], 0)))
    generalize putInts [m.term, m.index, m.last, m.commit] (putRule 2 m.kind (putInts [m.src, m.to, m.gen] ([], 0))) = s3 at *
    have a4 := putRule_len 3 (bitOf m.yes) s3
    generalize putRule 3 (bitOf m.yes) s3 = s4 at *
    have a5 := putList_len 6 m.terms s4
    generalize putList 6 m.terms s4 = s5 at *
    have a6 := putEntries_len m.es s5
    generalize putEntries m.es s5 = s6 at *
    have a7 := putList_len 5 m.old s6
    generalize putList 5 m.old s6 = s7 at *
    have a8 := putList_len 5 m.new s7
    simp only [List.length_nil, List.length_cons] at a1 a3
    omega
  rw [e] at h1
  refine ⟨by simp [Mg.bytes, num8, be8], ?_⟩
  simpa using h1

/-- bytes that stand in memory. -/
structure Has (w : World) (a : Addr) (n cap : Nat) (A : List Nat) : Prop where
  len : A.length = n
  room : n ≤ cap
  big : cap ≤ maxLen
  are : Bytes w (some a) A
theorem Has.below {w w' : World} {a : Addr} {n cap : Nat} {A : List Nat} (h : Has w a n cap A) (hb : Below w.heap.size w w') : Has w' a n cap A := ⟨h.len, h.room, h.big, h.are.below hb⟩
theorem own_has {base : Nat} {w : World} {v : Value} {A : List Nat} (h : Own base w v A) (hA : 0 < A.length) : ∃ a cap, v = .slice (some a) A.length cap ∧ Has w a A.length cap A := by
  obtain ⟨ao, cap, rfl, hl, hm, hb, hn, _⟩ := h.slice
  cases ao with
  | none => have := hn rfl; omega
  | some a => exact ⟨a, cap, rfl, rfl, hl, hm, hb⟩

theorem parseMsg_front {A : List Nat} (hA : MsgBytes A) {a : Addr} {n cap : Nat} {w : World} (h : Has w a n cap A) (hS : Start w) (k : Nat) (hk : k < n) :
    Calls Tryz.prog 227 #[.slice (some a) k cap] w fun e w' => e = .returned (.tuple #[.agg #[.int .i64 0, .int .i64 0, .int .i64 0, .int .i64 0, .int .i64 0, .int .i64 0, .int .i64 0, .int .i64 0, .bool false, .slice none 0 0, .slice none 0 0, .slice none 0 0, .slice none 0 0], .int .i64 8]) ∧ Below w.heap.size w w' := by
  have hl := hA.len.2
  have hln := h.len
  obtain ⟨m, hm, rfl⟩ := hA
  have hc := cut_told (msgR_reads hm) k (by omega)
  refine (parseMsg_any (some a) k cap (m.bytes.take k) w ⟨by rw [List.length_take]; omega, by have := h.room; omega, (fun h => by cases h), by omega, h.are.take k⟩ hS).mono ?_
  rintro e w' ⟨cs, rfl, hb, _, hz⟩
  have hc' : (rend k (rmsg (m.bytes.take k) (0, 0)).2).2 = 8 := hc
  rw [hc'] at hz ⊢
  rw [hz (by decide)]
  exact ⟨rfl, hb⟩
theorem parseMsg_more {A : List Nat} (hA : MsgBytes A) {ao : Option Addr} {n cap : Nat} {w : World} {base : Nat} (hn : A.length = n) (h : Own base w (.slice ao (n + 1) cap) (A ++ [0])) (hS : Start w) :
    Calls Tryz.prog 227 #[.slice ao (n + 1) cap] w fun e w' => e = .returned (.tuple #[.agg #[.int .i64 0, .int .i64 0, .int .i64 0, .int .i64 0, .int .i64 0, .int .i64 0, .int .i64 0, .int .i64 0, .bool false, .slice none 0 0, .slice none 0 0, .slice none 0 0, .slice none 0 0], .int .i64 9]) ∧ Below w.heap.size w w' := by
  have hl := hA.len.2
  obtain ⟨m, hm, rfl⟩ := hA
  subst hn
  have hc := more_told (msgR_reads hm) 0
  obtain ⟨ao', cap', e1, hr, _, hb, hnul, _⟩ := h.slice
  simp only [Value.slice.injEq] at e1
  obtain ⟨rfl, _, rfl⟩ := e1
  refine (parseMsg_any ao (m.bytes.length + 1) cap (m.bytes ++ [0]) w ⟨by simp, by simpa using hr, hnul, by omega, hb⟩ hS).mono ?_
  rintro e w' ⟨cs, rfl, hb, _, hz⟩
  have hc' : (rend (m.bytes.length + 1) (rmsg (m.bytes ++ [0]) (0, 0)).2).2 = 9 := hc
  rw [hc'] at hz ⊢
  rw [hz (by decide)]
  exact ⟨rfl, hb⟩
/-! ### the two boxes -/
/-- all blocks but the two boxes are as they were. -/
def Same (b : Nat) (w w' : World) : Prop := ∀ k, k < w.heap.size → k ≠ b → k ≠ b + 1 → w'.heap[k]? = w.heap[k]?
theorem Same.refl (b : Nat) (w : World) : Same b w w := fun _ _ _ _ => rfl
theorem Same.trans {b : Nat} {w1 w2 w3 : World} (h : Same b w1 w2) (h' : Same b w2 w3) : Same b w1 w3 := fun k hk n1 n2 => by
  have e := h k hk n1 n2
  have hk2 : k < w2.heap.size := by
    by_cases h2 : k < w2.heap.size
    · exact h2
    · rw [Array.getElem?_eq_none (by omega), Array.getElem?_eq_getElem hk] at e; cases e
  rw [h' k hk2 n1 n2, e]
theorem Same.below {b : Nat} {w w' : World} (h : Below w.heap.size w w') : Same b w w' := fun k hk _ _ => h.block k hk
theorem Same.kept {b c base : Nat} {w w' : World} (h : Kept base (fun k => k = c) w w') (hc : c = b ∨ c = b + 1) : Same b w w' := fun k hk n1 n2 => h.2 k hk (by omega)
theorem Same.drew {b : Nat} {w w' : World} (h : Same b w w') : Same b w w'.drew := h
theorem Same.cell {b : Nat} {w w' : World} (h : Same b w w') {a : Addr} {u : Value} (hc : w.cell? a = some u) (n1 : a.block ≠ b) (n2 : a.block ≠ b + 1) : w'.cell? a = some u := by
  rw [World.cell?_of_block (w := w) (a := a) (h _ (blk_lt hc) n1 n2)]; exact hc
/-- what lies below the boxes stays. -/
theorem IntsAt.same {b : Nat} {w0 w w' : World} {ao : Option Addr} {n cap : Nat} {ys : List Int} (h : IntsAt w0 ao n cap ys) (hb : w0.heap.size ≤ b) (h0 : Below w0.heap.size w0 w) (hs : Same b w w') : IntsAt w' ao n cap ys :=
  ⟨h.len, h.room, h.big, h.nul, fun j hj => by
    obtain ⟨a, ea, hc⟩ := h.are j hj
    have hlt := blk_lt hc
    exact ⟨a, ea, hs.cell (by rw [h0.cell hlt]; exact hc) (by omega) (by omega)⟩⟩
/-- entries in a row of the call's own, their lists below. -/
theorem six_same {b : Nat} {w0 w w' : World} {vs : List Value} {gs : List En} {base n cap : Nat} {ao : Option Addr} (h : Six w0 vs gs) (hn : gs.length = n) (hb : w0.heap.size ≤ b) (hbase : b + 2 ≤ base) (h0 : Below w0.heap.size w0 w) (ho : w.ownsRow base 43 6 (.slice ao n cap) n vs) (hs : Same b w w') : EntsAt w' ao gs :=
  h.at hn (own_kept ho fun k hk => hs k (ho.lt k hk).2 (by have := (ho.lt k hk).1; omega) (by have := (ho.lt k hk).1; omega)) (fun a u hc => by
    have hlt := blk_lt hc
    exact hs.cell (by rw [h0.cell hlt]; exact hc) (by omega) (by omega))

structure MsgAt (w : World) (b : Nat) (m : Mg) (aot aoe aoo aon : Option Addr) (ct ce co cn : Nat) : Prop where
  box : w.heap[b]? = some (.cells #[.int .i64 m.src, .int .i64 m.to, .int .i64 m.gen, .int .i64 m.kind, .int .i64 m.term, .int .i64 m.index, .int .i64 m.last, .int .i64 m.commit, .bool m.yes, .slice aot m.terms.length ct, .slice aoe m.es.length ce, .slice aoo m.old.length co, .slice aon m.new.length cn] 50 (0, 0))
  ok : m.ok
  room : m.es.length ≤ ce ∧ ce ≤ maxLen ∧ (aoe = none → ce = 0)
  t : ∀ w', Same b w w' → IntsAt w' aot m.terms.length ct m.terms
  e : ∀ w', Same b w w' → EntsAt w' aoe m.es
  o : ∀ w', Same b w w' → IntsAt w' aoo m.old.length co m.old
  n : ∀ w', Same b w w' → IntsAt w' aon m.new.length cn m.new
structure EntAt (w : World) (b : Nat) (e : En) (ao : Option Addr) (cap : Nat) : Prop where
  box : w.heap[b + 1]? = some (.cells #[.int .i64 e.kind, .int .i64 e.client, .int .i64 e.seq, .string e.text, .slice ao e.ms.length cap, .int .i64 e.to] 43 (0, 0))
  ok : e.ok
  size : e.text.size ≤ maxLen
  i : ∀ w', Same b w w' → IntsAt w' ao e.ms.length cap e.ms
def BothAt (w : World) (b : Nat) : Prop := (∃ m aot aoe aoo aon ct ce co cn, MsgAt w b m aot aoe aoo aon ct ce co cn) ∧ ∃ e ao cap, EntAt w b e ao cap
theorem MsgAt.below {w w' : World} {b : Nat} {m : Mg} {aot aoe aoo aon : Option Addr} {ct ce co cn : Nat} (h : MsgAt w b m aot aoe aoo aon ct ce co cn) (hb : Below w.heap.size w w') : MsgAt w' b m aot aoe aoo aon ct ce co cn :=
  ⟨(hb.block _ (heap_lt h.box)).trans h.box, h.ok, h.room, fun x hx => h.t x ((Same.below hb).trans hx), fun x hx => h.e x ((Same.below hb).trans hx), fun x hx => h.o x ((Same.below hb).trans hx), fun x hx => h.n x ((Same.below hb).trans hx)⟩
theorem EntAt.same {w w' : World} {b : Nat} {e : En} {ao : Option Addr} {cap : Nat} (h : EntAt w b e ao cap) (hs : Same b w w') (hb : w'.heap[b + 1]? = w.heap[b + 1]?) : EntAt w' b e ao cap :=
  ⟨hb.trans h.box, h.ok, h.size, fun x hx => h.i x (hs.trans hx)⟩
/-- fewer entries. -/
theorem MsgAt.ents {w w' : World} {b : Nat} {m : Mg} {aot aoe aoo aon : Option Addr} {ct ce co cn : Nat} (h : MsgAt w b m aot aoe aoo aon ct ce co cn) (k : Nat) (hk : k ≤ m.es.length) (hs : Same b w w') (hb : w'.heap[b]? = some (.cells #[.int .i64 m.src, .int .i64 m.to, .int .i64 m.gen, .int .i64 m.kind, .int .i64 m.term, .int .i64 m.index, .int .i64 m.last, .int .i64 m.commit, .bool m.yes, .slice aot m.terms.length ct, .slice aoe k ce, .slice aoo m.old.length co, .slice aon m.new.length cn] 50 (0, 0))) :
    MsgAt w' b { m with es := m.es.take k } aot aoe aoo aon ct ce co cn := by
  have e3 : (m.es.take k).length = k := by rw [List.length_take]; omega
  refine ⟨by simp only [e3]; exact hb, ⟨h.ok.kind, h.ok.terms, ?_, h.ok.old, h.ok.new, fun e he => h.ok.eachE e (List.mem_of_mem_take he)⟩, ⟨by simp only [e3]; exact Nat.le_trans hk h.room.1, h.room.2⟩, fun x hx => h.t x (hs.trans hx), fun x hx => (h.e x (hs.trans hx)).take k, fun x hx => h.o x (hs.trans hx), fun x hx => h.n x (hs.trans hx)⟩
  simp only [e3]
  have := ok6_len h.ok.es
  exact len_ok6 (by omega)
/-- fewer terms. -/
theorem MsgAt.terms {w w' : World} {b : Nat} {m : Mg} {aot aoe aoo aon : Option Addr} {ct ce co cn : Nat} (h : MsgAt w b m aot aoe aoo aon ct ce co cn) (k : Nat) (hk : k ≤ m.terms.length) (hs : Same b w w') (hb : w'.heap[b]? = some (.cells #[.int .i64 m.src, .int .i64 m.to, .int .i64 m.gen, .int .i64 m.kind, .int .i64 m.term, .int .i64 m.index, .int .i64 m.last, .int .i64 m.commit, .bool m.yes, .slice aot k ct, .slice aoe m.es.length ce, .slice aoo m.old.length co, .slice aon m.new.length cn] 50 (0, 0))) :
    MsgAt w' b { m with terms := m.terms.take k } aot aoe aoo aon ct ce co cn := by
  have e3 : (m.terms.take k).length = k := by rw [List.length_take]; omega
  refine ⟨by simp only [e3]; exact hb, ⟨h.ok.kind, ?_, h.ok.es, h.ok.old, h.ok.new, h.ok.eachE⟩, h.room, fun x hx => ?_, fun x hx => h.e x (hs.trans hx), fun x hx => h.o x (hs.trans hx), fun x hx => h.n x (hs.trans hx)⟩
  · simp only [e3]
    have := ok6_len h.ok.terms
    exact len_ok6 (by omega)
  · have h1 := (h.t x (hs.trans hx)).take k
    simp only [e3]
    rw [Nat.min_eq_right hk] at h1
    exact h1
theorem chain13 {y W : World} {b : Nat} {v0 v1 v2 v3 v4 v5 v6 v7 v8 v9 v10 v11 v12 z0 z1 z2 z3 z4 z5 z6 z7 z8 z9 z10 z11 z12 : Value} (hz : y.heap[b]? = some (.cells #[z0, z1, z2, z3, z4, z5, z6, z7, z8, z9, z10, z11, z12] 50 (0, 0))) (hW : W = (((((((((((((y.setCell ⟨b, 0, none⟩ v0).setCell ⟨b, 1, none⟩ v1).setCell ⟨b, 2, none⟩ v2).setCell ⟨b, 3, none⟩ v3).setCell ⟨b, 4, none⟩ v4).setCell ⟨b, 5, none⟩ v5).setCell ⟨b, 6, none⟩ v6).setCell ⟨b, 7, none⟩ v7).setCell ⟨b, 8, none⟩ v8).setCell ⟨b, 9, none⟩ v9).setCell ⟨b, 10, none⟩ v10).setCell ⟨b, 11, none⟩ v11).setCell ⟨b, 12, none⟩ v12)) : W.heap[b]? = some (.cells #[v0, v1, v2, v3, v4, v5, v6, v7, v8, v9, v10, v11, v12] 50 (0, 0)) ∧ Kept b (fun k => k = b) y W := by
  rw [hW]
  have q0 : (y.setCell ⟨b, 0, none⟩ v0).heap[b]? = some (.cells #[v0, z1, z2, z3, z4, z5, z6, z7, z8, z9, z10, z11, z12] 50 (0, 0)) := setCell_block hz
  have q1 : ((y.setCell ⟨b, 0, none⟩ v0).setCell ⟨b, 1, none⟩ v1).heap[b]? = some (.cells #[v0, v1, z2, z3, z4, z5, z6, z7, z8, z9, z10, z11, z12] 50 (0, 0)) := setCell_block q0
  have q2 : (((y.setCell ⟨b, 0, none⟩ v0).setCell ⟨b, 1, none⟩ v1).setCell ⟨b, 2, none⟩ v2).heap[b]? = some (.cells #[v0, v1, v2, z3, z4, z5, z6, z7, z8, z9, z10, z11, z12] 50 (0, 0)) := setCell_block q1
  have q3 : ((((y.setCell ⟨b, 0, none⟩ v0).setCell ⟨b, 1, none⟩ v1).setCell ⟨b, 2, none⟩ v2).setCell ⟨b, 3, none⟩ v3).heap[b]? = some (.cells #[v0, v1, v2, v3, z4, z5, z6, z7, z8, z9, z10, z11, z12] 50 (0, 0)) := setCell_block q2
  have q4 : (((((y.setCell ⟨b, 0, none⟩ v0).setCell ⟨b, 1, none⟩ v1).setCell ⟨b, 2, none⟩ v2).setCell ⟨b, 3, none⟩ v3).setCell ⟨b, 4, none⟩ v4).heap[b]? = some (.cells #[v0, v1, v2, v3, v4, z5, z6, z7, z8, z9, z10, z11, z12] 50 (0, 0)) := setCell_block q3
  have q5 : ((((((y.setCell ⟨b, 0, none⟩ v0).setCell ⟨b, 1, none⟩ v1).setCell ⟨b, 2, none⟩ v2).setCell ⟨b, 3, none⟩ v3).setCell ⟨b, 4, none⟩ v4).setCell ⟨b, 5, none⟩ v5).heap[b]? = some (.cells #[v0, v1, v2, v3, v4, v5, z6, z7, z8, z9, z10, z11, z12] 50 (0, 0)) := setCell_block q4
  have q6 : (((((((y.setCell ⟨b, 0, none⟩ v0).setCell ⟨b, 1, none⟩ v1).setCell ⟨b, 2, none⟩ v2).setCell ⟨b, 3, none⟩ v3).setCell ⟨b, 4, none⟩ v4).setCell ⟨b, 5, none⟩ v5).setCell ⟨b, 6, none⟩ v6).heap[b]? = some (.cells #[v0, v1, v2, v3, v4, v5, v6, z7, z8, z9, z10, z11, z12] 50 (0, 0)) := setCell_block q5
  have q7 : ((((((((y.setCell ⟨b, 0, none⟩ v0).setCell ⟨b, 1, none⟩ v1).setCell ⟨b, 2, none⟩ v2).setCell ⟨b, 3, none⟩ v3).setCell ⟨b, 4, none⟩ v4).setCell ⟨b, 5, none⟩ v5).setCell ⟨b, 6, none⟩ v6).setCell ⟨b, 7, none⟩ v7).heap[b]? = some (.cells #[v0, v1, v2, v3, v4, v5, v6, v7, z8, z9, z10, z11, z12] 50 (0, 0)) := setCell_block q6
  have q8 : (((((((((y.setCell ⟨b, 0, none⟩ v0).setCell ⟨b, 1, none⟩ v1).setCell ⟨b, 2, none⟩ v2).setCell ⟨b, 3, none⟩ v3).setCell ⟨b, 4, none⟩ v4).setCell ⟨b, 5, none⟩ v5).setCell ⟨b, 6, none⟩ v6).setCell ⟨b, 7, none⟩ v7).setCell ⟨b, 8, none⟩ v8).heap[b]? = some (.cells #[v0, v1, v2, v3, v4, v5, v6, v7, v8, z9, z10, z11, z12] 50 (0, 0)) := setCell_block q7
  have q9 : ((((((((((y.setCell ⟨b, 0, none⟩ v0).setCell ⟨b, 1, none⟩ v1).setCell ⟨b, 2, none⟩ v2).setCell ⟨b, 3, none⟩ v3).setCell ⟨b, 4, none⟩ v4).setCell ⟨b, 5, none⟩ v5).setCell ⟨b, 6, none⟩ v6).setCell ⟨b, 7, none⟩ v7).setCell ⟨b, 8, none⟩ v8).setCell ⟨b, 9, none⟩ v9).heap[b]? = some (.cells #[v0, v1, v2, v3, v4, v5, v6, v7, v8, v9, z10, z11, z12] 50 (0, 0)) := setCell_block q8
  have q10 : (((((((((((y.setCell ⟨b, 0, none⟩ v0).setCell ⟨b, 1, none⟩ v1).setCell ⟨b, 2, none⟩ v2).setCell ⟨b, 3, none⟩ v3).setCell ⟨b, 4, none⟩ v4).setCell ⟨b, 5, none⟩ v5).setCell ⟨b, 6, none⟩ v6).setCell ⟨b, 7, none⟩ v7).setCell ⟨b, 8, none⟩ v8).setCell ⟨b, 9, none⟩ v9).setCell ⟨b, 10, none⟩ v10).heap[b]? = some (.cells #[v0, v1, v2, v3, v4, v5, v6, v7, v8, v9, v10, z11, z12] 50 (0, 0)) := setCell_block q9
  have q11 : ((((((((((((y.setCell ⟨b, 0, none⟩ v0).setCell ⟨b, 1, none⟩ v1).setCell ⟨b, 2, none⟩ v2).setCell ⟨b, 3, none⟩ v3).setCell ⟨b, 4, none⟩ v4).setCell ⟨b, 5, none⟩ v5).setCell ⟨b, 6, none⟩ v6).setCell ⟨b, 7, none⟩ v7).setCell ⟨b, 8, none⟩ v8).setCell ⟨b, 9, none⟩ v9).setCell ⟨b, 10, none⟩ v10).setCell ⟨b, 11, none⟩ v11).heap[b]? = some (.cells #[v0, v1, v2, v3, v4, v5, v6, v7, v8, v9, v10, v11, z12] 50 (0, 0)) := setCell_block q10
  have q12 : (((((((((((((y.setCell ⟨b, 0, none⟩ v0).setCell ⟨b, 1, none⟩ v1).setCell ⟨b, 2, none⟩ v2).setCell ⟨b, 3, none⟩ v3).setCell ⟨b, 4, none⟩ v4).setCell ⟨b, 5, none⟩ v5).setCell ⟨b, 6, none⟩ v6).setCell ⟨b, 7, none⟩ v7).setCell ⟨b, 8, none⟩ v8).setCell ⟨b, 9, none⟩ v9).setCell ⟨b, 10, none⟩ v10).setCell ⟨b, 11, none⟩ v11).setCell ⟨b, 12, none⟩ v12).heap[b]? = some (.cells #[v0, v1, v2, v3, v4, v5, v6, v7, v8, v9, v10, v11, v12] 50 (0, 0)) := setCell_block q11
  exact ⟨q12, ((((((((((((((Kept.refl b (fun k => k = b) y).setCell (p := ⟨b, 0, none⟩) (Nat.le_refl _) rfl v0).setCell (p := ⟨b, 1, none⟩) (Nat.le_refl _) rfl v1).setCell (p := ⟨b, 2, none⟩) (Nat.le_refl _) rfl v2).setCell (p := ⟨b, 3, none⟩) (Nat.le_refl _) rfl v3).setCell (p := ⟨b, 4, none⟩) (Nat.le_refl _) rfl v4).setCell (p := ⟨b, 5, none⟩) (Nat.le_refl _) rfl v5).setCell (p := ⟨b, 6, none⟩) (Nat.le_refl _) rfl v6).setCell (p := ⟨b, 7, none⟩) (Nat.le_refl _) rfl v7).setCell (p := ⟨b, 8, none⟩) (Nat.le_refl _) rfl v8).setCell (p := ⟨b, 9, none⟩) (Nat.le_refl _) rfl v9).setCell (p := ⟨b, 10, none⟩) (Nat.le_refl _) rfl v10).setCell (p := ⟨b, 11, none⟩) (Nat.le_refl _) rfl v11).setCell (p := ⟨b, 12, none⟩) (Nat.le_refl _) rfl v12)⟩
theorem chain6 {y W : World} {b : Nat} {v0 v1 v2 v3 v4 v5 z0 z1 z2 z3 z4 z5 : Value} (hz : y.heap[b]? = some (.cells #[z0, z1, z2, z3, z4, z5] 43 (0, 0))) (hW : W = ((((((y.setCell ⟨b, 0, none⟩ v0).setCell ⟨b, 1, none⟩ v1).setCell ⟨b, 2, none⟩ v2).setCell ⟨b, 3, none⟩ v3).setCell ⟨b, 4, none⟩ v4).setCell ⟨b, 5, none⟩ v5)) : W.heap[b]? = some (.cells #[v0, v1, v2, v3, v4, v5] 43 (0, 0)) ∧ Kept b (fun k => k = b) y W := by
  rw [hW]
  have q0 : (y.setCell ⟨b, 0, none⟩ v0).heap[b]? = some (.cells #[v0, z1, z2, z3, z4, z5] 43 (0, 0)) := setCell_block hz
  have q1 : ((y.setCell ⟨b, 0, none⟩ v0).setCell ⟨b, 1, none⟩ v1).heap[b]? = some (.cells #[v0, v1, z2, z3, z4, z5] 43 (0, 0)) := setCell_block q0
  have q2 : (((y.setCell ⟨b, 0, none⟩ v0).setCell ⟨b, 1, none⟩ v1).setCell ⟨b, 2, none⟩ v2).heap[b]? = some (.cells #[v0, v1, v2, z3, z4, z5] 43 (0, 0)) := setCell_block q1
  have q3 : ((((y.setCell ⟨b, 0, none⟩ v0).setCell ⟨b, 1, none⟩ v1).setCell ⟨b, 2, none⟩ v2).setCell ⟨b, 3, none⟩ v3).heap[b]? = some (.cells #[v0, v1, v2, v3, z4, z5] 43 (0, 0)) := setCell_block q2
  have q4 : (((((y.setCell ⟨b, 0, none⟩ v0).setCell ⟨b, 1, none⟩ v1).setCell ⟨b, 2, none⟩ v2).setCell ⟨b, 3, none⟩ v3).setCell ⟨b, 4, none⟩ v4).heap[b]? = some (.cells #[v0, v1, v2, v3, v4, z5] 43 (0, 0)) := setCell_block q3
  have q5 : ((((((y.setCell ⟨b, 0, none⟩ v0).setCell ⟨b, 1, none⟩ v1).setCell ⟨b, 2, none⟩ v2).setCell ⟨b, 3, none⟩ v3).setCell ⟨b, 4, none⟩ v4).setCell ⟨b, 5, none⟩ v5).heap[b]? = some (.cells #[v0, v1, v2, v3, v4, v5] 43 (0, 0)) := setCell_block q4
  exact ⟨q5, (((((((Kept.refl b (fun k => k = b) y).setCell (p := ⟨b, 0, none⟩) (Nat.le_refl _) rfl v0).setCell (p := ⟨b, 1, none⟩) (Nat.le_refl _) rfl v1).setCell (p := ⟨b, 2, none⟩) (Nat.le_refl _) rfl v2).setCell (p := ⟨b, 3, none⟩) (Nat.le_refl _) rfl v3).setCell (p := ⟨b, 4, none⟩) (Nat.le_refl _) rfl v4).setCell (p := ⟨b, 5, none⟩) (Nat.le_refl _) rfl v5)⟩

theorem encMsg_at {w : World} {b : Nat} {m : Mg} {aot aoe aoo aon : Option Addr} {ct ce co cn : Nat} (h : MsgAt w b m aot aoe aoo aon ct ce co cn) (hS : Start w) :
    Calls Tryz.prog 193 #[.agg #[.int .i64 m.src, .int .i64 m.to, .int .i64 m.gen, .int .i64 m.kind, .int .i64 m.term, .int .i64 m.index, .int .i64 m.last, .int .i64 m.commit, .bool m.yes, .slice aot m.terms.length ct, .slice aoe m.es.length ce, .slice aoo m.old.length co, .slice aon m.new.length cn]] w fun e w' => ∃ A a cap, e = .returned (.tuple #[.slice (some a) A.length cap, .int .i64 0]) ∧ MsgBytes A ∧ Has w' a A.length cap A ∧ Below w.heap.size w w' := by
  have i1 := h.t w (Same.refl _ _)
  have i2 := h.e w (Same.refl _ _)
  have i3 := h.o w (Same.refl _ _)
  have i4 := h.n w (Same.refl _ _)
  have hle := ok6_len h.ok.es
  refine (encodeMsg_any m.src m.to m.gen m.kind m.term m.index m.last m.commit m.yes aot m.terms.length ct m.terms rfl aoe m.es.length ce m.es rfl (by omega) aoo aon m.old.length m.new.length co cn m.old m.new rfl rfl w (fun b w1 _ hb hw => i1.ints hb hw) (fun b w1 _ hb hw => i2.ents hb hw) (fun b w1 _ hb hw => i3.ints hb hw) (fun b w1 _ hb hw => i4.ints hb hw) hS).mono ?_
  have hp : putMsg m.src m.to m.gen m.kind m.term m.index m.last m.commit m.yes m.terms m.es m.old m.new ([], 0) = (m.bytes, 0) := put_ok h.ok []
  rw [hp]
  rintro e w' ⟨v, rfl, ho, hb⟩
  have hA : MsgBytes m.bytes := ⟨m, h.ok, rfl⟩
  have ho' : Own w.heap.size w' v m.bytes := ho
  obtain ⟨a, cap, rfl, hh⟩ := own_has ho' hA.len.1
  exact ⟨m.bytes, a, cap, rfl, hA, hh, hb⟩
/-! ### append of bytes -/
theorem u8s_append (a b : List Nat) : u8s (a ++ b) = u8s a ++ u8s b := by simp [u8s]
theorem own_empty (base : Nat) (w : World) (h : base ≤ w.heap.size) : Own base (w.alloc (.cells #[] 5)) (.slice (some ⟨w.heap.size, 0, none⟩) 0 0) [] :=
  ⟨World.ownsRow_made w #[] 0 h (by decide) rfl, by simp⟩
/-- append onto a row of the call's own, the source bytes that may be nil. -/
theorem wpList_append_bytes {w : World} {ops : Array Oper} {rest : List Oper} {o : Oper} {a : Act} {Q : Exit → Act → World → Prop} (hgd : o.guard = none) (s x : Operand)
    (ho : o.op = .call { callee := .builtin .append, args := #[s, x], argTypes := #[55, 55] }) (base : Nat) (v : Value) (xs : List Nat) (nx : Nat) (hnx : xs.length = nx) (hs : a.eval s = v) (hown : Own base w v xs)
    (ao : Option Addr) (m c : Nat) (bs : List Nat) (hx : a.eval x = .slice ao m c) (hm : bs.length = m) (hby : Bytes w ao bs) (hc : ao = none → c = 0) (hl : nx + m ≤ 1000000000000) (hb : base ≤ w.heap.size)
    (h : ∀ ao' cap' w', Own base w' (.slice ao' (nx + m) cap') (xs ++ bs) → Below base w w' → (∀ k, k < w.heap.size → v.ownBlock ≠ some k → w'.heap[k]? = w.heap[k]?) → wpList Tryz.prog ops Q rest (a.put o.dst (.slice ao' (nx + m) cap')) w') :
    wpList Tryz.prog ops Q (o :: rest) a w := by
  obtain ⟨i0, hi, hz0, hz1, hz2⟩ := info_parts Tryz.info5
  subst hnx
  cases ao with
  | none =>
    obtain rfl := hby.none_nil
    obtain rfl := hc rfl
    obtain rfl : m = 0 := hm.symm
    obtain ⟨aov, capv, rfl, _⟩ := hown.slice
    refine wpList_append_own_none hgd s x 55 ho base 5 i0 1 Tryz.underlying55 hi _ _ _ hs hown.1 hx ?_
    exact h aov capv w (by simpa using hown) (Below.refl _ _) (fun _ _ _ => rfl)
  | some ad =>
    refine wpList_append_own _ hgd s x 55 ho base 5 i0 (.int .u8 0) 1 1 Tryz.underlying55 hi hz0 hz1 hz2 rfl (by decide) _ _ _ hs hown.1 ad m c (u8s bs) hx (by simp [u8s, hm]) hby.news (u8s_one bs) (by unfold maxLen; omega) (by omega) hb ?_
    intro v' w' own' g' _
    have o' : Own base w' v' (xs ++ bs) := by
      refine ⟨?_, ?_⟩
      · rw [List.length_append, hm, u8s_append]; exact own'
      · intro y hy
        rcases List.mem_append.1 hy with h1 | h1
        · exact hown.2 y h1
        · exact hby.1 y h1
    obtain ⟨ao', cap', rfl⟩ : ∃ ao' cap', v' = .slice ao' (xs.length + m) cap' := by
      rcases own'.2 with ⟨rfl, h0⟩ | ⟨gb, cap2, cur, rfl, _⟩
      · exact ⟨none, 0, by rw [h0]⟩
      · exact ⟨_, cap2, rfl⟩
    refine h ao' cap' w' o' ((Below.refl _ _).grown g' hb (fun k hk => (hown.1.lt k hk).1)) (fun k hk hn => ?_)
    obtain ⟨_, _, _, _, hold⟩ := g'
    exact hold k hk (fun e => hn e.symm)

end Go.Proofs.YtjplhiflemmkfaaGreatDoor
namespace Go.Proofs.YtjplhiflemmkfaaGreatDoor
open Go.RowKit

theorem ref_le {q n : Nat} (h : refuse q (n : Int) = 0) : n ≤ (rule q).2.1 := by
  unfold refuse at h
  split at h
  · next hc =>
    exfalso
    have : ∀ q, (rule q).2.2 ≠ 0 := by intro q; unfold rule; split <;> decide
    exact this q h
  · next hc => omega
theorem ent_bytes {e : En} (h : e.ok) : e.bytes.length ≤ 108 := by
  have h2 : e.text.size ≤ 16 := ref_le h.text
  have h3 : e.ms.length ≤ 9 := ref_le h.ms
  have h4 : (bytesOf e.text).length = e.text.size := bytesOf_len _
  unfold En.bytes
  simp only [List.length_append, List.length_cons, List.length_nil, num8_len, nums_len, h4]
  omega
theorem ents_bytes : ∀ es : List En, (∀ e ∈ es, e.ok) → ((es.map En.bytes).flatten).length ≤ 108 * es.length
  | [], _ => by simp
  | e :: es, h => by
    have h1 := ent_bytes (h e (by simp))
    have h2 := ents_bytes es fun x hx => h x (by simp [hx])
    rw [List.map_cons, List.flatten_cons, List.length_append, List.length_cons]
    omega
/-- a message that may be written takes few bytes. -/
theorem msg_bytes {m : Mg} (h : m.ok) : m.bytes.length ≤ 7700 := by
  have h1 : m.terms.length ≤ 64 := ref_le h.terms
  have h2 : m.es.length ≤ 64 := ref_le h.es
  have h3 : m.old.length ≤ 9 := ref_le h.old
  have h4 : m.new.length ≤ 9 := ref_le h.new
  have h5 := ents_bytes m.es h.eachE
  unfold Mg.bytes entsBytes confBytes
  simp only [List.length_append, List.length_cons, List.length_nil, num8_len, nums_len]
  omega
end Go.Proofs.YtjplhiflemmkfaaGreatDoor
namespace Go.Proofs.YtjplhiflemmkfaaGreatDoor
open Go.RowKit

theorem isNode_any (n : Int) (w : World) : Calls Tryz.prog 103 #[.int .i64 n] w fun e w' => e = .returned (.bool (decide (0 ≤ n ∧ n < 9))) ∧ w' = w := by
  by_cases h0 : 0 ≤ n
  · by_cases h1 : n < 9
    · have e : decide (0 ≤ n ∧ n < 9) = true := by simp [h0, h1]
      rw [e]
      go_enter Tryz.func103, Tryz.ntmps103
      go_wp2
      go_ret
      exact ⟨rfl, rfl⟩
    · have e : decide (0 ≤ n ∧ n < 9) = false := by simp [h1]
      rw [e]
      go_enter Tryz.func103, Tryz.ntmps103
      go_wp2
      go_ret
      exact ⟨rfl, rfl⟩
  · have e : decide (0 ≤ n ∧ n < 9) = false := by simp [h0]
    rw [e]
    go_enter Tryz.func103, Tryz.ntmps103
    go_wp2
    go_ret
    exact ⟨rfl, rfl⟩
theorem IntsR.ints {w w1 : World} {ao : Option Addr} {b : Nat} {ys : List Int} {ts : List TypeId} (h : IntsR w ao ys) (hb : w.heap.size ≤ b) (hw : Below w.heap.size w w1) : Ints b ts w1 ao ys := fun i hi => by
  obtain ⟨a, ea, hc⟩ := h i hi
  have hlt := blk_lt hc
  exact ⟨a, ea, by rw [hw.cell hlt]; exact hc, Or.inl (by rw [add_block] at hlt; omega)⟩
/-- a message as it is packed. -/
def Mg.packed (m : Mg) : Mg := ⟨m.src, m.to, m.gen, 15, m.term, m.index, m.last, m.commit, m.yes, m.terms, m.es, m.old, m.new⟩
theorem mbox13 {w : World} {b : Nat} {v0 v1 v2 v3 v4 v5 v6 v7 v8 v9 v10 v11 v12 : Value} {t : TypeId} (h : w.heap[b]? = some (.cells #[v0, v1, v2, v3, v4, v5, v6, v7, v8, v9, v10, v11, v12] t (0, 0))) :
    w.cell? ⟨b, 0, none⟩ = some v0 ∧ w.cell? ⟨b, 1, none⟩ = some v1 ∧ w.cell? ⟨b, 2, none⟩ = some v2 ∧ w.cell? ⟨b, 3, none⟩ = some v3 ∧ w.cell? ⟨b, 4, none⟩ = some v4 ∧ w.cell? ⟨b, 5, none⟩ = some v5 ∧ w.cell? ⟨b, 6, none⟩ = some v6 ∧ w.cell? ⟨b, 7, none⟩ = some v7 ∧ w.cell? ⟨b, 8, none⟩ = some v8 ∧ w.cell? ⟨b, 9, none⟩ = some v9 ∧ w.cell? ⟨b, 10, none⟩ = some v10 ∧ w.cell? ⟨b, 11, none⟩ = some v11 ∧ w.cell? ⟨b, 12, none⟩ = some v12 :=
  ⟨(cell_of_block h).trans rfl, (cell_of_block h).trans rfl, (cell_of_block h).trans rfl, (cell_of_block h).trans rfl, (cell_of_block h).trans rfl, (cell_of_block h).trans rfl, (cell_of_block h).trans rfl, (cell_of_block h).trans rfl, (cell_of_block h).trans rfl, (cell_of_block h).trans rfl, (cell_of_block h).trans rfl, (cell_of_block h).trans rfl, (cell_of_block h).trans rfl⟩

set_option maxRecDepth 20000 in
set_option maxHeartbeats 2000000 in
theorem pack_any (m : Mg) (aot aoe aoo aon : Option Addr) (ct ce co cn : Nat) (w : World) (h1 : IntsR w aot m.terms) (h2 : EntsAt w aoe m.es) (h3 : IntsR w aoo m.old) (h4 : IntsR w aon m.new) (hok : m.packed.ok) (hS : Start w) :
    Calls Tryz.prog 156 #[.agg #[.int .i64 m.src, .int .i64 m.to, .int .i64 m.gen, .int .i64 m.kind, .int .i64 m.term, .int .i64 m.index, .int .i64 m.last, .int .i64 m.commit, .bool m.yes, .slice aot m.terms.length ct, .slice aoe m.es.length ce, .slice aoo m.old.length co, .slice aon m.new.length cn]] w fun e w' => ∃ v, e = .returned v ∧ Own w.heap.size w' v (frame m.packed.bytes) ∧ Below w.heap.size w w' := by
  obtain ⟨B, hB⟩ : ∃ B, w.heap.size = B := ⟨_, rfl⟩
  obtain ⟨W, hW⟩ : ∃ W, w.alloc (.cells #[.int .i64 m.src, .int .i64 m.to, .int .i64 m.gen, .int .i64 m.kind, .int .i64 m.term, .int .i64 m.index, .int .i64 m.last, .int .i64 m.commit, .bool m.yes, .slice aot m.terms.length ct, .slice aoe m.es.length ce, .slice aoo m.old.length co, .slice aon m.new.length cn] 50) = W := ⟨_, rfl⟩
  have x1 : W.heap[w.heap.size]? = some (.cells #[.int .i64 m.src, .int .i64 m.to, .int .i64 m.gen, .int .i64 m.kind, .int .i64 m.term, .int .i64 m.index, .int .i64 m.last, .int .i64 m.commit, .bool m.yes, .slice aot m.terms.length ct, .slice aoe m.es.length ce, .slice aoo m.old.length co, .slice aon m.new.length cn] 50 (0, 0)) := by rw [← hW]; exact heap_alloc_new _ _
  have bW : Below w.heap.size w W := by rw [← hW]; exact (Below.refl _ w).alloc (Nat.le_refl _) _
  rw [hB] at x1
  obtain ⟨W2, hW2⟩ : ∃ W2, W.setCell ⟨B, 3, none⟩ (.int .i64 15) = W2 := ⟨_, rfl⟩
  have x2 : W2.heap[B]? = some (.cells #[.int .i64 m.src, .int .i64 m.to, .int .i64 m.gen, .int .i64 15, .int .i64 m.term, .int .i64 m.index, .int .i64 m.last, .int .i64 m.commit, .bool m.yes, .slice aot m.terms.length ct, .slice aoe m.es.length ce, .slice aoo m.old.length co, .slice aon m.new.length cn] 50 (0, 0)) := by rw [← hW2]; exact setCell_block x1
  have b2 : Below w.heap.size w W2 := by rw [← hW2]; exact bW.setCell (p := ⟨B, 3, none⟩) (by rw [hB]; exact Nat.le_refl _) _
  have c3 : W.cell? ⟨B, 3, none⟩ = some (.int .i64 m.kind) := (cell_of_block x1).trans rfl
  have f3 : W.frozen? ⟨B, 3, none⟩ = false := free_of_block x1
  have hne : m.es.length ≤ 9223372036854775807 := by have := (refuse_range hok.es).2; simp only [Mg.packed] at this; omega
  have S2 := hide (hS.below b2)
  have CE := encodeMsg_any m.src m.to m.gen 15 m.term m.index m.last m.commit m.yes aot m.terms.length ct m.terms rfl aoe m.es.length ce m.es rfl hne aoo aon m.old.length m.new.length co cn m.old m.new rfl rfl W2
    (fun _ _ _ hb k1 => (IntsR.below h1 b2).ints hb k1) (fun _ _ _ hb k1 => (h2.below b2).ents hb k1) (fun _ _ _ hb k1 => (IntsR.below h3 b2).ints hb k1) (fun _ _ _ hb k1 => (IntsR.below h4 b2).ints hb k1) (unhide S2)
  have hp : putMsg m.src m.to m.gen 15 m.term m.index m.last m.commit m.yes m.terms m.es m.old m.new ([], 0) = (m.packed.bytes, 0) := put_ok hok []
  have hlen := msg_bytes hok
  rw [hp] at CE
  obtain ⟨L, hL⟩ : ∃ L, m.packed.bytes = L := ⟨_, rfl⟩
  rw [hL] at CE hlen
  rw [hL]
  have CE2 : Hid (Calls Tryz.prog 193 #[.agg #[.int .i64 m.src, .int .i64 m.to, .int .i64 m.gen, .int .i64 15, .int .i64 m.term, .int .i64 m.index, .int .i64 m.last, .int .i64 m.commit, .bool m.yes, .slice aot m.terms.length ct, .slice aoe m.es.length ce, .slice aoo m.old.length co, .slice aon m.new.length cn]] W2 fun x w' => ∃ v, x = .returned (.tuple #[v, .int .i64 0]) ∧ Own W2.heap.size w' v L ∧ Below W2.heap.size W2 w') := hide (CE.mono (by rintro x w' ⟨v, k1, k2, k3⟩; exact ⟨v, k1, k2, k3⟩))
  have HB := hide hB
  have HW := hide hW
  have HW2 := hide hW2
  have B2 := hide b2
  have X2 := hide x2
  clear hB hW hW2 b2 x2 x1 bW h1 h2 h3 h4 hok hS CE hp hL hne
  go_enter Tryz.func156, Tryz.ntmps156
  go_upto_region 1 with fail
  rw [unhide HW, unhide HB]
  clear HW
  go_upto_region 2 with fail
  rw [unhide HW2]
  clear HW2 c3 f3
  obtain ⟨a0, a1, a2, a3, a4, a5, a6, a7, a8, a9, a10, a11, a12⟩ := mbox13 (unhide X2)
  go_wp2_with fail
  refine (unhide CE2).mono ?_
  rintro x w3 ⟨v, rfl, o3, b3⟩
  obtain ⟨ao, cap, rfl, hr, hc, hby, hn, -⟩ := o3.slice
  have S3 := (unhide S2).below b3
  have B3 := hide ((unhide B2).trans (b3.mono (unhide B2).size))
  have FR := hide (frame_any ao cap L w3 hby hn (by omega) S3.1 (by have := S3.2.2; omega))
  clear a0 a1 a2 a3 a4 a5 a6 a7 a8 a9 a10 a11 a12 CE2 o3 b3 hby X2 B2
  go_wp2_with fail
  refine (unhide FR).mono ?_
  rintro x w4 ⟨v4, rfl, o4, b4⟩
  have O4 := hide (o4.rebase (unhide B3).size)
  have B4 := hide ((unhide B3).trans (b4.mono (unhide B3).size))
  clear o4 b4 FR
  go_wp2
  go_ret
  exact ⟨_, rfl, unhide O4, unhide B4⟩
end Go.Proofs.YtjplhiflemmkfaaGreatDoor
