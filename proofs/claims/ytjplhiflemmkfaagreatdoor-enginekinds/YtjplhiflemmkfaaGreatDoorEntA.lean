/- WireEntries: small things that its walk calls: few, exactly; an argument that is an entry, with its numbers' range; what was read of what was written. WireEntries: what its walk calls, whole. Arguments that are messages, with their ranges; ParseMsg of what EncodeMsg wrote. -/
import Derived.Test.YtjplhiflemmkfaaGreatDoorRNum
import Derived.Test.YtjplhiflemmkfaaGreatDoorSameE
import Derived.Test.YtjplhiflemmkfaaGreatDoorCutsG
import Derived.Test.YtjplhiflemmkfaaGreatDoorReadPure
import Derived.Test.YtjplhiflemmkfaaGreatDoorReaderS
namespace Go.Proofs.YtjplhiflemmkfaaGreatDoor
open Go.ChangeShapes Go.WideShapes Go.ChangeAt Go.RowKit

/-- a number of 64 bits. -/
def In64 (n : Int) : Prop := -9223372036854775808 ≤ n ∧ n < 9223372036854775808
theorem i64_in {n : Int} (h : (Lit.int .i64 n).wf = true) : In64 n := by
  simp [Lit.wf, IntKind.min, IntKind.max, IntKind.bits, IntKind.signed] at h
  unfold In64; omega
/-- an entry's numbers are of 64 bits. -/
structure En.in64 (e : En) : Prop where
  kind : In64 e.kind
  client : In64 e.client
  seq : In64 e.seq
  ms : ∀ y ∈ e.ms, In64 y
  «to» : In64 e.«to»
section
variable {H : Type} {enc : TypeId × Value → H} {W : World} {fuel : Nat} {cs : List Value} {x : DataW H × List MemPlace}
theorem ints_trod' (h : DataW.trod enc Tryz.prog W 0 (fun _ => true) true fuel 24 cs = some x) : ∃ ao n cap ys, cs = [.slice ao n cap] ∧ IntsAt W ao n cap ys ∧ ∀ y ∈ ys, In64 y := by
  rcases open_ints Tryz.underlying24 Tryz.underlying3 Tryz.cells3 h with ⟨hcs, _⟩ | ⟨a, len, cap, zs, hcs, _, hl, hm, hz, _, hcell, hwz⟩
  · exact ⟨none, 0, 0, [], hcs, ⟨rfl, Nat.le_refl _, by decide, fun _ => rfl, fun j hj => by simp at hj⟩, by simp⟩
  · simp only [if_true] at hz
    have hlen : (zs.take len).length = len := by simp; omega
    refine ⟨some a, len, cap, zs.take len, hcs, ⟨hlen, hl, hm, (fun h => by cases h), fun j hj => ⟨a, rfl, ?_⟩⟩, fun y hy => i64_in (hwz y (List.mem_of_mem_take hy))⟩
    rw [hlen] at hj
    have hg : (zs.take len).getD j 0 = zs.getD j 0 := by simp [List.getD_eq_getElem?_getD, List.getElem?_take_of_lt hj]
    rw [hg]
    exact hcell j (by omega)
set_option maxRecDepth 100000 in
theorem entry_trod' (h : DataW.trod enc Tryz.prog W 0 (fun _ => true) true fuel 43 cs = some x) :
    ∃ (e : En) (ao : Option Addr) (cap : Nat), cs = [.int .i64 e.kind, .int .i64 e.client, .int .i64 e.seq, .string e.text, .slice ao e.ms.length cap, .int .i64 e.«to»] ∧ IntsAt W ao e.ms.length cap e.ms ∧ e.text.size ≤ maxLen ∧ e.in64 := by
  obtain ⟨xs, n, _, _, hl, hlen, hf⟩ := DataW.trod_struct Tryz.underlying43 h
  rw [Tryz.cellsE] at hl
  match cs, hl, xs, hlen with
  | [c0, c1, c2, c3, c4, c5], _, [y0, y1, y2, y3, y4, y5], _ =>
    have f0 := hf 0 _ rfl
    have f1 := hf 1 _ rfl
    have f2 := hf 2 _ rfl
    have f3 := hf 3 _ rfl
    have f4 := hf 4 _ rfl
    have f5 := hf 5 _ rfl
    simp [Tryz.cells3, Tryz.cells9, Tryz.cellsI] at f0 f1 f2 f3 f4 f5
    obtain ⟨k, e0, _, w0⟩ := DataW.trod_int Tryz.underlying3 f0
    obtain ⟨c, e1, _, w1⟩ := DataW.trod_int Tryz.underlying3 f1
    obtain ⟨q, e2, _, w2⟩ := DataW.trod_int Tryz.underlying3 f2
    obtain ⟨t, e3, _, ht⟩ := DataW.trod_string Tryz.underlying9 f3
    obtain ⟨ao, m, cap, ys, e4, hy, hr⟩ := ints_trod' f4
    obtain ⟨z, e5, _, w5⟩ := DataW.trod_int Tryz.underlying3 f5
    simp only [List.cons.injEq, and_true] at e0 e1 e2 e3 e4 e5
    obtain rfl := hy.len
    exact ⟨⟨k, c, q, t, ys, z⟩, ao, cap, by rw [e0, e1, e2, e3, e4, e5], hy, ht, ⟨i64_in w0, i64_in w1, i64_in w2, hr, i64_in w5⟩⟩
end
set_option maxRecDepth 100000 in
theorem entry_open' {H : Type} {enc : TypeId × Value → H} {W : World} {base : Nat} {v : Value} {d : DataW H} {p : List MemPlace} (hv : Value.okWide Tryz.prog W .any base 43 v)
    (h : DataW.Trod enc Tryz.prog W 0 (fun _ => true) true 43 v d p) : ∃ (e : En) (ao : Option Addr) (cap : Nat), v = .agg #[.int .i64 e.kind, .int .i64 e.client, .int .i64 e.seq, .string e.text, .slice ao e.ms.length cap, .int .i64 e.«to»] ∧ IntsAt W ao e.ms.length cap e.ms ∧ e.text.size ≤ maxLen ∧ e.in64 := by
  obtain ⟨cs, rfl, _⟩ := okWide_struct Tryz.underlying43 hv
  obtain ⟨fuel, hf⟩ := h
  obtain ⟨e, ao, cap, hc, hy, ht, hr⟩ := entry_trod' hf
  refine ⟨e, ao, cap, ?_, hy, ht, hr⟩
  simp only [Value.cells] at hc
  rw [← hc]

/-! ### what is read of what was written -/
theorem map_fix {ys : List Int} (h : ∀ y ∈ ys, In64 y) : ys.map fix = ys := by
  induction ys with
  | nil => rfl
  | cons y ys ih =>
    rw [List.map_cons, ih (fun z hz => h z (List.mem_cons_of_mem _ hz)), fix_self (h y (by simp)).1 (h y (by simp)).2]
theorem ent_self {e : En} (h : e.in64) : e.ent = ⟨e.kind, e.client, e.seq, bytesOf e.text, e.ms, e.«to»⟩ := by
  unfold En.ent
  rw [map_fix h.ms, fix_self h.client.1 h.client.2, fix_self h.seq.1 h.seq.2]
end Go.Proofs.YtjplhiflemmkfaaGreatDoor
namespace Go.Proofs.YtjplhiflemmkfaaGreatDoor
open Go.RowKit

theorem str_self (t : ByteArray) : str (bytesOf t) = t := by
  unfold str bytesOf strOfNums
  apply ByteArray.ext
  apply Array.ext'
  simp [List.map_map, Function.comp_def]
theorem put_zero {e : En} (h : (putEntry e.kind e.client e.seq e.text e.ms e.«to» ([], 0)).2 = 0) : e.ok := by
  rw [wrong_put] at h
  have hok : 0 ≤ e.kind ∧ e.kind ≤ 4 ∧ e.text.size ≤ 16 ∧ e.ms.length ≤ 9 ∧ 0 ≤ e.«to» ∧ e.«to» ≤ 2 := by
    by_cases hh : 0 ≤ e.kind ∧ e.kind ≤ 4 ∧ e.text.size ≤ 16 ∧ e.ms.length ≤ 9 ∧ 0 ≤ e.«to» ∧ e.«to» ≤ 2
    · exact hh
    · exact absurd h (wrong_ne hh)
  obtain ⟨k1, k2, k3, k4, k5, k6⟩ := hok
  refine ⟨?_, ?_, ?_, ?_⟩
  · unfold refuse; rw [if_neg (by show ¬ (e.kind < (0 : Int) ∨ (4 : Int) < e.kind); omega)]
  · unfold refuse; rw [if_neg (by show ¬ ((e.text.size : Int) < (0 : Int) ∨ (16 : Int) < (e.text.size : Int)); omega)]
  · unfold refuse; rw [if_neg (by show ¬ ((e.ms.length : Int) < (0 : Int) ∨ (9 : Int) < (e.ms.length : Int)); omega)]
  · unfold refuse; rw [if_neg (by show ¬ (e.«to» < (0 : Int) ∨ (2 : Int) < e.«to»); omega)]

theorem row_ints {w : World} {base : Nat} {v : Value} {ys : List Int} (h : w.ownsRow base 3 1 v ys.length (i64s ys)) : ∃ ao cap, v = .slice ao ys.length cap ∧ IntsR w ao ys := by
  rcases h.2 with ⟨rfl, h0⟩ | ⟨g, cap, cur, rfl, _⟩
  · exact ⟨none, 0, by rw [h0], fun i hi => by omega⟩
  · refine ⟨some ⟨g, 0, none⟩, cap, rfl, fun i hi => ⟨_, rfl, ?_⟩⟩
    refine h.cells rfl i _ ?_
    simp only [i64s, List.getElem?_map, List.getD_eq_getElem?_getD, List.getElem?_eq_getElem hi, Option.map_some, Option.getD_some]

end Go.Proofs.YtjplhiflemmkfaaGreatDoor
namespace Go.Proofs.YtjplhiflemmkfaaGreatDoor
open Go.ChangeShapes Go.WideShapes Go.ChangeAt Go.RowKit

structure Mg.in64 (m : Mg) : Prop where
  src : In64 m.src
  to' : In64 m.to
  gen : In64 m.gen
  kind : In64 m.kind
  term : In64 m.term
  index : In64 m.index
  last : In64 m.last
  commit : In64 m.commit
  terms : ∀ y ∈ m.terms, In64 y
  es : ∀ e ∈ m.es, e.in64
  old : ∀ y ∈ m.old, In64 y
  new : ∀ y ∈ m.new, In64 y
section
variable {H : Type} {enc : TypeId × Value → H} {W : World} {fuel : Nat} {cs : List Value} {x : DataW H × List MemPlace}
theorem ents_trod' (h : DataW.trod enc Tryz.prog W 0 (fun _ => true) true fuel 48 cs = some x) : ∃ ao n cap es, cs = [.slice ao n cap] ∧ es.length = n ∧ n ≤ cap ∧ cap ≤ maxLen ∧ (ao = none → cap = 0) ∧ EntsAt W ao es ∧ ∀ e ∈ es, e.in64 := by
  rcases DataW.trod_slice Tryz.underlying48 h with ⟨hcs, _⟩ | ⟨a, len, cap, elems, rest, n, _, hcs, _, _, hl, hm, hlen, hel, _, _⟩
  · exact ⟨none, 0, 0, [], hcs, rfl, Nat.le_refl _, by decide, fun _ => rfl, fun j hj => by simp at hj, by simp⟩
  · have each : ∀ i, ∃ e : En, i < len → ∃ r cx, (∀ j u, ([.int .i64 e.kind, .int .i64 e.client, .int .i64 e.seq, .string e.text, .slice r e.ms.length cx, .int .i64 e.to] : List Value)[j]? = some u → W.cell? ((a.add (i * 6)).add j) = some u) ∧ IntsAt W r e.ms.length cx e.ms ∧ e.text.size ≤ maxLen ∧ e.in64 := by
      intro i
      by_cases hi : i < len
      · have h1 := hel i hi
        rw [Tryz.cellsE, List.getElem?_eq_getElem (by omega)] at h1
        obtain ⟨ci, hc, ht⟩ := Option.bind_eq_some_iff.1 h1
        obtain ⟨e, ao, cx, rfl, hy, hs⟩ := entry_trod' ht
        refine ⟨e, fun _ => ⟨ao, cx, fun j u hj => ?_, hy, hs⟩⟩
        have h6 : j < 6 := by
          by_cases h6 : j < 6
          · exact h6
          · rw [List.getElem?_eq_none (by simpa using h6)] at hj; cases hj
        exact ((World.cells?_some hc).2.2 j h6).trans hj
      · exact ⟨default, fun h => absurd h hi⟩
    obtain ⟨f, hf⟩ := Classical.axiomOfChoice each
    refine ⟨some a, len, cap, (List.range len).map f, hcs, by simp, hl, hm, (fun h => by cases h), fun i hi => ?_, fun e he => ?_⟩
    rotate_left
    · obtain ⟨i, hi, rfl⟩ := List.mem_map.1 he
      obtain ⟨_, _, _, _, _, h64⟩ := hf i (List.mem_range.1 hi)
      exact h64
    rw [List.length_map, List.length_range] at hi
    have hg : ((List.range len).map f).getD i default = f i := by simp [List.getD_eq_getElem?_getD, hi]
    rw [hg]
    have hsp : a.spot = none := by
      obtain ⟨r, cx, hc, _⟩ := hf 0 (by omega)
      have := World.cell?_spot (hc 0 _ rfl)
      simpa [Addr.add] using this
    obtain ⟨blk, off, sp⟩ := a
    simp only at hsp
    subst hsp
    obtain ⟨r, cx, hc, hy, ht, -⟩ := hf i hi
    have hc' : ∀ j u, ([.int .i64 (f i).kind, .int .i64 (f i).client, .int .i64 (f i).seq, .string (f i).text, .slice r (f i).ms.length cx, .int .i64 (f i).to] : List Value)[j]? = some u → W.cell? ⟨blk, off + i * 6 + j, none⟩ = some u := fun j u hj => by
      have := hc j u hj
      rw [Addr.add_lit, Addr.add_lit] at this
      exact this
    exact ⟨blk, off, r, cx, rfl, hc' 0 _ rfl, hc' 1 _ rfl, hc' 2 _ rfl, hc' 3 _ rfl, hc' 4 _ rfl, hc' 5 _ rfl, hy.are, ht, hy.room, hy.big, hy.nul⟩

set_option maxRecDepth 100000 in
theorem msg_trod' (h : DataW.trod enc Tryz.prog W 0 (fun _ => true) true fuel 50 cs = some x) :
    ∃ (m : Mg) (aot aoe aoo aon : Option Addr) (ct ce co cn : Nat),
      cs = [.int .i64 m.src, .int .i64 m.to, .int .i64 m.gen, .int .i64 m.kind, .int .i64 m.term, .int .i64 m.index, .int .i64 m.last, .int .i64 m.commit, .bool m.yes, .slice aot m.terms.length ct, .slice aoe m.es.length ce, .slice aoo m.old.length co, .slice aon m.new.length cn] ∧
      IntsAt W aot m.terms.length ct m.terms ∧ (m.es.length ≤ ce ∧ ce ≤ maxLen ∧ (aoe = none → ce = 0) ∧ EntsAt W aoe m.es) ∧ IntsAt W aoo m.old.length co m.old ∧ IntsAt W aon m.new.length cn m.new ∧ m.in64 := by
  obtain ⟨xs, n, _, _, hl, hlen, hf⟩ := DataW.trod_struct Tryz.underlying50 h
  rw [Tryz.cellsM] at hl
  match cs, hl, xs, hlen with
  | [c0, c1, c2, c3, c4, c5, c6, c7, c8, c9, c10, c11, c12], _, [y0, y1, y2, y3, y4, y5, y6, y7, y8, y9, y10, y11], _ =>
    have f0 := hf 0 _ rfl
    have f1 := hf 1 _ rfl
    have f2 := hf 2 _ rfl
    have f3 := hf 3 _ rfl
    have f4 := hf 4 _ rfl
    have f5 := hf 5 _ rfl
    have f6 := hf 6 _ rfl
    have f7 := hf 7 _ rfl
    have f8 := hf 8 _ rfl
    have f9 := hf 9 _ rfl
    have f10 := hf 10 _ rfl
    have f11 := hf 11 _ rfl
    simp [Tryz.cells3, Tryz.cellsB, Tryz.cellsI, Tryz.cellsS, Tryz.cellsC] at f0 f1 f2 f3 f4 f5 f6 f7 f8 f9 f10 f11
    obtain ⟨x0, e0, _, w0⟩ := DataW.trod_int Tryz.underlying3 f0
    obtain ⟨x1, e1, _, w1⟩ := DataW.trod_int Tryz.underlying3 f1
    obtain ⟨x2, e2, _, w2⟩ := DataW.trod_int Tryz.underlying3 f2
    obtain ⟨x3, e3, _, w3⟩ := DataW.trod_int Tryz.underlying3 f3
    obtain ⟨x4, e4, _, w4⟩ := DataW.trod_int Tryz.underlying3 f4
    obtain ⟨x5, e5, _, w5⟩ := DataW.trod_int Tryz.underlying3 f5
    obtain ⟨x6, e6, _, w6⟩ := DataW.trod_int Tryz.underlying3 f6
    obtain ⟨x7, e7, _, w7⟩ := DataW.trod_int Tryz.underlying3 f7
    obtain ⟨y, e8, _⟩ := DataW.trod_bool Tryz.underlying4 f8
    obtain ⟨aot, nt, ct, ts, e9, ht, ht64⟩ := ints_trod' f9
    obtain ⟨aoe, ne, ce, es, e10, he1, he2, he3, he4, he5, he64⟩ := ents_trod' f10
    obtain ⟨zs, m, _, _, _, hlz, hz⟩ := DataW.trod_struct Tryz.underlying26 f11
    match zs, hlz with
    | [z0, z1], _ =>
      have g0 := hz 0 _ rfl
      have g1 := hz 1 _ rfl
      simp [Tryz.cellsI] at g0 g1
      obtain ⟨aoo, no, co, os, e11, ho, ho64⟩ := ints_trod' g0
      obtain ⟨aon, nn, cn, ns, e12, hn, hn64⟩ := ints_trod' g1
      simp only [List.cons.injEq, and_true] at e0 e1 e2 e3 e4 e5 e6 e7 e8 e9 e10 e11 e12
      obtain rfl := ht.len
      obtain rfl := ho.len
      obtain rfl := hn.len
      subst he1
      exact ⟨⟨x0, x1, x2, x3, x4, x5, x6, x7, y, ts, es, os, ns⟩, aot, aoe, aoo, aon, ct, ce, co, cn, by rw [e0, e1, e2, e3, e4, e5, e6, e7, e8, e9, e10, e11, e12], ht, ⟨he2, he3, he4, he5⟩, ho, hn, ⟨i64_in w0, i64_in w1, i64_in w2, i64_in w3, i64_in w4, i64_in w5, i64_in w6, i64_in w7, ht64, he64, ho64, hn64⟩⟩
end
set_option maxRecDepth 100000 in
theorem msg_open' {H : Type} {enc : TypeId × Value → H} {W : World} {base : Nat} {v : Value} {d : DataW H} {p : List MemPlace} (hv : Value.okWide Tryz.prog W .any base 50 v)
    (h : DataW.Trod enc Tryz.prog W 0 (fun _ => true) true 50 v d p) : ∃ (m : Mg) (aot aoe aoo aon : Option Addr) (ct ce co cn : Nat),
      v = .agg #[.int .i64 m.src, .int .i64 m.to, .int .i64 m.gen, .int .i64 m.kind, .int .i64 m.term, .int .i64 m.index, .int .i64 m.last, .int .i64 m.commit, .bool m.yes, .slice aot m.terms.length ct, .slice aoe m.es.length ce, .slice aoo m.old.length co, .slice aon m.new.length cn] ∧
      IntsAt W aot m.terms.length ct m.terms ∧ (m.es.length ≤ ce ∧ ce ≤ maxLen ∧ (aoe = none → ce = 0) ∧ EntsAt W aoe m.es) ∧ IntsAt W aoo m.old.length co m.old ∧ IntsAt W aon m.new.length cn m.new ∧ m.in64 := by
  obtain ⟨cs, rfl, _⟩ := okWide_struct Tryz.underlying50 hv
  obtain ⟨fuel, hf⟩ := h
  obtain ⟨m, aot, aoe, aoo, aon, ct, ce, co, cn, hc, h1, h2, h3, h4, h5⟩ := msg_trod' hf
  refine ⟨m, aot, aoe, aoo, aon, ct, ce, co, cn, ?_, h1, h2, h3, h4, h5⟩
  simp only [Value.cells] at hc
  rw [← hc]

theorem ents_self {es : List En} (h : ∀ e ∈ es, e.in64) : es.map En.ent = es.map fun e => ⟨e.kind, e.client, e.seq, bytesOf e.text, e.ms, e.«to»⟩ :=
  List.map_congr_left (fun e he => ent_self (h e he))
theorem mes_self {m : Mg} (h : m.in64) : m.mes = ⟨m.src, m.to, m.gen, m.kind, m.term, m.index, m.last, m.commit, m.yes, m.terms, m.es.map fun e => ⟨e.kind, e.client, e.seq, bytesOf e.text, e.ms, e.«to»⟩, m.old, m.new⟩ := by
  unfold Mg.mes
  rw [map_fix h.terms, map_fix h.old, map_fix h.new, ents_self h.es, fix_self h.src.1 h.src.2, fix_self h.to'.1 h.to'.2, fix_self h.gen.1 h.gen.2, fix_self h.term.1 h.term.2, fix_self h.index.1 h.index.2, fix_self h.last.1 h.last.2, fix_self h.commit.1 h.commit.2]
theorem ecells_at : ∀ (xs : List Ent) (vs : List Value) (i : Nat) (x : Ent) (v : Value) (j : Nat) (u : Value), xs[i]? = some x → vs[i]? = some v → (x.cells v).toList[j]? = some u → (ecells xs vs)[i * 6 + j]? = some u
  | [], _, i, x, _, _, _, h, _, _ => by simp at h
  | _ :: _, [], i, _, v, _, _, _, h, _ => by simp at h
  | x0 :: xs, v0 :: vs, 0, x, v, j, u, h1, h2, h3 => by
    simp only [List.getElem?_cons_zero, Option.some.injEq] at h1 h2
    subst h1
    subst h2
    show ((x0.cells v0).toList ++ ecells xs vs)[0 * 6 + j]? = some u
    have hj : j < (x0.cells v0).toList.length := (List.getElem?_eq_some_iff.1 h3).1
    rw [Nat.zero_mul, Nat.zero_add, List.getElem?_append_left hj]
    exact h3
  | x0 :: xs, v0 :: vs, i + 1, x, v, j, u, h1, h2, h3 => by
    show ((x0.cells v0).toList ++ ecells xs vs)[(i + 1) * 6 + j]? = some u
    have hl : (x0.cells v0).toList.length = 6 := rfl
    rw [List.getElem?_append_right (by rw [hl]; omega), hl, show (i + 1) * 6 + j - 6 = i * 6 + j by omega]
    exact ecells_at xs vs i x v j u (by simpa using h1) (by simpa using h2) h3
theorem row_room {w : World} {base : Nat} {e : TypeId} {z : Nat} {ao : Option Addr} {n cap : Nat} {xs : List Value} (h : w.ownsRow base e z (.slice ao n cap) n xs) : n ≤ cap ∧ cap ≤ maxLen ∧ (ao = none → cap = 0) := by
  rcases h.2 with ⟨e1, h0⟩ | ⟨g, cap', cur, e1, _, _, h3, h4, _⟩
  · simp only [Value.slice.injEq] at e1
    obtain ⟨rfl, rfl, rfl⟩ := e1
    exact ⟨Nat.le_refl _, by decide, fun _ => rfl⟩
  · simp only [Value.slice.injEq] at e1
    obtain ⟨rfl, -, rfl⟩ := e1
    exact ⟨h3, h4, fun h => by cases h⟩
/-- what was read lies as entries. -/
theorem ents_read {w : World} {base : Nat} {ev : Value} {es : List En} {vs : List Value} (hok : ∀ e ∈ es, e.ok) (h1 : w.ownsRow base 43 6 ev (es.map fun e => (⟨e.kind, e.client, e.seq, bytesOf e.text, e.ms, e.«to»⟩ : Ent)).length (ecells (es.map fun e => ⟨e.kind, e.client, e.seq, bytesOf e.text, e.ms, e.«to»⟩) vs)) (h2 : Mems base w (es.map fun e => ⟨e.kind, e.client, e.seq, bytesOf e.text, e.ms, e.«to»⟩) vs) :
    ∃ ao cap, ev = .slice ao es.length cap ∧ EntsAt w ao es := by
  rw [List.length_map] at h1
  obtain ⟨ao, cap, rfl⟩ := row_slice h1
  refine ⟨ao, cap, rfl, fun i hi => ?_⟩
  obtain ⟨e, he⟩ : ∃ e, es.getD i default = e := ⟨_, rfl⟩
  have hei : es[i]? = some e := by rw [← he]; exact List.getD_eq_getElem?_getD (l := es) (i := i) (a := default) ▸ (by rw [List.getElem?_eq_getElem hi]; rfl)
  have hx : (es.map fun e => (⟨e.kind, e.client, e.seq, bytesOf e.text, e.ms, e.«to»⟩ : Ent))[i]? = some ⟨e.kind, e.client, e.seq, bytesOf e.text, e.ms, e.«to»⟩ := by rw [List.getElem?_map, hei]; rfl
  obtain ⟨v, hv⟩ : ∃ v, vs[i]? = some v := ⟨_, List.getElem?_eq_getElem (by rw [← h2.1, List.length_map]; exact hi)⟩
  have hm := h2.2 i _ v hx hv
  obtain ⟨r, cx, rfl, hr⟩ := row_ints (ys := e.ms) hm
  have hrm := row_room hm
  have hcell : ∀ j u, ((⟨e.kind, e.client, e.seq, bytesOf e.text, e.ms, e.«to»⟩ : Ent).cells (.slice r e.ms.length cx)).toList[j]? = some u → ∃ g, ao = some ⟨g, 0, none⟩ ∧ w.cell? ⟨g, 0 + i * 6 + j, none⟩ = some u := fun j u hj => by
    have hc := ecells_at _ vs i _ _ j u hx hv hj
    rcases h1.2 with ⟨_, h0⟩ | ⟨g, cap', cur, e1, _⟩
    · omega
    · simp only [Value.slice.injEq] at e1
      obtain ⟨rfl, -, -⟩ := e1
      have := h1.cells rfl (i * 6 + j) u hc
      rw [Addr.add_lit] at this
      exact ⟨g, rfl, by rw [Nat.zero_add]; rw [Nat.zero_add] at this; exact this⟩
  obtain ⟨g, hg, c0⟩ := hcell 0 _ rfl
  have rest : ∀ j u, ((⟨e.kind, e.client, e.seq, bytesOf e.text, e.ms, e.«to»⟩ : Ent).cells (.slice r e.ms.length cx)).toList[j]? = some u → w.cell? ⟨g, 0 + i * 6 + j, none⟩ = some u := fun j u hj => by
    obtain ⟨g', hg', hc⟩ := hcell j u hj
    rw [hg] at hg'
    cases hg'
    exact hc
  have ht := (hok e (List.mem_of_getElem? hei)).text
  have hts : e.text.size ≤ maxLen := by have := (refuse_range ht).2; unfold maxLen; omega
  rw [he]
  have c3 := rest 3 _ rfl
  rw [str_self] at c3
  exact ⟨g, 0, r, cx, hg, c0, rest 1 _ rfl, rest 2 _ rfl, c3, rest 4 _ rfl, rest 5 _ rfl, hr, hts, hrm.1, hrm.2.1, hrm.2.2⟩
/-- ParseMsg of what EncodeMsg wrote. -/
theorem parseM_self {m : Mg} (hok : m.ok) (h64 : m.in64) {w : World} {ao : Option Addr} {n cap : Nat} (hg : Given w ao n cap m.bytes) (hS : Start w) :
    Calls Tryz.prog 227 #[.slice ao n cap] w fun r w' => ∃ aot aoe aoo aon ct ce co cn, r = .returned (.tuple #[.agg #[.int .i64 m.src, .int .i64 m.to, .int .i64 m.gen, .int .i64 m.kind, .int .i64 m.term, .int .i64 m.index, .int .i64 m.last, .int .i64 m.commit, .bool m.yes, .slice aot m.terms.length ct, .slice aoe m.es.length ce, .slice aoo m.old.length co, .slice aon m.new.length cn], .int .i64 0]) ∧ IntsR w' aot m.terms ∧ EntsAt w' aoe m.es ∧ IntsR w' aoo m.old ∧ IntsR w' aon m.new ∧ Below w.heap.size w w' := by
  obtain ⟨h1, h2⟩ := whole_told (msgR_reads hok)
  have h1' : rmsg m.bytes (0, 0) = (m.mes, (m.bytes.length, 0)) := h1
  have h2' : (rend n (rmsg m.bytes (0, 0)).2).2 = 0 := by rw [← hg.len]; exact h2
  refine (parseMsg_any ao n cap m.bytes w hg hS).mono ?_
  rintro r w' ⟨cs, rfl, hb, hc, _⟩
  rw [h2'] at hc ⊢
  obtain ⟨v1, v2, v3, v4, vs, rfl, r1, r2, r3, r4, r5⟩ := hc rfl
  rw [h1', mes_self h64] at r1 r2 r3 r4 r5 ⊢
  obtain ⟨aot, ct, rfl, i1⟩ := row_ints (ys := m.terms) r1
  obtain ⟨aoe, ce, rfl, i2⟩ := ents_read hok.eachE r2 r3
  obtain ⟨aoo, co, rfl, i3⟩ := row_ints (ys := m.old) r4
  obtain ⟨aon, cn, rfl, i4⟩ := row_ints (ys := m.new) r5
  exact ⟨aot, aoe, aoo, aon, ct, ce, co, cn, rfl, i1, i2, i3, i4, hb⟩
end Go.Proofs.YtjplhiflemmkfaaGreatDoor
