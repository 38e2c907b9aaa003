/- WireCuts: what its walk calls. -/
import Derived.Test.YtojmnlbdhpledaaDoorCutsC
import Derived.Test.YtojmnlbdhpledaaDoorEncE
namespace Go.Proofs.YtojmnlbdhpledaaDoor
open Go.RowKit

theorem IntsAt.ints {w w1 : World} {ao : Option Addr} {n cap b : Nat} {ys : List Int} {ts : List TypeId} (h : IntsAt w ao n cap ys) (hb : w.heap.size ≤ b) (hw : Below w.heap.size w w1) : Ints b ts w1 ao ys := fun i hi => by
  obtain ⟨a, ea, hc⟩ := h.are i hi
  have hlt := blk_lt hc
  exact ⟨a, ea, by rw [hw.cell hlt]; exact hc, Or.inl (by rw [add_block] at hlt; omega)⟩
theorem EntsAt.ents {w w1 : World} {ao : Option Addr} {b : Nat} {es : List En} {ts : List TypeId} (h : EntsAt w ao es) (hb : w.heap.size ≤ b) (hw : Below w.heap.size w w1) : Ents b ts w1 ao es := fun i hi => by
  obtain ⟨blk, off, r, cx, e, h0, h1, h2, h3, h4, h5, hm, ht, _⟩ := h i hi
  have hc : ∀ a u, w.cell? a = some u → w1.cell? a = some u := fun a u h => by rw [hw.cell (blk_lt h)]; exact h
  refine ⟨blk, off, r, cx, e, hc _ _ h0, hc _ _ h1, hc _ _ h2, hc _ _ h3, hc _ _ h4, hc _ _ h5, fun j hj => ?_, ht, Or.inl (by have := blk_lt h0; simp only at this; omega)⟩
  obtain ⟨a, ea, hh⟩ := hm j hj
  have hlt := blk_lt hh
  exact ⟨a, ea, hc _ _ hh, Or.inl (by rw [add_block] at hlt; omega)⟩
theorem EntsAt.take {w : World} {ao : Option Addr} {es : List En} (h : EntsAt w ao es) (k : Nat) : EntsAt w ao (es.take k) := fun i hi => by
  rw [List.length_take] at hi
  have e : (es.take k).getD i default = es.getD i default := by simp [List.getD_eq_getElem?_getD, List.getElem?_take_of_lt (show i < k by omega)]
  rw [e]; exact h i (by omega)
theorem refuse_ok {q : Nat} {n : Int} (h1 : ((rule q).1 : Int) ≤ n) (h2 : n ≤ ((rule q).2.1 : Int)) : refuse q n = 0 := by unfold refuse; rw [if_neg (by omega)]
theorem goodE_ok (e : En) : (goodE e).ok := by
  have ht := goodT_size e.text
  refine ⟨refuse_ok (show (0 : Int) ≤ e.kind % 5 by omega) (show e.kind % 5 ≤ 4 by omega), refuse_ok (show (0 : Int) ≤ ((goodT e.text).size : Nat) by omega) (show (((goodT e.text).size : Nat) : Int) ≤ 16 by omega), ?_, refuse_ok (show (0 : Int) ≤ e.to % 3 by omega) (show e.to % 3 ≤ 2 by omega)⟩
  have h9 : (goodE e).ms.length ≤ 9 := by simp only [goodE, List.length_take]; omega
  exact refuse_ok (show (0 : Int) ≤ (((goodE e).ms.length : Nat) : Int) by omega) (show (((goodE e).ms.length : Nat) : Int) ≤ 9 by omega)
theorem len_ok6 {n : Nat} (h : n ≤ 64) : refuse 6 (n : Int) = 0 := refuse_ok (show (0 : Int) ≤ (n : Int) by omega) (show (n : Int) ≤ 64 by omega)
theorem len_ok5 {n : Nat} (h : n ≤ 9) : refuse 5 (n : Int) = 0 := refuse_ok (show (0 : Int) ≤ (n : Int) by omega) (show (n : Int) ≤ 9 by omega)
theorem kind_ok (x : Int) : refuse 2 (1 + x % 15) = 0 := refuse_ok (show (1 : Int) ≤ 1 + x % 15 by omega) (show 1 + x % 15 ≤ 15 by omega)
theorem ok6_len {n : Nat} (h : refuse 6 (n : Int) = 0) : n ≤ 64 := by have := (refuse_range h).2; omega

/-! ### bytes of a message, of an entry -/
def MsgBytes (A : List Nat) : Prop := ∃ m : Mg, m.ok ∧ m.bytes = A
def EntBytes (A : List Nat) : Prop := ∃ e : En, e.ok ∧ e.bytes = A
theorem EntBytes.len {A : List Nat} (h : EntBytes A) : 0 < A.length ∧ A.length ≤ 100000 := by
  obtain ⟨e, he, rfl⟩ := h
  have h1 := putE_len e ([], 0)
  rw [putE_ok he] at h1
  refine ⟨by simp [En.bytes], ?_⟩
  simp only [List.nil_append, List.length_nil] at h1
  omega
theorem MsgBytes.len {A : List Nat} (h : MsgBytes A) : 0 < A.length ∧ A.length ≤ 100000 := by
  obtain ⟨m, hm, rfl⟩ := h
  have e := put_ok hm []
  have h1 : (m.put ([], 0)).1.length ≤ 100000 := by
    unfold Mg.put putMsg putConfig
    have a1 := putInts_len [m.src, m.to, m.gen] ([], 0)
    have a2 := putRule_len 2 m.kind (putInts [m.src, m.to, m.gen] ([], 0))
    have a3 := putInts_len [m.term, m.index, m.last, m.commit] (putRule 2 m.kind (putInts [m.src, m.to, m.gen] ([], 0)))
    generalize putInts [m.term, m.index, m.last, m.commit] (putRule 2 m.kind (putInts [m.src, m.to, m.gen] ([], 0))) = s3 at *
    have a4 := putRule_len 3 (bitOf m.yes) s3
    generalize putRule 3 (bitOf m.yes) s3 = s4 at *
    have a5 := putList_len 6 m.terms s4
    generalize putList 6 m.terms s4 = s5 at *
    have a6 := putEntries_len m.es s5
    generalize putEntries m.es s5 = s6 at *
    have a7 := putList_len 5 m.old s6
    generalize putList 5 m.old s6 = s7 at *
    have a8 := putList_len 5 m.new s7
    simp only [List.length_nil, List.length_cons] at a1 a3
    omega
  rw [e] at h1
  refine ⟨by simp [Mg.bytes, num8, be8], ?_⟩
  simpa using h1

/-- bytes that stand in memory. -/
structure Has (w : World) (a : Addr) (n cap : Nat) (A : List Nat) : Prop where
  len : A.length = n
  room : n ≤ cap
  big : cap ≤ maxLen
  are : Bytes w (some a) A
theorem Has.below {w w' : World} {a : Addr} {n cap : Nat} {A : List Nat} (h : Has w a n cap A) (hb : Below w.heap.size w w') : Has w' a n cap A := ⟨h.len, h.room, h.big, h.are.below hb⟩
theorem own_has {base : Nat} {w : World} {v : Value} {A : List Nat} (h : Own base w v A) (hA : 0 < A.length) : ∃ a cap, v = .slice (some a) A.length cap ∧ Has w a A.length cap A := by
  obtain ⟨ao, cap, rfl, hl, hm, hb, hn, _⟩ := h.slice
  cases ao with
  | none => have := hn rfl; omega
  | some a => exact ⟨a, cap, rfl, rfl, hl, hm, hb⟩

theorem parseMsg_front {A : List Nat} (hA : MsgBytes A) {a : Addr} {n cap : Nat} {w : World} (h : Has w a n cap A) (hS : Start w) (k : Nat) (hk : k < n) :
    Calls Tryd.prog 22 #[.slice (some a) k cap] w fun e w' => e = .returned (.tuple #[.agg #[.int .i64 0, .int .i64 0, .int .i64 0, .int .i64 0, .int .i64 0, .int .i64 0, .int .i64 0, .int .i64 0, .bool false, .slice none 0 0, .slice none 0 0, .slice none 0 0, .slice none 0 0], .int .i64 8]) ∧ Below w.heap.size w w' := by
  have hl := hA.len.2
  have hln := h.len
  obtain ⟨m, hm, rfl⟩ := hA
  have hc := cut_told (msgR_reads hm) k (by omega)
  refine (parseMsg_any (some a) k cap (m.bytes.take k) w ⟨by rw [List.length_take]; omega, by have := h.room; omega, (fun h => by cases h), by omega, h.are.take k⟩ hS).mono ?_
  rintro e w' ⟨cs, rfl, hb, _, hz⟩
  have hc' : (rend k (rmsg (m.bytes.take k) (0, 0)).2).2 = 8 := hc
  rw [hc'] at hz ⊢
  rw [hz (by decide)]
  exact ⟨rfl, hb⟩
theorem parseEntry_front {A : List Nat} (hA : EntBytes A) {a : Addr} {n cap : Nat} {w : World} (h : Has w a n cap A) (hS : Start w) (k : Nat) (hk : k < n) :
    Calls Tryd.prog 13 #[.slice (some a) k cap] w fun e w' => e = .returned (.tuple #[.agg #[.int .i64 0, .int .i64 0, .int .i64 0, .string ⟨#[]⟩, .slice none 0 0, .int .i64 0], .int .i64 8]) ∧ Below w.heap.size w w' := by
  have hl := hA.len.2
  have hln := h.len
  obtain ⟨m, hm, rfl⟩ := hA
  have hc := cut_told (entryR_reads hm) k (by omega)
  refine (parseEntry_any (some a) k cap (m.bytes.take k) w ⟨by rw [List.length_take]; omega, by have := h.room; omega, (fun h => by cases h), by omega, h.are.take k⟩ hS).mono ?_
  rintro e w' ⟨cs, rfl, hb, _, hz⟩
  have hc' : (rend k (rentry (m.bytes.take k) (0, 0)).2).2 = 8 := hc
  rw [hc'] at hz ⊢
  rw [hz (by decide)]
  exact ⟨rfl, hb⟩
theorem parseMsg_more {A : List Nat} (hA : MsgBytes A) {ao : Option Addr} {n cap : Nat} {w : World} {base : Nat} (hn : A.length = n) (h : Own base w (.slice ao (n + 1) cap) (A ++ [0])) (hS : Start w) :
    Calls Tryd.prog 22 #[.slice ao (n + 1) cap] w fun e w' => e = .returned (.tuple #[.agg #[.int .i64 0, .int .i64 0, .int .i64 0, .int .i64 0, .int .i64 0, .int .i64 0, .int .i64 0, .int .i64 0, .bool false, .slice none 0 0, .slice none 0 0, .slice none 0 0, .slice none 0 0], .int .i64 9]) ∧ Below w.heap.size w w' := by
  have hl := hA.len.2
  obtain ⟨m, hm, rfl⟩ := hA
  subst hn
  have hc := more_told (msgR_reads hm) 0
  obtain ⟨ao', cap', e1, hr, _, hb, hnul, _⟩ := h.slice
  simp only [Value.slice.injEq] at e1
  obtain ⟨rfl, _, rfl⟩ := e1
  refine (parseMsg_any ao (m.bytes.length + 1) cap (m.bytes ++ [0]) w ⟨by simp, by simpa using hr, hnul, by omega, hb⟩ hS).mono ?_
  rintro e w' ⟨cs, rfl, hb, _, hz⟩
  have hc' : (rend (m.bytes.length + 1) (rmsg (m.bytes ++ [0]) (0, 0)).2).2 = 9 := hc
  rw [hc'] at hz ⊢
  rw [hz (by decide)]
  exact ⟨rfl, hb⟩
theorem parseEntry_more {A : List Nat} (hA : EntBytes A) {ao : Option Addr} {n cap : Nat} {w : World} {base : Nat} (hn : A.length = n) (h : Own base w (.slice ao (n + 1) cap) (A ++ [0])) (hS : Start w) :
    Calls Tryd.prog 13 #[.slice ao (n + 1) cap] w fun e w' => e = .returned (.tuple #[.agg #[.int .i64 0, .int .i64 0, .int .i64 0, .string ⟨#[]⟩, .slice none 0 0, .int .i64 0], .int .i64 9]) ∧ Below w.heap.size w w' := by
  have hl := hA.len.2
  obtain ⟨m, hm, rfl⟩ := hA
  subst hn
  have hc := more_told (entryR_reads hm) 0
  obtain ⟨ao', cap', e1, hr, _, hb, hnul, _⟩ := h.slice
  simp only [Value.slice.injEq] at e1
  obtain ⟨rfl, _, rfl⟩ := e1
  refine (parseEntry_any ao (m.bytes.length + 1) cap (m.bytes ++ [0]) w ⟨by simp, by simpa using hr, hnul, by omega, hb⟩ hS).mono ?_
  rintro e w' ⟨cs, rfl, hb, _, hz⟩
  have hc' : (rend (m.bytes.length + 1) (rentry (m.bytes ++ [0]) (0, 0)).2).2 = 9 := hc
  rw [hc'] at hz ⊢
  rw [hz (by decide)]
  exact ⟨rfl, hb⟩

/-! ### the two boxes -/
/-- all blocks but the two boxes are as they were. -/
def Same (b : Nat) (w w' : World) : Prop := ∀ k, k < w.heap.size → k ≠ b → k ≠ b + 1 → w'.heap[k]? = w.heap[k]?
theorem Same.refl (b : Nat) (w : World) : Same b w w := fun _ _ _ _ => rfl
theorem Same.trans {b : Nat} {w1 w2 w3 : World} (h : Same b w1 w2) (h' : Same b w2 w3) : Same b w1 w3 := fun k hk n1 n2 => by
  have e := h k hk n1 n2
  have hk2 : k < w2.heap.size := by
    by_cases h2 : k < w2.heap.size
    · exact h2
    · rw [Array.getElem?_eq_none (by omega), Array.getElem?_eq_getElem hk] at e; cases e
  rw [h' k hk2 n1 n2, e]
theorem Same.below {b : Nat} {w w' : World} (h : Below w.heap.size w w') : Same b w w' := fun k hk _ _ => h.block k hk
theorem Same.kept {b c base : Nat} {w w' : World} (h : Kept base (fun k => k = c) w w') (hc : c = b ∨ c = b + 1) : Same b w w' := fun k hk n1 n2 => h.2 k hk (by omega)
theorem Same.drew {b : Nat} {w w' : World} (h : Same b w w') : Same b w w'.drew := h
theorem Same.cell {b : Nat} {w w' : World} (h : Same b w w') {a : Addr} {u : Value} (hc : w.cell? a = some u) (n1 : a.block ≠ b) (n2 : a.block ≠ b + 1) : w'.cell? a = some u := by
  rw [World.cell?_of_block (w := w) (a := a) (h _ (blk_lt hc) n1 n2)]; exact hc
/-- what lies below the boxes stays. -/
theorem IntsAt.same {b : Nat} {w0 w w' : World} {ao : Option Addr} {n cap : Nat} {ys : List Int} (h : IntsAt w0 ao n cap ys) (hb : w0.heap.size ≤ b) (h0 : Below w0.heap.size w0 w) (hs : Same b w w') : IntsAt w' ao n cap ys :=
  ⟨h.len, h.room, h.big, h.nul, fun j hj => by
    obtain ⟨a, ea, hc⟩ := h.are j hj
    have hlt := blk_lt hc
    exact ⟨a, ea, hs.cell (by rw [h0.cell hlt]; exact hc) (by omega) (by omega)⟩⟩
/-- entries in a row of the call's own, their lists below. -/
theorem six_same {b : Nat} {w0 w w' : World} {vs : List Value} {gs : List En} {base n cap : Nat} {ao : Option Addr} (h : Six w0 vs gs) (hn : gs.length = n) (hb : w0.heap.size ≤ b) (hbase : b + 2 ≤ base) (h0 : Below w0.heap.size w0 w) (ho : w.ownsRow base 24 6 (.slice ao n cap) n vs) (hs : Same b w w') : EntsAt w' ao gs :=
  h.at hn (own_kept ho fun k hk => hs k (ho.lt k hk).2 (by have := (ho.lt k hk).1; omega) (by have := (ho.lt k hk).1; omega)) (fun a u hc => by
    have hlt := blk_lt hc
    exact hs.cell (by rw [h0.cell hlt]; exact hc) (by omega) (by omega))

structure MsgAt (w : World) (b : Nat) (m : Mg) (aot aoe aoo aon : Option Addr) (ct ce co cn : Nat) : Prop where
  box : w.heap[b]? = some (.cells #[.int .i64 m.src, .int .i64 m.to, .int .i64 m.gen, .int .i64 m.kind, .int .i64 m.term, .int .i64 m.index, .int .i64 m.last, .int .i64 m.commit, .bool m.yes, .slice aot m.terms.length ct, .slice aoe m.es.length ce, .slice aoo m.old.length co, .slice aon m.new.length cn] 41 (0, 0))
  ok : m.ok
  room : m.es.length ≤ ce ∧ ce ≤ maxLen ∧ (aoe = none → ce = 0)
  t : ∀ w', Same b w w' → IntsAt w' aot m.terms.length ct m.terms
  e : ∀ w', Same b w w' → EntsAt w' aoe m.es
  o : ∀ w', Same b w w' → IntsAt w' aoo m.old.length co m.old
  n : ∀ w', Same b w w' → IntsAt w' aon m.new.length cn m.new
structure EntAt (w : World) (b : Nat) (e : En) (ao : Option Addr) (cap : Nat) : Prop where
  box : w.heap[b + 1]? = some (.cells #[.int .i64 e.kind, .int .i64 e.client, .int .i64 e.seq, .string e.text, .slice ao e.ms.length cap, .int .i64 e.to] 24 (0, 0))
  ok : e.ok
  size : e.text.size ≤ maxLen
  i : ∀ w', Same b w w' → IntsAt w' ao e.ms.length cap e.ms
def BothAt (w : World) (b : Nat) : Prop := (∃ m aot aoe aoo aon ct ce co cn, MsgAt w b m aot aoe aoo aon ct ce co cn) ∧ ∃ e ao cap, EntAt w b e ao cap
theorem MsgAt.below {w w' : World} {b : Nat} {m : Mg} {aot aoe aoo aon : Option Addr} {ct ce co cn : Nat} (h : MsgAt w b m aot aoe aoo aon ct ce co cn) (hb : Below w.heap.size w w') : MsgAt w' b m aot aoe aoo aon ct ce co cn :=
  ⟨(hb.block _ (heap_lt h.box)).trans h.box, h.ok, h.room, fun x hx => h.t x ((Same.below hb).trans hx), fun x hx => h.e x ((Same.below hb).trans hx), fun x hx => h.o x ((Same.below hb).trans hx), fun x hx => h.n x ((Same.below hb).trans hx)⟩
theorem EntAt.same {w w' : World} {b : Nat} {e : En} {ao : Option Addr} {cap : Nat} (h : EntAt w b e ao cap) (hs : Same b w w') (hb : w'.heap[b + 1]? = w.heap[b + 1]?) : EntAt w' b e ao cap :=
  ⟨hb.trans h.box, h.ok, h.size, fun x hx => h.i x (hs.trans hx)⟩
/-- fewer entries. -/
theorem MsgAt.ents {w w' : World} {b : Nat} {m : Mg} {aot aoe aoo aon : Option Addr} {ct ce co cn : Nat} (h : MsgAt w b m aot aoe aoo aon ct ce co cn) (k : Nat) (hk : k ≤ m.es.length) (hs : Same b w w') (hb : w'.heap[b]? = some (.cells #[.int .i64 m.src, .int .i64 m.to, .int .i64 m.gen, .int .i64 m.kind, .int .i64 m.term, .int .i64 m.index, .int .i64 m.last, .int .i64 m.commit, .bool m.yes, .slice aot m.terms.length ct, .slice aoe k ce, .slice aoo m.old.length co, .slice aon m.new.length cn] 41 (0, 0))) :
    MsgAt w' b { m with es := m.es.take k } aot aoe aoo aon ct ce co cn := by
  have e3 : (m.es.take k).length = k := by rw [List.length_take]; omega
  refine ⟨by simp only [e3]; exact hb, ⟨h.ok.kind, h.ok.terms, ?_, h.ok.old, h.ok.new, fun e he => h.ok.eachE e (List.mem_of_mem_take he)⟩, ⟨by simp only [e3]; exact Nat.le_trans hk h.room.1, h.room.2⟩, fun x hx => h.t x (hs.trans hx), fun x hx => (h.e x (hs.trans hx)).take k, fun x hx => h.o x (hs.trans hx), fun x hx => h.n x (hs.trans hx)⟩
  simp only [e3]
  have := ok6_len h.ok.es
  exact len_ok6 (by omega)
/-- fewer terms. -/
theorem MsgAt.terms {w w' : World} {b : Nat} {m : Mg} {aot aoe aoo aon : Option Addr} {ct ce co cn : Nat} (h : MsgAt w b m aot aoe aoo aon ct ce co cn) (k : Nat) (hk : k ≤ m.terms.length) (hs : Same b w w') (hb : w'.heap[b]? = some (.cells #[.int .i64 m.src, .int .i64 m.to, .int .i64 m.gen, .int .i64 m.kind, .int .i64 m.term, .int .i64 m.index, .int .i64 m.last, .int .i64 m.commit, .bool m.yes, .slice aot k ct, .slice aoe m.es.length ce, .slice aoo m.old.length co, .slice aon m.new.length cn] 41 (0, 0))) :
    MsgAt w' b { m with terms := m.terms.take k } aot aoe aoo aon ct ce co cn := by
  have e3 : (m.terms.take k).length = k := by rw [List.length_take]; omega
  refine ⟨by simp only [e3]; exact hb, ⟨h.ok.kind, ?_, h.ok.es, h.ok.old, h.ok.new, h.ok.eachE⟩, h.room, fun x hx => ?_, fun x hx => h.e x (hs.trans hx), fun x hx => h.o x (hs.trans hx), fun x hx => h.n x (hs.trans hx)⟩
  · simp only [e3]
    have := ok6_len h.ok.terms
    exact len_ok6 (by omega)
  · have h1 := (h.t x (hs.trans hx)).take k
    simp only [e3]
    rw [Nat.min_eq_right hk] at h1
    exact h1
theorem chain13 {y W : World} {b : Nat} {v0 v1 v2 v3 v4 v5 v6 v7 v8 v9 v10 v11 v12 z0 z1 z2 z3 z4 z5 z6 z7 z8 z9 z10 z11 z12 : Value} (hz : y.heap[b]? = some (.cells #[z0, z1, z2, z3, z4, z5, z6, z7, z8, z9, z10, z11, z12] 41 (0, 0))) (hW : W = (((((((((((((y.setCell ⟨b, 0, none⟩ v0).setCell ⟨b, 1, none⟩ v1).setCell ⟨b, 2, none⟩ v2).setCell ⟨b, 3, none⟩ v3).setCell ⟨b, 4, none⟩ v4).setCell ⟨b, 5, none⟩ v5).setCell ⟨b, 6, none⟩ v6).setCell ⟨b, 7, none⟩ v7).setCell ⟨b, 8, none⟩ v8).setCell ⟨b, 9, none⟩ v9).setCell ⟨b, 10, none⟩ v10).setCell ⟨b, 11, none⟩ v11).setCell ⟨b, 12, none⟩ v12)) : W.heap[b]? = some (.cells #[v0, v1, v2, v3, v4, v5, v6, v7, v8, v9, v10, v11, v12] 41 (0, 0)) ∧ Kept b (fun k => k = b) y W := by
  rw [hW]
  have q0 : (y.setCell ⟨b, 0, none⟩ v0).heap[b]? = some (.cells #[v0, z1, z2, z3, z4, z5, z6, z7, z8, z9, z10, z11, z12] 41 (0, 0)) := setCell_block hz
  have q1 : ((y.setCell ⟨b, 0, none⟩ v0).setCell ⟨b, 1, none⟩ v1).heap[b]? = some (.cells #[v0, v1, z2, z3, z4, z5, z6, z7, z8, z9, z10, z11, z12] 41 (0, 0)) := setCell_block q0
  have q2 : (((y.setCell ⟨b, 0, none⟩ v0).setCell ⟨b, 1, none⟩ v1).setCell ⟨b, 2, none⟩ v2).heap[b]? = some (.cells #[v0, v1, v2, z3, z4, z5, z6, z7, z8, z9, z10, z11, z12] 41 (0, 0)) := setCell_block q1
  have q3 : ((((y.setCell ⟨b, 0, none⟩ v0).setCell ⟨b, 1, none⟩ v1).setCell ⟨b, 2, none⟩ v2).setCell ⟨b, 3, none⟩ v3).heap[b]? = some (.cells #[v0, v1, v2, v3, z4, z5, z6, z7, z8, z9, z10, z11, z12] 41 (0, 0)) := setCell_block q2
  have q4 : (((((y.setCell ⟨b, 0, none⟩ v0).setCell ⟨b, 1, none⟩ v1).setCell ⟨b, 2, none⟩ v2).setCell ⟨b, 3, none⟩ v3).setCell ⟨b, 4, none⟩ v4).heap[b]? = some (.cells #[v0, v1, v2, v3, v4, z5, z6, z7, z8, z9, z10, z11, z12] 41 (0, 0)) := setCell_block q3
  have q5 : ((((((y.setCell ⟨b, 0, none⟩ v0).setCell ⟨b, 1, none⟩ v1).setCell ⟨b, 2, none⟩ v2).setCell ⟨b, 3, none⟩ v3).setCell ⟨b, 4, none⟩ v4).setCell ⟨b, 5, none⟩ v5).heap[b]? = some (.cells #[v0, v1, v2, v3, v4, v5, z6, z7, z8, z9, z10, z11, z12] 41 (0, 0)) := setCell_block q4
  have q6 : (((((((y.setCell ⟨b, 0, none⟩ v0).setCell ⟨b, 1, none⟩ v1).setCell ⟨b, 2, none⟩ v2).setCell ⟨b, 3, none⟩ v3).setCell ⟨b, 4, none⟩ v4).setCell ⟨b, 5, none⟩ v5).setCell ⟨b, 6, none⟩ v6).heap[b]? = some (.cells #[v0, v1, v2, v3, v4, v5, v6, z7, z8, z9, z10, z11, z12] 41 (0, 0)) := setCell_block q5
  have q7 : ((((((((y.setCell ⟨b, 0, none⟩ v0).setCell ⟨b, 1, none⟩ v1).setCell ⟨b, 2, none⟩ v2).setCell ⟨b, 3, none⟩ v3).setCell ⟨b, 4, none⟩ v4).setCell ⟨b, 5, none⟩ v5).setCell ⟨b, 6, none⟩ v6).setCell ⟨b, 7, none⟩ v7).heap[b]? = some (.cells #[v0, v1, v2, v3, v4, v5, v6, v7, z8, z9, z10, z11, z12] 41 (0, 0)) := setCell_block q6
  have q8 : (((((((((y.setCell ⟨b, 0, none⟩ v0).setCell ⟨b, 1, none⟩ v1).setCell ⟨b, 2, none⟩ v2).setCell ⟨b, 3, none⟩ v3).setCell ⟨b, 4, none⟩ v4).setCell ⟨b, 5, none⟩ v5).setCell ⟨b, 6, none⟩ v6).setCell ⟨b, 7, none⟩ v7).setCell ⟨b, 8, none⟩ v8).heap[b]? = some (.cells #[v0, v1, v2, v3, v4, v5, v6, v7, v8, z9, z10, z11, z12] 41 (0, 0)) := setCell_block q7
  have q9 : ((((((((((y.setCell ⟨b, 0, none⟩ v0).setCell ⟨b, 1, none⟩ v1).setCell ⟨b, 2, none⟩ v2).setCell ⟨b, 3, none⟩ v3).setCell ⟨b, 4, none⟩ v4).setCell ⟨b, 5, none⟩ v5).setCell ⟨b, 6, none⟩ v6).setCell ⟨b, 7, none⟩ v7).setCell ⟨b, 8, none⟩ v8).setCell ⟨b, 9, none⟩ v9).heap[b]? = some (.cells #[v0, v1, v2, v3, v4, v5, v6, v7, v8, v9, z10, z11, z12] 41 (0, 0)) := setCell_block q8
  have q10 : (((((((((((y.setCell ⟨b, 0, none⟩ v0).setCell ⟨b, 1, none⟩ v1).setCell ⟨b, 2, none⟩ v2).setCell ⟨b, 3, none⟩ v3).setCell ⟨b, 4, none⟩ v4).setCell ⟨b, 5, none⟩ v5).setCell ⟨b, 6, none⟩ v6).setCell ⟨b, 7, none⟩ v7).setCell ⟨b, 8, none⟩ v8).setCell ⟨b, 9, none⟩ v9).setCell ⟨b, 10, none⟩ v10).heap[b]? = some (.cells #[v0, v1, v2, v3, v4, v5, v6, v7, v8, v9, v10, z11, z12] 41 (0, 0)) := setCell_block q9
  have q11 : ((((((((((((y.setCell ⟨b, 0, none⟩ v0).setCell ⟨b, 1, none⟩ v1).setCell ⟨b, 2, none⟩ v2).setCell ⟨b, 3, none⟩ v3).setCell ⟨b, 4, none⟩ v4).setCell ⟨b, 5, none⟩ v5).setCell ⟨b, 6, none⟩ v6).setCell ⟨b, 7, none⟩ v7).setCell ⟨b, 8, none⟩ v8).setCell ⟨b, 9, none⟩ v9).setCell ⟨b, 10, none⟩ v10).setCell ⟨b, 11, none⟩ v11).heap[b]? = some (.cells #[v0, v1, v2, v3, v4, v5, v6, v7, v8, v9, v10, v11, z12] 41 (0, 0)) := setCell_block q10
  have q12 : (((((((((((((y.setCell ⟨b, 0, none⟩ v0).setCell ⟨b, 1, none⟩ v1).setCell ⟨b, 2, none⟩ v2).setCell ⟨b, 3, none⟩ v3).setCell ⟨b, 4, none⟩ v4).setCell ⟨b, 5, none⟩ v5).setCell ⟨b, 6, none⟩ v6).setCell ⟨b, 7, none⟩ v7).setCell ⟨b, 8, none⟩ v8).setCell ⟨b, 9, none⟩ v9).setCell ⟨b, 10, none⟩ v10).setCell ⟨b, 11, none⟩ v11).setCell ⟨b, 12, none⟩ v12).heap[b]? = some (.cells #[v0, v1, v2, v3, v4, v5, v6, v7, v8, v9, v10, v11, v12] 41 (0, 0)) := setCell_block q11
  exact ⟨q12, ((((((((((((((Kept.refl b (fun k => k = b) y).setCell (p := ⟨b, 0, none⟩) (Nat.le_refl _) rfl v0).setCell (p := ⟨b, 1, none⟩) (Nat.le_refl _) rfl v1).setCell (p := ⟨b, 2, none⟩) (Nat.le_refl _) rfl v2).setCell (p := ⟨b, 3, none⟩) (Nat.le_refl _) rfl v3).setCell (p := ⟨b, 4, none⟩) (Nat.le_refl _) rfl v4).setCell (p := ⟨b, 5, none⟩) (Nat.le_refl _) rfl v5).setCell (p := ⟨b, 6, none⟩) (Nat.le_refl _) rfl v6).setCell (p := ⟨b, 7, none⟩) (Nat.le_refl _) rfl v7).setCell (p := ⟨b, 8, none⟩) (Nat.le_refl _) rfl v8).setCell (p := ⟨b, 9, none⟩) (Nat.le_refl _) rfl v9).setCell (p := ⟨b, 10, none⟩) (Nat.le_refl _) rfl v10).setCell (p := ⟨b, 11, none⟩) (Nat.le_refl _) rfl v11).setCell (p := ⟨b, 12, none⟩) (Nat.le_refl _) rfl v12)⟩
theorem chain6 {y W : World} {b : Nat} {v0 v1 v2 v3 v4 v5 z0 z1 z2 z3 z4 z5 : Value} (hz : y.heap[b]? = some (.cells #[z0, z1, z2, z3, z4, z5] 24 (0, 0))) (hW : W = ((((((y.setCell ⟨b, 0, none⟩ v0).setCell ⟨b, 1, none⟩ v1).setCell ⟨b, 2, none⟩ v2).setCell ⟨b, 3, none⟩ v3).setCell ⟨b, 4, none⟩ v4).setCell ⟨b, 5, none⟩ v5)) : W.heap[b]? = some (.cells #[v0, v1, v2, v3, v4, v5] 24 (0, 0)) ∧ Kept b (fun k => k = b) y W := by
  rw [hW]
  have q0 : (y.setCell ⟨b, 0, none⟩ v0).heap[b]? = some (.cells #[v0, z1, z2, z3, z4, z5] 24 (0, 0)) := setCell_block hz
  have q1 : ((y.setCell ⟨b, 0, none⟩ v0).setCell ⟨b, 1, none⟩ v1).heap[b]? = some (.cells #[v0, v1, z2, z3, z4, z5] 24 (0, 0)) := setCell_block q0
  have q2 : (((y.setCell ⟨b, 0, none⟩ v0).setCell ⟨b, 1, none⟩ v1).setCell ⟨b, 2, none⟩ v2).heap[b]? = some (.cells #[v0, v1, v2, z3, z4, z5] 24 (0, 0)) := setCell_block q1
  have q3 : ((((y.setCell ⟨b, 0, none⟩ v0).setCell ⟨b, 1, none⟩ v1).setCell ⟨b, 2, none⟩ v2).setCell ⟨b, 3, none⟩ v3).heap[b]? = some (.cells #[v0, v1, v2, v3, z4, z5] 24 (0, 0)) := setCell_block q2
  have q4 : (((((y.setCell ⟨b, 0, none⟩ v0).setCell ⟨b, 1, none⟩ v1).setCell ⟨b, 2, none⟩ v2).setCell ⟨b, 3, none⟩ v3).setCell ⟨b, 4, none⟩ v4).heap[b]? = some (.cells #[v0, v1, v2, v3, v4, z5] 24 (0, 0)) := setCell_block q3
  have q5 : ((((((y.setCell ⟨b, 0, none⟩ v0).setCell ⟨b, 1, none⟩ v1).setCell ⟨b, 2, none⟩ v2).setCell ⟨b, 3, none⟩ v3).setCell ⟨b, 4, none⟩ v4).setCell ⟨b, 5, none⟩ v5).heap[b]? = some (.cells #[v0, v1, v2, v3, v4, v5] 24 (0, 0)) := setCell_block q4
  exact ⟨q5, (((((((Kept.refl b (fun k => k = b) y).setCell (p := ⟨b, 0, none⟩) (Nat.le_refl _) rfl v0).setCell (p := ⟨b, 1, none⟩) (Nat.le_refl _) rfl v1).setCell (p := ⟨b, 2, none⟩) (Nat.le_refl _) rfl v2).setCell (p := ⟨b, 3, none⟩) (Nat.le_refl _) rfl v3).setCell (p := ⟨b, 4, none⟩) (Nat.le_refl _) rfl v4).setCell (p := ⟨b, 5, none⟩) (Nat.le_refl _) rfl v5)⟩

theorem encMsg_at {w : World} {b : Nat} {m : Mg} {aot aoe aoo aon : Option Addr} {ct ce co cn : Nat} (h : MsgAt w b m aot aoe aoo aon ct ce co cn) (hS : Start w) :
    Calls Tryd.prog 16 #[.agg #[.int .i64 m.src, .int .i64 m.to, .int .i64 m.gen, .int .i64 m.kind, .int .i64 m.term, .int .i64 m.index, .int .i64 m.last, .int .i64 m.commit, .bool m.yes, .slice aot m.terms.length ct, .slice aoe m.es.length ce, .slice aoo m.old.length co, .slice aon m.new.length cn]] w fun e w' => ∃ A a cap, e = .returned (.tuple #[.slice (some a) A.length cap, .int .i64 0]) ∧ MsgBytes A ∧ Has w' a A.length cap A ∧ Below w.heap.size w w' := by
  have i1 := h.t w (Same.refl _ _)
  have i2 := h.e w (Same.refl _ _)
  have i3 := h.o w (Same.refl _ _)
  have i4 := h.n w (Same.refl _ _)
  have hle := ok6_len h.ok.es
  refine (encodeMsg_any m.src m.to m.gen m.kind m.term m.index m.last m.commit m.yes aot m.terms.length ct m.terms rfl aoe m.es.length ce m.es rfl (by omega) aoo aon m.old.length m.new.length co cn m.old m.new rfl rfl w (fun b w1 _ hb hw => i1.ints hb hw) (fun b w1 _ hb hw => i2.ents hb hw) (fun b w1 _ hb hw => i3.ints hb hw) (fun b w1 _ hb hw => i4.ints hb hw) hS).mono ?_
  have hp : putMsg m.src m.to m.gen m.kind m.term m.index m.last m.commit m.yes m.terms m.es m.old m.new ([], 0) = (m.bytes, 0) := put_ok h.ok []
  rw [hp]
  rintro e w' ⟨v, rfl, ho, hb⟩
  have hA : MsgBytes m.bytes := ⟨m, h.ok, rfl⟩
  have ho' : Own w.heap.size w' v m.bytes := ho
  obtain ⟨a, cap, rfl, hh⟩ := own_has ho' hA.len.1
  exact ⟨m.bytes, a, cap, rfl, hA, hh, hb⟩
theorem encEnt_at {w : World} {b : Nat} {e : En} {ao : Option Addr} {cap : Nat} (h : EntAt w b e ao cap) (hS : Start w) :
    Calls Tryd.prog 9 #[.agg #[.int .i64 e.kind, .int .i64 e.client, .int .i64 e.seq, .string e.text, .slice ao e.ms.length cap, .int .i64 e.to]] w fun r w' => ∃ A a cap, r = .returned (.tuple #[.slice (some a) A.length cap, .int .i64 0]) ∧ EntBytes A ∧ Has w' a A.length cap A ∧ Below w.heap.size w w' := by
  have i1 := h.i w (Same.refl _ _)
  refine (encodeEntry_any e.kind e.client e.seq e.to e.text h.size ao e.ms.length cap e.ms rfl w i1.are hS).mono ?_
  have hp : putEntry e.kind e.client e.seq e.text e.ms e.to ([], 0) = (e.bytes, 0) := putE_ok h.ok []
  rw [hp]
  rintro r w' ⟨v, rfl, ho, hb⟩
  have hA : EntBytes e.bytes := ⟨e, h.ok, rfl⟩
  have ho' : Own w.heap.size w' v e.bytes := ho
  obtain ⟨a, cap, rfl, hh⟩ := own_has ho' hA.len.1
  exact ⟨e.bytes, a, cap, rfl, hA, hh, hb⟩

/-! ### append of bytes -/
theorem u8s_append (a b : List Nat) : u8s (a ++ b) = u8s a ++ u8s b := by simp [u8s]
theorem own_empty (base : Nat) (w : World) (h : base ≤ w.heap.size) : Own base (w.alloc (.cells #[] 5)) (.slice (some ⟨w.heap.size, 0, none⟩) 0 0) [] :=
  ⟨World.ownsRow_made w #[] 0 h (by decide) rfl, by simp⟩
/-- append onto a row of the call's own, the source bytes that may be nil. -/
theorem wpList_append_bytes {w : World} {ops : Array Oper} {rest : List Oper} {o : Oper} {a : Act} {Q : Exit → Act → World → Prop} (hgd : o.guard = none) (s x : Operand)
    (ho : o.op = .call { callee := .builtin .append, args := #[s, x], argTypes := #[27, 27] }) (base : Nat) (v : Value) (xs : List Nat) (nx : Nat) (hnx : xs.length = nx) (hs : a.eval s = v) (hown : Own base w v xs)
    (ao : Option Addr) (m c : Nat) (bs : List Nat) (hx : a.eval x = .slice ao m c) (hm : bs.length = m) (hby : Bytes w ao bs) (hc : ao = none → c = 0) (hl : nx + m ≤ 1000000000000) (hb : base ≤ w.heap.size)
    (h : ∀ ao' cap' w', Own base w' (.slice ao' (nx + m) cap') (xs ++ bs) → Below base w w' → (∀ k, k < w.heap.size → v.ownBlock ≠ some k → w'.heap[k]? = w.heap[k]?) → wpList Tryd.prog ops Q rest (a.put o.dst (.slice ao' (nx + m) cap')) w') :
    wpList Tryd.prog ops Q (o :: rest) a w := by
  obtain ⟨i0, hi, hz0, hz1, hz2⟩ := info_parts Tryd.info5
  subst hnx
  cases ao with
  | none =>
    obtain rfl := hby.none_nil
    obtain rfl := hc rfl
    obtain rfl : m = 0 := hm.symm
    obtain ⟨aov, capv, rfl, _⟩ := hown.slice
    refine wpList_append_own_none hgd s x 27 ho base 5 i0 1 Tryd.underlying27 hi _ _ _ hs hown.1 hx ?_
    exact h aov capv w (by simpa using hown) (Below.refl _ _) (fun _ _ _ => rfl)
  | some ad =>
    refine wpList_append_own _ hgd s x 27 ho base 5 i0 (.int .u8 0) 1 1 Tryd.underlying27 hi hz0 hz1 hz2 rfl (by decide) _ _ _ hs hown.1 ad m c (u8s bs) hx (by simp [u8s, hm]) hby.news (u8s_one bs) (by unfold maxLen; omega) (by omega) hb ?_
    intro v' w' own' g' _
    have o' : Own base w' v' (xs ++ bs) := by
      refine ⟨?_, ?_⟩
      · rw [List.length_append, hm, u8s_append]; exact own'
      · intro y hy
        rcases List.mem_append.1 hy with h1 | h1
        · exact hown.2 y h1
        · exact hby.1 y h1
    obtain ⟨ao', cap', rfl⟩ : ∃ ao' cap', v' = .slice ao' (xs.length + m) cap' := by
      rcases own'.2 with ⟨rfl, h0⟩ | ⟨gb, cap2, cur, rfl, _⟩
      · exact ⟨none, 0, by rw [h0]⟩
      · exact ⟨_, cap2, rfl⟩
    refine h ao' cap' w' o' ((Below.refl _ _).grown g' hb (fun k hk => (hown.1.lt k hk).1)) (fun k hk hn => ?_)
    obtain ⟨_, _, _, _, hold⟩ := g'
    exact hold k hk (fun e => hn e.symm)

end Go.Proofs.YtojmnlbdhpledaaDoor
