/- ClientPlays: both tables side by side. -/
import Derived.Test.YtkalpdfigdaalaaUXPut
import Derived.Test.YtkalpdfigdaalaaUSame
namespace Go.Proofs.Ytkalpdfigdaalaa
open Go.RowKit Go.Maps
attribute [local go_sem ↓] Go.wp_at_zero Go.wp_at_succ

/-- a table and the document's own, in memory that is not older than a world, and none of some blocks. -/
structure PyS (b0 : Nat) (X : Nat → Prop) (w : World) (p q x : Nat) (es fs : List En) : Prop where
  ex : ∃ D rv, Tb D w p q es ∧ (∀ k, D k → b0 ≤ k ∧ ¬ X k) ∧ XTb b0 b0 w x rv fs ∧ ¬ D x ∧ (∀ k, rv.ownBlock = some k → ¬ D k ∧ ¬ X k) ∧ ¬ X x
  size : b0 ≤ w.heap.size
theorem PyS.below {b0 : Nat} {X : Nat → Prop} {w w' : World} {p q x : Nat} {es fs : List En} (h : PyS b0 X w p q x es fs) (hb : Below w.heap.size w w') : PyS b0 X w' p q x es fs := by
  obtain ⟨⟨D, rv, h1, h2, h3, h4, h5, h6⟩, hs⟩ := h
  exact ⟨⟨D, rv, h1.below hb, h2, h3.below hb, h4, h5, h6⟩, Nat.le_trans hs hb.size⟩
/-- blocks that are made later are none of theirs. -/
theorem PyS.with {b0 : Nat} {X : Nat → Prop} {w w' : World} {p q x : Nat} {es fs : List En} (h : PyS b0 X w p q x es fs) (hb : Below w.heap.size w w') {Y : Nat → Prop} (hY : ∀ k, Y k → w.heap.size ≤ k) : PyS b0 Y w' p q x es fs := by
  obtain ⟨⟨D, rv, h1, h2, h3, h4, h5, h6⟩, hs⟩ := h
  have hx := heap_lt h3.box
  have hrv : ∀ k, rv.ownBlock = some k → k < w.heap.size := fun k hk => by
    obtain ⟨_, cur, fr, hc⟩ := h3.row.tag k hk
    exact heap_lt hc
  exact ⟨⟨D, rv, h1.below hb, fun k hk => ⟨(h2 k hk).1, fun y => by have := hY k y; have := h1.lt k hk; omega⟩, h3.below hb, h4, fun k hk => ⟨(h5 k hk).1, fun y => by have := hY k y; have := hrv k hk; omega⟩, fun y => by have := hY x y; omega⟩, Nat.le_trans hs hb.size⟩
theorem PyS.drop {b0 : Nat} {X : Nat → Prop} {w : World} {p q x : Nat} {es fs : List En} (h : PyS b0 X w p q x es fs) : PyS b0 (fun _ => False) w p q x es fs := by
  obtain ⟨⟨D, rv, h1, h2, h3, h4, h5, h6⟩, hs⟩ := h
  exact ⟨⟨D, rv, h1, fun k hk => ⟨(h2 k hk).1, fun x => x⟩, h3, h4, fun k hk => ⟨(h5 k hk).1, fun x => x⟩, fun x => x⟩, hs⟩
/-- a store into such a block. -/
theorem PyS.store {b0 B : Nat} {w : World} {p q x : Nat} {es fs : List En} (h : PyS b0 (fun k => k = B) w p q x es fs) (hB : b0 ≤ B) (i : Nat) (u : Value) : PyS b0 (fun k => k = B) (w.setCell ⟨B, i, none⟩ u) p q x es fs := by
  obtain ⟨⟨D, rv, h1, h2, h3, h4, h5, h6⟩, hs⟩ := h
  have hk : Kp (fun k => k = B) w (w.setCell ⟨B, i, none⟩ u) := Kp.setCell (D := fun k => k = B) (Kp.refl _ w) (p := ⟨B, i, none⟩) rfl u
  exact ⟨⟨D, rv, h1.kp hk (fun k hk' => (h2 k hk').2), h2, ⟨hk.block h3.box h6, h3.row.keep hk (fun k hk' => by rw [hk']; exact hB) (fun k hk' => (h5 k hk').2), h3.lo, h3.old⟩, h4, h5, h6⟩, Nat.le_trans hs hk.size⟩
theorem py_put {b0 : Nat} {X : Nat → Prop} {w : World} {p q x : Nat} {es fs : List En} (h : PyS b0 X w p q x es fs) (hX : ∀ k, X k → k < w.heap.size) (hl : es.length ≤ 100000) (hr : Rise es) (e : En) (mo : Option Addr) (m mc : Nat) (hnn : e.ms.length = m) (hln : m ≤ 1000000) (hw : IntsR w mo e.ms) (hc : wf64 e.client) :
    Calls Try.prog 12 #[.pointer (some ⟨p, 0, none⟩), .agg #[.int .i64 e.kind, .int .i64 e.client, .int .i64 e.seq, .string e.text, .slice mo m mc, .int .i64 e.dest]] w fun z w' => z = .returned (.tuple #[.int .i64 (placeOf es e), .bool (decide (mayPut es e))]) ∧ PyS b0 X w' p q x (putOf es e) fs ∧ Below b0 w w' ∧ ∀ k, X k → w'.heap[k]? = w.heap[k]? := by
  obtain ⟨⟨D, rv, h1, h2, h3, h4, h5, h6⟩, hs⟩ := h
  have hx := heap_lt h3.box
  have hrv : ∀ k, rv.ownBlock = some k → k < w.heap.size := fun k hk => by
    obtain ⟨_, cur, fr, hc⟩ := h3.row.tag k hk
    exact heap_lt hc
  refine (put_any h1 hl hr e mo m mc hnn hln hw hc).mono ?_
  rintro z w' ⟨rfl, ht, hk⟩
  refine ⟨rfl, ⟨⟨_, rv, ht, fun k hk' => ?_, ⟨hk.block h3.box h4, h3.row.keep hk (fun k hd => (h2 k hd).1) (fun k hk' => (h5 k hk').1), h3.lo, h3.old⟩, fun hk' => ?_, fun k hk' => ⟨fun hd => ?_, (h5 k hk').2⟩, h6⟩, Nat.le_trans hs hk.size⟩, hk.below (fun k hd => (h2 k hd).1) hs, fun k hx => hk.2 k (hX k hx) (fun hd => (h2 k hd).2 hx)⟩
  · rcases hk' with y | y
    · exact h2 k y
    · exact ⟨by omega, fun hx => by have := hX k hx; omega⟩
  · rcases hk' with y | y
    · exact h4 y
    · omega
  · rcases hd with y | y
    · exact (h5 k hk').1 y
    · have := hrv k hk'; omega
theorem py_xput {b0 : Nat} {X : Nat → Prop} {w : World} {p q x : Nat} {es fs : List En} (h : PyS b0 X w p q x es fs) (hX : ∀ k, X k → k < w.heap.size) (hl : fs.length ≤ 100000) (hr : Rise fs) (e : En) (mo : Option Addr) (m mc : Nat) (hnn : e.ms.length = m) (hln : m ≤ 1000000) (hw : InF (fun k => k < b0) w mo e.ms) :
    Calls Try.prog 13 #[.pointer (some ⟨x, 0, none⟩), .agg #[.int .i64 e.kind, .int .i64 e.client, .int .i64 e.seq, .string e.text, .slice mo m mc, .int .i64 e.dest]] w fun z w' => z = .returned (.tuple #[.int .i64 (placeOf fs e), .bool (decide (mayPut fs e))]) ∧ PyS b0 X w' p q x es (putOf fs e) ∧ Below b0 w w' ∧ ∀ k, X k → w'.heap[k]? = w.heap[k]? := by
  obtain ⟨⟨D, rv, h1, h2, h3, h4, h5, h6⟩, hs⟩ := h
  refine (xput_any h3 (by omega) hr e mo m mc hnn hln hw hs).mono ?_
  rintro z w' ⟨rfl, rv', hx, hk, hv⟩
  have hlo : ∀ k, (k = x ∨ rv.ownBlock = some k) → b0 ≤ k := fun k hk' => by
    rcases hk' with y | y
    · rw [y]; exact h3.lo
    · exact (h3.row.tag k y).1
  have hD : ∀ k, D k → ¬ (k = x ∨ rv.ownBlock = some k) := fun k hd hk' => by
    rcases hk' with y | y
    · exact h4 (y ▸ hd)
    · exact (h5 k y).1 hd
  refine ⟨rfl, ⟨⟨D, rv', h1.kp hk hD, h2, hx, h4, fun k hk' => ?_, h6⟩, Nat.le_trans hs hk.size⟩, hk.below hlo hs, fun k hX' => hk.2 k (hX k hX') (fun hd => ?_)⟩
  · rcases hv k hk' with y | y
    · exact h5 k y
    · exact ⟨fun hd => by have := h1.lt k hd; omega, fun hx => by have := hX k hx; omega⟩
  · rcases hd with y | y
    · exact h6 (y ▸ hX')
    · exact (h5 k y).2 hX'
theorem py_len {b0 : Nat} {X : Nat → Prop} {w : World} {p q x : Nat} {es fs : List En} (h : PyS b0 X w p q x es fs) : Calls Try.prog 14 #[.pointer (some ⟨p, 0, none⟩)] w fun e w' => e = .returned (.int .i64 (es.length : Int)) ∧ Below w.heap.size w w' := by
  obtain ⟨⟨D, rv, h1, -⟩, -⟩ := h
  refine (len_any h1).mono ?_
  rintro e w' ⟨rfl, rfl⟩
  exact ⟨rfl, Below.refl _ _⟩
theorem py_all {b0 : Nat} {X : Nat → Prop} {w : World} {p q x : Nat} {es fs : List En} (h : PyS b0 X w p q x es fs) {n : Nat} (hn : es.length = n) (hl : n ≤ 1000000) :
    Calls Try.prog 16 #[.pointer (some ⟨p, 0, none⟩)] w fun e w' => ∃ b, e = .returned (.slice (some ⟨b, 0, none⟩) n n) ∧ EsR (fun _ => True) w' (some ⟨b, 0, none⟩) es ∧ Below w.heap.size w w' := by
  obtain ⟨⟨D, rv, h1, -⟩, -⟩ := h
  refine (all_any h1 hn hl).mono ?_
  rintro e w' ⟨b, rfl, hr, hb⟩
  exact ⟨b, rfl, hr.esR.mono (fun _ _ => trivial), hb⟩
theorem py_ask {b0 : Nat} {X : Nat → Prop} {w : World} {p q x : Nat} {es fs : List En} (h : PyS b0 X w p q x es fs) (hl : es.length ≤ 1000000) (hr : Rise es) (c s : Int) (hc : wf64 c) :
    Calls Try.prog 17 #[.pointer (some ⟨p, 0, none⟩), .int .i64 c, .int .i64 s] w fun e w' => e = .returned (.tuple #[.int .i64 (findOf es c s).1, .int .i64 (findOf es c s).2]) ∧ Below w.heap.size w w' := by
  obtain ⟨⟨D, rv, h1, -⟩, -⟩ := h
  exact ask_any h1 hl hr c s hc
theorem py_xask {b0 : Nat} {X : Nat → Prop} {w : World} {p q x : Nat} {es fs : List En} (h : PyS b0 X w p q x es fs) (hl : fs.length ≤ 1000000) (c s : Int) :
    Calls Try.prog 18 #[.pointer (some ⟨x, 0, none⟩), .int .i64 c, .int .i64 s] w fun e w' => e = .returned (.tuple #[.int .i64 (findOf fs c s).1, .int .i64 (findOf fs c s).2]) ∧ w' = w := by
  obtain ⟨⟨D, rv, -, -, h3, -⟩, -⟩ := h
  exact xask_any h3 hl c s
/-- the document's row, in this world and all behind it. -/
theorem PyS.row {b0 : Nat} {X : Nat → Prop} {w : World} {p q x : Nat} {es fs : List En} (h : PyS b0 X w p q x es fs) : ∃ xo xc, w.cell? ⟨x, 0, none⟩ = some (.slice xo fs.length xc) ∧ EsR (fun _ => True) w xo fs := by
  obtain ⟨⟨D, rv, -, -, h3, -⟩, -⟩ := h
  obtain ⟨xo, xc, rfl, -, -⟩ := h3.row.slice
  exact ⟨xo, xc, (cell_of_block h3.box).trans rfl, h3.row.esR⟩
/-- a call that answers a number, and changes nothing. -/
theorem step_within {w : World} {ops : Array Oper} {o : Oper} {a : Act} {K : Act → World → Prop} {Q : Exit → Act → World → Prop} {E : Prop} (x : Operand) (m : Int)
    (ho : o.op = .call { callee := .value (.func 11), args := #[x, .const (.int .i64 m)], argTypes := #[3, 3] }) (hg : o.guard = none) (n : Int) (hx : a.eval x = .int .i64 n) (r : Int)
    (hc : Calls Try.prog 11 #[.int .i64 n, .int .i64 m] w fun e w' => e = .returned (.int .i64 r) ∧ w' = w) (h : K (a.put o.dst (.int .i64 r)) w) :
    if Region.wanted o (yielded ops a.tmps) = true then Oper.wp Try.prog o a w K Q else E := by
  refine step_on hg ?_
  have e1 : (execOp a.eval o).run Try.prog w = .ok (.enter 11 #[.int .i64 n, .int .i64 m]) w := by
    unfold execOp
    simp only [ho, resolve, invoke, Sem.run_bind, List.map_toArray, List.map_cons, List.map_nil, hx]
    simp [Act.eval, Deferred.ofValue, Result.andThen]
  unfold Oper.wp
  rw [e1, Oper.upon_enter]
  refine hc.mono ?_
  rintro e w' ⟨rfl, rfl⟩
  exact h
end Go.Proofs.Ytkalpdfigdaalaa
