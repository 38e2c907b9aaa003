/- Logs in memory: what is kept, entries, rows of entries. -/
import Derived.Test.YtmgdkbpbmngibaaKRow
namespace Go.Proofs.Ytmgdkbpbmngibaa
open Go.RowKit Go.Maps

theorem heap_lt {w : World} {k : Nat} {o : Obj} (h : w.heap[k]? = some o) : k < w.heap.size := by
  by_cases hh : k < w.heap.size
  · exact hh
  · rw [Array.getElem?_eq_none (by omega)] at h; cases h
theorem cell_of_block {w : World} {p i : Nat} {cs : Array Value} {t : TypeId} {fr : Nat × Nat} (h : w.heap[p]? = some (.cells cs t fr)) : w.cell? ⟨p, i, none⟩ = cs[i]? := by
  simp [World.cell?, h]
theorem free_of_block {w : World} {p i : Nat} {cs : Array Value} {t : TypeId} (h : w.heap[p]? = some (.cells cs t (0, 0))) : w.frozen? ⟨p, i, none⟩ = false := by
  simp [World.frozen?, h]
theorem setCell_block {w : World} {p i : Nat} {u : Value} {cs : Array Value} {t : TypeId} {fr : Nat × Nat} (h : w.heap[p]? = some (.cells cs t fr)) : (w.setCell ⟨p, i, none⟩ u).heap[p]? = some (.cells (cs.setIfInBounds i u) t fr) := by
  simp [World.setCell, Array.getElem?_modify, h]
theorem Below.stay {w w' : World} (h : Below w.heap.size w w') {k : Nat} {o : Obj} (hk : w.heap[k]? = some o) : w'.heap[k]? = some o := (h.block k (heap_lt hk)).trans hk
theorem below_far {w w1 w2 : World} (h : Below w.heap.size w w1) (k : Below w1.heap.size w1 w2) : Below w.heap.size w w2 := h.trans (k.mono h.size)
theorem box_at (w : World) (o : Obj) : (w.alloc o).heap[w.heap.size]? = some o := heap_alloc_new _ _

/-! ### all but some blocks are kept -/
def Kp (D : Nat → Prop) (w w' : World) : Prop := Kept 0 D w w'
theorem Kp.refl (D : Nat → Prop) (w : World) : Kp D w w := Kept.refl _ _ _
theorem Kp.of_below {D : Nat → Prop} {w w' : World} (h : Below w.heap.size w w') : Kp D w w' := Kept.of_below h (Nat.zero_le _)
theorem Kp.size {D : Nat → Prop} {w w' : World} (h : Kp D w w') : w.heap.size ≤ w'.heap.size := Kept.size h
theorem Kp.trans {D E : Nat → Prop} {a b c : World} (h : Kp D a b) (k : Kp E b c) (he : ∀ j, j < a.heap.size → E j → D j) : Kp D a c := Kept.trans h k he
theorem Kp.mono {D E : Nat → Prop} {a b : World} (h : Kp D a b) (he : ∀ j, j < a.heap.size → D j → E j) : Kp E a b := Kept.mono h (Nat.le_refl _) he
theorem Kp.far {D : Nat → Prop} {a b c : World} (h : Kp D a b) (k : Below b.heap.size b c) : Kp D a c := h.trans (E := fun _ => False) (Kp.of_below k) (fun _ _ x => x.elim)
theorem Kp.block {D : Nat → Prop} {w w' : World} (h : Kp D w w') {k : Nat} {o : Obj} (hk : w.heap[k]? = some o) (hd : ¬ D k) : w'.heap[k]? = some o := (h.2 k (heap_lt hk) hd).trans hk
theorem Kp.cell {D : Nat → Prop} {w w' : World} (h : Kp D w w') {a : Addr} {u : Value} (ha : w.cell? a = some u) (hd : ¬ D a.block) : w'.cell? a = some u := by
  rw [World.cell?_of_block (w := w) (h.2 a.block (blk_lt ha) hd)]; exact ha
theorem Kp.below {D : Nat → Prop} {w w' : World} (h : Kp D w w') {base : Nat} (hd : ∀ k, D k → base ≤ k) (hb : base ≤ w.heap.size) : Below base w w' :=
  ⟨h.1.os, h.1.tape, h.1.output, h.1.size, fun k hk => h.2 k (by omega) (fun x => by have := hd k x; omega)⟩
theorem Kp.setCell {D : Nat → Prop} {a w : World} (h : Kp D a w) {p : Addr} (hf : D p.block) (u : Value) : Kp D a (w.setCell p u) := Kept.setCell h (Nat.zero_le _) hf u
theorem Kp.alloc {D : Nat → Prop} {a w : World} (h : Kp D a w) (o : Obj) : Kp D a (w.alloc o) := Kept.alloc h (Nat.zero_le _) o
theorem Kp.drew {D : Nat → Prop} {a w : World} (h : Kp D a w) : Kp D a w.drew := Kept.drew h
theorem Kp.grown {D : Nat → Prop} {a w w' : World} {row : Option Nat} (h : Kp D a w) (hg : w.grownBy w' row) (hr : ∀ k, k < a.heap.size → row = some k → D k) : Kp D a w' :=
  h.trans (E := fun k => row = some k) ⟨⟨hg.os, hg.tape, hg.output, hg.size, fun k hk => by omega⟩, fun k hk hn => hg.block k hk (fun e => hn e.symm)⟩ hr
/-- new blocks are nobody's. -/
def News (D : Nat → Prop) (w w' : World) (k : Nat) : Prop := D k ∨ (w.heap.size ≤ k ∧ k < w'.heap.size)

/-! ### numbers that lie in some blocks -/
def InF (F : Nat → Prop) (w : World) (ao : Option Addr) (ys : List Int) : Prop := ∀ i, i < ys.length → ∃ a, ao = some a ∧ F a.block ∧ w.cell? (a.add i) = some (.int .i64 (ys.getD i 0))
theorem InF.ints {F : Nat → Prop} {w : World} {ao : Option Addr} {ys : List Int} (h : InF F w ao ys) : IntsR w ao ys := fun i hi => by
  obtain ⟨a, h1, _, h3⟩ := h i hi
  exact ⟨a, h1, h3⟩
theorem InF.kp {F D : Nat → Prop} {w w' : World} {ao : Option Addr} {ys : List Int} (h : InF F w ao ys) (hk : Kp D w w') (hd : ∀ k, F k → ¬ D k) : InF F w' ao ys := fun i hi => by
  obtain ⟨a, h1, h2, h3⟩ := h i hi
  exact ⟨a, h1, h2, hk.cell h3 (by rw [add_block]; exact hd _ h2)⟩
theorem InF.below {F : Nat → Prop} {w w' : World} {ao : Option Addr} {ys : List Int} (h : InF F w ao ys) (hb : Below w.heap.size w w') : InF F w' ao ys := h.kp (D := fun _ => False) (Kp.of_below hb) (fun _ _ x => x)
theorem InF.mono {F G : Nat → Prop} {w : World} {ao : Option Addr} {ys : List Int} (h : InF F w ao ys) (hg : ∀ k, F k → G k) : InF G w ao ys := fun i hi => by
  obtain ⟨a, h1, h2, h3⟩ := h i hi
  exact ⟨a, h1, hg _ h2, h3⟩
theorem IntsR.inF {w : World} {ao : Option Addr} {ys : List Int} (h : IntsR w ao ys) : InF (fun k => k < w.heap.size) w ao ys := fun i hi => by
  obtain ⟨a, h1, h2⟩ := h i hi
  exact ⟨a, h1, by have := blk_lt h2; rwa [add_block] at this, h2⟩
theorem InF.nil (F : Nat → Prop) (w : World) (ao : Option Addr) : InF F w ao [] := fun i hi => by simp at hi
theorem Ir.inF {base : Nat} {w : World} {ao : Option Addr} {n c : Nat} {ys : List Int} (h : Ir base w (.slice ao n c) ys) : InF (fun k => (Value.slice ao n c).ownBlock = some k) w ao ys := fun i hi => by
  obtain ⟨ao', cap, e, hf, _⟩ := h.slice
  cases e
  obtain ⟨a, rfl, h2⟩ := hf.1 i hi
  exact ⟨a, rfl, rfl, h2⟩
theorem Ir.kp {base : Nat} {D : Nat → Prop} {w w' : World} {v : Value} {ys : List Int} (h : Ir base w v ys) (hk : Kp D w w') (hd : ∀ k, v.ownBlock = some k → ¬ D k) : Ir base w' v ys := Kept.own hk h hd
theorem Ir.zero {base : Nat} {w : World} {v : Value} {ys : List Int} (h : Ir base w v ys) : Ir 0 w v ys := by
  refine ⟨h.1, ?_⟩
  rcases h.2 with e | ⟨g, cap, cur, e1, e2, e3⟩
  · exact Or.inl e
  · exact Or.inr ⟨g, cap, cur, e1, Nat.zero_le _, e3⟩

/-! ### entries -/
structure En where
  kind : Int
  client : Int
  seq : Int
  text : ByteArray
  ms : List Int
  dest : Int
def En.cells (e : En) (mv : Value) : List Value := [.int .i64 e.kind, .int .i64 e.client, .int .i64 e.seq, .string e.text, mv, .int .i64 e.dest]
theorem En.cells_one (e : En) {mv : Value} (h : mv.oneCell' = true) : ∀ u ∈ e.cells mv, u.oneCell' = true := fun u hu => by
  simp only [En.cells, List.mem_cons, List.not_mem_nil, or_false] at hu
  rcases hu with rfl | rfl | rfl | rfl | rfl | rfl
  · rfl
  · rfl
  · rfl
  · rfl
  · exact h
  · rfl
/-- a slice of entries, in some blocks. -/
def EsR (F : Nat → Prop) (w : World) (ao : Option Addr) (es : List En) : Prop :=
  ∀ (i : Nat) (e : En), es[i]? = some e → ∃ g off mo cap, ao = some ⟨g, off, none⟩ ∧ F g ∧ (∀ (j : Nat) (u : Value), (e.cells (.slice mo e.ms.length cap))[j]? = some u → w.cell? ⟨g, off + i * 6 + j, none⟩ = some u) ∧ InF F w mo e.ms ∧ e.ms.length ≤ 1000000
theorem EsR.kp {F D : Nat → Prop} {w w' : World} {ao : Option Addr} {es : List En} (h : EsR F w ao es) (hk : Kp D w w') (hd : ∀ k, F k → ¬ D k) : EsR F w' ao es := fun i e hi => by
  obtain ⟨g, off, mo, cap, h1, h2, h3, h4, h5⟩ := h i e hi
  exact ⟨g, off, mo, cap, h1, h2, fun j u hj => hk.cell (h3 j u hj) (hd _ h2), h4.kp hk hd, h5⟩
theorem EsR.below {F : Nat → Prop} {w w' : World} {ao : Option Addr} {es : List En} (h : EsR F w ao es) (hb : Below w.heap.size w w') : EsR F w' ao es := h.kp (D := fun _ => False) (Kp.of_below hb) (fun _ _ x => x)
theorem EsR.mono {F G : Nat → Prop} {w : World} {ao : Option Addr} {es : List En} (h : EsR F w ao es) (hg : ∀ k, F k → G k) : EsR G w ao es := fun i e hi => by
  obtain ⟨g, off, mo, cap, h1, h2, h3, h4, h5⟩ := h i e hi
  exact ⟨g, off, mo, cap, h1, hg _ h2, h3, h4.mono hg, h5⟩
theorem EsR.nil (F : Nat → Prop) (w : World) (ao : Option Addr) : EsR F w ao [] := fun i e hi => by simp at hi
/-- the six cells of an entry. -/
theorem En.six {w : World} {g n : Nat} {e : En} {mv : Value} (h : ∀ (j : Nat) (u : Value), (e.cells mv)[j]? = some u → w.cell? ⟨g, n + j, none⟩ = some u) :
    w.cell? ⟨g, n, none⟩ = some (.int .i64 e.kind) ∧ w.cell? ⟨g, n + 1, none⟩ = some (.int .i64 e.client) ∧ w.cell? ⟨g, n + 2, none⟩ = some (.int .i64 e.seq) ∧ w.cell? ⟨g, n + 3, none⟩ = some (.string e.text) ∧ w.cell? ⟨g, n + 4, none⟩ = some mv ∧ w.cell? ⟨g, n + 5, none⟩ = some (.int .i64 e.dest) :=
  ⟨h 0 _ rfl, h 1 _ rfl, h 2 _ rfl, h 3 _ rfl, h 4 _ rfl, h 5 _ rfl⟩
theorem EsR.at {F : Nat → Prop} {w : World} {ao : Option Addr} {es : List En} (h : EsR F w ao es) {k : Nat} {e : En} (he : es[k]? = some e) :
    ∃ g off mo cap, ao = some ⟨g, off, none⟩ ∧ w.cell? ⟨g, off + k * 6, none⟩ = some (.int .i64 e.kind) ∧ w.cell? ⟨g, off + k * 6 + 1, none⟩ = some (.int .i64 e.client) ∧ w.cell? ⟨g, off + k * 6 + 2, none⟩ = some (.int .i64 e.seq) ∧ w.cell? ⟨g, off + k * 6 + 3, none⟩ = some (.string e.text) ∧ w.cell? ⟨g, off + k * 6 + 4, none⟩ = some (.slice mo e.ms.length cap) ∧ w.cell? ⟨g, off + k * 6 + 5, none⟩ = some (.int .i64 e.dest) ∧ InF F w mo e.ms ∧ e.ms.length ≤ 1000000 := by
  obtain ⟨g, off, mo, cap, h1, h2, h3, h4, h5⟩ := h k e he
  obtain ⟨k0, k1, k2, k3, k4, k5⟩ := En.six h3
  exact ⟨g, off, mo, cap, h1, k0, k1, k2, k3, k4, k5, h4, h5⟩

/-! ### rows of a log -/
abbrev Rw := Int × En
def rwCells (r : Rw) (mv : Value) : List Value := .int .i64 r.1 :: r.2.cells mv
def RRow (D : Nat → Prop) (w : World) (rv : Value) (rs : List Rw) : Prop :=
  ∃ xs, w.ownsRow 0 79 7 rv rs.length xs ∧ (∀ k, rv.ownBlock = some k → D k) ∧
    ∀ (i : Nat) (r : Rw), rs[i]? = some r → ∃ mv, (∀ (j : Nat) (u : Value), (rwCells r mv)[j]? = some u → xs[i * 7 + j]? = some u) ∧ Ir 0 w mv r.2.ms ∧ (∀ k, mv.ownBlock = some k → D k) ∧ r.2.ms.length ≤ 1000000
structure Hs (D : Nat → Prop) (w : World) (p : Nat) (b : Int) (rs : List Rw) : Prop where
  box : ∃ rv, w.heap[p]? = some (.cells #[.int .i64 b, rv] 73 (0, 0)) ∧ RRow D w rv rs
  own : D p
  lt : ∀ k, D k → k < w.heap.size
theorem RRow.kp {D E : Nat → Prop} {w w' : World} {rv : Value} {rs : List Rw} (h : RRow D w rv rs) (hk : Kp E w w') (hd : ∀ k, D k → ¬ E k) : RRow D w' rv rs := by
  obtain ⟨xs, h1, h2, h3⟩ := h
  refine ⟨xs, Kept.own hk h1 (fun k e => hd k (h2 k e)), h2, fun i r hi => ?_⟩
  obtain ⟨mv, k1, k2, k3, k4⟩ := h3 i r hi
  exact ⟨mv, k1, k2.kp hk (fun k e => hd k (k3 k e)), k3, k4⟩
theorem RRow.mono {D E : Nat → Prop} {w : World} {rv : Value} {rs : List Rw} (h : RRow D w rv rs) (hd : ∀ k, D k → E k) : RRow E w rv rs := by
  obtain ⟨xs, h1, h2, h3⟩ := h
  refine ⟨xs, h1, fun k e => hd k (h2 k e), fun i r hi => ?_⟩
  obtain ⟨mv, k1, k2, k3, k4⟩ := h3 i r hi
  exact ⟨mv, k1, k2, fun k e => hd k (k3 k e), k4⟩
theorem Hs.kp {D E : Nat → Prop} {w w' : World} {p : Nat} {b : Int} {rs : List Rw} (h : Hs D w p b rs) (hk : Kp E w w') (hd : ∀ k, D k → ¬ E k) : Hs D w' p b rs := by
  obtain ⟨⟨rv, h1, h2⟩, h3, h4⟩ := h
  exact ⟨⟨rv, hk.block h1 (hd p h3), h2.kp hk hd⟩, h3, fun k x => Nat.lt_of_lt_of_le (h4 k x) hk.size⟩
theorem Hs.below {D : Nat → Prop} {w w' : World} {p : Nat} {b : Int} {rs : List Rw} (h : Hs D w p b rs) (hb : Below w.heap.size w w') : Hs D w' p b rs := h.kp (E := fun _ => False) (Kp.of_below hb) (fun _ _ x => x)
theorem RRow.nil (D : Nat → Prop) (w : World) : RRow D w (.slice none 0 0) [] := ⟨[], ⟨rfl, Or.inl ⟨rfl, rfl⟩⟩, fun k e => by simp [Value.ownBlock] at e, fun i r hi => by simp at hi⟩
/-- the rows as a slice. -/
theorem RRow.slice {D : Nat → Prop} {w : World} {rv : Value} {rs : List Rw} (h : RRow D w rv rs) : ∃ ao cap, rv = .slice ao rs.length cap ∧ rs.length ≤ cap ∧ cap ≤ maxLen ∧ (ao = none → rs = [] ∧ cap = 0) := by
  obtain ⟨xs, h1, _, _⟩ := h
  rcases h1.2 with ⟨e1, e2⟩ | ⟨g, cap, cur, e1, _, _, e3, e4, _⟩
  · exact ⟨none, 0, by rw [e2]; exact e1, by omega, by decide, fun _ => ⟨List.eq_nil_of_length_eq_zero e2, rfl⟩⟩
  · exact ⟨_, cap, e1, e3, e4, fun e => by cases e⟩
/-- one row's cells. -/
theorem RRow.at {D : Nat → Prop} {w : World} {ao : Option Addr} {n cap : Nat} {rs : List Rw} (h : RRow D w (.slice ao n cap) rs) {i : Nat} {r : Rw} (hi : rs[i]? = some r) :
    ∃ g mo mc, ao = some ⟨g, 0, none⟩ ∧ D g ∧ (∀ (j : Nat) (u : Value), (rwCells r (.slice mo r.2.ms.length mc))[j]? = some u → w.cell? ⟨g, i * 7 + j, none⟩ = some u) ∧ Ir 0 w (.slice mo r.2.ms.length mc) r.2.ms ∧ (∀ k, (Value.slice mo r.2.ms.length mc).ownBlock = some k → D k) ∧ r.2.ms.length ≤ 1000000 := by
  obtain ⟨xs, h1, h2, h3⟩ := h
  obtain ⟨mv, k1, k2, k3, k4⟩ := h3 i r hi
  obtain ⟨mo, mc, rfl, _⟩ := k2.slice
  rcases h1.2 with ⟨e1, e2⟩ | ⟨g, cap', cur, e1, _⟩
  · have := (List.getElem?_eq_some_iff.1 hi).1; omega
  · cases e1
    refine ⟨g, mo, mc, rfl, h2 g rfl, fun j u hj => ?_, k2, k3, k4⟩
    have := World.ownsRow.cells h1 (g := g) rfl (i * 7 + j) u (k1 j u hj)
    rwa [Addr.add_lit, Nat.zero_add] at this
theorem En.seven {w : World} {g n : Nat} {r : Rw} {mv : Value} (h : ∀ (j : Nat) (u : Value), (rwCells r mv)[j]? = some u → w.cell? ⟨g, n + j, none⟩ = some u) :
    w.cell? ⟨g, n, none⟩ = some (.int .i64 r.1) ∧ w.cell? ⟨g, n + 1, none⟩ = some (.int .i64 r.2.kind) ∧ w.cell? ⟨g, n + 2, none⟩ = some (.int .i64 r.2.client) ∧ w.cell? ⟨g, n + 3, none⟩ = some (.int .i64 r.2.seq) ∧ w.cell? ⟨g, n + 4, none⟩ = some (.string r.2.text) ∧ w.cell? ⟨g, n + 5, none⟩ = some mv ∧ w.cell? ⟨g, n + 6, none⟩ = some (.int .i64 r.2.dest) :=
  ⟨h 0 _ rfl, h 1 _ rfl, h 2 _ rfl, h 3 _ rfl, h 4 _ rfl, h 5 _ rfl, h 6 _ rfl⟩
end Go.Proofs.Ytmgdkbpbmngibaa
