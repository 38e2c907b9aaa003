/- Tables in memory: what is kept, entries, rows of entries. -/
import Derived.Test.YtndpkpkijfplaaaKRow
import Derived.Deep.RegionLaw
import Derived.Deep.RegionHeld3
import Derived.Deep.DrawnRows
namespace Go.Proofs.Ytndpkpkijfplaaa
open Go.RowKit Go.Maps

theorem heap_lt {w : World} {k : Nat} {o : Obj} (h : w.heap[k]? = some o) : k < w.heap.size := by
  by_cases hh : k < w.heap.size
  · exact hh
  · rw [Array.getElem?_eq_none (by omega)] at h; cases h
theorem cell_of_block {w : World} {p i : Nat} {cs : Array Value} {t : TypeId} {fr : Nat × Nat} (h : w.heap[p]? = some (.cells cs t fr)) : w.cell? ⟨p, i, none⟩ = cs[i]? := by
  simp [World.cell?, h]
theorem free_of_block {w : World} {p i : Nat} {cs : Array Value} {t : TypeId} (h : w.heap[p]? = some (.cells cs t (0, 0))) : w.frozen? ⟨p, i, none⟩ = false := by
  simp [World.frozen?, h]
theorem setCell_block {w : World} {p i : Nat} {u : Value} {cs : Array Value} {t : TypeId} {fr : Nat × Nat} (h : w.heap[p]? = some (.cells cs t fr)) : (w.setCell ⟨p, i, none⟩ u).heap[p]? = some (.cells (cs.setIfInBounds i u) t fr) := by
  simp [World.setCell, Array.getElem?_modify, h]
theorem Below.stay {w w' : World} (h : Below w.heap.size w w') {k : Nat} {o : Obj} (hk : w.heap[k]? = some o) : w'.heap[k]? = some o := (h.block k (heap_lt hk)).trans hk
theorem below_far {w w1 w2 : World} (h : Below w.heap.size w w1) (k : Below w1.heap.size w1 w2) : Below w.heap.size w w2 := h.trans (k.mono h.size)
theorem box_at (w : World) (o : Obj) : (w.alloc o).heap[w.heap.size]? = some o := heap_alloc_new _ _

/-! ### all but some blocks are kept -/
def Kp (D : Nat → Prop) (w w' : World) : Prop := Kept 0 D w w'
theorem Kp.refl (D : Nat → Prop) (w : World) : Kp D w w := Kept.refl _ _ _
theorem Kp.of_below {D : Nat → Prop} {w w' : World} (h : Below w.heap.size w w') : Kp D w w' := Kept.of_below h (Nat.zero_le _)
theorem Kp.size {D : Nat → Prop} {w w' : World} (h : Kp D w w') : w.heap.size ≤ w'.heap.size := Kept.size h
theorem Kp.trans {D E : Nat → Prop} {a b c : World} (h : Kp D a b) (k : Kp E b c) (he : ∀ j, j < a.heap.size → E j → D j) : Kp D a c := Kept.trans h k he
theorem Kp.mono {D E : Nat → Prop} {a b : World} (h : Kp D a b) (he : ∀ j, j < a.heap.size → D j → E j) : Kp E a b := Kept.mono h (Nat.le_refl _) he
theorem Kp.far {D : Nat → Prop} {a b c : World} (h : Kp D a b) (k : Below b.heap.size b c) : Kp D a c := h.trans (E := fun _ => False) (Kp.of_below k) (fun _ _ x => x.elim)
theorem Kp.block {D : Nat → Prop} {w w' : World} (h : Kp D w w') {k : Nat} {o : Obj} (hk : w.heap[k]? = some o) (hd : ¬ D k) : w'.heap[k]? = some o := (h.2 k (heap_lt hk) hd).trans hk
theorem Kp.cell {D : Nat → Prop} {w w' : World} (h : Kp D w w') {a : Addr} {u : Value} (ha : w.cell? a = some u) (hd : ¬ D a.block) : w'.cell? a = some u := by
  rw [World.cell?_of_block (w := w) (h.2 a.block (blk_lt ha) hd)]; exact ha
theorem Kp.below {D : Nat → Prop} {w w' : World} (h : Kp D w w') {base : Nat} (hd : ∀ k, D k → base ≤ k) (hb : base ≤ w.heap.size) : Below base w w' :=
  ⟨h.1.os, h.1.tape, h.1.output, h.1.size, fun k hk => h.2 k (by omega) (fun x => by have := hd k x; omega)⟩
theorem Kp.setCell {D : Nat → Prop} {a w : World} (h : Kp D a w) {p : Addr} (hf : D p.block) (u : Value) : Kp D a (w.setCell p u) := Kept.setCell h (Nat.zero_le _) hf u
theorem Kp.alloc {D : Nat → Prop} {a w : World} (h : Kp D a w) (o : Obj) : Kp D a (w.alloc o) := Kept.alloc h (Nat.zero_le _) o
theorem Kp.drew {D : Nat → Prop} {a w : World} (h : Kp D a w) : Kp D a w.drew := Kept.drew h
theorem Kp.grown {D : Nat → Prop} {a w w' : World} {row : Option Nat} (h : Kp D a w) (hg : w.grownBy w' row) (hr : ∀ k, k < a.heap.size → row = some k → D k) : Kp D a w' :=
  h.trans (E := fun k => row = some k) ⟨⟨hg.os, hg.tape, hg.output, hg.size, fun k hk => by omega⟩, fun k hk hn => hg.block k hk (fun e => hn e.symm)⟩ hr
/-- new blocks are nobody's. -/
def News (D : Nat → Prop) (w w' : World) (k : Nat) : Prop := D k ∨ (w.heap.size ≤ k ∧ k < w'.heap.size)

/-! ### numbers that lie in some blocks -/
def InF (F : Nat → Prop) (w : World) (ao : Option Addr) (ys : List Int) : Prop := ∀ i, i < ys.length → ∃ a, ao = some a ∧ F a.block ∧ w.cell? (a.add i) = some (.int .i64 (ys.getD i 0))
theorem InF.ints {F : Nat → Prop} {w : World} {ao : Option Addr} {ys : List Int} (h : InF F w ao ys) : IntsR w ao ys := fun i hi => by
  obtain ⟨a, h1, _, h3⟩ := h i hi
  exact ⟨a, h1, h3⟩
theorem InF.kp {F D : Nat → Prop} {w w' : World} {ao : Option Addr} {ys : List Int} (h : InF F w ao ys) (hk : Kp D w w') (hd : ∀ k, F k → ¬ D k) : InF F w' ao ys := fun i hi => by
  obtain ⟨a, h1, h2, h3⟩ := h i hi
  exact ⟨a, h1, h2, hk.cell h3 (by rw [add_block]; exact hd _ h2)⟩
theorem InF.below {F : Nat → Prop} {w w' : World} {ao : Option Addr} {ys : List Int} (h : InF F w ao ys) (hb : Below w.heap.size w w') : InF F w' ao ys := h.kp (D := fun _ => False) (Kp.of_below hb) (fun _ _ x => x)
theorem InF.mono {F G : Nat → Prop} {w : World} {ao : Option Addr} {ys : List Int} (h : InF F w ao ys) (hg : ∀ k, F k → G k) : InF G w ao ys := fun i hi => by
  obtain ⟨a, h1, h2, h3⟩ := h i hi
  exact ⟨a, h1, hg _ h2, h3⟩
theorem IntsR.inF {w : World} {ao : Option Addr} {ys : List Int} (h : IntsR w ao ys) : InF (fun k => k < w.heap.size) w ao ys := fun i hi => by
  obtain ⟨a, h1, h2⟩ := h i hi
  exact ⟨a, h1, by have := blk_lt h2; rwa [add_block] at this, h2⟩
theorem InF.nil (F : Nat → Prop) (w : World) (ao : Option Addr) : InF F w ao [] := fun i hi => by simp at hi
theorem Ir.inF {base : Nat} {w : World} {ao : Option Addr} {n c : Nat} {ys : List Int} (h : Ir base w (.slice ao n c) ys) : InF (fun k => (Value.slice ao n c).ownBlock = some k) w ao ys := fun i hi => by
  obtain ⟨ao', cap, e, hf, _⟩ := h.slice
  cases e
  obtain ⟨a, rfl, h2⟩ := hf.1 i hi
  exact ⟨a, rfl, rfl, h2⟩
theorem Ir.kp {base : Nat} {D : Nat → Prop} {w w' : World} {v : Value} {ys : List Int} (h : Ir base w v ys) (hk : Kp D w w') (hd : ∀ k, v.ownBlock = some k → ¬ D k) : Ir base w' v ys := Kept.own hk h hd
theorem Ir.zero {base : Nat} {w : World} {v : Value} {ys : List Int} (h : Ir base w v ys) : Ir 0 w v ys := by
  refine ⟨h.1, ?_⟩
  rcases h.2 with e | ⟨g, cap, cur, e1, e2, e3⟩
  · exact Or.inl e
  · exact Or.inr ⟨g, cap, cur, e1, Nat.zero_le _, e3⟩

/-! ### entries -/
structure En where
  kind : Int
  client : Int
  seq : Int
  text : ByteArray
  ms : List Int
  dest : Int
def En.cells (e : En) (mv : Value) : List Value := [.int .i64 e.kind, .int .i64 e.client, .int .i64 e.seq, .string e.text, mv, .int .i64 e.dest]
theorem En.cells_one (e : En) {mv : Value} (h : mv.oneCell' = true) : ∀ u ∈ e.cells mv, u.oneCell' = true := fun u hu => by
  simp only [En.cells, List.mem_cons, List.not_mem_nil, or_false] at hu
  rcases hu with rfl | rfl | rfl | rfl | rfl | rfl
  · rfl
  · rfl
  · rfl
  · rfl
  · exact h
  · rfl
/-- the six cells of an entry. -/
theorem En.six {w : World} {g n : Nat} {e : En} {mv : Value} (h : ∀ (j : Nat) (u : Value), (e.cells mv)[j]? = some u → w.cell? ⟨g, n + j, none⟩ = some u) :
    w.cell? ⟨g, n, none⟩ = some (.int .i64 e.kind) ∧ w.cell? ⟨g, n + 1, none⟩ = some (.int .i64 e.client) ∧ w.cell? ⟨g, n + 2, none⟩ = some (.int .i64 e.seq) ∧ w.cell? ⟨g, n + 3, none⟩ = some (.string e.text) ∧ w.cell? ⟨g, n + 4, none⟩ = some mv ∧ w.cell? ⟨g, n + 5, none⟩ = some (.int .i64 e.dest) :=
  ⟨h 0 _ rfl, h 1 _ rfl, h 2 _ rfl, h 3 _ rfl, h 4 _ rfl, h 5 _ rfl⟩

/-- a row of entries, all in some blocks. -/
def ERow (D : Nat → Prop) (w : World) (rv : Value) (es : List En) : Prop :=
  ∃ xs, w.ownsRow 0 29 6 rv es.length xs ∧ (∀ k, rv.ownBlock = some k → D k) ∧
    ∀ (i : Nat) (e : En), es[i]? = some e → ∃ mv, (∀ (j : Nat) (u : Value), (e.cells mv)[j]? = some u → xs[i * 6 + j]? = some u) ∧ Ir 0 w mv e.ms ∧ (∀ k, mv.ownBlock = some k → D k) ∧ e.ms.length ≤ 1000000
theorem ERow.kp {D E : Nat → Prop} {w w' : World} {rv : Value} {es : List En} (h : ERow D w rv es) (hk : Kp E w w') (hd : ∀ k, D k → ¬ E k) : ERow D w' rv es := by
  obtain ⟨xs, h1, h2, h3⟩ := h
  refine ⟨xs, Kept.own hk h1 (fun k e => hd k (h2 k e)), h2, fun i r hi => ?_⟩
  obtain ⟨mv, k1, k2, k3, k4⟩ := h3 i r hi
  exact ⟨mv, k1, k2.kp hk (fun k e => hd k (k3 k e)), k3, k4⟩
theorem ERow.below {D : Nat → Prop} {w w' : World} {rv : Value} {es : List En} (h : ERow D w rv es) (hb : Below w.heap.size w w') : ERow D w' rv es := h.kp (E := fun _ => False) (Kp.of_below hb) (fun _ _ x => x)
theorem ERow.mono {D E : Nat → Prop} {w : World} {rv : Value} {es : List En} (h : ERow D w rv es) (hd : ∀ k, D k → E k) : ERow E w rv es := by
  obtain ⟨xs, h1, h2, h3⟩ := h
  refine ⟨xs, h1, fun k e => hd k (h2 k e), fun i r hi => ?_⟩
  obtain ⟨mv, k1, k2, k3, k4⟩ := h3 i r hi
  exact ⟨mv, k1, k2, fun k e => hd k (k3 k e), k4⟩
theorem ERow.nil (D : Nat → Prop) (w : World) : ERow D w (.slice none 0 0) [] := ⟨[], ⟨rfl, Or.inl ⟨rfl, rfl⟩⟩, fun k e => by simp [Value.ownBlock] at e, fun i r hi => by simp at hi⟩
theorem ERow.slice {D : Nat → Prop} {w : World} {rv : Value} {es : List En} (h : ERow D w rv es) : ∃ ao cap, rv = .slice ao es.length cap ∧ es.length ≤ cap ∧ cap ≤ maxLen ∧ (ao = none → es = [] ∧ cap = 0) := by
  obtain ⟨xs, h1, _, _⟩ := h
  rcases h1.2 with ⟨e1, e2⟩ | ⟨g, cap, cur, e1, _, _, e3, e4, _⟩
  · exact ⟨none, 0, by rw [e2]; exact e1, by omega, by decide, fun _ => ⟨List.eq_nil_of_length_eq_zero e2, rfl⟩⟩
  · exact ⟨_, cap, e1, e3, e4, fun e => by cases e⟩
theorem ERow.at {D : Nat → Prop} {w : World} {ao : Option Addr} {n cap : Nat} {es : List En} (h : ERow D w (.slice ao n cap) es) {i : Nat} {e : En} (hi : es[i]? = some e) :
    ∃ b mo mc, ao = some ⟨b, 0, none⟩ ∧ D b ∧ w.cell? ⟨b, i * 6, none⟩ = some (.int .i64 e.kind) ∧ w.cell? ⟨b, i * 6 + 1, none⟩ = some (.int .i64 e.client) ∧ w.cell? ⟨b, i * 6 + 2, none⟩ = some (.int .i64 e.seq) ∧ w.cell? ⟨b, i * 6 + 3, none⟩ = some (.string e.text) ∧ w.cell? ⟨b, i * 6 + 4, none⟩ = some (.slice mo e.ms.length mc) ∧ w.cell? ⟨b, i * 6 + 5, none⟩ = some (.int .i64 e.dest) ∧
      Ir 0 w (.slice mo e.ms.length mc) e.ms ∧ (∀ k, (Value.slice mo e.ms.length mc).ownBlock = some k → D k) ∧ e.ms.length ≤ 1000000 := by
  obtain ⟨xs, h1, h2, h3⟩ := h
  obtain ⟨mv, k1, k2, k3, k4⟩ := h3 i e hi
  obtain ⟨mo, mc, rfl, _⟩ := k2.slice
  rcases h1.2 with ⟨e1, e2⟩ | ⟨b, cap', cur, e1, _⟩
  · have := (List.getElem?_eq_some_iff.1 hi).1; omega
  · cases e1
    have hc : ∀ (j : Nat) (u : Value), (e.cells (.slice mo e.ms.length mc))[j]? = some u → w.cell? ⟨b, i * 6 + j, none⟩ = some u := fun j u hj => by
      have := World.ownsRow.cells h1 (g := b) rfl (i * 6 + j) u (k1 j u hj)
      rwa [Addr.add_lit, Nat.zero_add] at this
    obtain ⟨c0, c1, c2, c3, c4, c5⟩ := En.six hc
    exact ⟨b, mo, mc, rfl, h2 b rfl, c0, c1, c2, c3, c4, c5, k2, k3, k4⟩
theorem ERow.tag {D : Nat → Prop} {w : World} {v : Value} {es : List En} (h : ERow D w v es) : ∀ k, v.ownBlock = some k → D k ∧ ∃ cur fr, w.heap[k]? = some (.cells cur 29 fr) := fun k hk => by
  obtain ⟨xs, h1, h2, _⟩ := h
  exact ⟨h2 k hk, (own_tag h1 k hk).2⟩
theorem News.sub {D : Nat → Prop} {a b c : World} (hb : a.heap.size ≤ b.heap.size) (hc : b.heap.size ≤ c.heap.size) {k : Nat} (h : News (News D a b) b c k) : News D a c k := by
  rcases h with (h | h) | h
  · exact Or.inl h
  · exact Or.inr ⟨h.1, by omega⟩
  · exact Or.inr ⟨by omega, h.2⟩
theorem Ir.more {a c : Nat} {w : World} {v : Value} {ys : List Int} (h : Ir a w v ys) (hc : c ≤ a) : Ir c w v ys := by
  refine ⟨h.1, ?_⟩
  rcases h.2 with e | ⟨g, cap, cur, e1, e2, e3⟩
  · exact Or.inl e
  · exact Or.inr ⟨g, cap, cur, e1, Nat.le_trans hc e2, e3⟩
theorem Ir.other {base B : Nat} {y W : World} {v : Value} {ys : List Int} (h : Ir base y v ys) (hk : ∀ k, k ≠ B → W.heap[k]? = y.heap[k]?) {cs : Array Value} {t : TypeId} {fr : Nat × Nat} (hB : y.heap[B]? = some (.cells cs t fr)) (ht : t ≠ 3) : Ir base W v ys :=
  own_kept h fun k e => hk k (fun x => by
    subst x
    obtain ⟨_, cur, fr', hc⟩ := own_tag h k e
    rw [hB] at hc; cases hc; exact ht rfl)
theorem Ir.oneCell {base : Nat} {w : World} {v : Value} {ys : List Int} (h : Ir base w v ys) : v.oneCell' = true := by
  obtain ⟨ao, cap, rfl, _⟩ := h.slice; rfl
theorem Ir.grow {base : Nat} {w w' : World} {mv v : Value} {ys : List Int} {e : TypeId} {size n : Nat} {xs : List Value} (h : Ir base w mv ys) (ho : w.ownsRow 0 e size v n xs) (he : e ≠ 3) (hg : w.grownBy w' v.ownBlock) : Ir base w' mv ys :=
  own_kept h fun k hk => hg.block k (h.lt k hk).2 (fun x => by
    obtain ⟨_, cur, fr, hc⟩ := own_tag ho k x.symm
    obtain ⟨_, cur', fr', hc'⟩ := own_tag h k hk
    rw [hc] at hc'; cases hc'; exact he rfl)
/-- a store of a whole entry. -/
theorem six_end {w y : World} {B : Nat} {v0 v1 v2 v3 v4 v5 : Value} {z0 z1 z2 z3 z4 z5 : Value} {t : TypeId} (hz : y.heap[B]? = some (.cells #[z0, z1, z2, z3, z4, z5] t (0, 0))) (hB : w.heap.size ≤ B) (hb : Below w.heap.size w y) (W : World)
    (hW : W = ((((((y.setCell ⟨B, 0, none⟩ v0).setCell ⟨B, 1, none⟩ v1).setCell ⟨B, 2, none⟩ v2).setCell ⟨B, 3, none⟩ v3).setCell ⟨B, 4, none⟩ v4).setCell ⟨B, 5, none⟩ v5)) : W.heap[B]? = some (.cells #[v0, v1, v2, v3, v4, v5] t (0, 0)) ∧ Below w.heap.size w W ∧ ∀ k, k ≠ B → W.heap[k]? = y.heap[k]? := by
  refine ⟨?_, ?_, fun k hk => ?_⟩
  · rw [hW]
    exact setCell_block (setCell_block (setCell_block (setCell_block (setCell_block (setCell_block hz)))))
  · rw [hW]
    exact (((((hb.setCell (p := ⟨B, 0, none⟩) hB _).setCell (p := ⟨B, 1, none⟩) hB _).setCell (p := ⟨B, 2, none⟩) hB _).setCell (p := ⟨B, 3, none⟩) hB _).setCell (p := ⟨B, 4, none⟩) hB _).setCell (p := ⟨B, 5, none⟩) hB _
  · rw [hW, Below.heap_setCell _ _ _ k hk, Below.heap_setCell _ _ _ k hk, Below.heap_setCell _ _ _ k hk, Below.heap_setCell _ _ _ k hk, Below.heap_setCell _ _ _ k hk, Below.heap_setCell _ _ _ k hk]
end Go.Proofs.Ytndpkpkijfplaaa
