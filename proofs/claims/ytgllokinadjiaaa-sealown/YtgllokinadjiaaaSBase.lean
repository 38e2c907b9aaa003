/- Generations in memory: what is kept, rows of generations. -/
import Derived.Test.YtgllokinadjiaaaKRow
import Derived.Deep.RegionLaw
import Derived.Deep.RegionHeld3
import Derived.Deep.DrawnRows
namespace Go.Proofs.Ytgllokinadjiaaa
open Go.RowKit Go.Maps

theorem heap_lt {w : World} {k : Nat} {o : Obj} (h : w.heap[k]? = some o) : k < w.heap.size := by
  by_cases hh : k < w.heap.size
  · exact hh
  · rw [Array.getElem?_eq_none (by omega)] at h; cases h
theorem cell_of_block {w : World} {p i : Nat} {cs : Array Value} {t : TypeId} {fr : Nat × Nat} (h : w.heap[p]? = some (.cells cs t fr)) : w.cell? ⟨p, i, none⟩ = cs[i]? := by
  simp [World.cell?, h]
theorem free_of_block {w : World} {p i : Nat} {cs : Array Value} {t : TypeId} (h : w.heap[p]? = some (.cells cs t (0, 0))) : w.frozen? ⟨p, i, none⟩ = false := by
  simp [World.frozen?, h]
theorem setCell_block {w : World} {p i : Nat} {u : Value} {cs : Array Value} {t : TypeId} {fr : Nat × Nat} (h : w.heap[p]? = some (.cells cs t fr)) : (w.setCell ⟨p, i, none⟩ u).heap[p]? = some (.cells (cs.setIfInBounds i u) t fr) := by
  simp [World.setCell, Array.getElem?_modify, h]
theorem Below.stay {w w' : World} (h : Below w.heap.size w w') {k : Nat} {o : Obj} (hk : w.heap[k]? = some o) : w'.heap[k]? = some o := (h.block k (heap_lt hk)).trans hk
theorem below_far {w w1 w2 : World} (h : Below w.heap.size w w1) (k : Below w1.heap.size w1 w2) : Below w.heap.size w w2 := h.trans (k.mono h.size)
theorem box_at (w : World) (o : Obj) : (w.alloc o).heap[w.heap.size]? = some o := heap_alloc_new _ _

/-! ### all but some blocks are kept -/
def Kp (D : Nat → Prop) (w w' : World) : Prop := Kept 0 D w w'
theorem Kp.refl (D : Nat → Prop) (w : World) : Kp D w w := Kept.refl _ _ _
theorem Kp.of_below {D : Nat → Prop} {w w' : World} (h : Below w.heap.size w w') : Kp D w w' := Kept.of_below h (Nat.zero_le _)
theorem Kp.size {D : Nat → Prop} {w w' : World} (h : Kp D w w') : w.heap.size ≤ w'.heap.size := Kept.size h
theorem Kp.trans {D E : Nat → Prop} {a b c : World} (h : Kp D a b) (k : Kp E b c) (he : ∀ j, j < a.heap.size → E j → D j) : Kp D a c := Kept.trans h k he
theorem Kp.mono {D E : Nat → Prop} {a b : World} (h : Kp D a b) (he : ∀ j, j < a.heap.size → D j → E j) : Kp E a b := Kept.mono h (Nat.le_refl _) he
theorem Kp.far {D : Nat → Prop} {a b c : World} (h : Kp D a b) (k : Below b.heap.size b c) : Kp D a c := h.trans (E := fun _ => False) (Kp.of_below k) (fun _ _ x => x.elim)
theorem Kp.block {D : Nat → Prop} {w w' : World} (h : Kp D w w') {k : Nat} {o : Obj} (hk : w.heap[k]? = some o) (hd : ¬ D k) : w'.heap[k]? = some o := (h.2 k (heap_lt hk) hd).trans hk
theorem Kp.cell {D : Nat → Prop} {w w' : World} (h : Kp D w w') {a : Addr} {u : Value} (ha : w.cell? a = some u) (hd : ¬ D a.block) : w'.cell? a = some u := by
  rw [World.cell?_of_block (w := w) (h.2 a.block (blk_lt ha) hd)]; exact ha
theorem Kp.below {D : Nat → Prop} {w w' : World} (h : Kp D w w') {base : Nat} (hd : ∀ k, D k → base ≤ k) (hb : base ≤ w.heap.size) : Below base w w' :=
  ⟨h.1.os, h.1.tape, h.1.output, h.1.size, fun k hk => h.2 k (by omega) (fun x => by have := hd k x; omega)⟩
theorem Kp.setCell {D : Nat → Prop} {a w : World} (h : Kp D a w) {p : Addr} (hf : D p.block) (u : Value) : Kp D a (w.setCell p u) := Kept.setCell h (Nat.zero_le _) hf u
theorem Kp.alloc {D : Nat → Prop} {a w : World} (h : Kp D a w) (o : Obj) : Kp D a (w.alloc o) := Kept.alloc h (Nat.zero_le _) o
theorem Kp.drew {D : Nat → Prop} {a w : World} (h : Kp D a w) : Kp D a w.drew := Kept.drew h
theorem Kp.grown {D : Nat → Prop} {a w w' : World} {row : Option Nat} (h : Kp D a w) (hg : w.grownBy w' row) (hr : ∀ k, k < a.heap.size → row = some k → D k) : Kp D a w' :=
  h.trans (E := fun k => row = some k) ⟨⟨hg.os, hg.tape, hg.output, hg.size, fun k hk => by omega⟩, fun k hk hn => hg.block k hk (fun e => hn e.symm)⟩ hr
/-- new blocks are nobody's. -/
def News (D : Nat → Prop) (w w' : World) (k : Nat) : Prop := D k ∨ (w.heap.size ≤ k ∧ k < w'.heap.size)

/-! ### numbers that lie in some blocks -/
def InF (F : Nat → Prop) (w : World) (ao : Option Addr) (ys : List Int) : Prop := ∀ i, i < ys.length → ∃ a, ao = some a ∧ F a.block ∧ w.cell? (a.add i) = some (.int .i64 (ys.getD i 0))
theorem InF.ints {F : Nat → Prop} {w : World} {ao : Option Addr} {ys : List Int} (h : InF F w ao ys) : IntsR w ao ys := fun i hi => by
  obtain ⟨a, h1, _, h3⟩ := h i hi
  exact ⟨a, h1, h3⟩
theorem InF.kp {F D : Nat → Prop} {w w' : World} {ao : Option Addr} {ys : List Int} (h : InF F w ao ys) (hk : Kp D w w') (hd : ∀ k, F k → ¬ D k) : InF F w' ao ys := fun i hi => by
  obtain ⟨a, h1, h2, h3⟩ := h i hi
  exact ⟨a, h1, h2, hk.cell h3 (by rw [add_block]; exact hd _ h2)⟩
theorem InF.below {F : Nat → Prop} {w w' : World} {ao : Option Addr} {ys : List Int} (h : InF F w ao ys) (hb : Below w.heap.size w w') : InF F w' ao ys := h.kp (D := fun _ => False) (Kp.of_below hb) (fun _ _ x => x)
theorem InF.mono {F G : Nat → Prop} {w : World} {ao : Option Addr} {ys : List Int} (h : InF F w ao ys) (hg : ∀ k, F k → G k) : InF G w ao ys := fun i hi => by
  obtain ⟨a, h1, h2, h3⟩ := h i hi
  exact ⟨a, h1, hg _ h2, h3⟩
theorem IntsR.inF {w : World} {ao : Option Addr} {ys : List Int} (h : IntsR w ao ys) : InF (fun k => k < w.heap.size) w ao ys := fun i hi => by
  obtain ⟨a, h1, h2⟩ := h i hi
  exact ⟨a, h1, by have := blk_lt h2; rwa [add_block] at this, h2⟩
theorem InF.nil (F : Nat → Prop) (w : World) (ao : Option Addr) : InF F w ao [] := fun i hi => by simp at hi
theorem Ir.inF {base : Nat} {w : World} {ao : Option Addr} {n c : Nat} {ys : List Int} (h : Ir base w (.slice ao n c) ys) : InF (fun k => (Value.slice ao n c).ownBlock = some k) w ao ys := fun i hi => by
  obtain ⟨ao', cap, e, hf, _⟩ := h.slice
  cases e
  obtain ⟨a, rfl, h2⟩ := hf.1 i hi
  exact ⟨a, rfl, rfl, h2⟩
theorem Ir.kp {base : Nat} {D : Nat → Prop} {w w' : World} {v : Value} {ys : List Int} (h : Ir base w v ys) (hk : Kp D w w') (hd : ∀ k, v.ownBlock = some k → ¬ D k) : Ir base w' v ys := Kept.own hk h hd
theorem Ir.zero {base : Nat} {w : World} {v : Value} {ys : List Int} (h : Ir base w v ys) : Ir 0 w v ys := by
  refine ⟨h.1, ?_⟩
  rcases h.2 with e | ⟨g, cap, cur, e1, e2, e3⟩
  · exact Or.inl e
  · exact Or.inr ⟨g, cap, cur, e1, Nat.zero_le _, e3⟩

/-! ### generations -/
structure Gn where
  n : Int
  eng : Int
  base : Int
  ms : List Int
def Gn.cells (g : Gn) (mv : Value) : List Value := [.int .i64 g.n, .int .i64 g.eng, .int .i64 g.base, .slice none 0 0, mv]
theorem Gn.cells_len (g : Gn) (mv : Value) : (g.cells mv).length = 5 := rfl
theorem Gn.cells_one (g : Gn) {mv : Value} (h : mv.oneCell' = true) : ∀ u ∈ g.cells mv, u.oneCell' = true := fun u hu => by
  simp only [Gn.cells, List.mem_cons, List.not_mem_nil, or_false] at hu
  rcases hu with rfl | rfl | rfl | rfl | rfl
  · rfl
  · rfl
  · rfl
  · rfl
  · exact h
/-- the five cells of a generation. -/
theorem Gn.five {w : World} {b n : Nat} {g : Gn} {mv : Value} (h : ∀ (j : Nat) (u : Value), (g.cells mv)[j]? = some u → w.cell? ⟨b, n + j, none⟩ = some u) :
    w.cell? ⟨b, n, none⟩ = some (.int .i64 g.n) ∧ w.cell? ⟨b, n + 1, none⟩ = some (.int .i64 g.eng) ∧ w.cell? ⟨b, n + 2, none⟩ = some (.int .i64 g.base) ∧ w.cell? ⟨b, n + 3, none⟩ = some (.slice none 0 0) ∧ w.cell? ⟨b, n + 4, none⟩ = some mv :=
  ⟨h 0 _ rfl, h 1 _ rfl, h 2 _ rfl, h 3 _ rfl, h 4 _ rfl⟩
/-- a row of generations, all in some blocks. -/
def GRow (D : Nat → Prop) (w : World) (rv : Value) (gs : List Gn) : Prop :=
  ∃ xs, w.ownsRow 0 32 5 rv gs.length xs ∧ (∀ k, rv.ownBlock = some k → D k) ∧
    ∀ (i : Nat) (g : Gn), gs[i]? = some g → ∃ mv, (∀ (j : Nat) (u : Value), (g.cells mv)[j]? = some u → xs[i * 5 + j]? = some u) ∧ Ir 0 w mv g.ms ∧ (∀ k, mv.ownBlock = some k → D k) ∧ g.ms.length ≤ 1000000
/-- generations at a block, all their memory within D. -/
structure Gs (D : Nat → Prop) (w : World) (p : Nat) (gs : List Gn) : Prop where
  box : ∃ rv, w.heap[p]? = some (.cells #[rv] 55 (0, 0)) ∧ GRow D w rv gs
  own : D p
  lt : ∀ k, D k → k < w.heap.size
theorem GRow.kp {D E : Nat → Prop} {w w' : World} {rv : Value} {gs : List Gn} (h : GRow D w rv gs) (hk : Kp E w w') (hd : ∀ k, D k → ¬ E k) : GRow D w' rv gs := by
  obtain ⟨xs, h1, h2, h3⟩ := h
  refine ⟨xs, Kept.own hk h1 (fun k e => hd k (h2 k e)), h2, fun i r hi => ?_⟩
  obtain ⟨mv, k1, k2, k3, k4⟩ := h3 i r hi
  exact ⟨mv, k1, k2.kp hk (fun k e => hd k (k3 k e)), k3, k4⟩
theorem GRow.below {D : Nat → Prop} {w w' : World} {rv : Value} {gs : List Gn} (h : GRow D w rv gs) (hb : Below w.heap.size w w') : GRow D w' rv gs := h.kp (E := fun _ => False) (Kp.of_below hb) (fun _ _ x => x)
theorem GRow.mono {D E : Nat → Prop} {w : World} {rv : Value} {gs : List Gn} (h : GRow D w rv gs) (hd : ∀ k, D k → E k) : GRow E w rv gs := by
  obtain ⟨xs, h1, h2, h3⟩ := h
  refine ⟨xs, h1, fun k e => hd k (h2 k e), fun i r hi => ?_⟩
  obtain ⟨mv, k1, k2, k3, k4⟩ := h3 i r hi
  exact ⟨mv, k1, k2, fun k e => hd k (k3 k e), k4⟩
theorem Gs.kp {D E : Nat → Prop} {w w' : World} {p : Nat} {gs : List Gn} (h : Gs D w p gs) (hk : Kp E w w') (hd : ∀ k, D k → ¬ E k) : Gs D w' p gs := by
  obtain ⟨⟨rv, h1, h2⟩, h3, h4⟩ := h
  exact ⟨⟨rv, hk.block h1 (hd p h3), h2.kp hk hd⟩, h3, fun k x => Nat.lt_of_lt_of_le (h4 k x) hk.size⟩
theorem Gs.below {D : Nat → Prop} {w w' : World} {p : Nat} {gs : List Gn} (h : Gs D w p gs) (hb : Below w.heap.size w w') : Gs D w' p gs := h.kp (E := fun _ => False) (Kp.of_below hb) (fun _ _ x => x)
theorem GRow.nil (D : Nat → Prop) (w : World) : GRow D w (.slice none 0 0) [] := ⟨[], ⟨rfl, Or.inl ⟨rfl, rfl⟩⟩, fun k e => by simp [Value.ownBlock] at e, fun i r hi => by simp at hi⟩
theorem GRow.slice {D : Nat → Prop} {w : World} {rv : Value} {gs : List Gn} (h : GRow D w rv gs) : ∃ ao cap, rv = .slice ao gs.length cap ∧ gs.length ≤ cap ∧ cap ≤ maxLen ∧ (ao = none → gs = [] ∧ cap = 0) := by
  obtain ⟨xs, h1, _, _⟩ := h
  rcases h1.2 with ⟨e1, e2⟩ | ⟨g, cap, cur, e1, _, _, e3, e4, _⟩
  · exact ⟨none, 0, by rw [e2]; exact e1, by omega, by decide, fun _ => ⟨List.eq_nil_of_length_eq_zero e2, rfl⟩⟩
  · exact ⟨_, cap, e1, e3, e4, fun e => by cases e⟩
theorem GRow.at {D : Nat → Prop} {w : World} {ao : Option Addr} {n cap : Nat} {gs : List Gn} (h : GRow D w (.slice ao n cap) gs) {i : Nat} {g : Gn} (hi : gs[i]? = some g) :
    ∃ b mo mc, ao = some ⟨b, 0, none⟩ ∧ D b ∧ w.cell? ⟨b, i * 5, none⟩ = some (.int .i64 g.n) ∧ w.cell? ⟨b, i * 5 + 1, none⟩ = some (.int .i64 g.eng) ∧ w.cell? ⟨b, i * 5 + 2, none⟩ = some (.int .i64 g.base) ∧ w.cell? ⟨b, i * 5 + 3, none⟩ = some (.slice none 0 0) ∧ w.cell? ⟨b, i * 5 + 4, none⟩ = some (.slice mo g.ms.length mc) ∧
      Ir 0 w (.slice mo g.ms.length mc) g.ms ∧ (∀ k, (Value.slice mo g.ms.length mc).ownBlock = some k → D k) ∧ g.ms.length ≤ 1000000 := by
  obtain ⟨xs, h1, h2, h3⟩ := h
  obtain ⟨mv, k1, k2, k3, k4⟩ := h3 i g hi
  obtain ⟨mo, mc, rfl, _⟩ := k2.slice
  rcases h1.2 with ⟨e1, e2⟩ | ⟨b, cap', cur, e1, _⟩
  · have := (List.getElem?_eq_some_iff.1 hi).1; omega
  · cases e1
    have hc : ∀ (j : Nat) (u : Value), (g.cells (.slice mo g.ms.length mc))[j]? = some u → w.cell? ⟨b, i * 5 + j, none⟩ = some u := fun j u hj => by
      have := World.ownsRow.cells h1 (g := b) rfl (i * 5 + j) u (k1 j u hj)
      rwa [Addr.add_lit, Nat.zero_add] at this
    obtain ⟨c0, c1, c2, c3, c4⟩ := Gn.five hc
    exact ⟨b, mo, mc, rfl, h2 b rfl, c0, c1, c2, c3, c4, k2, k3, k4⟩
theorem GRow.tag {D : Nat → Prop} {w : World} {v : Value} {gs : List Gn} (h : GRow D w v gs) : ∀ k, v.ownBlock = some k → D k ∧ ∃ cur fr, w.heap[k]? = some (.cells cur 32 fr) := fun k hk => by
  obtain ⟨xs, h1, h2, _⟩ := h
  exact ⟨h2 k hk, (own_tag h1 k hk).2⟩
theorem News.sub {D : Nat → Prop} {a b c : World} (hb : a.heap.size ≤ b.heap.size) (hc : b.heap.size ≤ c.heap.size) {k : Nat} (h : News (News D a b) b c k) : News D a c k := by
  rcases h with (h | h) | h
  · exact Or.inl h
  · exact Or.inr ⟨h.1, by omega⟩
  · exact Or.inr ⟨by omega, h.2⟩
theorem Ir.more {a c : Nat} {w : World} {v : Value} {ys : List Int} (h : Ir a w v ys) (hc : c ≤ a) : Ir c w v ys := by
  refine ⟨h.1, ?_⟩
  rcases h.2 with e | ⟨g, cap, cur, e1, e2, e3⟩
  · exact Or.inl e
  · exact Or.inr ⟨g, cap, cur, e1, Nat.le_trans hc e2, e3⟩
theorem Ir.other {base B : Nat} {y W : World} {v : Value} {ys : List Int} (h : Ir base y v ys) (hk : ∀ k, k ≠ B → W.heap[k]? = y.heap[k]?) {cs : Array Value} {t : TypeId} {fr : Nat × Nat} (hB : y.heap[B]? = some (.cells cs t fr)) (ht : t ≠ 3) : Ir base W v ys :=
  own_kept h fun k e => hk k (fun x => by
    subst x
    obtain ⟨_, cur, fr', hc⟩ := own_tag h k e
    rw [hB] at hc; cases hc; exact ht rfl)
theorem Ir.oneCell {base : Nat} {w : World} {v : Value} {ys : List Int} (h : Ir base w v ys) : v.oneCell' = true := by
  obtain ⟨ao, cap, rfl, _⟩ := h.slice; rfl
theorem Ir.grow {base : Nat} {w w' : World} {mv v : Value} {ys : List Int} {e : TypeId} {size n : Nat} {xs : List Value} (h : Ir base w mv ys) (ho : w.ownsRow 0 e size v n xs) (he : e ≠ 3) (hg : w.grownBy w' v.ownBlock) : Ir base w' mv ys :=
  own_kept h fun k hk => hg.block k (h.lt k hk).2 (fun x => by
    obtain ⟨_, cur, fr, hc⟩ := own_tag ho k x.symm
    obtain ⟨_, cur', fr', hc'⟩ := own_tag h k hk
    rw [hc] at hc'; cases hc'; exact he rfl)
/-- a store of a whole generation. -/
theorem five_end {w y : World} {B : Nat} {v0 v1 v2 v3 v4 : Value} {z0 z1 z2 z3 z4 : Value} {t : TypeId} (hz : y.heap[B]? = some (.cells #[z0, z1, z2, z3, z4] t (0, 0))) (hB : w.heap.size ≤ B) (hb : Below w.heap.size w y) (W : World)
    (hW : W = (((((y.setCell ⟨B, 0, none⟩ v0).setCell ⟨B, 1, none⟩ v1).setCell ⟨B, 2, none⟩ v2).setCell ⟨B, 3, none⟩ v3).setCell ⟨B, 4, none⟩ v4)) : W.heap[B]? = some (.cells #[v0, v1, v2, v3, v4] t (0, 0)) ∧ Below w.heap.size w W ∧ ∀ k, k ≠ B → W.heap[k]? = y.heap[k]? := by
  obtain ⟨y0, e0⟩ : ∃ x, (y.setCell ⟨B, 0, none⟩ v0) = x := ⟨_, rfl⟩
  have h0 : y0.heap[B]? = some (.cells #[v0, z1, z2, z3, z4] t (0, 0)) := by rw [← e0]; exact setCell_block hz
  have b0 : Below w.heap.size w y0 := by rw [← e0]; exact hb.setCell (p := ⟨B, 0, none⟩) hB v0
  have k0 : ∀ k, k ≠ B → y0.heap[k]? = y.heap[k]? := fun k hk => by rw [← e0, Below.heap_setCell _ _ _ k hk]
  obtain ⟨y1, e1⟩ : ∃ x, (y0.setCell ⟨B, 1, none⟩ v1) = x := ⟨_, rfl⟩
  have h1 : y1.heap[B]? = some (.cells #[v0, v1, z2, z3, z4] t (0, 0)) := by rw [← e1]; exact setCell_block h0
  have b1 : Below w.heap.size w y1 := by rw [← e1]; exact b0.setCell (p := ⟨B, 1, none⟩) hB v1
  have k1 : ∀ k, k ≠ B → y1.heap[k]? = y.heap[k]? := fun k hk => by rw [← e1, Below.heap_setCell _ _ _ k hk]; exact k0 k hk
  obtain ⟨y2, e2⟩ : ∃ x, (y1.setCell ⟨B, 2, none⟩ v2) = x := ⟨_, rfl⟩
  have h2 : y2.heap[B]? = some (.cells #[v0, v1, v2, z3, z4] t (0, 0)) := by rw [← e2]; exact setCell_block h1
  have b2 : Below w.heap.size w y2 := by rw [← e2]; exact b1.setCell (p := ⟨B, 2, none⟩) hB v2
  have k2 : ∀ k, k ≠ B → y2.heap[k]? = y.heap[k]? := fun k hk => by rw [← e2, Below.heap_setCell _ _ _ k hk]; exact k1 k hk
  obtain ⟨y3, e3⟩ : ∃ x, (y2.setCell ⟨B, 3, none⟩ v3) = x := ⟨_, rfl⟩
  have h3 : y3.heap[B]? = some (.cells #[v0, v1, v2, v3, z4] t (0, 0)) := by rw [← e3]; exact setCell_block h2
  have b3 : Below w.heap.size w y3 := by rw [← e3]; exact b2.setCell (p := ⟨B, 3, none⟩) hB v3
  have k3 : ∀ k, k ≠ B → y3.heap[k]? = y.heap[k]? := fun k hk => by rw [← e3, Below.heap_setCell _ _ _ k hk]; exact k2 k hk
  obtain ⟨y4, e4⟩ : ∃ x, (y3.setCell ⟨B, 4, none⟩ v4) = x := ⟨_, rfl⟩
  have h4 : y4.heap[B]? = some (.cells #[v0, v1, v2, v3, v4] t (0, 0)) := by rw [← e4]; exact setCell_block h3
  have b4 : Below w.heap.size w y4 := by rw [← e4]; exact b3.setCell (p := ⟨B, 4, none⟩) hB v4
  have k4 : ∀ k, k ≠ B → y4.heap[k]? = y.heap[k]? := fun k hk => by rw [← e4, Below.heap_setCell _ _ _ k hk]; exact k3 k hk
  rw [e0, e1, e2, e3, e4] at hW
  subst hW
  exact ⟨h4, b4, k4⟩
end Go.Proofs.Ytgllokinadjiaaa
